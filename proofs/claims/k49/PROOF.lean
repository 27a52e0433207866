import PyProof.Rows.All
import Wide.All
import OpenK.AllK
import Wide.FinOn
import PyProof.EqAt
import PyProof.EqKinds
import PyProof.TupleCall
import Lean
import PyProof.Rows.SortRuns
import PySem.Syntax
import PyProof.NeKinds
import PyProof.WalkInts
import KE.KDictList
import PyProof.CompUse
import PyProof.StrWalks
import PyProof.EnumMake
import PyProof.EnumFor
import PyProof.StrCalls2
import PyProof.StrBlock2
import PyProof.StrBlockI
import PyProof.SliceStr2
import PyProof.ConsumeWalk
import PyProof.StrLawsJoin
import KE.KTryMore
import KE.KTryDeep
import OpenK.KOwn
import PyProof.ExcClass3
import KE.KIsAll
import PyProof.ExcArgsOwn
import PyProof.NsDelKeeps
import PyProof.ListRange
import PyProof.DictWalks
import KE.KEqDict
import PyProof.Rows.TupAdd
import PyProof.DictIter
import PyProof.AttrMissHeap
import PyProof.ZipIter
import PyProof.TupleIter
import PyProof.WalksMore
import PyProof.FactsAll.zip
import KE.KDictOf
import PyProof.Conv_int
import PyProof.Conv_int_bool
import PyProof.StrBlockL
import PyProof.MakeMany
import PyProof.MeetsStr2
import PyProof.CallRoads3
import PyProof.Rows.TupIn
import KE.KRevIter
import PyProof.StationsW
import OpenK.KCls
import PyProof.InstStoreFacts
import PySem.Challenge.RW_hookmill_k49_lacking
set_option Elab.async false
set_option maxRecDepth 100000
set_option maxHeartbeats 4000000
noncomputable section
set_option linter.all false
set_option autoImplicit false
set_option genSizeOfSpec false
set_option genInjectivity true
abbrev nDb (x:PySem.Str):Prop := (x==("__debug__" : PySem.Str))=false
abbrev nCd (x:PySem.Str):Prop := (x==("__classdict__" : PySem.Str))=false
section
namespace L2
open PySem PySem.Spec PyProof.Rows
abbrev Key:=Sum Int Str
noncomputable def S7:Key->Value->Bool
 | .inl k,v=>Value.isInt k v
 | .inr x,v=>Value.isStrOf x v
noncomputable def aNd (w:World):Key->Int
 | .inl k=>hashInt k
 | .inr x=>hashStr w x
theorem dG:∀{k:Key} {v:Value},S7 k v=true->(∃i t,k=Sum.inl i/\v=Value.int i t)\/(∃x t,k=Sum.inr x/\v=Value.str x t)
 | .inl i,v,h=>by
  obtain ⟨t,e⟩:=Value.isInt_shape (k:=i) (v:=v) h;exact .inl ⟨i,t,rfl,e⟩
 | .inr x,v,h=>by
  obtain ⟨t,e⟩:=Value.isStrOf_shape (x:=x) (v:=v) h;exact .inr ⟨x,t,rfl,e⟩
theorem V1 (i:Int) (t:Tok):S7 (.inl i) (.int i t)=true:=by simp [S7,Value.isInt]
theorem V2 (x:Str) (t:Tok):S7 (.inr x) (.str x t)=true:=by simp [S7,Value.isStrOf]
theorem aHd (a b:Int):decide ((Sum.inl a:Key)=Sum.inl b)=(a==b):=by
 by_cases e:a=b
 ·subst e;simp
 ·have h:¬(Sum.inl a:Key)=Sum.inl b:=fun q=>e (Sum.inl.inj q)
  rw [decide_eq_false h];exact (beq_eq_false_iff_ne.mpr e).symm
theorem aHe (a b:Str):decide ((Sum.inr a:Key)=Sum.inr b)=decide (a=b):=by
 by_cases e:a=b
 ·subst e;simp
 ·have h:¬(Sum.inr a:Key)=Sum.inr b:=fun q=>e (Sum.inr.inj q)
  rw [decide_eq_false h,decide_eq_false e]
theorem aHf (a:Int) (b:Str):decide ((Sum.inl a:Key)=Sum.inr b)=false:=decide_eq_false (fun q=>nomatch q)
theorem aHg (a:Str) (b:Int):decide ((Sum.inr a:Key)=Sum.inl b)=false:=decide_eq_false (fun q=>nomatch q)
noncomputable def cX (prog:Program) (w:World):PySem.KeyKind prog w Key where
 is:=S7
 hash:=aNd w
 inj:=fun v a b ha hb=>by
  rcases dG ha with ⟨i,t,rfl,rfl⟩|⟨x,t,rfl,rfl⟩
  ·rcases dG hb with ⟨j,u,rfl,e⟩|⟨y,u,rfl,e⟩
   ·injection e with e1 _;rw [e1]
   ·exact nomatch e
  ·rcases dG hb with ⟨j,u,rfl,e⟩|⟨y,u,rfl,e⟩
   ·exact nomatch e
   ·injection e with e1 _;rw [e1]
 byValue:=fun k v h=>by
  rcases dG h with ⟨i,t,rfl,rfl⟩|⟨x,t,rfl,rfl⟩ <;> rfl
 pyHash:=fun hv h=>by
  rcases dG hv with ⟨i,t,rfl,rfl⟩|⟨x,t,rfl,rfl⟩
  ·exact wpAny_pyHash_int h
  ·exact wpAny_pyHash_str h
 eqBool:=fun hu hv h=>by
  rcases dG hu with ⟨i,t,rfl,rfl⟩|⟨x,t,rfl,rfl⟩
  ·rcases dG hv with ⟨j,u,rfl,rfl⟩|⟨y,u,rfl,rfl⟩
   ·rw [aHd] at h;exact wpAny_eqBool_int h
   ·rw [aHf] at h;exact SeqAt.EqAt.int_str i t y u _ _ _ _ h
  ·rcases dG hv with ⟨j,u,rfl,rfl⟩|⟨y,u,rfl,rfl⟩
   ·rw [aHg] at h;exact SeqAt.EqAt.str_int x t j u _ _ _ _ h
   ·rw [aHe] at h;exact wpAny_eqBool_str h
 «strs»:=fun k x t v h=>by
  rcases dG h with ⟨i,u,rfl,e⟩|⟨y,u,rfl,e⟩
  ·exact nomatch e
  ·injection e with e1 _
   subst e1;cases v <;> rfl
theorem L_ (prog:Program) (w:World) (i:Int) (t:Tok):(cX prog w).is (.inl i) (.int i t)=true:=V1 i t
theorem MF (prog:Program) (w:World) (x:Str) (t:Tok):(cX prog w).is (.inr x) (.str x t)=true:=V2 x t
end L2
namespace L2
open PySem PySem.Spec PyProof.Rows
inductive V where
 | non|bl (b:Bool)|int (i:Int)|str (x:Str)|byt (b:Array UInt8)|flt (b:UInt64)|ref (a:Addr)|ty (n:String)
 deriving DecidableEq
noncomputable def RelV:V->Value->Prop
 | .non,u=>u=Value.none
 | .bl b,u=>u=Value.bool b
 | .int i,u=>∃t,u=Value.int i t
 | .str x,u=>∃t,u=Value.str x t
 | .byt b,u=>∃t,u=Value.bytes b t
 | .flt b,u=>∃t,u=Value.float b t
 | .ref a,u=>u=Value.ref a
 | .ty n,u=>u=Value.type n
abbrev Vals:List V->List Value->Prop:=Paired RelV
theorem Vals.length {xs:List V} {us:List Value} (r:Vals xs us):xs.length=us.length:=Paired.length r
theorem Vals.get:∀{xs:List V} {us:List Value} {i:Nat} {x:V},Vals xs us->xs[i]?=some x->∃u,us[i]?=some u/\RelV x u
 | _,_,_,_,.nil,e=>by simp at e
 | _,_,0,_,.cons r _,e=>by simp at e;subst e;exact ⟨_,rfl,r⟩
 | _,_,i+1,x,.cons _ t,e=>by
  obtain ⟨u,h1,h2⟩:=Vals.get (i:=i) (x:=x) t (by simpa using e);exact ⟨u,by simpa using h1,h2⟩
theorem Vals.set {x:V} {u:Value} (r:RelV x u):∀{xs:List V} {us:List Value} (i:Nat),Vals xs us->Vals (xs.set i x) (us.set i u)
 | _,_,_,.nil=>.nil
 | _,_,0,.cons _ t=>.cons r t
 | _,_,i+1,.cons q t=>.cons q (Vals.set r i t)
theorem Vals.append:∀{xs ys:List V} {us ws:List Value},Vals xs us->Vals ys ws->Vals (xs++ys) (us++ws)
 | _,_,_,_,.nil,s=>s
 | _,_,_,_,.cons r t,s=>.cons r (Vals.append t s)
theorem Vals.take:∀{xs:List V} {us:List Value} (n:Nat),Vals xs us->Vals (xs.take n) (us.take n)
 | _,_,0,_=>.nil
 | _,_,_+1,.nil=>.nil
 | _,_,n+1,.cons r t=>.cons r (Vals.take n t)
theorem Vals.drop:∀{xs:List V} {us:List Value} (n:Nat),Vals xs us->Vals (xs.drop n) (us.drop n)
 | _,_,0,r=>r
 | _,_,_+1,.nil=>.nil
 | _,_,n+1,.cons _ t=>Vals.drop n t
noncomputable def aAp:Option V->Option Value->Prop
 | some v,some u=>RelV v u
 | none,none=>True
 | _,_=>False
noncomputable def KV {κ:Type}:List (κ×V)->List (κ×Value)->Prop:=Paired fun (p:κ×V) (q:κ×Value)=>p.1=q.1/\RelV p.2 q.2
noncomputable def kV:Key->V
 | .inl i=>.int i
 | .inr x=>.str x
inductive HO where
 | lst (xs:List V)
 | tup (xs:List V)
 | dK (kvs:List (Key×V))|dT (kvs:List (List Key×V))
 | set (S:Int->Bool) (n:Nat)
 | ins (C dx:Addr) (fs:List (Str×V))
 | own (x:Addr)
 | xd (fs:List (Str×V))
 | met (f x:Addr)
 | rng (lo hi:Int)
 | frz (o:Obj) (u:HO)
 | tbl (ps:Array Value)
 | ext (φ:Heap->Prop)
abbrev Hp:=Addr->Option HO
def upd (H:Hp) (a:Addr) (o:HO):Hp:=fun b=>if b=a then some o else H b
theorem aL {H:Hp} {a:Addr} {o:HO}:upd H a o a=some o:=by unfold upd;rw [if_pos rfl]
theorem bB {H:Hp} {a b:Addr} {o:HO} (h:b≠a):upd H a o b=H b:=by unfold upd;rw [if_neg h]
theorem MJ {H:Hp} {a:Addr} {o u:HO}:upd (upd H a o) a u=upd H a u:=by
 funext b;unfold upd;split <;> rfl
theorem aEf {H:Hp} {a b:Addr} {o u:HO} (h:H a=some o) (h':H b=some u) (d:o≠u):a≠b:=by
 intro e;subst e;rw [h] at h';exact d (Option.some.inj h')
theorem bT {H:Hp} {a b:Addr} {o:HO} (h:H a=some o) (h':H b=none):a≠b:=by
 intro e;subst e;rw [h] at h';cases h'
noncomputable def jY (h:Heap) (a:Addr) (its:Array Value):Prop:=∃o,h.get? a=some o/\o.cls=.type "tuple"/\∃n,(o.data,o.dict)=(Data.seq its n,none)
theorem jY.tup {h:Heap} {a:Addr} {its:Array Value} (t:jY h a its):IsTup h a its:=let ⟨o,e,c,n,d⟩:=t;⟨o,e,c,n,congrArg (·.1) d⟩
theorem jY.bare {h:Heap} {a:Addr} {its:Array Value} (t:jY h a its):∃o,h.get? a=some o/\o.dict=none:=let ⟨o,e,_,_,d⟩:=t;⟨o,e,congrArg (·.2) d⟩
theorem jY.new (h:Heap) (items:Array Value):jY (h.push {cls:=.type "tuple",data:=.seq items}) h.objs.size items:=⟨_,Heap.get?_push_size _ rfl,rfl,_,rfl⟩
section
variable (P:Program) (w:World)
noncomputable def gR (H:Hp) (h:Heap) (a:Addr):HO->Prop
 | .lst xs=>xs.length<=sizeLine/\∃(its:List Value) (n:Nat),Vals xs its/\h.get? a=some {cls:=.type "list",data:=.seq its.toArray n}
 | .tup xs=>xs.length<=sizeLine/\∃its:List Value,Vals xs its/\jY h a its.toArray
 | .dK kvs=>kvs.length<=sizeLine/\(a==sysModules)=false/\∃vs,KV kvs vs/\h.DictOf (cX P w) a vs
 | .dT kvs=>kvs.length<=sizeLine/\(a==sysModules)=false/\∃xs:List (List Key×Addr×Value),
   Paired (fun (p:List Key×V) (q:List Key×Addr×Value)=>p.1=q.1/\H q.2.1=some (.tup (p.1.map kV))/\RelV p.2 q.2.2) kvs xs/\
   ∃o es ep,h.get? a=some o/\o.ExactDict/\o.data=.dict es ep/\es.toList=xs.map (entryOfKey (tupleKind (cX P w)))/\(xs.map (·.1)).Nodup
 | .set S n=>h.SetOf (intKind P w) a S n
 | .ins C dx fs=>H dx=some (.own a)/\fs.length<=1000/\dx≠a/\h.get? a=some (PySem.W.instObj C dx)/\
   ∃mA,h.Ns1 dx mA/\(∀f,aAp (fs.lookup f) (mA f))/\PySem.Within mA (fs.map (·.1))
 | .own _=>∃o,h.get? a=some o
 | .xd fs=>∃mA,h.Ns1 a mA/\∀f,aAp (fs.lookup f) (mA f)
 | .rng lo hi=>∃t u v,h.get? a=some {cls:=.type "range",data:=.fields #[.int lo t,.int hi u,.int 1 v]}
 | .frz o u=>h.get? a=some o/\gR H h a u
 | .tbl ps=>h.get? a=some {cls:=.none,data:=.fields ps}
 | .met f x=>h.get? a=some (PySem.W.methodObj (.ref f) (.ref x))
 | .ext φ=>φ h/\(∃o,h.get? a=some o)/\∀h1 h2:Heap,φ h1->(∀o,h1.get? a=some o->h2.get? a=some o)->φ h2
def HOk (H:Hp) (h:Heap):Prop:=∀a o,H a=some o->gR P w H h a o
end
section
variable {P:Program} {w:World} {H H':Hp} {h h':Heap} {a:Addr} {o:HO}
theorem gR.lt (x:gR P w H h a o):a<h.objs.size:=by
 cases o with
 | lst xs=>obtain ⟨_,_,_,_,e⟩:=x;exact Heap.lt_size e
 | tup xs=>obtain ⟨_,_,_,p⟩:=x;exact p.tup.lt
 | dK kvs=>obtain ⟨_,_,_,_,o,_,_,e,_⟩:=x;exact Heap.lt_size e
 | dT kvs=>obtain ⟨_,_,_,_,o,_,_,e,_⟩:=x;exact Heap.lt_size e
 | set S n=>obtain ⟨o,_,_,_,e,_⟩:=x;exact Heap.lt_size e
 | ins C dx fs=>obtain ⟨_,_,_,e,_⟩:=x;exact Heap.lt_size e
 | own y=>obtain ⟨_,e⟩:=x;exact Heap.lt_size e
 | xd fs=>obtain ⟨_,⟨_,_,_,e,_⟩,_⟩:=x;exact Heap.lt_size e
 | rng lo hi=>obtain ⟨_,_,_,e⟩:=x;exact Heap.lt_size e
 | frz ob u=>obtain ⟨e,_⟩:=x;exact Heap.lt_size e
 | tbl ps=>exact Heap.lt_size (show h.get? a=some _ from x)
 | met f y=>exact Heap.lt_size (show h.get? a=some _ from x)
 | ext φ=>obtain ⟨_,⟨_,e⟩,_⟩:=x;exact Heap.lt_size e
theorem Paired.aLh {α β:Type} {F G:α->β->Prop}:∀{l₁:List α} {l₂:List β},Paired F l₁ l₂->(∀a b,F a b->G a b)->Paired G l₁ l₂
 | _,_,.nil,_=>.nil
 | _,_,.cons r t,f=>.cons (f _ _ r) (Paired.aLh t f)
theorem gR.stay (x:gR P w H h a o) (k:∀b u,(b=a\/H b=some (.own a))->h.get? b=some u->h'.get? b=some u)
  (ho:∀b,H b=some (.own a)->H' b=some (.own a)) (ht:∀b xs,H b=some (.tup xs)->H' b=some (.tup xs)):gR P w H' h' a o:=by
 induction o with
 | lst xs=>obtain ⟨z,its,n,r,e⟩:=x;exact ⟨z,its,n,r,k _ _ (.inl rfl) e⟩
 | tup xs=>obtain ⟨z,its,r,ob,e,c⟩:=x;exact ⟨z,its,r,ob,k _ _ (.inl rfl) e,c⟩
 | dK kvs=>obtain ⟨z,y,vs,r,ob,es,ep,e,c⟩:=x;exact ⟨z,y,vs,r,ob,es,ep,k _ _ (.inl rfl) e,c⟩
 | dT kvs=>
  obtain ⟨z,y,xs,r,ob,es,ep,e,c⟩:=x;exact ⟨z,y,xs,Paired.aLh r fun p q z=>⟨z.1,ht _ _ z.2.1,z.2.2⟩,ob,es,ep,k _ _ (.inl rfl) e,c⟩
 | set S n=>obtain ⟨ob,es,ep,t,e,c⟩:=x;exact ⟨ob,es,ep,t,k _ _ (.inl rfl) e,c⟩
 | ins C dx fs=>
  obtain ⟨d,z,ne,e,mA,⟨od,es,ep,e2,c⟩,r⟩:=x;exact ⟨ho _ d,z,ne,k _ _ (.inl rfl) e,mA,⟨od,es,ep,k _ _ (.inr d) e2,c⟩,r⟩
 | own y=>obtain ⟨ob,e⟩:=x;exact ⟨ob,k _ _ (.inl rfl) e⟩
 | xd fs=>obtain ⟨mA,⟨od,es,ep,e,c⟩,r⟩:=x;exact ⟨mA,⟨od,es,ep,k _ _ (.inl rfl) e,c⟩,r⟩
 | rng lo hi=>obtain ⟨t,u,v,e⟩:=x;exact ⟨t,u,v,k _ _ (.inl rfl) e⟩
 | frz ob u ih=>obtain ⟨e,q⟩:=x;exact ⟨k _ _ (.inl rfl) e,ih q⟩
 | tbl ps=>
  have e:h.get? a=some {cls:=.none,data:=.fields ps}:=x;show h'.get? a=some {cls:=.none,data:=.fields ps};exact k a _ (.inl rfl) e
 | met f y=>
  have e:h.get? a=some (PySem.W.methodObj (.ref f) (.ref y)):=x;show h'.get? a=some (PySem.W.methodObj (.ref f) (.ref y));exact k a _ (.inl rfl) e
 | ext φ=>obtain ⟨p,⟨o,e⟩,st⟩:=x;exact ⟨st _ _ p fun o q=>k _ _ (.inl rfl) q,⟨o,k _ _ (.inl rfl) e⟩,st⟩
theorem HOk.lt (x:HOk P w H h) (e:H a=some o):a<h.objs.size:=(x a o e).lt
theorem HOk.fresh (x:HOk P w H h) (e:h.objs.size<=a):H a=none:=by
 cases q:H a with
 | none=>rfl
 | some u=>exact absurd (Nat.lt_of_lt_of_le (x.lt q) e) (Nat.lt_irrefl _)
theorem HOk.kept (x:HOk P w H h) (k:∀b u,h.get? b=some u->h'.get? b=some u):HOk P w H h':=fun a o e=>
 (x a o e).stay (fun b u _ q=>k b u q) (fun _ q=>q) fun _ _ q=>q
theorem HOk.laid (x:HOk P w H h) (k:∀b u,h.get? b=some u->h'.get? b=some u) (hp:h.objs.size<=a) (new:gR P w (upd H a o) h' a o):HOk P w (upd H a o) h':=fun b u e=>by
 have hn:=x.fresh hp;by_cases hb:b=a
 ·subst hb;rw [aL] at e;cases e;exact new
 ·rw [bB hb] at e;exact (x b u e).stay (fun c v _ q=>k c v q) (fun c q=>by rw [bB (bT q hn)];exact q) fun c xs q=>by rw [bB (bT q hn)];exact q
end
def Rd (H:Hp) (a:Addr) (u:HO):Prop:=H a=some u\/∃o,H a=some (.frz o u)
theorem Rd.ok {P:Program} {w:World} {H:Hp} {h:Heap} {a:Addr} {u:HO} (r:Rd H a u) (x:HOk P w H h):gR P w H h a u:=by
 rcases r with r|⟨o,r⟩
 ·exact x a u r
 ·obtain ⟨_,q⟩:=x a _ r;exact q
noncomputable def Mut:Option HO->Prop
 | some (.lst _)=>True
 | some (.dK _)=>True
 | some (.dT _)=>True
 | some (.set _ _)=>True
 | some (.ins _ _ _)=>True
 | some (.ext _)=>True
 | _=>False
section
variable {P:Program} {w:World} {H:Hp} {h h':Heap} {x e:Addr} {o':HO}
theorem HOk.write (ok:HOk P w H h) (mu:Mut (H x)) (he:e=x\/H e=some (.own x)) (k:∀b u,b≠e->h.get? b=some u->h'.get? b=some u) (heo:∃u,h'.get? e=some u)
  (new:gR P w (upd H x o') h' x o'):HOk P w (upd H x o') h':=fun b u q=>by
 have nown:∀c y,H c=some (.own y)->c≠x:=fun c y r z=>by subst z;rw [r] at mu;exact mu
 have ntup:∀c xs,H c=some (.tup xs)->c≠x:=fun c xs r z=>by subst z;rw [r] at mu;exact mu
 by_cases hb:b=x
 ·subst hb;rw [aL] at q;cases q;exact new
 ·rw [bB hb] at q;by_cases hbe:b=e
  ·have q':H b=some (.own x):=by
    rcases he with z|z
    ·exact absurd (hbe.trans z) hb
    ·rw [hbe];exact z
   rw [q] at q';cases q';obtain ⟨v,hv⟩:=heo;exact ⟨v,by rw [hbe];exact hv⟩
  ·refine (ok b u q).stay (fun c v hc r=>k c v ?_ r) (fun c r=>by rw [bB (nown c b r)];exact r) fun c xs r=>by rw [bB (ntup c xs r)];exact r
   rcases hc with rfl|hc
   ·exact hbe
   ·rintro rfl;rcases he with z|z
    ·exact nown c b hc z
    ·rw [hc] at z;cases z;exact hb rfl
end
structure Un (fs ex:List Addr) (H H':Hp) (h h':Heap):Prop where
 keep:∀b o,h.get? b=some o->H b=none->b∉fs->b∉ex->h'.get? b=some o
 slot:∀b o,h.get? b=some o->H b=none->b∈fs->b∉ex->∃sl,h'.get? b=some {o with slots:=sl}
 free:∀b o,h.get? b=some o->H b=none->b∉ex->H' b=none
 there:∀b o,h.get? b=some o->b∉ex->∃o',h'.get? b=some o'
 tups:∀b xs,H b=some (.tup xs)->H' b=some (.tup xs)
 frzs:∀b o u,H b=some (.frz o u)->H' b=some (.frz o u)
 tbls:∀b ps,H b=some (.tbl ps)->∃more,H' b=some (.tbl (ps++more))
section
variable {fs fs' ex ex':List Addr} {H H1 H2:Hp} {h h1 h2 h':Heap} {a x e:Addr} {o:HO}
theorem Un.any (u:Un fs ex H H1 h h1) {b:Addr} {ob:Obj} (q:h.get? b=some ob) (n:H b=none) (hx:b∉ex):∃sl,h1.get? b=some {ob with slots:=sl}:=by
 by_cases hb:b∈fs
 ·exact u.slot b ob q n hb hx
 ·exact ⟨ob.slots,u.keep b ob q n hb hx⟩
theorem Un.kept (k:∀b u,h.get? b=some u->h'.get? b=some u):Un fs ex H H h h':=
 ⟨fun b ob q _ _ _=>k b ob q,fun b ob q _ _ _=>⟨ob.slots,k b ob q⟩,fun _ _ _ n _=>n,fun b ob q _=>⟨ob,k b ob q⟩,fun _ _ q=>q,fun _ _ _ q=>q,fun _ ps q=>⟨#[],by rw [q];simp⟩⟩
theorem Un.refl:Un fs ex H H h h:=Un.kept fun _ _ q=>q
theorem Un.laid (k:∀b u,h.get? b=some u->h'.get? b=some u) (hp:h.objs.size<=a) (hn:H a=none):Un fs ex H (upd H a o) h h' where
 keep:=fun b u q _ _ _=>k b u q
 slot:=fun b u q _ _ _=>⟨u.slots,k b u q⟩
 free:=fun b u q n _=>by rw [bB (Nat.ne_of_lt (Nat.lt_of_lt_of_le (Heap.lt_size q) hp))];exact n
 there:=fun b u q _=>⟨u,k b u q⟩
 tups:=fun b xs q=>by rw [bB (bT q hn)];exact q
 frzs:=fun b u xs q=>by rw [bB (bT q hn)];exact q
 tbls:=fun b ps q=>⟨#[],by rw [bB (bT q hn),q];simp⟩
theorem Un.write (mu:Mut (H x)) (he:e=x\/H e=some (.own x)) (k:∀b u,b≠e->h.get? b=some u->h'.get? b=some u) (heo:∃u,h'.get? e=some u):Un fs ex H (upd H x o) h h':=by
 have hx:∀b,H b=none->b≠x:=fun b n z=>by subst z;rw [n] at mu;exact mu
 have hb:∀b,H b=none->b≠e:=fun b n z=>by
  subst z;rcases he with r|r
  ·exact hx b n r
  ·rw [n] at r;cases r
 have hm:∀b u,H b=some u->¬Mut (some u)->b≠x:=fun b u q nm z=>by subst z;rw [q] at mu;exact nm mu
 refine ⟨fun b u q n _ _=>k b u (hb b n) q,fun b u q n _ _=>⟨u.slots,k b u (hb b n) q⟩,fun b u q n _=>by rw [bB (hx b n)];exact n,fun b u q _=>?_,
  fun b xs q=>by rw [bB (hm b _ q fun z=>z)];exact q,fun b u xs q=>by rw [bB (hm b _ q fun z=>z)];exact q,fun b ps q=>⟨#[],by rw [bB (hm b _ q fun z=>z),q];simp⟩⟩
 by_cases hbe:b=e
 ·subst hbe;exact heo
 ·exact ⟨u,k b u hbe q⟩
end
noncomputable def trk (h:Heap) (H:Hp):List Addr:=(List.range h.objs.size).filter fun a=>(H a).isSome
def aAs (h:Heap) (H:Hp):Heap:=PySem.W.hideAll h (trk h H)
theorem V3 (h:Heap) (H:Hp):(aAs h H).objs.size=h.objs.size:=PySem.W.hideAll_size _ _
theorem aAt {h:Heap} {H:Hp} {b:Addr} {o:Obj} (e:h.get? b=some o) (n:H b=none):(aAs h H).get? b=some o:=
 PySem.W.hideAll_get _ e fun hm=>by
  have q:(H b).isSome=true:=(List.mem_filter.mp hm).2;rw [n] at q;simp at q
theorem aEg {h:Heap} {H:Hp} {b:Addr} {o:Obj} (e:(aAs h H).get? b=some o):h.get? b=some o/\H b=none:=by
 have e':h.get? b=some o:=PySem.W.of_hideAll (trk h H) e;refine ⟨e',?_⟩;cases q:H b with
 | none=>rfl
 | some x=>
  have hm:b∈trk h H:=List.mem_filter.mpr ⟨List.mem_range.mpr (Heap.lt_size e'),by simp [q]⟩;have z:(aAs h H).get? b=none:=PySem.W.hideAll_none (trk h H) hm;rw [z] at e;cases e
end L2
namespace L2
open PySem PySem.Spec PyProof.Rows
structure Mod (K:PySem.W.Frag) (mg:Str->Option Value) (base:Heap):Prop where
 kin:K.In base
 glob:base.Ns mainGlobals mg
 blt:∃mb,base.Ns builtinsNs mb/\∀x:Str,x ≠ "__name__"->mb x=bootBuiltins x
 nolimit:base.NoLimit
/-- the context: a def's body (or a comprehension's block) running. base: fixed through the whole law; s₀, H₀: the entry; outer: the frames whose slots others may change (a def's callers); stack: all frames that run;
   ex: iterators that were made ahead of the entry and are walked here (a comprehension's); fn: the names whose cells were made at the entry (a def: all; a comprehension's block: its own); calm: not within an except suite; pn: pins that every state bears; xe: what is wanted of an exception that leaves the code -/
structure Cx where
 prog:Program
 w:World
 K:PySem.W.Frag
 mg:Str->Option Value
 base:Heap
 A:Around
 N:List Str
 s₀:Shared
 H₀:Hp
 env:Env
 outer:List Env
 stack:List Env
 ex:List Addr
 fn:Str->Bool
 calm:Bool
 pn:List (Addr×Obj)
 xe:Value->Shared->Prop
def frs (l:List Env):List Addr:=l.filterMap (·.frame)
abbrev Cx.fs (X:Cx):List Addr:=frs X.outer
noncomputable def Vis (sc:Scope) (x:Str):Prop:=sc.names.lookup x=some .local\/sc.names.lookup x=some .cell\/sc.names.lookup x=some .free
noncomputable def Loc (sc:Scope) (x:Str):Prop:=sc.names.lookup x=some .local\/sc.names.lookup x=some .cell
noncomputable def Look (env:Env) (h:Heap) (m:Str->Option Value) (x:Str) (u:Value):Prop:=
 (env.kindOf x=some .local/\m x=some u)\/((env.kindOf x=some .cell\/env.kindOf x=some .free)/\∃c,env.cells.lookup x=some c/\h.IsCell c (some u))
structure Cx.Ok (X:Cx):Prop where
 mod:Mod X.K X.mg X.base
 kind:X.env.scope.kind=.function
 glob:X.env.globals=mainGlobals
 blt:X.env.builtins=builtinsNs
 above:X.s₀.heap.objs.size<=X.env.locals
 inj:∀x y c,X.env.cells.lookup x=some c->X.env.cells.lookup y=some c->x=y
 has:∀x,(X.env.kindOf x=some .cell\/X.env.kindOf x=some .free)->∃c,X.env.cells.lookup x=some c
 cab:∀x c,X.fn x=true->X.env.cells.lookup x=some c->X.s₀.heap.objs.size<=c
 hd:X.calm=true->X.A.handled=none
 frames:X.A.frames=some X.stack
 stk:X.stack=X.outer\/(X.stack=X.env::X.outer/\X.env.frame=some X.env.locals)
 exf:∀b∈X.ex,b≠X.env.locals/\∀x c,X.env.cells.lookup x=some c->c≠b
 bs:∀b o,X.base.get? b=some o->X.s₀.heap.get? b=some o/\X.H₀ b=none
 bsz:X.base.objs.size<=X.s₀.heap.objs.size
 noex:∀b o,X.base.get? b=some o->b∉X.ex
 exfs:∀b∈X.ex,b∉X.fs
 S8:X.s₀.heap.FunFrames X.base X.outer
 frf:∀b∈X.fs,X.H₀ b=none
structure Inv (X:Cx) (pins:List (Addr×Obj)) (σ:List (Option V)) (H:Hp) (s:Shared):Prop where
 ok:X.Ok
 os:s.os=X.s₀.os
 bare:AllBare s.gens
 base:Un X.fs X.ex X.H₀ H X.s₀.heap s.heap
 loc:∃m,s.heap.Ns X.env.locals m/\∀(i:Nat) (x:Str) (v:V),X.N[i]?=some x->σ[i]?=some (some v)->Vis X.env.scope x->∃u,RelV v u/\Look X.env s.heap m x u
 cell:∀x c,X.env.cells.lookup x=some c->∃v,s.heap.IsCell c v
 free:H X.env.locals=none
 freeC:∀x c,X.env.cells.lookup x=some c->H c=none
 pin:∀p∈X.pn++pins,s.heap.get? p.1=some p.2/\H p.1=none/\p.1≠X.env.locals/\p.1∉X.fs/\∀v,p.2.data≠.cell v
 hok:HOk X.prog X.w H s.heap
 len:σ.length=X.N.length
section
variable {X:Cx} {pins:List (Addr×Obj)} {σ:List (Option V)} {H H':Hp} {s:Shared} {h':Heap}
theorem Cx.Ok.aNe (ok:X.Ok) {b:Addr} {o:Obj} (e:X.base.get? b=some o):b∉X.fs:=fun hb=>by
 have:=(ok.S8.mem hb).1;rw [e] at this;cases this
theorem Inv.bs (I:Inv X pins σ H s):∀b o,X.base.get? b=some o->s.heap.get? b=some o/\H b=none:=fun b o e=>
 ⟨I.base.keep b o (I.ok.bs b o e).1 (I.ok.bs b o e).2 (I.ok.aNe e) (I.ok.noex b o e),I.base.free b o (I.ok.bs b o e).1 (I.ok.bs b o e).2 (I.ok.noex b o e)⟩
theorem Inv.bk (I:Inv X pins σ H s):∀b o,X.base.get? b=some o->s.heap.get? b=some o:=fun b o e=>(I.bs b o e).1
theorem Inv.mod (I:Inv X pins σ H s):Mod X.K X.mg X.base:=I.ok.mod
theorem Inv.kIn (I:Inv X pins σ H s):X.K.In s.heap:=I.ok.mod.kin.keeps I.bk
theorem Inv.lt (I:Inv X pins σ H s):X.env.locals<s.heap.objs.size:=let ⟨_,hn,_⟩:=I.loc;hn.lt
theorem Inv.sz (I:Inv X pins σ H s):X.s₀.heap.objs.size<=s.heap.objs.size:=Nat.le_trans I.ok.above (Nat.le_of_lt I.lt)
theorem Inv.aMu (I:Inv X pins σ H s) {a:Addr} (h:s.heap.objs.size<=a):a∉X.fs:=fun hb=>by
 obtain ⟨_,o,ho,_⟩:=I.ok.S8.mem hb;exact absurd (Nat.lt_of_lt_of_le (Heap.lt_size ho) (Nat.le_trans I.sz h)) (Nat.lt_irrefl _)
theorem Inv.cne (I:Inv X pins σ H s):∀x c,X.env.cells.lookup x=some c->c≠X.env.locals:=fun x c e z=>by
 obtain ⟨v,o,ho,hd⟩:=I.cell x c e;obtain ⟨m,⟨o',es,ep,ho',hd',_⟩,_⟩:=I.loc;rw [z,ho'] at ho;cases ho;rw [hd'] at hd;cases hd
theorem Inv.S8 (I:Inv X pins σ H s):s.heap.FunFrames X.base X.outer:=by
 have all:∀(l:List Env),(∀b∈frs l,b∈X.fs)->X.s₀.heap.FunFrames X.base l->s.heap.FunFrames X.base l:=by
  intro l;induction l with
  | nil=>intro _ _;trivial
  | cons env r ih=>
   intro hs hl;obtain ⟨hk,⟨L,o,hf,hn,ho,hd⟩,hr⟩:=hl;have hL:L∈X.fs:=hs L (by unfold frs;rw [List.filterMap_cons,hf];exact List.mem_cons_self);obtain ⟨sl,e⟩:=I.base.slot L o ho (I.ok.frf L hL) hL fun z=>I.ok.exfs L z hL
   exact ⟨hk,⟨L,_,hf,hn,e,hd⟩,ih (fun b hb=>hs b (by unfold frs;rw [List.filterMap_cons,hf];exact List.mem_cons_of_mem _ hb)) hr⟩
 exact all X.outer (fun _ hb=>hb) I.ok.S8
theorem Inv.stack (I:Inv X pins σ H s):s.heap.FunFrames X.base X.stack:=by
 rcases I.ok.stk with e|⟨e,hf⟩
 ·rw [e];exact I.S8
 ·rw [e];obtain ⟨m,hn,_⟩:=I.loc;refine .cons (by rw [I.ok.kind];decide) hf hn ?_ I.S8;exact Heap.get?_none_of_le (Nat.le_trans I.ok.bsz I.ok.above)
theorem Inv.PX (I:Inv X pins σ H s):∀b∈frs X.stack,b∈X.env.locals::X.fs:=fun b hb=>by
 rcases I.ok.stk with e|⟨e,hf⟩
 ·rw [e] at hb;exact List.mem_cons_of_mem _ hb
 ·rw [e] at hb;unfold frs at hb;rw [List.filterMap_cons,hf] at hb;exact hb
theorem Inv.MK (I:Inv X pins σ H s):∀b∈frs X.stack,H b=none:=fun b hb=>by
 rcases List.mem_cons.mp (I.PX b hb) with e|hb
 ·rw [e];exact I.free
 ·obtain ⟨_,o,ho,_⟩:=I.ok.S8.mem hb;exact I.base.free b o ho (I.ok.frf b hb) fun z=>I.ok.exfs b z hb
theorem Inv.step {g':Array GenState} {t':Nat} {d':Drawn} {ch:List Addr} (I:Inv X pins σ H s)
  (hch:∀b∈ch,(b∈X.ex\/X.s₀.heap.objs.size<=b)/\b≠X.env.locals/\(∀x c,X.env.cells.lookup x=some c->c≠b)/\∀p∈X.pn++pins,p.1≠b)
  (keep:∀b o,b≠X.env.locals->b∉X.fs->b∉ch->s.heap.get? b=some o->H b=none->h'.get? b=some o)
  (slot:∀b o,b≠X.env.locals->b∈X.fs->b∉ch->s.heap.get? b=some o->H b=none->∃sl,h'.get? b=some {o with slots:=sl}) (free:∀b o,b∉ch->s.heap.get? b=some o->H b=none->H' b=none)
  (there:∀b o,b∉ch->s.heap.get? b=some o->∃o',h'.get? b=some o')
  (tups:∀b xs,H b=some (.tup xs)->H' b=some (.tup xs)) (frzs:∀b o u,H b=some (.frz o u)->H' b=some (.frz o u)) (tbls:∀b ps,H b=some (.tbl ps)->∃more,H' b=some (.tbl (ps++more)))
  (ns:∀m,s.heap.Ns X.env.locals m->h'.Ns X.env.locals m) (hok:HOk X.prog X.w H' h') (hg:AllBare g') :
  Inv X pins σ H' {s with heap:=h',gens:=g',drawn:=d',toks:=t'}:=by
 have neL:∀b o,X.s₀.heap.get? b=some o->b≠X.env.locals:=fun b o e=>Nat.ne_of_lt (Nat.lt_of_lt_of_le (Heap.lt_size e) I.ok.above)
 have neC:∀b o,X.s₀.heap.get? b=some o->b∉X.ex->b∉ch:=fun b o e hx hb=>by
  rcases (hch b hb).1 with z|z
  ·exact hx z
  ·exact absurd (Nat.lt_of_lt_of_le (Heap.lt_size e) z) (Nat.lt_irrefl _)
 have cellK:∀x c,X.env.cells.lookup x=some c->∀v,s.heap.IsCell c v->h'.IsCell c v:=fun x c e v ⟨o,ho,hd⟩=>by
  have nch:c∉ch:=fun z=>(hch c z).2.2.1 x c e rfl
  by_cases hc:c∈X.fs
  ·obtain ⟨sl,q⟩:=slot c o (I.cne x c e) hc nch ho (I.freeC x c e);exact ⟨_,q,hd⟩
  ·exact ⟨o,keep c o (I.cne x c e) hc nch ho (I.freeC x c e),hd⟩
 refine ⟨I.ok,I.os,hg,⟨fun b o e n hb hx=>?_,fun b o e n hb hx=>?_,fun b o e n hx=>?_,fun b o e hx=>?_,fun b xs e=>tups b xs (I.base.tups b xs e),fun b o xs e=>frzs b o xs (I.base.frzs b o xs e),fun b ps e=>?_⟩,?_,fun x c e=>?_,?_,fun x c e=>?_,fun p hp=>?_,hok,I.len⟩
 ·exact keep b o (neL b o e) hb (neC b o e hx) (I.base.keep b o e n hb hx) (I.base.free b o e n hx)
 ·obtain ⟨sl,e1⟩:=I.base.slot b o e n hb hx;obtain ⟨sl',e2⟩:=slot b _ (neL b o e) hb (neC b o e hx) e1 (I.base.free b o e n hx);exact ⟨sl',e2⟩
 ·obtain ⟨o',e1⟩:=I.base.there b o e hx;exact free b o' (neC b o e hx) e1 (I.base.free b o e n hx)
 ·obtain ⟨o',e1⟩:=I.base.there b o e hx;exact there b o' (neC b o e hx) e1
 ·obtain ⟨m1,e1⟩:=I.base.tbls b ps e;obtain ⟨m2,e2⟩:=tbls b _ e1;exact ⟨m1++m2,by rw [e2,Array.append_assoc]⟩
 ·obtain ⟨m,hn,hl⟩:=I.loc;refine ⟨m,ns m hn,fun i x v e1 e2 e3=>?_⟩;obtain ⟨u,r,l⟩:=hl i x v e1 e2 e3;refine ⟨u,r,?_⟩;rcases l with l|⟨k,c,e,z⟩
  ·exact .inl l
  ·exact .inr ⟨k,c,e,cellK x c e _ z⟩
 ·obtain ⟨v,z⟩:=I.cell x c e;exact ⟨v,cellK x c e v z⟩
 ·obtain ⟨m,⟨o,_,_,ho,_⟩,_⟩:=I.loc;exact free _ o (fun z=>(hch _ z).2.1 rfl) ho I.free
 ·obtain ⟨v,o,ho,hd⟩:=I.cell x c e;exact free c o (fun z=>(hch c z).2.2.1 x c e rfl) ho (I.freeC x c e)
 ·obtain ⟨e,n,ne,nf,d⟩:=I.pin p hp;have nch:p.1∉ch:=fun z=>(hch p.1 z).2.2.2 p hp rfl
  exact ⟨keep p.1 p.2 ne nf nch e n,free p.1 p.2 nch e n,ne,nf,d⟩
theorem Inv.un {t':Nat} (I:Inv X pins σ H s) (u:Un X.fs [] H H' s.heap h') (hok:HOk X.prog X.w H' h'):Inv X pins σ H' {s with heap:=h',toks:=t'}:=by
 obtain ⟨m,⟨o,es,ep,ho,r⟩,_⟩:=id I.loc;obtain ⟨sl,hL⟩:=u.any ho I.free (by simp);exact I.step (g':=s.gens) (d':=s.drawn) (ch:=[]) (fun _ z=>nomatch z) (fun b o _ hb _ e n=>u.keep b o e n hb (by simp)) (fun b o _ hb _ e n=>u.slot b o e n hb (by simp)) (fun b o _ e n=>u.free b o e n (by simp)) (fun b o _ e=>u.there b o e (by simp)) u.tups u.frzs u.tbls (fun m' hm=>by
  obtain ⟨o',es',ep',ho',r'⟩:=hm;rw [ho] at ho';cases ho';exact ⟨_,es',ep',hL,r'⟩) hok I.bare
theorem Inv.call {g':Array GenState} {t':Nat} {d':Drawn} {ch:List Addr} (I:Inv X pins σ H s) (u:Un (frs X.stack) ch H H' s.heap h') (hok:HOk X.prog X.w H' h') (hg:AllBare g')
  (hch:∀b∈ch,(b∈X.ex\/X.s₀.heap.objs.size<=b)/\b≠X.env.locals/\(∀x c,X.env.cells.lookup x=some c->c≠b)/\∀p∈X.pn++pins,p.1≠b) :
  Inv X pins σ H' {s with heap:=h',gens:=g',drawn:=d',toks:=t'}:=by
 obtain ⟨m,⟨o,es,ep,ho,r⟩,_⟩:=id I.loc;obtain ⟨sl,hL⟩:=u.any ho I.free fun z=>(hch _ z).2.1 rfl
 exact I.step (ch:=ch) hch (fun b o hL hb hc e n=>u.keep b o e n (fun z=>(List.mem_cons.mp (I.PX b z)).elim hL hb) hc) (fun b o _ _ hc e n=>u.any e n hc) (fun b o hc e n=>u.free b o e n hc) (fun b o hc e=>u.there b o e hc) u.tups u.frzs u.tbls (fun m' hm=>by
  obtain ⟨o',es',ep',ho',r'⟩:=hm;rw [ho] at ho';cases ho';exact ⟨_,es',ep',hL,r'⟩) hok hg
theorem Inv.turned {t':Nat} {it:Addr} (I:Inv X pins σ H s) (k:∀b o,b≠it->s.heap.get? b=some o->h'.get? b=some o) (hn:H it=none) (hL:it≠X.env.locals)
  (h1:it∈X.ex\/X.s₀.heap.objs.size<=it) (h2:∀x c,X.env.cells.lookup x=some c->c≠it) (h3:∀p∈X.pn++pins,p.1≠it):Inv X pins σ H {s with heap:=h',toks:=t'}:=by
 have nit:∀b u,H b=some u->b≠it:=fun b u e z=>by rw [z,hn] at e;cases e
 refine I.step (g':=s.gens) (d':=s.drawn) (ch:=[it]) (fun b hb=>?_) (fun b o _ _ hc e _=>k b o (fun z=>hc (by simp [z])) e) (fun b o _ _ hc e _=>⟨o.slots,k b o (fun z=>hc (by simp [z])) e⟩) (fun _ _ _ _ n=>n)
  (fun b o hc e=>⟨o,k b o (fun z=>hc (by simp [z])) e⟩) (fun _ _ e=>e) (fun _ _ _ e=>e) (fun b ps e=>⟨#[],by rw [e];simp⟩) (fun m hm=>?_) (fun b u e=>?_) I.bare
 ·have e:b=it:=by simpa using hb
  subst e;exact ⟨h1,hL,h2,h3⟩
 ·obtain ⟨o,es,ep,ho,r⟩:=hm;exact ⟨o,es,ep,k _ o (Ne.symm hL) ho,r⟩
 ·refine (I.hok b u e).stay (fun c v hc q=>k c v ?_ q) (fun _ q=>q) fun _ _ q=>q
  rcases hc with z|z
  ·rw [z];exact nit b u e
  ·exact nit c _ z
theorem Inv.tok (I:Inv X pins σ H s) (t:Nat):Inv X pins σ H {s with toks:=t}:=I.un (h':=s.heap) (t':=t) Un.refl I.hok
theorem Inv.kept {t':Nat} (I:Inv X pins σ H s) (k:∀b u,s.heap.get? b=some u->h'.get? b=some u):Inv X pins σ H {s with heap:=h',toks:=t'}:=I.un (Un.kept k) (I.hok.kept k)
theorem Inv.laid {a:Addr} {o:HO} {t':Nat} (I:Inv X pins σ H s) (k:∀b u,s.heap.get? b=some u->h'.get? b=some u) (hp:s.heap.objs.size<=a) (new:gR X.prog X.w (upd H a o) h' a o) :
  Inv X pins σ (upd H a o) {s with heap:=h',toks:=t'}:=I.un (Un.laid k hp (I.hok.fresh hp)) (I.hok.laid k hp new)
theorem Inv.write {x e:Addr} {o:HO} {t':Nat} (I:Inv X pins σ H s) (mu:Mut (H x)) (he:e=x\/H e=some (.own x)) (k:∀b u,b≠e->s.heap.get? b=some u->h'.get? b=some u) (heo:∃u,h'.get? e=some u)
  (new:gR X.prog X.w (upd H x o) h' x o):Inv X pins σ (upd H x o) {s with heap:=h',toks:=t'}:=I.un (Un.write mu he k heo) (I.hok.write mu he k heo new)
theorem Inv.weak {σ':List (Option V)} (I:Inv X pins σ H s) (hl:σ'.length=σ.length) (w:∀(i:Nat) v,σ'[i]?=some (some v)->σ[i]?=some (some v)):Inv X pins σ' H s:=
 ⟨I.ok,I.os,I.bare,I.base,let ⟨m,hn,hl'⟩:=I.loc;⟨m,hn,fun i x v e1 e2 e3=>hl' i x v e1 (w i v e2) e3⟩,I.cell,I.free,I.freeC,I.pin,I.hok,hl.trans I.len⟩
theorem Inv.MN {pins':List (Addr×Obj)} (I:Inv X pins σ H s) (h:∀p∈pins',s.heap.get? p.1=some p.2/\H p.1=none/\p.1≠X.env.locals/\p.1∉X.fs/\∀v,p.2.data≠.cell v):Inv X pins' σ H s:=
 ⟨I.ok,I.os,I.bare,I.base,I.loc,I.cell,I.free,I.freeC,fun p hp=>(List.mem_append.mp hp).elim (fun z=>I.pin p (List.mem_append_left _ z)) (h p),I.hok,I.len⟩
theorem z9 {N:List Str} (hN:N.Nodup) {i j:Nat} {x:Str} (a:N[i]?=some x) (b:N[j]?=some x):i=j:=by
 obtain ⟨h1,e1⟩:=List.getElem?_eq_some_iff.mp a;obtain ⟨h2,e2⟩:=List.getElem?_eq_some_iff.mp b;exact (List.getElem_inj hN).mp (e1.trans e2.symm)
theorem G5 {M:Model} {A:Around} {E:Value->Shared->Prop} {i:Nat} {x:Str} {v:V} {u:Value} {Q:Unit->Shared->Prop} (I:Inv X pins σ H s) (hN:X.N.Nodup) (hi:X.N[i]?=some x) (hx:Loc X.env.scope x) (r:RelV v u)
  (h:∀s',Inv X pins (σ.set i (some v)) H s'->(∃a,Heap.SameBut a s.heap s'.heap/\(a=X.env.locals\/X.env.cells.lookup x=some a))->Q () s') (hf:X.fn x=true\/X.env.scope.names.lookup x=some .local:=by first|exact .inl rfl|exact .inr rfl|assumption):wpAny M A (storeName X.env x u) Q E s:=by
 obtain ⟨m,hn,hl⟩:=id I.loc;have hcls:(X.env.scope.kind==.class||(X.env.scope.kind==.module&&X.env.locals != X.env.globals))=false:=by rw [I.ok.kind];rfl
 have hiσ:i<σ.length:=by rw [I.len];exact (List.getElem?_eq_some_iff.mp hi).1
 have cne:=I.cne;have tracked:∀{a:Addr} {h':Heap},(∃o,s.heap.get? a=some o/\H a=none)->Heap.SameBut a s.heap h'->HOk X.prog X.w H h':=fun {a h'} ha hs b ob e=>by
  obtain ⟨_,_,hfree⟩:=ha;refine (I.hok b ob e).stay (fun c w' hc q=>(hs.2 c ?_).trans q) (fun _ q=>q) fun _ _ q=>q
  rintro rfl;rcases hc with rfl|hc
  ·rw [hfree] at e;cases e
  ·rw [hfree] at hc;cases hc
 rcases hx with hk|hk
 ·refine wpAny_storeName_local hk hn (fun h' hn' hs=>?_) hcls;obtain ⟨oL,_,_,hoL,_⟩:=id hn;refine h _ ⟨I.ok,I.os,I.bare,⟨fun b o e n hb hx=>?_,fun b o e n hb hx=>?_,I.base.free,fun b o e hx=>?_,I.base.tups,I.base.frzs,I.base.tbls⟩,⟨_,hn',fun j y v' e1 e2 e3=>?_⟩,fun y c e=>?_,I.free,I.freeC,fun p hp=>?_,tracked ⟨oL,hoL,I.free⟩ hs,by simpa using I.len⟩ ⟨_,hs,.inl rfl⟩
  ·exact (hs.2 b (Nat.ne_of_lt (Nat.lt_of_lt_of_le (Heap.lt_size e) I.ok.above))).trans (I.base.keep b o e n hb hx)
  ·obtain ⟨sl,e1⟩:=I.base.slot b o e n hb hx;exact ⟨sl,(hs.2 b (Nat.ne_of_lt (Nat.lt_of_lt_of_le (Heap.lt_size e) I.ok.above))).trans e1⟩
  ·obtain ⟨o',e1⟩:=I.base.there b o e hx;exact ⟨o',(hs.2 b (Nat.ne_of_lt (Nat.lt_of_lt_of_le (Heap.lt_size e) I.ok.above))).trans e1⟩
  ·by_cases hj:j=i
   ·subst hj;rw [hi] at e1;cases e1;rw [List.getElem?_set_self hiσ] at e2;cases e2;exact ⟨u,r,.inl ⟨hk,by simp⟩⟩
   ·rw [List.getElem?_set_ne (Ne.symm hj)] at e2;obtain ⟨u',r',q⟩:=hl j y v' e1 e2 e3;refine ⟨u',r',?_⟩;rcases q with ⟨k,e⟩|⟨k,c,e,z⟩
    ·refine .inl ⟨k,?_⟩;have:y≠x:=fun e=>hj (z9 hN e1 (e▸hi))
     simp [this,e]
    ·exact .inr ⟨k,c,e,z.sameBut hs (cne y c e)⟩
  ·obtain ⟨w',z⟩:=I.cell y c e;exact ⟨w',z.sameBut hs (cne y c e)⟩
  ·obtain ⟨e,n,ne,nf,d⟩:=I.pin p hp;exact ⟨(hs.2 p.1 ne).trans e,n,ne,nf,d⟩
 ·have hfn:X.fn x=true:=by
   rcases hf with z|z
   ·exact z
   ·rw [z] at hk;cases hk
  obtain ⟨c,hc⟩:=I.ok.has x (.inl hk);obtain ⟨w',z⟩:=I.cell x c hc;refine wpAny_storeName_cell I.ok.kind hk hc z (fun h' hc' hs=>?_);obtain ⟨oc,hoc,hocd⟩:=id z;refine h {s with heap:=h'} ⟨I.ok,I.os,I.bare,⟨fun b o e n hb hx=>?_,fun b o e n hb hx=>?_,I.base.free,fun b o e hx=>?_,I.base.tups,I.base.frzs,I.base.tbls⟩,⟨m,hn.sameBut hs (Ne.symm (cne x c hc)),fun j y v' e1 e2 e3=>?_⟩,fun y c' e=>?_,I.free,I.freeC,fun p hp=>?_,tracked ⟨oc,hoc,I.freeC x c hc⟩ hs,by simpa using I.len⟩ ⟨c,hs,.inr hc⟩
  ·exact (hs.2 b (Nat.ne_of_lt (Nat.lt_of_lt_of_le (Heap.lt_size e) (I.ok.cab x c hfn hc)))).trans (I.base.keep b o e n hb hx)
  ·obtain ⟨sl,e1⟩:=I.base.slot b o e n hb hx;exact ⟨sl,(hs.2 b (Nat.ne_of_lt (Nat.lt_of_lt_of_le (Heap.lt_size e) (I.ok.cab x c hfn hc)))).trans e1⟩
  ·obtain ⟨o',e1⟩:=I.base.there b o e hx;exact ⟨o',(hs.2 b (Nat.ne_of_lt (Nat.lt_of_lt_of_le (Heap.lt_size e) (I.ok.cab x c hfn hc)))).trans e1⟩
  ·by_cases hj:j=i
   ·subst hj;rw [hi] at e1;cases e1;rw [List.getElem?_set_self hiσ] at e2;cases e2;exact ⟨u,r,.inr ⟨.inl hk,c,hc,hc'⟩⟩
   ·rw [List.getElem?_set_ne (Ne.symm hj)] at e2;obtain ⟨u',r',q⟩:=hl j y v' e1 e2 e3;refine ⟨u',r',?_⟩;rcases q with q|⟨k,c',e,z'⟩
    ·exact .inl q
    ·refine .inr ⟨k,c',e,z'.sameBut hs ?_⟩;rintro rfl;exact hj (z9 hN e1 (I.ok.inj _ _ _ e hc▸hi))
  ·by_cases hcc:c'=c
   ·subst hcc;exact ⟨_,hc'⟩
   ·obtain ⟨w2,z2⟩:=I.cell y c' e;exact ⟨w2,z2.sameBut hs hcc⟩
  ·obtain ⟨e,n,ne,nf,d⟩:=I.pin p hp;refine ⟨(hs.2 p.1 ?_).trans e,n,ne,nf,d⟩;intro q;rw [q,hoc] at e;have q':oc=p.2:=Option.some.inj e;exact d w' (by rw [<-q'];exact hocd)
theorem P_ {M:Model} {A:Around} {E:Value->Shared->Prop} {i:Nat} {x:Str} {v:V} {u:Value} {Q:Unit->Shared->Prop} (I:Inv X pins σ H s) (hN:X.N.Nodup) (hi:X.N[i]?=some x) (hx:Loc X.env.scope x) (r:RelV v u)
  (h:∀s',Inv X pins (σ.set i (some v)) H s'->Q () s') (hf:X.fn x=true\/X.env.scope.names.lookup x=some .local:=by first|exact .inl rfl|exact .inr rfl|assumption):wpAny M A (storeName X.env x u) Q E s:=
 G5 I hN hi hx r (fun s' I' _=>h s' I') hf
theorem Inv.call' {s':Shared} {ch:List Addr} (I:Inv X pins σ H s) (ho:s'.os=s.os) (u:Un (frs X.stack) ch H H' s.heap s'.heap) (hok:HOk X.prog X.w H' s'.heap) (hg:AllBare s'.gens)
  (hch:∀b∈ch,(b∈X.ex\/X.s₀.heap.objs.size<=b)/\b≠X.env.locals/\(∀x c,X.env.cells.lookup x=some c->c≠b)/\∀p∈X.pn++pins,p.1≠b):Inv X pins σ H' s':=by
 obtain ⟨h',g',d',t',o'⟩:=s';have e:o'=s.os:=ho;subst e;exact I.call (g':=g') (t':=t') (d':=d') u hok hg hch
end
abbrev XK:=Value->Option Addr->Hp->Prop
abbrev St:=List (Option V)
abbrev VK:=V->Hp->Prop
abbrev TE:=St->Hp->VK->Prop
abbrev TT:=St->Hp->(Bool->Hp->Prop)->Prop
abbrev TA:=St->Hp->(List V->Hp->Prop)->Prop
structure Ends where
 nx:St->Hp->Prop
 rt:VK
 bk:St->Hp->Prop:=fun _ _=>False
 ct:St->Hp->Prop:=fun _ _=>False
abbrev TS:=Ends->St->Hp->Prop
noncomputable def EP (X:Cx) (pins:List (Addr×Obj)) (σ:St) (Q:VK) (u:Value) (s':Shared):Prop:=∃v H',Inv X pins σ H' s'/\RelV v u/\Q v H'
noncomputable def TP (X:Cx) (pins:List (Addr×Obj)) (σ:St) (Q:Bool->Hp->Prop) (b:Bool) (s':Shared):Prop:=∃H',Inv X pins σ H' s'/\Q b H'
noncomputable def AP (X:Cx) (pins:List (Addr×Obj)) (σ:St) (Q:List V->Hp->Prop) (us:List Value) (s':Shared):Prop:=∃vs H',Inv X pins σ H' s'/\Vals vs us/\Q vs H'
noncomputable def SP (X:Cx) (pins:List (Addr×Obj)) (D:Ends) (f:Flow) (s':Shared):Prop:=
 match f with
 | .next=>∃σ' H',Inv X pins σ' H' s'/\D.nx σ' H'
 | .brk=>∃σ' H',Inv X pins σ' H' s'/\D.bk σ' H'
 | .cont=>∃σ' H',Inv X pins σ' H' s'/\D.ct σ' H'
 | .ret u=>∃v σ' H',Inv X pins σ' H' s'/\RelV v u/\D.rt v H'
noncomputable def PE (X:Cx) (e:Expr) (t:TE):Prop:=
 ∀(pins:List (Addr×Obj)) (s:Shared) (σ:St) (H:Hp) (Q:VK),Inv X pins σ H s->t σ H Q->wpAny (model X.prog X.w) X.A (eval e X.env) (EP X pins σ Q) X.xe s
noncomputable def PT (X:Cx) (e:Expr) (t:TT):Prop:=
 ∀(pins:List (Addr×Obj)) (s:Shared) (σ:St) (H:Hp) (Q:Bool->Hp->Prop),Inv X pins σ H s->t σ H Q->wpAny (model X.prog X.w) X.A (isTrue e X.env (eval e X.env)) (TP X pins σ Q) X.xe s
noncomputable def PW (X:Cx) (e:Expr) (t:TT):Prop:=
 ∀(whole:Sem Value) (pins:List (Addr×Obj)) (s:Shared) (σ:St) (H:Hp) (Q:Bool->Hp->Prop),Inv X pins σ H s->t σ H Q->wpAny (model X.prog X.w) X.A (isTrue e X.env whole) (TP X pins σ Q) X.xe s
theorem PW.pt {X:Cx} {e:Expr} {t:TT} (h:PW X e t):PT X e t:=h _
noncomputable def PA (X:Cx) (es:List Expr) (t:TA):Prop:=
 ∀(pos:Pos) (pins:List (Addr×Obj)) (s:Shared) (σ:St) (H:Hp) (Q:List V->Hp->Prop),Inv X pins σ H s->t σ H Q->wpAny (model X.prog X.w) X.A (spliced (backTo pos (starEach es X.env))) (AP X pins σ Q) X.xe s
noncomputable def PS (X:Cx) (st:Stmt) (t:TS):Prop:=
 ∀(pins:List (Addr×Obj)) (s:Shared) (σ:St) (H:Hp) (D:Ends),Inv X pins σ H s->t D σ H->wpAny (model X.prog X.w) X.A (exec st X.env) (SP X pins D) X.xe s
noncomputable def PSs (X:Cx) (st:List Stmt) (t:TS):Prop:=
 ∀(pins:List (Addr×Obj)) (s:Shared) (σ:St) (H:Hp) (D:Ends),Inv X pins σ H s->t D σ H->wpAny (model X.prog X.w) X.A (execs st X.env) (SP X pins D) X.xe s
theorem thn {α:Type} {t:Sem α} {Q Q':α->Shared->Prop} {M:Model} {A:Around} {E:Value->Shared->Prop} {s:Shared} (h:wpAny M A t Q E s) (hQ:∀a s,Q a s->Q' a s):wpAny M A t Q' E s:=wpAny_mono h hQ fun _ _ x=>x
end L2
namespace L2
open PySem PySem.Spec PyProof.Rows
section
variable {X:Cx}
def S9 (i:Nat):TE:=fun σ H Q=>∃v,σ[i]?=some (some v)/\Q v H
def tC (v:V):TE:=fun _ H Q=>Q v H
theorem bW {i:Nat} {x:Str} {pos:Pos} (hN:X.N[i]?=some x) (hv:Vis X.env.scope x) (hd:nDb x:=by decide) (hcd:nCd x:=by decide):PE X (.Name x pos) (S9 i):=by
 intro pins s σ H Q I h;obtain ⟨v,e,h⟩:=h;obtain ⟨m,hn,hl⟩:=I.loc;obtain ⟨u,r,l⟩:=hl i x v hN e hv;have fin:EP X pins σ Q u s:=⟨v,H,I,r,h⟩
 rcases l with ⟨hk,hm⟩|⟨hk,c,hc,hcell⟩
 ·exact wpAny_Name (wpAny_loadName_local I.ok.kind hk hn hm fin) hd
 ·rcases hk with hk|hk
  ·exact wpAny_Name (wpAny_loadName_cell I.ok.kind hk hc hcell fin) hd
  ·exact wpAny_Name (wpAny_loadName_free I.ok.kind hk hc hcell fin hcd) hd
theorem aHh {i j pos}:PE X (.Constant (.int i) j pos) (tC (.int i)):=fun _ _ _ H _ I h=>wpAny_Constant_int ⟨.int i,H,I.tok _,⟨_,rfl⟩,h⟩
theorem aLi {b j pos}:PE X (.Constant (.bool b) j pos) (tC (.bl b)):=fun _ _ _ H _ I h=>Constant_bool ⟨.bl b,H,I,rfl,h⟩
theorem aHi {j pos}:PE X (.Constant .none j pos) (tC .non):=fun _ _ _ H _ I h=>Constant_none ⟨.non,H,I,rfl,h⟩
theorem aHj {x j pos}:PE X (.Constant (.str x) j pos) (tC (.str x)):=fun _ _ _ H _ I h=>Calls.Constant_str ⟨.str x,H,I.tok _,⟨_,rfl⟩,h⟩
def Gl (X:Cx) (x:Str):Prop:=X.env.kindOf x=some .globalImplicit
theorem o8 {E:Value->Shared->Prop} {pins:List (Addr×Obj)} {s:Shared} {σ:St} {H:Hp} {x:Str} {u:Value} {pos:Pos} {Q:Value->Shared->Prop} (I:Inv X pins σ H s) (hg:Gl X x) (hm:X.mg x=some u) (h:Q u s)
  (hd:nDb x:=by decide):wpAny (model X.prog X.w) X.A (eval (.Name x pos) X.env) Q E s:=
 Calls.Name_function_global I.ok.kind hg (Calls.loadGlobal_global (by rw [I.ok.glob];exact I.mod.glob.keeps I.bk) hm h) hd
theorem n6 {E:Value->Shared->Prop} {pins:List (Addr×Obj)} {s:Shared} {σ:St} {H:Hp} {x:Str} {u:Value} {pos:Pos} {Q:Value->Shared->Prop} (I:Inv X pins σ H s) (hg:Gl X x) (hm:X.mg x=none) (hv:bootBuiltins x=some u) (h:Q u s)
  (hn:x ≠ "__name__":=by decide) (hd:nDb x:=by decide):wpAny (model X.prog X.w) X.A (eval (.Name x pos) X.env) Q E s:=by
 obtain ⟨mb,h1,h2⟩:=I.mod.blt;exact Calls.Name_function_global I.ok.kind hg (Calls.loadGlobal_builtin (by rw [I.ok.glob];exact I.mod.glob.keeps I.bk) hm (by rw [I.ok.blt];exact h1.keeps I.bk) ((h2 x hn).trans hv) h) hd
theorem eQ {x:Str} {v:V} {u:Value} {pos:Pos} (hg:Gl X x) (hm:X.mg x=some u) (r:RelV v u) (hd:nDb x:=by decide):PE X (.Name x pos) (tC v):=
 fun _ _ _ H _ I h=>o8 I hg hm ⟨v,H,I,r,h⟩ hd
theorem V4 {x:Str} {v:V} {u:Value} {pos:Pos} (hg:Gl X x) (hm:X.mg x=none) (hv:bootBuiltins x=some u) (r:RelV v u) (hn:x ≠ "__name__":=by decide) (hd:nDb x:=by decide):PE X (.Name x pos) (tC v):=
 fun _ _ _ H _ I h=>n6 I hg hm hv ⟨v,H,I,r,h⟩ hn hd
variable {a b:Expr} {ta tb:TE} {pos:Pos}
variable {tA tB':TT} {rest:List Expr}
noncomputable def aNf (t u:TT):TT:=fun σ H Q=>t σ H fun c H1=>if c=true then u σ H1 Q else Q false H1
noncomputable def tOr (t u:TT):TT:=fun σ H Q=>t σ H fun c H1=>if c=true then Q true H1 else u σ H1 Q
def aNg (t:TT):TT:=fun σ H Q=>t σ H fun c H1=>Q (!c) H1
theorem aEh (ha:PT X a tA):PW X (.BoolOp .And [a] pos) tA:=by
 intro wh pins s σ H Q I h;refine isTrue_and (thn (ha pins s σ H Q I h) fun c s1 e=>?_);cases c with
 | true=>exact isTrue_and_nil e
 | false=>exact e
theorem aHk (ha:PT X a tA):PW X (.BoolOp .Or [a] pos) tA:=by
 intro wh pins s σ H Q I h;refine isTrue_or (thn (ha pins s σ H Q I h) fun c s1 e=>?_);cases c with
 | false=>exact isTrue_or_nil e
 | true=>exact e
theorem aHl (ha:PT X a tA) (hb:PW X (.BoolOp .And (b::rest) pos) tB'):PW X (.BoolOp .And (a::b::rest) pos) (aNf tA tB'):=by
 intro wh pins s σ H Q I h;refine isTrue_and (thn (ha pins s σ H _ I h) fun c s1 ⟨H1,I1,q1⟩=>?_);cases c with
 | true=>exact hb wh pins s1 σ H1 Q I1 q1
 | false=>exact ⟨H1,I1,q1⟩
theorem aLj (ha:PT X a tA) (hb:PW X (.BoolOp .Or (b::rest) pos) tB'):PW X (.BoolOp .Or (a::b::rest) pos) (tOr tA tB'):=by
 intro wh pins s σ H Q I h;refine isTrue_or (thn (ha pins s σ H _ I h) fun c s1 ⟨H1,I1,q1⟩=>?_);cases c with
 | true=>exact ⟨H1,I1,q1⟩
 | false=>exact hb wh pins s1 σ H1 Q I1 q1
theorem aHm (ha:PT X a tA):PT X (.UnaryOp .Not a pos) (aNg tA):=by
 intro pins s σ H Q I h;exact isTrue_not (ha pins s σ H (fun c H1=>Q (!c) H1) I h)
noncomputable def aLk (ta tb:TE):TE:=fun σ H Q=>ta σ H fun x H1=>∃c,x=.bl c/\if c=true then tb σ H1 Q else Q (.bl false) H1
theorem aHn {op} {t:TE} (h:PE X a t):PE X (.BoolOp op [a] pos) t:=fun pins s σ H Q I hw=>BoolOp_one (h pins s σ H Q I hw)
theorem aHo (ha:PE X a ta) (hb:PE X (.BoolOp .And (b::rest) pos) tb):PE X (.BoolOp .And (a::b::rest) pos) (aLk ta tb):=by
 intro pins s σ H Q I h;refine BoolOp_and (thn (ha pins s σ H _ I h) fun v s1 ⟨x,H1,I1,r1,q1⟩=>?_);obtain ⟨c,rfl,q1⟩:=q1;cases r1;refine wpAny_truthy_bool ?_;cases c with
 | true=>exact hb pins s1 σ H1 Q I1 q1
 | false=>exact ⟨.bl false,H1,I1,rfl,q1⟩
end
end L2
namespace L2
open PySem PySem.Spec PyProof.Rows
noncomputable def SqL (K:PySem.W.Frag) (H:Hp) (a:Addr) (xs:List V):Prop:=
 Rd H a (.lst xs)\/
  ∃(o:Obj) (its:Array Value) (n:Nat),K.lookup a=some o/\o.cls=.type "list"/\o.dict=none/\o.data=.seq its n/\its.size<=sizeLine/\Vals xs its.toList
noncomputable def SqT (K:PySem.W.Frag) (H:Hp) (a:Addr) (xs:List V):Prop:=
 Rd H a (.tup xs)\/
  ∃(o:Obj) (its:Array Value) (n:Nat),K.lookup a=some o/\o.cls=.type "tuple"/\o.data=.seq its n/\its.size<=sizeLine/\Vals xs its.toList
noncomputable def aNh:Value->Option V
 | .none=>some .non
 | .bool b=>some (.bl b)
 | .int i _=>some (.int i)
 | .str x _=>some (.str x)
 | .bytes b _=>some (.byt b)
 | .float b _=>some (.flt b)
 | .ref a=>some (.ref a)
 | .type n=>some (.ty n)
 | _=>none
theorem RelV.abs {x:V} {u:Value} (r:RelV x u):aNh u=some x:=by
 cases x with
 | non=>cases r;rfl
 | bl _=>cases r;rfl
 | int _=>obtain ⟨t,rfl⟩:=r;rfl
 | str _=>obtain ⟨t,rfl⟩:=r;rfl
 | byt _=>obtain ⟨t,rfl⟩:=r;rfl
 | flt _=>obtain ⟨t,rfl⟩:=r;rfl
 | ref _=>cases r;rfl
 | ty _=>cases r;rfl
theorem RelV.inj {x y:V} {u:Value} (r:RelV x u) (q:RelV y u):x=y:=Option.some.inj (r.abs.symm.trans q.abs)
theorem Vals.inj:∀{xs ys:List V} {us:List Value},Vals xs us->Vals ys us->xs=ys
 | _,_,_,.nil,.nil=>rfl
 | _,_,_,.cons r t,.cons r' t'=>by rw [r.inj r',Vals.inj t t']
section
variable {X:Cx} {pins:List (Addr×Obj)} {σ:St} {H:Hp} {s:Shared} {a:Addr} {xs ys:List V}
theorem SqL.of {K:PySem.W.Frag} (h:H a=some (.lst xs)):SqL K H a xs:=.inl (.inl h)
theorem SqT.of {K:PySem.W.Frag} (h:H a=some (.tup xs)):SqT K H a xs:=.inl (.inl h)
theorem Inv.list (I:Inv X pins σ H s) (h:SqL X.K H a xs):∃its:List Value,Vals xs its/\PlainL s.heap a its.toArray/\xs.length<=sizeLine:=by
 rcases h with h|⟨o,its,n,hk,hc,hd,hs,hz,r⟩
 ·obtain ⟨z,its,n,r,e⟩:=h.ok I.hok;exact ⟨its,r,⟨_,n,e,rfl,rfl,rfl⟩,z⟩
 ·refine ⟨its.toList,r,⟨o,n,I.kIn a o hk,hc,hd,by simpa using hs⟩,?_⟩;have e:=r.length;simp only [Array.length_toList] at e;lia
theorem Inv.tuple (I:Inv X pins σ H s) (h:SqT X.K H a xs):∃its:List Value,Vals xs its/\IsTup s.heap a its.toArray/\xs.length<=sizeLine:=by
 rcases h with h|⟨o,its,n,hk,hc,hs,hz,r⟩
 ·obtain ⟨z,its,r,p⟩:=h.ok I.hok;exact ⟨its,r,p.tup,z⟩
 ·refine ⟨its.toList,r,⟨o,I.kIn a o hk,hc,n,by simpa using hs⟩,?_⟩;have e:=r.length;simp only [Array.length_toList] at e;lia
theorem Inv.aAu (I:Inv X pins σ H s) (h:SqL X.K H a xs) (h':SqL X.K H a ys):xs=ys:=by
 obtain ⟨its,r,⟨o,n,e,_,_,d⟩,_⟩:=I.list h;obtain ⟨its',r',⟨o',n',e',_,_,d'⟩,_⟩:=I.list h';rw [e] at e';cases e';rw [d] at d';injection d' with d1 _
 have:its=its':=by simpa using congrArg Array.toList d1
 subst this;exact r.inj r'
theorem Inv.V5 (I:Inv X pins σ H s) (h:SqT X.K H a xs) (h':SqT X.K H a ys):xs=ys:=by
 obtain ⟨its,r,⟨o,e,_,n,d⟩,_⟩:=I.tuple h;obtain ⟨its',r',⟨o',e',_,n',d'⟩,_⟩:=I.tuple h';rw [e] at e';cases e';rw [d] at d';injection d' with d1 _
 have:its=its':=by simpa using congrArg Array.toList d1
 subst this;exact r.inj r'
end
abbrev Cx.wish (X:Cx) (E:Value->Shared->Prop):Cx:={X with xe:=E}
abbrev Cx.nox (X:Cx):Cx:=X.wish fun _ _=>False
theorem Cx.Ok.wish {X:Cx} (ok:X.Ok) (E:Value->Shared->Prop):(X.wish E).Ok:=
 ⟨ok.mod,ok.kind,ok.glob,ok.blt,ok.above,ok.inj,ok.has,ok.cab,ok.hd,ok.frames,ok.stk,ok.exf,ok.bs,ok.bsz,ok.noex,ok.exfs,ok.S8,ok.frf⟩
theorem Cx.Ok.mD {X:Cx} {E:Value->Shared->Prop} (ok:(X.wish E).Ok):X.Ok:=
 ⟨ok.mod,ok.kind,ok.glob,ok.blt,ok.above,ok.inj,ok.has,ok.cab,ok.hd,ok.frames,ok.stk,ok.exf,ok.bs,ok.bsz,ok.noex,ok.exfs,ok.S8,ok.frf⟩
section
variable {X:Cx} {pins:List (Addr×Obj)} {σ:St} {H:Hp} {s:Shared} {E:Value->Shared->Prop}
theorem Inv.wish (I:Inv X pins σ H s) (E:Value->Shared->Prop):Inv (X.wish E) pins σ H s:=⟨I.ok.wish E,I.os,I.bare,I.base,I.loc,I.cell,I.free,I.freeC,I.pin,I.hok,I.len⟩
theorem Inv.mD (I:Inv (X.wish E) pins σ H s):Inv X pins σ H s:=⟨I.ok.mD,I.os,I.bare,I.base,I.loc,I.cell,I.free,I.freeC,I.pin,I.hok,I.len⟩
theorem SP.mD {D:Ends} {f:Flow} {s':Shared} (h:SP (X.wish E) pins D f s'):SP X pins D f s':=by
 cases f with
 | next=>obtain ⟨σ',H',I,q⟩:=h;exact ⟨σ',H',I.mD,q⟩
 | brk=>obtain ⟨σ',H',I,q⟩:=h;exact ⟨σ',H',I.mD,q⟩
 | cont=>obtain ⟨σ',H',I,q⟩:=h;exact ⟨σ',H',I.mD,q⟩
 | ret u=>obtain ⟨v,σ',H',I,r,q⟩:=h;exact ⟨v,σ',H',I.mD,r,q⟩
theorem PSs.nox {st:List Stmt} {t:TS} (h:PSs X.nox st t):PSs X st t:=fun pins s σ H D I hw=>
 wpAny_mono (h pins s σ H D (I.wish _) hw) (fun _ _ q=>q.mD) fun _ _ z=>False.elim z
end
section
variable {X:Cx} {st:Stmt} {rest:List Stmt} {t u:TS} {e:Expr} {te:TE} {pos:Pos}
def aHp:TS:=fun D σ H=>D.nx σ H
def aD3 (t u:TS):TS:=fun D σ H=>t {D with nx:=u D} σ H
theorem V6:PSs X [] aHp:=fun _ _ σ H _ I h=>wpAny_execs_nil ⟨σ,H,I,h⟩
theorem jK (h1:PS X st t) (h2:PSs X rest u):PSs X (st::rest) (aD3 t u):=by
 intro pins s σ H D I h;refine wpAny_execs_cons (thn (h1 pins s σ H {D with nx:=u D} I h) fun f s1 q=>?_);cases f with
 | next=>
  obtain ⟨σ',H',I',q⟩:=q;exact h2 pins s1 σ' H' D I' q
 | ret v=>exact q
 | brk=>exact q
 | cont=>exact q
theorem mF (h1:PS X st t):PSs X [st] t:=by
 intro pins s σ H D I h;refine wpAny_execs_cons (thn (h1 pins s σ H D I h) fun f s1 q=>?_);cases f with
 | next=>exact wpAny_execs_nil q
 | ret v=>exact q
 | brk=>exact q
 | cont=>exact q
theorem Inv.quiet {pins:List (Addr×Obj)} {σ:St} {H:Hp} {s:Shared} (I:Inv X pins σ H s):interactive X.env=false:=by simp [interactive,I.ok.kind]
def aEi (te:TE):TS:=fun D σ H=>te σ H fun _ H1=>D.nx σ H1
theorem mG (he:PE X e te) (hs:swapsWith e none pos.line X.env=pure false:=by rfl):PS X (.Expr e pos) (aEi te):=by
 intro pins s σ H D I h;exact wpAny_Expr_any (thn (he pins s σ H _ I h) fun v s1 ⟨x,H1,I1,r1,q1⟩=>⟨σ,H1,I1,q1⟩) I.quiet hs
def aNi (te:TE):TS:=fun D σ H=>te σ H D.rt
theorem G6 (he:PE X e te):PS X (.Return (some e) pos) (aNi te):=by
 intro pins s σ H D I h;exact wpAny_Return_some (thn (he pins s σ H _ I h) fun v s1 ⟨x,H1,I1,r1,q1⟩=>⟨x,σ,H1,I1,r1,q1⟩)
noncomputable def aMv (c:TT) (t u:TS):TS:=fun D σ H=>c σ H fun b H1=>if b=true then t D σ H1 else u D σ H1
theorem aAv {c:Expr} {a b:List Stmt} {tc:TT} (hc:PT X c tc) (ha:PSs X a t) (hb:PSs X b u):PS X (.If c a b pos) (aMv tc t u):=by
 intro pins s σ H D I h;refine wpAny_If (thn (hc pins s σ H _ I h) fun d s1 ⟨H1,I1,q1⟩=>?_);cases d with
 | true=>exact ha pins s1 σ H1 D I1 q1
 | false=>exact hb pins s1 σ H1 D I1 q1
end
abbrev TG:=V->St->Hp->(St->Hp->Prop)->Prop
abbrev TGs:=List V->St->Hp->(St->Hp->Prop)->Prop
noncomputable def PG (X:Cx) (target:Expr) (t:TG):Prop:=
 ∀(pins:List (Addr×Obj)) (s:Shared) (σ:St) (H:Hp) (v:V) (u:Value) (Q:St->Hp->Prop),Inv X pins σ H s->RelV v u->t v σ H Q->
  wpAny (model X.prog X.w) X.A (assign target X.env u) (fun _ s'=>∃σ' H',Inv X pins σ' H' s'/\Q σ' H') X.xe s
noncomputable def PGs (X:Cx) (ts:List Expr) (t:TGs):Prop:=
 ∀(pins:List (Addr×Obj)) (s:Shared) (σ:St) (H:Hp) (vs:List V) (us:List Value) (Q:St->Hp->Prop),Inv X pins σ H s->Vals vs us->t vs σ H Q->
  wpAny (model X.prog X.w) X.A (assignInOrder ((assignEach ts X.env).map (·.2)) us) (fun _ s'=>∃σ' H',Inv X pins σ' H' s'/\Q σ' H') X.xe s
abbrev aNj:=V->V->V->Hp->(Hp->Prop)->Prop
noncomputable def aNk (X:Cx) (t:aNj):Prop:=
 ∀(pins:List (Addr×Obj)) (s:Shared) (σ:St) (H:Hp) (o i v:V) (ov iv u:Value) (Q:Hp->Prop),Inv X pins σ H s->RelV o ov->RelV i iv->RelV v u->t o i v H Q->
  wpAny (model X.prog X.w) X.A (setItem ov iv u) (fun _ s'=>∃H',Inv X pins σ H' s'/\Q H') X.xe s
section
variable {X:Cx} {pos:Pos}
def o9 (i:Nat):TG:=fun v σ H Q=>Q (σ.set i (some v)) H
theorem aQ {i:Nat} {x:Str} (hN:X.N.Nodup) (hi:X.N[i]?=some x) (hx:Loc X.env.scope x) (hf:X.fn x=true\/X.env.scope.names.lookup x=some .local:=by first|exact .inl rfl|exact .inr rfl|assumption):PG X (.Name x pos) (o9 i):=by
 intro pins s σ H v u Q I r h;exact wpAny_assign_Name (P_ I hN hi hx r (fun s' I'=>⟨_,H,I',h⟩) hf)
def aMw:TGs:=fun vs σ H Q=>vs=[]/\Q σ H
noncomputable def aHq (t:TG) (u:TGs):TGs:=fun vs σ H Q=>∃v r,vs=v::r/\t v σ H fun σ' H'=>u r σ' H' Q
theorem jT:PGs X [] aMw:=by
 intro pins s σ H vs us Q I r h;obtain ⟨e,h⟩:=h;subst e;cases r;exact assignInOrder_nil ⟨σ,H,I,h⟩
theorem bG {e:Expr} {es:List Expr} {t:TG} {u:TGs} (h1:PG X e t) (h2:PGs X es u)
  (hs:(assignEach (e::es) X.env).map (·.2)=assign e X.env::(assignEach es X.env).map (·.2):=by rfl):PGs X (e::es) (aHq t u):=by
 intro pins s σ H vs us Q I r h;obtain ⟨v,vr,e1,h⟩:=h;subst e1;cases r with
 | cons r rr=>
  rw [hs];refine assignInOrder_cons (thn (h1 pins s σ H _ _ _ I r h) fun _ s1 ⟨σ1,H1,I1,q1⟩=>?_);exact h2 pins s1 σ1 H1 _ _ Q I1 rr q1
noncomputable def aLl (K:PySem.W.Frag) (n:Nat) (t:TGs):TG:=fun v σ H Q=>∃a xs,v=.ref a/\SqT K H a xs/\xs.length=n/\t xs σ H Q
theorem n8 {es:List Expr} {k:Nat} {t:TGs} {n:Nat} (hc:X.calm=true) (h:PGs X es t)
  (hn:(assignEach es X.env).length=n:=by rfl) (hst:(assignEach es X.env).findIdx? (·.1)=none:=by rfl):PG X (.Tuple es k pos) (aLl X.K n t):=by
 intro pins s σ H v u Q I r hw;obtain ⟨a,xs,e1,hq,hl,hw⟩:=hw;subst e1;cases r;obtain ⟨its,rv,ht,hz⟩:=I.tuple hq;refine assign_Tuple_tuple (I.ok.hd hc) ht (by simp [hn,<-hl,rv.length]) hst fun h' hx=>?_
 have I1:Inv X pins σ H {s with heap:=h'}:=I.kept (t':=s.toks) fun b o e=>hx b o (Nat.ne_of_lt (Heap.lt_size e)) e
 exact h pins _ σ H xs _ Q I1 (by simpa using rv) hw
def aEj (te:TE) (g:TG):TS:=fun D σ H=>te σ H fun x H1=>g x σ H1 D.nx
theorem aD4 {tg e:Expr} {te:TE} {g:TG} (he:PE X e te) (hg:PG X tg g) (hs:swapsWithSole [tg] e pos.line X.env=pure false:=by rfl) (hw:swappedStores [tg] e X.env=pure none:=by rfl)
  (h1:(assignEach [tg] X.env).map (·.2)=[assign tg X.env]:=by rfl):PS X (.Assign [tg] e pos) (aEj te g):=by
 intro pins s σ H D I h;refine wpAny_Assign_stores (thn (he pins s σ H _ I h) fun v s1 ⟨x,H1,I1,r1,q1⟩=>?_) hs hw;rw [h1];exact thn (hg pins s1 σ H1 x v _ I1 r1 q1) fun _ s2 q=>q
theorem G7 {i:Nat} {x:Str} {e:Expr} {te:TE} {pos':Pos} (hN:X.N.Nodup) (hi:X.N[i]?=some x) (hx:Loc X.env.scope x) (he:PE X e te) (hs:swapsWith e (some (.Name x pos')) pos.line X.env=pure false:=by rfl) (hf:X.fn x=true\/X.env.scope.names.lookup x=some .local:=by first|exact .inl rfl|exact .inr rfl|assumption) :
  PS X (.Assign [.Name x pos'] e pos) (aEj te (o9 i)):=by
 intro pins s σ H D I h;refine wpAny_Assign_Name (thn (he pins s σ H _ I h) fun v s1 ⟨y,H1,I1,r1,q1⟩=>?_) hs;exact P_ I1 hN hi hx r1 (fun s2 I2=>⟨_,H1,I2,q1⟩) hf
end
section
variable {X:Cx} {pos:Pos}
noncomputable def aHr (c:TT) (tb:TS):TS:=fun D σ H=>∃W:Nat->St->Hp->Prop,(∃m,W m σ H)/\∀m σ H,W m σ H->
 c σ H fun b H1=>if b=true then ∃N:St->Hp->Prop,(∀σ' H',N σ' H'->∃m',m'<m/\W m' σ' H')/\tb {D with nx:=N,ct:=N,bk:=D.nx} σ H1 else D.nx σ H1
theorem aAw {c:Expr} {body:List Stmt} {tc:TT} {tb:TS} (hp:PassesOwn (model X.prog X.w) X.A X.env X.xe) (hc:PT X c tc) (hb:PSs X body tb):PS X (.While c body [] pos) (aHr tc tb):=by
 intro pins s σ H D I h;obtain ⟨W,⟨m0,w0⟩,turn⟩:=h;refine wpAny_While (codeAny_whileLoop (fun n s'=>∃σ' H',Inv X pins σ' H' s'/\W n σ' H') ?_ m0 ⟨σ,H,I,w0⟩);rintro n s1 ⟨σ1,H1,I1,w1⟩;refine wpAny_passesOwn hp (thn (hc pins s1 σ1 H1 _ I1 (turn n σ1 H1 w1)) fun b s2 ⟨H2,I2,q2⟩=>?_);cases b with
 | true=>
  obtain ⟨N,hN,q2⟩:=q2;rw [if_pos rfl];refine wpAny_passesOwn hp (thn (hb pins s2 σ1 H2 _ I2 q2) fun f s3 q3=>?_);cases f with
  | next=>
   obtain ⟨σ3,H3,I3,n3⟩:=q3;obtain ⟨m',hm,w3⟩:=hN σ3 H3 n3;exact ⟨m',hm,σ3,H3,I3,w3⟩
  | cont=>
   obtain ⟨σ3,H3,I3,n3⟩:=q3;obtain ⟨m',hm,w3⟩:=hN σ3 H3 n3;exact ⟨m',hm,σ3,H3,I3,w3⟩
  | brk=>exact q3
  | ret v=>exact q3
 | false=>
  rw [if_neg Bool.false_ne_true];exact wpAny_execs_nil ⟨σ1,H2,I2,q2⟩
end
structure It where
 go:Nat->Hp->Prop
 yld:Nat->Hp->V->Hp->Prop
 stop:Nat->Hp->Prop
noncomputable def QB (X:Cx) (pins:List (Addr×Obj)) (H:Hp) (b:Addr):Prop:=
 H b=none/\b≠X.env.locals/\b∉X.fs/\(b∈X.ex\/X.s₀.heap.objs.size<=b)/\(∀x c,X.env.cells.lookup x=some c->c≠b)/\∀p∈X.pn++pins,p.1≠b
theorem Inv.aHs {X:Cx} {pins:List (Addr×Obj)} {σ:St} {H H':Hp} {s:Shared} {b:Addr} (I:Inv X pins σ H s) (hb:s.heap.objs.size<=b) (hn:H' b=none):QB X pins H' b:=by
 refine ⟨hn,Nat.ne_of_gt (Nat.lt_of_lt_of_le I.lt hb),I.aMu hb,.inr (Nat.le_trans I.sz hb),fun x c e z=>?_,fun p hp z=>?_⟩
 ·obtain ⟨v,q⟩:=I.cell x c e;exact absurd (Nat.lt_of_lt_of_le q.lt (by rw [z];exact hb)) (Nat.lt_irrefl _)
 ·exact absurd (Nat.lt_of_lt_of_le (Heap.lt_size (I.pin p hp).1) (by rw [z];exact hb)) (Nat.lt_irrefl _)
structure Turn (P:Program) (w:World) (K:PySem.W.Frag) (tg:Expr) (J:It) (fp:List Addr) (it:Addr) (tn:Nat->Heap->Prop):Prop where
 mem:it∈fp
 obj:∀i h,tn i h->∀b∈fp,∃o,h.get? b=some o/\∀v,o.data≠.cell v
 keep:∀i h h',tn i h->(∀b∈fp,∀o,h.get? b=some o->h'.get? b=some o)->tn i h'
 item:∀(X:Cx),X.prog=P->X.w=w->X.K=K->X.calm=true->∀(i:Nat) (pins:List (Addr×Obj)) (s:Shared) (σ:St) (H:Hp) (E:Value->Shared->Prop),Inv X pins σ H s->(∀b∈fp,QB X pins H b)->tn i s.heap->J.go i H->
  wpAny (model P w) X.A (pyNext (.ref it)) (fun r s1=>∃u,r=some u/\
   wpAny (model P w) X.A (letOwnedTupleGo tg (.ref it) u) (fun _ s2=>∃x H',Inv X pins σ H' s2/\RelV x u/\J.yld i H x H'/\tn (i+1) s2.heap/\∀b∈fp,H' b=none) E s1) E s
 done:∀(X:Cx),X.prog=P->X.w=w->X.K=K->X.calm=true->∀(i:Nat) (pins:List (Addr×Obj)) (s:Shared) (σ:St) (H:Hp) (E:Value->Shared->Prop),Inv X pins σ H s->(∀b∈fp,QB X pins H b)->tn i s.heap->J.stop i H->
  wpAny (model P w) X.A (pyNext (.ref it)) (fun r s1=>r=none/\Inv X pins σ H s1) E s
 self:∀(A:Around) (i:Nat) (s:Shared) (Q:Value->Shared->Prop) (E:Value->Shared->Prop),tn i s.heap->Q (.ref it) s->wpAny (model P w) A (pyIter (.ref it)) Q E s
abbrev TI:=St->Hp->(It->Hp->Prop)->Prop
noncomputable def PIE (X:Cx) (pins:List (Addr×Obj)) (σ:St) (tg:Expr) (R:It->Hp->Prop) (itv:Value) (s2:Shared):Prop:=
 ∃(it:Addr) (fp:List Addr) (tn:Nat->Heap->Prop) (J:It) (H':Hp),itv=.ref it/\Inv X pins σ H' s2/\Turn X.prog X.w X.K tg J fp it tn/\tn 0 s2.heap/\(∀b∈fp,QB X pins H' b)/\R J H'
noncomputable def PI (X:Cx) (tg iter:Expr) (wi:TI):Prop:=
 ∀(pins:List (Addr×Obj)) (s:Shared) (σ:St) (H:Hp) (R:It->Hp->Prop),Inv X pins σ H s->wi σ H R->
  wpAny (model X.prog X.w) X.A (eval iter X.env) (fun v s1=>wpAny (model X.prog X.w) X.A (pyIter v) (PIE X pins σ tg R) X.xe s1) X.xe s
theorem aAx {M:Model} {A:Around} {E:Value -> Shared -> Prop} {s:Shared} {tg:Expr} {it:Addr} {u:Value} {o:Obj} {n:String} {vs:Array Value} {Q:Unit -> Shared -> Prop} (ho:s.heap.get? it=some o) (hc:o.cls=.type n) (hd:o.data=.fields vs)
    (hn:["enumerate", "zip", "dict_itemiterator", "dict_reverseitemiterator", "odict_iterator", "itertools.zip_longest", "itertools.pairwise"].contains n=false) (hQ:Q () s):wpAny M A (letOwnedTupleGo tg (.ref it) u) Q E s := by
  unfold letOwnedTupleGo;cases tg <;> first
    | exact wpAny_pure hQ
    | (cases u <;> first
        | exact wpAny_pure hQ
        | (refine wpAny_bind (wpAny_load ho ?_)
           rw [hc, hd];show wpAny M A (if (["enumerate", "zip", "dict_itemiterator", "dict_reverseitemiterator", "odict_iterator", "itertools.zip_longest", "itertools.pairwise"].contains n&&vs[0]?==some (rawInt _))=true then _ else _) Q E s;rw [if_neg (by intro h; rw [hn, Bool.false_and] at h; cases h)];exact wpAny_pure hQ))
noncomputable def Itl (K:PySem.W.Frag) (a:Addr):It:=
 ⟨fun i H=>∃xs x,SqL K H a xs/\xs[i]?=some x,fun i H x H'=>H'=H/\∀xs,SqL K H a xs->xs[i]?=some x,fun i H=>∃xs,SqL K H a xs/\xs.length<=i⟩
noncomputable def Itt (K:PySem.W.Frag) (a:Addr):It:=
 ⟨fun i H=>∃xs x,SqT K H a xs/\xs[i]?=some x,fun i H x H'=>H'=H/\∀xs,SqT K H a xs->xs[i]?=some x,fun i H=>∃xs,SqT K H a xs/\xs.length<=i⟩
noncomputable def Itr (lo:Int) (n:Nat):It:=⟨fun i _=>i<n,fun i H x H'=>H'=H/\x=.int (lo+i),fun i _=>n<=i⟩
theorem V7 {P:Program} {w:World} {K:PySem.W.Frag} {tg:Expr} (a it:Addr):Turn P w K tg (Itl K a) [it] it (fun i h=>h.IsListIter it a i) where
 mem:=by simp
 obj:=fun i h st b hb=>by
  have e:b=it:=by simpa using hb
  subst e;obtain ⟨o,e,c,d⟩:=st;exact ⟨o,e,fun v z=>by rw [d] at z;cases z⟩
 keep:=fun i h h' st k=>st.at fun o e=>k it (by simp) o e
 item:=by
  intro X hP hw hK hc i pins s σ H E I hf st hg;subst hP hw hK;obtain ⟨xs,x,hq,hx⟩:=hg;obtain ⟨its,rv,p,hz⟩:=I.list hq;obtain ⟨u,hu,ru⟩:=rv.get hx;obtain ⟨f0,f1,f2,f3,f4,f5⟩:=hf it (by simp);refine wpAny_pyNext_list_item st p.isList (x:=u) (by simpa using hu) fun h' st' sb=>?_
  have I1:Inv X pins σ H {s with heap:=h'}:=I.turned (t':=s.toks) (fun b o hb e=>(sb.2 b hb).trans e) f0 f1 f3 f4 f5;obtain ⟨o,e,c,d⟩:=id st';exact ⟨u,rfl,aAx (s:={s with heap:=h'}) e c d (by decide) ⟨x,H,I1,ru,⟨rfl,fun ys hy=>by rw [I.aAu hy hq];exact hx⟩,st',fun b hb=>(hf b hb).1⟩⟩
 done:=by
  intro X hP hw hK hc i pins s σ H E I hf st hg;subst hP hw hK;obtain ⟨xs,hq,hx⟩:=hg;obtain ⟨its,rv,p,hz⟩:=I.list hq;obtain ⟨f0,f1,f2,f3,f4,f5⟩:=hf it (by simp);have hl:=rv.length;exact wpAny_pyNext_list_end (I.ok.hd hc) st p.isList (by simp;lia) fun h' eb=>⟨rfl,I.turned (t':=s.toks) (fun b o hb e=>eb b o hb e) f0 f1 f3 f4 f5⟩
 self:=fun _ _ _ _ _ st h=>wpAny_pyIter_listiter st h
theorem S_ {P:Program} {w:World} {K:PySem.W.Frag} {tg:Expr} (a it:Addr):Turn P w K tg (Itt K a) [it] it (fun i h=>h.IsTupleIter it a i) where
 mem:=by simp
 obj:=fun i h st b hb=>by
  have e:b=it:=by simpa using hb
  subst e;obtain ⟨o,e,c,d⟩:=st;exact ⟨o,e,fun v z=>by rw [d] at z;cases z⟩
 keep:=fun i h h' st k=>st.at fun o e=>k it (by simp) o e
 item:=by
  intro X hP hw hK hc i pins s σ H E I hf st hg;subst hP hw hK;obtain ⟨xs,x,hq,hx⟩:=hg;obtain ⟨its,rv,p,hz⟩:=I.tuple hq;obtain ⟨u,hu,ru⟩:=rv.get hx;obtain ⟨f0,f1,f2,f3,f4,f5⟩:=hf it (by simp);refine wpAny_pyNext_tuple_item st (show s.heap.IsTuple a its.toArray from p) (x:=u) (by simpa using hu) fun h' st' sb=>?_
  have I1:Inv X pins σ H {s with heap:=h'}:=I.turned (t':=s.toks) (fun b o hb e=>(sb.2 b hb).trans e) f0 f1 f3 f4 f5;obtain ⟨o,e,c,d⟩:=id st';exact ⟨u,rfl,aAx (s:={s with heap:=h'}) e c d (by decide) ⟨x,H,I1,ru,⟨rfl,fun ys hy=>by rw [I.V5 hy hq];exact hx⟩,st',fun b hb=>(hf b hb).1⟩⟩
 done:=by
  intro X hP hw hK hc i pins s σ H E I hf st hg;subst hP hw hK;obtain ⟨xs,hq,hx⟩:=hg;obtain ⟨its,rv,p,hz⟩:=I.tuple hq;obtain ⟨f0,f1,f2,f3,f4,f5⟩:=hf it (by simp);have hl:=rv.length;exact wpAny_pyNext_tuple_end (I.ok.hd hc) st (show s.heap.IsTuple a its.toArray from p) (by simp;lia) fun h' eb=>⟨rfl,I.turned (t':=s.toks) (fun b o hb e=>eb b o hb e) f0 f1 f3 f4 f5⟩
 self:=fun _ _ _ _ _ st h=>wpAny_pyIter_tupleiter st h
theorem TF {P:Program} {w:World} {K:PySem.W.Frag} {tg:Expr} (it:Addr) (lo:Int) (n:Nat):Turn P w K tg (Itr lo n) [it] it (fun i h=>IsRangeIter h it (lo+(i:Nat)*1) ((n:Int)-(i:Nat)) 1) where
 mem:=by simp
 obj:=fun i h st b hb=>by
  have e:b=it:=by simpa using hb
  subst e;exact ⟨_,st,fun v z=>by
   have z':Data.fields _=Data.cell v:=z;cases z'⟩
 keep:=fun i h h' st k=>k it (by simp) _ st
 item:=by
  intro X hP hw hK hc i pins s σ H E I hf st hg;subst hP hw hK;obtain ⟨f0,f1,f2,f3,f4,f5⟩:=hf it (by simp);have W:=Walks.range (prog:=X.prog) (w:=X.w) (I.ok.hd hc) it lo 1 n;refine W.item i s _ _ hg st fun v h' tk hv st' kk=>?_
  obtain ⟨t,rfl⟩:=hv;have I1:Inv X pins σ H {s with heap:=h',toks:=tk}:=I.turned (fun b o hb e=>kk b o (by simpa using hb) e) f0 f1 f3 f4 f5;refine ⟨_,rfl,aAx (s:={s with heap:=h',toks:=tk}) (n := "range_iterator") st' rfl rfl (by decide) ⟨.int (lo+i),H,I1,⟨t,?_⟩,⟨rfl,rfl⟩,st',fun b hb=>(hf b hb).1⟩⟩;rw [Int.mul_one]
 done:=by
  intro X hP hw hK hc i pins s σ H E I hf st hg;subst hP hw hK;obtain ⟨f0,f1,f2,f3,f4,f5⟩:=hf it (by simp);exact wpAny_pyNext_range_end (I.ok.hd hc) st (by have:n<=i:=hg;lia) fun h' eb=>⟨rfl,I.turned (t':=s.toks) (fun b o hb e=>eb b o hb e) f0 f1 f3 f4 f5⟩
 self:=fun _ _ _ _ _ st h=>wpAny_pyIter_rangeiter st h
end L2
namespace L2
open PySem PySem.Spec PyProof.Rows
section
variable {X:Cx} {tg:Expr}
theorem aAy {pins:List (Addr×Obj)} {σ:St} {H:Hp} {s:Shared} {R:It->Hp->Prop} {E:Value->Shared->Prop} {lo hi:Int} {t u v:Tok} {tk:Nat} (I:Inv X pins σ H s) (h1:-(2 ^ 62)<=lo) (h2:lo<2 ^ 62) (h3:-(2 ^ 62)<=hi) (h4:hi<2 ^ 62)
  (q:R (Itr lo (hi-lo).toNat) H):wpAny (model X.prog X.w) X.A (pyIter (.ref s.heap.objs.size)) (PIE X pins σ tg R) E {s with heap:=s.heap.push {cls:=.type "range",data:=.fields #[.int lo t,.int hi u,.int 1 v]},toks:=tk}:=by
 refine wpAny_pyIter_range (IsRange.new ..) (small_one h1 h2 h3 h4) ?_;have I1:Inv X pins σ H {s with heap:=s.heap.push {cls:=.type "range",data:=.fields #[.int lo t,.int hi u,.int 1 v]},toks:=tk}:=I.kept fun b o e=>Heap.get?_push_of_some _ e
 refine ⟨(s.heap.push {cls:=.type "range",data:=.fields #[.int lo t,.int hi u,.int 1 v]}).objs.size,[(s.heap.push {cls:=.type "range",data:=.fields #[.int lo t,.int hi u,.int 1 v]}).objs.size],_,_,H,rfl,
  I1.kept (t':=tk) fun b o e=>Heap.get?_push_of_some _ e,TF _ lo (hi-lo).toNat,?_,fun b hb=>?_,q⟩
 ·have e1:lo+((0:Nat):Int)*1=lo:=by simp
  have e2:(((hi-lo).toNat:Nat):Int)-((0:Nat):Int)=Builtin.Range.rangeSize lo hi 1:=by rw [rangeSize_one];split <;> lia
  show IsRangeIter _ _ (lo+((0:Nat):Int)*1) ((((hi-lo).toNat:Nat):Int)-((0:Nat):Int)) 1;rw [e1,e2];exact Heap.get?_push_size _ rfl
 ·have e:b=(s.heap.push {cls:=.type "range",data:=.fields #[.int lo t,.int hi u,.int 1 v]}).objs.size:=by simpa using hb
  subst e;exact I1.aHs (Nat.le_refl _) (I1.hok.fresh (Nat.le_refl _))
noncomputable def aLm (ta:TA):TI:=fun σ H R=>ta σ H fun vs H1=>∃j:Int,vs=[.int j]/\-(2 ^ 62)<=j/\j<2 ^ 62/\R (Itr 0 j.toNat) H1
theorem G8 {a:Expr} {ta:TA} {p pos:Pos} (hg:Gl X "range") (hm:X.mg "range" = none) (ha:PA X [a] ta) (hs:starEach [a] X.env=[(false,eval a X.env)]:=by rfl):PI X tg (.Call (.Name "range" p) [a] [] pos) (aLm ta):=by
 intro pins s σ H R I h;refine Call_ (n6 I hg hm boot_range (PyProof.Rows.callWith_type1 (thn (ha pos pins s σ H _ I h) fun us s1 ⟨vs,H1,I1,r1,q1⟩=>?_) hs rfl));obtain ⟨j,e,q1,q2,q⟩:=q1;subst e;cases r1 with
 | cons r rr=>
  cases rr;obtain ⟨t,rfl⟩:=r;exact call_range_1 (aAy I1 (by lia) (by lia) q1 q2 (by simpa using q))
noncomputable def aNl (wi:TI) (g:TG) (tb:TS):TS:=fun D σ H=>wi σ H fun J H1=>∃W:Nat->Nat->St->Hp->Prop,(∃m,W 0 m σ H1)/\∀i m σ H,W i m σ H->
 (J.stop i H/\D.nx σ H)\/(J.go i H/\∃N:St->Hp->Prop,(∀σ' H',N σ' H'->∃m',m'<m/\W (i+1) m' σ' H')/\∀x H',J.yld i H x H'->g x σ H' fun σ2 H2=>tb {D with nx:=N,ct:=N,bk:=D.nx} σ2 H2)
noncomputable def wY (fp:List Addr) (h:Heap):List (Addr×Obj):=fp.filterMap fun b=>(h.get? b).map fun o=>(b,o)
theorem m5 {fp:List Addr} {h:Heap} {b:Addr} {o:Obj} (hb:b∈fp) (e:h.get? b=some o):(b,o)∈wY fp h:=List.mem_filterMap.mpr ⟨b,hb,by rw [e];rfl⟩
theorem V8 {fp:List Addr} {h:Heap} {p:Addr×Obj} (hp:p∈wY fp h):p.1∈fp/\h.get? p.1=some p.2:=by
 obtain ⟨b,hb,e⟩:=List.mem_filterMap.mp hp;cases q:h.get? b with
 | none=>rw [q] at e;cases e
 | some o=>
  rw [q] at e;have e':(b,o)=p:=Option.some.inj e;subst e';exact ⟨hb,q⟩
theorem Inv.pinned {pins:List (Addr×Obj)} {σ:St} {H:Hp} {s:Shared} {fp:List Addr} (I:Inv X pins σ H s) (hf:∀b∈fp,QB X pins H b) (ho:∀b∈fp,∃o,s.heap.get? b=some o/\∀v,o.data≠.cell v):Inv X (pins++wY fp s.heap) σ H s:=
 I.MN fun p hp=>(List.mem_append.mp hp).elim (fun z=>I.pin p (List.mem_append_right _ z)) fun z=>by
  obtain ⟨hb,e⟩:=V8 z;obtain ⟨f0,f1,f2,_⟩:=hf p.1 hb;obtain ⟨o,e',d⟩:=ho p.1 hb;rw [e] at e';cases e';exact ⟨e,f0,f1,f2,d⟩
theorem Inv.n_ {pins pl:List (Addr×Obj)} {σ:St} {H:Hp} {s:Shared} (I:Inv X (pins++pl) σ H s):Inv X pins σ H s:=I.MN fun p hp=>I.pin p (List.mem_append_right _ (List.mem_append_left _ hp))
theorem G9 {iter:Expr} {body:List Stmt} {wi:TI} {g:TG} {tb:TS} {pos:Pos} (hp:PassesOwn (model X.prog X.w) X.A X.env X.xe) (hc:X.calm=true) (hi:PI X tg iter wi) (hg:PG X tg g) (hb:PSs X body tb)
  (hs:∀x,foldedSetIterable iter X.env x=pure x:=by intro _;rfl):PS X (.For tg iter body [] pos) (aNl wi g tb):=by
 intro pins s σ H D I h;refine wpAny_For (thn (hi pins s σ H _ I h) fun v s1 h1=>thn h1 fun itv s2 h2=>?_) hs;obtain ⟨it,fp,tn,J,H2,e,I2,T,st2,f2,W,⟨m0,w0⟩,turn⟩:=h2;subst e
 -- what stays true of the iterator's objects through the loop
 have stat:∀{H':Hp},(∀b∈fp,H' b=none)->∀b∈fp,QB X pins H' b:=fun hn b hb=>⟨hn b hb,(f2 b hb).2⟩
 refine codeAny_forLoop_any (fun n s'=>∃i σ' H',Inv X pins σ' H' s'/\tn i s'.heap/\(∀b∈fp,H' b=none)/\W i n σ' H') ?_ m0 ⟨0,σ,H2,I2,st2,fun b hb=>(f2 b hb).1,w0⟩;rintro n s3 ⟨i,σ3,H3,I3,st3,fr3,w3⟩;rcases turn i n σ3 H3 w3 with ⟨stop,qn⟩|⟨go,N,hN,step⟩
 ·refine wpAny_passesOwn hp (thn (T.done X rfl rfl rfl hc i pins s3 σ3 H3 X.xe I3 (stat fr3) st3 stop) fun r s4 ⟨hr,I4⟩=>?_);subst hr;exact wpAny_execs_nil ⟨σ3,H3,I4,qn⟩
 ·refine wpAny_passesOwn hp (thn (T.item X rfl rfl rfl hc i pins s3 σ3 H3 X.xe I3 (stat fr3) st3 go) fun r s4 ⟨u,hr,h4⟩=>?_);subst hr;refine wpAny_passesOwn hp (thn h4 fun _ s5 ⟨x,H5,I5,r5,y5,st5,fr5⟩=>?_);have I5':=I5.pinned (stat fr5) (T.obj _ _ st5);refine wpAny_passesOwn hp (thn (hg _ s5 σ3 H5 x u _ I5' r5 (step x H5 y5)) fun _ s6 ⟨σ6,H6,I6,q6⟩=>?_);refine wpAny_passesOwn hp (thn (hb _ s6 σ6 H6 _ I6 q6) fun f s7 q7=>?_);have again:∀{σ7:St} {H7:Hp},Inv X (pins++wY fp s5.heap) σ7 H7 s7->N σ7 H7->∃m,m<n/\∃i σ' H',Inv X pins σ' H' s7/\tn i s7.heap/\(∀b∈fp,H' b=none)/\W i m σ' H':=fun {σ7 H7} I7 n7=>by
   obtain ⟨m',hm,w7⟩:=hN σ7 H7 n7;refine ⟨m',hm,i+1,σ7,H7,I7.n_,T.keep _ _ _ st5 fun b hb o e=>(I7.pin (b,o) (List.mem_append_right _ (List.mem_append_right _ (m5 hb e)))).1,fun b hb=>?_,w7⟩;obtain ⟨o,e,d⟩:=T.obj _ _ st5 b hb;exact (I7.pin (b,o) (List.mem_append_right _ (List.mem_append_right _ (m5 hb e)))).2.1
  cases f with
  | next=>obtain ⟨σ7,H7,I7,n7⟩:=q7;exact again I7 n7
  | cont=>obtain ⟨σ7,H7,I7,n7⟩:=q7;exact again I7 n7
  | brk=>obtain ⟨σ7,H7,I7,q7⟩:=q7;exact ⟨σ7,H7,I7.n_,q7⟩
  | ret v=>obtain ⟨x7,σ7,H7,I7,r7,q7⟩:=q7;exact ⟨x7,σ7,H7,I7.n_,r7,q7⟩
end
end L2
namespace L2
open PySem PySem.Spec PyProof.Rows
abbrev R2:=V->V->Hp->VK->Prop
noncomputable def OpR (X:Cx) (f:Value->Value->Sem Value) (r:R2):Prop:=
 ∀(pins:List (Addr×Obj)) (s:Shared) (σ:St) (H:Hp) (x y:V) (v u:Value) (Q:VK),Inv X pins σ H s->RelV x v->RelV y u->r x y H Q->
  wpAny (model X.prog X.w) X.A (f v u) (EP X pins σ Q) X.xe s
noncomputable def UnR (X:Cx) (f:Value->Sem Value) (r:V->Hp->VK->Prop):Prop:=
 ∀(pins:List (Addr×Obj)) (s:Shared) (σ:St) (H:Hp) (x:V) (v:Value) (Q:VK),Inv X pins σ H s->RelV x v->r x H Q->
  wpAny (model X.prog X.w) X.A (f v) (EP X pins σ Q) X.xe s
noncomputable def oA (X:Cx) (f:Value) (r:List V->Hp->VK->Prop):Prop:=
 ∀(pins:List (Addr×Obj)) (s:Shared) (σ:St) (H:Hp) (xs:List V) (us:List Value) (Q:VK),Inv X pins σ H s->Vals xs us->r xs H Q->
  wpAny (model X.prog X.w) X.A (call f us) (EP X pins σ Q) X.xe s
noncomputable def aNm (X:Cx) (r:V->Hp->(Bool->Hp->Prop)->Prop):Prop:=
 ∀(pins:List (Addr×Obj)) (s:Shared) (σ:St) (H:Hp) (x:V) (v:Value) (Q:Bool->Hp->Prop),Inv X pins σ H s->RelV x v->r x H Q->
  wpAny (model X.prog X.w) X.A (truthy v) (TP X pins σ Q) X.xe s
noncomputable def tOp (r:R2) (ta tb:TE):TE:=fun σ H Q=>ta σ H fun x H1=>tb σ H1 fun y H2=>r x y H2 Q
def tUn (r:V->Hp->VK->Prop) (ta:TE):TE:=fun σ H Q=>ta σ H fun x H1=>r x H1 Q
noncomputable def rI (C:Int->Int->Prop) (g:Int->Int->V):R2:=fun x y H Q=>∃i j,x=.int i/\y=.int j/\C i j/\Q (g i j) H
noncomputable def rI0 (g:Int->Int->V):R2:=fun x y H Q=>∃i j,x=.int i/\y=.int j/\Q (g i j) H
def rU (g:Int->V):V->Hp->VK->Prop:=fun x H Q=>∃i,x=.int i/\Q (g i) H
section
variable {X:Cx} {a b c:Expr} {ta tb tc:TE} {pos:Pos}
theorem aLn (ha:PE X a ta) (hb:PE X b tb) {pins:List (Addr×Obj)} {s:Shared} {σ:St} {H:Hp} {R:V->V->Hp->Prop} (I:Inv X pins σ H s)
  (h:ta σ H fun x H1=>tb σ H1 fun y H2=>R x y H2) {Q:Value->Shared->Prop} {f:Value->Value->Sem Value}
  (hf:∀v u s2 x y H2,Inv X pins σ H2 s2->RelV x v->RelV y u->R x y H2->wpAny (model X.prog X.w) X.A (f v u) Q X.xe s2) :
  wpAny (model X.prog X.w) X.A (eval a X.env) (fun v s₁=>wpAny (model X.prog X.w) X.A (eval b X.env) (fun u s₂=>wpAny (model X.prog X.w) X.A (f v u) Q X.xe s₂) X.xe s₁) X.xe s:=by
 refine thn (ha pins s σ H _ I h) fun v s1 ⟨x,H1,I1,r1,q1⟩=>?_
 refine thn (hb pins s1 σ H1 _ I1 q1) fun u s2 ⟨y,H2,I2,r2,q2⟩=>?_
 exact hf v u s2 x y H2 I2 r1 r2 q2
theorem aEk {op:Operator} {r:R2} (ho:OpR X (binaryOp op) r) (ha:PE X a ta) (hb:PE X b tb):PE X (.BinOp a op b pos) (tOp r ta tb):=by
 intro pins s σ H Q I h;exact wpAny_BinOp (aLn ha hb I h fun v u s2 x y H2 I2 rx ry q=>ho pins s2 σ H2 x y v u Q I2 rx ry q)
theorem aLo {op:UnaryOp} {r:V->Hp->VK->Prop} (ho:UnR X (unaryOp op) r) (ha:PE X a ta):PE X (.UnaryOp op a pos) (tUn r ta):=by
 intro pins s σ H Q I h;exact UnaryOp_ (thn (ha pins s σ H _ I h) fun v s1 ⟨x,H1,I1,r1,q1⟩=>ho pins s1 σ H1 x v Q I1 r1 q1)
theorem opI {f:Value->Value->Sem Value} {C:Int->Int->Prop} {g:Int->Int->Int}
  (rule:∀(i j:Int) (t u:Tok) (s:Shared) (Q:Value->Shared->Prop) (E:Value->Shared->Prop),C i j->Q (.int (g i j) s.toks) {s with toks:=s.toks+1}->wpAny (model X.prog X.w) X.A (f (.int i t) (.int j u)) Q E s) :
  OpR X f (rI C fun i j=>.int (g i j)):=by
 intro pins s σ H x y v u Q I rx ry h;obtain ⟨i,j,rfl,rfl,hc,q⟩:=h;obtain ⟨t,rfl⟩:=rx;obtain ⟨t',rfl⟩:=ry;exact rule i j t t' s _ _ hc ⟨.int (g i j),H,I.tok _,⟨_,rfl⟩,q⟩
theorem aMx {f:Value->Value->Sem Value} {g:Int->Int->Int}
  (rule:∀(i j:Int) (t u:Tok) (s:Shared) (Q:Value->Shared->Prop) (E:Value->Shared->Prop),Q (.int (g i j) s.toks) {s with toks:=s.toks+1}->wpAny (model X.prog X.w) X.A (f (.int i t) (.int j u)) Q E s) :
  OpR X f (rI0 fun i j=>.int (g i j)):=by
 intro pins s σ H x y v u Q I rx ry h;obtain ⟨i,j,rfl,rfl,q⟩:=h;obtain ⟨t,rfl⟩:=rx;obtain ⟨t',rfl⟩:=ry;exact rule i j t t' s _ _ ⟨.int (g i j),H,I.tok _,⟨_,rfl⟩,q⟩
def aNn (i j:Int):Prop:=0<j/\j<1073741824
def aLp (i j:Int):Prop:=(-(2 ^ 64)<i/\i<2 ^ 64)\/(-(2 ^ 64)<j/\j<2 ^ 64)
theorem aLp.ok {i j:Int} (h:aLp i j):IntMulOk i j:=by
 rcases h with ⟨h1,h2⟩|⟨h1,h2⟩
 ·exact .of_left (intBits_le_64 h1 h2)
 ·exact .of_right (intBits_le_64 h1 h2)
theorem aHt:OpR X (binaryOp .Add) (rI0 fun i j=>.int (i+j)):=aMx fun _ _ _ _ _ _ _ q=>add_int q
theorem aHu:OpR X (binaryOp .Sub) (rI0 fun i j=>.int (i-j)):=aMx fun _ _ _ _ _ _ _ q=>sub_int q
theorem aHv:OpR X (binaryOp .Mult) (rI aLp fun i j=>.int (i*j)):=opI fun _ _ _ _ _ _ _ hc q=>mul_int q hc.ok
theorem aEm:OpR X (binaryOp .FloorDiv) (rI aNn fun i j=>.int (i / j)):=opI fun i j _ _ _ _ _ hc q=>by
 have h1:(0:Int)<j:=hc.1;have h2:j<1073741824:=hc.2;exact floordiv_int (by lia) (by rw [Int.fdiv_eq_ediv_of_nonneg i (by lia)];exact q) (.inl (PyProof.noPylong_small (by lia)))
theorem aHw:OpR X (binaryOp .Mod) (rI (fun _ j=>0<j) fun i j=>.int (i % j)):=opI fun i j _ _ _ _ _ hc q=>by
 have h1:(0:Int)<j:=hc;exact mod_int' (by lia) (by rw [Int.fmod_eq_emod_of_nonneg i (by lia)];exact q)
theorem unI {f:Value->Sem Value} {g:Int->Int}
  (rule:∀(i:Int) (t:Tok) (s:Shared) (Q:Value->Shared->Prop) (E:Value->Shared->Prop),Q (.int (g i) s.toks) {s with toks:=s.toks+1}->wpAny (model X.prog X.w) X.A (f (.int i t)) Q E s) :
  UnR X f (rU fun i=>.int (g i)):=by
 intro pins s σ H x v Q I rx h;obtain ⟨i,rfl,q⟩:=h;obtain ⟨t,rfl⟩:=rx;exact rule i t s _ _ ⟨.int (g i),H,I.tok _,⟨_,rfl⟩,q⟩
theorem aHx:UnR X (unaryOp .USub) (rU fun i=>.int (-i)):=unI fun _ _ _ _ _ q=>neg_int q
end
section
variable {X:Cx} {a b c:Expr} {ta tb tc:TE} {pos:Pos}
theorem aHy {pins:List (Addr×Obj)} {σ:St} {H:Hp} {s:Shared} {Q:VK} {k k':Bool} (I:Inv X pins σ H s) (q:Q (.bl k) H) (e:k=k'):EP X pins σ Q (.bool k') s:=by
 subst e;exact ⟨.bl k,H,I,rfl,q⟩
theorem V9:OpR X (compareOp .In) (fun x y H Q=>∃i j,x=.str i/\y=.str j/\Q (.bl (!(Builtin.Str.occurrences j i 0 j.length 1).isEmpty)) H):=by
 intro pins s σ H x y v u Q I rx ry h;obtain ⟨i,j,rfl,rfl,q⟩:=h;obtain ⟨t,rfl⟩:=rx;obtain ⟨t',rfl⟩:=ry;exact in_str (aHy I q rfl)
theorem cY (b:Expr) {op:CmpOp} (h:op≠.In:=by decide) (h2:op≠.NotIn:=by decide):behindInMarks op b=false:=by
 have e1:(op==CmpOp.In)=false:=by cases op <;> first|rfl|exact absurd rfl h
 have e2:(op==CmpOp.NotIn)=false:=by cases op <;> first|rfl|exact absurd rfl h2
 cases b <;> simp [behindInMarks,e1,e2]
theorem aEn {op:CmpOp} {r:R2} (ho:OpR X (compareOp op) r) (ha:PE X a ta) (hb:PE X b tb) (hm:behindInMarks op b=false):PE X (.Compare a [op] [b] pos) (tOp r ta tb):=by
 intro pins s σ H Q I h;exact wpAny_Compare1 (aLn ha hb I h fun v u s2 x y H2 I2 rx ry q=>ho pins s2 σ H2 x y v u Q I2 rx ry q) hm
def aLq (t:TE):TT:=fun σ H Q=>t σ H fun x H'=>∃k,x=.bl k/\Q k H'
theorem MP {op:CmpOp} {r:R2} (ho:OpR X (compareOp op) r) (ha:PE X a ta) (hb:PE X b tb) (hm:behindInMarks op b=false):PT X (.Compare a [op] [b] pos) (aLq (tOp r ta tb)):=by
 intro pins s σ H Q I h;refine wpAny_isTrue_Compare1 (thn (ha pins s σ H _ I h) fun v s1 ⟨x,H1,I1,r1,q1⟩=>thn (hb pins s1 σ H1 _ I1 q1) fun u s2 ⟨y,H2,I2,r2,q2⟩=>
  thn (ho pins s2 σ H2 x y v u _ I2 r1 r2 q2) fun c s3 ⟨z,H3,I3,r3,k,e,q3⟩=>?_) hm
 subst e;cases r3;exact wpAny_truthy_bool ⟨H3,I3,q3⟩
noncomputable def aLr (K:PySem.W.Frag) (x:V) (H:Hp) (k:Bool):Prop:=
 match x with
 | .non=>k=false
 | .bl b=>k=b
 | .int i=>k=(i != 0)
 | .str y=>y.length<=sizeLine/\k=((y.length:Int) != 0)
 | .byt y=>y.size<=sizeLine/\k=((y.size:Int) != 0)
 | .ref p=>(∃xs,SqL K H p xs/\k=!xs.isEmpty)\/(∃xs,SqT K H p xs/\k=!xs.isEmpty)\/∃kvs,H p=some (.dK kvs)/\k=!kvs.isEmpty
 | _=>False
theorem TJ {κ:Type} {kvs:List (κ×V)} {vs:List (κ×Value)} (r:KV kvs vs):(!vs.isEmpty)=!kvs.isEmpty:=by
 cases r <;> rfl
theorem zL {xs:List V} {its:List Value} (r:Vals xs its):(!its.toArray.isEmpty)=!xs.isEmpty:=by
 cases r <;> simp
theorem wZ:(sizeLine:Nat)<2 ^ 63:=by rw [sizeLine_eq];decide
theorem aHz:aNm X (fun x H Q=>∃k,aLr X.K x H k/\Q k H):=by
 intro pins s σ H x v Q I rx h;obtain ⟨k,e,q⟩:=h;have hl:=wZ;have hs:sizeLine=16777216:=sizeLine_eq;cases x with
 | non=>
  cases rx;have e':k=false:=e;subst e';exact truthy_none ⟨H,I,q⟩
 | bl b=>
  cases rx;have e':k=b:=e;subst e';exact wpAny_truthy_bool ⟨H,I,q⟩
 | int i=>
  obtain ⟨t,rfl⟩:=rx;have e':k=(i != 0):=e;subst e';exact PySem.P.truthy_int ⟨H,I,q⟩
 | str y=>
  obtain ⟨t,rfl⟩:=rx;obtain ⟨hy,e'⟩:y.length<=sizeLine/\k=((y.length:Int) != 0):=e;subst e';exact PySem.P.truthy_str (by lia) ⟨H,I.tok _,q⟩
 | byt y=>
  obtain ⟨t,rfl⟩:=rx;obtain ⟨hy,e'⟩:y.size<=sizeLine/\k=((y.size:Int) != 0):=e;subst e';exact PySem.W.truthy_bytes (by lia) ⟨H,I.tok _,q⟩
 | ref p=>
  cases rx;have e':(∃xs,SqL X.K H p xs/\k=!xs.isEmpty)\/(∃xs,SqT X.K H p xs/\k=!xs.isEmpty)\/∃kvs,H p=some (.dK kvs)/\k=!kvs.isEmpty:=e;rcases e' with ⟨xs,hx,e'⟩|⟨xs,hx,e'⟩|⟨kvs,hx,e'⟩
  ·subst e';obtain ⟨its,r,pl,hz⟩:=I.list hx;have hlen:=r.length;exact wpAny_truthy_list pl.isList (by simp only [List.size_toArray];lia) ⟨H,I.tok _,by rw [zL r];exact q⟩
  ·subst e';obtain ⟨its,r,pl,hz⟩:=I.tuple hx;have hlen:=r.length;exact truthy_tuple pl (by simp only [List.size_toArray];lia) ⟨H,I.tok _,by rw [zL r];exact q⟩
  ·subst e';obtain ⟨hz,hS,vs,r,m⟩:kvs.length<=sizeLine/\(p==sysModules)=false/\∃vs,KV kvs vs/\s.heap.DictOf (cX X.prog X.w) p vs:=I.hok p _ hx;have hlen:kvs.length=vs.length:=Paired.length r;exact wpAny_truthy_dict hS m (by lia) ⟨H,I.tok _,by rw [TJ r];exact q⟩
 | _=>exact (show False from e).elim
theorem aAz (ha:PE X a ta) (he:∀whole,isTrue a X.env whole=(do let v <- whole;standAt a.pos;holding [v] (truthy v))) :
  PT X a (fun σ H Q=>ta σ H fun x H'=>∃k,aLr X.K x H' k/\Q k H'):=by
 intro pins s σ H Q I h;exact isTrue_plain (thn (ha pins s σ H _ I h) fun v s1 ⟨x,H1,I1,r1,q1⟩=>aHz pins s1 σ H1 x v Q I1 r1 q1) (he _)
theorem TQ:OpR X (binaryOp .Add) (fun x y H Q=>∃i j,x=.str i/\y=.str j/\i.length+j.length<=sizeLine/\Q (.str (i++j)) H):=by
 intro pins s σ H x y v u Q I rx ry h;obtain ⟨i,j,rfl,rfl,hz,q⟩:=h;obtain ⟨t,rfl⟩:=rx;obtain ⟨t',rfl⟩:=ry;exact add_str (fun t' tk=>⟨.str (i++j),H,I.tok _,⟨_,rfl⟩,q⟩) hz
theorem vals1 {x:V} {us:List Value} (r:Vals [x] us):∃u,us=[u]/\RelV x u:=by
 cases r with
 | cons r1 r2=>cases r2;exact ⟨_,rfl,r1⟩
end
end L2
namespace L2
open PySem PySem.Spec PyProof.Rows
theorem G_ {h:Heap} {dx:Addr} {mA:Str->Option Value} (n:h.Ns1 dx mA):∃od,h.get? dx=some od/\∀name,PySem.W.lookIn name od=some (mA name):=by
 obtain ⟨o,es,ep,ho,hd,hk,_,hm⟩:=n;refine ⟨o,ho,fun name=>?_⟩;have e:=hm name;unfold nsFind findBy at e;rw [<-Array.find?_toList] at e;unfold PySem.W.lookIn;rw [hd];dsimp only;split
 ·rename_i y q;rw [q] at e;exact congrArg some e
 ·rename_i q;rw [q] at e;have a:es.toList.any (·.refKey)=false:=by
   rw [List.any_eq_false];intro y hy;obtain ⟨z,t,hkey⟩:=hk y (Array.mem_toList_iff.mp hy);simp [DictEntry.refKey,hkey]
  have a':¬es.toList.any (·.refKey)=true:=by rw [a];exact Bool.false_ne_true
  rw [if_neg a'];exact congrArg some e
section
variable {prog:Program} {w:World} {A:Around} {E:Value->Shared->Prop} {s:Shared} {K:PySem.W.Frag} {x dx C f:Addr} {mA:Str->Option Value} {name:Str} {v:Value}
end
theorem aAp.some_of {v:V} {o:Option Value} (r:aAp (some v) o):∃u,o=some u/\RelV v u:=by
 cases o with
 | none=>exact (show False from r).elim
 | some u=>exact ⟨u,rfl,r⟩
section
variable {P:Program} {w:World} {H H':Hp} {h h':Heap} {a C dx:Addr} {fs fs':List (Str×V)}
end
section
variable {X:Cx} {pins:List (Addr×Obj)} {σ:St} {H:Hp} {s:Shared} {a C dx:Addr} {fs:List (Str×V)} {f:Str} {v:V} {A:Around} {E:Value->Shared->Prop}
theorem aEo {prog:Program} {w:World} {env:Env} {e:Expr} {f:Str} {pos:Pos} {s:Shared} {Q:Value->Shared->Prop} (hb:attributeBase e f env (eval e env)=eval e env)
  (h:wpAny (model prog w) A (eval e env) (fun o s₁=>wpAny (model prog w) A (getAttr o f true) Q E s₁) E s):wpAny (model prog w) A (eval (.Attribute e f pos) env) Q E s:=
 Attribute_any_ h (by rw [arm_eval_Attribute,hb])
end
section
variable {X:Cx} {o e value:Expr} {f:Str} {pos pos' tpos:Pos} {ta tv:TE}
end
section
variable {X:Cx} {pins:List (Addr×Obj)} {σ:St} {H:Hp} {s:Shared} {A:Around} {E:Value->Shared->Prop} {Q:Value->Shared->Prop} {c:Value} {b:Bool}
end
end L2
namespace L2
open PySem PySem.Spec PyProof.Rows
structure jX (k:Nat) (A:Around):Prop where
 hd:A.handled=none
 dp:A.depth+3*k+5<recursionLimit
 un:A.units+16*k+200<cLine
theorem jX.mono {j k:Nat} {A:Around} (r:jX k A) (h:j<=k):jX j A:=⟨r.hd,by have:=r.dp;lia,by have:=r.un;lia⟩
theorem jX.deeper {k:Nat} {A:Around} (r:jX (k+1) A) (env:Env):jX k (A.deeper env):=
 ⟨r.hd,by have:=r.dp;show A.depth+1+3*k+5<_;lia,by have:=r.un;show A.units+3+16*k+200<_;lia⟩
theorem TV {A:Around} {C:Addr} {us:List Value} {kw:List (Str×Value)}:(A.under (.builtin "type.__call__" ⟨.ref C::us,kw⟩)).depth=A.depth+1:=by
 first|rfl|simp [Around.under,Code.weight,Code.isCreation,Code.isGuard,Code.isCaller,Code.frames,Code.isFrame,guardIds]
theorem TX {A:Around} {C:Addr} {us:List Value} {kw:List (Str×Value)}:(A.under (.builtin "type.__call__" ⟨.ref C::us,kw⟩)).units=A.units+1:=by
 first|rfl|simp [Around.under,Code.cUnits,Code.frames,Code.isFrame]
theorem jX.make {k:Nat} {A:Around} (r:jX (k+1) A) (C:Addr) (us:List Value) (kw:List (Str×Value)):jX k (A.under (.builtin "type.__call__" ⟨.ref C::us,kw⟩)):=
 ⟨r.hd,by have:=r.dp;rw [TV];lia,by have:=r.un;rw [TX];lia⟩
theorem jX.depth {k:Nat} {A:Around} (r:jX k A):A.depth<recursionLimit:=by have:=r.dp;lia
theorem jX.units {k:Nat} {A:Around} (r:jX k A):A.units+64<cLine:=by have:=r.un;lia
def aLs:TA:=fun _ H Q=>Q [] H
noncomputable def TY (ta:TE) (tr:TA):TA:=fun σ H Q=>ta σ H fun x H1=>tr σ H1 fun xs H2=>Q (x::xs) H2
section
variable {X:Cx} {e:Expr} {es:List Expr} {te:TE} {t:TA} {pos:Pos}
theorem iJ:PA X [] aLs:=fun _ _ _ _ H Q I h=>Calls.spliced_nil ⟨[],H,I,.nil,h⟩
theorem bI (ha:PE X e te) (hr:PA X es t) (hs:starEach (e::es) X.env=(false,eval e X.env)::starEach es X.env:=by rfl):PA X (e::es) (TY te t):=by
 intro pos pins s σ H Q I h;rw [hs];show wpAny _ _ (spliced ((false,eval e X.env)::backTo pos (starEach es X.env))) _ _ s;refine Calls.spliced_cons (thn (ha pins s σ H _ I h) fun u s1 ⟨x,H1,I1,r1,q1⟩=>?_);exact thn (hr pos pins s1 σ H1 _ I1 q1) fun us s2 ⟨xs,H2,I2,r2,q2⟩=>⟨x::xs,H2,I2,.cons r1 r2,q2⟩
noncomputable def aNo (t:TA):TE:=fun σ H Q=>t σ H fun xs H1=>xs.length<=sizeLine/\∀p,H1 p=none->Q (.ref p) (upd H1 p (.tup xs))
noncomputable def aNp (t:TA):TE:=fun σ H Q=>t σ H fun xs H1=>xs.length<=sizeLine/\∀p,H1 p=none->Q (.ref p) (upd H1 p (.lst xs))
theorem aD5 {x1} (h:PA X es t):PE X (.Tuple es x1 pos) (aNo t):=by
 intro pins s σ H Q I hq;refine wpAny_Tuple_spliced (thn (h pos pins s σ H _ I hq) fun us s1 ⟨xs,H1,I1,r,z,q⟩=>⟨by rw [<-r.length];exact z,?_⟩);have hf:H1 s1.heap.objs.size=none:=I1.hok.fresh (Nat.le_refl _);refine ⟨.ref s1.heap.objs.size,upd H1 s1.heap.objs.size (.tup xs),I1.laid (t':=s1.toks) (fun b u e=>Heap.get?_push_of_some _ e) (Nat.le_refl _) ?_,rfl,q _ hf⟩;exact ⟨z,us,r,⟨_,Heap.get?_push_size _ rfl,rfl,_,rfl⟩⟩
theorem aD6 (h:PA X es t):PE X (.List es pos) (aNp t):=by
 intro pins s σ H Q I hq;refine wpAny_List_spliced (thn (h pos pins s σ H _ I hq) fun us s1 ⟨xs,H1,I1,r,z,q⟩=>⟨by rw [<-r.length];exact z,?_⟩);have hf:H1 s1.heap.objs.size=none:=I1.hok.fresh (Nat.le_refl _);refine ⟨.ref s1.heap.objs.size,upd H1 s1.heap.objs.size (.lst xs),I1.laid (t':=s1.toks) (fun b u e=>Heap.get?_push_of_some _ e) (Nat.le_refl _) ?_,rfl,q _ hf⟩;exact ⟨z,us,0,r,Heap.get?_push_size _ rfl⟩
end
abbrev Sp:=List V->Hp->VK->XK->Prop
abbrev CXT:=List Env->Hp->Shared->XK->Value->Shared->Prop
structure aEp (P:Program) (w:World) (K:PySem.W.Frag) (mg:Str->Option Value) (base:Heap) (A:Around) (outer:List Env) (s:Shared) (H:Hp):Prop where
 frames:A.frames=some outer
 mod:Mod K mg base
 bs:∀b o,base.get? b=some o->s.heap.get? b=some o/\H b=none
 bsz:base.objs.size<=s.heap.objs.size
 S8:s.heap.FunFrames base outer
 frf:∀b∈frs outer,H b=none
 hok:HOk P w H s.heap
 bare:AllBare s.gens
noncomputable def CE (outer:List Env) (P:Program) (w:World) (H:Hp) (s:Shared) (Q:VK) (u:Value) (s':Shared):Prop:=
 ∃v H',s'.os=s.os/\AllBare s'.gens/\Un (frs outer) [] H H' s.heap s'.heap/\HOk P w H' s'.heap/\RelV v u/\Q v H'
noncomputable def CR (CX:CXT) (outer:List Env) (P:Program) (w:World) (H:Hp) (s:Shared) (Q:VK) (E:XK) (r:Result) (s':Shared):Prop:=
 match r with
 | .ok (.ret u)=>CE outer P w H s Q u s'
 | .ok _=>False
 | .error e=>CX outer H s E e s'
structure o7 (P:Program) (w:World) (K:PySem.W.Frag) (mg:Str->Option Value) (base:Heap) (CX:CXT) (k:Nat) (f:Addr) (fd:FuncData) (ps:List Str) (sp:Sp):Prop where
 len:∀vs H Q E,sp vs H Q E->vs.length=ps.length
 run:∀(A:Around) (outer:List Env) (s:Shared) (H:Hp) (args:Args) (us:List Value) (vs:List V) (Q:VK) (E:XK),jX k A->aEp P w K mg base A outer s H->BindsTo s fd args (ps.zip us)->Vals vs us->sp vs H Q E->
  codeAny (model P w) A (.call (.ref f) args) (CR CX outer P w H s Q E) s
theorem aEp.make {P:Program} {w:World} {K:PySem.W.Frag} {mg:Str->Option Value} {base:Heap} {A:Around} {outer:List Env} {s:Shared} {H:Hp} (e:aEp P w K mg base A outer s H) (C:Addr) (us:List Value) (kw:List (Str×Value)) :
  aEp P w K mg base (A.under (.builtin "type.__call__" ⟨.ref C::us,kw⟩)) outer s H:=⟨by first|exact e.frames|(simpa [Around.under,Code.envs,Code.isFrame,pushEnvs] using e.frames),e.mod,e.bs,e.bsz,e.S8,e.frf,e.hok,e.bare⟩
section
variable {X:Cx} {pins:List (Addr×Obj)} {σ:St} {H:Hp} {s s':Shared}
theorem Inv.env0 (I:Inv X pins σ H s):aEp X.prog X.w X.K X.mg X.base X.A X.stack s H:=
 ⟨I.ok.frames,I.ok.mod,I.bs,Nat.le_trans I.ok.bsz I.sz,I.stack,I.MK,I.hok,I.bare⟩
theorem Inv.after {Q:VK} {u:Value} (I:Inv X pins σ H s) (h:CE X.stack X.prog X.w H s Q u s'):EP X pins σ Q u s':=by
 obtain ⟨v,H',os,bare,un,hok,r,q⟩:=h;obtain ⟨hh,g,d,t,os'⟩:=s';obtain rfl:os'=s.os:=os;exact ⟨v,H',I.call (h':=hh) (g':=g) (d':=d) (t':=t) (ch:=[]) un hok bare (fun b z=>absurd z (by simp)),r,q⟩
end
noncomputable def aLt (sp:Sp) (dvs:List V) (E:XK) (t:TA):TE:=fun σ H Q=>t σ H fun vs H1=>sp (vs++dvs) H1 Q E
noncomputable def Binds (K:PySem.W.Frag) (fd:FuncData) (ps:List Str) (ds:List Value):Prop:=
 ∀(s:Shared) (us:List Value),K.In s.heap->(us++ds).length=ps.length->BindsTo s fd ⟨us,[]⟩ (ps.zip (us++ds))
theorem Binds.all {K:PySem.W.Frag} {fd:FuncData} {ps:List Str} (h:∀us:List Value,us.length=ps.length->bindArgs fd ⟨us,[]⟩=pure (ps.zip us)):Binds K fd ps []:=fun s us _ hl=>by
 rw [List.append_nil] at hl ⊢;exact .of_eq (h us hl)
noncomputable def QC (CX:CXT) (X:Cx) (E:XK):Prop:=∀(pins:List (Addr×Obj)) (σ:St) (H:Hp) (s:Shared) (e:Value) (s':Shared),Inv X pins σ H s->CX X.stack H s E e s'->X.xe e s'
section
variable {X:Cx} {CX:CXT} {k:Nat} {f C:Addr} {fd:FuncData} {ps:List Str} {sp:Sp} {dvs:List V} {ds:List Value} {E:XK} {x m:Str} {p pos apos:Pos} {e o:Expr} {es:List Expr} {ta:TE} {t:TA}
theorem aI0 {pins:List (Addr×Obj)} {σ:St} {H:Hp} {s:Shared} {Q:VK} {us:List Value} {vs:List V} (F:o7 X.prog X.w X.K X.mg X.base CX k f fd ps sp) (hr:jX k X.A) (hb:Binds X.K fd ps ds) (hd:Vals dvs ds) (hx:QC CX X E)
  (I:Inv X pins σ H s) (r:Vals vs us) (h:sp (vs++dvs) H Q E):wpAny (model X.prog X.w) X.A (call (.ref f) us) (EP X pins σ Q) X.xe s:=by
 have r2:Vals (vs++dvs) (us++ds):=r.append hd;have hl:(us++ds).length=ps.length:=by rw [<-r2.length];exact F.len _ _ _ _ h
 refine wpAny_call (codeAny_mono (F.run X.A X.stack s H ⟨us,[]⟩ (us++ds) (vs++dvs) Q E hr I.env0 (hb s us I.kIn hl) r2 h) fun r s' hq=>?_);cases r with
 | error e=>exact hx pins σ H s e s' I hq
 | ok fl=>
  cases fl with
  | ret u=>exact I.after hq
  | next=>exact False.elim hq
  | brk=>exact False.elim hq
  | cont=>exact False.elim hq
theorem A_ (F:o7 X.prog X.w X.K X.mg X.base CX k f fd ps sp) (hr:jX k X.A) (hg:Gl X x) (hm:X.mg x=some (.ref f)) (hk:PySem.W.keepIn X.K (.ref f)=true) (hb:Binds X.K fd ps ds) (hd:Vals dvs ds) (hx:QC CX X E)
  (ha:PA X (e::es) t) (hdb:nDb x:=by decide) (he:starEach (e::es) X.env=(false,eval e X.env)::starEach es X.env:=by rfl) (hpl:(backTo pos (starEach es X.env)).any (·.1)=false:=by rfl) :
  PE X (.Call (.Name x p) (e::es) [] pos) (aLt sp dvs E t):=by
 intro pins s σ H Q I h;refine wpAny_Call_Name_kw (o8 I hg hm ?_ hdb);refine PySem.W.callWith_K (h₀:=X.base) I.ok.mod.kin hk (thn (ha pos pins s σ H _ I h) fun us s1 ⟨vs,H1,I1,r,q⟩=>⟨I1.kIn,?_⟩) he hpl;exact aI0 F hr hb hd hx I1 r q
end
section
variable {X:Cx} {CX:CXT} {k:Nat} {f C:Addr} {fd:FuncData} {ps ks:List Str} {sp:Sp} {E:XK} {x m:Str} {p pos apos kpos:Pos} {e o:Expr} {es:List Expr} {kws:List Keyword} {te ta:TE} {t tk:TA} {nm:Option Str}
variable {g:List Value->List Value->List Value} {gV:List V->List V->List V}
end
structure bO (N P:List Str) (sc:Scope):Prop where
 kind:sc.kind=.function
 co:sc.isCoroutine=false
 gen:sc.isGenerator=false
 nd:N.Nodup
 pre:N.take P.length=P
 par:∀x∈P,sc.names.lookup x=some .local\/sc.names.lookup x=some .cell
 nofree:∀y∈sc.names,y.2≠.free
theorem HB {kindOf:Str->Option NameKind} {x:Str}:∀{binds:List (Str×Value)} {m:Str->Option Value},(∀v,(x,v)∉binds)->bindL kindOf binds m x=m x
 | [],_,_=>rfl
 | (n,v)::r,m,h=>by
  unfold bindL;rw [HB fun w hw=>h w (List.mem_cons_of_mem _ hw)];split
  ·have:x≠n:=by rintro rfl;exact h v List.mem_cons_self
   simp [this]
  ·rfl
theorem HD {kindOf:Str->Option NameKind} {x:Str}:∀{binds:List (Str×Value)} {m:Str->Option Value},(∀v,(x,v)∉binds)->bindC kindOf binds m x=m x
 | [],_,_=>rfl
 | (n,v)::r,m,h=>by
  unfold bindC;rw [HD fun w hw=>h w (List.mem_cons_of_mem _ hw)];split
  ·rfl
  ·have:x≠n:=by rintro rfl;exact h v List.mem_cons_self
   simp [this]
theorem HF {kindOf:Str->Option NameKind} {x:Str} {v:Value}:∀{P:List Str} {vs:List Value} {i:Nat} {m:Str->Option Value},P.Nodup->P[i]?=some x->vs[i]?=some v->kindOf x=some .local->
  bindL kindOf (P.zip vs) m x=some v
 | [],_,_,_,_,h,_,_=>by simp at h
 | _::_,[],_,_,_,_,h,_=>by simp at h
 | p::P,w::vs,0,m,nd,h1,h2,hk=>by
  simp at h1 h2;subst h1;subst h2;show bindL kindOf ((p,w)::P.zip vs) m p=_;unfold bindL;rw [HB fun v hv=>(List.nodup_cons.mp nd).1 (List.of_mem_zip hv).1,if_pos hk];simp
 | p::P,w::vs,i+1,m,nd,h1,h2,hk=>by
  show bindL kindOf ((p,w)::P.zip vs) m x=_;unfold bindL;exact HF (i:=i) (List.nodup_cons.mp nd).2 (by simpa using h1) (by simpa using h2) hk
theorem HH {kindOf:Str->Option NameKind} {x:Str} {v:Value}:∀{P:List Str} {vs:List Value} {i:Nat} {m:Str->Option Value},P.Nodup->P[i]?=some x->vs[i]?=some v->kindOf x≠some .local->
  bindC kindOf (P.zip vs) m x=some v
 | [],_,_,_,_,h,_,_=>by simp at h
 | _::_,[],_,_,_,_,h,_=>by simp at h
 | p::P,w::vs,0,m,nd,h1,h2,hk=>by
  simp at h1 h2;subst h1;subst h2;show bindC kindOf ((p,w)::P.zip vs) m p=_;unfold bindC;rw [HD fun v hv=>(List.nodup_cons.mp nd).1 (List.of_mem_zip hv).1,if_neg hk];simp
 | p::P,w::vs,i+1,m,nd,h1,h2,hk=>by
  show bindC kindOf ((p,w)::P.zip vs) m x=_;unfold bindC;exact HH (i:=i) (List.nodup_cons.mp nd).2 (by simpa using h1) (by simpa using h2) hk
noncomputable def start (N:List Str) (vs:List V):St:=vs.map some++List.replicate (N.length-vs.length) none
noncomputable def lY (CX:CXT) (P:Program) (w:World) (K:PySem.W.Frag) (mg:Str->Option Value) (base:Heap) (N:List Str) (qual:Str) (scope:Scope) (f:Addr) (cd:Value) (A:Around) (outer:List Env) (s:Shared) (H:Hp) (E:XK):Cx where
 prog:=P
 w:=w
 K:=K
 mg:=mg
 base:=base
 A:=A.deeper (envOfC qual scope s.heap.objs.size f cd)
 N:=N
 s₀:=s
 H₀:=H
 env:=envOfC qual scope s.heap.objs.size f cd
 outer:=outer
 stack:=envOfC qual scope s.heap.objs.size f cd::outer
 ex:=[]
 calm:=true
 fn:=fun _=>true
 pn:=[]
 xe:=fun e s'=>wpAny (model P w) (A.deeper (envOfC qual scope s.heap.objs.size f cd)) (leaving (envOfC qual scope s.heap.objs.size f cd) e) (fun _ s''=>CX outer H s E e s'') (fun e' s''=>CX outer H s E e' s'') s'
theorem QD {sc:Scope} {n:Nat} {x:Str} (h:sc.names.lookup x=some .cell):∃c,(cellsFrom n sc.names []).lookup x=some c:=by
 have q:=PySem.W.cellsFrom_some sc.names n [] (.inl h);exact Option.isSome_iff_exists.mp q
theorem V_ {CX:CXT} {P:Program} {w:World} {K:PySem.W.Frag} {mg:Str->Option Value} {base:Heap} {N ps:List Str} {qual:Str} {scope:Scope} {f:Addr} {cd:Value} {A:Around} {outer:List Env} {s s1:Shared} {H:Hp} {E:XK} {us:List Value} {vs:List V}
  (S:bO N ps scope) (hd:A.handled=none) (e0:aEp P w K mg base A outer s H) (hl:vs.length=ps.length) (r:Vals vs us)
  (x:InCallC s s.heap.objs.size (bindL (envOfC qual scope s.heap.objs.size f cd).kindOf (ps.zip us) fun _=>none) (cellsFrom (s.heap.objs.size+1) scope.names []) (bindC (envOfC qual scope s.heap.objs.size f cd).kindOf (ps.zip us) fun _=>none) s1) :
  Inv (lY CX P w K mg base N qual scope f cd A outer s H E) [] (start N vs) H s1:=by
 have hpl:ps.length<=N.length:=by have:=congrArg List.length S.pre;rw [List.length_take] at this;lia
 obtain ⟨h1,tk,rfl,hk⟩:=x.done;have noA:∀b:Addr,b∉(lY CX P w K mg base N qual scope f cd A outer s H E).ex:=fun b z=>absurd (show b∈([]:List Addr) from z) (by simp)
 refine ⟨⟨e0.mod,S.kind,rfl,rfl,Nat.le_refl _,fun y z c h1 h2=>?_,fun y hy=>?_,fun y c _ h=>?_,fun _=>hd,Around.frames_deeper e0.frames,.inr ⟨rfl,rfl⟩,fun b z=>absurd z (noA b),e0.bs,e0.bsz,fun b _ _=>noA b,fun b z=>absurd z (noA b),e0.S8,e0.frf⟩,
  rfl,e0.bare,Un.kept hk,⟨_,x.toInCall.ns,fun i y v h1 h2 h3=>?_⟩,fun y c h=>⟨_,x.cell y c h⟩,e0.hok.fresh (Nat.le_refl _),fun y c h=>?_,fun p hp=>absurd (show p∈([]:List (Addr×Obj)) from hp) (by simp),e0.hok.kept hk,?_⟩
 ·exact name_of_addr x.apart (PySem.mem_of_lookup h1) (PySem.mem_of_lookup h2)
 ·have hy:scope.names.lookup y=some .cell\/scope.names.lookup y=some .free:=hy;rcases hy with hy|hy
  ·exact QD hy
  ·exact absurd rfl (S.nofree _ (PySem.mem_of_lookup hy))
 ·exact Nat.le_of_lt (x.above y c (PySem.mem_of_lookup h))
 ·have hi:i<vs.length:=by
   unfold start at h2;by_cases hi:i<vs.length
   ·exact hi
   ·rw [List.getElem?_append_right (by simpa using hi)] at h2;rw [List.getElem?_replicate] at h2;split at h2 <;> cases h2
  have ha:vs[i]?=some v:=by
   unfold start at h2;rw [List.getElem?_append_left (by simpa using hi),List.getElem?_map] at h2;cases e:vs[i]? with
   | none=>rw [e] at h2;cases h2
   | some a=>rw [e] at h2;cases h2;rfl
  obtain ⟨u,hu,rv⟩:=r.get ha;have hp:ps[i]?=some y:=by
   rw [<-S.pre,List.getElem?_take_of_lt (by lia)];exact h1
  have ndP:ps.Nodup:=by rw [<-S.pre];exact S.nd.sublist (List.take_sublist _ _)
  refine ⟨u,rv,?_⟩;rcases S.par y (List.mem_of_getElem? hp) with k|k
  ·exact .inl ⟨k,HF ndP hp hu k⟩
  ·obtain ⟨c,e⟩:=QD (n:=s.heap.objs.size+1) k;refine .inr ⟨.inl k,c,e,?_⟩;have q:=x.cell y c e;rw [HH ndP hp hu (by show scope.names.lookup y≠_;rw [k];decide)] at q;exact q
 ·exact e0.hok.fresh (Nat.le_of_lt (x.above y c (PySem.mem_of_lookup h)))
 ·unfold start;show _=N.length;rw [List.length_append,List.length_map,List.length_replicate];lia
theorem aI1 {CX:CXT} {P:Program} {w:World} {K:PySem.W.Frag} {mg:Str->Option Value} {base:Heap} {k:Nat} {f:Addr} {name qual:Str} {params:Arguments} {body:List Stmt} {scope:Scope} {dV kV doc pm cdv ct oc:Value} {an od:Option Addr}
  {osl:Array (Option Value)} {N ps:List Str} {sp:Sp} (lk:K.lookup f=some ⟨oc,od,.func (PySem.W.fnOf name qual params body scope dV kV doc pm an cdv ct),osl⟩) (hcd:PySem.W.codeIn K cdv qual=true) (S:bO N ps scope)
  (len:∀vs H Q E,sp vs H Q E->vs.length=ps.length)
  (hbody:∀(A:Around) (outer:List Env) (s:Shared) (H:Hp) (vs:List V) (Q:VK) (E:XK),jX k (A.deeper (envOfC qual scope s.heap.objs.size f cdv))->sp vs H Q E->
   ∃t,PSs (lY CX P w K mg base N qual scope f cdv A outer s H E) body t/\t {nx:=fun _ H'=>Q .non H',rt:=Q} (start N vs) H) :
  o7 P w K mg base CX (k+1) f (PySem.W.fnOf name qual params body scope dV kV doc pm an cdv ct) ps sp:=by
 refine ⟨len,fun A outer s H args us vs Q E hr e0 hb r hsp=>?_⟩;have hl:=len _ _ _ _ hsp;have KX:K.In s.heap:=e0.mod.kin.keeps fun b o e=>(e0.bs b o e).1
 have lim:s.heap.NoLimit:=e0.mod.nolimit.keeps fun b o e=>(e0.bs b o e).1
 have hkind:∀y∈ps.zip us,scope.names.lookup y.1=some .local\/(scope.names.lookup y.1=some .cell/\((cellsFrom (s.heap.objs.size+1) scope.names []).lookup y.1).isSome=true):=fun ⟨n,v⟩ hy=>by
  rcases S.par n (List.of_mem_zip hy).1 with q|q
  ·exact .inl q
  ·exact .inr ⟨q,PySem.W.cellsFrom_some _ _ _ (.inl q)⟩
 refine codeAny_call_function hr.depth (KX _ _ lk) rfl S.co S.gen rfl (PySem.W.codeRec_of KX hcd) (hb _ _ _ _ ?_);refine wpAny_newFunctionEnv_cells S.kind hkind fun env he s1 x=>?_
 subst he;refine ⟨lim.keeps x.toInCall.keep,codeAny_func ?_⟩;obtain ⟨t,ht,hq⟩:=hbody A outer s H vs Q E (hr.deeper _) hsp;have I:Inv (lY CX P w K mg base N qual scope f cdv A outer s H E) [] (start N vs) H s1:=V_ S hr.hd e0 hl r x;refine wpAny_mono (ht [] s1 (start N vs) H _ I hq) (fun fl s' hs=>?_) fun e s' hs=>hs
 have fin:∀{σ':St} {H':Hp} {v:V} {u:Value},Inv (lY CX P w K mg base N qual scope f cdv A outer s H E) [] σ' H' s'->RelV v u->Q v H'->CE outer P w H s Q u s':=
  fun {σ' H' v u} J rv q=>⟨v,H',J.os,J.bare,J.base,J.hok,rv,q⟩
 cases fl with
 | ret u=>
  obtain ⟨v,σ',H',J,rv,q⟩:=hs;exact fin J rv q
 | next=>
  obtain ⟨σ',H',J,q⟩:=hs;exact fin (v:=V.non) (u:=Value.none) J rfl q
 | brk=>
  obtain ⟨_,_,_,q⟩:=hs;exact False.elim q
 | cont=>
  obtain ⟨_,_,_,q⟩:=hs;exact False.elim q
end L2
namespace L2
open PySem PySem.Spec PyProof.Rows
section
variable {X:Cx} {x:Str} {p pos:Pos} {e:Expr} {es:List Expr} {t:TA} {id T:String} {r:List V->Hp->VK->Prop}
noncomputable def tCB (r:List V->Hp->VK->Prop) (t:TA):TE:=fun σ H Q=>t σ H fun vs H1=>r vs H1 Q
theorem wR (hc:oA X (.builtin id) r) (hg:Gl X x) (hm:X.mg x=none) (hv:bootBuiltins x=some (.builtin id)) (ha:PA X (e::es) t) (hn:x ≠ "__name__":=by decide) (hdb:nDb x:=by decide)
  (he:starEach (e::es) X.env=(false,eval e X.env)::starEach es X.env:=by rfl) (hpl:(backTo pos (starEach es X.env)).any (·.1)=false:=by rfl):PE X (.Call (.Name x p) (e::es) [] pos) (tCB r t):=by
 intro pins s σ H Q I h;refine wpAny_Call_Name_kw (n6 I hg hm hv ?_ hn hdb);exact PyProof.Rows.callWith_builtin1 (thn (ha pos pins s σ H _ I h) fun us s1 ⟨vs,H1,I1,r1,q1⟩=>hc pins s1 σ H1 vs us Q I1 r1 q1) he hpl
theorem WD (hc:oA X (.type T) r) (hg:Gl X x) (hm:X.mg x=none) (hv:bootBuiltins x=some (.type T)) (ha:PA X (e::es) t) (hn:x ≠ "__name__":=by decide) (hdb:nDb x:=by decide)
  (he:starEach (e::es) X.env=(false,eval e X.env)::starEach es X.env:=by rfl) (hpl:(backTo pos (starEach es X.env)).any (·.1)=false:=by rfl):PE X (.Call (.Name x p) (e::es) [] pos) (tCB r t):=by
 intro pins s σ H Q I h;refine wpAny_Call_Name_kw (n6 I hg hm hv ?_ hn hdb);exact PyProof.Rows.callWith_type1 (thn (ha pos pins s σ H _ I h) fun us s1 ⟨vs,H1,I1,r1,q1⟩=>hc pins s1 σ H1 vs us Q I1 r1 q1) he hpl
end
end L2
namespace HT
open PySem PyProof.Rows
section
open PySem.SeqAt
open PySem.AutoSeq1 (wpAny_loadPart')
open PySem.MeetsSeq PySem.MeetsSeq2 PySem.MeetsSeq3
end
section
variable {prog:Program} {w:World} {A:Around} {E:Value->Shared->Prop} {s:Shared}
theorem aEq {t b:Addr} {vs ws:List Value} {Q:Value->Shared->Prop} (ht:IsTup s.heap t vs.toArray) (hb:IsTup s.heap b ws.toArray) (hv:vs≠[])
  (h1:ws=[]->Q (.ref t) s) (h2:ws≠[]->Q (.ref s.heap.objs.size) {s with heap:=s.heap.push {cls:=.type "tuple",data:=.seq (vs++ws).toArray}})
  (hsz:vs.length+ws.length<=sizeLine):wpAny (model prog w) A (binaryOp .Add (.ref t) (.ref b)) Q E s:=by
 obtain ⟨⟨cls,dd,data,sl⟩,ho,hc,n,hd⟩:=id ht;obtain ⟨⟨cls2,dd2,data2,sl2⟩,ho2,hc2,n2,hd2⟩:=id hb;simp only at hc hd hc2 hd2;subst hc hd hc2 hd2;have e:vs.toArray++ws.toArray=(vs++ws).toArray:=by simp
 by_cases hw:ws=[]
 ·exact concat_meets ⟨_,ho,rfl⟩ ⟨_,ho2,rfl⟩ noFill_tuple_add seq_tuple_add PySem.F.slot_tuple_add PySem.F.entry_tuple_add (PySem.F.args_tuple_add_2 _ _)
   (tuple_addW1 t b vs.toArray ws.toArray n n2 dd dd2 sl sl2 (by simpa using hv) (by simp [hw])) ⟨ho,ho2,h1 hw⟩
 ·refine concat_meets ⟨_,ho,rfl⟩ ⟨_,ho2,rfl⟩ noFill_tuple_add seq_tuple_add PySem.F.slot_tuple_add PySem.F.entry_tuple_add (PySem.F.args_tuple_add_2 _ _)
   (tuple_addW2 t b vs.toArray ws.toArray n n2 dd dd2 sl sl2 (by simpa using hv) (by simpa using hw) (by rw [List.size_toArray,List.size_toArray];exact hsz)) ⟨ho,ho2,?_⟩
  rw [e];exact h2 hw
noncomputable def sIx (n d:Nat):Option Int->Nat
 | none=>d
 | some v=>if v<0 then (v+(n:Int)).toNat else min v.toNat n
theorem aI2 (n d:Nat) (hd:d<=n) (o:Option Int):sIx n d o<=n:=by
 cases o with
 | none=>exact hd
 | some v=>
  show (if v<0 then (v+(n:Int)).toNat else min v.toNat n)<=n;by_cases hv:v<0
  ·rw [if_pos hv];lia
  ·rw [if_neg hv];exact Nat.min_le_right _ _
theorem WF (v:Int) (n d:Nat):(if v<0 then max (v+(n:Int)) 0 else min v (n:Int))=((sIx n d (some v):Nat):Int):=by
 show (if v<0 then max (v+(n:Int)) 0 else min v (n:Int))=(((if v<0 then (v+(n:Int)).toNat else min v.toNat n):Nat):Int);by_cases hv:v<0
 ·simp only [if_pos hv];lia
 ·simp only [if_neg hv];lia
theorem T3 (lo hi:Option Int) (n:Nat):Builtin.Slice.sliceAdjust lo hi 1 (n:Int)=(((sIx n 0 lo:Nat):Int),((sIx n n hi:Nat):Int)):=by
 have h1:¬((1:Int)<0):=by lia
 unfold Builtin.Slice.sliceAdjust;simp only [h1,if_false];refine Prod.ext ?_ ?_
 ·cases lo with
  | none=>rfl
  | some v=>exact WF v n 0
 ·cases hi with
  | none=>rfl
  | some v=>exact WF v n n
theorem T4 (i j:Nat):Builtin.Slice.slicePlaces (i:Int) (j:Int) 1=j-i:=by
 unfold Builtin.Slice.slicePlaces;have h1:(1:Int) > 0:=by lia
 simp only [h1,if_true,Int.ediv_one];split <;> lia
theorem zM {v:Value} {o:Option Int} {Q:Option Int->Shared->Prop} (p:IsPart v o) (h:Q o s):wpAny (model prog w) A (Builtin.Slice.slicePartIndex v) Q E s:=by
 cases p with
 | none=>exact slicePart_none h
 | int i t=>exact slicePart_int h
theorem wM {sl:Addr} {vl vu:Value} {lo hi:Option Int} {n:Nat} {Q:Int×Int×Nat->Shared->Prop} (hs:s.heap.IsSliceOf sl vl vu .none) (pl:IsPart vl lo) (pu:IsPart vu hi)
  (h:Q (((sIx n 0 lo:Nat):Int),1,sIx n n hi-sIx n 0 lo) s):wpAny (model prog w) A (Builtin.Slice.sliceApplied (.ref sl) (pure (n:Int))) Q E s:=by
 obtain ⟨os,hos,hcs,hds⟩:=id hs;unfold Builtin.Slice.sliceApplied Builtin.Slice.sliceFields;refine wpAny_bind (wpAny_bind (wpAny_field hos hds (x:=vl) rfl (wpAny_bind (wpAny_field hos hds (x:=vu) rfl (wpAny_bind (wpAny_field hos hds (x:=.none) rfl (wpAny_pure ?_)))))));refine wpAny_bind (slicePart_none ?_);show wpAny _ _ (if ((1:Int)==0)=true then _ else _) _ _ s;rw [if_neg (by decide)];refine wpAny_bind (zM pl (wpAny_bind (zM pu (wpAny_bind (wpAny_pure ?_)))));show wpAny _ _ (match Builtin.Slice.sliceAdjust lo hi 1 (n:Int) with|(lo,hi)=>pure (lo,(1:Int),Builtin.Slice.slicePlaces lo hi 1)) _ _ s;rw [T3 lo hi n];show wpAny _ _ (pure (((sIx n 0 lo:Nat):Int),(1:Int),Builtin.Slice.slicePlaces ((sIx n 0 lo:Nat):Int) ((sIx n n hi:Nat):Int) 1)) _ _ s;rw [T4];exact wpAny_pure h
theorem aB0 (xs:Array Value) (i k:Nat):((List.range k).filterMap fun (m:Nat)=>xs[((i:Int)+(m:Int)*1).toNat]?).toArray=((xs.toList.drop i).take k).toArray:=by
 have e:(fun (m:Nat)=>xs[((i:Int)+(m:Int)*1).toNat]?)=fun m=>xs[i+m]?:=by
  funext m
  have:((i:Int)+(m:Int)*1).toNat=i+m:=by lia
  rw [this]
 rw [e];have:=pick_run xs i k;rw [List.filterMap_map] at this;have e2:((fun x=>xs[x]?) ∘ fun x=>i+x)=fun m=>xs[i+m]?:=rfl
 rw [e2] at this;rw [this]
theorem o_ {t sl:Addr} {items:Array Value} {vl vu:Value} {lo hi:Option Int} {Q:Value->Shared->Prop} (ht:IsTup s.heap t items) (hs:s.heap.IsSliceOf sl vl vu .none) (pl:IsPart vl lo) (pu:IsPart vu hi)
  (hw:¬(sIx items.size 0 lo=0/\sIx items.size items.size hi=items.size))
  (h:Q (.ref s.heap.objs.size) {s with heap:=s.heap.push {cls:=.type "tuple",data:=.seq ((items.toList.drop (sIx items.size 0 lo)).take (sIx items.size items.size hi-sIx items.size 0 lo)).toArray}})
  (hsz:items.size<=sizeLine):wpAny (model prog w) A (getItem (.ref t) (.ref sl)) Q E s:=by
 have htake:sizeOk (.seq ((items.toList.drop (sIx items.size 0 lo)).take (sIx items.size items.size hi-sIx items.size 0 lo)).toArray):=by
  show ((items.toList.drop (sIx items.size 0 lo)).take (sIx items.size items.size hi-sIx items.size 0 lo)).toArray.size<=sizeLine;rw [List.size_toArray,List.length_take,List.length_drop,Array.length_toList];lia
 have hj:sIx items.size items.size hi<=items.size:=aI2 _ _ (Nat.le_refl _) hi;obtain ⟨os,hos,hcs,hds⟩:=id hs;have hTs:s.TypeIs (.ref sl) "slice":=⟨os,hos,hcs⟩
 unfold getItem
 try with_reducible refine wpAny_holding ?_
 first|refine wpAny_bind (wpAny_pure ?_)|skip
 refine wpAny_bind (wpAny_sequenceKey ht.typeIs (by decide) ?_);refine wpAny_bind (wpAny_callSpecial?_slot (name:=Str.ofString "__getitem__") ht.typeIs PyProof.Rows.slot_tuple_getitem
  (wpAny_call_entry PyProof.Rows.slot_tuple_getitem ht.typeIs entry_tuple_getitem ?_ (args_tuple_getitem _ _)))
 show wpAny _ _ (Builtin.Tuple.tupleItemsOf (.ref t) >>= _) _ _ s;refine wpAny_bind (tupleItemsOf_ ht ?_);refine wpAny_bind (wpAny_typeOf hTs ?_);rw [if_pos (by decide)];refine wpAny_bind (wM hs pl pu ?_);have hno:¬((((sIx items.size 0 lo:Nat):Int)==0&&(1:Int)==1&&(sIx items.size items.size hi-sIx items.size 0 lo)==items.size)=true):=by
  intro q;rw [Bool.and_eq_true,Bool.and_eq_true] at q;have q1:((sIx items.size 0 lo:Nat):Int)=0:=eq_of_beq q.1.1;have q2:sIx items.size items.size hi-sIx items.size 0 lo=items.size:=eq_of_beq q.2;exact hw ⟨by lia,by lia⟩
 show wpAny _ _ (if (((sIx items.size 0 lo:Nat):Int)==0&&(1:Int)==1&&(sIx items.size items.size hi-sIx items.size 0 lo)==items.size)=true then _ else _) _ _ s;rw [if_neg hno,aB0]
 first
  | exact wpAny_bind (m:=Builtin.Tuple.tupleExact _) (wpAny_newObj_type (wpAny_pure ⟨_,rfl,wpAny_pure h⟩) htake)
  | exact wpAny_bind (m:=Builtin.Tuple.tupleExact _) (wpAny_newObj_type (wpAny_bind (wpAny_pure (wpAny_pure ⟨_,rfl,wpAny_pure h⟩))) htake)
  | exact wpAny_bind (wpAny_bind (m:=Builtin.Tuple.tupleExact _) (wpAny_newObj_type (wpAny_pure (wpAny_pure ⟨_,rfl,wpAny_pure h⟩)) htake))
  | exact wpAny_bind (wpAny_bind (m:=Builtin.Tuple.tupleExact _) (wpAny_newObj_type (wpAny_pure ⟨_,rfl,wpAny_pure h⟩) htake))
end
end HT
namespace L2
open PySem PySem.Spec PyProof.Rows
abbrev TO:=St->Hp->(Option Int->Hp->Prop)->Prop
noncomputable def PO (X:Cx) (e:Option Expr) (t:TO):Prop:=
 ∀(pins:List (Addr×Obj)) (s:Shared) (σ:St) (H:Hp) (Q:Option Int->Hp->Prop),Inv X pins σ H s->t σ H Q->
  wpAny (model X.prog X.w) X.A (evalPart e X.env) (fun u s'=>∃o H',Inv X pins σ H' s'/\IsPart u o/\Q o H') X.xe s
def aEr:TO:=fun _ H Q=>Q none H
def aLu (t:TE):TO:=fun σ H Q=>t σ H fun x H1=>∃i,x=.int i/\Q (some i) H1
section
variable {X:Cx} {e:Expr} {te:TE} {lo hi:Option Expr} {tl th:TO} {pos p2:Pos}
theorem aEs:PO X none aEr:=by
 intro pins s σ H Q I h;rw [evalPart_none];exact wpAny_pure ⟨none,H,I,.none,h⟩
theorem aEt (h:PE X e te):PO X (some e) (aLu te):=by
 intro pins s σ H Q I hw;rw [evalPart_some];refine thn (h pins s σ H _ I hw) fun u s1 ⟨x,H1,I1,r1,q1⟩=>?_
 obtain ⟨i,rfl,q⟩:=q1;obtain ⟨t,rfl⟩:=r1;exact ⟨some i,H1,I1,.int i t,q⟩
noncomputable def SlR (X:Cx) (r:V->Option Int->Option Int->Hp->VK->Prop):Prop:=
 ∀(pins:List (Addr×Obj)) (s:Shared) (σ:St) (H:Hp) (x:V) (v vl vu:Value) (lo hi:Option Int) (sl:Addr) (Q:VK),Inv X pins σ H s->RelV x v->s.heap.IsSliceOf sl vl vu .none->IsPart vl lo->IsPart vu hi->r x lo hi H Q->
  ∃T id,typeLookup (.type T) "__getitem__" = pure (some (.builtin id))/\s.TypeIs v T/\wpAny (model X.prog X.w) X.A (getItem v (.ref sl)) (EP X pins σ Q) X.xe s
noncomputable def tSl (r:V->Option Int->Option Int->Hp->VK->Prop) (te:TE) (tl th:TO):TE:=fun σ H Q=>te σ H fun x H1=>tl σ H1 fun l H2=>th σ H2 fun u H3=>r x l u H3 Q
theorem aB1 {r:V->Option Int->Option Int->Hp->VK->Prop} (hr:SlR X r) (he:PE X e te) (hl:PO X lo tl) (hu:PO X hi th):PE X (.Subscript e (.Slice lo hi none p2) pos) (tSl r te tl th):=by
 intro pins s σ H Q I h;refine Subscript_ (thn (he pins s σ H _ I h) fun v s1 ⟨x,H1,I1,r1,q1⟩=>?_);refine wpAny_Slice (thn (hl pins s1 σ H1 _ I1 q1) fun vl s2 ⟨l,H2,I2,pl,q2⟩=>thn (hu pins s2 σ H2 _ I2 q2) fun vu s3 ⟨u,H3,I3,pu,q3⟩=>?_);rw [evalPart_none];refine wpAny_pure ?_;have I4:Inv X pins σ H3 {s3 with heap:=s3.heap.push {cls:=.type "slice",data:=.fields #[vl,vu,.none]}}:=I3.kept (t':=s3.toks) fun b ob q=>Heap.get?_push_of_some _ q
 obtain ⟨T,id,hT,ht,hg⟩:=hr pins {s3 with heap:=s3.heap.push {cls:=.type "slice",data:=.fields #[vl,vu,.none]}} σ H3 x v vl vu l u s3.heap.objs.size Q I4 r1 (Heap.IsSliceOf.new ..) pl pu q3;show wpAny (model X.prog X.w) X.A (subscriptTail e (.Slice lo hi none p2) v (.ref s3.heap.objs.size)) (EP X pins σ Q) X.xe {s3 with heap:=s3.heap.push {cls:=.type "slice",data:=.fields #[vl,vu,.none]}};exact tail_any (ops:=[.ref s3.heap.objs.size,v]) ht hT hg (by with_unfolding_all rfl)
noncomputable def WK (xs:List V) (lo hi:Option Int):List V:=(xs.drop (HT.sIx xs.length 0 lo)).take (HT.sIx xs.length xs.length hi-HT.sIx xs.length 0 lo)
theorem xF (xs:List V) (lo hi:Option Int):(WK xs lo hi).length<=xs.length:=by
 unfold WK;rw [List.length_take,List.length_drop];lia
noncomputable def aNq (K:PySem.W.Frag):V->Option Int->Option Int->Hp->VK->Prop:=fun x lo hi H Q=>∃a xs,x=.ref a/\SqT K H a xs/\
 ¬(HT.sIx xs.length 0 lo=0/\HT.sIx xs.length xs.length hi=xs.length)/\∀p,H p=none->Q (.ref p) (upd H p (.tup (WK xs lo hi)))
theorem aI3:SlR X (aNq X.K):=by
 intro pins s σ H x v vl vu lo hi sl Q I rx hs pl pu h;obtain ⟨a,xs,rfl,hx,hw,q⟩:=h;cases rx;obtain ⟨its,r,ht,hz⟩:=I.tuple hx;have hlen:its.toArray.size=xs.length:=by rw [List.size_toArray];exact r.length.symm
 refine ⟨"tuple",_,PyProof.Rows.slot_tuple_getitem.lookup,ht.typeIs,?_⟩;refine HT.o_ ht hs pl pu (by rw [hlen];exact hw) ?_ (by rw [hlen];exact hz);rw [hlen];refine ⟨.ref s.heap.objs.size,_,I.laid (t':=s.toks) (o:=.tup (WK xs lo hi)) (fun b ob q=>Heap.get?_push_of_some _ q) (Nat.le_refl _) ?_,rfl,q _ (I.hok.fresh (Nat.le_refl _))⟩;exact ⟨Nat.le_trans (xF xs lo hi) hz,_,(r.drop (HT.sIx xs.length 0 lo)).take (HT.sIx xs.length xs.length hi-HT.sIx xs.length 0 lo),jY.new _ _⟩
noncomputable def aLv (K:PySem.W.Frag):R2:=fun x y H Q=>∃a b xs ys,x=.ref a/\y=.ref b/\SqT K H a xs/\SqT K H b ys/\xs≠[]/\xs.length+ys.length<=sizeLine/\
 (ys=[]->Q (.ref a) H)/\(ys≠[]->∀p,H p=none->Q (.ref p) (upd H p (.tup (xs++ys))))
theorem Vals.xG {xs:List V} {us:List Value} (r:Vals xs us):us=[]↔xs=[]:=by
 cases r with
 | nil=>simp
 | cons _ _=>simp
theorem aEu:OpR X (binaryOp .Add) (aLv X.K):=by
 intro pins s σ H x y v u Q I rx ry h;obtain ⟨a,b,xs,ys,rfl,rfl,ha,hb,hx,hz,q1,q2⟩:=h;cases rx;cases ry;obtain ⟨its,r1,p1,_⟩:=I.tuple ha;obtain ⟨its2,r2,p2,_⟩:=I.tuple hb;refine HT.aEq p1 p2 (fun z=>hx (r1.xG.mp z)) (fun z=>⟨.ref a,H,I,rfl,q1 (r2.xG.mp z)⟩) (fun z=>?_) (by rw [<-r1.length,<-r2.length];exact hz);refine ⟨.ref s.heap.objs.size,_,I.laid (t':=s.toks) (o:=.tup (xs++ys)) (fun b ob q=>Heap.get?_push_of_some _ q) (Nat.le_refl _) ?_,rfl,q2 (fun w=>z (r2.xG.mpr w)) _ (I.hok.fresh (Nat.le_refl _))⟩;exact ⟨by rw [List.length_append];exact hz,_,r1.append r2,jY.new _ _⟩
end
end L2
namespace L2
open PySem PySem.Spec PyProof.Rows
noncomputable def ixN (n:Nat) (i:Int):Option Nat:=if 0<=i then (if i<n then some i.toNat else none) else if -(n:Int)<=i then some (i+n).toNat else none
noncomputable def atI {α:Type} (xs:List α) (i:Int):Option α:=(ixN xs.length i).bind fun j=>xs[j]?
theorem WL {n:Nat} {i:Int} {j:Nat} (h:ixN n i=some j):seqIndex? i n=some j/\j<n/\-(n:Int)<=i/\i<n:=by
 unfold ixN at h;by_cases h0:0<=i
 ·rw [if_pos h0] at h;by_cases h1:i<n
  ·rw [if_pos h1] at h;have e:i.toNat=j:=Option.some.inj h;exact ⟨by rw [seqIndex_of h0 h1,e],by lia,by lia,h1⟩
  ·rw [if_neg h1] at h;cases h
 ·rw [if_neg h0] at h;by_cases h1:-(n:Int)<=i
  ·rw [if_pos h1] at h;have e:(i+n).toNat=j:=Option.some.inj h;exact ⟨by rw [seqIndex_neg (by lia) h1,e],by lia,h1,by lia⟩
  ·rw [if_neg h1] at h;cases h
theorem MT {α:Type} {xs:List α} {i:Int} {v:α} (h:atI xs i=some v):∃j,seqIndex? i xs.length=some j/\xs[j]?=some v/\j<xs.length/\-(xs.length:Int)<=i/\i<xs.length:=by
 unfold atI at h;cases e:ixN xs.length i with
 | none=>rw [e] at h;cases h
 | some j=>
  rw [e] at h;obtain ⟨h1,h2,h3,h4⟩:=WL e;exact ⟨j,h1,h,h2,h3,h4⟩
noncomputable def BJ (b:Expr):Prop:=∀o i,subscripted b false o i=operate [o,i] (getItem o i)
noncomputable def IxR (X:Cx) (r:R2):Prop:=
 ∀(value slice:Expr) (pins:List (Addr×Obj)) (s:Shared) (σ:St) (H:Hp) (x y:V) (v u:Value) (Q:VK),Inv X pins σ H s->RelV x v->RelV y u->r x y H Q->
  subscripted slice false v u=operate [v,u] (getItem v u)->wpAny (model X.prog X.w) X.A (subscriptTail value slice v u) (EP X pins σ Q) X.xe s
noncomputable def MtR (X:Cx) (id:String) (r:V->List V->Hp->VK->Prop):Prop:=
 ∀(pins:List (Addr×Obj)) (s:Shared) (σ:St) (H:Hp) (x:V) (xs:List V) (v:Value) (us:List Value) (Q:VK),Inv X pins σ H s->RelV x v->Vals xs us->r x xs H Q->
  wpAny (model X.prog X.w) X.A (call (.builtin id) (v::us)) (EP X pins σ Q) X.xe s
section
variable {X:Cx} {a b:Expr} {ta tb:TE} {pos:Pos}
theorem aI4 {r:R2} (hr:IxR X r) (ha:PE X a ta) (hb:PE X b tb) (hs:BJ b):PE X (.Subscript a b pos) (tOp r ta tb):=by
 intro pins s σ H Q I h;exact Subscript_ (aLn ha hb I h fun v u s2 x y H2 I2 rx ry q=>hr a b pins s2 σ H2 x y v u Q I2 rx ry q (hs _ _))
noncomputable def aNr (K:PySem.W.Frag):R2:=fun x y H Q=>∃p xs i v,x=.ref p/\y=.int i/\SqL K H p xs/\atI xs i=some v/\Q v H
noncomputable def aNs (K:PySem.W.Frag):R2:=fun x y H Q=>∃p xs i v,x=.ref p/\y=.int i/\SqT K H p xs/\atI xs i=some v/\Q v H
noncomputable def aNt:R2:=fun x y H Q=>∃z i c,x=.str z/\y=.int i/\z.length<=sizeLine/\atI z.cps.toList i=some c/\Q (.str ⟨#[c]⟩) H
theorem M3:IxR X (aNr X.K):=by
 intro value slice pins s σ H x y v u Q I rx ry h hs;obtain ⟨p,xs,i,z,rfl,rfl,hq,he,q⟩:=h;cases rx;obtain ⟨t,rfl⟩:=ry;obtain ⟨its,r,pl,hz⟩:=I.list hq;obtain ⟨j,h1,h2,h3,h4,h5⟩:=MT he;obtain ⟨w,ew,rw'⟩:=r.get h2;have hl:=r.length;have hn:=wZ;have fin:EP X pins σ Q w s:=⟨z,H,I,rw',q⟩
 by_cases h0:0<=i
 ·have hj:i.toNat=j:=by
   rw [seqIndex_of h0 h5] at h1;exact Option.some.inj h1
  exact item_listR pl.isList h0 (by lia) (by rw [hj];simpa using ew) fin hs
 ·have hj:(i+(its.toArray.size:Int)).toNat=j:=by
   rw [seqIndex_neg (by lia) h4] at h1;rw [List.size_toArray,<-hl];exact Option.some.inj h1
  exact subscriptTail_builtinR (x:=w) pl.isList.typeIs slot_list_getitem.lookup
   (wpAny_getItem_list_neg (Q:=fun r s'=>r=w/\EP X pins σ Q r s') pl.isList (by lia) (by rw [List.size_toArray] <;> lia) (by lia) (by rw [hj];simpa using ew) ⟨rfl,fin⟩) hs
theorem aI5:IxR X (aNs X.K):=by
 intro value slice pins s σ H x y v u Q I rx ry h hs;obtain ⟨p,xs,i,z,rfl,rfl,hq,he,q⟩:=h;cases rx;obtain ⟨t,rfl⟩:=ry;obtain ⟨its,r,pl,hz⟩:=I.tuple hq;obtain ⟨j,h1,h2,h3,h4,h5⟩:=MT he;obtain ⟨w,ew,rw'⟩:=r.get h2;have hl:=r.length;have hn:=wZ;have fin:EP X pins σ Q w s:=⟨z,H,I,rw',q⟩
 exact subscriptTail_builtinR (x:=w) pl.typeIs slot_tuple_getitem.lookup
  (getItem_tuple (j:=j) (Q:=fun r s'=>r=w/\EP X pins σ Q r s') pl (by lia) (by lia) (by rw [List.size_toArray,<-hl];exact h1) (by simpa using ew) ⟨rfl,fin⟩) hs
theorem aI6:IxR X aNt:=by
 intro value slice pins s σ H x y v u Q I rx ry h hs;obtain ⟨z,i,c,rfl,rfl,hz,he,q⟩:=h;obtain ⟨t,rfl⟩:=rx;obtain ⟨t',rfl⟩:=ry;obtain ⟨j,h1,h2,h3,h4,h5⟩:=MT he;have hl:z.cps.toList.length=z.length:=by simp [Str.length]
 rw [hl] at h1 h4 h5;have hn:=wZ;exact tail_any (typeIs_str s z t) slot_str_getitem.lookup (getItem_str (c:=c) (by
  have e1:decide (i < -(2 ^ 63:Int))=false:=decide_eq_false (by lia);have e2:decide (i >= 2 ^ 63)=false:=decide_eq_false (by lia);rw [e1,e2,Bool.or_false]) (by rw [h1];simpa using h2) ⟨.str ⟨#[c]⟩,H,I.tok _,⟨_,rfl⟩,q⟩) hs
theorem T5 (its:List Value) (n j:Nat) (u:Value):Obj.mapSeq (·.setIfInBounds j u) {cls:=.type "list",data:=.seq its.toArray n}={cls:=.type "list",data:=.seq (its.set j u).toArray n}:=by
 simp [Obj.mapSeq]
theorem Inv.lst {pins:List (Addr×Obj)} {σ:St} {H:Hp} {s:Shared} {p:Addr} {xs:List V} (I:Inv X pins σ H s) (h:H p=some (.lst xs)) :
  ∃(its:List Value) (n:Nat),Vals xs its/\s.heap.get? p=some {cls:=.type "list",data:=.seq its.toArray n}/\xs.length<=sizeLine:=by
 obtain ⟨z,its,n,r,e⟩:=I.hok p _ h;exact ⟨its,n,r,e,z⟩
theorem Inv.aI7 {pins:List (Addr×Obj)} {σ:St} {H:Hp} {s:Shared} {p:Addr} {xs ys:List V} {its its':List Value} {n n':Nat} {f:Obj->Obj} (I:Inv X pins σ H s) (h:H p=some (.lst xs))
  (ho:s.heap.get? p=some {cls:=.type "list",data:=.seq its.toArray n}) (hf:f {cls:=.type "list",data:=.seq its.toArray n}={cls:=.type "list",data:=.seq its'.toArray n'}) (r:Vals ys its') (hz:ys.length<=sizeLine) (t:Nat) :
  Inv X pins σ (upd H p (.lst ys)) {s with heap:=s.heap.update p f,toks:=t}:=by
 have e:(s.heap.update p f).get? p=some {cls:=.type "list",data:=.seq its'.toArray n'}:=by
  rw [Heap.get?_update_self f ho (by rw [hf] <;> rfl),hf]
 refine I.write (x:=p) (e:=p) (by rw [h];trivial) (.inl rfl) (fun b u hb q=>(Heap.get?_update_other _ _ (Ne.symm hb)).trans q) ⟨_,e⟩ ?_;exact ⟨hz,its',n',r,e⟩
noncomputable def aLw:V->V->V->Hp->(Hp->Prop)->Prop:=fun o i v H Q=>∃p xs k j,o=.ref p/\i=.int k/\H p=some (.lst xs)/\ixN xs.length k=some j/\Q (upd H p (.lst (xs.set j v)))
theorem set_list:aNk X aLw:=by
 intro pins s σ H o i v ov iv u Q I ro ri rv h;obtain ⟨p,xs,k,j,rfl,rfl,hp,hj,q⟩:=h;cases ro;obtain ⟨t,rfl⟩:=ri;obtain ⟨its,n,r,ho,hz⟩:=I.lst hp;obtain ⟨h1,h2,h3,h4⟩:=WL hj;have hl:=r.length;have hn:=wZ;have I':Inv X pins σ (upd H p (.lst (xs.set j v))) {s with heap:=s.heap.update p (Obj.mapSeq (·.setIfInBounds j u))}:=
  I.aI7 hp ho (T5 its n j u) (r.set rv j) (by rw [List.length_set];exact hz) s.toks
 by_cases h0:0<=k
 ·have hk:k.toNat=j:=by
   rw [seqIndex_of h0 h4] at h1;exact Option.some.inj h1
  exact PySem.W.ki_setAt ho h0 (by lia) (by rw [List.size_toArray,<-hl];exact h4) (by rw [hk];exact ⟨_,I',q⟩)
 ·have hk:(k+(its.toArray.size:Int)).toNat=j:=by
   rw [seqIndex_neg (by lia) h3] at h1;rw [List.size_toArray,<-hl];exact Option.some.inj h1
  exact PySem.W.ki_setBack ho (by lia) (by rw [List.size_toArray,<-hl];exact h3) (by lia) (by rw [hk];exact ⟨_,I',q⟩)
theorem HJ (lo hi:Option Int) (n:Nat):(sliceBounds lo hi none n).1=((HT.sIx n 0 lo:Nat):Int)/\(sliceBounds lo hi none n).2.1=((HT.sIx n n hi:Nat):Int)/\(sliceBounds lo hi none n).2.2=1:=by
 refine ⟨?_,?_,rfl⟩
 ·cases lo with
  | none=>simp [sliceBounds,HT.sIx]
  | some i=>
   simp only [sliceBounds,HT.sIx,Option.getD_none,show (1:Int) > 0 by decide,if_true];by_cases h:i<0
   ·simp only [h,if_true] <;> lia
   ·simp only [h,if_false] <;> lia
 ·cases hi with
  | none=>simp [sliceBounds,HT.sIx]
  | some i=>
   simp only [sliceBounds,HT.sIx,Option.getD_none,show (1:Int) > 0 by decide,if_true];by_cases h:i<0
   ·simp only [h,if_true] <;> lia
   ·simp only [h,if_false] <;> lia
theorem BK (its:List Value) (lo hi:Option Int):slicePick its.toArray lo hi none=((its.drop (HT.sIx its.length 0 lo)).take (HT.sIx its.length its.length hi-HT.sIx its.length 0 lo)).toArray:=by
 obtain ⟨h1,h2,h3⟩:=HJ lo hi its.toArray.size;unfold slicePick;rw [h1,h2,h3];simp only [sliceRange_one,pick_run,List.size_toArray] <;> rfl
noncomputable def aNu (K:PySem.W.Frag):V->Option Int->Option Int->Hp->VK->Prop:=fun x lo hi H Q=>∃a xs,x=.ref a/\SqL K H a xs/\∀p,H p=none->Q (.ref p) (upd H p (.lst (WK xs lo hi)))
theorem WM:SlR X (aNu X.K):=by
 intro pins s σ H x v vl vu lo hi sl Q I rx hs pl pu h;obtain ⟨a,xs,rfl,hx,q⟩:=h;cases rx;obtain ⟨its,r,ht,hz⟩:=I.list hx;have hlen:=r.length;refine ⟨"list",_,slot_list_getitem.lookup,ht.isList.typeIs,?_⟩;refine wpAny_getItem_list_slice ht.isList hs pl pu .none (by simp) ?_ (by rw [List.size_toArray] <;> lia);rw [BK,<-hlen];refine ⟨.ref s.heap.objs.size,_,I.laid (t':=s.toks) (o:=.lst (WK xs lo hi)) (fun b ob q=>Heap.get?_push_of_some _ q) (Nat.le_refl _) ?_,rfl,q _ (I.hok.fresh (Nat.le_refl _))⟩;exact ⟨Nat.le_trans (xF xs lo hi) hz,_,0,(r.drop (HT.sIx xs.length 0 lo)).take (HT.sIx xs.length xs.length hi-HT.sIx xs.length 0 lo),Heap.get?_push_size _ rfl⟩
theorem jL:oA X (.builtin "len") (fun xs H Q=>∃p ys,xs=[.ref p]/\(SqL X.K H p ys\/SqT X.K H p ys)/\Q (.int ys.length) H):=by
 intro pins s σ H xs us Q I r h;obtain ⟨p,ys,rfl,hq,q⟩:=h;obtain ⟨u,rfl,rx⟩:=vals1 r;cases rx;have hn:=wZ;rcases hq with hq|hq
 ·obtain ⟨its,r',pl,hz⟩:=I.list hq;have hlen:=r'.length;exact Calls.call_len_list pl.isList (by simp only [List.size_toArray] <;> lia) ⟨.int ys.length,H,I.tok _,⟨s.toks+1,by rw [List.size_toArray,hlen]⟩,q⟩
 ·obtain ⟨its,r',pl,hz⟩:=I.tuple hq;have hlen:=r'.length;exact len_tuple pl (by simp only [List.size_toArray] <;> lia) ⟨.int ys.length,H,I.tok _,⟨s.toks+1,by rw [List.size_toArray,hlen]⟩,q⟩
theorem HN:oA X (.builtin "len") (fun xs H Q=>∃z,xs=[.str z]/\z.length<=sizeLine/\Q (.int z.length) H):=by
 intro pins s σ H xs us Q I r h;obtain ⟨z,rfl,hz,q⟩:=h;obtain ⟨u,rfl,t,rfl⟩:=vals1 r;have hn:=wZ;exact len_str (by lia) ⟨.int z.length,H,I.tok _,⟨_,rfl⟩,q⟩
theorem oE:oA X (.type "tuple") (fun xs H Q=>∃p ys,xs=[.ref p]/\((SqL X.K H p ys/\∀l,H l=none->Q (.ref l) (upd H l (.tup ys)))\/(SqT X.K H p ys/\Q (.ref p) H))):=by
 intro pins s σ H xs us Q I r h;obtain ⟨p,ys,rfl,h⟩:=h;obtain ⟨u,rfl,rx⟩:=vals1 r;cases rx;rcases h with ⟨hq,q⟩|⟨hq,q⟩
 ·obtain ⟨its,r',pl,hz⟩:=I.list hq;have hlen:=r'.length;refine call_tuple_list pl.isList (fun h' kp=>?_) (by simp only [List.size_toArray] <;> lia);have I1:Inv X pins σ H {s with heap:=h'}:=I.kept (t':=s.toks) kp;have I2:Inv X pins σ (upd H h'.objs.size (.tup ys)) {s with heap:=h'.push {cls:=.type "tuple",data:=.seq its.toArray}}:=
   I1.laid (t':=s.toks) (fun b o e=>Heap.get?_push_of_some _ e) (Nat.le_refl _) (show gR X.prog X.w _ _ _ (.tup ys) from ⟨hz,its,r',jY.new _ _⟩)
  exact ⟨.ref h'.objs.size,_,I2,rfl,q _ (I1.hok.fresh (Nat.le_refl _))⟩
 ·obtain ⟨its,r',pl,hz⟩:=I.tuple hq;exact call_tuple_same pl ⟨.ref p,H,I,rfl,q⟩
noncomputable def tyV (K:PySem.W.Frag) (T:String) (x:V) (H:Hp):Prop:=match x with
 | .str _=>T = "str"
 | .int _=>T = "int"
 | .ref p=>(T = "list"/\∃xs,SqL K H p xs)\/(T = "tuple"/\((∃o,K.lookup p=some o/\o.cls=.type "tuple"/\o.dict=none)\/∃xs,H p=some (.tup xs)))\/
   (T = "dict"/\((∃kvs,H p=some (.dK kvs))\/∃kvs,H p=some (.dT kvs)))\/(T = "set"/\∃S n,H p=some (.set S n))
 | _=>False
theorem aD7 {pins:List (Addr×Obj)} {σ:St} {H:Hp} {s:Shared} {T:String} {x:V} {v:Value} (I:Inv X pins σ H s) (r:RelV x v) (ty:tyV X.K T x H) :
  s.TypeIs v T/\∀a,v=.ref a->∃ob,s.heap.get? a=some ob/\ob.dict=none:=by
 cases x with
 | str z=>
  obtain ⟨t,rfl⟩:=r;cases (show T = "str" from ty);exact ⟨typeIs_str s z t,fun _ e=>nomatch e⟩
 | int i=>
  obtain ⟨t,rfl⟩:=r;cases (show T = "int" from ty);exact ⟨typeIs_int s i t,fun _ e=>nomatch e⟩
 | ref p=>
  cases r;rcases ty with ⟨rfl,xs,hq⟩|⟨rfl,⟨o,hk,hc,hd⟩|⟨xs,hk⟩⟩|⟨rfl,hk⟩|⟨rfl,S,n,hk⟩
  ·obtain ⟨its,_,pl,_⟩:=I.list hq;refine ⟨pl.isList.typeIs,fun a e=>?_⟩;cases e;obtain ⟨o,n,e,c,hd,_⟩:=pl;exact ⟨o,e,hd⟩
  ·refine ⟨⟨o,I.kIn p o hk,hc⟩,fun a e=>?_⟩;cases e;exact ⟨o,I.kIn _ o hk,hd⟩
  ·obtain ⟨_,its,_,pl⟩:=I.hok p _ hk;refine ⟨(jY.tup pl).typeIs,fun a e=>?_⟩;cases e;exact jY.bare pl
  ·have z:∃o,s.heap.get? p=some o/\o.ExactDict:=by
    rcases hk with ⟨kvs,hk⟩|⟨kvs,hk⟩
    ·obtain ⟨_,_,_,_,o,_,_,e,ex,_⟩:=I.hok p _ hk;exact ⟨o,e,ex⟩
    ·obtain ⟨_,_,_,_,o,_,_,e,ex,_⟩:=I.hok p _ hk;exact ⟨o,e,ex⟩
   obtain ⟨o,e,ex⟩:=z;refine ⟨⟨o,e,ex.1⟩,fun a e2=>?_⟩;cases e2;exact ⟨o,e,ex.2.1⟩
  ·obtain ⟨o,_,_,_,e,ex,_⟩:=I.hok p _ hk;refine ⟨⟨o,e,ex.1⟩,fun a e2=>?_⟩;cases e2;exact ⟨o,e,ex.2.1⟩
 | _=>exact False.elim ty
noncomputable def aNv (K:PySem.W.Frag) (T:String) (r:V->List V->Hp->VK->Prop) (to:TE):TE:=fun σ H Q=>to σ H fun x H1=>tyV K T x H1/\r x [] H1 Q
noncomputable def tBM (K:PySem.W.Frag) (T:String) (r:V->List V->Hp->VK->Prop) (to:TE) (t:TA):TE:=fun σ H Q=>to σ H fun x H1=>tyV K T x H1/\t σ H1 fun xs H2=>r x xs H2 Q
variable {o e:Expr} {es:List Expr} {to:TE} {t:TA} {name:Str} {apos cpos:Pos} {T id:String} {r:V->List V->Hp->VK->Prop}
theorem aD8 (pa:PlainAttrs T) (slot:Slot T name id) (hty:typeOf (.builtin id)=pure (.type "method_descriptor")) (hm:MtR X id r) (ho:PE X o to)
  (hbase:attributeBase o name X.env (eval o X.env)=eval o X.env:=by rfl) (hline:(apos.endLine==cpos.line)=true:=by rfl):PE X (.Call (.Attribute o name apos) [] [] cpos) (aNv X.K T r to):=by
 intro pins s σ H Q I h;refine wpAny_Call_method0_late hbase hline (thn (ho pins s σ H _ I h) fun v s1 ⟨x,H1,I1,r1,ty,q1⟩=>?_);obtain ⟨h1,h2⟩:=aD7 I1 r1 ty;exact ⟨T,id,pa,slot,hty,h1,h2,Calls.callWith_builtin rfl (PySem.evalArgs_none (hm pins s1 σ H1 x [] v [] Q I1 r1 .nil q1))⟩
theorem aEv (pa:PlainAttrs T) (slot:Slot T name id) (hty:typeOf (.builtin id)=pure (.type "method_descriptor")) (hm:MtR X id r) (ho:PE X o to) (ha:PA X (e::es) t)
  (hbase:attributeBase o name X.env (eval o X.env)=eval o X.env:=by rfl)
  (hfew:((backTo cpos (starEach (e::es) X.env)).all (fun x=>!x.1)&&(backToKw cpos (keywordEach [] X.env)).all (fun x=>x.1.isSome)
   && decide ((e::es).length+([]:List Keyword).length+(if ([]:List Keyword).isEmpty then 0 else 1)<30))=true:=by rfl)
  (hline:(apos.endLine==cpos.line)=true:=by rfl) (hs:starEach (e::es) X.env=(false,eval e X.env)::starEach es X.env:=by rfl) (hplain:(backTo cpos (starEach es X.env)).any (·.1)=false:=by rfl) :
  PE X (.Call (.Attribute o name apos) (e::es) [] cpos) (tBM X.K T r to t):=by
 intro pins s σ H Q I h;refine wpAny_Call_method_late hbase hfew hline rfl (thn (ho pins s σ H _ I h) fun v s1 ⟨x,H1,I1,r1,ty,q1⟩=>?_);obtain ⟨h1,h2⟩:=aD7 I1 r1 ty;refine ⟨T,id,pa,slot,hty,h1,h2,?_⟩;have hA:=ha cpos pins s1 σ H1 _ I1 q1;rw [hs] at hA ⊢;refine Calls.callWith_builtin (by show (false||(backTo cpos (starEach es X.env)).any (·.1))=false;rw [hplain] <;> rfl) (Calls.evalArgs_plain ?_);exact thn hA fun us s2 ⟨vs,H2,I2,r2,q2⟩=>hm pins s2 σ H2 x vs v us Q I2 r1 r2 q2
end
end L2
namespace L2
open PySem PySem.Spec PyProof.Rows
noncomputable def MtM (X:Cx) (id:String) (r:V->List V->Hp->VK->Prop):Prop:=
 ∀(pins:List (Addr×Obj)) (s:Shared) (σ:St) (H:Hp) (x:V) (xs:List V) (v:Value) (us:List Value) (Q:VK),Inv X pins σ H s->RelV x v->Vals xs us->r x xs H Q->
  wpAny (model X.prog X.w) X.A (call (.builtin id) (v::us)) (EP X pins σ Q) X.xe s
theorem Vals.one:∀{x:V} {us:List Value},Vals [x] us->∃u,us=[u]/\RelV x u
 | _,_,.cons r .nil=>⟨_,rfl,r⟩
theorem Vals.zero:∀{us:List Value},Vals [] us->us=[]
 | _,.nil=>rfl
theorem Vals.dropLast {xs:List V} {us:List Value} (h:Vals xs us):Vals xs.dropLast us.dropLast:=by
 induction h with
 | nil=>exact .nil
 | cons r t ih=>
  cases t with
  | nil=>exact .nil
  | cons q t'=>exact .cons r ih
theorem T6 {α:Type} (l:List α):l.eraseIdx (l.length-1)=l.dropLast:=by
 induction l with
 | nil=>rfl
 | cons a r ih=>
  cases r with
  | nil=>rfl
  | cons b r=>
   have e:(a::b::r).length-1=((b::r).length-1)+1:=by
    have h1:(a::b::r).length=r.length+2:=rfl;have h2:(b::r).length=r.length+1:=rfl;lia
   rw [e,List.eraseIdx_cons_succ,ih]
   all_goals rfl
section
variable {X:Cx} {pins:List (Addr×Obj)} {σ:St} {H:Hp} {s:Shared} {l b:Addr} {xs ys zs:List V}
theorem Inv.aLx {its its':List Value} {n:Nat} {f:Array Value->Array Value} {t':Nat} (I:Inv X pins σ H s) (hH:H l=some (.lst xs))
  (e:s.heap.get? l=some {cls:=.type "list",data:=.seq its.toArray n}) (hf:f its.toArray=its'.toArray) (hv:Vals ys its') (hz:ys.length<=sizeLine) :
  Inv X pins σ (upd H l (.lst ys)) {s with heap:=s.heap.update l (Obj.mapSeq f),toks:=t'}:=by
 have q:=PySem.IsL.update e f;rw [hf] at q;refine I.write (x:=l) (e:=l) (by rw [hH];exact trivial) (.inl rfl) (fun b' u hb hu=>(Heap.get?_update_other s.heap (Obj.mapSeq f) (Ne.symm hb)).trans hu) ⟨_,q⟩ ?_;exact ⟨hz,its',_,hv,q⟩
theorem Inv.aNw {its:List Value} {t':Nat} (I:Inv X pins σ H s) (hv:Vals ys its) (hz:ys.length<=sizeLine) :
  Inv X pins σ (upd H s.heap.objs.size (.lst ys)) {s with heap:=s.heap.push {cls:=.type "list",data:=.seq its.toArray},toks:=t'}:=
 I.laid (fun _ _ q=>Heap.get?_push_of_some _ q) (Nat.le_refl _) ⟨hz,its,0,hv,Heap.get?_push_size _ rfl⟩
theorem Inv.fresh (I:Inv X pins σ H s):H s.heap.objs.size=none:=I.hok.fresh (Nat.le_refl _)
theorem Inv.aL7 (I:Inv X pins σ H s) (hH:H l=some (.lst xs)):xs.length<=sizeLine/\∃(its:List Value) (n:Nat),Vals xs its/\xs.length=its.length/\s.heap.get? l=some {cls:=.type "list",data:=.seq its.toArray n}:=by
 obtain ⟨z,its,n,r,e⟩:=I.hok l _ hH;exact ⟨z,its,n,r,r.length,e⟩
theorem aB2 {n:Nat} (h:n<=sizeLine):Builtin.List.listTooLong n=false:=by
 unfold Builtin.List.listTooLong;exact decide_eq_false (by lia)
end
section
variable {X:Cx}
noncomputable def aEw:V->List V->Hp->VK->Prop:=fun x vs H Q=>∃l xs y,x=.ref l/\vs=[y]/\H l=some (.lst xs)/\xs.length<sizeLine/\Q .non (upd H l (.lst (xs++[y])))
theorem HQ:MtM X "list.append" aEw:=by
 intro pins s σ H x vs v us Q I rx rv h;obtain ⟨l,xs,y,rfl,rfl,hH,hz,q⟩:=h;cases rx;obtain ⟨u,rfl,ru⟩:=rv.one;obtain ⟨z,its,n,r,hl,e⟩:=I.aL7 hH;refine call_meets F.slot_list_append ⟨_,e,rfl⟩ F.entry_list_append (F.args_list_append_2 _ _) (PySem.list_append l its.toArray n u (by rw [List.size_toArray];lia)) ⟨e,?_⟩;refine ⟨.non,_,I.aLx (its':=its++[u]) hH e (by simp) (r.append (.cons ru .nil)) ?_,rfl,q⟩;rw [List.length_append,List.length_singleton];lia
noncomputable def aEx:V->List V->Hp->VK->Prop:=fun x vs H Q=>∃l b xs zs,x=.ref l/\vs=[.ref b]/\H l=some (.lst xs)/\H b=some (.lst zs)/\xs.length+zs.length<=sizeLine/\Q .non (upd H l (.lst (xs++zs)))
theorem WN:MtM X "list.extend" aEx:=by
 intro pins s σ H x vs v us Q I rx rv h;obtain ⟨l,b,xs,zs,rfl,rfl,hH,hB,hz,q⟩:=h;cases rx;obtain ⟨u,rfl,ru⟩:=rv.one;cases ru;obtain ⟨z,its,n,r,hl,e⟩:=I.aL7 hH;obtain ⟨z2,its2,n2,r2,hl2,e2⟩:=I.aL7 hB;have hsz:its.toArray.size+its2.toArray.size<=sizeLine:=by rw [List.size_toArray,List.size_toArray];lia
 have hlong:¬(!its.toArray.isEmpty&&Builtin.List.listTooLong (its.toArray.size+its2.toArray.size))=true:=by
  rw [aB2 hsz,Bool.and_false];exact Bool.false_ne_true
 refine call_meets F.slot_list_extend ⟨_,e,rfl⟩ F.entry_list_extend (F.args_list_extend_2 _ _)
  (AutoSeq1.list_extend_list_list_0 l its.toArray n b its2.toArray n2 hlong (by rw [List.size_toArray];lia) (by lia)) ⟨e,e2,?_⟩
 refine ⟨.non,_,I.aLx (its':=its++its2) hH e (by simp) (r.append r2) ?_,rfl,q⟩;rw [List.length_append];lia
noncomputable def aNx:V->List V->Hp->VK->Prop:=fun x vs H Q=>∃l xs y,x=.ref l/\vs=[]/\H l=some (.lst xs)/\xs[xs.length-1]?=some y/\Q y (upd H l (.lst xs.dropLast))
theorem aD9:MtM X "list.pop" aNx:=by
 intro pins s σ H x vs v us Q I rx rv h;obtain ⟨l,xs,y,rfl,rfl,hH,hy,q⟩:=h;cases rx;have hus:=rv.zero;subst hus;obtain ⟨z,its,n,r,hl,e⟩:=I.aL7 hH;obtain ⟨u,hu,ru⟩:=r.get hy;have hy':its.toArray[its.toArray.size-1]?=some u:=by
  show its.toArray[its.length-1]?=some u;rw [<-Array.getElem?_toList,<-hl];exact hu
 refine call_meets F.slot_list_pop ⟨_,e,rfl⟩ F.entry_list_pop (F.args_list_pop_1 _) (MeetsSeq.list_pop_last l its.toArray n u hy' (by rw [List.size_toArray];lia)) ⟨e,?_⟩;refine ⟨y,_,I.aLx (its':=its.dropLast) hH e ?_ r.dropLast ?_,ru,q⟩
 ·show its.toArray.eraseIdxIfInBounds (its.toArray.size-1)=its.dropLast.toArray;rw [List.size_toArray,List.eraseIdxIfInBounds_toArray,T6]
 ·rw [List.length_dropLast];lia
end
section
variable {prog:Program} {w:World} {A:Around} {E:Value->Shared->Prop} {s:Shared}
end
section
variable {X:Cx}
end
end L2
namespace L2
open PySem PySem.Spec PyProof.Rows
section
variable {κ:Type} [DecidableEq κ]
noncomputable def zN (kvs:List (κ×V)) (k:κ):Option V:=(kvs.find? fun kv=>decide (kv.1=k)).map (·.2)
noncomputable def putK (kvs:List (κ×V)) (k:κ) (v:V):List (κ×V):=
 if (kvs.any fun kv=>decide (kv.1=k))=true then kvs.map (fun kv=>if kv.1=k then (kv.1,v) else kv) else kvs++[(k,v)]
theorem oG {p:κ×V} {r:List (κ×V)} {k:κ} (e:p.1=k):zN (p::r) k=some p.2:=by simp [zN,List.find?_cons,e]
theorem oH {p:κ×V} {r:List (κ×V)} {k:κ} (e:¬p.1=k):zN (p::r) k=zN r k:=by simp [zN,List.find?_cons,e]
theorem oJ (k:κ):∀kvs:List (κ×V),(kvs.any fun kv=>decide (kv.1=k))=(zN kvs k).isSome
 | []=>rfl
 | p::r=>by
  rw [List.any_cons];by_cases e:p.1=k
  ·simp only [oG e,decide_eq_true e,Bool.true_or,Option.isSome_some]
  ·rw [oH e,decide_eq_false e,Bool.false_or];exact oJ k r
theorem nM (kvs:List (κ×V)) (k:κ) (v:V):(putK kvs k v).length<=kvs.length+1:=by
 unfold putK;split
 ·rw [List.length_map];lia
 ·rw [List.length_append,List.length_cons,List.length_nil];lia
theorem aB3 {kvs:List (κ×V)} {k:κ} (v:V) (h:zN kvs k=none):putK kvs k v=kvs++[(k,v)]:=by
 unfold putK;rw [oJ,h];exact if_neg (by decide)
theorem aAp.mH {o:Option V} {u:Option Value} (r:aAp o u):o.isSome=u.isSome:=by
 cases o with
 | none=>cases u with
  | none=>rfl
  | some _=>exact (show False from r).elim
 | some _=>cases u with
  | none=>exact (show False from r).elim
  | some _=>rfl
theorem KV.val {kvs:List (κ×V)} {vs:List (κ×Value)} (r:KV kvs vs) (k:κ):aAp (zN kvs k) (valueAt vs k):=by
 unfold KV at r;induction r with
 | nil=>exact True.intro
 | @cons p q ps qs h t ih=>
  obtain ⟨h1,h2⟩:=h;by_cases e:p.1=k
  ·have e':q.1=k:=h1.symm.trans e;have b:valueAt (q::qs) k=some q.2:=by simp [valueAt,List.find?_cons,e']
   rw [oG e,b];exact h2
  ·have e':¬q.1=k:=fun z=>e (h1.trans z)
   have b:valueAt (q::qs) k=valueAt qs k:=by simp [valueAt,List.find?_cons,e']
   rw [oH e,b];exact ih
theorem KV.any {kvs:List (κ×V)} {vs:List (κ×Value)} (r:KV kvs vs) (k:κ):(kvs.any fun kv=>decide (kv.1=k))=vs.any fun kv=>decide (kv.1=k):=by
 unfold KV at r;induction r with
 | nil=>rfl
 | cons h t ih=>rw [List.any_cons,List.any_cons,ih,h.1]
theorem KV.repl {kvs:List (κ×V)} {vs:List (κ×Value)} (r:KV kvs vs) (k:κ) {y:V} {u:Value} (ry:RelV y u) :
  KV (kvs.map fun kv=>if kv.1=k then (kv.1,y) else kv) (vs.map fun kv=>if kv.1=k then (kv.1,u) else kv):=by
 unfold KV at r ⊢;induction r with
 | nil=>exact .nil
 | @cons p q ps qs h t ih=>
  rw [List.map_cons,List.map_cons];refine .cons ?_ ih;obtain ⟨h1,h2⟩:=h;by_cases e:p.1=k
  ·rw [if_pos e,if_pos (h1.symm.trans e)];exact ⟨h1,ry⟩
  ·rw [if_neg e,if_neg (fun z=>e (h1.trans z))];exact ⟨h1,h2⟩
theorem KV.put {kvs:List (κ×V)} {vs:List (κ×Value)} (r:KV kvs vs) (k:κ) {y:V} {u:Value} (ry:RelV y u):KV (putK kvs k y) (stored vs k u):=by
 unfold putK stored;rw [r.any k];by_cases e:(vs.any fun kv=>decide (kv.1=k))=true
 ·rw [if_pos e,if_pos e];exact r.repl k ry
 ·rw [if_neg e,if_neg e];exact Paired.snoc r ⟨rfl,ry⟩
theorem KV.length {kvs:List (κ×V)} {vs:List (κ×Value)} (r:KV kvs vs):kvs.length=vs.length:=Paired.length r
end
theorem HR {P:Program} {w:World} {k:Key} {u:Value} (r:RelV (kV k) u):(cX P w).is k u=true:=by
 cases k with
 | inl i=>obtain ⟨t,e⟩:=(show ∃t,u=Value.int i t from r);subst e;exact L_ P w i t
 | inr x=>obtain ⟨t,e⟩:=(show ∃t,u=Value.str x t from r);subst e;exact MF P w x t
theorem HS {P:Program} {w:World}:∀{ks:List Key} {us:List Value},Vals (ks.map kV) us->ItemsAre (cX P w) ks us
 | [],_,r=>by rw [List.map_nil] at r;cases r;exact .nil
 | k::ks,_,r=>by
  rw [List.map_cons] at r;cases r with
  | cons h t=>exact .cons (HR h) (HS t)
noncomputable abbrev KT (H:Hp):List (List Key×V)->List (List Key×Addr×Value)->Prop:=Paired fun p q=>p.1=q.1/\H q.2.1=some (.tup (p.1.map kV))/\RelV p.2 q.2.2
theorem KT.val {H:Hp} {kvs:List (List Key×V)} {xs:List (List Key×Addr×Value)} (r:KT H kvs xs) (k:List Key):aAp (zN kvs k) ((atKey xs k).map (·.2)):=by
 induction r with
 | nil=>exact True.intro
 | @cons p q ps qs h t ih=>
  obtain ⟨h1,_,h2⟩:=h;by_cases e:p.1=k
  ·have e':q.1=k:=h1.symm.trans e;have b:atKey (q::qs) k=some q.2:=by simp [atKey,List.find?_cons,e']
   rw [oG e,b];exact h2
  ·have e':¬q.1=k:=fun z=>e (h1.trans z)
   have b:atKey (q::qs) k=atKey qs k:=by simp [atKey,List.find?_cons,e']
   rw [oH e,b];exact ih
theorem KT.repl {H:Hp} {kvs:List (List Key×V)} {xs:List (List Key×Addr×Value)} (r:KT H kvs xs) (k:List Key) {y:V} {u:Value} (ry:RelV y u) :
  KT H (kvs.map fun kv=>if kv.1=k then (kv.1,y) else kv) (xs.map (putAt k u)):=by
 induction r with
 | nil=>exact .nil
 | @cons p q ps qs h t ih=>
  rw [List.map_cons,List.map_cons];refine .cons ?_ ih;obtain ⟨h1,h2,h3⟩:=h;unfold putAt;by_cases e:p.1=k
  ·rw [if_pos e,if_pos (h1.symm.trans e)];exact ⟨h1,h2,ry⟩
  ·rw [if_neg e,if_neg (fun z=>e (h1.trans z))];exact ⟨h1,h2,h3⟩
theorem KT.put {H:Hp} {kvs:List (List Key×V)} {xs:List (List Key×Addr×Value)} (r:KT H kvs xs) (k:List Key) {b:Addr} {y:V} {u:Value} (hb:H b=some (.tup (k.map kV))) (ry:RelV y u) :
  KT H (putK kvs k y) (storedH xs k b u):=by
 have e:(kvs.any fun kv=>decide (kv.1=k))=(atKey xs k).isSome:=by
  rw [oJ,(r.val k).mH,Option.isSome_map]
 unfold putK storedH;rw [e];by_cases q:(atKey xs k).isSome=true
 ·rw [if_pos q,if_pos q];exact r.repl k ry
 ·rw [if_neg q,if_neg q];exact Paired.snoc r ⟨rfl,hb,ry⟩
theorem KT.keeps {H H':Hp} {kvs:List (List Key×V)} {xs:List (List Key×Addr×Value)} (r:KT H kvs xs) (ht:∀b ys,H b=some (.tup ys)->H' b=some (.tup ys)):KT H' kvs xs:=
 Paired.aLh r fun _ _ z=>⟨z.1,ht _ _ z.2.1,z.2.2⟩
section
variable {P:Program} {w:World} {H:Hp} {h:Heap} {a:Addr}
theorem aI8 {u:HO} (ok:HOk P w H h) (e:Rd H a u):gR P w H h a u:=e.ok ok
theorem WP {kvs:List (Key×V)} (ok:HOk P w H h) (e:Rd H a (.dK kvs)):kvs.length<=sizeLine/\(a==sysModules)=false/\∃vs,KV kvs vs/\h.DictOf (cX P w) a vs:=
 show gR P w H h a (.dK kvs) from aI8 ok e
theorem WQ {kvs:List (Key×V)} (ok:HOk P w H h) (e:H a=some (.dK kvs)):kvs.length<=sizeLine/\(a==sysModules)=false/\∃vs,KV kvs vs/\h.DictOf (cX P w) a vs:=WP ok (.inl e)
theorem HW {ks:List Key} (ok:HOk P w H h) (e:H a=some (.tup (ks.map kV))):(tupleKind (cX P w)).is h ks a:=by
 obtain ⟨_,its,r,o,h1,h2,n,h3⟩:=(show gR P w H h a (.tup (ks.map kV)) from ok a _ e)
 exact ⟨o,its.toArray,n,h1,h2,congrArg (·.1) h3,by simpa using HS r⟩
theorem WR {kvs:List (List Key×V)} (ok:HOk P w H h) (e:Rd H a (.dT kvs)):kvs.length<=sizeLine/\(a==sysModules)=false/\
  ∃xs,KT H kvs xs/\h.DictOfH (tupleKind (cX P w)) a xs:=by
 obtain ⟨z,y,xs,r,o,es,ep,h1,h2,h3,h4,h5⟩:=(show gR P w H h a (.dT kvs) from aI8 ok e)
 refine ⟨z,y,xs,r,o,es,ep,h1,h2,h3,h4,fun x hx=>?_,h5⟩;have all:∀{l:List (List Key×V)} {m:List (List Key×Addr×Value)},KT H l m->∀x∈m,(tupleKind (cX P w)).is h x.1 x.2.1:=by
  intro l m q;induction q with
  | nil=>intro x hx;exact nomatch hx
  | @cons p q ps qs hq t ih=>
   intro x hx;rcases List.mem_cons.mp hx with e|hx
   ·subst e;exact HW ok (by rw [<-hq.1];exact hq.2.1)
   ·exact ih x hx
 exact all r x hx
theorem aEy {kvs:List (List Key×V)} (ok:HOk P w H h) (e:H a=some (.dT kvs)):kvs.length<=sizeLine/\(a==sysModules)=false/\
  ∃xs,KT H kvs xs/\h.DictOfH (tupleKind (cX P w)) a xs:=WR ok (.inl e)
end
noncomputable def WT (H:Hp) (a:Addr) (y:V) (r:Option V):Prop:=
 (∃kvs k,Rd H a (.dK kvs)/\y=kV k/\r=zN kvs k)\/∃kvs k b,Rd H a (.dT kvs)/\y=.ref b/\H b=some (.tup (k.map kV))/\r=zN kvs k
noncomputable def aDa (H:Hp) (a:Addr) (y v:V) (H':Hp):Prop:=
 (∃kvs k,H a=some (.dK kvs)/\y=kV k/\kvs.length<sizeLine/\H'=upd H a (.dK (putK kvs k v)))\/
 ∃kvs k b,H a=some (.dT kvs)/\y=.ref b/\H b=some (.tup (k.map kV))/\kvs.length<sizeLine/\H'=upd H a (.dT (putK kvs k v))
theorem WT.k {H:Hp} {a:Addr} {kvs:List (Key×V)} {k:Key} (e:H a=some (.dK kvs)):WT H a (kV k) (zN kvs k):=.inl ⟨kvs,k,.inl e,rfl,rfl⟩
theorem WT.t {H:Hp} {a b:Addr} {kvs:List (List Key×V)} {k:List Key} (e:H a=some (.dT kvs)) (eb:H b=some (.tup (k.map kV))):WT H a (.ref b) (zN kvs k):=.inr ⟨kvs,k,b,.inl e,rfl,eb,rfl⟩
theorem aDa.k {H:Hp} {a:Addr} {kvs:List (Key×V)} {k:Key} {v:V} (e:H a=some (.dK kvs)) (hl:kvs.length<sizeLine):aDa H a (kV k) v (upd H a (.dK (putK kvs k v))):=.inl ⟨kvs,k,e,rfl,hl,rfl⟩
theorem aDa.t {H:Hp} {a b:Addr} {kvs:List (List Key×V)} {k:List Key} {v:V} (e:H a=some (.dT kvs)) (eb:H b=some (.tup (k.map kV))) (hl:kvs.length<sizeLine) :
  aDa H a (.ref b) v (upd H a (.dT (putK kvs k v))):=.inr ⟨kvs,k,b,e,rfl,eb,hl,rfl⟩
section
variable {X:Cx} {pins:List (Addr×Obj)} {σ:St} {H:Hp} {s:Shared} {a:Addr} {y v:V} {u r:Value} {o:Option V} {A:Around} {E:Value->Shared->Prop}
theorem Inv.big (I:Inv X pins σ H s):sysModules<s.heap.objs.size:=by
 have h:mainGlobals<s.heap.objs.size:=(I.mod.glob.keeps I.bk).lt;exact Nat.lt_trans (by decide) h
theorem WW {Q:Value->Shared->Prop} (hu:A.units+1<cLine) (I:Inv X pins σ H s) (g:WT H a y (some v)) (ry:RelV y u) (h:∀w' s',Inv X pins σ H s'->RelV v w'->Q w' s') :
  wpAny (model X.prog X.w) A (getItem (.ref a) u) Q E s:=by
 rcases g with ⟨kvs,k,e,ey,l⟩|⟨kvs,k,b,e,ey,eb,l⟩
 ·subst ey;obtain ⟨z,hd,vs,rel,dd⟩:=WP I.hok e;obtain ⟨w',hw,rw'⟩:=aAp.some_of (v:=v) (o:=valueAt vs k) (by rw [l];exact rel.val k);exact wpAny_getItem_of (HR ry) dd.mapOf hw (h w' _ (I.tok _) rw')
 ·subst ey;cases (show u=Value.ref b from ry);obtain ⟨z,hd,xs,rel,dd⟩:=WR I.hok e;obtain ⟨w',hw,rw'⟩:=aAp.some_of (v:=v) (o:=(atKey xs k).map (·.2)) (by rw [l];exact rel.val k);obtain ⟨p,hp,hp2⟩:=Option.map_eq_some_iff.mp hw;refine wpAny_getItem_heap (tupleKind_room_in1 hu) (HW I.hok eb) dd hp ?_;rw [hp2];exact h w' _ (I.tok _) rw'
theorem aNy {Q:Value->Shared->Prop} (hu:A.units+1<cLine) (I:Inv X pins σ H s) (g:WT H a y o) (ry:RelV y u) (h:∀s',Inv X pins σ H s'->Q (.bool o.isSome) s') :
  wpAny (model X.prog X.w) A (compareOp .In u (.ref a)) Q E s:=by
 rcases g with ⟨kvs,k,e,ey,l⟩|⟨kvs,k,b,e,ey,eb,l⟩
 ·subst ey;obtain ⟨z,hd,vs,rel,dd⟩:=WP I.hok e;refine wpAny_in_of (HR ry) hd dd.mapOf ?_;rw [<-(rel.val k).mH,<-l];exact h _ (I.tok _)
 ·subst ey;cases (show u=Value.ref b from ry);obtain ⟨z,hd,xs,rel,dd⟩:=WR I.hok e;refine wpAny_in_heap (tupleKind_room_in1 hu) (HW I.hok eb) hd dd ?_;have q:=(rel.val k).mH;rw [Option.isSome_map] at q;rw [<-q,<-l];exact h _ (I.tok _)
theorem aEz {Q:Value->Shared->Prop} (hu:A.units+1<cLine) (I:Inv X pins σ H s) (g:WT H a y o) (ry:RelV y u) (h:∀s',Inv X pins σ H s'->Q (.bool (!o.isSome)) s') :
  wpAny (model X.prog X.w) A (compareOp .NotIn u (.ref a)) Q E s:=by
 rcases g with ⟨kvs,k,e,ey,l⟩|⟨kvs,k,b,e,ey,eb,l⟩
 ·subst ey;obtain ⟨z,hd,vs,rel,dd⟩:=WP I.hok e;refine wpAny_notIn_of (HR ry) hd dd.mapOf ?_;rw [<-(rel.val k).mH,<-l];exact h _ (I.tok _)
 ·subst ey;cases (show u=Value.ref b from ry);obtain ⟨z,hd,xs,rel,dd⟩:=WR I.hok e;refine wpAny_notIn_heap (tupleKind_room_in1 hu) (HW I.hok eb) hd dd ?_;have q:=(rel.val k).mH;rw [Option.isSome_map] at q;rw [<-q,<-l];exact h _ (I.tok _)
theorem M4 {h':Heap} {t':Nat} {ob:HO} (I:Inv X pins σ H s) (mu:Mut (H a)) (hs:Heap.SameBut a s.heap h') (he:∃q,h'.get? a=some q) (new:gR X.prog X.w (upd H a ob) h' a ob) :
  Inv X pins σ (upd H a ob) {s with heap:=h',toks:=t'}:=
 I.write (x:=a) (e:=a) mu (.inl rfl) (fun b q hb z=>(hs.2 b hb).trans z) he new
theorem QF {P:Program} {w:World} {H':Hp} {h':Heap} {kvs:List (Key×V)} {vs:List (Key×Value)} (z:kvs.length<=sizeLine) (hd:(a==sysModules)=false) (rel:KV kvs vs) (dd:h'.DictOf (cX P w) a vs) :
  gR P w H' h' a (.dK kvs):=⟨z,hd,vs,rel,dd⟩
theorem HX {H':Hp} {Q:Unit->Shared->Prop} (hu:A.units+1<cLine) (I:Inv X pins σ H s) (g:aDa H a y v H') (ry:RelV y u) (rv:RelV v r) (h:∀s',Inv X pins σ H' s'->Q () s') :
  wpAny (model X.prog X.w) A (setItem (.ref a) u r) Q E s:=by
 rcases g with ⟨kvs,k,e,ey,l,eH⟩|⟨kvs,k,b,e,ey,eb,l,eH⟩
 ·subst ey eH;obtain ⟨z,hd,vs,rel,dd⟩:=WQ I.hok e;have hz:vs.length<=sizeLine:=by rw [<-rel.length];exact z
  have hl:(putK kvs k v).length<=sizeLine:=by have:=nM kvs k v;lia
  refine wpAny_setItem_pairs (hsz:=hz) (HR ry) dd fun h' dd' hs=>h _ ?_
  have he:∃q,h'.get? a=some q:=let ⟨q,_,_,hq,_⟩:=dd';⟨q,hq⟩
  exact M4 I (by rw [e];exact True.intro) hs he (QF hl hd (rel.put k rv) dd')
 ·subst ey eH;cases (show u=Value.ref b from ry);obtain ⟨z,hd,xs,rel,dd⟩:=aEy I.hok e;have hz:xs.length<=sizeLine:=by rw [<-Paired.length rel];exact z
  have hl:(putK kvs k v).length<=sizeLine:=by have:=nM kvs k v;lia
  refine wpAny_setItem_heap (hsz:=hz) (tupleKind_room_in1 hu) (HW I.hok eb) dd fun h' dd' hs=>h _ ?_
  obtain ⟨q,es,ep,hq,h2,h3,h4,_,h5⟩:=dd';refine M4 I (by rw [e];exact True.intro) hs ⟨q,hq⟩ ⟨hl,hd,_,(rel.put k eb rv).keeps fun c ys ec=>?_,q,es,ep,hq,h2,h3,h4,h5⟩;rw [bB (aEf ec e (fun z=>nomatch z))];exact ec
end
section
variable {X:Cx} {pins:List (Addr×Obj)} {σ:St} {H:Hp} {s:Shared} {a:Addr} {kvs:List (Key×V)} {k:Key} {u:Value} {A:Around} {E:Value->Shared->Prop}
end
theorem M5 {X:Cx} {pins:List (Addr×Obj)} {σ:St} {H:Hp} {s:Shared} {a:Addr} {y:V} {o:Option V} (I:Inv X pins σ H s) (g:WT H a y o):s.TypeIs (.ref a) "dict":=by
 rcases g with ⟨kvs,k,e,_,_⟩|⟨kvs,k,b,e,_,_,_⟩
 ·obtain ⟨_,_,vs,_,dd⟩:=WP I.hok e;exact dd.typeIs
 ·obtain ⟨_,_,xs,_,dd⟩:=WR I.hok e;exact dd.typeIs
section
variable {X:Cx} {o i e value:Expr} {pos pos' tpos:Pos} {td ty tv:TE}
end
theorem QG {P:Program} {w:World} {H:Hp} (h:Heap) (hb:sysModules<h.objs.size):gR P w H (h.push {cls:=.type "dict",data:=.dict #[]}) h.objs.size (.dK []):=
 ⟨Nat.zero_le _,beq_eq_false_iff_ne.mpr (Ne.symm (Nat.ne_of_lt hb)),[],.nil,Heap.DictOf.new h⟩
def aI9:TE:=fun _ H Q=>∀p,H p=none->Q (.ref p) (upd H p (.dK []))
section
variable {X:Cx} {pos:Pos}
theorem aB4:PE X (.Dict [] [] pos) aI9:=fun pins s σ H Q I h=>
 wpAny_Dict_empty ⟨.ref s.heap.objs.size,_,I.laid (a:=s.heap.objs.size) (o:=.dK []) (t':=s.toks) (fun _ _ q=>Heap.get?_push_of_some _ q) (Nat.le_refl _) (QG s.heap I.big),rfl,h _ (I.hok.fresh (Nat.le_refl _))⟩
end
noncomputable def WX:List (TE×TE)->St->Hp->(List (V×V)->Hp->Prop)->Prop
 | [],_,H,Q=>Q [] H
 | (tk,tv)::r,σ,H,Q=>tk σ H fun x H1=>tv σ H1 fun y H2=>WX r σ H2 fun ps H3=>Q ((x,y)::ps) H3
noncomputable abbrev VV:List (V×V)->List (Value×Value)->Prop:=Paired fun p q=>RelV p.1 q.1/\RelV p.2 q.2
noncomputable def PPs (X:Cx) (pos:Pos) (keys:List (Option Expr)) (values:List Expr) (trs:List (TE×TE)):Prop:=
 ∀(pins:List (Addr×Obj)) (s:Shared) (σ:St) (H:Hp) (Q:List (V×V)->Hp->Prop),Inv X pins σ H s->WX trs σ H Q->
  wpAny (model X.prog X.w) X.A (evalPairs (pairTrees keys values X.env pos)) (fun vs s'=>∃ps H',Inv X pins σ H' s'/\VV ps vs/\Q ps H') X.xe s
theorem aF0 {X:Cx} {pos:Pos}:PPs X pos [] [] []:=fun pins s σ H Q I h=>pairTrees_nil_walk ⟨[],H,I,.nil,h⟩
theorem QH {X:Cx} {pos:Pos} {k v:Expr} {ks:List (Option Expr)} {vs:List Expr} {tk tv:TE} {trs:List (TE×TE)} (hk:PE X k tk) (hv:PE X v tv) (hr:PPs X pos ks vs trs) :
  PPs X pos (some k::ks) (v::vs) ((tk,tv)::trs):=fun pins s σ H Q I h=>
 pairTrees_cons_walk (thn (hk pins s σ H _ I h) fun u s1 ⟨x,H1,I1,rx,q1⟩=>thn (hv pins s1 σ H1 _ I1 q1) fun w2 s2 ⟨y,H2,I2,ry,q2⟩=>
  thn (hr pins s2 σ H2 _ I2 q2) fun ws s3 ⟨ps,H3,I3,rel,q3⟩=>⟨(x,y)::ps,H3,I3,.cons ⟨rx,ry⟩ rel,q3⟩)
noncomputable def jA (kvs more:List (Key×V)):List (Key×V):=more.foldl (fun acc kv=>putK acc kv.1 kv.2) kvs
theorem KV.merge:∀{more:List (Key×V)} {rs:List (Key×Value)} {kvs:List (Key×V)} {vs:List (Key×Value)},KV more rs->KV kvs vs->KV (jA kvs more) (merged vs rs):=by
 intro more rs kvs vs r;unfold KV at r;induction r generalizing kvs vs with
 | nil=>intro q;exact q
 | @cons p q ps qs h t ih=>
  intro r0;have e:KV (putK kvs p.1 p.2) (stored vs q.1 q.2):=by
   have:=r0.put p.1 h.2;rw [<-h.1];exact this
  exact ih e
theorem kW:∀(more kvs:List (Key×V)),(jA kvs more).length<=kvs.length+more.length
 | [],kvs=>by show kvs.length<=kvs.length+0;lia
 | p::r,kvs=>by
  have h1:=kW r (putK kvs p.1 p.2);have h2:=nM kvs p.1 p.2;show (jA (putK kvs p.1 p.2) r).length<=_;rw [List.length_cons];lia
theorem zO {P:Program} {w:World}:∀{kvs:List (Key×V)} {ws:List (Value×Value)},VV (kvs.map fun kv=>(kV kv.1,kv.2)) ws->∃rs,Carries (cX P w) ws rs/\KV kvs rs
 | [],_,r=>by rw [List.map_nil] at r;cases r;exact ⟨[],True.intro,.nil⟩
 | p::kvs,_,r=>by
  rw [List.map_cons] at r;cases r with
  | @cons a b as bs h t=>
   obtain ⟨rs,c,q⟩:=zO (P:=P) (w:=w) t;obtain ⟨b1,b2⟩:=b;exact ⟨(p.1,b2)::rs,⟨HR h.1,rfl,c⟩,.cons ⟨rfl,h.2⟩ q⟩
noncomputable def aLy (trs:List (TE×TE)):TE:=fun σ H Q=>∀p,H p=none->WX trs σ (upd H p (.dK [])) fun ps H2=>H2 p=some (.dK [])/\∃kvs:List (Key×V),ps=kvs.map (fun kv=>(kV kv.1,kv.2))/\kvs.length<=15/\Q (.ref p) (upd H2 p (.dK (jA [] kvs)))
theorem aF1 {X:Cx} {pos:Pos} {keys:List (Option Expr)} {values:List Expr} {trs:List (TE×TE)} (h:PPs X pos keys values trs) (hall:keys.all (·.isSome)=true) (hl:keys.length=values.length) (h0:keys≠[])
  (h15:keys.length<=15):PE X (.Dict keys values pos) (aLy trs):=by
 intro pins s σ H Q I q;have hn:=I.hok.fresh (Nat.le_refl s.heap.objs.size);have I1:=I.laid (a:=s.heap.objs.size) (o:=.dK []) (h':=s.heap.push {cls:=.type "dict",data:=.dict #[]}) (t':=s.toks) (fun _ _ q=>Heap.get?_push_of_some _ q) (Nat.le_refl _) (QG s.heap I.big);refine wpAny_Dict_walk (knd:=cX X.prog X.w) hall hl h0 h15 (thn (h pins _ σ _ _ I1 (q _ hn)) fun ws s2 ⟨ps,H2,I2,rel,e,kvs,ep,lk,q2⟩=>?_);subst ep;obtain ⟨rs,c,rk⟩:=zO (P:=X.prog) (w:=X.w) rel;obtain ⟨z,hd,vs0,r0,dd⟩:=WQ I2.hok e;cases r0;refine ⟨rs,c,dd,fun h' dd' hs=>⟨.ref s.heap.objs.size,_,?_,rfl,q2⟩⟩;have hz:(jA [] kvs).length<=sizeLine:=by
  have h1:=kW kvs [];rw [List.length_nil] at h1;rw [sizeLine_eq];lia
 have he:∃q,h'.get? s.heap.objs.size=some q:=let ⟨q,_,_,hq,_⟩:=dd';⟨q,hq⟩
 exact M4 I2 (by rw [e];exact True.intro) hs he (QF hz hd (rk.merge .nil) dd')
section
variable {X:Cx} {pins:List (Addr×Obj)} {σ:St} {H:Hp} {s:Shared} {a:Addr} {y d:V} {u r:Value} {o:Option V} {A:Around} {E:Value->Shared->Prop}
end
section
variable {X:Cx} {o e f:Expr} {apos cpos:Pos} {td ty tx:TE}
end
section
variable {X:Cx} {pins:List (Addr×Obj)} {σ:St} {H:Hp} {s:Shared} {a:Addr} {kvs:List (Key×V)} {A:Around} {E:Value->Shared->Prop}
end
section
variable {X:Cx} {pins:List (Addr×Obj)} {σ:St} {H:Hp} {s:Shared} {a:Addr} {y:V} {u:Value} {A:Around} {E:Value->Shared->Prop}
end
end L2
namespace Att
open PySem PySem.W PySem.Calls PyProof.Rows
theorem xH {P:Params} {h:Heap}:∀(ns:List Int) (vs:List Value),WellAll P h vs (ns.map WData.int)->IntsAre vs ns:=by
 intro ns;induction ns with
 | nil=>
  intro vs w;rw [List.map_nil] at w;cases w;exact .nil
 | cons n ns ih=>
  intro vs w;rw [List.map_cons] at w;cases w with
  | cons a b=>
   cases a;exact .cons _ _ (ih _ b)
theorem WY {l:OpenLaw} {n:Nat} (hn:l.most=some n) {P:Params} {h:Heap} {args:List WData} {vals:List Value}
  (hpre:l.row.toRowW.claim.pre args=true) (hwl:WellAll P h vals args) :
  ∃a vs ns,vals=[Value.ref a]/\args=[WData.list (ns.map WData.int)]/\h.get? a=some {cls:=.type "list",data:=.seq vs.toArray}/\IntsAre vs ns/\ns.length<=n:=by
 have hsh:WShape.hasAll [] args [.list .int]=true:=(pre_splitW hpre).1;have hc:l.pre.holds [] {args:=args}=true:=(pre_splitW hpre).2;obtain ⟨d,r,rfl,h1,h2⟩:=hasAllW_cons hsh;obtain rfl:=hasAllW_nil h2;obtain ⟨xs,rfl,h3⟩:=hasW_list h1;obtain ⟨ns,rfl⟩:=items_int h3;have hlen:ns.length<=n:=by
  unfold OpenLaw.pre at hc;have h4:(WTm.not (.lt (.lit (.int (n:Int))) (.len (.arg 0)))).holds [] {args:=[.list (ns.map .int)]}=true:=by
   have h4:=(holds_andW hc).1;rw [hn] at h4;exact h4
  have h5:=condW_of h4 (w_not (w_lt w_lit (w_len_list (w_arg rfl))));rw [List.length_map] at h5;refine Nat.le_of_not_lt fun q=>?_
  have q':(n:Int)<((ns.length:Nat):Int):=by lia
  first
   | (rw [decide_eq_true q'] at h5;exact absurd h5 (by decide))
   | (simp at h5;lia)
 cases hwl with
 | cons w1 w2=>
  cases w2;cases w1 with
  | list ho hall=>exact ⟨_,_,ns,rfl,rfl,ho,xH ns _ hall,hlen⟩
theorem W0 (l:OpenLaw) (args:List WData):l.row.toRowW.claim.post args (.bool true) args=true:=
 postW_of (r:=l.row.toRowW) (X:=(true==true))
  (show WShape.has [] (.bool true) .bool=true by first|rfl|decide|simp [WShape.has,WShape.arms,WShape.armsAll])
  (show (WTm.eq .res (.lit (.bool true))).value [] {args:=args,res:=some (.bool true),after:=args}=some (.bool (true==true)) from w_eq_bool (w_res rfl) w_lit) rfl
theorem M6 {l:OpenLaw} {n:Nat} {q:Program} {loose:List Str} {XP:(Str->Option Value)->Heap->Prop} {YP:World->Heap->Prop} {d:DefRec}
  (hn:l.most=some n) (hdf:d.params.defaults=[])
  (call:∀(w:World) (s₀ s₁:Shared) (mg mb:Str->Option Value) (fa:Addr) (o:Obj) (pm cd doc:Value) (a:Addr) (vs:List Value) (ns:List Int),
   Ground q loose [] XP w s₀ mg mb s₁.heap->YP w s₁.heap->
   s₁.heap.get? fa=some o->o.data=.func (docDef d.name d.params d.body d.scope pm cd doc)->s₁.heap.CodeRec cd d.name->mg d.name=some (.ref fa)->
   s₁.heap.get? a=some {cls:=.type "list",data:=.seq vs.toArray}->IntsAre vs ns->ns.length<=n->s₁.gens=#[]->
   codeAny (model l.prog w) callerA (.call (.ref fa) ⟨[.ref a],[]⟩) (fun r s'=>r=.ok (.ret (.bool true))/\OldK s₁.heap s'.heap/\s'.os=s₁.os/\AllBare s'.gens) s₁) :
  WalkO q loose XP YP l.row.toRowW d [] (fun f vs=>PySem.call f vs):=by
 intro w s₀ s₁ mg mb G Y fa o pm cd doc dV kV ho hd hcd hD hmg hg args vals as hpre hlay hrd hwl hlo;obtain rfl:dV=.none:=Dflts.none hD hdf;obtain rfl:kV=.none:=Dflts.noKw hD;obtain ⟨a,vs,ns,rfl,rfl,hobj,hints,hlen⟩:=WY hn hpre hwl;refine enter_call (codeAny_mono (call w s₀ s₁ mg mb fa o pm cd doc a vs ns G Y ho (fd_plain hd) hcd hmg hobj hints hlen hg) fun r s' hq=>?_);obtain ⟨rfl,h2,h3,h4⟩:=hq;exact ⟨.inl ⟨.bool true,.bool true,[],rfl,fun _=>rfl,.bool true,W0 l _,fun _=>⟨List.Pairwise.nil,fun _ hm=>(nomatch hm)⟩⟩,h2,h3,h4⟩
section
variable {prog:Program} {w:World} {A:Around} {E:Value->Shared->Prop} {s:Shared} {K:Frag}
end
end Att
namespace L2
open PySem PySem.Spec PyProof.Rows
theorem HY:∀{vs:List Value} {ns:List Int},IntsAre vs ns->Vals (ns.map V.int) vs
 | _,_,.nil=>.nil
 | _,_,.cons n t h=>.cons ⟨t,rfl⟩ (HY h)
def Only (H:Hp):Prop:=∀b,H b=none\/∃o xs,H b=some (.frz o (.lst xs))
theorem aB5 {P:Program} {w:World} {K:PySem.W.Frag} {mg mb:Str->Option Value} {CX:CXT} {k:Nat} {fa a:Addr} {fd:FuncData} {x:Str} {sp:Sp} {s₁:Shared} {vs:List Value} {ns:List Int}
  (KX:K.In s₁.heap) (hns:s₁.heap.Ns mainGlobals mg) (hb:s₁.heap.Ns builtinsNs mb) (hbb:∀x:Str,x ≠ "__name__"->mb x=bootBuiltins x) (hlim:s₁.heap.NoLimit) (hg:s₁.gens=#[])
  (ha:s₁.heap.get? a=some {cls:=.type "list",data:=.seq vs.toArray}) (hi:IntsAre vs ns) (hl:ns.length<=sizeLine) (hr:jX k callerA)
  (F:∀base:Heap,K.In base->base.Ns mainGlobals mg->o7 P w K mg base CX k fa fd [x] sp) (hbind:∀(s:Shared) (u:Value),BindsTo s fd ⟨[u],[]⟩ [(x,u)])
  (hsp:∀H:Hp,Only H->SqL K H a (ns.map V.int)->sp [.ref a] H (fun v _=>v=.bl true) fun _ _ _=>False)
  (hCX:∀H e s',CX [] H s₁ (fun _ _ _=>False) e s'->False) :
  codeAny (model P w) callerA (.call (.ref fa) ⟨[.ref a],[]⟩) (fun r s'=>r=.ok (.ret (.bool true))/\OldK s₁.heap s'.heap/\s'.os=s₁.os/\AllBare s'.gens) s₁:=by
 have rv:=HY hi;have lenV:=hi.length
 -- from an abstract heap in which nothing but the script may be tracked
 have core:∀H:Hp,Only H->SqL K H a (ns.map V.int)->HOk P w H s₁.heap->(∀b,H b≠none->b=a)->(H a≠none->K.lookup a=none)->
   codeAny (model P w) callerA (.call (.ref fa) ⟨[.ref a],[]⟩) (fun r s'=>r=.ok (.ret (.bool true))/\OldK s₁.heap s'.heap/\s'.os=s₁.os/\AllBare s'.gens) s₁:=by
  intro H hO hS hok hA hK;have base_of:∀{b:Addr} {o:Obj},s₁.heap.get? b=some o->H b=none->(aAs s₁.heap H).get? b=some o:=fun e n=>aAt e n
  have noA:∀{b:Addr} {o:Obj} {es:Array DictEntry} {ep:Nat},s₁.heap.get? b=some o->o.data=.dict es ep->H b=none:=fun {b o es ep} e d=>by
   cases q:H b with
   | none=>rfl
   | some u=>
    have e':b=a:=hA b (by rw [q];simp);subst e';rw [ha] at e;cases e;have d':Data.seq vs.toArray _=Data.dict es ep:=d;cases d'
  have nsK:∀{b:Addr} {m:Str->Option Value},s₁.heap.Ns b m->(aAs s₁.heap H).Ns b m:=fun {b m} ⟨o,es,ep,e,d,r⟩=>⟨o,es,ep,base_of e (noA e d),d,r⟩
  have hKb:K.In (aAs s₁.heap H):=fun b o e=>base_of (KX b o e) (by
   cases q:H b with
   | none=>rfl
   | some u=>
    have e':b=a:=hA b (by rw [q];simp);subst e';rw [hK (by rw [q];simp)] at e;cases e)
  have hM:Mod K mg (aAs s₁.heap H):=⟨hKb,nsK hns,⟨mb,nsK hb,hbb⟩,let ⟨mc,h1,h2⟩:=hlim;⟨mc,nsK h1,h2⟩⟩
  have e0:aEp P w K mg (aAs s₁.heap H) callerA [] s₁ H:=⟨rfl,hM,fun b o e=>aEg e,Nat.le_of_eq (V3 _ _),trivial,fun b hb=>absurd (show b∈([]:List Addr) from hb) (by simp),hok,.of_eq hg⟩
  refine codeAny_mono ((F _ hKb (nsK hns)).run callerA [] s₁ H ⟨[.ref a],[]⟩ [.ref a] [.ref a] _ _ hr e0 (hbind s₁ (.ref a)) (.cons rfl .nil) (hsp H hO hS)) fun r s' h=>?_
  cases r with
  | error e=>exact (hCX H e s' h).elim
  | ok fl=>
   cases fl with
   | next=>exact False.elim h
   | brk=>exact False.elim h
   | cont=>exact False.elim h
   | ret u=>
    obtain ⟨v,H',os,bare,un,hok',r',q⟩:=h;have q':v=.bl true:=q;subst q';obtain rfl:u=Value.bool true:=r';refine ⟨rfl,OldK.of_keep fun b o e=>?_,os,bare⟩;cases q:H b with
    | none=>exact un.keep b o e q (by intro z;exact absurd (show b∈([]:List Addr) from z) (by simp)) (by simp)
    | some u=>
     rcases hO b with z|⟨ob,xs,z⟩
     ·rw [q] at z;cases z
     ·have z2:=un.frzs b ob _ z;obtain ⟨e1,_⟩:=hok b _ z;obtain ⟨e2,_⟩:=hok' b _ z2;rw [e] at e1;cases e1;exact e2
 cases hk:K.lookup a with
 | some o=>
  -- the script is one of the module's own objects
  have e:=KX a o hk;rw [ha] at e;cases e;refine core (fun _=>none) (fun _=>.inl rfl) (.inr ⟨_,vs.toArray,_,hk,rfl,rfl,rfl,by rw [List.size_toArray,lenV];exact hl,by simpa using rv⟩) (fun b u z=>by have z':(none:Option HO)=some u:=z;cases z') (fun b z=>absurd rfl z) fun z=>absurd rfl z
 | none=>
  refine core (fun b=>if b=a then some (.frz {cls:=.type "list",data:=.seq vs.toArray} (.lst (ns.map V.int))) else none) (fun b=>?_) (.inl (.inr ⟨{cls:=.type "list",data:=.seq vs.toArray},if_pos rfl⟩)) (fun b u z=>?_) (fun b z=>?_) fun _=>hk
  ·by_cases hb:b=a
   ·exact .inr ⟨_,_,if_pos hb⟩
   ·exact .inl (if_neg hb)
  ·by_cases hb:b=a
   ·have z':=(if_pos hb).symm.trans z;cases z';subst hb;exact ⟨ha,by rw [List.length_map];exact hl,vs,_,rv,ha⟩
   ·have z':=(if_neg hb).symm.trans z;cases z'
  ·by_cases hb:b=a
   ·exact hb
   ·exact absurd (if_neg hb) z
end L2
namespace L2
open PySem PySem.Spec PyProof.Rows
theorem aF2 {l:PySem.W.OpenLaw} {n k:Nat} {q:Program} {loose:List Str} {XP:(Str->Option Value)->Heap->Prop} {YP:World->Heap->Prop} {d:DefRec} {K:Params->PySem.W.Frag} {CX:World->CXT} {sp:World->Sp} {x:Str}
  (hn:l.most=some n) (hn2:n<=sizeLine) (hdf:d.params.defaults=[]) (hr:jX k callerA)
  (hY:∀(w:World) (h:Heap),YP w h->(K w.params).In h)
  (F:∀(w:World) (mg:Str->Option Value) (fa:Addr) (h:Heap),(K w.params).In h->h.Ns mainGlobals mg->mg d.name=some (.ref fa)->
   ∃fd:FuncData,(∀(s:Shared) (u:Value),BindsTo s fd ⟨[u],[]⟩ [(x,u)])/\
    ∀base:Heap,(K w.params).In base->base.Ns mainGlobals mg->o7 l.prog w (K w.params) mg base (CX w) k fa fd [x] (sp w))
  (hsp:∀(w:World) (H:Hp) (a:Addr) (ns:List Int),ns.length<=n->Only H->SqL (K w.params) H a (ns.map V.int)->sp w [.ref a] H (fun v _=>v=.bl true) fun _ _ _=>False)
  (hCX:∀(w:World) (H:Hp) (s:Shared) (e:Value) (s':Shared),CX w [] H s (fun _ _ _=>False) e s'->False) :
  PySem.W.WalkO q loose XP YP l.row.toRowW d [] (fun f vs=>PySem.call f vs):=by
 refine Att.M6 hn hdf fun w s₀ s₁ mg mb fa o pm cd doc a vs ns G Y ho hd hcd hmg hobj hints hlen hg=>?_
 have KX:=hY w _ Y;obtain ⟨fd,hb,hF⟩:=F w mg fa _ KX G.T.g hmg;exact aB5 KX G.T.g G.T.b G.T.builtins G.T.nolimit hg hobj hints (Nat.le_trans hlen hn2) hr hF hb (fun H hO hS=>hsp w H a ns hlen hO hS) fun H e s'=>hCX w H s₁ e s'
end L2
namespace L2
open PySem PySem.Spec PyProof.Rows
noncomputable def jB (s:Stmt):Arguments:=match s with
 | .FunctionDef _ a _ _ _ _ _ _ _ _=>a
 | _=>{posonlyargs:=[],args:=[],vararg:=none,kwonlyargs:=[],kw_defaults:=[],kwarg:=none,defaults:=[]}
noncomputable def cZ (s:Stmt):List Stmt:=match s with
 | .FunctionDef _ _ b _ _ _ _ _ _ _=>b
 | _=>[]
noncomputable def aH (s:Stmt):Scope:=match s with
 | .FunctionDef _ _ _ _ _ _ sc _ _ _=>sc
 | _=>{kind:=.function,names:=[],isGenerator:=false,isCoroutine:=false}
abbrev CX0:CXT:=fun _ _ _ _ _ _=>False
abbrev E0:XK:=fun _ _ _=>False
theorem aF3 {X:Cx}:QC CX0 X E0:=fun _ _ _ _ _ _ _ h=>h.elim
structure Fun (K:PySem.W.Frag) (x qual:Str) (st:Stmt) (f:Addr) (fd:FuncData):Prop where
 ex:∃(oc:Value) (od:Option Addr) (kV doc pm:Value) (an:Option Addr) (cdv ct:Value) (osl:Array (Option Value)),
  fd=PySem.W.fnOf x qual (jB st) (cZ st) (aH st) .none kV doc pm an cdv ct/\K.lookup f=some ⟨oc,od,.func fd,osl⟩/\PySem.W.codeIn K cdv qual=true
 kp:PySem.W.keepIn K (.ref f)=true
section
variable {P:Program} {w:World} {K:PySem.W.Frag} {mg:Str->Option Value} {base:Heap}
theorem Fun.ok {x qual:Str} {st:Stmt} {f:Addr} {fd:FuncData} {N ps:List Str} {k:Nat} {sp:Sp} (F:Fun K x qual st f fd) (S:bO N ps (aH st)) (len:∀vs H Q E,sp vs H Q E->vs.length=ps.length)
  (hbody:∀(cdv:Value) (A:Around) (outer:List Env) (s:Shared) (H:Hp) (vs:List V) (Q:VK) (E:XK),jX k (A.deeper (envOfC qual (aH st) s.heap.objs.size f cdv))->sp vs H Q E->
   ∃t,PSs (lY CX0 P w K mg base N qual (aH st) f cdv A outer s H E).nox (cZ st) t/\t {nx:=fun _ H'=>Q .non H',rt:=Q} (start N vs) H):o7 P w K mg base CX0 (k+1) f fd ps sp:=by
 obtain ⟨oc,od,kV,doc,pm,an,cdv,ct,osl,rfl,lk,hcd⟩:=F.ex;refine aI1 lk hcd S len fun A outer s H vs Q E hr hsp=>?_
 obtain ⟨t,h,q⟩:=hbody cdv A outer s H vs Q E hr hsp;exact ⟨t,h.nox,q⟩
theorem Fun.binds {x qual:Str} {st:Stmt} {f:Addr} {fd:FuncData} {ps:List Str} (F:Fun K x qual st f fd)
  (h:∀(kV doc pm:Value) (an:Option Addr) (cdv ct:Value) (us:List Value),us.length=ps.length->bindArgs (PySem.W.fnOf x qual (jB st) (cZ st) (aH st) .none kV doc pm an cdv ct) ⟨us,[]⟩=pure (ps.zip us)):Binds K fd ps []:=by
 obtain ⟨oc,od,kV,doc,pm,an,cdv,ct,osl,rfl,lk,hcd⟩:=F.ex;exact .all (h kV doc pm an cdv ct)
theorem nD {x qual:Str} {st:Stmt} {f:Addr} {oc:Value} {od an:Option Addr} {osl:Array (Option Value)} {kV doc pm cdv ct:Value} (l:K.lookup f=some ⟨oc,od,.func (PySem.W.fnOf x qual (jB st) (cZ st) (aH st) .none kV doc pm an cdv ct),osl⟩)
  (c:PySem.W.codeIn K cdv qual=true) (k:PySem.W.keepIn K (.ref f)=true):Fun K x qual st f (PySem.W.fnOf x qual (jB st) (cZ st) (aH st) .none kV doc pm an cdv ct):=⟨⟨oc,od,kV,doc,pm,an,cdv,ct,osl,rfl,l,c⟩,k⟩
end
section
variable {X:Cx}
end
def b_ (H H':Hp):Prop:=∀b o,H b=some o->H' b=some o
theorem b_.refl (H:Hp):b_ H H:=fun _ _ h=>h
theorem b_.trans {H H1 H2:Hp} (a:b_ H H1) (b:b_ H1 H2):b_ H H2:=fun c o h=>b c o (a c o h)
theorem b_.free {H H':Hp} (e:b_ H H') {l:Addr} (h:H' l=Option.none):H l=Option.none:=by
 cases q:H l with
 | none=>rfl
 | some o=>
  rw [e l o q] at h;cases h
section
variable {X:Cx}
end
section
variable {κ:Type} [DecidableEq κ]
theorem aB6 {kvs:List (κ×V)} {k:κ} (h:zN kvs k=none):¬k∈kvs.map (·.1):=by
 intro m;obtain ⟨p,hp,e⟩:=List.mem_map.mp m;have q:(kvs.any fun kv=>decide (kv.1=k))=true:=List.any_eq_true.mpr ⟨p,hp,decide_eq_true e⟩;rw [oJ,h] at q;exact absurd q (by simp)
theorem W2:∀{l:List κ} {k:κ},l.Nodup->¬k∈l->(l++[k]).Nodup
 | [],k,_,_=>by simp
 | a::r,k,h,hk=>by
  obtain ⟨h1,h2⟩:=List.nodup_cons.mp h;show (a::(r++[k])).Nodup;refine List.nodup_cons.mpr ⟨fun m=>?_,W2 h2 fun m=>hk (List.mem_cons.mpr (Or.inr m))⟩;rcases List.mem_append.mp m with q|q
  ·exact h1 q
  ·exact hk (List.mem_cons.mpr (Or.inl (List.mem_singleton.mp q).symm))
theorem aF4 {kvs:List (κ×V)} {k:κ} (v:V) (hn:(kvs.map (·.1)).Nodup) (h:zN kvs k=none):((putK kvs k v).map (·.1)).Nodup:=by
 rw [aB3 v h,List.map_append];exact W2 hn (aB6 h)
end
end L2
end
section
namespace TS
open PySem PyProof.Rows
end TS
end
section
namespace TS
open PySem PyProof.Rows
section
variable {prog:Program} {w:World} {A:Around} {E:Value->Shared->Prop} {s:Shared}
end
end TS
end
section
namespace TS
open PySem PyProof.Rows
section
variable {prog:Program} {w:World} {A:Around} {E:Value->Shared->Prop} {s:Shared} {kd:SortKind} {U:Keyed->Prop} {blt:Keyed->Keyed->Bool}
end
section
variable (blt:Keyed->Keyed->Bool)
variable {blt}
variable {a b out:Array Keyed} {ia ib:Nat}
end
end TS
end
section
namespace TS
open PySem PyProof.Rows
section
variable {prog:Program} {w:World} {A:Around} {E:Value->Shared->Prop} {s:Shared} {kd:SortKind} {U:Keyed->Prop} {blt:Keyed->Keyed->Bool}
end
end TS
end
section
namespace TS
open PySem PyProof.Rows
section
variable {blt:Keyed->Keyed->Bool}
variable {a b out:Array Keyed} {na nb:Nat}
variable {U:Keyed->Prop}
end
section
variable {prog:Program} {w:World} {A:Around} {E:Value->Shared->Prop} {s:Shared} {kd:SortKind} {U:Keyed->Prop} {blt:Keyed->Keyed->Bool}
end
end TS
end
section
namespace TS
open PySem PyProof.Rows
section
variable {blt:Keyed->Keyed->Bool} {U:Keyed->Prop}
end
section
variable {prog:Program} {w:World} {A:Around} {E:Value->Shared->Prop} {s:Shared} {kd:SortKind} {U:Keyed->Prop} {blt:Keyed->Keyed->Bool}
end
end TS
end
section
namespace TS
open PySem PyProof.Rows
section
variable {blt:Keyed->Keyed->Bool} {U:Keyed->Prop}
end
section
variable {prog:Program} {w:World} {A:Around} {E:Value->Shared->Prop} {s:Shared} {kd:SortKind} {U:Keyed->Prop} {blt:Keyed->Keyed->Bool}
end
end TS
end
section
namespace TS
open PySem PyProof.Rows
section
variable {blt:Keyed->Keyed->Bool} {U:Keyed->Prop}
end
section
variable {prog:Program} {w:World} {A:Around} {E:Value->Shared->Prop} {s:Shared} {kd:SortKind} {U:Keyed->Prop} {blt:Keyed->Keyed->Bool}
end
section
variable {blt:Keyed->Keyed->Bool} {U:Keyed->Prop}
end
end TS
end
section
namespace TS
open PySem PyProof.Rows
section
variable {prog:Program} {w:World} {A:Around} {E:Value->Shared->Prop} {s:Shared} {kd:SortKind} {U:Keyed->Prop} {blt:Keyed->Keyed->Bool}
end
end TS
end
section
namespace Mi
open PySem
inductive D where
 | uD|non|bl (b:Bool)|int (i:Int)|str (x:Str)
 | tup (xs:List D)|lst (xs:List D)|dct (kvs:List (D×D))|scr (xs:List D)|fdc (kvs:List (D×D))|cel (a:Nat) (xs:List D)|exc (c:Str) (fs:List (Str×Str))
 deriving Inhabited
mutual
noncomputable def D.pure:D->Bool
 | .tup xs=>D.aX xs
 | .lst _=>false
 | .dct _=>false
 | .uD=>false
 | .scr xs=>D.aX xs
 | .fdc _=>false
 | .cel _ _=>false
 | .exc _ _=>false
 | _=>true
noncomputable def D.aX:List D->Bool
 | []=>true
 | x::xs=>x.pure&&D.aX xs
end
mutual
noncomputable def eqD:D->D->Bool
 | .non,.non=>true
 | .bl a,.bl b=>a==b
 | .int a,.int b=>a==b
 | .bl a,.int b=>(if a then (1:Int) else 0)==b
 | .int a,.bl b=>a==(if b then (1:Int) else 0)
 | .str a,.str b=>a==b
 | .tup xs,.tup ys=>G3 xs ys
 | .lst xs,.lst ys=>G3 xs ys
 | _,_=>false
noncomputable def G3:List D->List D->Bool
 | [],[]=>true
 | x::xs,y::ys=>eqD x y&&G3 xs ys
 | _,_=>false
end
mutual
noncomputable def D.bU:Nat->D->Bool
 | n+1,.tup xs=>D.cA n xs
 | n+1,.lst xs=>D.cA n xs
 | 0,.tup _=>false
 | 0,.lst _=>false
 | _,.dct _=>false
 | _,.uD=>false
 | _,.scr _=>false
 | _,.fdc _=>false
 | _,.cel _ _=>false
 | _,.exc _ _=>false
 | _,_=>true
noncomputable def D.cA:Nat->List D->Bool
 | _,[]=>true
 | n,x::xs=>D.bU n x&&D.cA n xs
end
inductive W3 where|lt|le|gt|ge
 deriving DecidableEq
noncomputable def W3.int:W3->Int->Int->Bool
 | .lt,a,b=>decide (a<b)|.le,a,b=>decide (a<=b)|.gt,a,b=>decide (b<a)|.ge,a,b=>decide (b<=a)
noncomputable def W3.nat:W3->Nat->Nat->Bool
 | .lt,a,b=>decide (a<b)|.le,a,b=>decide (a<=b)|.gt,a,b=>decide (b<a)|.ge,a,b=>decide (b<=a)
def aB7 (a b:Str):Bool:=decide (a.cps.toList<b.cps.toList)
noncomputable def W3.str:W3->Str->Str->Bool
 | .lt,a,b=>aB7 a b|.le,a,b=>!aB7 b a|.gt,a,b=>aB7 b a|.ge,a,b=>!aB7 a b
mutual
noncomputable def aMy (o:W3):D->D->Option Bool
 | .int a,.int b=>some (o.int a b)
 | .str a,.str b=>some (o.str a b)
 | .tup xs,.tup ys=>aIa o xs ys
 | _,_=>none
noncomputable def aIa (o:W3):List D->List D->Option Bool
 | [],ys=>some (o.nat 0 ys.length)
 | x::xs,[]=>some (o.nat (x::xs).length 0)
 | x::xs,y::ys=>if eqD x y then aIa o xs ys else aMy o x y
end
inductive Res (α:Type) where
 | ok (a:α)|err (c:Str) (as:List D)|bad
noncomputable def Res.bind {α β:Type}:Res α->(α->Res β)->Res β
 | .ok a,f=>f a
 | .err c as,_=>.err c as
 | .bad,_=>.bad
noncomputable instance:Monad Res where
 pure:=.ok
 bind:=Res.bind
@[simp] theorem Res.aN {α β:Type} (a:α) (f:α->Res β):((Res.ok a) >>= f)=f a:=rfl
@[simp] theorem Res.aL8 {α β:Type} (c:Str) (as:List D) (f:α->Res β):((Res.err c as:Res α) >>= f)=.err c as:=rfl
@[simp] theorem Res.aL9 {α β:Type} (f:α->Res β):((Res.bad:Res α) >>= f)=.bad:=rfl
@[simp] theorem Res.pure_eq {α:Type} (a:α):(pure a:Res α)=.ok a:=rfl
theorem Res.aF5 {α β:Type} {m:Res α} {f:α->Res β} {b:β} (h:(m >>= f)=.ok b):∃a,m=.ok a/\f a=.ok b:=by
 cases m with
 | ok a=>exact ⟨a,rfl,h⟩
 | err c as=>cases h
 | bad=>cases h
noncomputable def Res.ofOpt {α:Type}:Option α->Res α
 | some a=>.ok a
 | none=>.bad
@[simp] theorem Res.aHc {α:Type} (a:α):Res.ofOpt (some a)=.ok a:=rfl
theorem Res.kY {α:Type} {o:Option α} {a:α} (h:Res.ofOpt o=.ok a):o=some a:=by
 cases o with
 | none=>cases h
 | some b=>cases h;rfl
def lim:Nat:=1000000
inductive Bop where|add|sub|mul|fdiv|mod|pow
 deriving DecidableEq
inductive Cop where|eq|ne|ord (o:W3)|isin|notin|isN|notN
 deriving DecidableEq
def lO (i:Int):Bool:=decide (-(2 ^ 64)<i)&&decide (i<2 ^ 64)
noncomputable def aU:Bop->D->D->Res D
 | .add,.int a,.int b=>.ok (.int (a+b))
 | .sub,.int a,.int b=>.ok (.int (a-b))
 | .mul,.int a,.int b=>if lO a||lO b then .ok (.int (a*b)) else .bad
 | .fdiv,.int a,.int b=>if decide (0<b)&&decide (b<1073741824) then .ok (.int (a / b)) else .bad
 | .mod,.int a,.int b=>if decide (0<b) then .ok (.int (a % b)) else .bad
 | .pow,.int a,.int b=>if decide (0<=b)&&decide (b<=1000000)&&decide (a.natAbs<2 ^ 64) then .ok (.int (a ^ b.toNat)) else .bad
 | .add,.str a,.str b=>if decide (a.length+b.length<=lim) then .ok (.str (a++b)) else .bad
 | .add,.lst a,.lst b=>if decide (a.length+b.length<=lim)&&D.aX a&&D.aX b then .ok (.lst (a++b)) else .bad
 | _,_,_=>.bad
noncomputable def aLz:D->Res Bool
 | .non=>.ok false
 | .bl b=>.ok b
 | .int i=>.ok (i != 0)
 | .str x=>if decide (x.length<=lim) then .ok ((x.length:Int) != 0) else .bad
 | .tup xs=>.ok (!xs.isEmpty)
 | .lst xs=>.ok (!xs.isEmpty)
 | .dct kvs=>.ok (!kvs.isEmpty)
 | .uD=>.bad
 | .fdc _=>.bad
 | .cel _ _=>.bad
 | .exc _ _=>.bad
 | .scr xs=>.ok (!xs.isEmpty)
noncomputable def mJ:D->Bool
 | .int _=>true
 | .str _=>true
 | _=>false
noncomputable def keyOk:D->Bool
 | .int _=>true
 | .str _=>true
 | .tup xs=>xs.all mJ
 | _=>false
noncomputable def isTup:D->Bool
 | .tup _=>true
 | _=>false
noncomputable def cG:List (D×D)->D->Option D
 | [],_=>none
 | (k,v)::r,q=>if eqD k q then some v else cG r q
noncomputable def putD:List (D×D)->D->D->List (D×D)
 | [],q,w=>[(q,w)]
 | (k,v)::r,q,w=>if eqD k q then (k,w)::r else (k,v)::putD r q w
noncomputable def xJ (kvs:List (D×D)) (k:D):Bool:=keyOk k&&kvs.all (fun p=>isTup p.1==isTup k)
def bH:Nat:=12
noncomputable def cC:Cop->D->D->Res D
 | .eq,a,b=>if a.bU bH&&b.bU bH then .ok (.bl (eqD a b)) else .bad
 | .ne,a,b=>if a.bU bH&&b.bU bH then .ok (.bl (!eqD a b)) else .bad
 | .ord o,a,b=>if a.bU bH&&b.bU bH then (match aMy o a b with|some k=>.ok (.bl k)|none=>.bad) else .bad
 | .isin,a,.tup ys=>if a.bU bH&&D.cA bH ys then .ok (.bl (ys.any fun y=>eqD y a)) else .bad
 | .isin,a,.lst ys=>if a.bU bH&&D.cA bH ys then .ok (.bl (ys.any fun y=>eqD y a)) else .bad
 | .isin,a,.dct kvs=>if xJ kvs a then .ok (.bl (cG kvs a).isSome) else .bad
 | .notin,a,.tup ys=>if a.bU bH&&D.cA bH ys then .ok (.bl (!(ys.any fun y=>eqD y a))) else .bad
 | .notin,a,.lst ys=>if a.bU bH&&D.cA bH ys then .ok (.bl (!(ys.any fun y=>eqD y a))) else .bad
 | .notin,a,.dct kvs=>if xJ kvs a then .ok (.bl (!(cG kvs a).isSome)) else .bad
 | .isN,.scr _,.non=>.bad
 | .notN,.scr _,.non=>.bad
 | .isN,.fdc _,.non=>.bad
 | .notN,.fdc _,.non=>.bad
 | .isN,.cel _ _,.non=>.bad
 | .notN,.cel _ _,.non=>.bad
 | .isN,.non,.non=>.ok (.bl true)
 | .isN,a,.non=>.ok (.bl false)
 | .notN,.non,.non=>.ok (.bl false)
 | .notN,a,.non=>.ok (.bl true)
 | _,_,_=>.bad
noncomputable def ixD (n:Nat) (i:Int):Option Nat:=if 0<=i then (if i<n then some i.toNat else none) else if -(n:Int)<=i then some (i+n).toNat else none
noncomputable def getD (d i:D):Res D:=
 match d,i with
 | .tup xs,.int i=>Res.ofOpt ((ixD xs.length i).bind fun j=>xs[j]?)
 | .lst xs,.int i=>Res.ofOpt ((ixD xs.length i).bind fun j=>xs[j]?)
 | .scr xs,.int i=>Res.ofOpt ((ixD xs.length i).bind fun j=>xs[j]?)
 | .cel _ xs,.int i=>Res.ofOpt ((ixD xs.length i).bind fun j=>xs[j]?)
 | .str x,.int i=>if decide (x.length<=lim) then Res.ofOpt (((ixD x.cps.toList.length i).bind fun j=>x.cps.toList[j]?).map fun c=>D.str ⟨#[c]⟩) else .bad
 | .dct kvs,k=>if keyOk k then Res.ofOpt (cG kvs k) else .bad
 | .fdc kvs,k=>if keyOk k then Res.ofOpt (cG kvs k) else .bad
 | _,_=>.bad
noncomputable def QJ (n d:Nat):Option Int->Nat
 | none=>d
 | some v=>if v<0 then (max (v+(n:Int)) 0).toNat else (min v (n:Int)).toNat
noncomputable def cutD {α:Type} (xs:List α) (lo hi:Option Int):List α:=(xs.drop (QJ xs.length 0 lo)).take (QJ xs.length xs.length hi-QJ xs.length 0 lo)
inductive Ty where|int|str|bool|list|tuple|dict
 deriving DecidableEq
noncomputable def W4:Ty->D->Res Bool
 | _,.uD=>.bad
 | _,.scr _=>.bad
 | _,.fdc _=>.bad
 | _,.cel _ _=>.bad
 | _,.exc _ _=>.bad
 | .int,.int _=>.ok true
 | .int,.bl _=>.ok true
 | .bool,.bl _=>.ok true
 | .str,.str _=>.ok true
 | .tuple,.tup _=>.ok true
 | .list,.lst _=>.ok true
 | .dict,.dct _=>.ok true
 | _,_=>.ok false
def nO (i:Int):Bool:=decide (-(2 ^ 62)<=i)&&decide (i<2 ^ 62)
noncomputable def asB:D->Res Bool
 | .bl b=>.ok b
 | _=>.bad
noncomputable def asI:D->Res Int
 | .int i=>.ok i
 | _=>.bad
inductive Fl where
 | nx (ρ:List D)|rt (d:D)|bk (ρ:List D)|ct (ρ:List D)
noncomputable def aNz:Fl->Res D
 | .rt d=>.ok d
 | .nx _=>.ok .non
 | _=>.bad
abbrev FE:=List D->Res D
abbrev FT:=List D->Res Bool
abbrev FA:=List D->Res (List D)
def dH (i:Nat):FE:=fun ρ=>match ρ.getD i .uD with|.uD=>.bad|d=>.ok d
def bC (d:D):FE:=fun _=>.ok d
abbrev fK:FE := dH 1
abbrev fC:FE := dH 0
abbrev cO:FE := dH 2
abbrev fO:FE := dH 5
abbrev eN:FE := dH 6
abbrev jZ:FE := dH 14
abbrev fP:FE := dH 4
abbrev dY:FE := dH 7
abbrev fQ:FE := dH 10
abbrev d_:FE := dH 3
abbrev lV:FE := dH 11
abbrev lZ:FE := dH 8
abbrev nP:FE := dH 12
abbrev T7:FE := dH 13
abbrev BL:FE := dH 9
abbrev W5:FE := dH 16
abbrev T8:FE := dH 15
abbrev fM:FE := bC (.int 0)
abbrev dZ:FE := bC (.int 1)
abbrev j0:FE := bC (.int 3)
abbrev oK:FE := bC (.int 2)
abbrev VN:FE := bC (.int 5)
abbrev aLa:FE := bC (.int 9)
abbrev W6:FE := bC (.int 6)
abbrev yV:FE := bC (.int 18)
abbrev nA:FE := bC (.int 26)
abbrev aIb:FE := bC (.int 8)
abbrev aF6:FE := bC (.int 40)
abbrev VP:FE := bC (.int 4)
abbrev aB8:FE := bC (.int 12)
abbrev aF7:FE := bC (.int 10)
abbrev QK:FE := bC (.int 120)
abbrev T9:FE := bC (.int 19)
def b2 (f:D->D->Res D) (a b:FE):FE:=fun ρ=>do let x <- a ρ;let y <- b ρ;f x y
def b1 (f:D->Res D) (a:FE):FE:=fun ρ=>do let x <- a ρ;f x
def bTB (a:FE):FT:=fun ρ=>do let x <- a ρ;asB x
def aAq (a:FT):FT:=fun ρ=>do let x <- a ρ;pure (!x)
def W7 (a b:FT):FT:=fun ρ=>do let x <- a ρ;if x then b ρ else pure false
def bOr (a b:FT):FT:=fun ρ=>do let x <- a ρ;if x then pure true else b ρ
noncomputable def T_ (a b:FE):FE:=fun ρ=>do let x <- a ρ;let k <- asB x;if k then b ρ else pure (.bl false)
def aO:FA:=fun _=>.ok []
def aB (a:FE) (b:FA):FA:=fun ρ=>do let x <- a ρ;let xs <- b ρ;pure (x::xs)
noncomputable def eX (a:FA):FE:=fun ρ=>do let xs <- a ρ;if decide (xs.length<=lim) then pure (.tup xs) else .bad
noncomputable def l_ (a:FA):FE:=fun ρ=>do let xs <- a ρ;if decide (xs.length<=lim) then pure (.lst xs) else .bad
def aV (f:List D->Res D) (a:FA):FE:=fun ρ=>do let xs <- a ρ;f xs
noncomputable def bM (f:D->List D->Res D) (o:FE) (a:FA):FE:=fun ρ=>do let x <- o ρ;let xs <- a ρ;f x xs
noncomputable def eV (a:FE):List D->Res (Option Int):=fun ρ=>do let x <- a ρ;let i <- asI x;pure (some i)
def fL:List D->Res (Option Int):=fun _=>.ok none
noncomputable def aMz:D->Res Bool
 | .dct _=>.bad
 | .scr _=>.bad
 | .fdc _=>.bad
 | d=>aLz d
def bTr (a:FE):FT:=fun ρ=>do let x <- a ρ;aMz x
noncomputable def aF8:D->Res D
 | .int i=>.ok (.int (-i))
 | _=>.bad
noncomputable def aLb:D->Option Int->Option Int->Res D
 | .lst xs,lo,hi=>if D.aX xs then .ok (.lst (cutD xs lo hi)) else .bad
 | .scr xs,lo,hi=>if D.aX xs then .ok (.lst (cutD xs lo hi)) else .bad
 | .tup xs,lo,hi=>if !D.aX xs||decide (QJ xs.length 0 lo=0/\QJ xs.length xs.length hi=xs.length) then .bad else .ok (.tup (cutD xs lo hi))
 | _,_,_=>.bad
noncomputable def mC:List D->Res D
 | [.tup xs]=>.ok (.int xs.length)
 | [.lst xs]=>.ok (.int xs.length)
 | [.scr xs]=>.ok (.int xs.length)
 | [.cel _ xs]=>.ok (.int xs.length)
 | [.str x]=>if decide (x.length<=lim) then .ok (.int x.length) else .bad
 | _=>.bad
noncomputable def eO:List D->Res D
 | [.tup xs]=>.ok (.tup xs)
 | [.lst xs]=>.ok (.tup xs)
 | _=>.bad
noncomputable def Ty.nm:Ty->String
 | .int => "int" | .str => "str" | .bool => "bool" | .list => "list" | .tuple => "tuple" | .dict => "dict"
def UG (t:Ty) (d:D):Res D:=do let k <- W4 t d;pure (.bl k)
noncomputable def iK (n:Nat) (f:List D->Res D):List D->Res D:=fun ds=>if decide (ds.length=n) then f ds else .bad
abbrev FI:=List D->Res (List D×Bool)
noncomputable def mK:D->Res (List D)
 | .lst xs=>.ok xs
 | .tup xs=>.ok xs
 | _=>.bad
noncomputable def iM:List D->Res (List D×Bool)
 | [.int n]=>if nO n then .ok ((List.range n.toNat).map fun (k:Nat)=>D.int (0+(k:Int)),true) else .bad
 | _=>.bad
noncomputable def jC (f:FA) (g:List D->Res (List D×Bool)):FI:=fun ρ=>do let xs <- f ρ;g xs
def M7 (n:Nat) (ρ:List D):List D:=(List.range n).map fun i=>ρ.getD i .uD
def nC:D->Res (List D):=fun d=>.ok [d]
noncomputable def W8 (m:Nat):D->Res (List D)
 | .tup ds=>if decide (ds.length=m) then .ok ds else .bad
 | _=>.bad
noncomputable def p_ (n:Nat) (t:D->Res (List D)) (c:FT) (f:FE) (k:Bool) (ρ:List D) (acc:List D) (x:D):Res (List D):=do
 let bs <- t x
 let ok <- c (M7 n ρ++bs)
 if ok then (do
  let y <- f (M7 n ρ++bs)
  if k||y.pure then pure (acc++[y]) else .bad)
 else pure acc
noncomputable def k_ (g:List D->D->Res (List D)):List D->List D->Res (List D)
 | acc,[]=>.ok acc
 | acc,x::xs=>do let a <- g acc x;k_ g a xs
noncomputable def cN (n:Nat) (it:FI) (t:D->Res (List D)) (c:FT) (f:FE) (k:Bool):FE:=fun ρ=>do
 let xs <- it ρ
 if decide (xs.1.length<=lim) then (do
  let ys <- k_ (p_ n t c f k ρ) [] xs.1
  pure (.lst ys)) else .bad
def eE:FT:=fun _=>.ok true
abbrev FS:=List D->Res Fl
noncomputable def D.QL:D->Bool
 | .cel _ _=>false
 | _=>true
noncomputable def inner:D->Bool
 | .lst xs=>D.aX xs
 | .dct kvs=>D.aX (kvs.map (·.2))
 | .cel _ xs=>D.aX xs
 | _=>false
def iQ:FS:=fun ρ=>.ok (.nx ρ)
noncomputable def aW (f g:FS):FS:=fun ρ=>do
 let r <- f ρ
 match r with
 | .nx ρ'=>g ρ'
 | r=>.ok r
noncomputable def bV (o:Bool) (i:Nat) (f:FE) (k:Bool):FS:=fun ρ=>do
 let d <- f ρ
 if (if o then k&&inner d else k||d.pure) then .ok (.nx (ρ.set i d)) else .bad
noncomputable def sIf (c:FT) (f g:FS):FS:=fun ρ=>do
 let k <- c ρ
 if k then f ρ else g ρ
noncomputable def nZ (f:FE) (k:Bool):FS:=fun ρ=>do
 let d <- f ρ
 if k||d.pure then .ok (.rt d) else .bad
noncomputable def aIc (i:Nat):FS:=fun ρ=>do
 let d <- dH i ρ
 .ok (.rt d)
def rtX:Nat:=1000000
noncomputable def H_ (f:FE) (k:Bool):FS:=fun ρ=>do
 let d <- f ρ
 if k||d.pure then .ok (.rt (.tup (d::ρ))) else .bad
noncomputable def zP (i:Nat):FS:=fun ρ=>do
 let d <- dH i ρ
 if d.QL then .ok (.rt (.tup (d::ρ))) else .bad
noncomputable def jD (f:FE):FS:=fun ρ=>do
 let _ <- f ρ
 .ok (.nx ρ)
noncomputable def IK (i:Nat) (f:FE):FS:=fun ρ=>do
 let d <- f ρ
 match ρ.getD i .uD with
 | .lst xs=>if decide (xs.length<lim)&&d.pure then .ok (.nx (ρ.set i (.lst (xs++[d])))) else .bad
 | _=>.bad
noncomputable def aB9 (i:Nat) (f:FE) (g:FE):FS:=fun ρ=>do
 let d <- g ρ
 let k <- f ρ
 match ρ.getD i .uD with
 | .dct kvs=>if decide (kvs.length<lim)&&xJ kvs k&&d.pure then .ok (.nx (ρ.set i (.dct (putD kvs k d)))) else .bad
 | _=>.bad
def tg1 (i:Nat):D->List D->Res (List D):=fun d ρ=>.ok (ρ.set i d)
noncomputable def M8:List Nat->List D->List D->List D
 | i::is,d::ds,ρ=>M8 is ds (ρ.set i d)
 | _,_,ρ=>ρ
noncomputable def tgN (is:List Nat):D->List D->Res (List D)
 | .tup ds,ρ=>if decide (ds.length=is.length) then .ok (M8 is ds ρ) else .bad
 | _,_=>.bad
noncomputable def gQ (t:D->List D->Res (List D)) (body:FS):List D->List D->Res Fl
 | [],ρ=>.ok (.nx ρ)
 | x::xs,ρ=>do
  let ρ1 <- t x ρ
  let r <- body ρ1
  match r with
  | .nx ρ'=>gQ t body xs ρ'
  | .ct ρ'=>gQ t body xs ρ'
  | .bk ρ'=>.ok (.nx ρ')
  | .rt d=>.ok (.rt d)
noncomputable def yU (it:FI) (t:D->List D->Res (List D)) (body:FS):FS:=fun ρ=>do
 let xs <- it ρ
 if xs.2 then gQ t body xs.1 ρ else .bad
noncomputable def iD (i:Nat) (t:D->List D->Res (List D)) (body:FS):FS:=fun ρ=>do
 let d <- dH i ρ
 let xs <- mK d
 gQ t body xs ρ
noncomputable def fnS (n m:Nat) (f:FS):List D->Res D:=fun ds=>do
 let r <- f (ds++List.replicate (m-n) .uD)
 aNz r
end Mi
end
section
namespace Mi
open PySem L2
class KFrag where
 K:PySem.W.Frag
variable [KFrag]
noncomputable def aF9 (H:Hp) (a:Addr) (xs:List V):Prop:=(∃o,H a=some (.frz o (.lst xs)))\/
 ∃(o:Obj) (its:Array Value) (n:Nat),KFrag.K.lookup a=some o/\o.cls=.type "list"/\o.dict=none/\o.data=.seq its n/\its.size<=sizeLine/\Vals xs its.toList
theorem aF9.sq {H:Hp} {a:Addr} {xs:List V} {K:PySem.W.Frag} (h:aF9 H a xs) (hK:KFrag.K=K):SqL K H a xs:=by
 subst hK;rcases h with ⟨o,h⟩|h
 ·exact .inl (.inr ⟨o,h⟩)
 ·exact .inr h
noncomputable def kD:Key->D
 | .inl i=>.int i
 | .inr x=>.str x
noncomputable def QM:HO->Bool
 | .lst _=>true
 | .dK _=>true
 | .dT _=>true
 | _=>false
noncomputable def XO (a C:Addr) (dx:Option Addr) (h:Heap):Prop:=∃o,h.get? a=some o/\o.cls=.ref C/\o.dict=dx/\∃vs,o.data=.fields vs
noncomputable def XD (dx:Addr) (fs:List (Str×Str)) (h:Heap):Prop:=∃mA,h.Ns1 dx mA/\PySem.Within mA (fs.map (·.1))/\∀f,match fs.lookup f with
 | some t=>∃tk,mA f=some (.str t tk)
 | none=>mA f=none
noncomputable def XDs (H:Hp) (fs:List (Str×Str)):Option Addr->Prop
 | none=>fs=[]
 | some d=>H d=some (.ext (XD d fs))
mutual
inductive Rep (P:Addr->Prop) (H:Hp):V->D->Prop
 | non:Rep P H .non .non
 | bl (b:Bool):Rep P H (.bl b) (.bl b)
 | int (i:Int):Rep P H (.int i) (.int i)
 | str (x:Str):Rep P H (.str x) (.str x)
 | tup {a:Addr} {xs:List V} {ds:List D}:H a=some (.tup xs)->bQ P H xs ds->Rep P H (.ref a) (.tup ds)
 | lst {a:Addr} {xs:List V} {ds:List D}:H a=some (.lst xs)->P a->bQ P H xs ds->Rep P H (.ref a) (.lst ds)
 | cel {a:Addr} {xs:List V} {ds:List D}:H a=some (.lst xs)->P a->bQ P H xs ds->Rep P H (.ref a) (.cel a ds)
 | frz {a:Addr} {xs:List V} {ds:List D}:aF9 H a xs->bQ P H xs ds->Rep P H (.ref a) (.scr ds)
 | dK {a:Addr} {kvs:List (Key×V)} {ds:List (D×D)}:H a=some (.dK kvs)->P a->lW P H kvs ds->(kvs.map (·.1)).Nodup->Rep P H (.ref a) (.dct ds)
 | dT {a:Addr} {kvs:List (List Key×V)} {ds:List (D×D)}:H a=some (.dT kvs)->P a->q_ P H kvs ds->(kvs.map (·.1)).Nodup->Rep P H (.ref a) (.dct ds)
 | fdK {a:Addr} {o:Obj} {kvs:List (Key×V)} {ds:List (D×D)}:H a=some (.frz o (.dK kvs))->lW P H kvs ds->(kvs.map (·.1)).Nodup->Rep P H (.ref a) (.fdc ds)
 | fdT {a:Addr} {o:Obj} {kvs:List (List Key×V)} {ds:List (D×D)}:H a=some (.frz o (.dT kvs))->q_ P H kvs ds->(kvs.map (·.1)).Nodup->Rep P H (.ref a) (.fdc ds)
 | exc {a C:Addr} {dx:Option Addr} {c:Str} {fs:List (Str×Str)}:PySem.W.nsIn KFrag.K mainGlobals c=some (some (.ref C))->H a=some (.ext (XO a C dx))->XDs H fs dx->Rep P H (.ref a) (.exc c fs)
inductive bQ (P:Addr->Prop) (H:Hp):List V->List D->Prop
 | nil:bQ P H [] []
 | cons {v:V} {d:D} {vs:List V} {ds:List D}:Rep P H v d->bQ P H vs ds->bQ P H (v::vs) (d::ds)
inductive lW (P:Addr->Prop) (H:Hp):List (Key×V)->List (D×D)->Prop
 | nil:lW P H [] []
 | cons {k:Key} {v:V} {d:D} {r:List (Key×V)} {ds:List (D×D)}:Rep P H v d->lW P H r ds->lW P H ((k,v)::r) ((kD k,d)::ds)
inductive q_ (P:Addr->Prop) (H:Hp):List (List Key×V)->List (D×D)->Prop
 | nil:q_ P H [] []
 | cons {k:List Key} {v:V} {d:D} {r:List (List Key×V)} {ds:List (D×D)}:Rep P H v d->q_ P H r ds->q_ P H ((k,v)::r) ((.tup (k.map kD),d)::ds)
end
noncomputable def aAr (P:Addr->Prop) (H H':Hp):Prop:=∀a o,H a=some o->(P a\/QM o=false)->H' a=some o
theorem aAr.same {P:Addr->Prop} {H H':Hp} (h:b_ H H'):aAr P H H':=fun a o e _=>h a o e
mutual
theorem Rep.keep {P P':Addr->Prop} {H H':Hp} (k:aAr P H H') (m:∀a,P a->P' a):∀{v:V} {d:D},Rep P H v d->Rep P' H' v d
 | _,_,.non=>.non
 | _,_,.bl b=>.bl b
 | _,_,.int i=>.int i
 | _,_,.str x=>.str x
 | _,_,.tup e r=>.tup (k _ _ e (.inr rfl)) (bQ.keep k m r)
 | _,_,.lst e p r=>.lst (k _ _ e (.inl p)) (m _ p) (bQ.keep k m r)
 | _,_,.cel e p r=>.cel (k _ _ e (.inl p)) (m _ p) (bQ.keep k m r)
 | _,_,.frz e r=>.frz (e.imp (fun ⟨o,e⟩=>⟨o,k _ _ e (.inr rfl)⟩) id) (bQ.keep k m r)
 | _,_,.dK e p r n=>.dK (k _ _ e (.inl p)) (m _ p) (lW.keep k m r) n
 | _,_,.dT e p r n=>.dT (k _ _ e (.inl p)) (m _ p) (q_.keep k m r) n
 | _,_,.fdK e r n=>.fdK (k _ _ e (.inr rfl)) (lW.keep k m r) n
 | _,_,.fdT e r n=>.fdT (k _ _ e (.inr rfl)) (q_.keep k m r) n
 | _,_,.exc (dx:=dx) n e q=>.exc n (k _ _ e (.inr rfl)) (match dx,q with|none,q=>q|some _,q=>k _ _ q (.inr rfl))
theorem bQ.keep {P P':Addr->Prop} {H H':Hp} (k:aAr P H H') (m:∀a,P a->P' a):∀{v:List V} {d:List D},bQ P H v d->bQ P' H' v d
 | _,_,.nil=>.nil
 | _,_,.cons r t=>.cons (Rep.keep k m r) (bQ.keep k m t)
theorem lW.keep {P P':Addr->Prop} {H H':Hp} (k:aAr P H H') (m:∀a,P a->P' a):∀{v:List (Key×V)} {d:List (D×D)},lW P H v d->lW P' H' v d
 | _,_,.nil=>.nil
 | _,_,.cons r t=>.cons (Rep.keep k m r) (lW.keep k m t)
theorem q_.keep {P P':Addr->Prop} {H H':Hp} (k:aAr P H H') (m:∀a,P a->P' a):∀{v:List (List Key×V)} {d:List (D×D)},q_ P H v d->q_ P' H' v d
 | _,_,.nil=>.nil
 | _,_,.cons r t=>.cons (Rep.keep k m r) (q_.keep k m t)
end
theorem Rep.mono {P P':Addr->Prop} {H:Hp} {v:V} {d:D} (r:Rep P H v d) (m:∀a,P a->P' a):Rep P' H v d:=r.keep (fun _ _ e _=>e) m
theorem bQ.mono {P P':Addr->Prop} {H:Hp} {v:List V} {d:List D} (r:bQ P H v d) (m:∀a,P a->P' a):bQ P' H v d:=r.keep (fun _ _ e _=>e) m
theorem Rep.same {P:Addr->Prop} {H H':Hp} {v:V} {d:D} (r:Rep P H v d) (s:b_ H H'):Rep P H' v d:=r.keep (.same s) fun _ h=>h
theorem bQ.same {P:Addr->Prop} {H H':Hp} {v:List V} {d:List D} (r:bQ P H v d) (s:b_ H H'):bQ P H' v d:=r.keep (.same s) fun _ h=>h
mutual
theorem Rep.bK {P P':Addr->Prop} {H:Hp}:∀{v:V} {d:D},Rep P H v d->d.pure=true->Rep P' H v d
 | _,_,.non,_=>.non
 | _,_,.bl b,_=>.bl b
 | _,_,.int i,_=>.int i
 | _,_,.str x,_=>.str x
 | _,_,.tup e r,h=>.tup e (bQ.bK r (by rw [D.pure] at h;exact h))
 | _,_,.lst _ _ _,h=>by rw [D.pure] at h;cases h
 | _,_,.cel _ _ _,h=>by rw [D.pure] at h;cases h
 | _,_,.frz e r,h=>.frz e (bQ.bK r (by rw [D.pure] at h;exact h))
 | _,_,.dK _ _ _ _,h=>by rw [D.pure] at h;cases h
 | _,_,.dT _ _ _ _,h=>by rw [D.pure] at h;cases h
 | _,_,.fdK _ _ _,h=>by rw [D.pure] at h;cases h
 | _,_,.fdT _ _ _,h=>by rw [D.pure] at h;cases h
 | _,_,.exc _ _ _,h=>by rw [D.pure] at h;cases h
theorem bQ.bK {P P':Addr->Prop} {H:Hp}:∀{v:List V} {d:List D},bQ P H v d->D.aX d=true->bQ P' H v d
 | _,_,.nil,_=>.nil
 | _,_,.cons r t,h=>by
  rw [D.aX,Bool.and_eq_true] at h;exact .cons (Rep.bK r h.1) (bQ.bK t h.2)
end
theorem bQ.length {P:Addr->Prop} {H:Hp}:∀{v:List V} {d:List D},bQ P H v d->v.length=d.length
 | _,_,.nil=>rfl
 | _,_,.cons _ t=>by rw [List.length_cons,List.length_cons,bQ.length t]
theorem bQ.get {P:Addr->Prop} {H:Hp}:∀{vs:List V} {ds:List D} {i:Nat} {d:D},bQ P H vs ds->ds[i]?=some d->∃v,vs[i]?=some v/\Rep P H v d
 | _,_,_,_,.nil,e=>by simp at e
 | _,_,0,_,.cons r _,e=>by simp at e;subst e;exact ⟨_,rfl,r⟩
 | _,_,i+1,d,.cons _ t,e=>by
  obtain ⟨v,h1,h2⟩:=bQ.get (i:=i) (d:=d) t (by simpa using e);exact ⟨v,by simpa using h1,h2⟩
theorem bQ.at {P:Addr->Prop} {H:Hp}:∀{vs:List V} {ds:List D} {i:Nat} {v:V},bQ P H vs ds->vs[i]?=some v->∃d,ds[i]?=some d/\Rep P H v d
 | _,_,_,_,.nil,e=>by simp at e
 | _,_,0,_,.cons r _,e=>by simp at e;subst e;exact ⟨_,rfl,r⟩
 | _,_,i+1,d,.cons _ t,e=>by
  obtain ⟨v,h1,h2⟩:=bQ.at (i:=i) (v:=d) t (by simpa using e);exact ⟨v,by simpa using h1,h2⟩
theorem bQ.append {P:Addr->Prop} {H:Hp}:∀{vs ws:List V} {ds es:List D},bQ P H vs ds->bQ P H ws es->bQ P H (vs++ws) (ds++es)
 | _,_,_,_,.nil,s=>s
 | _,_,_,_,.cons r t,s=>.cons r (bQ.append t s)
theorem bQ.take {P:Addr->Prop} {H:Hp}:∀{vs:List V} {ds:List D} (n:Nat),bQ P H vs ds->bQ P H (vs.take n) (ds.take n)
 | _,_,0,_=>.nil
 | _,_,_+1,.nil=>.nil
 | _,_,n+1,.cons r t=>.cons r (bQ.take n t)
theorem bQ.drop {P:Addr->Prop} {H:Hp}:∀{vs:List V} {ds:List D} (n:Nat),bQ P H vs ds->bQ P H (vs.drop n) (ds.drop n)
 | _,_,0,r=>r
 | _,_,_+1,.nil=>.nil
 | _,_,n+1,.cons _ t=>bQ.drop n t
theorem bQ.set {P:Addr->Prop} {H:Hp} {v:V} {d:D} (r:Rep P H v d):∀{vs:List V} {ds:List D} (n:Nat),bQ P H vs ds->bQ P H (vs.set n v) (ds.set n d)
 | _,_,_,.nil=>.nil
 | _,_,0,.cons _ t=>.cons r t
 | _,_,n+1,.cons q t=>.cons q (bQ.set r n t)
theorem bQ.snoc {P:Addr->Prop} {H:Hp} {vs:List V} {ds:List D} {v:V} {d:D} (t:bQ P H vs ds) (r:Rep P H v d):bQ P H (vs++[v]) (ds++[d]):=t.append (.cons r .nil)
theorem Rep.uD {P:Addr->Prop} {H:Hp} {v:V}:¬Rep P H v .uD:=fun h=>by cases h
abbrev All:Addr->Prop:=fun _=>True
abbrev New (H:Hp):Addr->Prop:=fun a=>H a=none
theorem Rep.all {P:Addr->Prop} {H:Hp} {v:V} {d:D} (r:Rep P H v d):Rep All H v d:=r.mono fun _ _=>trivial
theorem bQ.all {P:Addr->Prop} {H:Hp} {v:List V} {d:List D} (r:bQ P H v d):bQ All H v d:=r.mono fun _ _=>trivial
theorem b_.new {H H':Hp} (s:b_ H H'):∀a,New H' a->New H a:=fun a h=>s.free h
theorem b_.upd {H:Hp} {a:Addr} {o:HO} (h:H a=none):b_ H (upd H a o):=fun b u e=>by rw [bB (bT e h)];exact e
noncomputable def ER (H:Hp) (σ:St) (ρ:List D):Prop:=∀i,ρ.getD i .uD≠.uD->∃v,σ[i]?=some (some v)/\Rep All H v (ρ.getD i .uD)
theorem ER.same {H H':Hp} {σ:St} {ρ:List D} (e:ER H σ ρ) (s:b_ H H'):ER H' σ ρ:=fun i h=>by
 obtain ⟨v,h1,h2⟩:=e i h;exact ⟨v,h1,h2.same s⟩
section
variable (cf:Nat->List D->Res D) (ff:Nat->Bool)
end
theorem PE.imp {X:Cx} {e:PySem.Expr} {t t':TE} (h:PE X e t) (i:∀σ H Q,t' σ H Q->t σ H Q):PE X e t':=fun pins s σ H Q I q=>h pins s σ H Q I (i σ H Q q)
theorem PT.imp {X:Cx} {e:PySem.Expr} {t t':TT} (h:PT X e t) (i:∀σ H Q,t' σ H Q->t σ H Q):PT X e t':=fun pins s σ H Q I q=>h pins s σ H Q I (i σ H Q q)
theorem PA.imp {X:Cx} {e:List PySem.Expr} {t t':TA} (h:PA X e t) (i:∀σ H Q,t' σ H Q->t σ H Q):PA X e t':=fun pos pins s σ H Q I q=>h pos pins s σ H Q I (i σ H Q q)
end Mi
end
section
namespace L2
open PySem PySem.Spec PyProof.Rows
noncomputable def gF (own:List Str) (x:Str):Str:=if own.contains x then x++(" " : Str) else x
noncomputable def clF (env:Env):List (Str×NameKind)->List (Str×Addr)->List (Str×Addr)
 | [],acc=>acc
 | (n,k)::r,acc=>clF env r (if k==.free then (n,(env.cells.lookup n).getD 0)::acc else acc)
theorem sE {env:Env}:∀(names:List (Str×NameKind)) (acc:List (Str×Addr)),(∀y∈names,y.2=.free->∃c,env.cells.lookup y.1=some c)->
  (forIn names acc fun x cs=>(match x with
   | (name,kind)=>if (kind==.free)=true then cellOf env name >>= fun c=>pure (ForInStep.yield ((name,c)::cs)) else pure (ForInStep.yield cs):Sem (ForInStep (List (Str×Addr)))))=(pure (clF env names acc):Sem _)
 | [],acc,_=>by rw [List.forIn_nil];rfl
 | (n,k)::r,acc,h=>by
  rw [List.forIn_cons];by_cases hk:(k==.free)=true
  ·have hk':k=.free:=by simpa using hk
   obtain ⟨c,e⟩:=h (n,k) (List.mem_cons_self ..) hk';have e':cellOf env n=pure c:=by
    unfold cellOf;have e2:env.cells.lookup n=some c:=e;rw [e2]
   dsimp only;rw [if_pos hk,e',pure_bind,pure_bind];dsimp only;rw [sE r _ fun y hy=>h y (List.mem_cons_of_mem _ hy)];have e2:env.cells.lookup n=some c:=e;simp only [clF,hk,if_true,e2,Option.getD_some]
  ·dsimp only;rw [if_neg hk,pure_bind];dsimp only;rw [sE r _ fun y hy=>h y (List.mem_cons_of_mem _ hy)];simp only [clF,hk,Bool.false_eq_true,if_false]
theorem UJ {env:Env} {scope:Scope} (h:∀y∈scope.names,y.2=.free->∃c,env.cells.lookup y.1=some c):closureFor scope env=pure (clF env scope.names []):=by
 unfold closureFor;have:=sE (env:=env) scope.names [] h;simp only [bind_pure] at *;exact this
theorem M9 {env:Env}:∀{names:List (Str×NameKind)} {acc:List (Str×Addr)} {x:Str} {c:Addr},(∀y∈names,y.2=.free->∃c,env.cells.lookup y.1=some c)->(∀x c,acc.lookup x=some c->env.cells.lookup x=some c)->
  (clF env names acc).lookup x=some c->env.cells.lookup x=some c
 | [],acc,x,c,_,h,e=>h x c e
 | (n,k)::r,acc,x,c,q,h,e=>by
  unfold clF at e;refine M9 (fun y hy=>q y (List.mem_cons_of_mem _ hy)) (fun y d hy=>?_) e;by_cases hk:(k==.free)=true
  ·rw [if_pos hk,List.lookup_cons] at hy;obtain ⟨c',e'⟩:=q (n,k) (List.mem_cons_self ..) (by simpa using hk);have e2:env.cells.lookup n=some c':=e';cases hyn:y==n with
   | true=>
    rw [hyn] at hy;have:y=n:=by simpa using hyn
    subst this;rw [e2] at hy;simp only [Option.getD_some] at hy;rw [e2];exact hy
   | false=>rw [hyn] at hy;exact h y d hy
  ·rw [if_neg hk] at hy;exact h y d hy
theorem W9 {env:Env}:∀{names:List (Str×NameKind)} {acc:List (Str×Addr)} {x:Str},(∃c,acc.lookup x=some c)->∃c,(clF env names acc).lookup x=some c
 | [],_,_,h=>h
 | (n,k)::r,acc,x,⟨c,h⟩=>by
  unfold clF;refine W9 ?_;by_cases hk:(k==.free)=true
  ·rw [if_pos hk,List.lookup_cons];cases x==n with
   | true=>exact ⟨_,rfl⟩
   | false=>exact ⟨c,h⟩
  ·rw [if_neg hk];exact ⟨c,h⟩
theorem M_ {env:Env}:∀{names:List (Str×NameKind)} {acc:List (Str×Addr)} {x:Str},(x,NameKind.free)∈names->∃c,(clF env names acc).lookup x=some c
 | (n,k)::r,acc,x,h=>by
  unfold clF;rcases List.mem_cons.mp h with e|h
  ·cases e;refine W9 ?_;rw [if_pos (by decide),List.lookup_cons];simp
  ·exact M_ h
structure cD (N:List Str) (sc scope:Scope) (own:List Str):Prop where
 kind:scope.kind=.function
 nocell:∀y∈scope.names,y.2≠.cell
 names:∀y∈scope.names,y.2=.local->scope.names.lookup y.1=some .local
 free:∀y∈scope.names,y.2=.free->sc.names.lookup y.1=some .cell\/sc.names.lookup y.1=some .free
 ownl:∀x∈own,scope.names.lookup x=some .local
 hid:∀x∈own,scope.names.lookup (x++(" " : Str))=none
 loc:∀y∈scope.names,y.2=.local->y.1∈own\/y.1∉N
structure cP (X X':Cx) (scope:Scope) (own:List Str):Prop where
 prog:X'.prog=X.prog
 w:X'.w=X.w
 K:X'.K=X.K
 mg:X'.mg=X.mg
 base:X'.base=X.base
 A:X'.A=X.A
 N:X'.N=X.N.map (gF own)++own
 scope:X'.env.scope=relabel scope X.env
 calm:X'.calm=X.calm
 xe:X'.xe=fun _ _=>False
noncomputable def QR (X:Cx) (scope:Scope) (cl:List (Str×Addr)) (C:Addr) (own:List Str) (s₂:Shared) (H₂:Hp) (fp:List Addr):Cx:=
 {X with N:=X.N.map (gF own)++own,s₀:=s₂,H₀:=H₂,env:=compEnvC scope cl C X.env,outer:=X.stack,stack:=X.stack,ex:=fp,fn:=fun _=>false,pn:=[],xe:=fun _ _=>False}
theorem W_ {X:Cx} {scope:Scope} {cl:List (Str×Addr)} {C:Addr} {own:List Str} {s₂:Shared} {H₂:Hp} {fp:List Addr}:cP X (QR X scope cl C own s₂ H₂ fp) scope own:=
 ⟨rfl,rfl,rfl,rfl,rfl,rfl,rfl,rfl,rfl,rfl⟩
noncomputable def Ext (σ σ2:St):Prop:=σ2.length=σ.length/\∀(i:Nat) v,σ[i]?=some (some v)->σ2[i]?=some (some v)
noncomputable def IV (wi:TI) (g:TG) (tc:TT) (te:TE) (m:Nat):TE:=fun σ H Q=>wi σ H fun J H1=>∀p,H1 p=none->
 ∃W:Nat->Nat->List V->Hp->Prop,(∃n,W 0 n [] (upd H1 p (.lst [])))/\∀i n ys H,W i n ys H->H p=some (.lst ys)/\((J.stop i H/\Q (.ref p) H)\/(J.go i H/\ys.length<sizeLine/\
  ∀x H2,J.yld i H x H2->g x (σ++List.replicate m none) H2 fun σ2 H3=>Ext (σ++List.replicate m none) σ2/\tc σ2 H3 fun b H4=>if b=true then te σ2 H4 fun y H5=>H5 p=some (.lst ys)/\∃n',n'<n/\W (i+1) n' (ys++[y]) (upd H5 p (.lst (ys++[y])))
   else ∃n',n'<n/\W (i+1) n' ys H4))
section
variable {X:Cx} {scope:Scope} {own:List Str}
theorem Inv.comp {pins:List (Addr×Obj)} {σ:St} {H2:Hp} {s2:Shared} {fp:List Addr} {h1:Heap} {t1:Nat} (I:Inv X pins σ H2 s2) (S:cD X.N X.env.scope scope own) (hf:∀b∈fp,QB X pins H2 b)
  (hfx:∀b∈fp,b<s2.heap.objs.size) (hns:h1.Ns (s2.heap.objs.size+1) (fun _=>none))
  (hk:∀b o,s2.heap.get? b=some o->h1.get? b=some o) (hacc:h1.get? s2.heap.objs.size=some {cls:=.type "list",data:=.seq #[]}) :
  Inv (QR X scope (clF X.env scope.names []) (s2.heap.objs.size+1) own s2 H2 fp) [] (σ++List.replicate own.length none) (upd H2 s2.heap.objs.size (.lst [])) {s2 with heap:=h1,toks:=t1}:=by
 have hD:H2 s2.heap.objs.size=none:=I.hok.fresh (Nat.le_refl _);have hC:H2 (s2.heap.objs.size+1)=none:=I.hok.fresh (Nat.le_succ _);have cells:∀y∈scope.names,y.2=.free->∃c,X.env.cells.lookup y.1=some c:=fun y hy hk=>I.ok.has y.1 (S.free y hy hk)
 have sub:∀x c,(clF X.env scope.names []).lookup x=some c->X.env.cells.lookup x=some c:=fun x c e=>M9 cells (fun _ _ h=>by simp at h) e
 have relk:∀x,(relabel scope X.env).names.lookup x=some .cell\/(relabel scope X.env).names.lookup x=some .free->(x,NameKind.free)∈scope.names:=by
  intro x hx;have go:∀(l:List (Str×NameKind)),(∀y∈l,y.2≠.cell)->((l.map fun (n,k)=>if (k==NameKind.free&&X.env.scope.kind==.function&&X.env.kindOf n==some .cell) then (n,NameKind.cell) else (n,k)).lookup x=some .cell\/(l.map fun (n,k)=>if (k==NameKind.free&&X.env.scope.kind==.function&&X.env.kindOf n==some .cell) then (n,NameKind.cell) else (n,k)).lookup x=some .free)->(x,NameKind.free)∈l:=by
   intro l;induction l with
   | nil=>intro _ h;rcases h with h|h <;> simp at h
   | cons p l ih=>
    obtain ⟨n,k⟩:=p;intro nc h;rw [List.map_cons] at h;dsimp only at h;by_cases hc:(k==NameKind.free&&X.env.scope.kind==.function&&X.env.kindOf n==some .cell)=true
    ·rw [if_pos hc] at h;rw [List.lookup_cons] at h;cases e:x==n with
     | true=>
      have:x=n:=by simpa using e
      subst this;simp only [Bool.and_eq_true] at hc;have:k=.free:=by simpa using hc.1.1
      subst this;exact List.mem_cons_self ..
     | false=>
      rw [e] at h;exact List.mem_cons_of_mem _ (ih (fun y hy=>nc y (List.mem_cons_of_mem _ hy)) h)
    ·rw [if_neg hc] at h;rw [List.lookup_cons] at h;cases e:x==n with
     | true=>
      have:x=n:=by simpa using e
      subst this;rw [e] at h;dsimp only at h;rcases h with h|h
      ·exact absurd (Option.some.inj h) (nc (x,k) (List.mem_cons_self ..))
      ·have:=Option.some.inj h;subst this;exact List.mem_cons_self ..
     | false=>
      rw [e] at h;exact List.mem_cons_of_mem _ (ih (fun y hy=>nc y (List.mem_cons_of_mem _ hy)) h)
  exact go scope.names S.nocell hx
 have hne:s2.heap.objs.size≠s2.heap.objs.size+1:=Nat.ne_of_lt (Nat.lt_succ_self _);have hlt:∀b o,s2.heap.get? b=some o->b<s2.heap.objs.size:=fun b o e=>Heap.lt_size e
 have hstk:∀b∈frs X.stack,b<s2.heap.objs.size:=fun b hb=>by
  obtain ⟨_,o,ho,_⟩:=I.stack.mem hb;exact hlt b o ho
 refine ⟨⟨I.mod,?_,I.ok.glob,I.ok.blt,Nat.le_succ _,fun x y c e1 e2=>I.ok.inj x y c (sub x c e1) (sub y c e2),fun x hx=>?_,fun _ _ h=>(by cases h),I.ok.hd,I.ok.frames,.inl rfl,fun b hb=>?_,fun b o e=>I.bs b o e,?_,fun b o e hb=>?_,fun b hb hz=>?_,I.stack,I.MK⟩,
  rfl,I.bare,Un.laid hk (Nat.le_refl _) hD,?_,fun x c e=>?_,?_,fun x c e=>?_,fun p hp=>(by simp [QR] at hp),?_,?_⟩
 ·exact S.kind
 ·have hx':(relabel scope X.env).names.lookup x=some .cell\/(relabel scope X.env).names.lookup x=some .free:=hx;exact M_ (relk x hx')
 ·refine ⟨Nat.ne_of_lt (Nat.lt_succ_of_lt (hfx b hb)),fun x c e z=>?_⟩;exact (hf b hb).2.2.2.2.1 x c (sub x c e) z
 ·exact Nat.le_trans I.ok.bsz I.sz
 ·rcases (hf b hb).2.2.2.1 with z|z
  ·exact I.ok.noex b o e z
  ·exact absurd (Nat.lt_of_lt_of_le (Heap.lt_size e) (Nat.le_trans I.ok.bsz z)) (Nat.lt_irrefl _)
 ·rcases List.mem_cons.mp (I.PX b hz) with z'|z'
  ·exact (hf b hb).2.1 z'
  ·exact (hf b hb).2.2.1 z'
 ·refine ⟨_,hns,fun i x v e1 e2 e3=>?_⟩;have hi:i<σ.length:=by
   rcases Nat.lt_or_ge i σ.length with h|h
   ·exact h
   ·rw [List.getElem?_append_right h,List.getElem?_replicate] at e2;split at e2 <;> cases e2
  rw [List.getElem?_append_left hi] at e2;have hiN:i<X.N.length:=by rw [<-I.len];exact hi
  have e1':(X.N.map (gF own))[i]?=some x:=by
   have:(X.N.map (gF own)++own)[i]?=some x:=e1;rwa [List.getElem?_append_left (by rw [List.length_map];exact hiN)] at this
  rw [List.getElem?_map] at e1';obtain ⟨y,hy,ey⟩:=Option.map_eq_some_iff.mp e1';have hyN:y∈X.N:=List.mem_of_getElem? hy;have e3':(relabel scope X.env).names.lookup x=some .local\/(relabel scope X.env).names.lookup x=some .cell\/(relabel scope X.env).names.lookup x=some .free:=e3;have keys:∀z k,(relabel scope X.env).names.lookup z=some k->∃k',scope.names.lookup z=some k'/\(k=.local->k'=.local):=by
   intro z k;show (scope.names.map fun (n,k)=>if (k==NameKind.free&&X.env.scope.kind==.function&&X.env.kindOf n==some .cell) then (n,NameKind.cell) else (n,k)).lookup z=some k->_;generalize scope.names=l;induction l with
   | nil=>intro h;simp at h
   | cons p l ih=>
    obtain ⟨n,k0⟩:=p;intro h;rw [List.map_cons] at h;dsimp only at h;by_cases hc:(k0==NameKind.free&&X.env.scope.kind==.function&&X.env.kindOf n==some .cell)=true
    ·rw [if_pos hc,List.lookup_cons] at h;rw [List.lookup_cons];cases e:z==n with
     | true=>
      rw [e] at h;dsimp only at h;cases h;exact ⟨k0,rfl,fun q=>by cases q⟩
     | false=>rw [e] at h;exact ih h
    ·rw [if_neg hc,List.lookup_cons] at h;rw [List.lookup_cons];cases e:z==n with
     | true=>
      rw [e] at h;dsimp only at h;cases h;exact ⟨_,rfl,fun q=>q⟩
     | false=>rw [e] at h;exact ih h
  by_cases hown:own.contains y=true
  ·exfalso;have ex:x=y++(" " : Str):=by rw [<-ey];unfold gF;rw [if_pos hown]
   have hn:=S.hid y (by simpa using hown);rw [<-ex] at hn;rcases e3' with q|q|q
   all_goals
    obtain ⟨k',hk',_⟩:=keys _ _ q;rw [hn] at hk';cases hk'
  ·have ex:x=y:=by rw [<-ey];unfold gF;rw [if_neg hown]
   subst ex;rcases e3' with q|q
   ·exfalso;obtain ⟨k',hk',hl⟩:=keys _ _ q;have:=hl rfl;subst this;rcases S.loc _ (PySem.mem_of_lookup hk') rfl with z|z
    ·exact hown (by simpa using z)
    ·exact z hyN
   ·have hfr:=relk x q;have hv:=S.free _ hfr rfl;obtain ⟨m,_,hl⟩:=I.loc;obtain ⟨u,ru,lk⟩:=hl i x v hy e2 (.inr hv);refine ⟨u,ru,.inr ⟨q,?_⟩⟩;rcases lk with ⟨z,_⟩|⟨_,c,hc,o,ho,hd⟩
    ·have z':X.env.scope.names.lookup x=some .local:=z;rcases hv with hv|hv <;> (rw [z'] at hv;cases hv)
    ·obtain ⟨c',hc'⟩:=M_ (env:=X.env) (acc:=[]) hfr;have:=sub x c' hc';rw [hc] at this;cases this;exact ⟨c,hc',o,hk c o ho,hd⟩
 ·obtain ⟨v,z⟩:=I.cell x c (sub x c e);obtain ⟨o,ho,hd⟩:=z;exact ⟨v,o,hk c o ho,hd⟩
 ·show upd H2 _ _ (s2.heap.objs.size+1)=none;rw [bB (Ne.symm hne)];exact hC
 ·obtain ⟨v,o,ho,_⟩:=I.cell x c (sub x c e);show upd H2 _ _ c=none;rw [bB (Nat.ne_of_lt (hlt c o ho))];exact I.freeC x c (sub x c e)
 ·exact I.hok.laid hk (Nat.le_refl _) ⟨Nat.zero_le _,[],0,.nil,hacc⟩
 ·show (σ++List.replicate own.length none).length=(X.N.map (gF own)++own).length;rw [List.length_append,List.length_append,List.length_replicate,List.length_map,I.len]
end
section
variable {X:Cx} {scope:Scope} {own:List Str}
noncomputable def cI (X':Cx) (σ:St) (fp:List Addr) (tn:Nat->Heap->Prop) (W:Nat->Nat->List V->Hp->Prop) (n:Nat) (s:Shared):Prop:=∃i ys H',Inv X' [] σ H' s/\tn i s.heap/\(∀b∈fp,H' b=none)/\W i n ys H'
noncomputable abbrev cE (X X':Cx) (use:Option (Value->Sem Unit)) (QQ:Value->Shared->Prop) (p:Addr):Value->Shared->Prop:=notedBy (model X.prog X.w) X.A X'.env fun e s'=>compPost (model X.prog X.w) X.A X.xe use QQ (.ref p) (p+1) (.error e) s'
noncomputable def cB (X':Cx) (σ:St) (fp:List Addr) (tn:Nat->Heap->Prop) (W:Nat->Nat->List V->Hp->Prop) (n i:Nat) (h:Heap):Prop:=∀{ys':List V} {H9:Hp} {s9:Shared} {σ9:St},Ext σ σ9->Inv X' ([]++wY fp h) σ9 H9 s9->(∃n',n'<n/\W (i+1) n' ys' H9)->∃m,m<n/\cI X' σ fp tn W m s9
theorem NB {elt iter tg:Expr} {ifs:List Expr} {wi:TI} {g:TG} {tc:TT} {te:TE} {pos ps:Pos} {use:Option (Value->Sem Unit)} {QQ:Value->Shared->Prop} {pins:List (Addr×Obj)} {s:Shared} {σ:St} {H:Hp} {R:VK} (S:cD X.N X.env.scope scope own) (hcalm:X.calm=true) (hi:PI X tg iter wi)
  (hg:∀X',cP X X' scope own->PG X' tg g) (hc:(ifs=[]/\tc=fun _ H Q=>Q true H)\/∃c,ifs=[c]/\∀X',cP X X' scope own->PT X' c tc) (he:∀X',cP X X' scope own->PE X' elt te)
  (hs:∀x,foldedSetIterable iter X.env x=pure x) (I:Inv X pins σ H s) (h:IV wi g tc te own.length σ H R)
  (last:∀{p C:Addr} {H5:Hp} {s6:Shared} {m6:Str->Option Value},Inv X pins σ H5 s6->QB X pins H5 C->s6.heap.Ns C m6->R (.ref p) H5->compPost (model X.prog X.w) X.A X.xe use QQ (.ref p) C (.ok .next) s6) :
  wpAny (model X.prog X.w) X.A (comprehension (.ListComp elt [⟨tg,iter,ifs,0⟩] scope pos) scope X.env ps (newList []) false (eval iter X.env) use) QQ X.xe s:=by
 have cells:∀y∈scope.names,y.2=.free->∃c,X.env.cells.lookup y.1=some c:=fun y hy hk=>I.ok.has y.1 (S.free y hy hk)
 refine wpAny_comprehension_free rfl hs (UJ cells) S.kind S.names (thn (hi pins s σ H _ I h) fun xv s1 h1=>thn h1 fun itv s2 h2=>?_);obtain ⟨it,fp,tn,J,H2,e,I2,T,st2,f2,hW⟩:=h2;subst e;have hD:H2 s2.heap.objs.size=none:=I2.hok.fresh (Nat.le_refl _);obtain ⟨W,⟨n0,w0⟩,turn⟩:=hW _ hD;have hfx:∀b∈fp,b<s2.heap.objs.size:=fun b hb=>by
  obtain ⟨o,ho,_⟩:=T.obj 0 _ st2 b hb;exact Heap.lt_size ho
 refine wpAny_newObj_type (wpAny_newFunctionEnv S.nocell (by intro y hy;simp at hy) (fun h₁ hns₁ hsb₁=>?_) S.kind);dsimp only at hns₁ hsb₁ ⊢;have hC:(s2.heap.push {cls:=.type "list",dict:=none,data:=.seq ([]:List Value).toArray}).objs.size=s2.heap.objs.size+1:=Heap.size_push ..;have hne:s2.heap.objs.size≠s2.heap.objs.size+1:=Nat.ne_of_lt (Nat.lt_succ_self _);rw [hC] at hns₁ hsb₁ ⊢;have old:∀b o,s2.heap.get? b=some o->h₁.get? b=some o:=fun b o e=>hsb₁.extBut b o (Nat.ne_of_lt (Nat.lt_succ_of_lt (Heap.lt_size e))) (Heap.get?_push_of_some _ (Heap.get?_push_of_some _ e))
 have hacc:h₁.get? s2.heap.objs.size=some {cls:=.type "list",data:=.seq #[]}:=hsb₁.extBut _ _ hne (Heap.get?_push_of_some _ (Heap.get?_push_size _ rfl));have I4:=Inv.comp (t1:=s2.toks+([]:List (Str×Value)).length) I2 S f2 hfx hns₁ old hacc;generalize hX':QR X scope (clF X.env scope.names []) (s2.heap.objs.size+1) own s2 H2 fp=X' at I4;have cc:cP X X' scope own:=by rw [<-hX'];exact W_
 have eenv:X'.env=compEnvC scope (clF X.env scope.names []) (s2.heap.objs.size+1) X.env:=by rw [<-hX'];rfl
 have eA:X'.A=X.A:=cc.A;have ep:X'.prog=X.prog:=cc.prog;have ew:X'.w=X.w:=cc.w;have efs:X'.fs=frs X.stack:=by rw [<-hX'];rfl
 have eex:X'.ex=fp:=by rw [<-hX'];rfl
 have es0:X'.s₀=s2:=by rw [<-hX'];rfl
 have eH0:X'.H₀=H2:=by rw [<-hX'];rfl
 have epn:X'.pn=[]:=by rw [<-hX'];rfl
 have eK:X'.K=X.K:=cc.K;have exe:=cc.xe;have ecalm:X'.calm=true:=cc.calm.trans hcalm
 -- the iterator's records within the block
 have fpok:∀{H':Hp},(∀b∈fp,H' b=none)->∀b∈fp,QB X' [] H' b:=fun {H'} hn b hb=>by
  obtain ⟨_,f1,f3,_,f5,_⟩:=f2 b hb;refine ⟨hn b hb,?_,?_,.inl (by rw [eex];exact hb),fun x c e=>?_,fun p hp=>by rw [epn] at hp;simp at hp⟩
  ·rw [eenv];exact Nat.ne_of_lt (Nat.lt_succ_of_lt (hfx b hb))
  ·rw [efs];intro z;rcases List.mem_cons.mp (I2.PX b z) with z|z
   ·exact f1 z
   ·exact f3 z
  ·rw [eenv] at e;exact f5 x c (M9 cells (fun _ _ h=>by simp at h) e)
 have st4:tn 0 h₁:=T.keep _ _ _ st2 fun b _ o e=>old b o e
 have fr4:∀b∈fp,(upd H2 s2.heap.objs.size (.lst [])) b=none:=fun b hb=>by rw [bB (Nat.ne_of_lt (hfx b hb))];exact (f2 b hb).1
 have loop:∀s4:Shared,s4={s2 with heap:=h₁,toks:=s2.toks+([]:List (Str×Value)).length}->
   codeAny (model X.prog X.w) X.A (.compLoop (.ListComp elt [⟨tg,iter,ifs,0⟩] scope pos) 0 (.ref it) (.ref s2.heap.objs.size) X'.env)
    (compPost (model X.prog X.w) X.A X.xe use QQ (.ref s2.heap.objs.size) (s2.heap.objs.size+1)) s4:=by
  rintro s4 rfl;have put:∀(n i:Nat) (ys:List V) (s7:Shared) (σ8:St) (H8:Hp) (s8:Shared),cB X' (σ++List.replicate own.length none) fp tn W n i s7.heap->Inv X' ([]++wY fp s7.heap) σ8 H8 s8->Ext (σ++List.replicate own.length none) σ8->ys.length<sizeLine->(te σ8 H8 fun y H5=>H5 s2.heap.objs.size=some (.lst ys)/\∃n',n'<n/\W (i+1) n' (ys++[y]) (upd H5 s2.heap.objs.size (.lst (ys++[y]))))->
    wpAny (model X.prog X.w) X.A (eval elt X'.env) (fun x s₄=>wpAny (model X.prog X.w) X.A (call (.builtin "list.append") [.ref s2.heap.objs.size,x]) (fun _ s₅=>∃m,m<n/\cI X' (σ++List.replicate own.length none) fp tn W m s₅) (cE X X' use QQ s2.heap.objs.size) s₄) (cE X X' use QQ s2.heap.objs.size) s8:=by
   intro n i ys s7 σ8 H8 s8 back I8 ext8 hlen q8;have he':=he X' cc _ s8 _ H8 _ I8 q8;rw [ep,ew,eA,exe] at he';refine wpAny_mono he' (fun yv s10 ⟨y,H10,I10,r10,p10,q10⟩=>?_) fun _ _ z=>False.elim z
   have hm:=HQ (X:=X') _ s10 σ8 H10 (.ref s2.heap.objs.size) [y] (.ref s2.heap.objs.size) [yv] (fun _ H11=>∃n',n'<n/\W (i+1) n' (ys++[y]) H11) I10 rfl (.cons r10 .nil) ⟨s2.heap.objs.size,ys,y,rfl,rfl,p10,hlen,q10⟩;rw [ep,ew,eA,exe] at hm;exact wpAny_mono hm (fun _ s11 ⟨_,H11,I11,_,q11⟩=>back ext8 I11 q11) fun _ _ z=>False.elim z
  have key:∀(PO:Nat->Shared->Prop),(∀(n i:Nat) (ys:List V) (s7:Shared) (σ8:St) (H8:Hp) (s8:Shared),cB X' (σ++List.replicate own.length none) fp tn W n i s7.heap->Inv X' ([]++wY fp s7.heap) σ8 H8 s8->Ext (σ++List.replicate own.length none) σ8->ys.length<sizeLine->(tc σ8 H8 fun b H4=>if b=true then te σ8 H4 fun y H5=>H5 s2.heap.objs.size=some (.lst ys)/\∃n',n'<n/\W (i+1) n' (ys++[y]) (upd H5 s2.heap.objs.size (.lst (ys++[y]))) else ∃n',n'<n/\W (i+1) n' ys H4)->PO n s8)->
    ∀n s5,(cI X' (σ++List.replicate own.length none) fp tn W n s5)->wpAny (model X.prog X.w) X.A (pyNext (.ref it)) (fun r s₁=>match r with
     | none=>compPost (model X.prog X.w) X.A X.xe use QQ (.ref s2.heap.objs.size) (s2.heap.objs.size+1) (.ok .next) s₁
     | some v=>wpAny (model X.prog X.w) X.A (letOwnedTupleGo tg (.ref it) v) (fun _ s₀=>wpAny (model X.prog X.w) X.A (assign tg X'.env v) (fun _ s₂=>PO n s₂) (cE X X' use QQ s2.heap.objs.size) s₀) (cE X X' use QQ s2.heap.objs.size) s₁) (cE X X' use QQ s2.heap.objs.size) s5:=by
   intro PO hPO;rintro n s5 ⟨i,ys,H5,I5,st5,fr5,w5⟩;obtain ⟨hacc5,tr⟩:=turn i n ys H5 w5;rcases tr with ⟨stop,q⟩|⟨go,hlen,step⟩
   ·have done:=T.done X' ep ew eK ecalm i [] s5 _ H5 (cE X X' use QQ s2.heap.objs.size) I5 (fpok fr5) st5 stop;rw [eA] at done;refine thn done fun r s6 ⟨hr,I6⟩=>?_
    subst hr;obtain ⟨m6,hn6,_⟩:=id I6.loc;rw [eenv] at hn6;have u6:Un (frs X.stack) fp H2 H5 s2.heap s6.heap:=by
     have:=I6.base;rw [efs,eex,eH0,es0] at this;exact this
    have hCn:H5 (s2.heap.objs.size+1)=none:=by
     have:=I6.free;rw [eenv] at this;exact this
    have hok6:HOk X.prog X.w H5 s6.heap:=by
     have:=I6.hok;rw [ep,ew] at this;exact this
    have hos:s6.os=s2.os:=by have:=I6.os;rw [es0] at this;exact this
    obtain ⟨hh,gg,dd,tt,oo⟩:=s6;obtain rfl:oo=s2.os:=hos;have fin:=Inv.call (h':=hh) (g':=gg) (d':=dd) (t':=tt) (ch:=fp) I2 u6 hok6 I6.bare fun b hb=>⟨(f2 b hb).2.2.2.1,(f2 b hb).2.1,(f2 b hb).2.2.2.2.1,(f2 b hb).2.2.2.2.2⟩
    refine last fin ⟨hCn,Nat.ne_of_gt (Nat.lt_succ_of_lt I2.lt),I2.aMu (Nat.le_succ _),.inr (Nat.le_trans I2.sz (Nat.le_succ _)),fun x c e z=>?_,fun p hp z=>?_⟩ hn6 q
    ·obtain ⟨v,qq⟩:=I2.cell x c e;exact absurd (Nat.lt_succ_of_lt qq.lt) (by rw [z];exact Nat.lt_irrefl _)
    ·exact absurd (Nat.lt_succ_of_lt (Heap.lt_size (I2.pin p hp).1)) (by rw [z];exact Nat.lt_irrefl _)
   ·have item:=T.item X' ep ew eK ecalm i [] s5 _ H5 (cE X X' use QQ s2.heap.objs.size) I5 (fpok fr5) st5 go;rw [eA] at item;refine thn item fun r s6 ⟨u,hr,h6⟩=>?_
    subst hr;refine thn h6 fun _ s7 ⟨x,H7,I7,r7,y7,st7,fr7⟩=>?_
    have I7':=I7.pinned (fpok fr7) (T.obj _ _ st7);have hg':=hg X' cc _ s7 _ H7 x u _ I7' r7 (step x H7 y7);rw [ep,ew,eA,exe] at hg';refine wpAny_mono hg' (fun _ s8 ⟨σ8,H8,I8,ext8,q8⟩=>?_) fun _ _ z=>False.elim z
    have back:cB X' (σ++List.replicate own.length none) fp tn W n i s7.heap:=by
     rintro ys' H9 s9 σ9 ex9 I9 ⟨n',hn',w9⟩;refine ⟨n',hn',i+1,ys',H9,(I9.weak ex9.1.symm ex9.2).n_,T.keep _ _ _ st7 fun b hb o e=>(I9.pin (b,o) (List.mem_append_right _ (List.mem_append_right _ (m5 hb e)))).1,fun b hb=>?_,w9⟩;obtain ⟨o,e,d⟩:=T.obj _ _ st7 b hb;exact (I9.pin (b,o) (List.mem_append_right _ (List.mem_append_right _ (m5 hb e)))).2.1
    exact hPO n i ys s7 σ8 H8 s8 back I8 ext8 hlen q8
  rcases hc with ⟨rfl,rfl⟩|⟨c,rfl,hc⟩
  ·refine PySem.W.kcp_loop _ (key _ fun n i ys s7 σ8 H8 s8 back I8 ext8 hlen q8=>?_) n0 ⟨0,[],_,I4,st4,fr4,w0⟩;simp only [if_true] at q8;exact put n i ys s7 σ8 H8 s8 back I8 ext8 hlen q8
  ·refine PySem.W.kct_loop _ (key _ fun n i ys s7 σ8 H8 s8 back I8 ext8 hlen q8=>?_) n0 ⟨0,[],_,I4,st4,fr4,w0⟩;have hc':=hc X' cc _ s8 _ H8 _ I8 q8;rw [ep,ew,eA,exe] at hc';refine wpAny_mono hc' (fun b s9 ⟨H9,I9,q9⟩=>?_) fun _ _ z=>False.elim z
   cases b with
   | false=>
    simp only [Bool.false_eq_true,if_false] at q9 ⊢;exact back ext8 I9 q9
   | true=>
    simp only [if_true] at q9 ⊢;exact put n i ys s7 σ8 H9 s9 back I9 ext8 hlen q9
 have l4:=loop _ rfl;rw [eenv] at l4;exact codeAny_compStart_list l4 (T.self X.A 0 _ _ _ st4 l4)
theorem QS {pins:List (Addr×Obj)} {σ:St} {Q:VK} {p C:Addr} {H5:Hp} {s6:Shared} {m6:Str->Option Value} (f:Inv X pins σ H5 s6) (k:QB X pins H5 C) (n:s6.heap.Ns C m6) (q:Q (.ref p) H5):compPost (model X.prog X.w) X.A X.xe none (EP X pins σ Q) (.ref p) C (.ok .next) s6:=
 ⟨m6,n,fun h' sb=>⟨.ref p,H5,Inv.turned (t':=s6.toks) f (fun b o hb e=>sb.extBut b o hb e) k.1 k.2.1 k.2.2.2.1 k.2.2.2.2.1 k.2.2.2.2.2,rfl,q⟩⟩
theorem XF {elt iter tg c:Expr} {wi:TI} {g:TG} {tc:TT} {te:TE} {pos:Pos} (S:cD X.N X.env.scope scope own) (hcalm:X.calm=true) (hi:PI X tg iter wi)
  (hg:∀X',cP X X' scope own->PG X' tg g) (hc:∀X',cP X X' scope own->PT X' c tc) (he:∀X',cP X X' scope own->PE X' elt te)
  (hs:∀x,foldedSetIterable iter X.env x=pure x):PE X (.ListComp elt [⟨tg,iter,[c],0⟩] scope pos) (IV wi g tc te own.length):=by
 intro pins s σ H Q I h;rw [eval_ListComp];exact NB S hcalm hi hg (.inr ⟨c,rfl,hc⟩) he hs I h QS
theorem aBa {elt iter tg:Expr} {wi:TI} {g:TG} {te:TE} {pos:Pos} (S:cD X.N X.env.scope scope own) (hcalm:X.calm=true) (hi:PI X tg iter wi)
  (hg:∀X',cP X X' scope own->PG X' tg g) (he:∀X',cP X X' scope own->PE X' elt te)
  (hs:∀x,foldedSetIterable iter X.env x=pure x):PE X (.ListComp elt [⟨tg,iter,[],0⟩] scope pos) (IV wi g (fun _ H Q=>Q true H) te own.length):=by
 intro pins s σ H Q I h;rw [eval_ListComp];exact NB S hcalm hi hg (.inl ⟨rfl,rfl⟩) he hs I h QS
end
end L2
end
section
namespace Mi
open PySem L2 PySem.SeqAt
variable [KFrag]
theorem nF {X:Cx} {pins:List (Addr×Obj)} {σ:St} {H:Hp} {s:Shared} {a:Addr} {xs:List V} (I:Inv X pins σ H s) (e:H a=some (.tup xs)):∃its:List Value,Vals xs its/\s.heap.IsTuple a its.toArray:=by
 obtain ⟨_,its,r,p⟩:xs.length<=sizeLine/\∃its:List Value,Vals xs its/\jY s.heap a its.toArray:=I.hok a _ e;exact ⟨its,r,p.tup⟩
theorem lR {X:Cx} {pins:List (Addr×Obj)} {σ:St} {H:Hp} {s:Shared} {a:Addr} {xs:List V} (I:Inv X pins σ H s) (e:SqL X.K H a xs):∃its:List Value,Vals xs its/\s.heap.IsList a its.toArray:=by
 obtain ⟨its,r,p,_⟩:=I.list e;exact ⟨its,r,p.isList⟩
theorem Rep.jE {P:Addr->Prop} {H:Hp} {K:PySem.W.Frag} {v:V} {ds:List D} (r:Rep P H v (.lst ds)):∃a xs,v=.ref a/\SqL K H a xs/\bQ P H xs ds:=by
 cases r with
 | lst e p r=>exact ⟨_,_,rfl,.inl (.inl e),r⟩
theorem Rep.gD {P:Addr->Prop} {H:Hp} {v:V} {ds:List D} (r:Rep P H v (.tup ds)):∃a xs,v=.ref a/\H a=some (.tup xs)/\bQ P H xs ds:=by
 cases r with
 | tup e r=>exact ⟨_,_,rfl,e,r⟩
mutual
theorem BP:∀(n:Nat) (d:D),d.bU n=true->eqD d d=true
 | _,.non,_=>rfl
 | _,.bl b,_=>by simp [eqD]
 | _,.int i,_=>by simp [eqD]
 | _,.str x,_=>by simp [eqD]
 | n+1,.tup xs,h=>by rw [D.bU] at h;rw [eqD];exact xK n xs h
 | n+1,.lst xs,h=>by rw [D.bU] at h;rw [eqD];exact xK n xs h
 | 0,.tup xs,h=>by simp [D.bU] at h
 | 0,.lst xs,h=>by simp [D.bU] at h
 | n,.dct _,h=>by cases n <;> simp [D.bU] at h
 | n,.uD,h=>by cases n <;> simp [D.bU] at h
 | n,.scr _,h=>by cases n <;> simp [D.bU] at h
 | n,.fdc _,h=>by cases n <;> simp [D.bU] at h
 | n,.exc _ _,h=>by cases n <;> simp [D.bU] at h
 | n,.cel _ _,h=>by cases n <;> simp [D.bU] at h
theorem xK:∀(n:Nat) (ds:List D),D.cA n ds=true->G3 ds ds=true
 | _,[],_=>rfl
 | n,d::ds,h=>by
  rw [D.cA,Bool.and_eq_true] at h;rw [G3,BP n d h.1,xK n ds h.2];rfl
end
mutual
theorem Rep.inj {P P':Addr->Prop} {H:Hp}:∀(n:Nat) {v:V} {d e:D},d.bU n=true->e.bU n=true->Rep P H v d->Rep P' H v e->d=e
 | _,_,_,_,_,_,.non,.non=>rfl
 | _,_,_,_,_,_,.bl _,.bl _=>rfl
 | _,_,_,_,_,_,.int _,.int _=>rfl
 | _,_,_,_,_,_,.str _,.str _=>rfl
 | n+1,_,.tup ds,_,h,h',.tup e1 r1,q=>by
  cases q with
  | tup e2 r2=>
   rw [e1] at e2;cases e2;rw [D.bU] at h h';rw [bQ.inj n h h' r1 r2]
  | lst e2 _ _=>rw [e1] at e2;cases e2
  | frz e2 _=>simp [D.bU] at h'
  | fdK e2 _ _=>simp [D.bU] at h'
  | cel e2 _ _=>simp [D.bU] at h'
  | fdT e2 _ _=>simp [D.bU] at h'
  | exc _ _ _=>simp [D.bU] at h'
  | dK e2 _ _ _=>rw [e1] at e2;cases e2
  | dT e2 _ _ _=>rw [e1] at e2;cases e2
 | n+1,_,.lst ds,_,h,h',.lst e1 p r1,q=>by
  cases q with
  | tup e2 r2=>rw [e1] at e2;cases e2
  | lst e2 _ r2=>
   rw [e1] at e2;cases e2;rw [D.bU] at h h';rw [bQ.inj n h h' r1 r2]
  | frz e2 _=>simp [D.bU] at h'
  | fdK e2 _ _=>simp [D.bU] at h'
  | cel e2 _ _=>simp [D.bU] at h'
  | fdT e2 _ _=>simp [D.bU] at h'
  | exc _ _ _=>simp [D.bU] at h'
  | dK e2 _ _ _=>rw [e1] at e2;cases e2
  | dT e2 _ _ _=>rw [e1] at e2;cases e2
 | 0,_,.tup ds,_,h,_,_,_=>by simp [D.bU] at h
 | 0,_,.lst ds,_,h,_,_,_=>by simp [D.bU] at h
 | n,_,.dct _,_,h,_,_,_=>by cases n <;> simp [D.bU] at h
 | n,_,.scr _,_,h,_,_,_=>by cases n <;> simp [D.bU] at h
 | n,_,.fdc _,_,h,_,_,_=>by cases n <;> simp [D.bU] at h
 | n,_,.exc _ _,_,h,_,_,_=>by cases n <;> simp [D.bU] at h
 | n,_,.cel _ _,_,h,_,_,_=>by cases n <;> simp [D.bU] at h
theorem bQ.inj {P P':Addr->Prop} {H:Hp}:∀(n:Nat) {v:List V} {d e:List D},D.cA n d=true->D.cA n e=true->bQ P H v d->bQ P' H v e->d=e
 | _,_,_,_,_,_,.nil,.nil=>rfl
 | n,_,_,_,h,h',.cons r t,.cons r' t'=>by
  rw [D.cA,Bool.and_eq_true] at h h';rw [Rep.inj n h.1 h'.1 r r',bQ.inj n h.2 h'.2 t t']
end
theorem sG:∀(xs ys:List D),G3 xs ys=((List.range (min xs.length ys.length)).all (fun j=>eqD (xs.getD j .non) (ys.getD j .non))&&xs.length==ys.length)
 | [],[]=>by simp [G3]
 | [],y::ys=>by simp [G3]
 | x::xs,[]=>by simp [G3]
 | x::xs,y::ys=>by
  have e:min (x::xs).length (y::ys).length=min xs.length ys.length+1:=by simp only [List.length_cons];lia
  rw [G3,sG xs ys,e,List.range_succ_eq_map,List.all_cons,List.all_map,Bool.and_assoc]
  congr 1
  simp [Function.comp_def]
theorem j4 {n:Nat}:∀{ds:List D} {j:Nat},D.cA n ds=true->j<ds.length->(ds.getD j .non).bU n=true
 | [],j,_,h=>by simp at h
 | d::ds,0,h,_=>by rw [D.cA,Bool.and_eq_true] at h;exact h.1
 | d::ds,j+1,h,hj=>by
  rw [D.cA,Bool.and_eq_true] at h;simpa using j4 (ds:=ds) (j:=j) h.2 (by simpa using hj)
theorem bQ.getD {P:Addr->Prop} {H:Hp} {vs:List V} {ds:List D} {j:Nat} (r:bQ P H vs ds) (hj:j<ds.length):∃v,vs[j]?=some v/\Rep P H v (ds.getD j .non):=by
 obtain ⟨v,h1,h2⟩:=r.get (i:=j) (d:=ds.getD j .non) (by simp [hj]);exact ⟨v,h1,h2⟩
section
variable {X:Cx} {pins:List (Addr×Obj)} {σ:St} {H:Hp} {s:Shared}
theorem XH (I:Inv X pins σ H s):∀(n:Nat) (A:Around) {x y:V} {a b:D} {u v:Value},A.units+n<cLine->a.bU n=true->b.bU n=true->Rep All H x a->Rep All H y b->RelV x u->RelV y v->
  RcAt A s u v (eqD a b)/\RcNeAt A s u v (!eqD a b)/\EqAt A s u v (eqD a b):=by
 intro n;induction n with
 | zero=>
  intro A x y a b u v hu ha hb rx ry ru rv;cases rx with
  | non=>
   cases ru;cases ry with
   | non=>cases rv;exact ⟨RcAt.none_none,RcNeAt.none_none,EqAt.same _⟩
   | bl _=>cases rv;exact ⟨RcAt.none_bool _,RcNeAt.none_bool _,EqAt.none_bool _⟩
   | int _=>obtain ⟨t,rfl⟩:=rv;exact ⟨RcAt.none_int _ _,RcNeAt.none_int _ _,EqAt.none_int _ _⟩
   | str _=>obtain ⟨t,rfl⟩:=rv;exact ⟨RcAt.none_str _ _,RcNeAt.none_str _ _,EqAt.none_str _ _⟩
   | _=>simp [D.bU] at hb
  | bl _=>
   cases ru;cases ry with
   | non=>cases rv;exact ⟨RcAt.bool_none _,RcNeAt.bool_none _,EqAt.bool_none _⟩
   | bl _=>cases rv;exact ⟨RcAt.bool_bool _ _,RcNeAt.bool_bool _ _,EqAt.bool_bool _ _⟩
   | int _=>obtain ⟨t,rfl⟩:=rv;exact ⟨RcAt.bool_int _ _ _,RcNeAt.bool_int _ _ _,EqAt.bool_int _ _ _⟩
   | str _=>obtain ⟨t,rfl⟩:=rv;exact ⟨RcAt.bool_str _ _ _,RcNeAt.bool_str _ _ _,EqAt.bool_str _ _ _⟩
   | _=>simp [D.bU] at hb
  | int _=>
   obtain ⟨t,rfl⟩:=ru;cases ry with
   | non=>cases rv;exact ⟨RcAt.int_none _ _,RcNeAt.int_none _ _,EqAt.int_none _ _⟩
   | bl _=>cases rv;exact ⟨RcAt.int_bool _ _ _,RcNeAt.int_bool _ _ _,EqAt.int_bool _ _ _⟩
   | int _=>obtain ⟨t',rfl⟩:=rv;exact ⟨RcAt.int_int _ _ _ _,RcNeAt.int_int _ _ _ _,EqAt.int_int _ _ _ _⟩
   | str _=>obtain ⟨t',rfl⟩:=rv;exact ⟨RcAt.int_str _ _ _ _,RcNeAt.int_str _ _ _ _,EqAt.int_str _ _ _ _⟩
   | _=>simp [D.bU] at hb
  | str _=>
   obtain ⟨t,rfl⟩:=ru;cases ry with
   | non=>cases rv;exact ⟨RcAt.str_none _ _,RcNeAt.str_none _ _,EqAt.str_none _ _⟩
   | bl _=>cases rv;exact ⟨RcAt.str_bool _ _ _,RcNeAt.str_bool _ _ _,EqAt.str_bool _ _ _⟩
   | int _=>obtain ⟨t',rfl⟩:=rv;exact ⟨RcAt.str_int _ _ _ _,RcNeAt.str_int _ _ _ _,EqAt.str_int _ _ _ _⟩
   | str _=>obtain ⟨t',rfl⟩:=rv;exact ⟨RcAt.str_str _ _ _ _,RcNeAt.str_str _ _ _ _,EqAt.str_str _ _ _ _⟩
   | _=>simp [D.bU] at hb
  | _=>simp [D.bU] at ha
 | succ n ih=>
  intro A x y a b u v hu ha hb rx ry ru rv;have hu0:A.units<cLine:=by lia
  have hu1:A.in1.units+n<cLine:=by show A.units+1+n<cLine;lia
  cases a with
  | uD=>exact absurd rx Rep.uD
  | dct _=>simp [D.bU] at ha
  | scr _=>simp [D.bU] at ha
  | fdc _=>simp [D.bU] at ha
  | exc _ _=>simp [D.bU] at ha
  | cel _ _=>simp [D.bU] at ha
  | non=>
   cases rx;cases ru;cases b with
   | uD=>exact absurd ry Rep.uD
   | dct _=>simp [D.bU] at hb
   | scr _=>simp [D.bU] at hb
   | fdc _=>simp [D.bU] at hb
   | exc _ _=>simp [D.bU] at hb
   | cel _ _=>simp [D.bU] at hb
   | non=>cases ry;cases rv;exact ⟨RcAt.none_none,RcNeAt.none_none,EqAt.same _⟩
   | bl _=>cases ry;cases rv;exact ⟨RcAt.none_bool _,RcNeAt.none_bool _,EqAt.none_bool _⟩
   | int _=>cases ry;obtain ⟨t2,rfl⟩:=rv;exact ⟨RcAt.none_int _ _,RcNeAt.none_int _ _,EqAt.none_int _ _⟩
   | str _=>cases ry;obtain ⟨t2,rfl⟩:=rv;exact ⟨RcAt.none_str _ _,RcNeAt.none_str _ _,EqAt.none_str _ _⟩
   | tup es=>
    obtain ⟨q,ys,rfl,e2,r2⟩:=ry.gD;cases rv;obtain ⟨its2,vr2,h2⟩:=nF I e2;exact ⟨RcAt.none_tuple h2 hu0,RcNeAt.none_tuple h2 hu0,EqAt.none_tuple h2 hu0⟩
   | lst es=>
    obtain ⟨q,ys,rfl,e2,r2⟩:=ry.jE (K:=X.K);cases rv;obtain ⟨its2,vr2,h2⟩:=lR I e2;exact ⟨RcAt.none_list h2 hu0,RcNeAt.none_list h2 hu0,EqAt.none_list h2 hu0⟩
  | bl _=>
   cases rx;cases ru;cases b with
   | uD=>exact absurd ry Rep.uD
   | dct _=>simp [D.bU] at hb
   | scr _=>simp [D.bU] at hb
   | fdc _=>simp [D.bU] at hb
   | exc _ _=>simp [D.bU] at hb
   | cel _ _=>simp [D.bU] at hb
   | non=>cases ry;cases rv;exact ⟨RcAt.bool_none _,RcNeAt.bool_none _,EqAt.bool_none _⟩
   | bl _=>cases ry;cases rv;exact ⟨RcAt.bool_bool _ _,RcNeAt.bool_bool _ _,EqAt.bool_bool _ _⟩
   | int _=>cases ry;obtain ⟨t2,rfl⟩:=rv;exact ⟨RcAt.bool_int _ _ _,RcNeAt.bool_int _ _ _,EqAt.bool_int _ _ _⟩
   | str _=>cases ry;obtain ⟨t2,rfl⟩:=rv;exact ⟨RcAt.bool_str _ _ _,RcNeAt.bool_str _ _ _,EqAt.bool_str _ _ _⟩
   | tup es=>
    obtain ⟨q,ys,rfl,e2,r2⟩:=ry.gD;cases rv;obtain ⟨its2,vr2,h2⟩:=nF I e2;exact ⟨RcAt.bool_tuple _ h2 hu0,RcNeAt.bool_tuple _ h2 hu0,EqAt.bool_tuple _ h2 hu0⟩
   | lst es=>
    obtain ⟨q,ys,rfl,e2,r2⟩:=ry.jE (K:=X.K);cases rv;obtain ⟨its2,vr2,h2⟩:=lR I e2;exact ⟨RcAt.bool_list _ h2 hu0,RcNeAt.bool_list _ h2 hu0,EqAt.bool_list _ h2 hu0⟩
  | int _=>
   cases rx;obtain ⟨t1,rfl⟩:=ru;cases b with
   | uD=>exact absurd ry Rep.uD
   | dct _=>simp [D.bU] at hb
   | scr _=>simp [D.bU] at hb
   | fdc _=>simp [D.bU] at hb
   | exc _ _=>simp [D.bU] at hb
   | cel _ _=>simp [D.bU] at hb
   | non=>cases ry;cases rv;exact ⟨RcAt.int_none _ _,RcNeAt.int_none _ _,EqAt.int_none _ _⟩
   | bl _=>cases ry;cases rv;exact ⟨RcAt.int_bool _ _ _,RcNeAt.int_bool _ _ _,EqAt.int_bool _ _ _⟩
   | int _=>cases ry;obtain ⟨t2,rfl⟩:=rv;exact ⟨RcAt.int_int _ _ _ _,RcNeAt.int_int _ _ _ _,EqAt.int_int _ _ _ _⟩
   | str _=>cases ry;obtain ⟨t2,rfl⟩:=rv;exact ⟨RcAt.int_str _ _ _ _,RcNeAt.int_str _ _ _ _,EqAt.int_str _ _ _ _⟩
   | tup es=>
    obtain ⟨q,ys,rfl,e2,r2⟩:=ry.gD;cases rv;obtain ⟨its2,vr2,h2⟩:=nF I e2;exact ⟨RcAt.int_tuple _ _ h2 hu0,RcNeAt.int_tuple _ _ h2 hu0,EqAt.int_tuple _ _ h2 hu0⟩
   | lst es=>
    obtain ⟨q,ys,rfl,e2,r2⟩:=ry.jE (K:=X.K);cases rv;obtain ⟨its2,vr2,h2⟩:=lR I e2;exact ⟨RcAt.int_list _ _ h2 hu0,RcNeAt.int_list _ _ h2 hu0,EqAt.int_list _ _ h2 hu0⟩
  | str _=>
   cases rx;obtain ⟨t1,rfl⟩:=ru;cases b with
   | uD=>exact absurd ry Rep.uD
   | dct _=>simp [D.bU] at hb
   | scr _=>simp [D.bU] at hb
   | fdc _=>simp [D.bU] at hb
   | exc _ _=>simp [D.bU] at hb
   | cel _ _=>simp [D.bU] at hb
   | non=>cases ry;cases rv;exact ⟨RcAt.str_none _ _,RcNeAt.str_none _ _,EqAt.str_none _ _⟩
   | bl _=>cases ry;cases rv;exact ⟨RcAt.str_bool _ _ _,RcNeAt.str_bool _ _ _,EqAt.str_bool _ _ _⟩
   | int _=>cases ry;obtain ⟨t2,rfl⟩:=rv;exact ⟨RcAt.str_int _ _ _ _,RcNeAt.str_int _ _ _ _,EqAt.str_int _ _ _ _⟩
   | str _=>cases ry;obtain ⟨t2,rfl⟩:=rv;exact ⟨RcAt.str_str _ _ _ _,RcNeAt.str_str _ _ _ _,EqAt.str_str _ _ _ _⟩
   | tup es=>
    obtain ⟨q,ys,rfl,e2,r2⟩:=ry.gD;cases rv;obtain ⟨its2,vr2,h2⟩:=nF I e2;exact ⟨RcAt.str_tuple _ _ h2 hu0,RcNeAt.str_tuple _ _ h2 hu0,EqAt.str_tuple _ _ h2 hu0⟩
   | lst es=>
    obtain ⟨q,ys,rfl,e2,r2⟩:=ry.jE (K:=X.K);cases rv;obtain ⟨its2,vr2,h2⟩:=lR I e2;exact ⟨RcAt.str_list _ _ h2 hu0,RcNeAt.str_list _ _ h2 hu0,EqAt.str_list _ _ h2 hu0⟩
  | tup ds=>
   obtain ⟨p,xs,rfl,e1,r1⟩:=rx.gD;cases ru;obtain ⟨its1,vr1,h1⟩:=nF I e1;rw [D.bU] at ha;cases b with
   | uD=>exact absurd ry Rep.uD
   | dct _=>simp [D.bU] at hb
   | scr _=>simp [D.bU] at hb
   | fdc _=>simp [D.bU] at hb
   | exc _ _=>simp [D.bU] at hb
   | cel _ _=>simp [D.bU] at hb
   | non=>cases ry;cases rv;exact ⟨RcAt.tuple_none h1 hu0,RcNeAt.tuple_none h1 hu0,EqAt.tuple_none h1 hu0⟩
   | bl _=>cases ry;cases rv;exact ⟨RcAt.tuple_bool _ h1 hu0,RcNeAt.tuple_bool _ h1 hu0,EqAt.tuple_bool _ h1 hu0⟩
   | int _=>cases ry;obtain ⟨t2,rfl⟩:=rv;exact ⟨RcAt.tuple_int _ _ h1 hu0,RcNeAt.tuple_int _ _ h1 hu0,EqAt.tuple_int _ _ h1 hu0⟩
   | str _=>cases ry;obtain ⟨t2,rfl⟩:=rv;exact ⟨RcAt.tuple_str _ _ h1 hu0,RcNeAt.tuple_str _ _ h1 hu0,EqAt.tuple_str _ _ h1 hu0⟩
   | tup es=>
    obtain ⟨q,ys,rfl,e2,r2⟩:=ry.gD;cases rv;obtain ⟨its2,vr2,h2⟩:=nF I e2;rw [D.bU] at hb;have z1:its1.toArray.size=ds.length:=by rw [List.size_toArray,<-vr1.length,r1.length]
    have z2:its2.toArray.size=es.length:=by rw [List.size_toArray,<-vr2.length,r2.length]
    have he:∀j (g1:j<its1.toArray.size) (g2:j<its2.toArray.size),EqAt A.in1 s its1.toArray[j] its2.toArray[j] (eqD (ds.getD j .non) (es.getD j .non)):=fun j g1 g2=>by
     obtain ⟨v1,w1,rr1⟩:=r1.getD (j:=j) (by lia);obtain ⟨v2,w2,rr2⟩:=r2.getD (j:=j) (by lia);obtain ⟨u1,k1,l1⟩:=vr1.get w1;obtain ⟨u2,k2,l2⟩:=vr2.get w2;have m1:its1.toArray[j]=u1:=by
      rw [List.getElem?_eq_getElem (by simpa using g1)] at k1;simpa using Option.some.inj k1
     have m2:its2.toArray[j]=u2:=by
      rw [List.getElem?_eq_getElem (by simpa using g2)] at k2;simpa using Option.some.inj k2
     rw [m1,m2];exact (ih A.in1 hu1 (j4 ha (by lia)) (j4 hb (by lia)) rr1 rr2 l1 l2).2.2
    have ee:eqD (.tup ds) (.tup es)=((List.range (min its1.toArray.size its2.toArray.size)).all (fun j=>eqD (ds.getD j .non) (es.getD j .non))&&its1.toArray.size==its2.toArray.size):=by
     rw [eqD,sG,z1,z2]
    have r0:=RcAt.tuples h1 h2 hu0 he;have r0':=RcNeAt.tuples h1 h2 hu0 he;rw [<-ee] at r0 r0';refine ⟨r0,r0',?_⟩;by_cases hpq:p=q
    ·subst hpq;have hab:(D.tup ds)=(.tup es):=Rep.inj (n+1) (by rw [D.bU];exact ha) (by rw [D.bU];exact hb) rx ry;rw [<-hab,BP (n+1) _ (by rw [D.bU];exact ha)];exact EqAt.same _
    ·exact EqAt.of_refs hpq r0
   | lst es=>
    obtain ⟨q,ys,rfl,e2,r2⟩:=ry.jE (K:=X.K);cases rv;obtain ⟨its2,vr2,h2⟩:=lR I e2;exact ⟨RcAt.tuple_list h1 h2 hu0,RcNeAt.tuple_list h1 h2 hu0,EqAt.tuple_list h1 h2 hu0⟩
  | lst ds=>
   obtain ⟨p,xs,rfl,e1,r1⟩:=rx.jE (K:=X.K);cases ru;obtain ⟨its1,vr1,h1⟩:=lR I e1;rw [D.bU] at ha;cases b with
   | uD=>exact absurd ry Rep.uD
   | dct _=>simp [D.bU] at hb
   | scr _=>simp [D.bU] at hb
   | fdc _=>simp [D.bU] at hb
   | exc _ _=>simp [D.bU] at hb
   | cel _ _=>simp [D.bU] at hb
   | non=>cases ry;cases rv;exact ⟨RcAt.list_none h1 hu0,RcNeAt.list_none h1 hu0,EqAt.list_none h1 hu0⟩
   | bl _=>cases ry;cases rv;exact ⟨RcAt.list_bool _ h1 hu0,RcNeAt.list_bool _ h1 hu0,EqAt.list_bool _ h1 hu0⟩
   | int _=>cases ry;obtain ⟨t2,rfl⟩:=rv;exact ⟨RcAt.list_int _ _ h1 hu0,RcNeAt.list_int _ _ h1 hu0,EqAt.list_int _ _ h1 hu0⟩
   | str _=>cases ry;obtain ⟨t2,rfl⟩:=rv;exact ⟨RcAt.list_str _ _ h1 hu0,RcNeAt.list_str _ _ h1 hu0,EqAt.list_str _ _ h1 hu0⟩
   | tup es=>
    obtain ⟨q,ys,rfl,e2,r2⟩:=ry.gD;cases rv;obtain ⟨its2,vr2,h2⟩:=nF I e2;exact ⟨RcAt.list_tuple h1 h2 hu0,RcNeAt.list_tuple h1 h2 hu0,EqAt.list_tuple h1 h2 hu0⟩
   | lst es=>
    obtain ⟨q,ys,rfl,e2,r2⟩:=ry.jE (K:=X.K);cases rv;obtain ⟨its2,vr2,h2⟩:=lR I e2;rw [D.bU] at hb;have z1:its1.toArray.size=ds.length:=by rw [List.size_toArray,<-vr1.length,r1.length]
    have z2:its2.toArray.size=es.length:=by rw [List.size_toArray,<-vr2.length,r2.length]
    have he:∀j (g1:j<its1.toArray.size) (g2:j<its2.toArray.size),EqAt A.in1 s its1.toArray[j] its2.toArray[j] (eqD (ds.getD j .non) (es.getD j .non)):=fun j g1 g2=>by
     obtain ⟨v1,w1,rr1⟩:=r1.getD (j:=j) (by lia);obtain ⟨v2,w2,rr2⟩:=r2.getD (j:=j) (by lia);obtain ⟨u1,k1,l1⟩:=vr1.get w1;obtain ⟨u2,k2,l2⟩:=vr2.get w2;have m1:its1.toArray[j]=u1:=by
      rw [List.getElem?_eq_getElem (by simpa using g1)] at k1;simpa using Option.some.inj k1
     have m2:its2.toArray[j]=u2:=by
      rw [List.getElem?_eq_getElem (by simpa using g2)] at k2;simpa using Option.some.inj k2
     rw [m1,m2];exact (ih A.in1 hu1 (j4 ha (by lia)) (j4 hb (by lia)) rr1 rr2 l1 l2).2.2
    have r00:RcAt A s (.ref p) (.ref q) (eqD (.lst ds) (.lst es))/\RcNeAt A s (.ref p) (.ref q) (!eqD (.lst ds) (.lst es)):=by
     rw [eqD,sG];by_cases hz:ds.length=es.length
     ·have r0:=RcAt.lists h1 h2 (by lia) hu0 he;have r0':=RcNeAt.lists h1 h2 (by lia) hu0 he;rw [z1] at r0 r0';rw [show min ds.length es.length=ds.length by lia,show (ds.length==es.length)=true by simpa using hz,Bool.and_true];exact ⟨r0,r0'⟩
     ·have hz':(its1.toArray.size != its2.toArray.size)=true:=by rw [z1,z2];simpa using hz
      rw [show (ds.length==es.length)=false by simpa using hz,Bool.and_false];exact ⟨RcAt.lists_lengths h1 h2 hz' hu0,RcNeAt.lists_lengths h1 h2 hz' hu0⟩
    obtain ⟨r0,r0'⟩:=r00;refine ⟨r0,r0',?_⟩;by_cases hpq:p=q
    ·subst hpq;have hab:(D.lst ds)=(.lst es):=Rep.inj (n+1) (by rw [D.bU];exact ha) (by rw [D.bU];exact hb) rx ry;rw [<-hab,BP (n+1) _ (by rw [D.bU];exact ha)];exact EqAt.same _
    ·exact EqAt.of_refs hpq r0
end
end Mi
end
section
namespace Mi
open PySem L2 PySem.SeqAt
open PySem.AutoSeq1 (wpAny_loadPart')
open PySem.MeetsSeq PySem.MeetsSeq2 PySem.MeetsSeq3
variable [KFrag]
section
variable {X:Cx} {pins:List (Addr×Obj)} {σ:St} {H:Hp} {s:Shared}
end
end Mi
end
section
namespace TS
open PySem PyProof.Rows
end TS
end
section
namespace Mi
open PySem L2 PySem.SeqAt
open PyProof.Rows (Keyed lt' keyLt' oneLt' SortKind SortSt kindOf tuples' oneType' pairsOf wpS wpS_bind wpS_pure wpS_get wpS_lift keyKind')
variable [KFrag]
section
variable {X:Cx} {pins:List (Addr×Obj)} {σ:L2.St} {H:Hp} {s:Shared}
end
end Mi
end
section
namespace Mi
open PySem L2 PySem.SeqAt PySem.Spec PyProof.Rows
variable [KFrag]
noncomputable def kR (H:Hp) (d:D) (fr:Bool) (Q:VK):Prop:=∀v H',b_ H H'->Rep All H' v d->(fr=true->Rep (New H) H' v d)->Q v H'
def gE (f:FE) (fr:Bool):TE:=fun σ H Q=>∃ρ d,ER H σ ρ/\f ρ=.ok d/\kR H d fr Q
def gT (f:FT):TT:=fun σ H Q=>∃ρ b,ER H σ ρ/\f ρ=.ok b/\∀H',b_ H H'->Q b H'
noncomputable def gA (f:FA) (fr:Bool):TA:=fun σ H Q=>∃ρ ds,ER H σ ρ/\f ρ=.ok ds/\∀vs H',b_ H H'->bQ All H' vs ds->(fr=true->bQ (New H) H' vs ds)->Q vs H'
theorem kR.self {H:Hp} {d:D} {fr:Bool} {Q:VK} {v:V} (q:kR H d fr Q) (r:Rep All H v d) (r2:fr=true->Rep (New H) H v d):Q v H:=q v H (b_.refl H) r r2
theorem kR.imp {H H':Hp} {d:D} {fr fr':Bool} {Q:VK} (q:kR H d fr Q) (s:b_ H H') (h:fr=true->fr'=true):kR H' d fr' Q:=fun v H2 s2 r n=>q v H2 (s.trans s2) r fun hf=>(n (h hf)).mono (b_.new s)
theorem kR.int {H:Hp} {i:Int} {fr:Bool} {Q:VK} (q:kR H (.int i) fr Q):Q (.int i) H:=q.self (.int i) fun _=>.int i
theorem kR.bl {H:Hp} {i:Bool} {fr:Bool} {Q:VK} (q:kR H (.bl i) fr Q):Q (.bl i) H:=q.self (.bl i) fun _=>.bl i
theorem kR.str {H:Hp} {i:Str} {fr:Bool} {Q:VK} (q:kR H (.str i) fr Q):Q (.str i) H:=q.self (.str i) fun _=>.str i
theorem kR.non {H:Hp} {fr:Bool} {Q:VK} (q:kR H .non fr Q):Q .non H:=q.self .non fun _=>.non
noncomputable def r2 (f:D->D->Res D) (fr:Bool):R2:=fun x y H Q=>∃a b d,Rep All H x a/\Rep All H y b/\f a b=.ok d/\kR H d fr Q
noncomputable def r1 (f:D->Res D) (fr:Bool):V->Hp->VK->Prop:=fun x H Q=>∃a d,Rep All H x a/\f a=.ok d/\kR H d fr Q
noncomputable def rs (f:List D->Res D) (fr:Bool):List V->Hp->VK->Prop:=fun xs H Q=>∃ds d,bQ All H xs ds/\f ds=.ok d/\kR H d fr Q
noncomputable def rm (f:D->List D->Res D) (fr:Bool):V->List V->Hp->VK->Prop:=fun x xs H Q=>∃a ds d,Rep All H x a/\bQ All H xs ds/\f a ds=.ok d/\kR H d fr Q
theorem aR {α β:Type} {m:Res α} {f:α->Res β} {b:β} (h:(do let x <- m;f x)=.ok b):∃a,m=.ok a/\f a=.ok b:=Res.aF5 h
section
variable {X:Cx} {a b c e:Expr} {pos:Pos} {fa fb fc fe:FE} {ra rb rc re:Bool} {ga gb gc:FT}
theorem ER.var {H:Hp} {σ:L2.St} {ρ:List D} {i:Nat} {d:D} (E:ER H σ ρ) (h:dH i ρ=.ok d):∃v,σ[i]?=some (some v)/\Rep All H v d/\ρ.getD i .uD=d:=by
 have:ρ.getD i .uD=d/\d≠.uD:=by
  unfold dH at h;split at h
  ·cases h
  ·cases h;refine ⟨rfl,fun z=>?_⟩;rename_i q;exact q z
 obtain ⟨e1,e2⟩:=this;obtain ⟨v,h1,h2⟩:=E i (by rw [e1];exact e2);exact ⟨v,h1,by rw [e1] at h2;exact h2,e1⟩
theorem aA {i:Nat} {x:Str} (hN:X.N[i]?=some x:=by exact rfl) (hv:Vis X.env.scope x:=by trivial) (hd:nDb x:=by decide) (hcd:nCd x:=by decide):PE X (.Name x pos) (gE (dH i) false):=
 PE.imp (bW hN hv hd hcd) fun σ H Q ⟨ρ,d,E,h,q⟩=>by
  obtain ⟨v,h1,h2,_⟩:=E.var h;exact ⟨v,h1,q.self h2 (fun z=>by cases z)⟩
theorem aG {i j}:PE X (.Constant (.int i) j pos) (gE (bC (.int i)) true):=PE.imp aHh fun σ H Q ⟨ρ,d,E,h,q⟩=>by cases h;exact q.int
theorem BR {i j}:PE X (.Constant (.bool i) j pos) (gE (bC (.bl i)) true):=PE.imp aLi fun σ H Q ⟨ρ,d,E,h,q⟩=>by cases h;exact q.bl
theorem j5 {i j}:PE X (.Constant (.str i) j pos) (gE (bC (.str i)) true):=PE.imp aHj fun σ H Q ⟨ρ,d,E,h,q⟩=>by cases h;exact q.str
theorem aIe {j}:PE X (.Constant .none j pos) (gE (bC .non) true):=PE.imp aHi fun σ H Q ⟨ρ,d,E,h,q⟩=>by cases h;exact q.non
theorem two {f:D->D->Res D} {fr:Bool} {σ:L2.St} {H:Hp} {Q:VK} (h:gE (b2 f fa fb) fr σ H Q):tOp (r2 f fr) (gE fa ra) (gE fb rb) σ H Q:=by
 obtain ⟨ρ,d,E,h,q⟩:=h;obtain ⟨x,h1,h⟩:=aR h;obtain ⟨y,h2,h⟩:=aR h;refine ⟨ρ,x,E,h1,fun v H1 s1 rp1 _=>⟨ρ,y,E.same s1,h2,fun u H2 s2 rp2 _=>⟨x,y,d,rp1.same s2,rp2,h,q.imp (s1.trans s2) id⟩⟩⟩
theorem a_ {o:Operator} {f:D->D->Res D} {fr:Bool} (ho:OpR X (binaryOp o) (r2 f fr)) (ha:PE X a (gE fa ra)) (hb:PE X b (gE fb rb)):PE X (.BinOp a o b pos) (gE (b2 f fa fb) fr):=PE.imp (aEk ho ha hb) fun _ _ _=>two
theorem QT {o:CmpOp} {f:D->D->Res D} {fr:Bool} (ho:OpR X (compareOp o) (r2 f fr)) (ha:PE X a (gE fa ra)) (hb:PE X b (gE fb rb)) (hm:behindInMarks o b=false):PE X (.Compare a [o] [b] pos) (gE (b2 f fa fb) fr):=PE.imp (aEn ho ha hb hm) fun _ _ _=>two
theorem cF {o:CmpOp} {f:D->D->Res D} {fr:Bool} (ho:OpR X (compareOp o) (r2 f fr)) (ha:PE X a (gE fa ra)) (hb:PE X b (gE fb rb)) (hm:behindInMarks o b=false):PT X (.Compare a [o] [b] pos) (gT (bTB (b2 f fa fb))):=
 PT.imp (MP ho ha hb hm) fun σ H Q ⟨ρ,k,E,h,q⟩=>by
  obtain ⟨d,h1,h2⟩:=aR h;refine two ⟨ρ,d,E,h1,fun v H' s r _=>?_⟩;cases d <;> simp only [asB] at h2 <;> cases h2
  cases r;exact ⟨_,rfl,q H' s⟩
theorem aIf {o:UnaryOp} {f:D->Res D} {fr:Bool} (ho:UnR X (unaryOp o) (r1 f fr)) (ha:PE X a (gE fa ra)):PE X (.UnaryOp o a pos) (gE (b1 f fa) fr):=
 PE.imp (aLo ho ha) fun σ H Q ⟨ρ,d,E,h,q⟩=>by
  obtain ⟨x,h1,h⟩:=aR h;exact ⟨ρ,x,E,h1,fun v H1 s1 rp1 _=>⟨x,d,rp1,h,q.imp s1 id⟩⟩
theorem aM0 {f:D->D->Res D} {fr:Bool} (ho:IxR X (r2 f fr)) (ha:PE X a (gE fa ra)) (hb:PE X b (gE fb rb)) (hs:BJ b):PE X (.Subscript a b pos) (gE (b2 f fa fb) fr):=PE.imp (aI4 ho ha hb hs) fun _ _ _=>two
theorem aO0 {H:Hp} {v:V} {d:D} {k:Bool} (r:Rep All H v d) (h:aLz d=.ok k) (hd:∀kvs,d≠.dct kvs) (hs:∀xs,d≠.scr xs):aLr X.K v H k:=by
 cases r with
 | non=>cases h;rfl
 | bl b=>cases h;rfl
 | int i=>cases h;rfl
 | str x=>
  simp only [aLz] at h;split at h
  ·rename_i hl;cases h;exact ⟨Nat.le_trans (of_decide_eq_true hl) (by rw [sizeLine_eq];decide),rfl⟩
  ·cases h
 | tup e rr=>cases h;exact .inr (.inl ⟨_,.of e,by cases rr <;> rfl⟩)
 | lst e p rr=>cases h;exact .inl ⟨_,.of e,by cases rr <;> rfl⟩
 | frz e rr=>exact absurd rfl (hs _)
 | dK e p rr n=>exact absurd rfl (hd _)
 | dT e p rr n=>exact absurd rfl (hd _)
 | fdK e rr n=>cases h
 | fdT e rr n=>cases h
 | exc n e q=>cases h
 | cel e p rr=>cases h
theorem wF (ha:PE X a (gE fa ra)) (he:∀whole,isTrue a X.env whole=(do let v <- whole;standAt a.pos;holding [v] (truthy v)):=by intro _;rfl):PT X a (gT (bTr fa)):=
 PT.imp (aAz ha he) fun σ H Q ⟨ρ,k,E,h,q⟩=>by
  obtain ⟨d,h1,h2⟩:=aR h;refine ⟨ρ,d,E,h1,fun v H' s r _=>⟨k,aO0 r ?_ ?_ ?_,q H' s⟩⟩
  ·cases d <;> first|exact h2|cases h2
  ·rintro kvs rfl;cases h2
  ·rintro kvs rfl;cases h2
theorem QV (ha:PT X a (gT ga)):PT X (.UnaryOp .Not a pos) (gT (aAq ga)):=PT.imp (aHm ha) fun σ H Q ⟨ρ,k,E,h,q⟩=>by
  obtain ⟨d,h1,h2⟩:=aR h;cases h2;exact ⟨ρ,d,E,h1,fun H' s=>q H' s⟩
theorem aDb {op} (ha:PE X a (gE fa ra)):PE X (.BoolOp op [a] pos) (gE fa ra):=aHn ha
theorem XJ {d:D} {k:Bool} (h:asB d=.ok k):d=.bl k:=by cases d <;> simp only [asB] at h <;> cases h;rfl
theorem aIg {d:D} {k:Int} (h:asI d=.ok k):d=.int k:=by cases d <;> simp only [asI] at h <;> cases h;rfl
theorem aDc {rest:List Expr} (ha:PE X a (gE fa ra)) (hb:PE X (.BoolOp .And (b::rest) pos) (gE fb rb)):PE X (.BoolOp .And (a::b::rest) pos) (gE (T_ fa fb) rb):=PE.imp (aHo ha hb) fun σ H Q ⟨ρ,k,E,h,q⟩=>by
  obtain ⟨d,h1,h⟩:=aR h;obtain ⟨z,h2,h3⟩:=aR h;cases XJ h2;refine ⟨ρ,_,E,h1,fun v H' s r _=>?_⟩;cases r;refine ⟨_,rfl,?_⟩;cases z with
  | true=>rw [if_pos rfl];rw [if_pos rfl] at h3;exact ⟨ρ,k,E.same s,h3,q.imp s id⟩
  | false=>rw [if_neg (by simp)];rw [if_neg (by simp)] at h3;cases h3;exact (q.imp s id).bl
theorem aM:PA X [] (gA aO true):=PA.imp iJ fun σ H Q ⟨ρ,ds,E,h,q⟩=>by cases h;exact q [] H (b_.refl H) .nil fun _=>.nil
theorem aC {es:List Expr} {f:FA} {r:Bool} (he:PE X e (gE fe re)) (hes:PA X es (gA f r)) (hs:starEach (e::es) X.env=(false,eval e X.env)::starEach es X.env:=by rfl):PA X (e::es) (gA (aB fe f) (re&&r)):=PA.imp (bI he hes hs) fun σ H Q ⟨ρ,ds,E,h,q⟩=>by
  obtain ⟨x,h1,h⟩:=aR h;obtain ⟨xs,h2,h⟩:=aR h;cases h;refine ⟨ρ,x,E,h1,fun v H1 s1 r1 n1=>⟨ρ,xs,E.same s1,h2,fun vs H2 s2 r2 n2=>q _ _ (s1.trans s2) (.cons (r1.same s2) r2) fun hf=>?_⟩⟩;obtain ⟨f1,f2⟩:=(Bool.and_eq_true _ _▸hf:re=true/\r=true)
  exact .cons ((n1 f1).same s2) ((n2 f2).mono (b_.new s1))
theorem cQ {es:List Expr} {f:FA} {r:Bool} {x1} (h:PA X es (gA f r)):PE X (.Tuple es x1 pos) (gE (eX f) r):=PE.imp (aD5 h) fun σ H Q ⟨ρ,d,E,h,q⟩=>by
  obtain ⟨xs,h1,h⟩:=aR h;split at h
  ·rename_i hl;cases h;refine ⟨ρ,xs,E,h1,fun vs H1 s1 r1 n1=>⟨?_,fun p hp=>?_⟩⟩
   ·rw [r1.length];exact Nat.le_trans (of_decide_eq_true hl) (by rw [sizeLine_eq];decide)
   ·have sp:b_ H1 (upd H1 p (.tup vs)):=b_.upd hp;exact q _ _ (s1.trans sp) (.tup aL (r1.same sp)) fun hf=>.tup aL ((n1 hf).same sp)
  ·cases h
theorem gU {es:List Expr} {f:FA} {r:Bool} (h:PA X es (gA f r)):PE X (.List es pos) (gE (l_ f) r):=PE.imp (aD6 h) fun σ H Q ⟨ρ,d,E,h,q⟩=>by
  obtain ⟨xs,h1,h⟩:=aR h;split at h
  ·rename_i hl;cases h;refine ⟨ρ,xs,E,h1,fun vs H1 s1 r1 n1=>⟨?_,fun p hp=>?_⟩⟩
   ·rw [r1.length];exact Nat.le_trans (of_decide_eq_true hl) (by rw [sizeLine_eq];decide)
   ·have sp:b_ H1 (upd H1 p (.lst vs)):=b_.upd hp;exact q _ _ (s1.trans sp) (.lst aL trivial (r1.same sp)) fun hf=>.lst aL (s1.free hp) ((n1 hf).same sp)
  ·cases h
theorem QW:PE X (.Dict [] [] pos) (gE (bC (.dct [])) true):=PE.imp aB4 fun σ H Q ⟨ρ,d,E,h,q⟩=>by
  cases h;exact fun p hp=>q _ _ (b_.upd hp) (.dK aL trivial .nil List.nodup_nil) fun _=>.dK aL hp .nil List.nodup_nil
end
section
variable {X:Cx} {a b c e:Expr} {pos:Pos} {fa fb fc fe:FE} {ra rb rc re:Bool} {ga gb gc:FT}
theorem lA {n:Nat} (h:decide (n<=lim)=true):n<=sizeLine:=Nat.le_trans (of_decide_eq_true h) (by rw [sizeLine_eq];decide)
theorem XM {n:Nat} (h:decide (n<lim)=true):n<sizeLine:=Nat.lt_of_lt_of_le (of_decide_eq_true h) (by rw [sizeLine_eq];decide)
theorem Rep.aIh {P:Addr->Prop} {H:Hp} {v:V} {ds:List D} (r:Rep P H v (.lst ds)):∃a xs,v=.ref a/\Rd H a (.lst xs)/\bQ P H xs ds:=by
 cases r with
 | lst e p rr=>exact ⟨_,_,rfl,.inl e,rr⟩
theorem PW.imp {X:Cx} {e:PySem.Expr} {t t':TT} (h:PW X e t) (i:∀σ H Q,t' σ H Q->t σ H Q):PW X e t':=fun wh pins s σ H Q I q=>h wh pins s σ H Q I (i σ H Q q)
theorem NK (ha:PT X a (gT ga)):PW X (.BoolOp .And [a] pos) (gT ga):=aEh ha
theorem IW (ha:PT X a (gT ga)):PW X (.BoolOp .Or [a] pos) (gT ga):=aHk ha
theorem XN {rest:List Expr} (ha:PT X a (gT ga)) (hb:PW X (.BoolOp .And (b::rest) pos) (gT gb)):PW X (.BoolOp .And (a::b::rest) pos) (gT (W7 ga gb)):=PW.imp (aHl ha hb) fun σ H Q ⟨ρ,k,E,h,q⟩=>by
 obtain ⟨z,h1,h3⟩:=aR h;refine ⟨ρ,z,E,h1,fun H' s=>?_⟩;cases z with
 | true=>rw [if_pos rfl];rw [if_pos rfl] at h3;exact ⟨ρ,k,E.same s,h3,fun H2 s2=>q H2 (s.trans s2)⟩
 | false=>rw [if_neg (by simp)];rw [if_neg (by simp)] at h3;cases h3;exact q H' s
theorem XQ {rest:List Expr} (ha:PT X a (gT ga)) (hb:PW X (.BoolOp .Or (b::rest) pos) (gT gb)):PW X (.BoolOp .Or (a::b::rest) pos) (gT (bOr ga gb)):=PW.imp (aLj ha hb) fun σ H Q ⟨ρ,k,E,h,q⟩=>by
 obtain ⟨z,h1,h3⟩:=aR h;refine ⟨ρ,z,E,h1,fun H' s=>?_⟩;cases z with
 | true=>rw [if_pos rfl];rw [if_pos rfl] at h3;cases h3;exact q H' s
 | false=>rw [if_neg (by simp)];rw [if_neg (by simp)] at h3;exact ⟨ρ,k,E.same s,h3,fun H2 s2=>q H2 (s.trans s2)⟩
theorem cH:OpR X (binaryOp .Add) (r2 (aU .add) true):=by
 intro pins s σ H x y v u Q I rx ry h;obtain ⟨a,b,d,p,q,e,k⟩:=h;cases p with
 | int i=>
  cases q with
  | int j=>cases e;exact aHt pins s σ H _ _ v u Q I rx ry ⟨i,j,rfl,rfl,k.int⟩
  | _=>simp [aU] at e
 | str i=>
  cases q with
  | str j=>
   simp only [aU] at e;split at e
   ·rename_i hl;cases e;exact TQ pins s σ H _ _ v u Q I rx ry ⟨i,j,rfl,rfl,lA hl,k.str⟩
   ·cases e
  | _=>simp [aU] at e
 | non=>simp [aU] at e
 | bl _=>simp [aU] at e
 | tup _ _=>simp [aU] at e
 | dK _ _ _ _=>simp [aU] at e
 | dT _ _ _ _=>simp [aU] at e
 | fdK _ _ _=>simp [aU] at e
 | fdT _ _ _=>simp [aU] at e
 | exc _ _ _=>simp [aU] at e
 | cel _ _ _=>simp [aU] at e
 | @lst a1 xs ds e1 p1 r1=>
  have hR:Rep All H (.ref a1) (.lst ds):=.lst e1 p1 r1;cases b with
  | lst es=>
   simp only [aU] at e;split at e
   ·rename_i hl;cases e;rw [Bool.and_eq_true,Bool.and_eq_true] at hl;obtain ⟨⟨hl,hp1⟩,hp2⟩:=hl;obtain ⟨l1,xs1,e1',rd1,rr1⟩:=hR.aIh;obtain ⟨l2,xs2,rfl,rd2,rr2⟩:=q.aIh;cases e1';cases rx;cases ry;obtain ⟨z,its,n,vr1,ee1⟩:=rd1.ok I.hok;obtain ⟨z2,its2,n2,vr2,ee2⟩:=rd2.ok I.hok;have hz:xs1.length+xs2.length<=sizeLine:=by rw [rr1.length,rr2.length];exact lA hl
    have t1:=vr1.length;have t2:=vr2.length;refine PySem.P.add_list ee1 ee2 ?_ (by rw [List.size_toArray,List.size_toArray];lia);have ea:its.toArray++its2.toArray=(its++its2).toArray:=by simp
    rw [ea];refine ⟨.ref _,_,I.aNw (t':=s.toks) (vr1.append vr2) (by rw [List.length_append];lia),rfl,?_⟩;have sp:b_ H (upd H s.heap.objs.size (.lst (xs1++xs2))):=b_.upd I.fresh;exact k _ _ sp (.lst aL trivial ((rr1.append rr2).same sp)) fun _=>.lst aL I.fresh (((rr1.bK hp1).append (rr2.bK hp2)).same sp)
   ·cases e
  | _=>simp [aU] at e
 | frz _ _=>simp [aU] at e
theorem NP {f:Value->Value->Sem Value} {C:Int->Int->Prop} {g:Int->Int->V} {op:D->D->Res D} (h:OpR X f (rI C g))
  (hi:∀i j d,op (.int i) (.int j)=.ok d->C i j/\∃k,d=.int k/\g i j=.int k) (hn:∀a b d,op a b=.ok d->(∃i,a=.int i)/\∃j,b=.int j):OpR X f (r2 op true):=by
 intro pins s σ H x y v u Q I rx ry ⟨a,b,d,p,q,e,k⟩;obtain ⟨⟨i,rfl⟩,⟨j,rfl⟩⟩:=hn a b d e;cases p;cases q;obtain ⟨hc,m,rfl,hm⟩:=hi i j d e;exact h pins s σ H _ _ v u Q I rx ry ⟨i,j,rfl,rfl,hc,by rw [hm];exact k.int⟩
theorem XR:OpR X (binaryOp .Sub) (r2 (aU .sub) true):=by
 intro pins s σ H x y v u Q I rx ry ⟨a,b,d,p,q,e,k⟩;cases a <;> cases b <;> simp [aU] at e
 cases p;cases q;subst e;exact aHu pins s σ H _ _ v u Q I rx ry ⟨_,_,rfl,rfl,k.int⟩
theorem aIi:OpR X (binaryOp .Mult) (r2 (aU .mul) true):=by
 refine NP aHv (fun i j d e=>?_) fun a b d e=>?_
 ·simp only [aU] at e;split at e
  ·rename_i hl;cases e;refine ⟨?_,_,rfl,rfl⟩;simp only [lO,Bool.or_eq_true,Bool.and_eq_true,decide_eq_true_eq] at hl;exact hl
  ·cases e
 ·cases a <;> cases b <;> first|exact ⟨⟨_,rfl⟩,_,rfl⟩|simp [aU] at e
theorem eZ:OpR X (binaryOp .FloorDiv) (r2 (aU .fdiv) true):=by
 refine NP aEm (fun i j d e=>?_) fun a b d e=>?_
 ·simp only [aU] at e;split at e
  ·rename_i hl;cases e;refine ⟨?_,_,rfl,rfl⟩;simp only [Bool.and_eq_true,decide_eq_true_eq] at hl;exact hl
  ·cases e
 ·cases a <;> cases b <;> first|exact ⟨⟨_,rfl⟩,_,rfl⟩|simp [aU] at e
theorem b7:OpR X (binaryOp .Mod) (r2 (aU .mod) true):=by
 refine NP aHw (fun i j d e=>?_) fun a b d e=>?_
 ·simp only [aU] at e;split at e
  ·rename_i hl;cases e;refine ⟨?_,_,rfl,rfl⟩;simp only [Bool.and_eq_true,decide_eq_true_eq] at hl;exact hl
  ·cases e
 ·cases a <;> cases b <;> first|exact ⟨⟨_,rfl⟩,_,rfl⟩|simp [aU] at e
theorem aDd:UnR X (unaryOp .USub) (r1 aF8 true):=by
 intro pins s σ H x v Q I rx ⟨a,d,p,e,k⟩;cases a <;> simp [aF8] at e
 subst e;cases p;exact aHx pins s σ H _ v Q I rx ⟨_,rfl,k.int⟩
theorem wN (hu:X.A.units+20<cLine):OpR X (compareOp .Eq) (r2 (cC .eq) true):=by
 intro pins s σ H x y v u Q I rx ry ⟨a,b,d,p,q,e,k⟩;simp only [cC] at e;split at e
 ·rename_i hl;cases e;rw [Bool.and_eq_true] at hl;exact (XH I bH X.A (by have:bH=12:=rfl;lia) hl.1 hl.2 p q rx ry).1 X.prog X.w X.xe _ ⟨.bl _,H,I,rfl,k.bl⟩
 ·cases e
theorem sI (hu:X.A.units+20<cLine):OpR X (compareOp .NotEq) (r2 (cC .ne) true):=by
 intro pins s σ H x y v u Q I rx ry ⟨a,b,d,p,q,e,k⟩;simp only [cC] at e;split at e
 ·rename_i hl;cases e;rw [Bool.and_eq_true] at hl;exact (XH I bH X.A (by have:bH=12:=rfl;lia) hl.1 hl.2 p q rx ry).2.1 X.prog X.w X.xe _ ⟨.bl _,H,I,rfl,k.bl⟩
 ·cases e
end
theorem XS (k q:Key):eqD (kD k) (kD q)=decide (k=q):=by
 cases k <;> cases q <;> simp [kD,eqD,Bool.beq_eq_decide_eq]
theorem aDe:∀(k q:List Key),G3 (k.map kD) (q.map kD)=decide (k=q)
 | [],[]=>by simp [G3]
 | [],_::_=>by simp [G3]
 | _::_,[]=>by simp [G3]
 | a::k,b::q=>by
  rw [List.map_cons,List.map_cons,G3,XS,aDe k q];by_cases h:a=b <;> by_cases h':k=q <;> simp [h,h']
theorem aFa (k q:List Key):eqD (.tup (k.map kD)) (.tup (q.map kD))=decide (k=q):=by rw [eqD,aDe]
theorem aFb {P:Addr->Prop} {H:Hp} {k:Key}:∀{kvs:List (Key×V)} {ds:List (D×D)},lW P H kvs ds->(∃v d,zN kvs k=some v/\cG ds (kD k)=some d/\Rep P H v d)\/(zN kvs k=none/\cG ds (kD k)=none)
 | _,_,.nil=>.inr ⟨rfl,rfl⟩
 | _,_,.cons (k:=k') r t=>by
  by_cases h:k'=k
  ·subst h;exact .inl ⟨_,_,oG rfl,by rw [cG,XS,if_pos (by simp)],r⟩
  ·rw [cG,XS,if_neg (by simpa using h),oH (p:=(k',_)) h];exact aFb t
theorem aFc {P:Addr->Prop} {H:Hp} {k:List Key}:∀{kvs:List (List Key×V)} {ds:List (D×D)},q_ P H kvs ds->(∃v d,zN kvs k=some v/\cG ds (.tup (k.map kD))=some d/\Rep P H v d)\/(zN kvs k=none/\cG ds (.tup (k.map kD))=none)
 | _,_,.nil=>.inr ⟨rfl,rfl⟩
 | _,_,.cons (k:=k') r t=>by
  by_cases h:k'=k
  ·subst h;exact .inl ⟨_,_,oG rfl,by rw [cG,aFa,if_pos (by simp)],r⟩
  ·rw [cG,aFa,if_neg (by simpa using h),oH (p:=(k',_)) h];exact aFc t
theorem BV {H:Hp} {v:V} {d:D} (h:mJ d=true) (r:Rep All H v d):∃k,v=kV k/\d=kD k:=by
 cases r <;> simp [mJ] at h
 ·exact ⟨.inl _,rfl,rfl⟩
 ·exact ⟨.inr _,rfl,rfl⟩
theorem flat_keys {H:Hp}:∀{vs:List V} {ds:List D},ds.all mJ=true->bQ All H vs ds->∃ks:List Key,vs=ks.map kV/\ds=ks.map kD
 | _,_,_,.nil=>⟨[],rfl,rfl⟩
 | _,_,h,.cons r t=>by
  rw [List.all_cons,Bool.and_eq_true] at h;obtain ⟨k,rfl,rfl⟩:=BV h.1 r;obtain ⟨ks,rfl,rfl⟩:=flat_keys h.2 t;exact ⟨k::ks,rfl,rfl⟩
theorem j6 {H:Hp} {y:V} {k:D} (h:keyOk k=true) (r:Rep All H y k):(∃q,y=kV q/\k=kD q)\/∃(b:Addr) (ks:List Key),y=.ref b/\H b=some (.tup (ks.map kV))/\k=.tup (ks.map kD):=by
 cases k <;> simp [keyOk] at h
 ·exact .inl (BV rfl r)
 ·exact .inl (BV rfl r)
 ·obtain ⟨a,xs,rfl,e,rr⟩:=r.gD;obtain ⟨ks,rfl,rfl⟩:=flat_keys (List.all_eq_true.mpr h) rr;exact .inr ⟨a,ks,rfl,e,rfl⟩
theorem m7 (k:Key):isTup (kD k)=false:=by cases k <;> rfl
section
variable {X:Cx} {pins:List (Addr×Obj)} {σ:L2.St} {H:Hp} {s:Shared} {a:Addr}
theorem QX {o o':HO} (e:H a=some o):upd (upd H a o') a o=H:=by
 rw [MJ]
 funext b
 by_cases h:b=a
 ·subst h;rw [aL,e]
 ·rw [bB h]
theorem sJ (I:Inv X pins σ H s) (e:H a=some (.dK [])):Inv X pins σ (upd H a (.dT [])) s:=by
 obtain ⟨z,hd,vs,rel,o,es,ep,h1,h2,h3,h4,h5,h6⟩:=WQ I.hok e;cases rel;refine I.write (t':=s.toks) (x:=a) (e:=a) (h':=s.heap) (by rw [e];trivial) (.inl rfl) (fun _ _ _ q=>q) ⟨o,h1⟩ ?_;refine ⟨Nat.zero_le _,hd,[],.nil,o,es,ep,h1,h2,h3,?_,List.nodup_nil⟩;cases h5':es.toList with
 | nil=>rfl
 | cons _ _=>rw [h5'] at h5;cases h5
theorem sO (I:Inv X pins σ H s) (e:H a=some (.dT [])):Inv X pins σ (upd H a (.dK [])) s:=by
 obtain ⟨z,hd,vs,rel,o,es,ep,h1,h2,h3,h4,h5,h6⟩:=aEy I.hok e;cases rel;refine I.write (t':=s.toks) (x:=a) (e:=a) (h':=s.heap) (by rw [e];trivial) (.inl rfl) (fun _ _ _ q=>q) ⟨o,h1⟩ ?_;have h0:es.toList=[]:=h4;refine ⟨Nat.zero_le _,hd,[],.nil,o,es,ep,h1,h2,h3,?_,?_,List.nodup_nil⟩
 ·intro x hx;have:x∈es.toList:=by simpa using hx
  rw [h0] at this;cases this
 ·rw [h0];exact .nil
theorem QZ {P:Addr->Prop}:∀{kvs:List (Key×V)} {ds:List (D×D)},lW P H kvs ds->∀p∈ds,isTup p.1=false
 | _,_,.nil,_,h=>by cases h
 | _,_,.cons r t,p,h=>by
  rcases List.mem_cons.mp h with rfl|h
  ·exact m7 _
  ·exact QZ t p h
theorem Q0 {P:Addr->Prop}:∀{kvs:List (List Key×V)} {ds:List (D×D)},q_ P H kvs ds->∀p∈ds,isTup p.1=true
 | _,_,.nil,_,h=>by cases h
 | _,_,.cons r t,p,h=>by
  rcases List.mem_cons.mp h with rfl|h
  ·rfl
  ·exact Q0 t p h
theorem aFd {x y:V} {ds:List (D×D)} {k:D} (I:Inv X pins σ H s) (rd:Rep All H x (.dct ds)) (rk:Rep All H y k) (hk:xJ ds k=true) :
  ∃H1 a o,x=.ref a/\Inv X pins σ H1 s/\(∀s',Inv X pins σ H1 s'->Inv X pins σ H s')/\WT H1 a y o/\((o=none/\cG ds k=none)\/∃v d,o=some v/\cG ds k=some d/\Rep All H v d):=by
 unfold xJ at hk;rw [Bool.and_eq_true] at hk;obtain ⟨h1,h2⟩:=hk;cases rd with
 | @dK a kvs ds e _ r n=>
  rcases j6 h1 rk with ⟨q,rfl,rfl⟩|⟨b,ks,rfl,eb,rfl⟩
  ·refine ⟨H,a,_,rfl,I,fun _ h=>h,.k e,?_⟩;rcases aFb (k:=q) r with ⟨v,d,g1,g2,g3⟩|⟨g1,g2⟩
   ·exact .inr ⟨v,d,g1,g2,g3⟩
   ·exact .inl ⟨g1,g2⟩
  ·cases r with
   | nil=>
    have e2:=QX (o':=.dT []) e;refine ⟨upd H a (.dT []),a,none,rfl,sJ I e,fun s' I'=>?_,.t (k:=ks) aL (by rw [bB (aEf eb e (by intro z;cases z))];exact eb),.inl ⟨rfl,rfl⟩⟩;have:=sO I' aL;rwa [e2] at this
   | cons r t=>
    rw [List.all_cons,m7] at h2;simp [isTup] at h2
 | @dT a kvs ds e _ r n=>
  rcases j6 h1 rk with ⟨q,rfl,rfl⟩|⟨b,ks,rfl,eb,rfl⟩
  ·cases r with
   | nil=>
    have e2:=QX (o':=.dK []) e;refine ⟨upd H a (.dK []),a,none,rfl,sO I e,fun s' I'=>?_,.k (k:=q) aL,.inl ⟨rfl,rfl⟩⟩;have:=sJ I' aL;rwa [e2] at this
   | cons r t=>
    rw [List.all_cons,m7] at h2;simp [isTup] at h2
  ·refine ⟨H,a,_,rfl,I,fun _ h=>h,.t e eb,?_⟩;rcases aFc (k:=ks) r with ⟨v,d,g1,g2,g3⟩|⟨g1,g2⟩
   ·exact .inr ⟨v,d,g1,g2,g3⟩
   ·exact .inl ⟨g1,g2⟩
theorem aBb {x:V} {ds:List (D×D)} {k d:D} (rd:Rep All H x (.dct ds)) (hk:keyOk k=true) (h:cG ds k=some d):xJ ds k=true:=by
 have one:∀{ds:List (D×D)},cG ds k=some d->∃p∈ds,eqD p.1 k=true:=by
  intro ds;induction ds with
  | nil=>intro h;cases h
  | cons p ds ih=>
   intro h;obtain ⟨p1,p2⟩:=p;rw [cG] at h;by_cases hq:eqD p1 k=true
   ·exact ⟨_,List.mem_cons_self ..,hq⟩
   ·rw [if_neg hq] at h;obtain ⟨p,hp,e⟩:=ih h;exact ⟨p,List.mem_cons_of_mem _ hp,e⟩
 obtain ⟨p,hp,he⟩:=one h;unfold xJ;rw [hk,Bool.true_and,List.all_eq_true];intro q hq;have same:isTup p.1=isTup k:=by
  obtain ⟨p1,p2⟩:=p;cases p1 <;> cases k <;> simp [eqD,keyOk,isTup] at he hk ⊢
 cases rd with
 | dK e _ r n=>rw [QZ r q hq,<-same,QZ r p hp];rfl
 | dT e _ r n=>rw [Q0 r q hq,<-same,Q0 r p hp];rfl
end
section
variable {X:Cx} {a b c e:Expr} {pos:Pos} {fa fb fc fe:FE} {ra rb rc re:Bool} {ga gb gc:FT}
noncomputable def LC (H:Hp) (u:Value):D:=by
 classical
 exact if h:∃d,d.bU bH=true/\∃v,RelV v u/\Rep All H v d then Classical.choose h else .non
theorem XX {H:Hp} {u:Value} {v:V} {d:D} (hq:d.bU bH=true) (rv:RelV v u) (r:Rep All H v d):LC H u=d:=by
 unfold LC;have h:∃d,d.bU bH=true/\∃v,RelV v u/\Rep All H v d:=⟨d,hq,v,rv,r⟩
 rw [dif_pos h];obtain ⟨h2,v',rv',r'⟩:=Classical.choose_spec h;have:=rv'.inj rv;subst this;exact Rep.inj bH h2 hq r' r
theorem xM {H:Hp} {a:D}:∀{xs:List V} {ds:List D} {its:List Value},D.cA bH ds=true->bQ All H xs ds->Vals xs its->(its.any fun u=>eqD (LC H u) a)=ds.any fun y=>eqD y a
 | _,_,_,_,.nil,.nil=>rfl
 | _,_,_,h,.cons r t,.cons v vt=>by
  rw [D.cA,Bool.and_eq_true] at h;rw [List.any_cons,List.any_cons,XX h.1 v r,xM h.2 t vt]
theorem BW {pins:List (Addr×Obj)} {σ:L2.St} {H:Hp} {s:Shared} (I:Inv X pins σ H s) (hu:X.A.units+20<cLine) {a:D} {x:V} {v:Value} (ha:a.bU bH=true) (rx:Rep All H x a) (rv:RelV x v)
  {xs:List V} {ds:List D} {its:List Value} (h:D.cA bH ds=true) (r:bQ All H xs ds) (vr:Vals xs its) (u:Value) (hm:u∈its):EqAt X.A.in1 s u v (eqD (LC H u) a):=by
 obtain ⟨j,hj,e⟩:=List.getElem_of_mem hm;have hj':j<ds.length:=by rw [<-r.length,vr.length];exact hj
 obtain ⟨w,h1,h2⟩:=r.get (i:=j) (d:=ds[j]) (by simp [hj']);obtain ⟨u',h3,h4⟩:=vr.get h1;rw [List.getElem?_eq_getElem hj,e] at h3;cases h3;have hd:ds[j].bU bH=true:=by
  have:=j4 (j:=j) h hj';rwa [List.getD_eq_getElem?_getD,List.getElem?_eq_getElem hj'] at this
 rw [XX hd h4 h2];exact (XH I bH X.A.in1 (by show X.A.units+1+12<cLine;lia) hd ha h2 rx h4 rv).2.2
theorem aIj (hu:X.A.units+20<cLine):OpR X (compareOp .In) (r2 (cC .isin) true):=by
 intro pins s σ H x y v u Q I rx ry ⟨a,b,d,p,q,e,k⟩;cases b with
 | tup ys=>
  simp only [cC] at e;split at e
  ·rename_i hl;cases e;rw [Bool.and_eq_true] at hl;obtain ⟨l,xs,rfl,ee,rr⟩:=q.gD;cases ry;obtain ⟨its,vr,pl⟩:=nF I ee;refine in_tupleAt (fun u=>eqD (LC H u) a) pl (fun w hw=>BW I hu hl.1 p rx hl.2 rr vr w (by simpa using hw)) ⟨.bl _,H,I,rfl,?_⟩;rw [show its.toArray.any (fun u=>eqD (LC H u) a)=its.any (fun u=>eqD (LC H u) a) by simp,xM hl.2 rr vr];exact k.bl
  ·cases e
 | lst ys=>
  simp only [cC] at e;split at e
  ·rename_i hl;cases e;rw [Bool.and_eq_true] at hl;obtain ⟨l,xs,rfl,ee,rr⟩:=q.jE (K:=X.K);cases ry;obtain ⟨its,vr,pl⟩:=lR I ee;refine in_listAt (fun u=>eqD (LC H u) a) pl (fun w hw=>BW I hu hl.1 p rx hl.2 rr vr w (by simpa using hw)) ⟨.bl _,H,I,rfl,?_⟩;rw [show its.toArray.any (fun u=>eqD (LC H u) a)=its.any (fun u=>eqD (LC H u) a) by simp,xM hl.2 rr vr];exact k.bl
  ·cases e
 | dct kvs=>
  simp only [cC] at e;split at e
  ·rename_i hl;cases e;obtain ⟨H1,a1,o,rfl,I1,bk,g,hc⟩:=aFd I q p hl;cases ry;refine aNy (by lia) I1 g rx fun s' I'=>⟨.bl _,H,bk s' I',rfl,?_⟩
   rcases hc with ⟨rfl,h2⟩|⟨w,dd,rfl,h2,_⟩
   ·rw [h2] at k;exact k.bl
   ·rw [h2] at k;exact k.bl
  ·cases e
 | _=>simp [cC] at e
theorem oM (hu:X.A.units+20<cLine):OpR X (compareOp .NotIn) (r2 (cC .notin) true):=by
 intro pins s σ H x y v u Q I rx ry ⟨a,b,d,p,q,e,k⟩;cases b with
 | tup ys=>
  simp only [cC] at e;split at e
  ·rename_i hl;cases e;rw [Bool.and_eq_true] at hl;obtain ⟨l,xs,rfl,ee,rr⟩:=q.gD;cases ry;obtain ⟨its,vr,pl⟩:=nF I ee;refine notIn_tupleAt (fun u=>eqD (LC H u) a) pl (fun w hw=>BW I hu hl.1 p rx hl.2 rr vr w (by simpa using hw)) ⟨.bl _,H,I,rfl,?_⟩;rw [show its.toArray.any (fun u=>eqD (LC H u) a)=its.any (fun u=>eqD (LC H u) a) by simp,xM hl.2 rr vr];exact k.bl
  ·cases e
 | lst ys=>
  simp only [cC] at e;split at e
  ·rename_i hl;cases e;rw [Bool.and_eq_true] at hl;obtain ⟨l,xs,rfl,ee,rr⟩:=q.jE (K:=X.K);cases ry;obtain ⟨its,vr,pl⟩:=lR I ee;refine notIn_listAt (fun u=>eqD (LC H u) a) pl (fun w hw=>BW I hu hl.1 p rx hl.2 rr vr w (by simpa using hw)) ⟨.bl _,H,I,rfl,?_⟩;rw [show its.toArray.any (fun u=>eqD (LC H u) a)=its.any (fun u=>eqD (LC H u) a) by simp,xM hl.2 rr vr];exact k.bl
  ·cases e
 | dct kvs=>
  simp only [cC] at e;split at e
  ·rename_i hl;cases e;obtain ⟨H1,a1,o,rfl,I1,bk,g,hc⟩:=aFd I q p hl;cases ry;refine aEz (by lia) I1 g rx fun s' I'=>⟨.bl _,H,bk s' I',rfl,?_⟩
   rcases hc with ⟨rfl,h2⟩|⟨w,dd,rfl,h2,_⟩
   ·rw [h2] at k;exact k.bl
   ·rw [h2] at k;exact k.bl
  ·cases e
 | _=>simp [cC] at e
theorem aIk {α:Type} (xs:List α) (i:Int):L2.atI xs i=(ixD xs.length i).bind fun j=>xs[j]?:=rfl
theorem bQ.atI {P:Addr->Prop} {H:Hp} {xs:List V} {ds:List D} {i:Int} {d:D} (r:bQ P H xs ds) (h:((ixD ds.length i).bind fun j=>ds[j]?)=some d):∃v,L2.atI xs i=some v/\Rep P H v d:=by
 rw [aIk,r.length];cases hi:ixD ds.length i with
 | none=>rw [hi] at h;cases h
 | some j=>
  rw [hi] at h;obtain ⟨v,h1,h2⟩:=r.get h;exact ⟨v,h1,h2⟩
theorem I_ {X:Cx} {value slice:Expr} {pins:List (Addr×Obj)} {s:Shared} {σ:L2.St} {H:Hp} {a:Addr} {y v':V} {u:Value} {Q:VK} (hu:X.A.units+20<cLine) (I:Inv X pins σ H s) (g:WT H a y (some v')) (ry:RelV y u) {H':Hp}
  (hs:subscripted slice false (.ref a) u=operate [.ref a,u] (getItem (.ref a) u)) (bk:∀s',Inv X pins σ H s'->Inv X pins σ H' s') (q:Q v' H') :
  wpAny (model X.prog X.w) X.A (subscriptTail value slice (.ref a) u) (EP X pins σ Q) X.xe s:=by
 have hT:=M5 I g;unfold subscriptTail;refine wpAny_bind ?_;rw [getitemInPython_of_ne hT.not_modules];refine wpAny_bind (wpAny_specialOf hT PySem.F.slot_dict_getitem.lookup ?_);have fin:wpAny (model X.prog X.w) X.A (subscripted slice false (.ref a) u) (fun r s₃=>wpAny (model X.prog X.w) X.A (letTemporaryGo value (.ref a) r >>= fun _=>pure r) (EP X pins σ Q) X.xe s₃) X.xe s:=by
  rw [hs];exact wpAny_operating (WW (by lia) I g ry fun w' s3 I3 rw'=>wpAny_bind (wpAny_letTemporaryGo (wpAny_pure ⟨v',H',bk s3 I3,rw',q⟩)))
 first
  | exact wpAny_pure (wpAny_bind fin)
  | exact wpAny_bind (wpAny_pure (wpAny_bind fin))
  | exact wpAny_bind fin
theorem Q3 {k d:D}:∀{ds:List (D×D)},keyOk k=true->cG ds k=some d->∃p∈ds,isTup p.1=isTup k
 | [],_,h=>by cases h
 | (p1,p2)::ds,hk,h=>by
  rw [cG] at h;by_cases hq:eqD p1 k=true
  ·refine ⟨_,List.mem_cons_self ..,?_⟩;cases p1 <;> cases k <;> simp [eqD,keyOk,isTup] at hq hk ⊢
  ·rw [if_neg hq] at h;obtain ⟨p,hp,e⟩:=Q3 hk h;exact ⟨p,List.mem_cons_of_mem _ hp,e⟩
theorem aM1 {H:Hp} {x y:V} {ds:List (D×D)} {k d:D} (rd:Rep All H x (.fdc ds)) (rk:Rep All H y k) (hk:keyOk k=true) (h:cG ds k=some d):∃a v,x=.ref a/\WT H a y (some v)/\Rep All H v d:=by
 obtain ⟨p,hp,et⟩:=Q3 hk h;cases rd with
 | @fdK a o kvs ds e r n=>
  rcases j6 hk rk with ⟨q,rfl,rfl⟩|⟨b,ks,rfl,eb,rfl⟩
  ·rcases aFb (k:=q) r with ⟨v,d',g1,g2,g3⟩|⟨g1,g2⟩
   ·rw [g2] at h;cases h;exact ⟨a,v,rfl,.inl ⟨kvs,q,.inr ⟨o,e⟩,rfl,g1.symm⟩,g3⟩
   ·rw [g2] at h;cases h
  ·rw [QZ r p hp] at et;cases et
 | @fdT a o kvs ds e r n=>
  rcases j6 hk rk with ⟨q,rfl,rfl⟩|⟨b,ks,rfl,eb,rfl⟩
  ·rw [Q0 r p hp,m7] at et;cases et
  ·rcases aFc (k:=ks) r with ⟨v,d',g1,g2,g3⟩|⟨g1,g2⟩
   ·rw [g2] at h;cases h;exact ⟨a,v,rfl,.inr ⟨kvs,ks,b,.inr ⟨o,e⟩,rfl,eb,g1.symm⟩,g3⟩
   ·rw [g2] at h;cases h
theorem aIl (hK:KFrag.K=X.K) (hu:X.A.units+20<cLine):IxR X (r2 getD false):=by
 intro value slice pins s σ H x y v u Q I rx ry ⟨a,b,d,p,q,e,k⟩ hs;cases a with
 | tup ys=>
  cases b <;> simp only [getD] at e <;> (try (cases e;done))
  have e':=Res.kY e;obtain ⟨l,xs,rfl,ee,rr⟩:=p.gD;cases q;obtain ⟨w,h1,h2⟩:=rr.atI e';exact aI5 value slice pins s σ H _ _ v u Q I rx ry ⟨l,xs,_,w,rfl,rfl,.of ee,h1,k.self h2 fun z=>by cases z⟩ hs
 | lst ys=>
  cases b <;> simp only [getD] at e <;> (try (cases e;done))
  have e':=Res.kY e;obtain ⟨l,xs,rfl,ee,rr⟩:=p.jE (K:=X.K);cases q;obtain ⟨w,h1,h2⟩:=rr.atI e';exact M3 value slice pins s σ H _ _ v u Q I rx ry ⟨l,xs,_,w,rfl,rfl,ee,h1,k.self h2 fun z=>by cases z⟩ hs
 | cel ca ys=>
  cases b <;> simp only [getD] at e <;> (try (cases e;done))
  have e':=Res.kY e;cases p with
  | cel ee pp rr=>
   cases q;obtain ⟨w,h1,h2⟩:=rr.atI e';exact M3 value slice pins s σ H _ _ v u Q I rx ry ⟨_,_,_,w,rfl,rfl,.inl (.inl ee),h1,k.self h2 fun z=>by cases z⟩ hs
 | scr ys=>
  cases b <;> simp only [getD] at e <;> (try (cases e;done))
  have e':=Res.kY e;cases p with
  | frz ee rr=>
   cases q;obtain ⟨w,h1,h2⟩:=rr.atI e';exact M3 value slice pins s σ H _ _ v u Q I rx ry ⟨_,_,_,w,rfl,rfl,ee.sq hK,h1,k.self h2 fun z=>by cases z⟩ hs
 | str z=>
  cases b <;> simp only [getD] at e <;> (try (cases e;done))
  split at e
  ·rename_i hl;have e':=Res.kY e;obtain ⟨cc,h1,h2⟩:=Option.map_eq_some_iff.mp e';subst h2;cases p;cases q;exact aI6 value slice pins s σ H _ _ v u Q I rx ry ⟨z,_,cc,rfl,rfl,lA hl,h1,k.str⟩ hs
  ·cases e
 | dct kvs=>
  have e':keyOk b=true/\cG kvs b=some d:=by
   cases b <;> simp only [getD] at e <;> (split at e <;> first|(rename_i hl;exact ⟨hl,Res.kY e⟩)|cases e)
  obtain ⟨H1,a1,o,rfl,I1,bk,g,hc⟩:=aFd I p q (aBb p e'.1 e'.2);cases rx;rcases hc with ⟨rfl,h2⟩|⟨w,dd,rfl,h2,h3⟩
  ·rw [h2] at e';cases e'.2
  ·rw [h2] at e';cases e'.2;exact I_ hu I1 g ry hs bk (k.self h3 fun z=>by cases z)
 | fdc kvs=>
  have e':keyOk b=true/\cG kvs b=some d:=by
   cases b <;> simp only [getD] at e <;> (split at e <;> first|(rename_i hl;exact ⟨hl,Res.kY e⟩)|cases e)
  obtain ⟨a1,w,rfl,g,h3⟩:=aM1 p q e'.1 e'.2;cases rx;exact I_ hu I g ry hs (fun _ h=>h) (k.self h3 fun z=>by cases z)
 | _=>cases b <;> simp [getD] at e
theorem bA {X:Cx} {a b:Expr} {pos:Pos} {fa fb:FE} {ra rb:Bool} (ha:PE X a (gE fa ra)) (hb:PE X b (gE fb rb)) (hK:KFrag.K=X.K:=by assumption) (hu:X.A.units+20<cLine:=by assumption) (hs:BJ b:=by exact fun _ _=>rfl):PE X (.Subscript a b pos) (gE (b2 getD fa fb) false):=aM0 (aIl hK hu) ha hb hs
noncomputable def gO (f:List D->Res (Option Int)):TO:=fun σ H Q=>∃ρ i,ER H σ ρ/\f ρ=.ok i/\∀H',b_ H H'->Q i H'
theorem PO.imp {X:Cx} {e:Option PySem.Expr} {t t':TO} (h:PO X e t) (i:∀σ H Q,t' σ H Q->t σ H Q):PO X e t':=fun pins s σ H Q I q=>h pins s σ H Q I (i σ H Q q)
theorem gG:PO X none (gO fL):=PO.imp aEs fun σ H Q ⟨ρ,i,E,h,q⟩=>by cases h;exact q H (b_.refl H)
theorem gH (ha:PE X a (gE fa ra)):PO X (some a) (gO (eV fa)):=PO.imp (aEt ha) fun σ H Q ⟨ρ,i,E,h,q⟩=>by
 obtain ⟨x,h1,h⟩:=aR h;obtain ⟨j,h2,h⟩:=aR h;cases h;have e:=aIg h2;subst e;exact ⟨ρ,_,E,h1,fun v H' s r _=>by cases r;exact ⟨j,rfl,q H' s⟩⟩
theorem aDf (n d:Nat) (o:Option Int):HT.sIx n d o=QJ n d o:=by
 cases o with
 | none=>rfl
 | some v=>
  show (if v<0 then (v+(n:Int)).toNat else min v.toNat n)=(if v<0 then (max (v+(n:Int)) 0).toNat else (min v (n:Int)).toNat);split <;> lia
theorem bQ.cut {P:Addr->Prop} {H:Hp} {xs:List V} {ds:List D} (r:bQ P H xs ds) (lo hi:Option Int):bQ P H (WK xs lo hi) (cutD ds lo hi):=by
 unfold WK cutD;rw [r.length];simp only [aDf];exact (r.drop _).take _
theorem fU {ds:List D}:D.aX ds=true↔∀d∈ds,d.pure=true:=by
 induction ds with
 | nil=>simp [D.aX]
 | cons d ds ih=>rw [D.aX,Bool.and_eq_true,ih];simp
noncomputable def rSl:V->Option Int->Option Int->Hp->VK->Prop:=fun x lo hi H Q=>∃a d,Rep All H x a/\aLb a lo hi=.ok d/\kR H d true Q
theorem aM2 (hK:KFrag.K=X.K):SlR X rSl:=by
 intro pins s σ H x v vl vu lo hi sl Q I rx hs pl pu ⟨a,d,p,e,k⟩;cases a <;> simp only [aLb] at e <;> (try (cases e;done))
 ·split at e
  ·cases e
  ·rename_i hw;cases e;obtain ⟨l,xs,rfl,ee,rr⟩:=p.gD;refine aI3 pins s σ H _ v vl vu lo hi sl Q I rx hs pl pu ⟨l,xs,rfl,.of ee,?_,fun p hp=>?_⟩
   ·simp only [aDf,rr.length];simp only [Bool.not_eq_true',Bool.or_eq_true,not_or,Bool.not_eq_false',decide_eq_true_eq] at hw;exact hw.2
   ·have sp:b_ H (upd H p (.tup (WK xs lo hi))):=b_.upd hp;have hp2:D.aX ‹List D›=true:=by
     simp only [Bool.or_eq_true,not_or,Bool.not_eq_true'] at hw;simpa using hw.1
    exact k _ _ sp (.tup aL ((rr.cut lo hi).same sp)) fun z=>.tup aL (((rr.bK hp2).cut lo hi).same sp)
 ·split at e
  ·rename_i hl;cases e;obtain ⟨l,xs,rfl,ee,rr⟩:=p.jE (K:=X.K);refine WM pins s σ H _ v vl vu lo hi sl Q I rx hs pl pu ⟨l,xs,rfl,ee,fun p hp=>?_⟩;have sp:b_ H (upd H p (.lst (WK xs lo hi))):=b_.upd hp;exact k _ _ sp (.lst aL trivial ((rr.cut lo hi).same sp)) fun z=>.lst aL hp (((rr.bK hl).cut lo hi).same sp)
  ·cases e
 ·split at e
  ·rename_i hl;cases e;cases p with
   | @frz l xs ds ee rr=>
    refine WM pins s σ H _ v vl vu lo hi sl Q I rx hs pl pu ⟨l,xs,rfl,ee.sq hK,fun p hp=>?_⟩;have sp:b_ H (upd H p (.lst (WK xs lo hi))):=b_.upd hp;exact k _ _ sp (.lst aL trivial ((rr.cut lo hi).same sp)) fun z=>.lst aL hp (((rr.bK hl).cut lo hi).same sp)
  ·cases e
end
end Mi
end
section
namespace PySem.Mm
open PySem
section
variable {prog:Program} {w:World} {A:Around} {R:Result->Shared->Prop} {I S:Addr} {fp wr:List Addr} {n:Nat} {P:Nat->Value->Prop} {St:Nat->Heap->Prop} {bt:Nat->Nat->Bool} {Gd:Shared->Prop} {op:CmpOp}
end
section
variable {prog:Program} {w:World} {A:Around} {E:Value->Shared->Prop} {s:Shared} {Q:Value->Shared->Prop}
end
end PySem.Mm
end
section
namespace Mi
open PySem L2 PySem.SeqAt PySem.Spec PyProof.Rows
variable [KFrag]
section
variable {X:Cx} {pins:List (Addr×Obj)} {σ:L2.St} {H:Hp} {s:Shared}
end
section
variable {X:Cx}
end
end Mi
end
section
namespace PySem.Mm
open PySem PyProof.Rows PySem.W
end PySem.Mm
end
section
namespace Mi
open PySem L2 PySem.SeqAt PySem.Spec PyProof.Rows
variable [KFrag]
section
variable {X:Cx} {a b c e:Expr} {es:List Expr} {pos p:Pos} {fa fb fc fe:FE} {ra rb rc re:Bool} {fs:FA} {rr:Bool} {x:Str} {id T:String}
theorem nG {P:Addr->Prop} {H:Hp} {xs:List V} {us:List Value} {d:D} (r:bQ P H xs [d]) (vr:Vals xs us):∃v u,xs=[v]/\us=[u]/\Rep P H v d/\RelV v u:=by
 cases r with
 | cons r t=>
  cases t;cases vr with
  | cons v vt=>
   cases vt;exact ⟨_,_,rfl,rfl,r,v⟩
theorem Q4 {f:List D->Res D} {fr:Bool} {σ:L2.St} {H:Hp} {Q:VK} (h:gE (aV f fs) fr σ H Q):tCB (rs f fr) (gA fs rr) σ H Q:=by
 obtain ⟨ρ,d,E,h,q⟩:=h;obtain ⟨ds,h1,h2⟩:=aR h;exact ⟨ρ,ds,E,h1,fun vs H1 s1 r1 _=>⟨ds,d,r1,h2,q.imp s1 id⟩⟩
theorem cJ {f:List D->Res D} {fr:Bool} (hc:oA X (.builtin id) (rs f fr)) (hg:Gl X x) (hm:X.mg x=none) (hv:bootBuiltins x=some (.builtin id)) (ha:PA X (e::es) (gA fs rr)) (hn:x ≠ "__name__":=by decide) (hdb:nDb x:=by decide)
  (he:starEach (e::es) X.env=(false,eval e X.env)::starEach es X.env:=by rfl) (hpl:(backTo pos (starEach es X.env)).any (·.1)=false:=by rfl):PE X (.Call (.Name x p) (e::es) [] pos) (gE (aV f fs) fr):=
 PE.imp (wR hc hg hm hv ha hn hdb he hpl) fun _ _ _=>Q4
theorem fV {f:List D->Res D} {fr:Bool} (hc:oA X (.type T) (rs f fr)) (hg:Gl X x) (hm:X.mg x=none) (hv:bootBuiltins x=some (.type T)) (ha:PA X (e::es) (gA fs rr)) (hn:x ≠ "__name__":=by decide) (hdb:nDb x:=by decide)
  (he:starEach (e::es) X.env=(false,eval e X.env)::starEach es X.env:=by rfl) (hpl:(backTo pos (starEach es X.env)).any (·.1)=false:=by rfl):PE X (.Call (.Name x p) (e::es) [] pos) (gE (aV f fs) fr):=
 PE.imp (WD hc hg hm hv ha hn hdb he hpl) fun _ _ _=>Q4
theorem gW (hK:KFrag.K=X.K):oA X (.builtin "len") (rs mC true):=by
 intro pins s σ H xs us Q I vr ⟨ds,d,r,e,k⟩;unfold mC at e;split at e
 ·cases e;obtain ⟨vv,uu,rfl,rfl,r,v⟩:=nG r vr;obtain ⟨l,ys,rfl,hl,rr⟩:=r.gD;cases v;exact jL pins s σ H [.ref l] [.ref l] Q I (.cons rfl .nil) ⟨l,ys,rfl,.inr (.of hl),by rw [rr.length];exact k.int⟩
 ·cases e;obtain ⟨vv,uu,rfl,rfl,r,v⟩:=nG r vr;obtain ⟨l,ys,rfl,hl,rr⟩:=r.jE (K:=X.K);cases v;exact jL pins s σ H [.ref l] [.ref l] Q I (.cons rfl .nil) ⟨l,ys,rfl,.inl hl,by rw [rr.length];exact k.int⟩
 ·cases e;obtain ⟨vv,uu,rfl,rfl,r,v⟩:=nG r vr;cases r with
  | @frz l xs ds ee rr=>
   cases v;exact jL pins s σ H [.ref l] [.ref l] Q I (.cons rfl .nil) ⟨l,xs,rfl,.inl (ee.sq hK),by rw [rr.length];exact k.int⟩
 ·cases e;obtain ⟨vv,uu,rfl,rfl,r,v⟩:=nG r vr;cases r with
  | cel ee pp rr=>
   cases v;exact jL pins s σ H [.ref _] [.ref _] Q I (.cons rfl .nil) ⟨_,_,rfl,.inl (.inl (.inl ee)),by rw [rr.length];exact k.int⟩
 ·split at e
  ·rename_i hl;cases e;obtain ⟨vv,uu,rfl,rfl,r,v⟩:=nG r vr;cases r;exact HN pins s σ H _ _ Q I (.cons v .nil) ⟨_,rfl,lA hl,k.int⟩
  ·cases e
 ·cases e
theorem jM:oA X (.type "tuple") (rs eO false):=by
 intro pins s σ H xs us Q I vr ⟨ds,d,r,e,k⟩;unfold eO at e;split at e
 ·cases e;obtain ⟨vv,uu,rfl,rfl,r,v⟩:=nG r vr;obtain ⟨l,ys,rfl,hl',rr⟩:=r.gD;cases v;exact oE pins s σ H [.ref l] [.ref l] Q I (.cons rfl .nil) ⟨l,ys,rfl,.inr ⟨.of hl',k.self (.tup hl' rr) fun z=>by cases z⟩⟩
 ·cases e;obtain ⟨vv,uu,rfl,rfl,r,v⟩:=nG r vr;obtain ⟨l,ys,rfl,hl',rr⟩:=r.jE (K:=X.K);cases v;refine oE pins s σ H [.ref l] [.ref l] Q I (.cons rfl .nil) ⟨l,ys,rfl,.inl ⟨hl',fun p hp=>?_⟩⟩;have sp:b_ H (upd H p (.tup ys)):=b_.upd hp;exact k _ _ sp (.tup aL (rr.same sp)) fun z=>by cases z
 ·cases e
theorem isi {pins:List (Addr×Obj)} {s:Shared} {σ:L2.St} {H:Hp} {v:V} {u:Value} {d:D} {t:Ty} {k:Bool} (I:Inv X pins σ H s) (r:Rep All H v d) (ru:RelV v u) (h:W4 t d=.ok k) {Q:Value->Shared->Prop}
  (q:∀tk,Q (.bool k) {s with toks:=tk}):wpAny (model X.prog X.w) X.A (call (.builtin "isinstance") [u,.type t.nm]) Q X.xe s:=by
 have q0:Q (.bool k) s:=q s.toks;cases r with
 | non=>cases ru;cases t <;> simp only [W4] at h <;> cases h <;> first|exact IsiPair.NoneType_int (q _)|exact IsiPair.NoneType_str (q _)|exact IsiPair.NoneType_bool (q _)|exact IsiPair.NoneType_list (q _)|exact IsiPair.NoneType_tuple (q _)|exact IsiPair.NoneType_dict (q _)
 | bl b=>cases ru;cases t <;> simp only [W4] at h <;> cases h <;> first|exact IsiPair.bool_int q0|exact IsiPair.bool_str (q _)|exact IsiPair.bool_bool q0|exact IsiPair.bool_list (q _)|exact IsiPair.bool_tuple (q _)|exact IsiPair.bool_dict (q _)
 | int b=>obtain ⟨tt,rfl⟩:=ru;cases t <;> simp only [W4] at h <;> cases h <;> first|exact IsiPair.int_int q0|exact IsiPair.int_str (q _)|exact IsiPair.int_bool (q _)|exact IsiPair.int_list (q _)|exact IsiPair.int_tuple (q _)|exact IsiPair.int_dict (q _)
 | str b=>obtain ⟨tt,rfl⟩:=ru;cases t <;> simp only [W4] at h <;> cases h <;> first|exact IsiPair.str_int (q _)|exact IsiPair.str_str q0|exact IsiPair.str_bool (q _)|exact IsiPair.str_list (q _)|exact IsiPair.str_tuple (q _)|exact IsiPair.str_dict (q _)
 | tup e rr=>
  cases ru;obtain ⟨its,vr,o,ho,hc,_⟩:=nF I e;cases t <;> simp only [W4] at h <;> cases h <;> first|exact IsiPair.tuple_int ho hc (q _)|exact IsiPair.tuple_str ho hc (q _)|exact IsiPair.tuple_bool ho hc (q _)|exact IsiPair.tuple_list ho hc (q _)|exact IsiPair.tuple_tuple ho hc q0|exact IsiPair.tuple_dict ho hc (q _)
 | lst e p rr=>
  cases ru;obtain ⟨its,vr,o,ho,hc,_⟩:=lR I (.of e);cases t <;> simp only [W4] at h <;> cases h <;> first|exact IsiPair.list_int ho hc (q _)|exact IsiPair.list_str ho hc (q _)|exact IsiPair.list_bool ho hc (q _)|exact IsiPair.list_list ho hc q0|exact IsiPair.list_tuple ho hc (q _)|exact IsiPair.list_dict ho hc (q _)
 | frz e rr=>cases t <;> cases h
 | fdK e rr n=>cases t <;> cases h
 | fdT e rr n=>cases t <;> cases h
 | exc n e q=>cases t <;> cases h
 | cel e p rr=>cases t <;> cases h
 | dK e p rr n=>
  cases ru;obtain ⟨_,_,_,_,o,_,_,ho,hx,_⟩:=WQ I.hok e;have hc:=hx.1;cases t <;> simp only [W4] at h <;> cases h <;> first|exact IsiPair.dict_int ho hc (q _)|exact IsiPair.dict_str ho hc (q _)|exact IsiPair.dict_bool ho hc (q _)|exact IsiPair.dict_list ho hc (q _)|exact IsiPair.dict_tuple ho hc (q _)|exact IsiPair.dict_dict ho hc q0
 | dT e p rr n=>
  cases ru;obtain ⟨_,_,_,_,o,_,_,ho,hx,_⟩:=aEy I.hok e;have hc:=hx.1;cases t <;> simp only [W4] at h <;> cases h <;> first|exact IsiPair.dict_int ho hc (q _)|exact IsiPair.dict_str ho hc (q _)|exact IsiPair.dict_bool ho hc (q _)|exact IsiPair.dict_list ho hc (q _)|exact IsiPair.dict_tuple ho hc (q _)|exact IsiPair.dict_dict ho hc q0
noncomputable def aO1 (t:Ty):List V->Hp->VK->Prop:=fun xs H Q=>∃v d k,xs=[v,.ty t.nm]/\Rep All H v d/\W4 t d=.ok k/\Q (.bl k) H
theorem aIm (t:Ty):oA X (.builtin "isinstance") (aO1 t):=by
 intro pins s σ H xs us Q I vr ⟨v,d,k,e,r,h,q⟩;subst e;cases vr with
 | cons rv vt=>
  cases vt with
  | cons rt vt=>
   cases vt;cases rt;exact isi I r rv h fun tk=>⟨.bl k,H,I.tok tk,rfl,q⟩
theorem Q5 (t:Ty) {y:Str} {p2:Pos} (ha:PE X a (gE fa ra)) (hg:Gl X "isinstance") (hm:X.mg "isinstance" = none) (hv:bootBuiltins "isinstance" = some (.builtin "isinstance")) (gy:Gl X y) (my:X.mg y=none) (vy:bootBuiltins y=some (.type t.nm))
  (hy:y ≠ "__name__":=by decide) (hyd:(y==("__debug__" : Str))=false:=by decide)
  (he:starEach [a,.Name y p2] X.env=(false,eval a X.env)::starEach [.Name y p2] X.env:=by rfl) (he2:starEach [.Name y p2] X.env=(false,eval (.Name y p2) X.env)::starEach [] X.env:=by rfl)
  (hpl:(backTo pos (starEach [.Name y p2] X.env)).any (·.1)=false:=by rfl):PE X (.Call (.Name "isinstance" p) [a,.Name y p2] [] pos) (gE (b1 (UG t) fa) true):=
 PE.imp (wR (aIm t) hg hm hv (bI ha (bI (V4 gy my vy (v:=.ty t.nm) rfl hy hyd) iJ he2) he) (by decide) (by decide) he hpl) fun σ H Q ⟨ρ,d,E,h,q⟩=>by
  obtain ⟨x,h1,h⟩:=aR h;obtain ⟨k,h2,h⟩:=aR h;cases h;exact ⟨ρ,x,E,h1,fun v H1 s1 r1 _=>⟨v,x,k,rfl,r1,h2,(q.imp s1 id).bl⟩⟩
theorem aM3 {o:Expr} {fo:FE} {ro fr:Bool} {name:Str} {apos cpos:Pos} {f:D->List D->Res D} (pa:PlainAttrs T) (slot:Slot T name id) (hty:typeOf (.builtin id)=pure (.type "method_descriptor")) (hm:MtR X id (rm f fr)) (ho:PE X o (gE fo ro)) (ha:PA X (e::es) (gA fs rr))
  (hT:∀(d:D) (ds:List D) (r:D) (v:V) (H:Hp),f d ds=.ok r->Rep All H v d->tyV X.K T v H)
  (hbase:attributeBase o name X.env (eval o X.env)=eval o X.env:=by rfl)
  (hfew:((backTo cpos (starEach (e::es) X.env)).all (fun x=>!x.1)&&(backToKw cpos (keywordEach [] X.env)).all (fun x=>x.1.isSome)
   && decide ((e::es).length+([]:List Keyword).length+(if ([]:List Keyword).isEmpty then 0 else 1)<30))=true:=by rfl)
  (hline:(apos.endLine==cpos.line)=true:=by rfl) (hs:starEach (e::es) X.env=(false,eval e X.env)::starEach es X.env:=by rfl) (hplain:(backTo cpos (starEach es X.env)).any (·.1)=false:=by rfl) :
  PE X (.Call (.Attribute o name apos) (e::es) [] cpos) (gE (bM f fo fs) fr):=
 PE.imp (aEv pa slot hty hm ho ha hbase hfew hline hs hplain) fun σ H Q ⟨ρ,d,E,h,q⟩=>by
  obtain ⟨x,h1,h⟩:=aR h;obtain ⟨ds,h2,h⟩:=aR h;exact ⟨ρ,x,E,h1,fun v H1 s1 r1 _=>⟨hT x ds d v H1 h r1,ρ,ds,E.same s1,h2,fun vs H2 s2 r2 _=>⟨x,ds,d,r1.same s2,r2,h,q.imp (s1.trans s2) fun z=>z⟩⟩⟩
noncomputable def spD (f:List D->Res D) (n:Nat):Sp:=fun vs H Q _=>∃ds d,ds.length=n/\bQ All H vs ds/\f ds=.ok d/\kR H d true Q
theorem aFe {f:List D->Res D} {n:Nat} {vs:List V} {H:Hp} {Q:VK} {E:XK} (h:spD f n vs H Q E):vs.length=n:=by
 obtain ⟨ds,d,h1,r,_⟩:=h;rw [r.length,h1]
theorem aFf {k:Nat} {fad:Addr} {fd:FuncData} {ps:List Str} {f:List D->Res D} {n:Nat} (F:o7 X.prog X.w X.K X.mg X.base CX0 k fad fd ps (spD f n)) (hr:jX k X.A) (hg:Gl X x) (hm:X.mg x=some (.ref fad)) (hk:PySem.W.keepIn X.K (.ref fad)=true) (hb:Binds X.K fd ps [])
  (ha:PA X (e::es) (gA fs rr)) (hdb:nDb x:=by decide) (he:starEach (e::es) X.env=(false,eval e X.env)::starEach es X.env:=by rfl) (hpl:(backTo pos (starEach es X.env)).any (·.1)=false:=by rfl) :
  PE X (.Call (.Name x p) (e::es) [] pos) (gE (aV (iK n f) fs) true):=
 PE.imp (A_ F hr hg hm hk hb .nil aF3 ha hdb he hpl) fun σ H Q ⟨ρ,d,E,h,q⟩=>by
  obtain ⟨ds,h1,h⟩:=aR h;unfold iK at h;split at h
  ·rename_i hl;exact ⟨ρ,ds,E,h1,fun vs H1 s1 r1 _=>⟨ds,d,of_decide_eq_true hl,by rw [List.append_nil];exact r1,h,q.imp s1 id⟩⟩
  ·cases h
end
end Mi
end
section
namespace Mi
open PySem L2 PySem.SeqAt PySem.Spec PyProof.Rows
def JB (x:Str):List D:=x.cps.toList.map fun c=>D.str ⟨#[c]⟩
def X3 (xs:List D):List D:=xs.zipIdx.map fun p=>.tup [.int p.2,p.1]
def VR (xs ys:List D):List D:=(xs.zip ys).map fun p=>.tup [p.1,p.2]
noncomputable def aBc (m:Nat) (xs:List D):List D:=xs.zipIdx.map fun p=>.tup [.int ((m+p.2:Nat):Int),p.1]
variable [KFrag]
noncomputable def aM4 (x:Str):It:=⟨fun i _=>i<x.cps.size,fun i H v H'=>H'=H/\∃c,x.cps[i]?=some c/\v=.str ⟨#[c]⟩,fun i _=>x.cps.size<=i⟩
noncomputable def Ite (K:PySem.W.Frag) (a:Addr):It:=
 ⟨fun i H=>∃xs x,SqL K H a xs/\xs[i]?=some x,fun i H v H'=>∃t x,(∀xs,SqL K H a xs->xs[i]?=some x)/\v=.ref t/\H t=none/\H'=upd H t (.tup [.int i,x]),fun i H=>∃xs,SqL K H a xs/\xs.length<=i⟩
noncomputable def aO2 (K:PySem.W.Frag) (m:Nat) (a:Addr):It:=
 ⟨fun i H=>∃xs x,SqL K H a xs/\xs[i]?=some x,fun i H v H'=>∃t x,(∀xs,SqL K H a xs->xs[i]?=some x)/\v=.ref t/\H t=none/\H'=upd H t (.tup [.int ((m+i:Nat):Int),x]),fun i H=>∃xs,SqL K H a xs/\xs.length<=i⟩
noncomputable def Itz (a b:Addr):It :=
  ⟨fun i H => ∃xs ys x y, H a=some (.tup xs) /\ H b=some (.tup ys) /\ xs[i]?=some x /\ ys[i]?=some y, fun i H v H' => ∃t x y, (∀xs, H a=some (.tup xs) -> xs[i]?=some x) /\ (∀ys, H b=some (.tup ys) -> ys[i]?=some y) /\ v=.ref t /\ H t=none /\ H'=upd H t (.tup [x, y]),
   fun i H => ∃xs ys, H a=some (.tup xs) /\ H b=some (.tup ys) /\ ys.length=xs.length /\ xs.length <= i⟩
theorem aBd {m:Nat} {xs:List D} {i:Nat}:(aBc m xs)[i]?=(xs[i]?).map fun d=>.tup [.int ((m+i:Nat):Int),d]:=by
 unfold aBc;rw [List.getElem?_map,List.getElem?_zipIdx,Nat.zero_add];cases xs[i]? <;> rfl
theorem aBe {xs:List D} {i:Nat}:(X3 xs)[i]?=(xs[i]?).map fun d=>.tup [.int i,d]:=by
 unfold X3;rw [List.getElem?_map,List.getElem?_zipIdx,Nat.zero_add];cases xs[i]? <;> rfl
theorem X4 (xs:List D):(X3 xs).length=xs.length:=by simp [X3]
inductive ItQ (K:PySem.W.Frag) (P:Addr->Prop) (J:It) (H:Hp) (items:List D):Prop
 | lst (a:Addr) (e:J=Itl K a) (r:Rep P H (.ref a) (.lst items))
 | tup (a:Addr) (e:J=Itt K a) (r:Rep P H (.ref a) (.tup items))
 | rng (lo:Int) (n:Nat) (e:J=Itr lo n) (r:items=(List.range n).map fun (k:Nat)=>D.int (lo+k))
 | chs (x:Str) (e:J=aM4 x) (r:items=JB x)
 | enm (a:Addr) (ds:List D) (e:J=Ite K a) (r:Rep P H (.ref a) (.lst ds)) (h:items=X3 ds)
 | enf (m:Nat) (a:Addr) (ds:List D) (e:J=aO2 K m a) (r:Rep P H (.ref a) (.lst ds)) (h:items=aBc m ds)
 | scr (a:Addr) (hK:KFrag.K=K) (e:J=Itl K a) (r:Rep P H (.ref a) (.scr items))
 | zip (a b:Addr) (ds es:List D) (e:J=Itz a b) (r:Rep P H (.ref a) (.tup ds)) (q:Rep P H (.ref b) (.tup es)) (n:es.length=ds.length) (h:items=VR ds es)
theorem ItQ.keep {K:PySem.W.Frag} {P P':Addr->Prop} {J:It} {H H':Hp} {items:List D} (h:ItQ K P J H items) (k:aAr P H H') (m:∀a,P a->P' a):ItQ K P' J H' items:=by
 cases h with
 | lst a e r=>exact .lst a e (r.keep k m)
 | tup a e r=>exact .tup a e (r.keep k m)
 | rng lo n e r=>exact .rng lo n e r
 | chs x e r=>exact .chs x e r
 | enm a ds e r h=>exact .enm a ds e (r.keep k m) h
 | enf m' a ds e r h=>exact .enf m' a ds e (r.keep k m) h
 | zip a b ds es e r q n h=>exact .zip a b ds es e (r.keep k m) (q.keep k m) n h
 | scr a hK e r=>exact .scr a hK e (r.keep k m)
theorem ItQ.stop {K:PySem.W.Frag} {P:Addr->Prop} {J:It} {H:Hp} {items:List D} {i:Nat} (h:ItQ K P J H items) (hi:items.length<=i):J.stop i H:=by
 cases h with
 | lst a e r=>
  subst e;obtain ⟨a',xs,e,hq,rr⟩:=r.jE (K:=K);cases e;exact ⟨xs,hq,by rw [rr.length];exact hi⟩
 | tup a e r=>
  subst e;obtain ⟨a',xs,e,hq,rr⟩:=r.gD;cases e;exact ⟨xs,.of hq,by rw [rr.length];exact hi⟩
 | rng lo n e r=>
  subst e r;show n<=i;simpa using hi
 | chs x e r=>
  subst e r;show x.cps.size<=i;simpa [JB] using hi
 | enm a ds e r h=>
  subst e h;obtain ⟨a',xs,e,hq,rr⟩:=r.jE (K:=K);cases e;exact ⟨xs,hq,by rw [rr.length,<-X4];exact hi⟩
 | enf m a ds e r h=>
  subst e h;obtain ⟨a',xs,e,hq,rr⟩:=r.jE (K:=K);cases e;exact ⟨xs,hq,by rw [rr.length];simpa [aBc] using hi⟩
 | zip a b ds es e r q n h=>
  subst e h;obtain ⟨a',xs,e,hq,rr⟩:=r.gD;cases e;obtain ⟨b',ys,e,hq2,rr2⟩:=q.gD;cases e;have:(VR ds es).length=ds.length:=by simp [VR,n]
  exact ⟨xs,ys,hq,hq2,by rw [rr.length,rr2.length];exact n,by rw [rr.length];lia⟩
 | scr a hK e r=>
  subst e;cases r with
  | frz ee rr=>exact ⟨_,ee.sq hK,by rw [rr.length];exact hi⟩
theorem ItQ.go {K:PySem.W.Frag} {P:Addr->Prop} {J:It} {H:Hp} {items:List D} {i:Nat} {d:D} (h:ItQ K P J H items) (hi:items[i]?=some d):J.go i H/\∀x H',J.yld i H x H'->b_ H H'/\Rep P H' x d:=by
 cases h with
 | lst a e r=>
  subst e;obtain ⟨a',xs,e,hq,rr⟩:=r.jE (K:=K);cases e;obtain ⟨v,h1,h2⟩:=rr.get hi;refine ⟨⟨xs,v,hq,h1⟩,fun x H' ⟨e,hy⟩=>?_⟩;subst e;refine ⟨b_.refl _,?_⟩;have:=hy xs hq;rw [h1] at this;cases this;exact h2
 | tup a e r=>
  subst e;obtain ⟨a',xs,e,hq,rr⟩:=r.gD;cases e;obtain ⟨v,h1,h2⟩:=rr.get hi;refine ⟨⟨xs,v,.of hq,h1⟩,fun x H' ⟨e,hy⟩=>?_⟩;subst e;refine ⟨b_.refl _,?_⟩;have:=hy xs (.of hq);rw [h1] at this;cases this;exact h2
 | rng lo n e r=>
  subst e r;have hlt:i<n:=by
   have:=(List.getElem?_eq_some_iff.mp hi).1;simpa using this
  refine ⟨hlt,fun x H' ⟨e,hy⟩=>?_⟩;subst e;have e2:D.int (lo+(i:Int))=d:=by simpa [hlt] using hi
  rw [hy,<-e2];exact ⟨b_.refl _,.int _⟩
 | chs z e r=>
  subst e r;have hlt:i<z.cps.size:=by
   have:=(List.getElem?_eq_some_iff.mp hi).1;simpa [JB] using this
  refine ⟨hlt,fun x H' ⟨e,c,hc,hv⟩=>?_⟩;subst e hv;refine ⟨b_.refl _,?_⟩;have e2:D.str ⟨#[c]⟩=d:=by
   unfold JB at hi;rw [List.getElem?_map,Array.getElem?_toList,hc] at hi;simpa using hi
  rw [<-e2];exact .str _
 | enm a ds e r h=>
  subst e h;obtain ⟨a',xs,e,hq,rr⟩:=r.jE (K:=K);cases e;rw [aBe] at hi;cases hd:ds[i]? with
  | none=>rw [hd] at hi;cases hi
  | some y=>
   rw [hd] at hi;cases hi;obtain ⟨v,h1,h2⟩:=rr.get hd;refine ⟨⟨xs,v,hq,h1⟩,fun x H' ⟨t,u,hy,e1,e2,e3⟩=>?_⟩;subst e1 e3;have:=hy xs hq;rw [h1] at this;cases this;have sp:b_ H (upd H t (.tup [.int i,v])):=b_.upd e2;exact ⟨sp,.tup aL (.cons (.int _) (.cons (h2.same sp) .nil))⟩
 | enf m a ds e r h=>
  subst e h;obtain ⟨a',xs,e,hq,rr⟩:=r.jE (K:=K);cases e;rw [aBd] at hi;obtain ⟨y,hd,rfl⟩:=Option.map_eq_some_iff.mp hi;obtain ⟨v,h1,h2⟩:=rr.get hd;refine ⟨⟨xs,v,hq,h1⟩,fun x H' ⟨t,u,hy,e1,e2,e3⟩=>?_⟩;subst e1 e3;have:=hy xs hq;rw [h1] at this;cases this;have sp:b_ H (upd H t (.tup [.int ((m+i:Nat):Int),v])):=b_.upd e2;exact ⟨sp,.tup aL (.cons (.int _) (.cons (h2.same sp) .nil))⟩
 | zip a b ds es e r q n h=>
  subst e h;obtain ⟨a',xs,e,hq,rr⟩:=r.gD;cases e;obtain ⟨b',ys,e,hq2,rr2⟩:=q.gD;cases e;unfold VR at hi;rw [List.getElem?_map] at hi;obtain ⟨⟨x,y⟩,hd,rfl⟩:=Option.map_eq_some_iff.mp hi;rw [List.getElem?_zip_eq_some] at hd;obtain ⟨v,h1,h2⟩:=rr.get hd.1;obtain ⟨v',h3,h4⟩:=rr2.get hd.2;refine ⟨⟨xs,ys,v,v',hq,hq2,h1,h3⟩,fun x H' ⟨t,u,u',hy,hy',e1,e2,e3⟩=>?_⟩;subst e1 e3;have z:=hy xs hq;rw [h1] at z;cases z;have z:=hy' ys hq2;rw [h3] at z;cases z;have sp:b_ H (upd H t (.tup [v,v'])):=b_.upd e2;exact ⟨sp,.tup aL (.cons (h2.same sp) (.cons (h4.same sp) .nil))⟩
 | scr a hK e r=>
  subst e;cases r with
  | @frz _ xs _ ee rr=>
   obtain ⟨v,h1,h2⟩:=rr.get hi;refine ⟨⟨xs,v,ee.sq hK,h1⟩,fun x H' ⟨e,hy⟩=>?_⟩;subst e;refine ⟨b_.refl _,?_⟩;have:=hy xs (ee.sq hK);rw [h1] at this;cases this;exact h2
noncomputable def gI (K:PySem.W.Frag) (f:FI):TI:=fun σ H R=>∃ρ items k,ER H σ ρ/\f ρ=.ok (items,k)/\∀J H1,b_ H H1->ItQ K All J H1 items->(k=true->ItQ K (New H) J H1 items)->R J H1
noncomputable def gIV (K:PySem.W.Frag) (i:Nat):TI:=fun σ H R=>∃v d items,σ[i]?=some (some v)/\Rep All H v d/\mK d=.ok items/\∀J,(∀P:Addr->Prop,Rep P H v d->ItQ K P J H items)->R J H
section
variable {X:Cx} {tg l a b:Expr} {fl fa:FE} {rl ra rr:Bool} {fs:FA} {p pos:Pos}
theorem BX {pins:List (Addr×Obj)} {s1:Shared} {σ:L2.St} {H1:Hp} {R:It->Hp->Prop} {v:V} {u:Value} {d:D} {items:List D} (I1:Inv X pins σ H1 s1) (r:Rep All H1 v d) (ru:RelV v u) (hi:mK d=.ok items)
  (q:∀J,(∀P:Addr->Prop,Rep P H1 v d->ItQ X.K P J H1 items)->R J H1):wpAny (model X.prog X.w) X.A (pyIter u) (PIE X pins σ tg R) X.xe s1:=by
 cases d <;> simp only [mK] at hi <;> cases hi
 ·obtain ⟨a,xs,rfl,e,rr⟩:=r.gD;cases ru;obtain ⟨its,rv,p,hz⟩:=I1.tuple (.of e);refine wpAny_pyIter_tuple (show s1.heap.IsTuple a its.toArray from p) ?_;refine ⟨s1.heap.objs.size,[s1.heap.objs.size],_,_,H1,rfl,I1.kept (t':=s1.toks) fun b o e=>Heap.get?_push_of_some _ e,S_ a _,⟨_,Heap.get?_push_size _ rfl,rfl,rfl⟩,fun b hb=>?_,q _ fun P r=>.tup a rfl r⟩;have e:b=s1.heap.objs.size:=by simpa using hb
  subst e;exact I1.aHs (Nat.le_refl _) (I1.hok.fresh (Nat.le_refl _))
 ·obtain ⟨a,xs,rfl,e,rr⟩:=r.jE (K:=X.K);cases ru;obtain ⟨its,rv,p,hz⟩:=I1.list e;refine wpAny_pyIter_list p.isList ?_;refine ⟨s1.heap.objs.size,[s1.heap.objs.size],_,_,H1,rfl,I1.kept (t':=s1.toks) fun b o e=>Heap.get?_push_of_some _ e,V7 a _,⟨_,Heap.get?_push_size _ rfl,rfl,rfl⟩,fun b hb=>?_,q _ fun P r=>.lst a rfl r⟩;have e:b=s1.heap.objs.size:=by simpa using hb
  subst e;exact I1.aHs (Nat.le_refl _) (I1.hok.fresh (Nat.le_refl _))
theorem aDg {i:Nat} {x:Str} (hN:X.N[i]?=some x) (hv:Vis X.env.scope x) (hd:nDb x:=by decide) (hcd:nCd x:=by decide):PI X tg (.Name x pos) (gIV X.K i):=by
 intro pins s σ H R I ⟨v,d,items,hσ,r,hi,q⟩;exact thn (bW hN hv hd hcd pins s σ H (fun w H1=>w=v/\H1=H) I ⟨v,hσ,rfl,rfl⟩) fun u s1 ⟨w,H1,I1,ru,e1,e2⟩=>by
  subst e1 e2;exact BX I1 r ru hi q
theorem zQ {i:Int} (h:nO i=true):-(2 ^ 62)<=i/\i<2 ^ 62:=by
 simp only [nO,Bool.and_eq_true,decide_eq_true_eq] at h;exact h
theorem PI.imp {w w':TI} (h:PI X tg l w) (i:∀σ H R,w' σ H R->w σ H R):PI X tg l w':=fun pins s σ H R I q=>h pins s σ H R I (i σ H R q)
theorem mL (hg:Gl X "range") (hm:X.mg "range" = none) (ha:PA X [a] (gA fs rr)) (hs:starEach [a] X.env=[(false,eval a X.env)]:=by rfl):PI X tg (.Call (.Name "range" p) [a] [] pos) (gI X.K (jC fs iM)):=
 PI.imp (G8 hg hm ha hs) fun σ H R ⟨ρ,items,k,E,h,q⟩=>by
  obtain ⟨xs,h1,h⟩:=aR h;unfold iM at h;split at h
  ·split at h
   ·rename_i hb;cases h;obtain ⟨b1,b2⟩:=zQ hb;refine ⟨ρ,_,E,h1,fun vs H1 s1 r1 _=>?_⟩;cases r1 with
    | cons r t=>
     cases t;cases r;exact ⟨_,rfl,b1,b2,q _ H1 s1 (.rng 0 _ rfl rfl) fun _=>.rng 0 _ rfl rfl⟩
   ·cases h
  ·cases h
end
theorem aBf (n:Nat) (ρ bs:List D) (i:Nat) (h:i<n):(M7 n ρ++bs).getD i .uD=ρ.getD i .uD:=by
 rw [List.getD_eq_getElem?_getD,List.getElem?_append_left (by simp [M7];exact h)];simp [M7,h]
theorem Q6 (n:Nat) (ρ:List D):(M7 n ρ).length=n:=by simp [M7]
noncomputable def TgC (g:TG) (t:D->Res (List D)) (n m:Nat):Prop:=∀(v:V) (d:D) (bs:List D) (σ:L2.St) (H:Hp) (Q:L2.St->Hp->Prop),σ.length=n->Rep All H v d->t d=.ok bs->
 (∀σ2,Ext (σ++List.replicate m none) σ2->(∀j b,bs[j]?=some b->∃w,σ2[n+j]?=some (some w)/\Rep All H w b)->Q σ2 H)->g v (σ++List.replicate m none) H Q
theorem ER.ext {H:Hp} {σ σ2:L2.St} {ρ bs:List D} {n m:Nat} (E:ER H σ ρ) (hn:σ.length=n) (x:Ext (σ++List.replicate m none) σ2) (hb:∀j b,bs[j]?=some b->∃w,σ2[n+j]?=some (some w)/\Rep All H w b):ER H σ2 (M7 n ρ++bs):=by
 intro i hi;by_cases h:i<n
 ·rw [aBf n ρ bs i h] at hi ⊢;obtain ⟨v,h1,h2⟩:=E i hi;exact ⟨v,x.2 i v (by rw [List.getElem?_append_left (by rw [hn];exact h)];exact h1),h2⟩
 ·have e:(M7 n ρ++bs).getD i .uD=bs.getD (i-n) .uD:=by
   rw [List.getD_eq_getElem?_getD,List.getElem?_append_right (by rw [Q6];lia),Q6,<-List.getD_eq_getElem?_getD]
  rw [e] at hi ⊢;cases hq:bs[i-n]? with
  | none=>rw [List.getD_eq_getElem?_getD,hq] at hi;exact absurd rfl hi
  | some b=>
   obtain ⟨w,h1,h2⟩:=hb (i-n) b hq;rw [List.getD_eq_getElem?_getD,hq];exact ⟨w,by rw [<-h1];congr 1;lia,h2⟩
theorem oN {K:PySem.W.Frag} {it:FI} {t:D->Res (List D)} {c:FT} {f:FE} {k:Bool} {n m:Nat} {g:TG} {tc:TT} (tg:TgC g t n m) (hc:∀σ H Q,gT c σ H Q->tc σ H Q) {σ:L2.St} {H:Hp} {Q:VK} (hn:σ.length=n) (h:gE (cN n it t c f k) true σ H Q) :
  IV (gI K it) g tc (gE f k) m σ H Q:=by
 obtain ⟨ρ,d,E,h,q⟩:=h;obtain ⟨⟨items,kk⟩,h1,h⟩:=aR h;split at h
 ·rename_i hlim;obtain ⟨ys,h2,h⟩:=aR h;cases h;refine ⟨ρ,items,kk,E,h1,fun J H1 s1 hJ _ p hp=>?_⟩;have hp0:H p=none:=s1.free hp;refine ⟨fun i n' vs H'=>n'=items.length-i/\i<=items.length/\H' p=some (.lst vs)/\b_ H1 H'/\∃acc,acc.length<=i/\bQ (fun a=>H a=none/\a≠p) H' vs acc/\k_ (p_ n t c f k ρ) acc (items.drop i)=.ok ys,⟨items.length,?_⟩,?_⟩
  ·exact ⟨rfl,Nat.zero_le _,aL,b_.upd hp,[],Nat.zero_le _,.nil,h2⟩
  ·rintro i n' vs H' ⟨rfl,hi,hH,sm,acc,hal,racc,hf⟩;refine ⟨hH,?_⟩;have hJ':ItQ K All J H' items:=hJ.keep (.same sm) fun _ z=>z
   rcases Nat.lt_or_ge i items.length with hlt|hge
   ·refine .inr ?_;have e:items[i]?=some items[i]:=List.getElem?_eq_getElem hlt;obtain ⟨g1,g2⟩:=hJ'.go e;have hl1:items.length<=lim:=of_decide_eq_true hlim;refine ⟨g1,?_,fun x H2 hy=>?_⟩
    ·rw [racc.length];exact Nat.lt_of_le_of_lt hal (Nat.lt_of_lt_of_le hlt (Nat.le_trans hl1 (by rw [sizeLine_eq];decide)))
    ·obtain ⟨sH,rx⟩:=g2 x H2 hy;have hH:=sH p _ hH;have sm:=sm.trans sH;have racc:=racc.same sH;rw [List.drop_eq_getElem_cons hlt] at hf;obtain ⟨acc2,hs,hf⟩:=aR hf;obtain ⟨bs,hb,hs⟩:=aR hs;obtain ⟨ok,hok,hs⟩:=aR hs;refine tg x items[i] bs σ H2 _ hn rx hb fun σ2 hx hbs=>⟨hx,hc _ _ _ ?_⟩
     have E2:ER H2 σ2 (M7 n ρ++bs):=(E.same (s1.trans sm)).ext hn hx hbs;refine ⟨_,ok,E2,hok,fun H4 s4=>?_⟩;cases ok with
     | true=>
      rw [if_pos rfl];rw [if_pos rfl] at hs;obtain ⟨y,hy2,hs⟩:=aR hs;split at hs
      ·rename_i hk;cases hs;refine ⟨_,y,E2.same s4,hy2,fun w H5 s5 r5 n5=>⟨s5 p _ (s4 p _ hH),items.length-(i+1),by lia,rfl,hlt,aL,?_,acc++[y],?_,?_,hf⟩⟩
       ·exact fun b o e=>by
         rw [bB (bT e hp)];exact s5 b o (s4 b o (sm b o e))
       ·rw [List.length_append,List.length_singleton];lia
       ·have hp5:H5 p=some (.lst vs):=s5 p _ (s4 p _ hH);have ry:Rep (fun a=>H a=none/\a≠p) H5 w y:=by
         rw [Bool.or_eq_true] at hk;rcases hk with hk|hk
         ·exact (n5 hk).mono fun a ha=>⟨((s1.trans sm).trans s4).free ha,fun z=>by subst z;have h0:=s4 _ _ hH;rw [show H4 _=none from ha] at h0;cases h0⟩
         ·exact r5.bK hk
        have all:bQ (fun a=>H a=none/\a≠p) H5 (vs++[w]) (acc++[y]):=(racc.same (s4.trans s5)).snoc ry;refine all.keep (fun b o e hb=>?_) fun _ z=>z
        rw [bB]
        ·exact e
        ·rcases hb with hb|hb
         ·exact hb.2
         ·intro z;subst z;rw [hp5] at e;cases e;cases hb
      ·cases hs
     | false=>
      rw [if_neg (by simp)];rw [if_neg (by simp)] at hs;cases hs;exact ⟨items.length-(i+1),by lia,rfl,hlt,s4 p _ hH,sm.trans s4,acc,by lia,racc.same s4,hf⟩
   ·refine .inl ⟨hJ'.stop hge,?_⟩;rw [List.drop_eq_nil_of_le hge] at hf;cases hf;exact q _ _ (s1.trans sm) (.lst hH trivial racc.all) fun _=>.lst hH hp0 (racc.mono fun a z=>z.1)
 ·cases h
noncomputable def gIx:List Nat->TGs
 | []=>aMw
 | i::is=>aHq (o9 i) (gIx is)
noncomputable def mO:List Nat->List V->L2.St->L2.St
 | i::is,v::vs,σ=>mO is vs (σ.set i (some v))
 | _,_,σ=>σ
theorem BZ {H:Hp} {Q:L2.St->Hp->Prop}:∀(is:List Nat) (vs:List V) (σ:L2.St),vs.length=is.length->Q (mO is vs σ) H->gIx is vs σ H Q
 | [],[],σ,_,q=>⟨rfl,q⟩
 | i::is,v::vs,σ,h,q=>⟨v,vs,rfl,BZ is vs (σ.set i (some v)) (by simpa using h) q⟩
 | [],_::_,_,h,_=>by simp at h
 | _::_,[],_,h,_=>by simp at h
theorem JC:∀(is:List Nat) (vs:List V) (σ:L2.St),(mO is vs σ).length=σ.length
 | [],_,_=>by simp [mO]
 | _::_,[],_=>by simp [mO]
 | i::is,v::vs,σ=>by rw [mO,JC is vs];simp
theorem xN:∀(is:List Nat) (vs:List V) (σ:L2.St) (k:Nat),k∉is->(mO is vs σ)[k]?=σ[k]?
 | [],_,_,_,_=>by simp [mO]
 | _::_,[],_,_,_=>by simp [mO]
 | i::is,v::vs,σ,k,h=>by
  rw [List.mem_cons,not_or] at h;rw [mO,xN is vs _ k h.2,List.getElem?_set_ne (Ne.symm h.1)]
theorem Q7:∀(is:List Nat) (vs:List V) (σ:L2.St) (j i:Nat) (v:V),is.Nodup->(∀i∈is,i<σ.length)->is[j]?=some i->vs[j]?=some v->(mO is vs σ)[i]?=some (some v)
 | [],_,_,_,_,_,_,_,h,_=>by simp at h
 | _::_,[],_,_,_,_,_,_,_,h=>by simp at h
 | a::is,w::vs,σ,0,i,v,hn,hl,h1,h2=>by
  have e1:a=i:=by simpa using h1
  have e2:w=v:=by simpa using h2
  subst e1 e2;rw [mO,xN is vs _ a (List.nodup_cons.mp hn).1,List.getElem?_set_self (hl a (List.mem_cons_self ..))]
 | a::is,w::vs,σ,j+1,i,v,hn,hl,h1,h2=>by
  rw [mO];exact Q7 is vs _ j i v (List.nodup_cons.mp hn).2 (fun i hi=>by rw [List.length_set];exact hl i (List.mem_cons_of_mem _ hi)) (by simpa using h1) (by simpa using h2)
theorem gJ (n:Nat):TgC (o9 n) nC n 1:=by
 intro v d bs σ H Q hn r h q;cases h;have hl:(σ++List.replicate 1 (none:Option V)).length=n+1:=by simp [hn]
 refine q _ ⟨by simp,fun i w hi=>?_⟩ fun j b hj=>?_
 ·have:i≠n:=fun z=>by
   subst z;rw [List.getElem?_append_right (by lia)] at hi;simp [hn] at hi
  rw [List.getElem?_set_ne (Ne.symm this)];exact hi
 ·have e:j=0:=by
   have:=(List.getElem?_eq_some_iff.mp hj).1;simp at this;exact this
  subst e;have e:d=b:=by simpa using hj
  subst e;exact ⟨v,by rw [Nat.add_zero,List.getElem?_set_self (by lia)],r⟩
theorem X5 (K:PySem.W.Frag) (n m:Nat):TgC (aLl K m (gIx (List.range' n m))) (W8 m) n m:=by
 intro v d bs σ H Q hn r h q;cases d <;> simp only [W8] at h <;> (try (cases h;done))
 split at h
 ·rename_i hm;cases h;have hm':=of_decide_eq_true hm;obtain ⟨a,xs,rfl,e,rr⟩:=r.gD;refine ⟨a,xs,rfl,.of e,by rw [rr.length];exact hm',BZ _ _ _ (by rw [rr.length,hm'];simp) ?_⟩;refine q _ ⟨by rw [JC],fun i w hi=>?_⟩ fun j b hj=>?_
  ·rw [xN]
   ·exact hi
   ·intro hmem;have:=List.mem_range'_1.mp hmem;rw [List.getElem?_append_right (by lia)] at hi;rw [List.getElem?_replicate] at hi;split at hi <;> cases hi
  ·obtain ⟨w,h1,h2⟩:=rr.get hj;have hjm:j<m:=by rw [<-hm'];exact (List.getElem?_eq_some_iff.mp hj).1
   refine ⟨w,Q7 _ _ _ j (n+j) w (List.nodup_range' ..) (fun i hi=>?_) ?_ h1,h2⟩
   ·have:=List.mem_range'_1.mp hi;simp [hn];lia
   ·rw [List.getElem?_range' hjm];simp
 ·cases h
section
variable {X:Cx} {scope:Scope} {ownN:List Str} {elt iter tg c:Expr} {it:FI} {t:D->Res (List D)} {g:TG} {gc:FT} {fe:FE} {re:Bool} {pos:Pos}
theorem aFg {n m:Nat} (S:cD X.N X.env.scope scope ownN) (hn:X.N.length=n) (hm:ownN.length=m) (hcalm:X.calm=true) (hi:PI X tg iter (gI X.K it)) (ht:TgC g t n m) (hg:∀X',cP X X' scope ownN->PG X' tg g) (he:∀X',cP X X' scope ownN->PE X' elt (gE fe re))
  (hs:∀x,foldedSetIterable iter X.env x=pure x):PE X (.ListComp elt [⟨tg,iter,[],0⟩] scope pos) (gE (cN n it t eE fe re) true):=by
 intro pins s σ H Q I h;subst hm;exact aBa S hcalm hi hg he hs pins s σ H Q I (oN ht (fun σ H Q h=>by obtain ⟨ρ,b,E,h,q⟩:=h;cases h;exact q H (b_.refl H)) (I.len.trans hn) h)
theorem X6 {n m:Nat} (S:cD X.N X.env.scope scope ownN) (hn:X.N.length=n) (hm:ownN.length=m) (hcalm:X.calm=true) (hi:PI X tg iter (gI X.K it)) (ht:TgC g t n m) (hg:∀X',cP X X' scope ownN->PG X' tg g) (hc:∀X',cP X X' scope ownN->PT X' c (gT gc)) (he:∀X',cP X X' scope ownN->PE X' elt (gE fe re))
  (hs:∀x,foldedSetIterable iter X.env x=pure x):PE X (.ListComp elt [⟨tg,iter,[c],0⟩] scope pos) (gE (cN n it t gc fe re) true):=by
 intro pins s σ H Q I h;subst hm;exact XF S hcalm hi hg hc he hs pins s σ H Q I (oN ht (fun σ H Q h=>h) (I.len.trans hn) h)
end
mutual
theorem Rep.dom {P:Addr->Prop} {H:Hp}:∀{v:V} {d:D},Rep P H v d->Rep (fun a=>P a/\H a≠none) H v d
 | _,_,.non=>.non
 | _,_,.bl b=>.bl b
 | _,_,.int i=>.int i
 | _,_,.str x=>.str x
 | _,_,.tup e r=>.tup e (bQ.dom r)
 | _,_,.lst e p r=>.lst e ⟨p,by rw [e];simp⟩ (bQ.dom r)
 | _,_,.cel e p r=>.cel e ⟨p,by rw [e];simp⟩ (bQ.dom r)
 | _,_,.frz e r=>.frz e (bQ.dom r)
 | _,_,.dK e p r n=>.dK e ⟨p,by rw [e];simp⟩ (lW.dom r) n
 | _,_,.dT e p r n=>.dT e ⟨p,by rw [e];simp⟩ (q_.dom r) n
 | _,_,.fdK e r n=>.fdK e (lW.dom r) n
 | _,_,.fdT e r n=>.fdT e (q_.dom r) n
 | _,_,.exc n e q=>.exc n e q
theorem bQ.dom {P:Addr->Prop} {H:Hp}:∀{v:List V} {d:List D},bQ P H v d->bQ (fun a=>P a/\H a≠none) H v d
 | _,_,.nil=>.nil
 | _,_,.cons r t=>.cons (Rep.dom r) (bQ.dom t)
theorem lW.dom {P:Addr->Prop} {H:Hp}:∀{v:List (Key×V)} {d:List (D×D)},lW P H v d->lW (fun a=>P a/\H a≠none) H v d
 | _,_,.nil=>.nil
 | _,_,.cons r t=>.cons (Rep.dom r) (lW.dom t)
theorem q_.dom {P:Addr->Prop} {H:Hp}:∀{v:List (List Key×V)} {d:List (D×D)},q_ P H v d->q_ (fun a=>P a/\H a≠none) H v d
 | _,_,.nil=>.nil
 | _,_,.cons r t=>.cons (Rep.dom r) (q_.dom t)
end
theorem lW.bK {P P':Addr->Prop} {H:Hp}:∀{v:List (Key×V)} {d:List (D×D)},lW P H v d->D.aX (d.map (·.2))=true->lW P' H v d
 | _,_,.nil,_=>.nil
 | _,_,.cons r t,h=>by
  rw [List.map_cons,D.aX,Bool.and_eq_true] at h;exact .cons (r.bK h.1) (t.bK h.2)
theorem q_.bK {P P':Addr->Prop} {H:Hp}:∀{v:List (List Key×V)} {d:List (D×D)},q_ P H v d->D.aX (d.map (·.2))=true->q_ P' H v d
 | _,_,.nil,_=>.nil
 | _,_,.cons r t,h=>by
  rw [List.map_cons,D.aX,Bool.and_eq_true] at h;exact .cons (r.bK h.1) (t.bK h.2)
theorem Rep.wU {P P':Addr->Prop} {H:Hp} {a:Addr} {d:D} (r:Rep P H (.ref a) d) (h:inner d=true) (hp:P' a):Rep P' H (.ref a) d:=by
 cases r with
 | tup e r=>cases h
 | lst e p r=>exact .lst e hp (r.bK h)
 | cel e p r=>exact .cel e hp (r.bK h)
 | frz e r=>cases h
 | dK e p r n=>exact .dK e hp (r.bK h) n
 | dT e p r n=>exact .dT e hp (r.bK h) n
 | fdK e r n=>cases h
 | fdT e r n=>cases h
 | exc n e q=>cases h
noncomputable def Own (own:Nat->Bool) (σ:L2.St) (a:Addr):Prop:=∃i,own i=true/\σ[i]?=some (some (.ref a))
structure ES (own:Nat->Bool) (H:Hp) (σ:L2.St) (ρ:List D):Prop where
 len:σ.length=ρ.length
 at_:∀i,ρ.getD i .uD≠.uD->∃v,σ[i]?=some (some v)/\(own i=false->Rep (fun a=>¬Own own σ a) H v (ρ.getD i .uD))
 own:∀i v,own i=true->σ[i]?=some (some v)->∃a o,v=.ref a/\Rep All H v (ρ.getD i .uD)/\inner (ρ.getD i .uD)=true/\H a=some o/\QM o=true/\∀j,own j=true->σ[j]?=some (some (.ref a))->j=i
variable {own:Nat->Bool}
theorem ES.er {H:Hp} {σ:L2.St} {ρ:List D} (e:ES own H σ ρ):ER H σ ρ:=fun i hi=>by
 obtain ⟨v,h1,h2⟩:=e.at_ i hi;cases ho:own i with
 | false=>exact ⟨v,h1,(h2 ho).all⟩
 | true=>
  obtain ⟨a,o,_,h3,_⟩:=e.own i v ho h1;exact ⟨v,h1,h3⟩
theorem ES.live {H:Hp} {σ:L2.St} {ρ:List D} (e:ES own H σ ρ) {a:Addr} (h:Own own σ a):∃o,H a=some o/\QM o=true:=by
 obtain ⟨i,hi,hs⟩:=h;obtain ⟨b,o,eb,_,_,h3,h4,_⟩:=e.own i _ hi hs;cases eb;exact ⟨o,h3,h4⟩
theorem ES.same {H H':Hp} {σ:L2.St} {ρ:List D} (e:ES own H σ ρ) (s:b_ H H'):ES own H' σ ρ:=by
 refine ⟨e.len,fun i hi=>?_,fun i v hi hv=>?_⟩
 ·obtain ⟨v,h1,h2⟩:=e.at_ i hi;exact ⟨v,h1,fun ho=>(h2 ho).same s⟩
 ·obtain ⟨a,o,h1,h2,h3,h4,h5,h6⟩:=e.own i v hi hv;exact ⟨a,o,h1,h2.same s,h3,s _ _ h4,h5,h6⟩
noncomputable def KU (own:Nat->Bool) (σ:L2.St) (H:Hp) (σ':L2.St) (H':Hp):Prop:=∀a o,H a=some o->¬Own own σ a->H' a=some o/\¬Own own σ' a
theorem KU.trans {σ σ1 σ2:L2.St} {H H1 H2:Hp} (a:KU own σ H σ1 H1) (b:KU own σ1 H1 σ2 H2):KU own σ H σ2 H2:=fun c o e n=>let ⟨e1,n1⟩:=a c o e n;b c o e1 n1
theorem KU.same {σ:L2.St} {H H':Hp} (s:b_ H H'):KU own σ H σ H':=fun a o e n=>⟨s a o e,n⟩
theorem KU.keep {σ σ':L2.St} {H H':Hp} {ρ:List D} (k:KU own σ H σ' H') (e:ES own H σ ρ):aAr (fun a=>¬Own own σ a) H H':=fun a o h hp=>by
 by_cases ho:Own own σ a
 ·obtain ⟨o',h1,h2⟩:=e.live ho;rw [h] at h1;cases h1;rcases hp with hp|hp
  ·exact absurd ho hp
  ·rw [h2] at hp;cases hp
 ·exact (k a o h ho).1
theorem KU.rep {σ σ':L2.St} {H H':Hp} {ρ:List D} (k:KU own σ H σ' H') (e:ES own H σ ρ) {v:V} {d:D} (r:Rep (fun a=>¬Own own σ a) H v d):Rep (fun a=>¬Own own σ' a) H' v d:=by
 refine r.dom.keep (P':=fun a=>¬Own own σ' a) (fun a o h hp=>?_) fun a ⟨h1,h2⟩=>?_
 ·refine k.keep e a o h (hp.imp (fun z=>z.1) id)
 ·cases q:H a with
  | none=>exact absurd q h2
  | some o=>exact (k a o q h1).2
noncomputable def kRt (own:Nat->Bool) (D:Ends) (σ:L2.St) (H:Hp) (d:Mi.D):Prop:=if own rtX=true then ∃d0 ρ',d=.tup (d0::ρ')/\∀v σ' H',KU own σ H σ' H'->ES own H' σ' ρ'->Rep (fun a=>(Own own σ a\/H a=none)/\∀i b xs,ρ'.getD i .uD=.cel b xs->a≠b) H' v d0->D.rt v H'
  else ∀v H',(∀a o,H a=some o->¬Own own σ a->H' a=some o)->Rep (fun a=>Own own σ a\/H a=none) H' v d->D.rt v H'
theorem kRt.old {own:Nat->Bool} {D:Ends} {σ:L2.St} {H:Hp} {d:Mi.D} (h:kRt own D σ H d) (hx:own rtX=false):∀v H',(∀a o,H a=some o->¬Own own σ a->H' a=some o)->Rep (fun a=>Own own σ a\/H a=none) H' v d->D.rt v H':=by
 unfold kRt at h;rw [if_neg (by rw [hx];simp)] at h;exact h
theorem kRt.mk {own:Nat->Bool} {D:Ends} {σ:L2.St} {H:Hp} {d:Mi.D} (hx:own rtX=false) (h:∀v H',(∀a o,H a=some o->¬Own own σ a->H' a=some o)->Rep (fun a=>Own own σ a\/H a=none) H' v d->D.rt v H'):kRt own D σ H d:=by
 unfold kRt;rw [if_neg (by rw [hx];simp)];exact h
noncomputable def kS (own:Nat->Bool) (D:Ends) (σ:L2.St) (H:Hp):Fl->Prop
 | .nx ρ=>∀σ' H',KU own σ H σ' H'->ES own H' σ' ρ->D.nx σ' H'
 | .bk ρ=>∀σ' H',KU own σ H σ' H'->ES own H' σ' ρ->D.bk σ' H'
 | .ct ρ=>∀σ' H',KU own σ H σ' H'->ES own H' σ' ρ->D.ct σ' H'
 | .rt d=>kRt own D σ H d
theorem kS.step {D:Ends} {σ σ':L2.St} {H H':Hp} {fl:Fl} (k:KU own σ H σ' H') (h:kS own D σ H fl):kS own D σ' H' fl:=by
 cases fl with
 | nx ρ=>exact fun σ2 H2 k2 e=>h σ2 H2 (k.trans k2) e
 | bk ρ=>exact fun σ2 H2 k2 e=>h σ2 H2 (k.trans k2) e
 | ct ρ=>exact fun σ2 H2 k2 e=>h σ2 H2 (k.trans k2) e
 | rt d=>
  have old:∀a,(Own own σ' a\/H' a=none)->Own own σ a\/H a=none:=fun a ha=>by
   cases q:H a with
   | none=>exact .inr rfl
   | some o=>
    refine .inl (Classical.byContradiction fun n=>?_);obtain ⟨e1,n1⟩:=k a o q n;rcases ha with ha|ha
    ·exact n1 ha
    ·rw [e1] at ha;cases ha
  have h:kRt own D σ H d:=h;show kRt own D σ' H' d;unfold kRt at h ⊢;by_cases hx:own rtX=true
  ·rw [if_pos hx] at h ⊢;obtain ⟨d0,ρ',e,g⟩:=h;exact ⟨d0,ρ',e,fun v σ2 H2 k2 E2 r=>g v σ2 H2 (k.trans k2) E2 (r.mono fun a ha=>⟨old a ha.1,ha.2⟩)⟩
  ·rw [if_neg hx] at h ⊢;exact fun v H2 hk r=>h v H2 (fun a o e n=>let ⟨e1,n1⟩:=k a o e n;hk a o e1 n1) (r.mono fun a ha=>old a ha)
noncomputable def tS (own:Nat->Bool) (f:FS):TS:=fun D σ H=>∃ρ fl,ES own H σ ρ/\f ρ=.ok fl/\kS own D σ H fl
theorem PS.imp {X:Cx} {st:Stmt} {t t':TS} (h:PS X st t) (i:∀D σ H,t' D σ H->t D σ H):PS X st t':=fun pins s σ H D I q=>h pins s σ H D I (i D σ H q)
theorem PSs.imp {X:Cx} {st:List Stmt} {t t':TS} (h:PSs X st t) (i:∀D σ H,t' D σ H->t D σ H):PSs X st t':=fun pins s σ H D I q=>h pins s σ H D I (i D σ H q)
section
variable {X:Cx} {a b c e:Expr} {pos pos':Pos} {fa fb fc fe:FE} {ra rb rc re:Bool} {ga gb gc:FT} {f g:FS} {st:Stmt} {rest s1 s2:List Stmt}
theorem dX:PSs X [] (tS own iQ):=PSs.imp V6 fun D σ H ⟨ρ,fl,E,h,q⟩=>by
 cases h;exact q σ H (fun a o e n=>⟨e,n⟩) E
theorem aFh {D:Ends} {σ:L2.St} {H:Hp} (h:tS own (aW f g) D σ H):aD3 (tS own f) (tS own g) D σ H:=by
 obtain ⟨ρ,fl,E,h,q⟩:=h;obtain ⟨r,h1,h2⟩:=aR h;refine ⟨ρ,r,E,h1,?_⟩;cases r with
 | nx ρ'=>exact fun σ' H' k E'=>⟨ρ',fl,E',h2,q.step k⟩
 | bk ρ'=>cases h2;exact q
 | ct ρ'=>cases h2;exact q
 | rt d=>cases h2;exact q
theorem aJ (h1:PS X st (tS own f)) (h2:PSs X rest (tS own g)):PSs X (st::rest) (tS own (aW f g)):=PSs.imp (jK h1 h2) fun _ _ _=>aFh
theorem bD (h1:PS X st (tS own f)):PSs X [st] (tS own f):=mF h1
theorem lC (hc:PT X c (gT gc)) (ha:PSs X s1 (tS own f)) (hb:PSs X s2 (tS own g)):PS X (.If c s1 s2 pos) (tS own (sIf gc f g)):=PS.imp (aAv hc ha hb) fun D σ H ⟨ρ,fl,E,h,q⟩=>by
 obtain ⟨k,h1,h2⟩:=aR h;refine ⟨ρ,k,E.er,h1,fun H' s=>?_⟩;cases k with
 | true=>rw [if_pos rfl];rw [if_pos rfl] at h2;exact ⟨ρ,fl,E.same s,h2,q.step (.same s)⟩
 | false=>rw [if_neg (by simp)];rw [if_neg (by simp)] at h2;exact ⟨ρ,fl,E.same s,h2,q.step (.same s)⟩
theorem gY (he:PE X e (gE fe re)) (hx:own rtX=false:=by rfl):PS X (.Return (some e) pos) (tS own (nZ fe re)):=PS.imp (G6 he) fun D σ H ⟨ρ,fl,E,h,q⟩=>by
 obtain ⟨d,h1,h2⟩:=aR h;split at h2
 ·rename_i hk;cases h2;refine ⟨ρ,d,E.er,h1,fun v H' s r n=>q.old hx v H' (fun a o e _=>s a o e) ?_⟩;rw [Bool.or_eq_true] at hk;rcases hk with hk|hk
  ·exact (n hk).mono fun a ha=>.inr ha
  ·exact r.bK hk
 ·cases h2
theorem aFi {i:Nat} {x:Str} (ho:own i=true) (hN:X.N[i]?=some x) (hv:Vis X.env.scope x) (hd:nDb x:=by decide) (hcd:nCd x:=by decide) (hx:own rtX=false:=by rfl):PS X (.Return (some (.Name x pos')) pos) (tS own (aIc i)):=
 PS.imp (G6 (bW hN hv hd hcd)) fun D σ H ⟨ρ,fl,E,h,q⟩=>by
 obtain ⟨d,h1,h2⟩:=aR h;cases h2;obtain ⟨v,hv,r,e⟩:=E.er.var h1;obtain ⟨a,o,rfl,r2,hin,_⟩:=E.own i v ho hv;rw [e] at hin;exact ⟨_,hv,q.old hx _ H (fun a o e _=>e) (r.wU hin (.inl ⟨i,ho,hv⟩))⟩
theorem lD {σ:L2.St} {i:Nat} {v:V} (ho:own i=false) (a:Addr):Own own (σ.set i (some v)) a↔Own own σ a:=by
 constructor
 ·rintro ⟨j,hj,e⟩;have:i≠j:=fun z=>by subst z;rw [ho] at hj;cases hj
  rw [List.getElem?_set_ne this] at e;exact ⟨j,hj,e⟩
 ·rintro ⟨j,hj,e⟩;have:i≠j:=fun z=>by subst z;rw [ho] at hj;cases hj
  exact ⟨j,hj,by rw [List.getElem?_set_ne this];exact e⟩
theorem cR {ρ:List D} {i j:Nat} {d:D}:(ρ.set i d).getD j .uD=if i=j/\i<ρ.length then d else ρ.getD j .uD:=by
 rw [List.getD_eq_getElem?_getD,List.getD_eq_getElem?_getD,List.getElem?_set];by_cases h:i=j
 ·subst h;by_cases h2:i<ρ.length
  ·simp [h2]
  ·simp [h2]
 ·simp [h]
theorem ES.set {H:Hp} {σ:L2.St} {ρ:List D} {i:Nat} {v:V} {d:D} (E:ES own H σ ρ) (ho:own i=false) (r:Rep (fun a=>¬Own own σ a) H v d):ES own H (σ.set i (some v)) (ρ.set i d):=by
 have hO:(fun a=>¬Own own (σ.set i (some v)) a)=fun a=>¬Own own σ a:=funext fun a=>by rw [lD ho]
 refine ⟨by simp [E.len],fun j hj=>?_,fun j w hj hw=>?_⟩
 ·rw [cR] at hj ⊢;rw [hO];by_cases h:i=j/\i<ρ.length
  ·rw [if_pos h];obtain ⟨rfl,hl⟩:=h;exact ⟨v,by rw [List.getElem?_set_self (by rw [E.len];exact hl)],fun _=>r⟩
  ·rw [if_neg h] at hj ⊢;obtain ⟨w,h1,h2⟩:=E.at_ j hj;by_cases hij:i=j
   ·subst hij;have:i<σ.length:=(List.getElem?_eq_some_iff.mp h1).1;rw [E.len] at this;exact absurd ⟨rfl,this⟩ h
   ·exact ⟨w,by rw [List.getElem?_set_ne hij];exact h1,h2⟩
 ·have hij:i≠j:=fun z=>by subst z;rw [ho] at hj;cases hj
  rw [List.getElem?_set_ne hij] at hw;rw [cR,if_neg fun z=>hij z.1];obtain ⟨a,o,h1,h2,h3,h4,h5,h6⟩:=E.own j w hj hw;refine ⟨a,o,h1,h2,h3,h4,h5,fun k hk hs=>h6 k hk ?_⟩;have hik:i≠k:=fun z=>by subst z;rw [ho] at hk;cases hk
  rwa [List.getElem?_set_ne hik] at hs
theorem ES.aO3 {H H':Hp} {σ:L2.St} {ρ:List D} {i:Nat} {a:Addr} {o:HO} {d:D} (E:ES own H σ ρ) (s:b_ H H') (ho:own i=true) (hn:H a=none) (r:Rep All H' (.ref a) d) (hin:inner d=true) (ha:H' a=some o) (hm:QM o=true) :
  ES own H' (σ.set i (some (.ref a))) (ρ.set i d)/\KU own σ H (σ.set i (some (.ref a))) H':=by
 have hO:∀b,H b≠none->¬Own own σ b->¬Own own (σ.set i (some (.ref a))) b:=fun b hb n ⟨j,hj,e⟩=>by
  by_cases hij:i=j
  ·subst hij;by_cases hl:i<σ.length
   ·rw [List.getElem?_set_self hl] at e;cases e;exact hb hn
   ·rw [List.getElem?_set,if_pos rfl,if_neg hl] at e;cases e
  ·rw [List.getElem?_set_ne hij] at e;exact n ⟨j,hj,e⟩
 refine ⟨⟨by simp [E.len],fun j hj=>?_,fun j w hj hw=>?_⟩,fun b ob e n=>⟨s b ob e,hO b (by rw [e];simp) n⟩⟩
 ·rw [cR] at hj ⊢;by_cases h:i=j/\i<ρ.length
  ·rw [if_pos h];obtain ⟨rfl,hl⟩:=h;exact ⟨.ref a,by rw [List.getElem?_set_self (by rw [E.len];exact hl)],fun z=>by rw [ho] at z;cases z⟩
  ·rw [if_neg h] at hj ⊢;obtain ⟨w,h1,h2⟩:=E.at_ j hj;by_cases hij:i=j
   ·subst hij;have:i<σ.length:=(List.getElem?_eq_some_iff.mp h1).1;rw [E.len] at this;exact absurd ⟨rfl,this⟩ h
   ·exact ⟨w,by rw [List.getElem?_set_ne hij];exact h1,fun hj=>((h2 hj).dom.same s).mono fun b ⟨n,hb⟩=>hO b hb n⟩
 ·by_cases hij:i=j
  ·subst hij;have hl:i<σ.length:=by
    have:=(List.getElem?_eq_some_iff.mp hw).1;simpa using this
   rw [List.getElem?_set_self hl] at hw;cases hw;rw [cR,if_pos ⟨rfl,by rw [<-E.len];exact hl⟩];refine ⟨a,o,rfl,r,hin,ha,hm,fun k hk hs=>?_⟩;by_cases hik:i=k
   ·exact hik.symm
   ·rw [List.getElem?_set_ne hik] at hs;obtain ⟨o',h1,_⟩:=E.live ⟨k,hk,hs⟩;rw [hn] at h1;cases h1
  ·rw [List.getElem?_set_ne hij] at hw;rw [cR,if_neg fun z=>hij z.1];obtain ⟨b,ob,h1,h2,h3,h4,h5,h6⟩:=E.own j w hj hw;refine ⟨b,ob,h1,h2.same s,h3,s _ _ h4,h5,fun k hk hs=>?_⟩;by_cases hik:i=k
   ·subst hik;by_cases hl:i<σ.length
    ·rw [List.getElem?_set_self hl] at hs;cases hs;rw [hn] at h4;cases h4
    ·rw [List.getElem?_set,if_pos rfl,if_neg hl] at hs;cases hs
   ·rw [List.getElem?_set_ne hik] at hs;exact h6 k hk hs
theorem aDh {P:Addr->Prop} {H:Hp} {v:V} {d:D} (r:Rep P H v d) (hin:inner d=true):∃a o,v=.ref a/\P a/\H a=some o/\QM o=true:=by
 cases r with
 | lst e p r=>exact ⟨_,_,rfl,p,e,rfl⟩
 | cel e p r=>exact ⟨_,_,rfl,p,e,rfl⟩
 | dK e p r n=>exact ⟨_,_,rfl,p,e,rfl⟩
 | dT e p r n=>exact ⟨_,_,rfl,p,e,rfl⟩
 | fdK e r n=>cases hin
 | fdT e r n=>cases hin
 | _=>cases hin
theorem B_ {H H':Hp} {σ:L2.St} {ρ:List D} (E:ES own H σ ρ) {v:V} {d:D} (r:Rep (New H) H' v d):Rep (fun a=>¬Own own σ a) H' v d:=r.mono fun a ha ho=>by
 obtain ⟨o,h1,_⟩:=E.live ho;rw [show H a=none from ha] at h1;cases h1
theorem CG {o:Bool} {i:Nat} {D':Ends} {σ:L2.St} {H:Hp} (ho:own i=o) (h:tS own (bV o i fe re) D' σ H):aEj (gE fe re) (o9 i) D' σ H:=by
 obtain ⟨ρ,fl,E,h,q⟩:=h;obtain ⟨d,h1,h2⟩:=aR h;cases o with
 | true=>
  simp only [if_true] at h2;split at h2
  ·rename_i hk;cases h2;refine ⟨ρ,d,E.er,h1,fun v H' s r n=>?_⟩;rw [Bool.and_eq_true] at hk;obtain ⟨a,ob,rfl,hn,ha,hm⟩:=aDh (n hk.1) hk.2;obtain ⟨E2,k⟩:=E.aO3 s ho hn r hk.2 ha hm;exact q _ H' k E2
  ·cases h2
 | false=>
  simp only [Bool.false_eq_true,if_false] at h2;split at h2
  ·rename_i hk;cases h2;refine ⟨ρ,d,E.er,h1,fun v H' s r n=>?_⟩;rw [Bool.or_eq_true] at hk;have r2:Rep (fun a=>¬Own own σ a) H' v d:=by
    rcases hk with hk|hk
    ·exact B_ E (n hk)
    ·exact r.bK hk
   exact q _ H' (fun a ob e hn=>⟨s a ob e,by rw [lD ho];exact hn⟩) ((E.same s).set ho r2)
  ·cases h2
theorem aIn {i:Nat} {x:Str} {o:Bool} (ho:own i=o) (hN:X.N.Nodup) (hi:X.N[i]?=some x) (hx:Loc X.env.scope x) (he:PE X e (gE fe re)) (hs:swapsWith e (some (.Name x pos')) pos.line X.env=pure false:=by rfl) (hf:X.fn x=true\/X.env.scope.names.lookup x=some .local:=by first|exact .inl rfl|exact .inr rfl|assumption) :
  PS X (.Assign [.Name x pos'] e pos) (tS own (bV o i fe re)):=PS.imp (G7 hN hi hx he hs hf) fun _ _ _=>CG ho
theorem dI {i:Nat} {x:Str} {o:Bool} (he:PE X e (gE fe re)) (ho:own i=o:=by rfl) (hN:X.N.Nodup:=by assumption) (hi:X.N[i]?=some x:=by exact rfl) (hx:Loc X.env.scope x:=by trivial) (hs:swapsWith e (some (.Name x pos')) pos.line X.env=pure false:=by rfl) (hf:X.fn x=true\/X.env.scope.names.lookup x=some .local:=by first|exact .inl rfl|exact .inr rfl|assumption):PS X (.Assign [.Name x pos'] e pos) (tS own (bV o i fe re)):=aIn ho hN hi hx he hs hf
theorem ES.mut {H:Hp} {σ:L2.St} {ρ:List D} {i:Nat} {a:Addr} {o:HO} {d:D} (E:ES own H σ ρ) (ho:own i=true) (hi:σ[i]?=some (some (.ref a))) (hm:QM o=true) (r:Rep All (upd H a o) (.ref a) d) (hin:inner d=true) :
  ES own (upd H a o) σ (ρ.set i d)/\KU own σ H σ (upd H a o):=by
 have hOa:Own own σ a:=⟨i,ho,hi⟩
 obtain ⟨a',oa,ea,_,_,hHa,hma,huq⟩:=E.own i _ ho hi;cases ea;have k:KU own σ H σ (upd H a o):=fun b ob e n=>⟨by rw [bB (fun z=>by subst z;exact n hOa)];exact e,n⟩
 have hl:i<ρ.length:=by rw [<-E.len];exact (List.getElem?_eq_some_iff.mp hi).1
 refine ⟨⟨by simp [E.len],fun j hj=>?_,fun j w hj hw=>?_⟩,k⟩
 ·rw [cR] at hj ⊢;by_cases h:i=j/\i<ρ.length
  ·obtain ⟨rfl,_⟩:=h;exact ⟨_,hi,fun z=>by rw [ho] at z;cases z⟩
  ·rw [if_neg h] at hj ⊢;obtain ⟨w,h1,h2⟩:=E.at_ j hj;exact ⟨w,h1,fun hj=>k.rep E (h2 hj)⟩
 ·by_cases hij:i=j
  ·subst hij;rw [hi] at hw;cases hw;rw [cR,if_pos ⟨rfl,hl⟩];exact ⟨a,o,rfl,r,hin,aL,hm,huq⟩
  ·rw [cR,if_neg fun z=>hij z.1];obtain ⟨b,ob,h1,h2,h3,h4,h5,h6⟩:=E.own j w hj hw;subst h1;have hba:b≠a:=fun z=>by subst z;exact hij (h6 i ho hi)
   refine ⟨b,ob,rfl,?_,h3,by rw [bB hba];exact h4,h5,h6⟩;refine (h2.wU (P':=fun c=>c=b) h3 rfl).keep (fun c oc hc hp=>?_) fun _ _=>trivial
   rw [bB]
   ·exact hc
   ·intro z;subst z;rcases hp with hp|hp
    ·exact hba hp.symm
    ·rw [hHa] at hc;cases hc;rw [hma] at hp;cases hp
theorem ES.ownAt {H:Hp} {σ:L2.St} {ρ:List D} {i:Nat} (E:ES own H σ ρ) (ho:own i=true) (hd:ρ.getD i .uD≠.uD):∃a o,σ[i]?=some (some (.ref a))/\Rep All H (.ref a) (ρ.getD i .uD)/\inner (ρ.getD i .uD)=true/\H a=some o/\QM o=true:=by
 obtain ⟨v,h1,_⟩:=E.at_ i hd;obtain ⟨a,o,rfl,h2,h3,h4,h5,_⟩:=E.own i v ho h1;exact ⟨a,o,h1,h2,h3,h4,h5⟩
theorem Q8 {H:Hp} {a:Addr} {xs:List D} (r:Rep All H (.ref a) (.lst xs)):∃vs,H a=some (.lst vs)/\bQ All H vs xs:=by
 cases r with
 | lst e _ r=>exact ⟨_,e,r⟩
theorem bQ.upd {H:Hp} {a:Addr} {vs:List V} {xs:List D} {o:HO} {ob:HO} (r:bQ All H vs xs) (hp:D.aX xs=true) (ha:H a=some ob) (hm:QM ob=true):bQ All (upd H a o) vs xs:=by
 refine (r.bK (P':=fun _=>False) hp).keep (fun c oc hc h=>?_) fun _ h=>h.elim
 rw [bB]
 ·exact hc
 ·intro z;subst z;rcases h with h|h
  ·exact h
  ·rw [ha] at hc;cases hc;rw [hm] at h;cases h
theorem oO {xs ys:List D}:D.aX (xs++ys)=(D.aX xs&&D.aX ys):=by
 induction xs with
 | nil=>simp [D.aX]
 | cons x xs ih=>rw [List.cons_append,D.aX,D.aX,ih,Bool.and_assoc]
theorem xO {i:Nat} {x:Str} {p1 apos cpos:Pos} (ho:own i=true) (hN:X.N[i]?=some x) (hv:Vis X.env.scope x) (he:PE X e (gE fe re)) (hd:nDb x:=by decide) (hcd:nCd x:=by decide)
  (hbase:attributeBase (.Name x p1) "append" X.env (eval (.Name x p1) X.env)=eval (.Name x p1) X.env:=by rfl)
  (hs1:starEach [e] X.env=(false,eval e X.env)::starEach [] X.env:=by rfl)
  (hfew:((backTo cpos (starEach [e] X.env)).all (fun x=>!x.1)&&(backToKw cpos (keywordEach [] X.env)).all (fun x=>x.1.isSome)
   && decide (([e]:List Expr).length+([]:List Keyword).length+(if ([]:List Keyword).isEmpty then 0 else 1)<30))=true:=by rfl)
  (hline:(apos.endLine==cpos.line)=true:=by rfl)
  (hs:swapsWith (.Call (.Attribute (.Name x p1) "append" apos) [e] [] cpos) none pos.line X.env=pure false:=by rfl) :
  PS X (.Expr (.Call (.Attribute (.Name x p1) "append" apos) [e] [] cpos) pos) (tS own (IK i fe)):=
 PS.imp (mG (aEv PySem.F.plainAttrs_list PySem.F.slot_list_append PySem.F.type_list_append HQ (bW hN hv hd hcd) (bI he iJ hs1) hbase hfew hline hs1 rfl) hs) fun D' σ H ⟨ρ,fl,E,h,q⟩=>by
 obtain ⟨d,h1,h2⟩:=aR h;split at h2
 ·rename_i xs hx;split at h2
  ·rename_i hk;cases h2;rw [Bool.and_eq_true] at hk;obtain ⟨a,o,hσ,r,hin,ha,hm⟩:=E.ownAt ho (by rw [hx];intro z;cases z);rw [hx] at r hin;obtain ⟨vs,hl,rr⟩:=Q8 r;refine ⟨_,hσ,.inl ⟨rfl,vs,.of hl⟩,ρ,d,E.er,h1,fun v H' s rv _=>⟨a,vs,v,rfl,rfl,s _ _ hl,by rw [rr.length];exact XM hk.1,?_⟩⟩;have E':=E.same s;have hl':=s _ _ hl;obtain ⟨E2,k2⟩:=E'.mut (o:=.lst (vs++[v])) (d:=.lst (xs++[d])) ho hσ rfl (.lst aL trivial (((rr.same s).snoc rv).upd (by rw [oO];simp only [Bool.and_eq_true];exact ⟨hin,by simp [D.aX,hk.2]⟩) hl' rfl)) (by show D.aX (xs++[d])=true;rw [oO];simp only [Bool.and_eq_true];exact ⟨hin,by simp [D.aX,hk.2]⟩);exact q _ _ ((KU.same s).trans k2) E2
  ·cases h2
 ·cases h2
end
end Mi
end
section
namespace L2
open PySem PySem.Spec PyProof.Rows
section
variable {X:Cx} {scope:Scope} {own:List Str}
theorem aBg {y:Str} {py:Pos} {iy:Nat} (hNn:X.N.Nodup) (hiy:X.N[iy]?=some y) (hxy:Loc X.env.scope y) (hfy:X.fn y=true\/X.env.scope.names.lookup y=some .local) {pins:List (Addr×Obj)} {σ:St} {D:Ends} {p C:Addr} {H5:Hp} {s6:Shared} {m6:Str->Option Value} (f:Inv X pins σ H5 s6) (k:QB X pins H5 C) (n:s6.heap.Ns C m6) (q:o9 iy (.ref p) σ H5 D.nx):compPost (model X.prog X.w) X.A X.xe (some (assign (.Name y py) X.env)) (fun _ s'=>SP X pins D .next s') (.ref p) C (.ok .next) s6:=by
 obtain ⟨oC,esC,epC,hoC,hdC,_⟩:=id n;have finP:=f.MN (pins':=pins++[(C,oC)]) fun p hp=>(List.mem_append.mp hp).elim (fun z=>f.pin p (List.mem_append_right _ z)) fun z=>by
  have z':p=(C,oC):=by simpa using z
  subst z';exact ⟨hoC,k.1,k.2.1,k.2.2.1,fun v z=>by rw [hdC] at z;cases z⟩
 refine thn (aQ (pos:=py) hNn hiy hxy hfy _ _ σ H5 (.ref p) (.ref p) D.nx finP rfl q) fun _ s7 ⟨σ7,H7,I7,q7⟩=>?_
 obtain ⟨g7,hC7,_⟩:=I7.pin (C,oC) (List.mem_append_right _ (List.mem_append_right _ (by simp)));refine ⟨m6,n.at' fun o e=>?_,fun h' sb=>⟨σ7,H7,Inv.turned (t':=s7.toks) I7.n_ (fun b o hb e=>sb.extBut b o hb e) hC7 k.2.1 k.2.2.2.1 k.2.2.2.2.1 k.2.2.2.2.2,q7⟩⟩;rw [hoC] at e;cases e;exact g7
theorem aIo {elt iter tg:Expr} {ifs:List Expr} {wi:TI} {g:TG} {tc:TT} {te:TE} {pos:Pos} (S:cD X.N X.env.scope scope own) (hcalm:X.calm=true) (hi:PI X tg iter wi)
  (hg:∀X',cP X X' scope own->PG X' tg g) (hc:(ifs=[]/\tc=fun _ H Q=>Q true H)\/∃c,ifs=[c]/\∀X',cP X X' scope own->PT X' c tc) (he:∀X',cP X X' scope own->PE X' elt te)
  (hs:∀x,foldedSetIterable iter X.env x=pure x) {y:Str} {py pos2:Pos} {iy:Nat} (hNn:X.N.Nodup) (hiy:X.N[iy]?=some y) (hxy:Loc X.env.scope y) (hfy:X.fn y=true\/X.env.scope.names.lookup y=some .local) (hsw:swapsWith (.ListComp elt [⟨tg,iter,ifs,0⟩] scope pos) (some (.Name y py)) pos2.line X.env=pure true):PS X (.Assign [.Name y py] (.ListComp elt [⟨tg,iter,ifs,0⟩] scope pos) pos2) (aEj (IV wi g tc te own.length) (o9 iy)):=by
 intro pins s σ H D I h;rw [exec_Assign_Name_used _ _ _ _ hsw];refine wpAny_bind (wpAny_standAt (wpAny_bind ?_));show wpAny _ X.A (do let _ <- comprehension (.ListComp elt [⟨tg,iter,ifs,0⟩] scope pos) scope X.env _ (newList []) false (eval iter X.env) (some (assign (.Name y py) X.env))) _ _ s;exact wpAny_bind (wpAny_mono (NB (QQ:=fun _ s'=>SP X pins D .next s') S hcalm hi hg hc he hs I h (aBg hNn hiy hxy hfy)) (fun _ s' hq=>wpAny_pure (wpAny_pure hq)) fun _ _ e=>e)
theorem JD {elt iter tg c:Expr} {wi:TI} {g:TG} {tc:TT} {te:TE} {pos:Pos} (S:cD X.N X.env.scope scope own) (hcalm:X.calm=true) (hi:PI X tg iter wi)
  (hg:∀X',cP X X' scope own->PG X' tg g) (hc:∀X',cP X X' scope own->PT X' c tc) (he:∀X',cP X X' scope own->PE X' elt te)
  (hs:∀x,foldedSetIterable iter X.env x=pure x) {y:Str} {py pos2:Pos} {iy:Nat} (hNn:X.N.Nodup) (hiy:X.N[iy]?=some y) (hxy:Loc X.env.scope y) (hfy:X.fn y=true\/X.env.scope.names.lookup y=some .local) (hsw:swapsWith (.ListComp elt [⟨tg,iter,[c],0⟩] scope pos) (some (.Name y py)) pos2.line X.env=pure true):PS X (.Assign [.Name y py] (.ListComp elt [⟨tg,iter,[c],0⟩] scope pos) pos2) (aEj (IV wi g tc te own.length) (o9 iy)):=
 aIo S hcalm hi hg (.inr ⟨c,rfl,hc⟩) he hs hNn hiy hxy hfy hsw
theorem aBh {elt iter tg:Expr} {wi:TI} {g:TG} {te:TE} {pos:Pos} (S:cD X.N X.env.scope scope own) (hcalm:X.calm=true) (hi:PI X tg iter wi)
  (hg:∀X',cP X X' scope own->PG X' tg g) (he:∀X',cP X X' scope own->PE X' elt te)
  (hs:∀x,foldedSetIterable iter X.env x=pure x) {y:Str} {py pos2:Pos} {iy:Nat} (hNn:X.N.Nodup) (hiy:X.N[iy]?=some y) (hxy:Loc X.env.scope y) (hfy:X.fn y=true\/X.env.scope.names.lookup y=some .local) (hsw:swapsWith (.ListComp elt [⟨tg,iter,[],0⟩] scope pos) (some (.Name y py)) pos2.line X.env=pure true):PS X (.Assign [.Name y py] (.ListComp elt [⟨tg,iter,[],0⟩] scope pos) pos2) (aEj (IV wi g (fun _ H Q=>Q true H) te own.length) (o9 iy)):=
 aIo S hcalm hi hg (.inl ⟨rfl,rfl⟩) he hs hNn hiy hxy hfy hsw
end
end L2
end
section
namespace Mi
open PySem L2 PySem.SeqAt PySem.Spec PyProof.Rows
variable [KFrag]
variable {own:Nat->Bool}
section
variable {X:Cx} {a b c e:Expr} {pos pos':Pos} {fa fb fc fe:FE} {ra rb rc re:Bool} {ga gb gc:FT} {f g:FS} {st:Stmt} {rest s1 s2:List Stmt}
variable {scope:Scope} {ownN:List Str} {elt iter tg:Expr} {it:FI} {t:D->Res (List D)} {gt:TG}
theorem aFj {n m:Nat} {y:Str} {py pos2:Pos} {iy:Nat} {o:Bool} (S:cD X.N X.env.scope scope ownN) (hn:X.N.length=n) (hm:ownN.length=m) (hcalm:X.calm=true) (hi:PI X tg iter (gI X.K it)) (ht:TgC gt t n m) (hg:∀X',cP X X' scope ownN->PG X' tg gt) (he:∀X',cP X X' scope ownN->PE X' elt (gE fe re))
  (hs:∀x,foldedSetIterable iter X.env x=pure x) (ho:own iy=o) (hNn:X.N.Nodup) (hiy:X.N[iy]?=some y) (hxy:Loc X.env.scope y) (hfy:X.fn y=true\/X.env.scope.names.lookup y=some .local) (hsw:swapsWith (.ListComp elt [⟨tg,iter,[],0⟩] scope pos) (some (.Name y py)) pos2.line X.env=pure true) :
  PS X (.Assign [.Name y py] (.ListComp elt [⟨tg,iter,[],0⟩] scope pos) pos2) (tS own (bV o iy (cN n it t eE fe re) true)):=by
 intro pins s σ H D I h;subst hm;refine aBh S hcalm hi hg he hs hNn hiy hxy hfy hsw pins s σ H D I ?_;exact oN ht (fun σ H Q h=>by obtain ⟨ρ,b,E,h,q⟩:=h;cases h;exact q H (b_.refl H)) (I.len.trans hn) (CG ho h)
theorem X7 {n m:Nat} {y:Str} {py pos2:Pos} {iy:Nat} {o:Bool} (S:cD X.N X.env.scope scope ownN) (hn:X.N.length=n) (hm:ownN.length=m) (hcalm:X.calm=true) (hi:PI X tg iter (gI X.K it)) (ht:TgC gt t n m) (hg:∀X',cP X X' scope ownN->PG X' tg gt) (hc:∀X',cP X X' scope ownN->PT X' c (gT gc)) (he:∀X',cP X X' scope ownN->PE X' elt (gE fe re))
  (hs:∀x,foldedSetIterable iter X.env x=pure x) (ho:own iy=o) (hNn:X.N.Nodup) (hiy:X.N[iy]?=some y) (hxy:Loc X.env.scope y) (hfy:X.fn y=true\/X.env.scope.names.lookup y=some .local) (hsw:swapsWith (.ListComp elt [⟨tg,iter,[c],0⟩] scope pos) (some (.Name y py)) pos2.line X.env=pure true) :
  PS X (.Assign [.Name y py] (.ListComp elt [⟨tg,iter,[c],0⟩] scope pos) pos2) (tS own (bV o iy (cN n it t gc fe re) true)):=by
 intro pins s σ H D I h;subst hm;refine JD S hcalm hi hg hc he hs hNn hiy hxy hfy hsw pins s σ H D I ?_;exact oN ht (fun σ H Q h=>h) (I.len.trans hn) (CG ho h)
theorem CJ {κ:Type} [DecidableEq κ] {p:κ×V} {r:List (κ×V)} {k:κ} {v:V} (e:p.1=k) (h:k∉r.map (·.1)):putK (p::r) k v=(k,v)::r:=by
 unfold putK;rw [if_pos (by simp [e]),List.map_cons,if_pos e,e]
 congr 1
 have:∀q∈r,(fun kv:κ×V=>if kv.1=k then (kv.1,v) else kv) q=id q:=fun q hq=>by
  have:q.1≠k:=fun z=>h (List.mem_map.mpr ⟨q,hq,z⟩)
  simp [this]
 rw [List.map_congr_left this,List.map_id]
theorem CK {κ:Type} [DecidableEq κ] {p:κ×V} {r:List (κ×V)} {k:κ} {v:V} (e:¬p.1=k):putK (p::r) k v=p::putK r k v:=by
 unfold putK;rw [List.any_cons,decide_eq_false e,Bool.false_or];split
 ·rw [List.map_cons,if_neg e]
 ·rfl
theorem j7 {κ:Type} [DecidableEq κ] {k:κ} {v:V}:∀{kvs:List (κ×V)},(kvs.map (·.1)).Nodup->((putK kvs k v).map (·.1)).Nodup:=fun {kvs} h=>by
 by_cases hk:zN kvs k=none
 ·exact aF4 v h hk
 ·unfold putK;rw [if_pos (by rw [oJ];exact Option.isSome_iff_ne_none.mpr hk),List.map_map];have:(fun x:κ×V=>x.1) ∘ (fun kv:κ×V=>if kv.1=k then (kv.1,v) else kv)=fun x=>x.1:=by
   funext q
   simp only [Function.comp];split <;> rfl
  rw [this];exact h
theorem wV {P:Addr->Prop} {H:Hp} {k:Key} {v:V} {d:D} (rv:Rep P H v d):∀{kvs:List (Key×V)} {ds:List (D×D)},lW P H kvs ds->(kvs.map (·.1)).Nodup->lW P H (putK kvs k v) (putD ds (kD k) d)
 | _,_,.nil,_=>.cons rv .nil
 | _,_,.cons (k:=k') (v:=v') (r:=rs) r t,hn=>by
  rw [List.map_cons] at hn;obtain ⟨h1,h2⟩:=List.nodup_cons.mp hn;rw [putD,XS];by_cases h:k'=k
  ·subst h;rw [if_pos (by simp),CJ rfl h1];exact .cons rv t
  ·rw [if_neg (by simpa using h),CK (p:=(k',v')) h];exact .cons r (wV rv t h2)
theorem CN {P:Addr->Prop} {H:Hp} {k:List Key} {v:V} {d:D} (rv:Rep P H v d):∀{kvs:List (List Key×V)} {ds:List (D×D)},q_ P H kvs ds->(kvs.map (·.1)).Nodup->q_ P H (putK kvs k v) (putD ds (.tup (k.map kD)) d)
 | _,_,.nil,_=>.cons rv .nil
 | _,_,.cons (k:=k') (v:=v') (r:=rs) r t,hn=>by
  rw [List.map_cons] at hn;obtain ⟨h1,h2⟩:=List.nodup_cons.mp hn;rw [putD,aFa];by_cases h:k'=k
  ·subst h;rw [if_pos (by simp),CJ rfl h1];exact .cons rv t
  ·rw [if_neg (by simpa using h),CK (p:=(k',v')) h];exact .cons r (CN rv t h2)
theorem lW.length {P:Addr->Prop} {H:Hp}:∀{kvs:List (Key×V)} {ds:List (D×D)},lW P H kvs ds->kvs.length=ds.length
 | _,_,.nil=>rfl
 | _,_,.cons _ t=>by rw [List.length_cons,List.length_cons,lW.length t]
theorem q_.length {P:Addr->Prop} {H:Hp}:∀{kvs:List (List Key×V)} {ds:List (D×D)},q_ P H kvs ds->kvs.length=ds.length
 | _,_,.nil=>rfl
 | _,_,.cons _ t=>by rw [List.length_cons,List.length_cons,q_.length t]
theorem xP {H:Hp} {a:Addr} {o ob:HO} (ha:H a=some ob) (hm:QM ob=true):aAr (fun _=>False) H (L2.upd H a o):=fun c oc hc h=>by
 rw [bB]
 ·exact hc
 ·intro z;subst z;rcases h with h|h
  ·exact h.elim
  ·rw [ha] at hc;cases hc;rw [hm] at h;cases h
theorem m8 {d:D} {k:D} (hd:d.pure=true):∀{ds:List (D×D)},D.aX (ds.map (·.2))=true->D.aX ((putD ds k d).map (·.2))=true
 | [],_=>by simp [putD,D.aX,hd]
 | (q,w)::r,h=>by
  rw [List.map_cons,D.aX,Bool.and_eq_true] at h;rw [putD];split
  ·rw [List.map_cons,D.aX,Bool.and_eq_true];exact ⟨hd,h.2⟩
  ·rw [List.map_cons,D.aX,Bool.and_eq_true];exact ⟨h.1,m8 hd h.2⟩
theorem aIp {pins:List (Addr×Obj)} {s:Shared} {σ:L2.St} {H:Hp} {ad:Addr} {y v:V} {ds:List (D×D)} {k d:D} (I:Inv X pins σ H s) (rd:Rep All H (.ref ad) (.dct ds)) (hin:D.aX (ds.map (·.2))=true) (rk:Rep All H y k) (hk:xJ ds k=true) (hl:ds.length<sizeLine) (rv:Rep All H v d) (hd:d.pure=true) :
  ∃H1 o,Inv X pins σ H1 s/\aDa H1 ad y v (L2.upd H ad o)/\QM o=true/\Rep All (L2.upd H ad o) (.ref ad) (.dct (putD ds k d)):=by
 unfold xJ at hk;rw [Bool.and_eq_true] at hk;obtain ⟨h1,h2⟩:=hk;have rv':Rep (fun _=>False) H v d:=rv.bK hd;cases rd with
 | @dK _ kvs ds e _ r n=>
  have hlen:=r.length;rcases j6 h1 rk with ⟨q,rfl,rfl⟩|⟨b,ks,rfl,eb,rfl⟩
  ·refine ⟨H,.dK (putK kvs q v),I,.k e (by lia),rfl,.dK aL trivial ?_ (j7 n)⟩;exact (wV rv' (r.bK hin) n).keep (xP e rfl) fun _ z=>z.elim
  ·cases r with
   | nil=>
    refine ⟨L2.upd H ad (.dT []),.dT (putK [] ks v),sJ I e,?_,rfl,.dT aL trivial ?_ (j7 List.nodup_nil)⟩
    ·have:=aDa.t (H:=L2.upd H ad (.dT [])) (a:=ad) (b:=b) (kvs:=[]) (k:=ks) (v:=v) aL (by rw [bB (aEf eb e (by intro z;cases z))];exact eb) hl;rwa [MJ] at this
    ·exact (CN (k:=ks) rv' .nil List.nodup_nil).keep (xP e rfl) fun _ z=>z.elim
   | cons r t=>
    rw [List.all_cons,m7] at h2;simp [isTup] at h2
 | @dT _ kvs ds e _ r n=>
  have hlen:=r.length;rcases j6 h1 rk with ⟨q,rfl,rfl⟩|⟨b,ks,rfl,eb,rfl⟩
  ·cases r with
   | nil=>
    refine ⟨L2.upd H ad (.dK []),.dK (putK [] q v),sO I e,?_,rfl,.dK aL trivial ?_ (j7 List.nodup_nil)⟩
    ·have:=aDa.k (H:=L2.upd H ad (.dK [])) (a:=ad) (kvs:=[]) (k:=q) (v:=v) aL hl;rwa [MJ] at this
    ·exact (wV (k:=q) rv' .nil List.nodup_nil).keep (xP e rfl) fun _ z=>z.elim
   | cons r t=>
    rw [List.all_cons,m7] at h2;simp [isTup] at h2
  ·refine ⟨H,.dT (putK kvs ks v),I,.t e eb (by lia),rfl,.dT aL trivial ?_ (j7 n)⟩;exact (CN rv' (r.bK hin) n).keep (xP e rfl) fun _ z=>z.elim
theorem X8 {i:Nat} {x:Str} {p1:Pos} {value k:Expr} {fv fk:FE} {rv rk:Bool} (hu:X.A.units+20<cLine) (ho:own i=true) (hN:X.N[i]?=some x) (hvi:Vis X.env.scope x) (hk:PE X k (gE fk rk)) (hv:PE X value (gE fv rv))
  (hs:swapsWith value (some (.Subscript (.Name x p1) k pos')) pos.line X.env=pure false:=by rfl) (hd:nDb x:=by decide) (hcd:nCd x:=by decide) :
  PS X (.Assign [.Subscript (.Name x p1) k pos'] value pos) (tS own (aB9 i fk fv)):=by
 intro pins s σ H D' I ⟨ρ,fl,E,h,q⟩;obtain ⟨d,h0,h⟩:=aR h;obtain ⟨kd,h1,h2⟩:=aR h;split at h2
 ·rename_i kvs hx;split at h2
  ·rename_i hg;cases h2;simp only [Bool.and_eq_true] at hg;obtain ⟨⟨hg1,hg2⟩,hg3⟩:=hg;obtain ⟨a,o,hσ,r,hin,ha,hm⟩:=E.ownAt ho (by rw [hx];intro z;cases z);rw [hx] at r hin;refine wpAny_Assign_Subscript (thn (hv pins s σ H (fun v H1=>b_ H H1/\Rep All H1 v d) I ⟨ρ,d,E.er,h0,fun v H1 s1 r1 _=>⟨s1,r1⟩⟩) fun rr s1 ⟨v,H1,I1,rv1,sm1,rp1⟩=>
    thn (bW hN hvi hd hcd pins s1 σ H1 (fun w H2=>w=.ref a/\H2=H1) I1 ⟨_,hσ,rfl,rfl⟩) fun u s2 ⟨xx,H2,I2,rx,ex,eH⟩=>
    thn (hk pins s2 σ H2 (fun w H3=>b_ H2 H3/\Rep All H3 w kd) I2 ⟨ρ,kd,by rw [eH];exact E.er.same sm1,h1,fun v H1 s1 r1 _=>⟨s1,r1⟩⟩) fun iv s3 ⟨y,H3,I3,ry,sm3,rp3⟩=>?_) hs
   subst ex eH;obtain rfl:u=Value.ref a:=rx;have sm:=sm1.trans sm3;obtain ⟨H4,o4,I4,g,hmo,rp⟩:=aIp I3 (r.same sm) hin rp3 hg2 (XM hg1) (rp1.same sm3) hg3;obtain ⟨E2,k2⟩:=(E.same sm).mut ho hσ hmo rp (m8 hg3 hin);exact HX (by lia) I4 g ry rv1 fun s4 I5=>⟨σ,_,I5,q _ _ ((KU.same sm).trans k2) E2⟩
  ·cases h2
 ·cases h2
noncomputable def TgS (own:Nat->Bool) (g:TG) (t:D->List D->Res (List D)):Prop:=∀(v:V) (d:D) (ρ ρ':List D) (σ:L2.St) (H:Hp) (Q:L2.St->Hp->Prop),ES own H σ ρ->Rep (fun a=>¬Own own σ a) H v d->t d ρ=.ok ρ'->
 (∀σ',ES own H σ' ρ'->(∀a,Own own σ' a↔Own own σ a)->Q σ' H)->g v σ H Q
theorem iG {i:Nat} (ho:own i=false):TgS own (o9 i) (tg1 i):=fun v d ρ ρ' σ H Q E r h q=>by
 cases h;exact q _ (E.set ho r) fun a=>lD ho a
theorem ES.sets {H:Hp}:∀{is:List Nat} {vs:List V} {ds:List D} {σ:L2.St} {ρ:List D},(∀i∈is,own i=false)->ES own H σ ρ->bQ (fun a=>¬Own own σ a) H vs ds->ES own H (mO is vs σ) (M8 is ds ρ)/\∀a,Own own (mO is vs σ) a↔Own own σ a
 | [],_,_,_,_,_,E,_=>by simp only [mO,M8];exact ⟨E,fun _=>trivial⟩
 | i::is,_,_,σ,ρ,h,E,.nil=>by simp only [mO,M8];exact ⟨E,fun _=>trivial⟩
 | i::is,_,_,σ,ρ,h,E,.cons (v:=v) r t=>by
  have ho:=h i (List.mem_cons_self ..);have hO:(fun a=>¬Own own (σ.set i (some v)) a)=fun a=>¬Own own σ a:=funext fun a=>by rw [lD ho]
  obtain ⟨h1,h2⟩:=ES.sets (is:=is) (fun j hj=>h j (List.mem_cons_of_mem _ hj)) (E.set ho r) (by rw [hO];exact t);exact ⟨h1,fun a=>(h2 a).trans (lD ho a)⟩
theorem nQ (K:PySem.W.Frag) {is:List Nat} (ho:∀i∈is,own i=false):TgS own (aLl K is.length (gIx is)) (tgN is):=fun v d ρ ρ' σ H Q E r h q=>by
 cases d <;> simp only [tgN] at h <;> (try (cases h;done))
 split at h
 ·rename_i hl;cases h;have hl':=of_decide_eq_true hl;obtain ⟨a,xs,rfl,e,rr⟩:=r.gD;obtain ⟨h1,h2⟩:=E.sets ho rr;exact ⟨a,xs,rfl,.of e,by rw [rr.length];exact hl',BZ _ _ _ (by rw [rr.length];exact hl') (q _ h1 h2)⟩
 ·cases h
theorem ItQ.ku {K:PySem.W.Frag} {J:It} {items:List D} {σ σ':L2.St} {H H':Hp} {ρ:List D} (h:ItQ K (fun a=>¬Own own σ a) J H items) (k:KU own σ H σ' H') (E:ES own H σ ρ):ItQ K (fun a=>¬Own own σ' a) J H' items:=by
 cases h with
 | lst a e r=>exact .lst a e (k.rep E r)
 | tup a e r=>exact .tup a e (k.rep E r)
 | rng lo n e r=>exact .rng lo n e r
 | chs x e r=>exact .chs x e r
 | enm a ds e r h=>exact .enm a ds e (k.rep E r) h
 | enf m a ds e r h=>exact .enf m a ds e (k.rep E r) h
 | zip a b ds es e r q n h=>exact .zip a b ds es e (k.rep E r) (k.rep E q) n h
 | scr a hK e r=>exact .scr a hK e (k.rep E r)
theorem CP {K:PySem.W.Frag} {g:TG} {t:D->List D->Res (List D)} {body:FS} {D':Ends} {J:It} {items:List D} {σ:L2.St} {H1:Hp} {ρ:List D} {fl:Fl} (tg:TgS own g t) (E:ES own H1 σ ρ) (hJ:ItQ K (fun a=>¬Own own σ a) J H1 items) (hf:gQ t body items ρ=.ok fl) (q:kS own D' σ H1 fl) :
  ∃W:Nat->Nat->L2.St->Hp->Prop,(∃m,W 0 m σ H1)/\∀i m σ H,W i m σ H->
   (J.stop i H/\D'.nx σ H)\/(J.go i H/\∃N:L2.St->Hp->Prop,(∀σ' H',N σ' H'->∃m',m'<m/\W (i+1) m' σ' H')/\∀x H',J.yld i H x H'->g x σ H' fun σ2 H2=>tS own body {D' with nx:=N,ct:=N,bk:=D'.nx} σ2 H2):=by
 refine ⟨fun i m σ' H'=>m=items.length-i/\i<=items.length/\ItQ K (fun a=>¬Own own σ' a) J H' items/\∃ρ',ES own H' σ' ρ'/\gQ t body (items.drop i) ρ'=.ok fl/\kS own D' σ' H' fl,⟨items.length,rfl,Nat.zero_le _,hJ,ρ,E,hf,q⟩,?_⟩;rintro i m σ' H' ⟨rfl,hi,hJ',ρ',E',hf',q'⟩;rcases Nat.lt_or_ge i items.length with hlt|hge
 ·refine .inr ?_;have e:items[i]?=some items[i]:=List.getElem?_eq_getElem hlt;obtain ⟨g1,g2⟩:=hJ'.go e;rw [List.drop_eq_getElem_cons hlt] at hf';obtain ⟨ρ1,h1,hf2⟩:=aR hf';obtain ⟨r,h2,hf3⟩:=aR hf2;refine ⟨g1,fun σ2 H2=>ItQ K (fun a=>¬Own own σ2 a) J H2 items/\∃ρ',ES own H2 σ2 ρ'/\gQ t body (items.drop (i+1)) ρ'=.ok fl/\kS own D' σ2 H2 fl,fun σ2 H2 ⟨n1,n2⟩=>⟨items.length-(i+1),by lia,rfl,hlt,n1,n2⟩,fun x H2 hy=>?_⟩;obtain ⟨sH,rx⟩:=g2 x H2 hy;have ks:KU own σ' H' σ' H2:=fun a o e n=>⟨sH a o e,n⟩
  have hJ':=hJ'.ku ks E';have q':=q'.step ks;have E':=E'.same sH;refine tg x items[i] ρ' ρ1 σ' H2 _ E' rx h1 fun σ2 E2 hO=>?_
  have k0:KU own σ' H2 σ2 H2:=fun a o e n=>⟨e,by rw [hO];exact n⟩
  have hJ2:=hJ'.ku k0 E';have q2:=q'.step k0;refine ⟨ρ1,r,E2,h2,?_⟩;cases r with
  | nx ρ2=>exact fun σ3 H3 k3 E3=>⟨hJ2.ku k3 E2,ρ2,E3,hf3,q2.step k3⟩
  | ct ρ2=>exact fun σ3 H3 k3 E3=>⟨hJ2.ku k3 E2,ρ2,E3,hf3,q2.step k3⟩
  | bk ρ2=>cases hf3;exact fun σ3 H3 k3 E3=>q2 σ3 H3 k3 E3
  | rt d=>cases hf3;exact q2
 ·refine .inl ⟨hJ'.stop hge,?_⟩;rw [List.drop_eq_nil_of_le hge] at hf';cases hf';exact q' σ' H' (fun a o e n=>⟨e,n⟩) E'
theorem JF {tg iter:Expr} {body:List Stmt} {g:TG} {t:D->List D->Res (List D)} {it:FI} {fb:FS} (hp:PassesOwn (model X.prog X.w) X.A X.env X.xe) (hc:X.calm=true) (hi:PI X tg iter (gI X.K it)) (ht:TgS own g t) (hg:PG X tg g) (hb:PSs X body (tS own fb))
  (hs:∀x,foldedSetIterable iter X.env x=pure x:=by intro _;rfl):PS X (.For tg iter body [] pos) (tS own (yU it t fb)):=PS.imp (G9 hp hc hi hg hb hs) fun D' σ H ⟨ρ,fl,E,h,q⟩=>by
 obtain ⟨⟨items,k⟩,h1,h2⟩:=aR h;split at h2
 ·rename_i hk;exact ⟨ρ,items,k,E.er,h1,fun J H1 s1 _ hJ=>CP ht (E.same s1) ((hJ hk).keep (fun _ _ e _=>e) fun a ha ho=>by
   obtain ⟨o,e1,_⟩:=E.live ho;rw [show H a=none from ha] at e1;cases e1) h2 (q.step (.same s1))⟩
 ·cases h2
theorem xQ {tg:Expr} {body:List Stmt} {g:TG} {t:D->List D->Res (List D)} {i:Nat} {x:Str} {px:Pos} {fb:FS} (ho:own i=false) (hp:PassesOwn (model X.prog X.w) X.A X.env X.xe) (hc:X.calm=true) (hN:X.N[i]?=some x) (hv:Vis X.env.scope x) (ht:TgS own g t) (hg:PG X tg g) (hb:PSs X body (tS own fb))
  (hs:∀z,foldedSetIterable (.Name x px) X.env z=pure z:=by intro _;rfl) (hd:nDb x:=by decide) (hcd:nCd x:=by decide):PS X (.For tg (.Name x px) body [] pos) (tS own (iD i t fb)):=PS.imp (G9 hp hc (aDg hN hv hd hcd) hg hb hs) fun D' σ H ⟨ρ,fl,E,h,q⟩=>by
 obtain ⟨d,h1,h⟩:=aR h;obtain ⟨items,h2,h3⟩:=aR h;obtain ⟨v,hv,r,e⟩:=E.er.var h1;have hne:ρ.getD i .uD≠.uD:=fun z=>by
  rw [z] at e;subst e;exact Rep.uD r
 obtain ⟨w,hw,hr⟩:=E.at_ i hne;rw [hv] at hw;cases hw;have r2:=hr ho;rw [e] at r2;exact ⟨v,d,items,hv,r,h2,fun J hJ=>CP ht E (hJ _ r2) h3 q⟩
theorem Q9 {own:Nat->Bool} {N ps:List Str} {vs:List V} {ds:List D} {H:Hp} (hst:start N vs=vs.map some++List.replicate (N.length-ps.length) none) (hl:ds.length=ps.length) (r:bQ All H vs ds) (hown:∀i,i<ps.length->own i=false) (noown:∀a,¬Own own (start N vs) a):ES own H (start N vs) (ds++List.replicate (N.length-ps.length) .uD):=by
 refine ⟨by rw [hst];simp [r.length],fun i hi=>?_,fun i v hi hv=>?_⟩
 ·have hlt:i<ds.length:=Nat.lt_of_not_le fun hge=>hi (by
   rw [List.getD_eq_getElem?_getD,List.getElem?_append_right hge,List.getElem?_replicate];split <;> rfl)
  have e:(ds++List.replicate (N.length-ps.length) D.uD).getD i .uD=ds[i]:=by
   rw [List.getD_eq_getElem?_getD,List.getElem?_append_left hlt,List.getElem?_eq_getElem hlt];rfl
  obtain ⟨v,g1,g2⟩:=r.get (i:=i) (d:=ds[i]) (by simp [hlt]);refine ⟨v,by rw [hst,List.getElem?_append_left (by simp [r.length,hlt])];simp [g1],fun _=>?_⟩;rw [e];exact g2.mono fun a _=>noown a
 ·exfalso;rw [hst] at hv;by_cases h:i<ps.length
  ·rw [hown i h] at hi;cases hi
  ·rw [List.getElem?_append_right (by simp [r.length,hl];lia)] at hv;rw [List.getElem?_replicate] at hv;split at hv <;> cases hv
theorem X_ {own:Nat->Bool} {N ps:List Str} {f:FS} {vs:List V} {H:Hp} {Q:VK} {E:XK} (hx:own rtX=false) (hown:∀i,i<ps.length->own i=false) (h0:spD (fnS ps.length N.length f) ps.length vs H Q E):tS own f {nx:=fun _ H'=>Q .non H',rt:=Q} (start N vs) H:=by
 obtain ⟨ds,d,hl,r,h,q⟩:=h0
 ·obtain ⟨fl,h1,h2⟩:=aR h;have hst:start N vs=vs.map some++List.replicate (N.length-ps.length) none:=by
   show vs.map some++List.replicate (N.length-vs.length) none=_;rw [r.length,hl]
  have noown:∀a,¬Own own (start N vs) a:=fun a ⟨i,hi,e⟩=>by
   rw [hst] at e;by_cases h:i<ps.length
   ·rw [hown i h] at hi;cases hi
   ·rw [List.getElem?_append_right (by simp [r.length,hl];lia)] at e;rw [List.getElem?_replicate] at e;split at e <;> cases e
  have E0:ES own H (start N vs) (ds++List.replicate (N.length-ps.length) .uD):=Q9 hst hl r hown noown;refine ⟨_,fl,E0,h1,?_⟩;have sm:∀{σ':L2.St} {H':Hp},KU own (start N vs) H σ' H'->b_ H H':=fun k a o e=>(k a o e (noown a)).1
  cases fl with
  | nx ρ'=>cases h2;exact fun σ' H' k E'=>q .non H' (sm k) .non fun _=>.non
  | rt d'=>
   cases h2;refine kRt.mk hx fun v H' hk rp=>q v H' (fun a o e=>hk a o e (noown a)) rp.all fun _=>rp.mono fun a ha=>?_
   rcases ha with ha|ha
   ·exact absurd ha (noown a)
   ·exact ha
  | bk ρ'=>cases h2
  | ct ρ'=>cases h2
theorem aIq {P:Program} {w:World} {K:PySem.W.Frag} {mg:Str->Option Value} {base:Heap} {x qual:Str} {st:Stmt} {fad:Addr} {fd:FuncData} {N ps:List Str} {k:Nat} {f:FS} (F:Fun K x qual st fad fd) (S:bO N ps (aH st)) (own:Nat->Bool) (hown:∀i,i<ps.length->own i=false) (hNl:ps.length<=N.length)
  (hbody:∀(cdv:Value) (A:Around) (outer:List Env) (s:Shared) (H:Hp) (E:XK),jX k (A.deeper (envOfC qual (aH st) s.heap.objs.size fad cdv))->PSs (lY CX0 P w K mg base N qual (aH st) fad cdv A outer s H E).nox (cZ st) (tS own f)) (hx:own rtX=false:=by rfl):o7 P w K mg base CX0 (k+1) fad fd ps (spD (fnS ps.length N.length f) ps.length):=
 F.ok S (fun vs H Q E h=>aFe h) fun cdv A outer s H vs Q E hr h=>⟨_,hbody cdv A outer s H E hr,X_ hx hown h⟩
end
structure aM5 where
 s₀:Shared
 H₀:Hp
 env:Env
 outer:List Env
 stack:List Env
 ex:List Addr
 fn:Str->Bool
 pn:List (Addr×Obj)
noncomputable abbrev mkC (X:Cx) (scope:Scope) (ownN:List Str) (y:aM5):Cx:=
 {X with N:=X.N.map (gF ownN)++ownN,s₀:=y.s₀,H₀:=y.H₀,env:={y.env with scope:=relabel scope X.env},outer:=y.outer,stack:=y.stack,ex:=y.ex,fn:=y.fn,pn:=y.pn,xe:=fun _ _=>False}
theorem j8 {X X':Cx} {scope:Scope} {ownN:List Str} (cc:cP X X' scope ownN):∃y,X'=mkC X scope ownN y:=by
 refine ⟨⟨X'.s₀,X'.H₀,X'.env,X'.outer,X'.stack,X'.ex,X'.fn,X'.pn⟩,?_⟩;obtain ⟨h1,h2,h3,h4,h5,h6,h7,h8,h9,h10⟩:=cc;cases X' with
 | mk a b c d e f g h i j k l m n o p q=>
  cases j;dsimp only at *;subst h1 h2 h3 h4 h5 h6 h7 h8 h9 h10;rfl
section
variable {own:Nat->Bool} {X:Cx} {scope:Scope} {ownN:List Str} {elt iter tg c:Expr} {it:FI} {t:D->Res (List D)} {g:TG} {gc:FT} {fe:FE} {re:Bool} {pos:Pos} {n m:Nat}
theorem wW (S:cD X.N X.env.scope scope ownN) (hn:X.N.length=n) (hm:ownN.length=m) (hcalm:X.calm=true) (hi:PI X tg iter (gI X.K it)) (ht:TgC g t n m) (hg:∀y,PG (mkC X scope ownN y) tg g) (he:∀y,PE (mkC X scope ownN y) elt (gE fe re))
  (hs:∀x,foldedSetIterable iter X.env x=pure x):PE X (.ListComp elt [⟨tg,iter,[],0⟩] scope pos) (gE (cN n it t eE fe re) true):=
 aFg S hn hm hcalm hi ht (fun X' cc=>by obtain ⟨y,rfl⟩:=j8 cc;exact hg y) (fun X' cc=>by obtain ⟨y,rfl⟩:=j8 cc;exact he y) hs
theorem UL (S:cD X.N X.env.scope scope ownN) (hn:X.N.length=n) (hm:ownN.length=m) (hcalm:X.calm=true) (hi:PI X tg iter (gI X.K it)) (ht:TgC g t n m) (hg:∀y,PG (mkC X scope ownN y) tg g) (hc:∀y,PT (mkC X scope ownN y) c (gT gc)) (he:∀y,PE (mkC X scope ownN y) elt (gE fe re))
  (hs:∀x,foldedSetIterable iter X.env x=pure x):PE X (.ListComp elt [⟨tg,iter,[c],0⟩] scope pos) (gE (cN n it t gc fe re) true):=
 X6 S hn hm hcalm hi ht (fun X' cc=>by obtain ⟨y,rfl⟩:=j8 cc;exact hg y) (fun X' cc=>by obtain ⟨y,rfl⟩:=j8 cc;exact hc y) (fun X' cc=>by obtain ⟨y,rfl⟩:=j8 cc;exact he y) hs
theorem iR {y:Str} {py pos2:Pos} {iy:Nat} {o:Bool} (S:cD X.N X.env.scope scope ownN) (hn:X.N.length=n) (hm:ownN.length=m) (hcalm:X.calm=true) (hi:PI X tg iter (gI X.K it)) (ht:TgC g t n m) (hg:∀y,PG (mkC X scope ownN y) tg g) (he:∀y,PE (mkC X scope ownN y) elt (gE fe re))
  (hs:∀x,foldedSetIterable iter X.env x=pure x) (ho:own iy=o) (hNn:X.N.Nodup) (hiy:X.N[iy]?=some y) (hxy:Loc X.env.scope y) (hfy:X.fn y=true\/X.env.scope.names.lookup y=some .local) (hsw:swapsWith (.ListComp elt [⟨tg,iter,[],0⟩] scope pos) (some (.Name y py)) pos2.line X.env=pure true) :
  PS X (.Assign [.Name y py] (.ListComp elt [⟨tg,iter,[],0⟩] scope pos) pos2) (tS own (bV o iy (cN n it t eE fe re) true)):=
 aFj S hn hm hcalm hi ht (fun X' cc=>by obtain ⟨y,rfl⟩:=j8 cc;exact hg y) (fun X' cc=>by obtain ⟨y,rfl⟩:=j8 cc;exact he y) hs ho hNn hiy hxy hfy hsw
theorem UT {y:Str} {py pos2:Pos} {iy:Nat} {o:Bool} (S:cD X.N X.env.scope scope ownN) (hn:X.N.length=n) (hm:ownN.length=m) (hcalm:X.calm=true) (hi:PI X tg iter (gI X.K it)) (ht:TgC g t n m) (hg:∀y,PG (mkC X scope ownN y) tg g) (hc:∀y,PT (mkC X scope ownN y) c (gT gc)) (he:∀y,PE (mkC X scope ownN y) elt (gE fe re))
  (hs:∀x,foldedSetIterable iter X.env x=pure x) (ho:own iy=o) (hNn:X.N.Nodup) (hiy:X.N[iy]?=some y) (hxy:Loc X.env.scope y) (hfy:X.fn y=true\/X.env.scope.names.lookup y=some .local) (hsw:swapsWith (.ListComp elt [⟨tg,iter,[c],0⟩] scope pos) (some (.Name y py)) pos2.line X.env=pure true) :
  PS X (.Assign [.Name y py] (.ListComp elt [⟨tg,iter,[c],0⟩] scope pos) pos2) (tS own (bV o iy (cN n it t gc fe re) true)):=
 X7 S hn hm hcalm hi ht (fun X' cc=>by obtain ⟨y,rfl⟩:=j8 cc;exact hg y) (fun X' cc=>by obtain ⟨y,rfl⟩:=j8 cc;exact hc y) (fun X' cc=>by obtain ⟨y,rfl⟩:=j8 cc;exact he y) hs ho hNn hiy hxy hfy hsw
end
def aN0:FS:=fun _=>.bad
theorem aFk {X:Cx} {own:Nat->Bool} {st:List Stmt}:PSs X st (tS own aN0):=fun pins s σ H D I h=>by
 obtain ⟨_,_,_,h,_⟩:=h;cases h
noncomputable def oR (P:Program) (w:World) (K:PySem.W.Frag) (mg:Str->Option Value) (base:Heap) (k:Nat) (x:Str) (n:Nat) (f:List D->Res D):Prop:=
 ∃(fad:Addr) (fd:FuncData) (ps:List Str),o7 P w K mg base CX0 k fad fd ps (spD f n)/\mg x=some (.ref fad)/\PySem.W.keepIn K (.ref fad)=true/\Binds K fd ps []
section
variable {X:Cx} {e:Expr} {es:List Expr} {pos p:Pos} {fs:FA} {rr:Bool} {x:Str} {k n:Nat} {f:List D->Res D}
theorem iT {k':Nat} (C:oR X.prog X.w X.K X.mg X.base k x n f) (hr:jX k' X.A) (hkk:k<=k') (hg:Gl X x) (ha:PA X (e::es) (gA fs rr)) (hdb:nDb x:=by decide) (he:starEach (e::es) X.env=(false,eval e X.env)::starEach es X.env:=by rfl) (hpl:(backTo pos (starEach es X.env)).any (·.1)=false:=by rfl) :
  PE X (.Call (.Name x p) (e::es) [] pos) (gE (aV (iK n f) fs) true):=by
 obtain ⟨fad,fd,ps,F,hm,hk,hb⟩:=C;exact aFf F (hr.mono hkk) hg hm hk hb ha hdb he hpl
theorem JG {P:Program} {w:World} {K:PySem.W.Frag} {mg:Str->Option Value} {base:Heap} {st:Stmt} {fad:Addr} {fd:FuncData} {N ps:List Str} {fs:FS} (F:Fun K x x st fad fd) (hm:mg x=some (.ref fad)) (hb:Binds K fd ps []) (S:bO N ps (aH st)) (own:Nat->Bool) (hown:∀i,i<ps.length->own i=false) (hNl:ps.length<=N.length)
  (hbody:∀(cdv:Value) (A:Around) (outer:List Env) (s:Shared) (H:Hp) (E:XK),jX k (A.deeper (envOfC x (aH st) s.heap.objs.size fad cdv))->PSs (lY CX0 P w K mg base N x (aH st) fad cdv A outer s H E).nox (cZ st) (tS own fs)) (hx:own rtX=false:=by rfl):oR P w K mg base (k+1) x ps.length (fnS ps.length N.length fs):=
 ⟨fad,fd,ps,aIq F S own hown hNl hbody hx,hm,F.kp,hb⟩
end
theorem G4 {A:Around} {k:Nat} (hr:jX k A):A.units+20<cLine:=Nat.lt_of_le_of_lt (Nat.add_le_add_left (by decide:20<=64) _) hr.units
structure Bt (mg:Str->Option Value):Prop where
 len:mg "len" = none
 min:mg "min" = none
 max:mg "max" = none
 list:mg "list" = none
 tuple:mg "tuple" = none
 sorted:mg "sorted" = none
 range:mg "range" = none
 isi:mg "isinstance" = none
 int:mg "int" = none
 bool:mg "bool" = none
 str:mg "str" = none
 dict:mg "dict" = none
 all:mg "all" = none
 enum:mg "enumerate" = none
 sum:mg "sum" = none
 zip:mg "zip" = none
 abs:mg "abs" = none
 reversed:mg "reversed" = none
theorem g_:bootBuiltins "len" = some (.builtin "len"):=by decide +kernel
theorem iU:bootBuiltins "isinstance" = some (.builtin "isinstance"):=by decide +kernel
theorem aFl:bootBuiltins "list" = some (.type "list"):=by decide +kernel
theorem iV:bootBuiltins "tuple" = some (.type "tuple"):=by decide +kernel
theorem YB:bootBuiltins "str" = some (.type "str"):=by decide +kernel
theorem aFm:bootBuiltins "dict" = some (.type "dict"):=by decide +kernel
theorem ints_rep {P:Addr->Prop} {H:Hp}:∀ns:List Int,bQ P H (ns.map V.int) (ns.map D.int)
 | []=>.nil
 | n::ns=>.cons (.int n) (ints_rep ns)
end Mi
namespace Mi
open PySem L2
theorem YC {K:PySem.W.Frag} {f:List D->Res D} {H:Hp} {a:Addr} {ns:List Int} {E:XK} (main:∀ns:List Int,ns.length<=63->f [.scr (ns.map D.int)]=.ok (.bl true)) (hl:ns.length<=63) (hO:Only H) (hS:SqL K H a (ns.map V.int)):@spD ⟨K⟩ f 1 [.ref a] H (fun v _=>v=.bl true) E:=by
 letI:KFrag:=⟨K⟩
 refine ⟨[.scr (ns.map D.int)],.bl true,rfl,.cons (.frz ?_ (ints_rep ns)) .nil,main ns hl,fun v H' s r n=>by cases r;rfl⟩;rcases hS with (h|⟨o,h⟩)|h
 ·rcases hO a with z|⟨o,xs,z⟩
  ·rw [h] at z;cases z
  ·rw [h] at z;cases z
 ·exact .inl ⟨o,h⟩
 ·exact .inr h
end Mi
end
section
namespace Mi
open PySem L2 PySem.SeqAt PySem.Spec PyProof.Rows
noncomputable def YD (o:W3):D->D->Res D
 | .int a,.int b=>.ok (.bl (o.int a b))
 | .str a,.str b=>.ok (.bl (o.str a b))
 | _,_=>.bad
variable [KFrag]
theorem aIr {X:Cx} {op:CmpOp} {o:W3} (hi:∀(prog:Program) (w:World) (A:Around) (E:Value->Shared->Prop) (Q:Value->Shared->Prop) (s:Shared) (i j:Int) (t t':Tok),Q (.bool (o.int i j)) s->wpAny (model prog w) A (compareOp op (.int i t) (.int j t')) Q E s)
  (hs:∀(prog:Program) (w:World) (A:Around) (E:Value->Shared->Prop) (Q:Value->Shared->Prop) (s:Shared) (i j:Str) (t t':Tok),Q (.bool (o.str i j)) s->wpAny (model prog w) A (compareOp op (.str i t) (.str j t')) Q E s):OpR X (compareOp op) (r2 (YD o) true):=by
 intro pins s σ H x y v u Q I rx ry ⟨a,b,d,p,q,e,k⟩;unfold YD at e;split at e
 ·cases e;cases p;cases q;obtain ⟨t,rfl⟩:=rx;obtain ⟨t',rfl⟩:=ry;exact hi _ _ _ _ _ _ _ _ _ _ ⟨.bl _,H,I,rfl,k.bl⟩
 ·cases e;cases p;cases q;obtain ⟨t,rfl⟩:=rx;obtain ⟨t',rfl⟩:=ry;exact hs _ _ _ _ _ _ _ _ _ _ ⟨.bl _,H,I,rfl,k.bl⟩
 ·cases e
theorem aM6 {X:Cx}:OpR X (compareOp .Lt) (r2 (YD .lt) true):=aIr (fun _ _ _ _ _ _ _ _ _ _ h=>lt_int h) fun _ _ _ _ _ _ _ _ _ _ h=>lt_str h
theorem aM7 {X:Cx}:OpR X (compareOp .LtE) (r2 (YD .le) true):=aIr (fun _ _ _ _ _ _ _ _ _ _ h=>le_int h) fun _ _ _ _ _ _ _ _ _ _ h=>PySem.P.le_str h
end Mi
end
section
namespace Mi
open PySem L2 PySem.SeqAt PySem.Spec PyProof.Rows
noncomputable def CQ:D->D->Res D
 | .str x,.int n=>if decide (0<=n)&&decide (n<=100000)&&decide (x.length*n.toNat<=lim) then .ok (.str (Txt.mul x n)) else .bad
 | a,b=>aU .mul a b
noncomputable def inX:D->D->Res D
 | .str c,.str x=>.ok (.bl (!(Builtin.Str.occurrences x c 0 x.length 1).isEmpty))
 | a,b=>cC .isin a b
noncomputable def aIs:D->Option Int->Option Int->Res D
 | .str x,lo,hi=>if decide (x.length<=lim) then .ok (.str (Txt.slice x lo hi)) else .bad
 | d,lo,hi=>aLb d lo hi
noncomputable def m9 (a:FE) (lo hi:List D->Res (Option Int)):FE:=fun ρ=>do let x <- a ρ;let l <- lo ρ;let h <- hi ρ;aIs x l h
noncomputable def JH:D->Res (List D)
 | .str x=>if decide (x.length<=lim) then .ok (JB x) else .bad
 | d=>mK d
noncomputable def bL (a:FE) (fr:Bool):FI:=fun ρ=>do let x <- a ρ;let xs <- JH x;pure (xs,fr||x.pure)
noncomputable def xR:List D->Option (List Str)
 | []=>some []
 | .str x::r=>(xR r).map (x::·)
 | _::_=>none
noncomputable def joinM:D->List D->Res D
 | .str sep,[.lst ds]=>match xR ds with
  | some ts=>if JoinOk sep ts then .ok (.str (Txt.join sep ts)) else .bad
  | none=>.bad
 | _,_=>.bad
noncomputable def xT:List D->Option (List Bool)
 | []=>some []
 | .bl x::r=>(xT r).map (x::·)
 | _::_=>none
noncomputable def aM8:List D->Res D
 | [.lst ds]=>match xT ds with
  | some bs=>.ok (.bl (bs.all id))
  | none=>.bad
 | _=>.bad
variable [KFrag]
section
variable {X:Cx}
theorem nR:OpR X (binaryOp .Mult) (r2 CQ true):=by
 intro pins s σ H x y v u Q I rx ry ⟨a,b,d,p,q,e,k⟩;by_cases hs:∃z n,a=.str z/\b=.int n
 ·obtain ⟨z,n,rfl,rfl⟩:=hs;simp only [CQ] at e;split at e
  ·rename_i hl;cases e;simp only [Bool.and_eq_true,decide_eq_true_eq] at hl;obtain ⟨⟨h0,h1⟩,h2⟩:=hl;cases p;cases q;obtain ⟨t,rfl⟩:=rx;obtain ⟨t',rfl⟩:=ry;have hz:z.length*n.toNat<=sizeLine:=Nat.le_trans h2 (by rw [sizeLine_eq];decide);refine SB.mul ⟨?_,fun h3 _=>?_,fun _ _=>?_⟩ fun t2 k2=>⟨.str _,H,I.tok k2,⟨t2,rfl⟩,k.str⟩
   ·rw [decide_eq_false (by lia),decide_eq_false (by lia)];rfl
   ·have hn:0<n:=by lia
    have h4:(z.length:Int)*n<=2 ^ 63-1:=by
     have h5:((z.length*n.toNat:Nat):Int)<=1000000:=by
      have:lim=1000000:=by unfold lim;exact Eq.refl _
      lia
     rw [Int.natCast_mul,Int.toNat_of_nonneg h0] at h5;lia
    have h6:=(Int.le_ediv_iff_mul_le hn).mpr h4;lia
   ·unfold Builtin.Str.tooLong;exact decide_eq_false (by lia)
  ·cases e
 ·have he:CQ a b=aU .mul a b:=by
   unfold CQ;split
   ·exact absurd ⟨_,_,rfl,rfl⟩ hs
   ·rfl
  rw [he] at e;exact aIi pins s σ H x y v u Q I rx ry ⟨a,b,d,p,q,e,k⟩
theorem JK (hu:X.A.units+20<cLine):OpR X (compareOp .In) (r2 inX true):=by
 intro pins s σ H x y v u Q I rx ry ⟨a,b,d,p,q,e,k⟩;by_cases hs:∃z n,a=.str z/\b=.str n
 ·obtain ⟨z,n,rfl,rfl⟩:=hs;cases e;cases p;cases q;exact V9 pins s σ H _ _ v u Q I rx ry ⟨_,_,rfl,rfl,k.bl⟩
 ·have he:inX a b=cC .isin a b:=by
   unfold inX;split
   ·exact absurd ⟨_,_,rfl,rfl⟩ hs
   ·rfl
  rw [he] at e;exact aIj hu pins s σ H x y v u Q I rx ry ⟨a,b,d,p,q,e,k⟩
theorem part_of {v:Value} {o:Option Int} (h:IsPart v o):∃l:Option (Int×Tok),partValue l=v/\l.map (·.1)=o:=by
 cases h with
 | none=>exact ⟨none,rfl,rfl⟩
 | int i t=>exact ⟨some (i,t),rfl,rfl⟩
theorem aIt (hK:KFrag.K=X.K):SlR X (fun x lo hi H Q=>∃a d,Rep All H x a/\aIs a lo hi=.ok d/\kR H d true Q):=by
 intro pins s σ H x v vl vu lo hi sl Q I rx hs pl pu ⟨a,d,p,e,k⟩;by_cases hz:∃z,a=.str z
 ·obtain ⟨z,rfl⟩:=hz;simp only [aIs] at e;split at e
  ·rename_i hl;cases e;cases p;obtain ⟨t,rfl⟩:=rx;obtain ⟨l,e1,e2⟩:=part_of pl;obtain ⟨m,e3,e4⟩:=part_of pu;subst e1 e2 e3 e4;refine ⟨"str",_,F.slot_str_getitem.lookup,typeIs_str _ _ _,?_⟩;obtain ⟨o,ho,hc,hd⟩:=hs;refine wpAny_getItem_str_slice (l:=l) (u:=m) (st:=none) ⟨o,ho,hc,hd⟩ rfl ?_;have hle:(Txt.slice z (l.map (·.1)) (m.map (·.1))).length<=sizeLine:=Nat.le_trans (Txt.slice_le ..) (lA hl);have q:∀(t':Tok) (k2:Nat),EP X pins σ Q (.str (Txt.slice z (l.map (·.1)) (m.map (·.1))) t') {s with toks:=k2}:=fun t' k2=>⟨.str _,H,I.tok k2,⟨t',rfl⟩,k.str⟩
   show Made.post (if ((1:Int)==1&&(Builtin.Str.strSliceIndices (l.map (·.1)) (m.map (·.1)) 1 z.length).length==z.length)=true then .val (.str z t) else .str ⟨((Builtin.Str.strSliceIndices (l.map (·.1)) (m.map (·.1)) 1 z.length).filterMap (z.cps[·]?)).toArray⟩) _ s;unfold Txt.slice at hle q;split
   ·rename_i hh;have:=q t s.toks;rw [if_pos hh] at this;exact this
   ·rename_i hh;rw [if_neg hh] at hle;have:=q s.toks (s.toks+1);rw [if_neg hh] at this;exact ⟨hle,this⟩
  ·cases e
 ·have he:aIs a lo hi=aLb a lo hi:=by
   unfold aIs;split
   ·exact absurd ⟨_,rfl⟩ hz
   ·rfl
  rw [he] at e;exact aM2 hK pins s σ H x v vl vu lo hi sl Q I rx hs pl pu ⟨a,d,p,e,k⟩
theorem j9 {e:Expr} {fe:FE} {re:Bool} {pos:Pos} {lo hi:Option Expr} {p2:Pos} {fl fh:List D->Res (Option Int)} (hK:KFrag.K=X.K) (he:PE X e (gE fe re)) (hl:PO X lo (gO fl)) (hh:PO X hi (gO fh)):PE X (.Subscript e (.Slice lo hi none p2) pos) (gE (m9 fe fl fh) true):=
 PE.imp (aB1 (aIt hK) he hl hh) fun σ H Q ⟨ρ,d,E,h,q⟩=>by
  obtain ⟨x,h1,h⟩:=aR h;obtain ⟨l,h2,h⟩:=aR h;obtain ⟨u,h3,h⟩:=aR h;exact ⟨ρ,x,E,h1,fun v H1 s1 r1 _=>⟨ρ,l,E.same s1,h2,fun H2 s2=>⟨ρ,u,E.same (s1.trans s2),h3,fun H3 s3=>⟨x,d,r1.same (s2.trans s3),h,q.imp ((s1.trans s2).trans s3) id⟩⟩⟩⟩
theorem Q_ {P:Addr->Prop} {H:Hp}:∀{xs:List V} {ds:List D} {its:List Value} {ts:List Str},bQ P H xs ds->Vals xs its->xR ds=some ts->∃l:List (Str×Tok),its=strValues l/\l.map (·.1)=ts
 | [],[],[],_,_,_,h=>by cases h;exact ⟨[],rfl,rfl⟩
 | _,_,_,_,.cons (d:=d) r t,.cons rv tv,h=>by
  cases d with
  | str z=>
   obtain ⟨ts,h1,h2⟩:=Option.map_eq_some_iff.mp h;cases r;obtain ⟨tk,rfl⟩:=rv;obtain ⟨l,e1,e2⟩:=Q_ t tv h1;refine ⟨(z,tk)::l,?_,?_⟩
   ·rw [e1];rfl
   ·rw [<-h2,<-e2];rfl
  | _=>simp only [xR] at h;cases h
theorem aFn:MtR X "str.join" (rm joinM true):=by
 intro pins s σ H x xs v us Q I rv vr ⟨a,ds,d,ra,rs,h,k⟩;unfold joinM at h;split at h
 ·split at h
  ·rename_i ts hts;split at h
   ·rename_i hok;cases h;obtain ⟨vv,uu,rfl,rfl,r,rk⟩:=nG rs vr;obtain ⟨l,ys,rfl,hl,rr⟩:=r.jE (K:=X.K);cases rk;cases ra;obtain ⟨t,rfl⟩:=rv;obtain ⟨its,vr',pl⟩:=lR I hl;obtain ⟨l2,e1,e2⟩:=Q_ rr vr' hts;subst e1;exact SC.join pl e2 hok fun t' k2=>⟨.str _,H,I.tok k2,⟨t',rfl⟩,k.str⟩
   ·cases h
  ·cases h
 ·cases h
theorem aBi {d:D} {ds:List D} {r:D} {v:V} {H:Hp} (h:joinM d ds=.ok r) (rp:Rep All H v d):tyV X.K "str" v H:=by
 have:∃z,d=.str z:=by
  unfold joinM at h;split at h
  ·exact ⟨_,rfl⟩
  ·cases h
 obtain ⟨z,rfl⟩:=this;cases rp;rfl
theorem RB {P:Addr->Prop} {H:Hp}:∀{xs:List V} {ds:List D} {its:List Value} {bs:List Bool},bQ P H xs ds->Vals xs its->xT ds=some bs->its=bs.map Value.bool
 | [],[],[],_,_,_,h=>by cases h;rfl
 | _,_,_,_,.cons (d:=d) r t,.cons rv tv,h=>by
  cases d <;> simp only [xT] at h <;> (try (cases h;done))
  obtain ⟨ts,h1,h2⟩:=Option.map_eq_some_iff.mp h;cases r;cases rv;rw [RB t tv h1,<-h2];rfl
theorem aIu (hc:X.calm=true):oA X (.builtin "all") (rs aM8 true):=by
 intro pins s σ H xs us Q I vr ⟨ds,d,r,e,k⟩;unfold aM8 at e;split at e
 ·split at e
  ·rename_i bs hbs;cases e;obtain ⟨vv,uu,rfl,rfl,r,v⟩:=nG r vr;obtain ⟨l,ys,rfl,hl,rr⟩:=r.jE (K:=X.K);cases v;obtain ⟨its,vr',pl⟩:=lR I hl;have hb:=RB rr vr' hbs;subst hb;have hlt:l<s.heap.objs.size:=by obtain ⟨_,e,_⟩:=pl;exact Heap.lt_size e
   refine call_all_walk (wpAny_pyIter_list pl ?_);refine ⟨_,_,_,_,_,_,fun i=>bs.getD i true,rfl,Walks.list (A:=X.A.in1) (I.ok.hd hc) _ l (Nat.ne_of_lt hlt) _,⟨⟨_,Heap.get?_push_size _ rfl,rfl,rfl⟩,pl.push _⟩,fun i v s' Q' E' hP hQ=>?_,fun h' tk hk=>?_⟩
   ·have hv:(bs.map Value.bool)[i]?=some v:=by simpa using hP
    rw [List.getElem?_map] at hv;cases hb:bs[i]? with
    | none=>rw [hb] at hv;cases hv
    | some b=>
     rw [hb] at hv;cases hv;have hQ:Q' (bs.getD i true) s':=hQ;rw [List.getD_eq_getElem?_getD,hb] at hQ;exact wpAny_truthy_bool hQ
   ·have e:(List.range (bs.map Value.bool).toArray.size).all (fun i=>bs.getD i true)=bs.all id:=by
     rw [List.size_toArray,List.length_map];have:bs=(List.range bs.length).map fun i=>bs.getD i true:=by
      apply List.ext_getElem
      ·simp
      ·intro i h1 h2;simp [h1]
     conv=>rhs;rw [this]
     rw [List.all_map];rfl
    rw [e];refine ⟨.bl _,H,I.kept fun b o e=>hk b o (fun hb=>?_) (Heap.get?_push_of_some _ e),rfl,k.bl⟩;rcases List.mem_cons.mp hb with rfl|hb
    ·exact absurd (Heap.lt_size e) (Nat.lt_irrefl _)
    ·cases hb
  ·cases e
 ·cases e
theorem aBj {P:Program} {w:World} {K:PySem.W.Frag} {tg:Expr} (x:Str) (t:Tok) (it:Addr):Turn P w K tg (aM4 x) [it] it (fun i h=>h.IsStrIter it (strIterType x) x t i) where
 mem:=by simp
 obj:=fun i h st b hb=>by
  have e:b=it:=by simpa using hb
  subst e;obtain ⟨o,e,c,d⟩:=st;exact ⟨o,e,fun v z=>by rw [d] at z;cases z⟩
 keep:=fun i h h' st k=>by
  obtain ⟨o,e,r⟩:=st;exact ⟨o,k it (by simp) o e,r⟩
 item:=by
  intro Y hP hw hK hc i pins s σ H E I hf st hg;subst hP hw hK;obtain ⟨f0,f1,f2,f3,f4,f5⟩:=hf it (by simp);have hx:x.cps[i]?=some x.cps[i]:=Array.getElem?_eq_getElem hg;have fin:∀(h':Heap) (ty:String),(["enumerate", "zip", "dict_itemiterator", "dict_reverseitemiterator", "odict_iterator", "itertools.zip_longest", "itertools.pairwise"].contains ty=false)->strIterType x=ty->h'.IsStrIter it ty x t (i+1)->Heap.SameBut it s.heap h'->
    ∃u,some (Value.str ⟨#[x.cps[i]]⟩ s.toks)=some u/\wpAny (model Y.prog Y.w) Y.A (letOwnedTupleGo tg (.ref it) u) (fun _ s2=>∃v H',Inv Y pins σ H' s2/\RelV v u/\(aM4 x).yld i H v H'/\s2.heap.IsStrIter it (strIterType x) x t (i+1)/\∀b∈[it],H' b=none) E {s with heap:=h',toks:=s.toks+1}:=by
   intro h' ty hn hty st' sb;have I1:Inv Y pins σ H {s with heap:=h',toks:=s.toks+1}:=I.turned (fun b o hb e=>(sb.2 b hb).trans e) f0 f1 f3 f4 f5;obtain ⟨o,e,c,d⟩:=id st';exact ⟨_,rfl,aAx (s:={s with heap:=h',toks:=s.toks+1}) e c d hn ⟨.str ⟨#[x.cps[i]]⟩,H,I1,⟨_,rfl⟩,⟨rfl,_,hx,rfl⟩,by rw [hty];exact st',fun b hb=>(hf b hb).1⟩⟩
  cases ha:x.cps.all (·<128)
  ·have hty:strIterType x = "str_iterator":=by simp [strIterType,ha]
   rw [hty] at st;exact wpAny_pyNext_wide_item st hx fun h' st' sb=>fin h' _ (by decide) hty st' sb
  ·have hty:strIterType x = "str_ascii_iterator":=by simp [strIterType,ha]
   rw [hty] at st;exact wpAny_pyNext_ascii_item st hx fun h' st' sb=>fin h' _ (by decide) hty st' sb
 done:=by
  intro Y hP hw hK hc i pins s σ H E I hf st hg;subst hP hw hK;obtain ⟨f0,f1,f2,f3,f4,f5⟩:=hf it (by simp);have hx:x.cps[i]?=none:=Array.getElem?_eq_none hg;cases ha:x.cps.all (·<128)
  ·have hty:strIterType x = "str_iterator":=by simp [strIterType,ha]
   rw [hty] at st;exact wpAny_pyNext_wide_end (I.ok.hd hc) st hx fun h' eb=>⟨rfl,I.turned (t':=s.toks) (fun b o hb e=>eb b o hb e) f0 f1 f3 f4 f5⟩
  ·have hty:strIterType x = "str_ascii_iterator":=by simp [strIterType,ha]
   rw [hty] at st;exact wpAny_pyNext_ascii_end (I.ok.hd hc) st hx fun h' eb=>⟨rfl,I.turned (t':=s.toks) (fun b o hb e=>eb b o hb e) f0 f1 f3 f4 f5⟩
 self:=fun _ _ _ _ _ st h=>by
  cases ha:x.cps.all (·<128)
  ·have hty:strIterType x = "str_iterator":=by simp [strIterType,ha]
   rw [hty] at st;exact wpAny_pyIter_striter_wide st h
  ·have hty:strIterType x = "str_ascii_iterator":=by simp [strIterType,ha]
   rw [hty] at st;exact wpAny_pyIter_striter_ascii st h
section
variable {tg l a:Expr} {fl fa:FE} {rl ra:Bool} {p pos:Pos}
theorem YF {pins:List (Addr×Obj)} {s1:Shared} {σ:L2.St} {H1:Hp} {R:It->Hp->Prop} {v:V} {u:Value} {d:D} {items:List D} (I1:Inv X pins σ H1 s1) (r:Rep All H1 v d) (ru:RelV v u) (hi:JH d=.ok items)
  (q:∀J,(∀P:Addr->Prop,Rep P H1 v d->ItQ X.K P J H1 items)->R J H1):wpAny (model X.prog X.w) X.A (pyIter u) (PIE X pins σ tg R) X.xe s1:=by
 by_cases hz:∃z,d=.str z
 ·obtain ⟨z,rfl⟩:=hz;simp only [JH] at hi;split at hi
  ·cases hi;cases r;obtain ⟨t,rfl⟩:=ru;refine wpAny_pyIter_strU ?_;refine ⟨s1.heap.objs.size,[s1.heap.objs.size],_,_,H1,rfl,I1.kept (t':=s1.toks) fun b o e=>Heap.get?_push_of_some _ e,aBj z t _,⟨_,Heap.get?_push_size _ rfl,rfl,rfl⟩,fun b hb=>?_,q _ fun P r=>.chs z rfl rfl⟩;have e:b=s1.heap.objs.size:=by simpa using hb
   subst e;exact I1.aHs (Nat.le_refl _) (I1.hok.fresh (Nat.le_refl _))
  ·cases hi
 ·have he:JH d=mK d:=by
   unfold JH;split
   ·exact absurd ⟨_,rfl⟩ hz
   ·rfl
  rw [he] at hi;exact BX I1 r ru hi q
theorem eU (hl:PE X l (gE fl rl)):PI X tg l (gI X.K (bL fl rl)):=by
 intro pins s σ H R I ⟨ρ,items,k,E,h,q⟩;obtain ⟨d,h1,h⟩:=aR h;obtain ⟨its,h2,h⟩:=aR h;cases h;refine thn (hl pins s σ H _ I ⟨ρ,d,E,h1,fun v H1 s1 r1 n1=>(show (∃d',Rep All H1 v d/\d'=d/\∀J,(∀P:Addr->Prop,Rep P H1 v d->ItQ X.K P J H1 items)->R J H1) from ⟨d,r1,rfl,fun J hJ=>q J H1 s1 (hJ _ r1) fun hk=>hJ _ ?_⟩)⟩) fun u s1 ⟨v,H1,I1,ru,d',r1,e,q1⟩=>YF I1 r1 ru h2 q1
 rw [Bool.or_eq_true] at hk;rcases hk with hk|hk
 ·exact n1 hk
 ·exact r1.bK hk
theorem NQ {pins:List (Addr×Obj)} {s:Shared} {σ:L2.St} {H:Hp} {h':Heap} {t':Nat} {ch:List Addr} {a:Addr} {o:HO} (I:Inv X pins σ H s) (k:∀b u,b∉ch->s.heap.get? b=some u->h'.get? b=some u) (hf:∀b∈ch,QB X pins H b) (hp:s.heap.objs.size<=a)
  (new:gR X.prog X.w (upd H a o) h' a o):Inv X pins σ (upd H a o) {s with heap:=h',toks:=t'}:=by
 have hn:H a=none:=I.hok.fresh hp;have nch:∀b u,H b=some u->b∉ch:=fun b u e z=>by rw [(hf b z).1] at e;cases e
 have kU:∀b u,H b=some u->upd H a o b=some u:=fun b u e=>by rw [bB (bT e hn)];exact e
 refine I.step (g':=s.gens) (d':=s.drawn) (ch:=ch) (fun b hb=>?_) (fun b u _ _ hc e _=>k b u hc e) (fun b u _ _ hc e _=>⟨u.slots,k b u hc e⟩) (fun b u _ e n=>?_)
  (fun b u hc e=>⟨u,k b u hc e⟩) (fun b xs e=>kU b _ e) (fun b u v e=>kU b _ e) (fun b ps e=>⟨#[],by rw [kU b _ e];simp⟩) (fun m hm=>?_) (fun b u e=>?_) I.bare
 ·obtain ⟨_,f1,_,f3,f4,f5⟩:=hf b hb;exact ⟨f3,f1,f4,f5⟩
 ·rw [bB (fun z=>absurd (Nat.lt_of_lt_of_le (Heap.lt_size e) hp) (by rw [z];exact Nat.lt_irrefl _))];exact n
 ·obtain ⟨u,es,ep,hu,r⟩:=hm;exact ⟨u,es,ep,k _ u (fun z=>(hf _ z).2.1 rfl) hu,r⟩
 ·by_cases hb:b=a
  ·subst hb;rw [aL] at e;cases e;exact new
  ·rw [bB hb] at e;refine (I.hok b u e).stay (fun c v hc q=>k c v ?_ q) (fun c q=>kU c _ q) fun c xs q=>kU c _ q
   rcases hc with z|z
   ·rw [z];exact nch b u e
   ·exact nch c _ z
end
end
section
variable {X:Cx} {pos p:Pos} {x:Str} {k:Nat} {f:List D->Res D}
end
theorem aIv:bootBuiltins "all" = some (.builtin "all"):=by decide +kernel
end Mi
end
section
namespace Mi
open PySem L2
theorem aIw (b:Bool):asB (.bl b)=.ok b:=rfl
theorem aY:lim=1000000:=by unfold lim;exact Eq.refl _
theorem JL {n:Nat} {ρ:List D} (h:ρ.length=n):M7 n ρ=ρ:=by
 subst h;apply List.ext_getElem
 ·simp [M7]
 ·intro i h1 h2;simp [M7,h2]
theorem dJ {n:Nat} {f:List D->Res D} {ds:List D} (h:ds.length=n):iK n f ds=f ds:=by
 unfold iK;rw [if_pos (by simp [h])]
theorem aF {f:D->D->Res D} {a b:FE} {ρ:List D} {x y z:D} (h1:a ρ=.ok x) (h2:b ρ=.ok y) (h3:f x y=.ok z):b2 f a b ρ=.ok z:=by
 unfold b2;rw [h1,Res.aN,h2,Res.aN,h3]
theorem dB {i:Nat} {f:FE} {ρ:List D} {d:D} (h:f ρ=.ok d):bV false i f true ρ=.ok (.nx (ρ.set i d)):=by
 unfold bV;rw [h,Res.aN];rfl
theorem lF {i:Nat} {f:FE} {ρ:List D} {d:D} (h:f ρ=.ok d) (hp:d.pure=true):bV false i f false ρ=.ok (.nx (ρ.set i d)):=by
 unfold bV;rw [h,Res.aN];simp only [hp,Bool.false_or,Bool.false_eq_true,if_false,if_true]
theorem e_ {i:Nat} {f:FE} {ρ:List D} {d:D} (h:f ρ=.ok d) (hp:inner d=true):bV true i f true ρ=.ok (.nx (ρ.set i d)):=by
 unfold bV;rw [h,Res.aN];simp only [hp,Bool.and_self,if_true]
theorem aK {f g:FS} {ρ ρ':List D} {r:Res Fl} (h1:f ρ=.ok (.nx ρ')) (h2:g ρ'=r):aW f g ρ=r:=by
 unfold aW;rw [h1,Res.aN];exact h2
theorem aIx {c:FT} {f g:FS} {ρ:List D} {k:Bool} {r:Res Fl} (h1:c ρ=.ok k) (h2:(if k then f ρ else g ρ)=r):sIf c f g ρ=r:=by
 unfold sIf;rw [h1,Res.aN];exact h2
theorem LK {c:FT} {f g:FS} {ρ:List D} {r:Res Fl} (h1:c ρ=.ok true) (h2:f ρ=r):sIf c f g ρ=r:=aIx h1 (by rw [if_pos rfl];exact h2)
theorem sS {c:FT} {f g:FS} {ρ:List D} {r:Res Fl} (h1:c ρ=.ok false) (h2:g ρ=r):sIf c f g ρ=r:=aIx h1 (by rw [if_neg (by simp)];exact h2)
theorem dC {f:FE} {ρ:List D} {k:Bool} (h1:f ρ=.ok (.bl k)):bTB f ρ=.ok k:=by
 unfold bTB;rw [h1,Res.aN];rfl
theorem YG {a b:FT} {ρ:List D} {r:Res Bool} (h1:a ρ=.ok true) (h2:b ρ=r):W7 a b ρ=r:=by
 unfold W7;rw [h1,Res.aN,if_pos rfl,h2]
theorem aFo {a b:FT} {ρ:List D} (h1:a ρ=.ok false):W7 a b ρ=.ok false:=by
 unfold W7;rw [h1,Res.aN,if_neg (by simp)];rfl
theorem aD {a:FE} {b:FA} {ρ:List D} {x:D} {xs:List D} (h1:a ρ=.ok x) (h2:b ρ=.ok xs):aB a b ρ=.ok (x::xs):=by
 unfold aB;rw [h1,Res.aN,h2,Res.aN];rfl
theorem bF {f:List D->Res D} {a:FA} {ρ:List D} {xs:List D} {d:D} (h1:a ρ=.ok xs) (h2:f xs=.ok d):aV f a ρ=.ok d:=by
 unfold aV;rw [h1,Res.aN,h2]
theorem cT {a:FA} {ρ:List D} {xs:List D} (h:a ρ=.ok xs) (hl:xs.length<=lim):eX a ρ=.ok (.tup xs):=by
 unfold eX;rw [h,Res.aN,if_pos (decide_eq_true hl)];rfl
theorem j_ {f:FE} {ρ:List D} {d:D} {k:Bool} (h:f ρ=.ok d) (hp:(k||d.pure)=true):nZ f k ρ=.ok (.rt d):=by
 unfold nZ;rw [h,Res.aN,if_pos hp]
theorem kE {it:FI} {t:D->List D->Res (List D)} {body:FS} {ρ:List D} {xs:List D} {r:Res Fl} (h1:it ρ=.ok (xs,true)) (h2:gQ t body xs ρ=r):yU it t body ρ=r:=by
 unfold yU;rw [h1,Res.aN];exact h2
theorem lG {i:Nat} {t:D->List D->Res (List D)} {body:FS} {ρ:List D} {d:D} {xs:List D} {r:Res Fl} (h1:dH i ρ=.ok d) (h2:mK d=.ok xs) (h3:gQ t body xs ρ=r):iD i t body ρ=r:=by
 unfold iD;rw [h1,Res.aN,h2,Res.aN];exact h3
theorem wG {f:FA} {ρ:List D} {n:Int} (h:f ρ=.ok [.int n]) (h1:0<=n) (h2:n<=1000000):jC f iM ρ=.ok ((List.range n.toNat).map fun (k:Nat)=>D.int (0+(k:Int)),true):=by
 unfold jC;rw [h,Res.aN];have:nO n=true:=by
  simp only [nO,Bool.and_eq_true,decide_eq_true_eq];lia
 simp only [iM,this,if_true]
theorem YH {i:Nat} {f g:FE} {ρ:List D} {kvs:List (D×D)} {k d:D} (h1:g ρ=.ok d) (h2:f ρ=.ok k) (h3:ρ.getD i .uD=.dct kvs) (h4:kvs.length<lim) (h5:xJ kvs k=true) (h6:d.pure=true):aB9 i f g ρ=.ok (.nx (ρ.set i (.dct (putD kvs k d)))):=by
 unfold aB9;rw [h1,Res.aN,h2,Res.aN,h3];simp only [decide_eq_true h4,h5,h6,Bool.and_self,if_true]
theorem xU {i:Nat} {f:FE} {ρ:List D} {xs:List D} {d:D} (h1:f ρ=.ok d) (h3:ρ.getD i .uD=.lst xs) (h4:xs.length<lim) (h5:d.pure=true):IK i f ρ=.ok (.nx (ρ.set i (.lst (xs++[d])))):=by
 unfold IK;rw [h1,Res.aN,h3];simp only [decide_eq_true h4,h5,Bool.and_self,if_true]
theorem bN {t:D->List D->Res (List D)} {body:FS} {x:D} {xs:List D} {ρ ρ1 ρ2:List D} {r:Res Fl} (h1:t x ρ=.ok ρ1) (h2:body ρ1=.ok (.nx ρ2)) (h3:gQ t body xs ρ2=r):gQ t body (x::xs) ρ=r:=by
 rw [gQ,h1,Res.aN,h2,Res.aN];exact h3
theorem CT {n:Nat} {it:FI} {t:D->Res (List D)} {c:FT} {f:FE} {k kk:Bool} {ρ:List D} {xs ys:List D} (h1:it ρ=.ok (xs,kk)) (h2:xs.length<=lim) (h3:k_ (p_ n t c f k ρ) [] xs=.ok ys):cN n it t c f k ρ=.ok (.lst ys):=by
 unfold cN;rw [h1,Res.aN];simp only [decide_eq_true h2,if_true];rw [h3];rfl
theorem JM {n:Nat} {c:FT} {f:FE} {k:Bool} {ρ acc:List D} {x y:D} {b:Bool} (hρ:ρ.length=n) (h1:c (ρ++[x])=.ok b) (h2:b=true->f (ρ++[x])=.ok y/\(k||y.pure)=true):p_ n nC c f k ρ acc x=.ok (if b then acc++[y] else acc):=by
 unfold p_;show (do let ok <- c (M7 n ρ++[x]);_)=_;rw [JL hρ,h1,Res.aN];cases b with
 | true=>
  obtain ⟨e1,e2⟩:=h2 rfl;rw [if_pos rfl,e1,Res.aN,if_pos e2,if_pos rfl];rfl
 | false=>
  rw [if_neg (by simp),if_neg (by simp)];rfl
theorem fW (a b:Int):aU .add (.int a) (.int b)=.ok (.int (a+b)):=rfl
theorem YJ (a b:Int):aU .sub (.int a) (.int b)=.ok (.int (a-b)):=rfl
theorem aIy (a b:Int) (h:lO b=true):aU .mul (.int a) (.int b)=.ok (.int (a*b)):=by
 simp only [aU,h,Bool.or_true,if_true]
theorem fB (a b:Int) (h1:0<b) (h2:b<1073741824):aU .fdiv (.int a) (.int b)=.ok (.int (a / b)):=by
 simp only [aU,decide_eq_true h1,decide_eq_true h2,Bool.and_self,if_true]
theorem b8 (a b:Int) (h1:0<b):aU .mod (.int a) (.int b)=.ok (.int (a % b)):=by
 simp only [aU,decide_eq_true h1,if_true]
theorem CV (a:Int) (h1:-1000000<=a) (h2:a<=1000000):lO a=true:=by
 simp only [lO,Bool.and_eq_true,decide_eq_true_eq];lia
theorem YK (a b:Str) (h:a.length+b.length<=lim):aU .add (.str a) (.str b)=.ok (.str (a++b)):=by
 simp only [aU,decide_eq_true h,if_true]
theorem xV (a b:List D) (h:a.length+b.length<=lim) (ha:D.aX a=true) (hb:D.aX b=true):aU .add (.lst a) (.lst b)=.ok (.lst (a++b)):=by
 simp only [aU,decide_eq_true h,ha,hb,Bool.and_self,if_true]
theorem sU (S:List Int):D.aX (S.map D.int)=true:=by
 induction S with
 | nil=>rfl
 | cons q Q ih=>rw [List.map_cons,D.aX,ih];rfl
theorem aFp (ns:List Int) (lo hi:Option Int):cutD (ns.map D.int) lo hi=(cutD ns lo hi).map D.int:=by
 unfold cutD;rw [List.length_map,List.map_take,List.map_drop]
end Mi
end
section
namespace Mi
open PySem L2 PySem.SeqAt PySem.Spec PyProof.Rows
section
variable {P:Program} {w:World} {K:PySem.W.Frag} {mg:Str->Option Value} {base:Heap} {N:List Str} {qual:Str} {scope:Scope} {f C:Addr} {cd:Value} {A:Around} {outer:List Env} {s:Shared} {H:Hp} {E:XK}
end
section
variable [KFrag]
theorem PS.nox {X:Cx} {st:Stmt} {t:TS} (h:PS X.nox st t):PS X st t:=fun pins s σ H D I hw=>
 wpAny_mono (h pins s σ H D (I.wish _) hw) (fun _ _ q=>SP.mD q) fun _ _ z=>False.elim z
end
end Mi
end
section
namespace Mi
open PySem L2 PySem.W PySem.SeqAt PySem.Spec PyProof.Rows PySem.Builtin PySem.Builtin.ObjectAttr PySem.Builtin.Getset_descriptor
def ExcAt (a C:Addr) (h:Heap):Prop:=∃o,h.get? a=some o/\o.cls=.ref C
structure XC (K:Frag) (C:Addr):Prop where
 cl:(clsIn K C).isSome=true
 ga:findIn K (.ref C) "__getattribute__" = some (some (.builtin "BaseException.__getattribute__"))
 gh:findIn K (.ref C) "__getattr__" = some none
 kc:findIn K (.ref C) "__class__" = some (some (.builtin "object.__class__"))
 kg:specialIn K (.builtin "object.__class__") "__get__" = some (some (.builtin "getset_descriptor.__get__"))
 kt:takesIn K (.builtin "object.__class__")=some true
 ob:mroIn K C (.type "object")=some true
 be:mroIn K C (.type "BaseException")=some true
section
variable {prog:Program} {w:World} {A:Around} {E:Value->Shared->Prop} {s:Shared} {K:Frag} {x C:Addr}
theorem zR {M:Model} {h:Heap} (p:ExcAt x C h):Looks M h (typeOf (.ref x)) (.ref C):=by
 obtain ⟨o,h1,h2⟩:=p;rw [<-h2];exact (Looks.ld h1).andThen .now
theorem aBk {M:Model} {h:Heap} (X:K.In h) (c:XC K C):Looks M h (find (.ref x) (.ref C) "__class__") (.bind (.builtin "getset_descriptor.__get__") (.builtin "object.__class__")):=by
 refine (looks_findIn (M:=M) X c.kc).andThen ((looks_specialIn (M:=M) X c.kg).andThen ?_);have L:Looks M h (dataDescriptor? (some (.builtin "object.__class__")) (some (.builtin "getset_descriptor.__get__"))) (some (.builtin "getset_descriptor.__get__",.builtin "object.__class__")):=(looks_takesIn (M:=M) X c.kt).andThen .now;exact L.andThen (Looks.tag .now)
theorem aFq {R:Result->Shared->Prop} {tp:Value} (X:K.In s.heap) (p:ExcAt x C s.heap) (c:XC K C) (h:R (.ok (.ret (.ref C))) s) :
  codeAny (model prog w) A (.call (.builtin "getset_descriptor.__get__") ⟨[.builtin "object.__class__",.ref x,tp],[]⟩) R s:=by
 obtain ⟨hh,g,d,t,os⟩:=s;have L0:=zR (M:=model prog w) p;have L1:=looks_mroIn (M:=model prog w) X c.ob;refine codeAny_call_builtin KF.slot_gs.plain KF.entry_gs (KF.slot_gs.check _ _ _ _ _ _ _ _ KF.type_class (KF.args_gs _ _ _) ?_)
 (unfold Builtin.«getset_descriptor.__get__» descrGet;rw [dga_obj];refine wpAny_bind (wpAny_pure ?_);unfold descrGetter descrCheckInstance descrNameAndClass isInstance;simp only [KF.owner_class])
 repeat lk
 refine ⟨Code.quiet_builtin _ (by decide +kernel),codeAny_builtin KF.entry_class ?_⟩
 (unfold Builtin.«object.__class__» shownTypeOf;repeat lk)
 exact h
theorem YL {tk:Tok} {Q:Fin->Shared->Prop} (X:K.In s.heap) (p:ExcAt x C s.heap) (c:XC K C) (h:Q (.done (.ret (.ref C))) s) :
  wpAny (model prog w) A (Builtin.«object.__getattribute__» ⟨[.ref x,.str "__class__" tk],[]⟩) Q E s:=by
 obtain ⟨hh,g,d,t,os⟩:=s;have L0:=zR (M:=model prog w) p;have L1:=aBk (M:=model prog w) (x:=x) X c;unfold Builtin.«object.__getattribute__»;refine wpAny_bind (wpAny_pure ?_);refine wpAny_bind (wpAny_pure ?_);refine wpAny_bind (L0.at (wpAny_bind (L1.at ?_)));show wpAny _ _ (holding [_] (call _ [_,.ref x,.ref C]) >>= ret) _ _ _;exact wpAny_bind (wpAny_holding (wpAny_call (aFq X p c (wpAny_pure h))))
theorem JN {M:Model} {nv:Value} {Q:Unit->Shared->Prop} (X:K.In s.heap) (p:ExcAt x C s.heap) (c:XC K C) (h:Q () s):wpAny M A (checkBuiltinCall "BaseException.__getattribute__" ⟨[.ref x,nv],[]⟩) Q E s:=by
 obtain ⟨hh,g,d,t,os⟩:=s;have L0:Looks M hh (isInstance (.ref x) (.type "BaseException")) true:=(zR (M:=M) p).andThen (looks_mroIn (M:=M) X c.be);have e1:builtinKind "BaseException.__getattribute__" = some .slot:=by decide +kernel
 have e2:splitId "BaseException.__getattribute__" = some ("BaseException", "__getattribute__"):=by decide +kernel
 have ha:=F.args_bexc_ga (.ref x) nv;simp only [checkBuiltinCall,e1,e2];refine wpAny_bind (L0.at ?_)
 repeat (any_goals (first|assumption|wp_step))
theorem aFr {Q:Option Value->Shared->Prop} (X:K.In s.heap) (p:ExcAt x C s.heap) (c:XC K C) (h:Q (some (.ref C)) {s with toks:=s.toks+1}):wpAny (model prog w) A (getAttr? (.ref x) "__class__") Q E s:=by
 obtain ⟨hh,g,d,t,os⟩:=s;have L0:=zR (M:=model prog w) p;have L1:=looks_findIn (M:=model prog w) X c.ga;have L2:=looks_findIn (M:=model prog w) X c.gh;have e2:(Value.builtin "BaseException.__getattribute__" == Value.builtin "object.__getattribute__")=false:=by decide +kernel
 have e1:(onTheHeap (Value.ref C)&&Value.builtin "BaseException.__getattribute__" == Value.builtin "object.__getattribute__")=false:=by rw [e2];rfl
 unfold getAttr? getAttrBy? getAttrBy;refine wpAny_bind (wpAny_mkText (wpAny_bind (wpAny_attempt (wpAny_holding (wpAny_bind (L0.at (wpAny_bind (L1.at ?_))))))));dsimp only;rw [e1,if_neg (by decide)];unfold getAttrByItsOwn hookBefore callGetattribute boundAndCalled;rw [if_pos (show onTheHeap (Value.ref C)=true from rfl)];refine wpAny_bind (L2.at (wpAny_bind (wpAny_attempt (wpAny_holding ?_))));rw [if_neg (by decide)];refine wpAny_bind (wpAny_of_eq (F.excAttr_ValueError.ga.bind (.ref x)) ?_);refine wpAny_call (codeAny_call_builtin F.excAttr_ValueError.ga.plain F.entry_bexc_ga (JN (K:=K) (C:=C) X p c (YL (K:=K) (C:=C) X p c ?_)));show wpAny _ _ (handedOut (.ref C)) _ _ _;exact wpAny_pure (wpAny_pure h)
theorem RC (c:XC K C):KitX K (.ref x) (.ref C) (ExcAt x C) where
 ty:=fun _ _ _ p=>zR p
 it:=fun M h X _=>by
  obtain ⟨cd,hc⟩:=Option.isSome_iff_exists.mp c.cl;unfold clsIn at hc;split at hc
  ·rename_i ho;intro A' Q' E' s' k q
   (unfold isType loadHead;exact wpAny_bind (wpAny_loadPart (k _ _ (X _ _ ho)) (wpAny_pure q)))
  ·cases hc
 ne:=fun h tp dd its n sl X e=>by
  obtain ⟨cd,hc⟩:=Option.isSome_iff_exists.mp c.cl;unfold clsIn at hc;split at hc
  ·rename_i ho;refine Bool.eq_false_iff.mpr fun q=>?_
   have z:C=tp:=Value.ref.inj (beq_iff_eq.mp q);subst z;cases (X _ _ ho).symm.trans e
  ·cases hc
 ca:=fun X p h=>aFr X p c h
end
end Mi
end
section
namespace Mi
open PySem L2 PySem.W PySem.SeqAt PySem.Spec PyProof.Rows
abbrev mrk (X:Cx) (v:Value):Cx:={X with A:=X.A.mark (some v),calm:=false}
section
variable {X:Cx} {pins:List (Addr×Obj)} {σ:L2.St} {H H1 H2:Hp} {s:Shared} {h h6:Heap} {a:Addr}
theorem YM (I:Inv X pins σ H s) (v:Value):Inv (mrk X v) pins σ H s:=
 ⟨⟨I.ok.mod,I.ok.kind,I.ok.glob,I.ok.blt,I.ok.above,I.ok.inj,I.ok.has,I.ok.cab,(fun z=>nomatch z),I.ok.frames,I.ok.stk,I.ok.exf,I.ok.bs,I.ok.bsz,I.ok.noex,I.ok.exfs,I.ok.S8,I.ok.frf⟩,I.os,I.bare,I.base,I.loc,I.cell,I.free,I.freeC,I.pin,I.hok,I.len⟩
theorem YQ {v:Value} (ok:X.Ok) (I:Inv (mrk X v) pins σ H s):Inv X pins σ H s:=
 ⟨ok,I.os,I.bare,I.base,I.loc,I.cell,I.free,I.freeC,I.pin,I.hok,I.len⟩
theorem aDi {fs:List Addr} {o:HO} (u:Un fs [] H H2 h h6) (hg:h.get? a=none) (hn:H2 a=none):Un fs [] H (upd H2 a o) h h6:=by
 have ne:∀b ob,h.get? b=some ob->b≠a:=fun b ob q z=>by rw [z,hg] at q;cases q
 refine ⟨u.keep,u.slot,fun b ob q n hx=>by rw [bB (ne b ob q)];exact u.free b ob q n hx,u.there,fun b xs q=>?_,fun b ob xs q=>?_,fun b ps q=>?_⟩
 ·have z:=u.tups b xs q;rw [bB (bT z hn)];exact z
 ·have z:=u.frzs b ob xs q;rw [bB (bT z hn)];exact z
 ·obtain ⟨m,z⟩:=u.tbls b ps q;exact ⟨m,by rw [bB (bT z hn)];exact z⟩
theorem YS {P:Program} {w:World} {o:HO} (x:HOk P w H2 h6) (hn:H2 a=none) (new:gR P w (upd H2 a o) h6 a o):HOk P w (upd H2 a o) h6:=fun b u e=>by
 by_cases hb:b=a
 ·subst hb;rw [aL] at e;cases e;exact new
 ·rw [bB hb] at e;exact (x b u e).stay (fun c v _ q=>q) (fun c q=>by rw [bB (bT q hn)];exact q) fun c xs q=>by rw [bB (bT q hn)];exact q
theorem aBl {i:Nat} {x:Str} {v:Option Value} {t':Nat} {h':Heap} {m:Str->Option Value} (I:Inv X pins σ H s) (hN:X.N.Nodup) (hi:X.N[i]?=some x) (hn:s.heap.Ns X.env.locals m)
  (hl:∀(i:Nat) (x:Str) (v:V),X.N[i]?=some x->σ[i]?=some (some v)->Vis X.env.scope x->∃u,RelV v u/\Look X.env s.heap m x u)
  (hn':h'.Ns X.env.locals (fun y=>if y=x then v else m y)) (hs:Heap.SameBut X.env.locals s.heap h'):Inv X pins (σ.set i none) H {s with heap:=h',toks:=t'}:=by
 have hiσ:i<σ.length:=by rw [I.len];exact (List.getElem?_eq_some_iff.mp hi).1
 have cne:=I.cne;have ne:∀b o,X.s₀.heap.get? b=some o->b≠X.env.locals:=fun b o e=>Nat.ne_of_lt (Nat.lt_of_lt_of_le (Heap.lt_size e) I.ok.above)
 refine ⟨I.ok,I.os,I.bare,⟨fun b o e n hb hx=>(hs.2 b (ne b o e)).trans (I.base.keep b o e n hb hx),fun b o e n hb hx=>?_,I.base.free,fun b o e hx=>?_,I.base.tups,I.base.frzs,I.base.tbls⟩,⟨_,hn',fun j y v' e1 e2 e3=>?_⟩,fun y c e=>?_,I.free,I.freeC,fun p hp=>?_,fun b ob e=>?_,by simpa using I.len⟩
 ·obtain ⟨sl,e1⟩:=I.base.slot b o e n hb hx;exact ⟨sl,(hs.2 b (ne b o e)).trans e1⟩
 ·obtain ⟨o',e1⟩:=I.base.there b o e hx;exact ⟨o',(hs.2 b (ne b o e)).trans e1⟩
 ·by_cases hj:j=i
  ·subst hj;rw [List.getElem?_set_self hiσ] at e2;cases e2
  ·rw [List.getElem?_set_ne (Ne.symm hj)] at e2;obtain ⟨u',r',q⟩:=hl j y v' e1 e2 e3;refine ⟨u',r',?_⟩;rcases q with ⟨k,e⟩|⟨k,c,e,z⟩
   ·refine .inl ⟨k,?_⟩;have:y≠x:=fun e=>hj (z9 hN e1 (e▸hi))
    simp [this,e]
   ·exact .inr ⟨k,c,e,z.sameBut hs (cne y c e)⟩
 ·obtain ⟨w',z⟩:=I.cell y c e;exact ⟨w',z.sameBut hs (cne y c e)⟩
 ·obtain ⟨e,n,ne,nf,d⟩:=I.pin p hp;exact ⟨(hs.2 p.1 ne).trans e,n,ne,nf,d⟩
 ·refine (I.hok b ob e).stay (fun c w' hc q=>(hs.2 c ?_).trans q) (fun _ q=>q) fun _ _ q=>q
  intro z;rcases hc with hc|hc
  ·rw [<-hc,z,I.free] at e;cases e
  ·rw [z,I.free] at hc;cases hc
end
variable [KFrag]
theorem JP:∀{cs:List Addr} {us:List Value},Vals (cs.map V.ref) us->us=cs.map Value.ref
 | [],_,.nil=>rfl
 | c::cs,_,.cons r t=>by rw [JP t];cases r;rfl
section
variable {X:Cx} {C:Addr} {i:Nat} {cs:List Addr} {b:Bool} {y:Str} {p np tpos pos:Pos} {es:List Expr} {kk:Nat} {ce:Expr} {v:V} {u:Value}
end
theorem oU {H:Hp} {a:Addr} {o:HO} (h:H a=none):b_ H (upd H a o):=fun b u e=>by rw [bB (bT e h)];exact e
theorem CW:bootBuiltins "ValueError" = some (.type "ValueError"):=by decide +kernel
noncomputable def aIz (f:FE) (t:D->List D->Res (List D)):FS:=fun ρ=>do
 let d <- f ρ
 if d.pure then (do let ρ' <- t d ρ;.ok (.nx ρ')) else .bad
theorem aJ0 {X:Cx} {own:Nat->Bool} {e tg:Expr} {pos:Pos} {fe:FE} {re:Bool} {g:TG} {t:D->List D->Res (List D)} (he:PE X e (gE fe re)) (ht:TgS own g t) (hg:PG X tg g) (hs:swapsWithSole [tg] e pos.line X.env=pure false:=by rfl) (hw:swappedStores [tg] e X.env=pure none:=by rfl)
  (h1:(assignEach [tg] X.env).map (·.2)=[assign tg X.env]:=by rfl):PS X (.Assign [tg] e pos) (tS own (aIz fe t)):=PS.imp (aD4 he hg hs hw h1) fun D' σ H ⟨ρ,fl,E,h,q⟩=>by
 obtain ⟨d,h1,h2⟩:=aR h;split at h2
 ·rename_i hp;obtain ⟨ρ',h3,h4⟩:=aR h2;cases h4;refine ⟨ρ,d,E.er,h1,fun v H1 s1 r _=>ht v d ρ ρ' σ H1 _ (E.same s1) (r.bK hp) h3 fun σ2 E2 hO=>?_⟩;have k0:KU own σ H1 σ2 H1:=fun a o e n=>⟨e,by rw [hO];exact n⟩
  exact q σ2 H1 ((KU.same s1).trans k0) E2
 ·cases h2
end Mi
end
section
namespace Mi
open PySem L2 PySem.SeqAt PySem.Spec PyProof.Rows
variable [KFrag]
section
variable {X:Cx} {a e:Expr} {es:List Expr} {p p2 pos pos2:Pos} {fs:FA} {rr:Bool}
end
section
variable {X:Cx} {own:Nat->Bool} {a b e:Expr} {pos:Pos} {fs:FA} {rr re:Bool} {fe:FE}
end
section
variable {X:Cx} {pins:List (Addr×Obj)} {σ:L2.St} {H:Hp} {s:Shared} {a:Addr} {kvs:List (Key×V)}
end
noncomputable def aLc:HO->Bool
 | .tup _=>false
 | .frz _ (.lst _)=>false
 | _=>true
mutual
theorem RD {P:Addr->Prop} {H:Hp} {a:Addr} {u:HO} (ea:∀ob,H a=some ob->aLc ob=true):∀{v:V} {d:D},Rep P H v d->d.pure=true->Rep P (upd H a u) v d
 | _,_,.non,_=>.non
 | _,_,.bl b,_=>.bl b
 | _,_,.int i,_=>.int i
 | _,_,.str x,_=>.str x
 | _,_,.tup (a:=b) e r,h=>.tup (by rw [bB (fun z=>by rw [z] at e;have:=ea _ e;cases this)];exact e) (mQ ea r (by rw [D.pure] at h;exact h))
 | _,_,.lst _ _ _,h=>by rw [D.pure] at h;cases h
 | _,_,.frz e r,h=>.frz (e.imp (fun ⟨o,e⟩=>⟨o,by rw [bB (fun z=>by rw [z] at e;have:=ea _ e;cases this)];exact e⟩) id) (mQ ea r (by rw [D.pure] at h;exact h))
 | _,_,.cel _ _ _,h=>by rw [D.pure] at h;cases h
 | _,_,.dK _ _ _ _,h=>by rw [D.pure] at h;cases h
 | _,_,.dT _ _ _ _,h=>by rw [D.pure] at h;cases h
 | _,_,.fdK _ _ _,h=>by rw [D.pure] at h;cases h
 | _,_,.fdT _ _ _,h=>by rw [D.pure] at h;cases h
 | _,_,.exc _ _ _,h=>by rw [D.pure] at h;cases h
theorem mQ {P:Addr->Prop} {H:Hp} {a:Addr} {u:HO} (ea:∀ob,H a=some ob->aLc ob=true):∀{v:List V} {d:List D},bQ P H v d->D.aX d=true->bQ P (upd H a u) v d
 | _,_,.nil,_=>.nil
 | _,_,.cons r t,h=>by
  rw [D.aX,Bool.and_eq_true] at h;exact .cons (RD ea r h.1) (mQ ea t h.2)
end
section
variable {X:Cx} {scope:Scope} {x c:Str} {i n:Nat} {elt:Expr} {fe:FE} {re:Bool} {np ap cp cpos pos:Pos}
end
end Mi
end
section
namespace Mi
open PySem L2 PySem.SeqAt PySem.Spec PyProof.Rows AutoSeq1 MeetsSeq MeetsSeq2 MeetsSeq3
section
variable {P:Program} {w:World} {l b:Addr} {xs ys:Array Value} {n m:Nat} {dd de:Option Addr} {sl sm:Array (Option Value)} {e:Nat->Bool}
end
variable [KFrag]
section
variable {X:Cx} {pins:List (Addr×Obj)} {σ:L2.St} {H:Hp} {s:Shared}
end
end Mi
end
section
namespace Mi
open PySem L2 PySem.SeqAt PySem.Spec PyProof.Rows
noncomputable def aFs:List D->Res D
 | [.dct kvs]=>if kvs.all (fun p=>!isTup p.1)&&D.aX (kvs.map (·.2)) then .ok (.dct kvs) else .bad
 | _=>.bad
variable [KFrag]
section
variable {X:Cx} {pins:List (Addr×Obj)} {σ:L2.St} {H:Hp} {s:Shared}
theorem aJ1 (I:Inv X pins σ H s) {x:V} {ds:List (D×D)} (r:Rep All H x (.dct ds)) (ht:∀p∈ds,isTup p.1=false):∃(a:Addr) (kvs:List (Key×V)) (vs:List (Key×Value)),x=.ref a/\(a==sysModules)=false/\lW All H kvs ds/\KV kvs vs/\s.heap.DictOf (cX X.prog X.w) a vs/\kvs.length<=sizeLine/\(kvs.map (·.1)).Nodup:=by
 cases r with
 | @dK a k _ e _ r n=>
  obtain ⟨z,sm,v,rel,dd⟩:=WQ I.hok e;exact ⟨a,k,v,rfl,sm,r,rel,dd,z,n⟩
 | @dT a k _ e _ r n=>
  cases r with
  | cons r t=>exact absurd (ht _ (List.mem_cons_self ..)) (by simp [isTup])
  | nil=>
   obtain ⟨_,sm,xs,pr,o,es,ep,ho,hx,hd,he,_⟩:=I.hok a _ e;cases pr;obtain rfl:es=#[]:=by simpa using he
   exact ⟨a,[],[],rfl,sm,.nil,.nil,⟨o,#[],ep,ho,hx,hd,fun e he=>absurd he (by simp),by constructor,by simp⟩,by simp,by simp⟩
theorem aBm:oA X (.type "dict") (rs aFs true):=by
 intro pins s σ H xs us Q I vr ⟨ds,d,r,e,k⟩;unfold aFs at e;split at e
 ·rename_i kvs;split at e
  ·rename_i hl;rw [Bool.and_eq_true] at hl;cases e;obtain ⟨vv,uu,rfl,rfl,r,v⟩:=nG r vr;have ht:∀p∈kvs,isTup p.1=false:=fun p hp=>by simpa using List.all_eq_true.mp hl.1 p hp
   obtain ⟨a,kv,vs,rfl,sm,rk,rel,dd,z,n⟩:=aJ1 I r ht;cases v;refine kt_call_dict sm dd (by rw [<-rel.length];exact z) fun h' dd' hs=>?_
   have hp:H s.heap.objs.size=none:=I.hok.fresh (Nat.le_refl _);have I':=I.laid (a:=s.heap.objs.size) (o:=.dK kv) (h':=h') (t':=s.toks) (fun b q hq=>(hs.2 b (Nat.ne_of_lt (Heap.lt_size hq))).trans (Heap.get?_push_of_some _ hq)) (Nat.le_refl _) (QF z (beq_eq_false_iff_ne.mpr (Ne.symm (Nat.ne_of_lt I.big))) rel dd');have sp:b_ H (upd H s.heap.objs.size (.dK kv)):=b_.upd hp;have ku:∀{P:Addr->Prop},lW P (upd H s.heap.objs.size (.dK kv)) kv _:=fun {P}=>(lW.bK rk hl.2).keep (.same sp) fun _ h=>h
   exact ⟨.ref _,_,I',rfl,k _ _ sp (.dK aL trivial ku n) fun _=>.dK aL hp ku n⟩
  ·cases e
 ·cases e
end
section
variable {P:Program} {w:World} {K:PySem.W.Frag} {mg:Str->Option Value} {base:Heap} {x qual:Str} {st:Stmt} {fad T:Addr} {its:Array Value} {fd:FuncData} {N ps:List Str} {k:Nat} {f:FS}
end
section
variable {X:Cx} {e ke:Expr} {es:List Expr} {pos p kp:Pos} {fs:FA} {rr re:Bool} {fk:FE} {x kw:Str} {k k' n:Nat} {df:D} {f:List D->Res D}
end
end Mi
end
section
namespace Mi
open PySem L2 PySem.SeqAt PySem.Spec PyProof.Rows
noncomputable def JQ:D->D->Res D
 | .tup a,.tup b=>if decide (a.length+b.length<=lim) then .ok (.tup (a++b)) else .bad
 | _,_=>.bad
noncomputable def oV:List D->List D->List (D×D)->List (D×D)
 | k::ks,v::vs,m=>oV ks vs (putD m k v)
 | _,_,m=>m
noncomputable def YT:List D->Res D
 | [.tup xs,.tup ys]=>if decide (xs.length<=1000)&&decide (ys.length=xs.length)&&xs.all mJ&&D.aX ys then .ok (.dct (oV xs ys [])) else .bad
 | _=>.bad
noncomputable def V0 (c:FT) (body:FS):Nat->List D->Res Fl
 | 0,_=>.bad
 | n+1,ρ=>do
  let k <- c ρ
  if k then (do
   let r <- body ρ
   match r with
   | .nx ρ'=>V0 c body n ρ'
   | .ct ρ'=>V0 c body n ρ'
   | .bk ρ'=>.ok (.nx ρ')
   | .rt d=>.ok (.rt d))
  else .ok (.nx ρ)
def aN1 (c:FT) (body:FS):FS:=fun ρ=>V0 c body 1000 ρ
variable [KFrag]
section
variable {X:Cx} {pos:Pos}
theorem nT:OpR X (binaryOp .Add) (r2 JQ false):=by
 intro pins s σ H x y v u Q I rx ry h;obtain ⟨a,b,d,p,q,e,k⟩:=h;unfold JQ at e;split at e
 ·rename_i da db;split at e
  ·rename_i hl;cases e;cases p with
   | @tup l1 xs1 _ e1 r1=>
    cases q with
    | @tup l2 xs2 _ e2 r2=>
     cases rx;cases ry;have hz:xs1.length+xs2.length<=sizeLine:=by rw [r1.length,r2.length];exact lA hl
     obtain ⟨its,w1,p1,_⟩:=I.tuple (.of e1);obtain ⟨its2,w2,p2,_⟩:=I.tuple (.of e2);obtain ⟨⟨cls,dd,data,sl⟩,ho,hc,n,hd⟩:=id p1;obtain ⟨⟨cls2,dd2,data2,sl2⟩,ho2,hc2,n2,hd2⟩:=id p2;simp only at hc hd hc2 hd2;by_cases hv:its=[]
     ·have:xs1=[]:=w1.xG.mp hv;subst this;cases r1;refine concat_meets ⟨_,ho,hc⟩ ⟨_,ho2,hc2⟩ noFill_tuple_add seq_tuple_add PySem.F.slot_tuple_add PySem.F.entry_tuple_add (PySem.F.args_tuple_add_2 _ _)
       (tuple_addW0 l1 l2 its.toArray its2.toArray n n2 dd dd2 sl sl2 (by simp [hv])) ⟨by subst hc hd;exact ho,by subst hc2 hd2;exact ho2,.ref l2,H,I,rfl,?_⟩
      exact k.self (.tup e2 r2) (fun z=>by cases z)
     ·refine aEu pins s σ H (.ref l1) (.ref l2) _ _ Q I rfl rfl ⟨l1,l2,xs1,xs2,rfl,rfl,.of e1,.of e2,fun z=>hv (w1.xG.mpr z),hz,fun z=>?_,fun z p hp=>?_⟩
      ·subst z;cases r2;rw [List.append_nil] at k;exact k.self (.tup e1 r1) (fun z=>by cases z)
      ·have sp:b_ H (upd H p (.tup (xs1++xs2))):=b_.upd hp;exact k _ _ sp (.tup aL ((r1.append r2).same sp)) fun z=>by cases z
  ·cases e
 ·cases e
theorem aJ2 {own:Nat->Bool} {c:Expr} {body:List Stmt} {gc:FT} {fb:FS} (hp:PassesOwn (model X.prog X.w) X.A X.env X.xe) (hc:PT X c (gT gc)) (hb:PSs X body (tS own fb)):PS X (.While c body [] pos) (tS own (aN1 gc fb)):=
 PS.imp (aAw hp hc hb) fun D σ H ⟨ρ,fl,E,h,q⟩=>by
 refine ⟨fun m σ' H'=>∃ρ' ,ES own H' σ' ρ'/\V0 gc fb m ρ'=.ok fl/\kS own D σ' H' fl,⟨1000,ρ,E,h,q⟩,?_⟩;rintro m σ H ⟨ρ,E,h,q⟩;cases m with
 | zero=>cases h
 | succ m=>
  rw [V0] at h;obtain ⟨k,h1,h2⟩:=aR h;refine ⟨ρ,k,E.er,h1,fun H1 s=>?_⟩;cases k with
  | true=>
   rw [if_pos rfl];rw [if_pos rfl] at h2;obtain ⟨r,h3,h4⟩:=aR h2;refine ⟨fun σ' H'=>∃ρ',ES own H' σ' ρ'/\V0 gc fb m ρ'=.ok fl/\kS own D σ' H' fl,fun σ' H' w=>⟨m,Nat.lt_succ_self m,w⟩,ρ,r,E.same s,h3,?_⟩;have q1:=q.step (.same s);cases r with
   | nx ρ'=>exact fun σ' H' ku E'=>⟨ρ',E',h4,q1.step ku⟩
   | ct ρ'=>exact fun σ' H' ku E'=>⟨ρ',E',h4,q1.step ku⟩
   | bk ρ'=>cases h4;exact fun σ' H' ku E'=>q1 σ' H' ku E'
   | rt d=>cases h4;exact q1
  | false=>
   rw [if_neg (by simp)];rw [if_neg (by simp)] at h2;cases h2;exact (q.step (.same s)) σ H1 (fun a o e n=>⟨e,n⟩) (E.same s)
end
section
variable {X:Cx} {own:Nat->Bool} {e:Expr} {fe:FE} {re:Bool} {pos:Pos}
end
section
variable {X:Cx} {pins:List (Addr×Obj)} {σ:L2.St} {H:Hp} {s:Shared} {a:Addr} {kvs:List (Key×V)}
end
section
variable {X:Cx} {scope:Scope} {own:Nat->Bool} {x c y:Str} {i n iy:Nat} {elt cnd:Expr} {fe:FE} {gc:FT} {re o:Bool} {np cpos pos py pos2:Pos}
end
section
variable {own:Nat->Bool}
end
end Mi
end
section
namespace Wz
open PySem PySem.Spec
noncomputable abbrev itO (t:Addr) (i:Nat):Obj:={cls:=.type "tuple_iterator",data:=.fields #[.ref t,.int i 0]}
noncomputable abbrev tuO (xs:Array Value) (n:Nat) (dd:Option Addr) (sl:Array (Option Value)):Obj:={cls:=.type "tuple",dict:=dd,data:=.seq xs n,slots:=sl}
noncomputable abbrev zpO (f0 f1:Value) (TI TO:Addr):Obj:={cls:=.type "zip",data:=.fields #[f0,f1,.bool false,.ref TI,.ref TO]}
abbrev prO (a b:Value):Obj:={cls:=.type "tuple",data:=.seq #[a,b]}
theorem UV (it t:Addr) (i:Nat) (xs:Array Value) (n:Nat) (dd:Option Addr) (sl:Array (Option Value)) (x:Value) (hx:xs[i]?=some x) :
  Meets (Builtin.«tuple_iterator.__next__» ⟨[.ref it],[]⟩) (fun _ R s=>s.heap.get? it=some (itO t i)/\s.heap.get? t=some (tuO xs n dd sl)/\R (.ok (.ret x)) {s with heap:=s.heap.update it (Obj.mapFields (·.setIfInBounds 1 (rawInt (i+1))))}):=.of_wp fun prog w A R s hs=>by
 obtain ⟨hp,g,d,tk,os⟩:=s;obtain ⟨e1,e2,hq⟩:=hs
 wp_walk
 rw [Int.toNat_natCast,hx]
 wp_walk
 exact ⟨_,rfl,hq⟩
theorem UW (it t:Addr) (i:Nat) (xs:Array Value) (n:Nat) (dd:Option Addr) (sl:Array (Option Value)) (hx:xs[i]?=none) :
  Meets (Builtin.«tuple_iterator.__next__» ⟨[.ref it],[]⟩) (fun A R s=>A.handled=none/\s.heap.get? it=some (itO t i)/\s.heap.get? t=some (tuO xs n dd sl)/\∀h' e,Heap.ExtBut it s.heap h'->(∃o,h'.get? e=some o/\o.cls=.type "StopIteration")->R (.error (.ref e)) {s with heap:=h'}):=.of_wp fun prog w A R s hs=>by
 obtain ⟨hp,g,d,tk,os⟩:=s;obtain ⟨hh,e1,e2,hq⟩:=hs
 wp_walk
 rw [Int.toNat_natCast,hx]
 wp_walk
 have hh1:A.in1.handled=none:=hh;unfold raiseNew
 wp_walk
 exact hq _ _ (((Heap.SameBut.update ..).extBut.push _).push _) ⟨_,Heap.get?_push_size _ rfl,rfl⟩
section
variable {prog:Program} {w:World} {A:Around} {E:Value->Shared->Prop} {s:Shared} {it t:Addr} {i:Nat} {xs:Array Value} {x:Value} {n:Nat} {dd:Option Addr} {sl:Array (Option Value)}
theorem drawn {Q:Value->Shared->Prop} (e1:s.heap.get? it=some (itO t i)) (e2:s.heap.get? t=some (tuO xs n dd sl)) (hx:xs[i]?=some x)
  (q:∀h',h'.get? it=some (itO t (i+1))->Heap.SameBut it s.heap h'->Q x {s with heap:=h'}):wpAny (model prog w) A (Builtin.SmallTypes.nextOf (.ref it)) Q E s:=by
 have ty:s.TypeIs (.ref it) "tuple_iterator":=⟨_,e1,rfl⟩
 refine wpAny_bind (wpAny_callSpecial?_slot ty F.slot_tuple_iterator_next ?_);refine call_meets F.slot_tuple_iterator_next ty F.entry_tuple_iterator_next (F.args_tuple_iterator_next_1 _) (UV it t i xs n dd sl x hx) ⟨e1,e2,wpAny_pure (q _ ?_ (Heap.SameBut.update ..))⟩;exact Heap.get?_update_self _ e1 rfl
theorem over {Q:Value->Shared->Prop} (hh:A.handled=none) (e1:s.heap.get? it=some (itO t i)) (e2:s.heap.get? t=some (tuO xs n dd sl)) (hx:xs[i]?=none)
  (q:∀h' e,Heap.ExtBut it s.heap h'->(∃o,h'.get? e=some o/\o.cls=.type "StopIteration")->E (.ref e) {s with heap:=h'}):wpAny (model prog w) A (Builtin.SmallTypes.nextOf (.ref it)) Q E s:=by
 have ty:s.TypeIs (.ref it) "tuple_iterator":=⟨_,e1,rfl⟩
 refine wpAny_bind (wpAny_callSpecial?_slot ty F.slot_tuple_iterator_next ?_);exact call_meets F.slot_tuple_iterator_next ty F.entry_tuple_iterator_next (F.args_tuple_iterator_next_1 _) (UW it t i xs n dd sl hx) ⟨hh,e1,e2,fun h' e k o=>q h' e k o⟩
end
structure Apart (z TI TO i1 i2 l1 l2:Addr):Prop where
 zTI:z≠TI
 zTO:z≠TO
 z1:z≠i1
 z2:z≠i2
 zl:z≠l1
 zm:z≠l2
 TT:TI≠TO
 T1:TI≠i1
 T2:TI≠i2
 O1:TO≠i1
 O2:TO≠i2
 Ol:TO≠l1
 Om:TO≠l2
 ij:i1≠i2
 il:i1≠l1
 im:i1≠l2
 jl:i2≠l1
 jm:i2≠l2
structure W (z TI TO i1 i2 l1 l2:Addr) (o1 o2:Obj) (f0 f1 a b:Value) (k1 k2:Nat) (h:Heap):Prop where
 z_:h.get? z=some (zpO f0 f1 TI TO)
 ti:h.get? TI=some (prO (.ref i1) (.ref i2))
 to:h.get? TO=some (prO a b)
 j1:h.get? i1=some (itO l1 k1)
 j2:h.get? i2=some (itO l2 k2)
 t1:h.get? l1=some o1
 t2:h.get? l2=some o2
section
variable {z TI TO i1 i2 l1 l2:Addr} {o1 o2:Obj} {f0 f1 g0 g1 a b c d:Value} {k1 k2:Nat} {h h':Heap}
theorem W.onZ (x:W z TI TO i1 i2 l1 l2 o1 o2 f0 f1 a b k1 k2 h) (ap:Apart z TI TO i1 i2 l1 l2) (e:h'.get? z=some (zpO g0 g1 TI TO)) (k:Heap.SameBut z h h'):W z TI TO i1 i2 l1 l2 o1 o2 g0 g1 a b k1 k2 h':=
 ⟨e,(k.2 _ ap.zTI.symm).trans x.ti,(k.2 _ ap.zTO.symm).trans x.to,(k.2 _ ap.z1.symm).trans x.j1,(k.2 _ ap.z2.symm).trans x.j2,(k.2 _ ap.zl.symm).trans x.t1,(k.2 _ ap.zm.symm).trans x.t2⟩
theorem W.onT (x:W z TI TO i1 i2 l1 l2 o1 o2 f0 f1 a b k1 k2 h) (ap:Apart z TI TO i1 i2 l1 l2) (e:h'.get? TO=some (prO c d)) (k:Heap.SameBut TO h h'):W z TI TO i1 i2 l1 l2 o1 o2 f0 f1 c d k1 k2 h':=
 ⟨(k.2 _ ap.zTO).trans x.z_,(k.2 _ ap.TT).trans x.ti,e,(k.2 _ ap.O1.symm).trans x.j1,(k.2 _ ap.O2.symm).trans x.j2,(k.2 _ ap.Ol.symm).trans x.t1,(k.2 _ ap.Om.symm).trans x.t2⟩
theorem W.on1 {k:Nat} (x:W z TI TO i1 i2 l1 l2 o1 o2 f0 f1 a b k1 k2 h) (ap:Apart z TI TO i1 i2 l1 l2) (e:h'.get? i1=some (itO l1 k)) (s:Heap.SameBut i1 h h'):W z TI TO i1 i2 l1 l2 o1 o2 f0 f1 a b k k2 h':=
 ⟨(s.2 _ ap.z1).trans x.z_,(s.2 _ ap.T1).trans x.ti,(s.2 _ ap.O1).trans x.to,e,(s.2 _ ap.ij.symm).trans x.j2,(s.2 _ ap.il.symm).trans x.t1,(s.2 _ ap.im.symm).trans x.t2⟩
theorem W.on2 {k:Nat} (x:W z TI TO i1 i2 l1 l2 o1 o2 f0 f1 a b k1 k2 h) (ap:Apart z TI TO i1 i2 l1 l2) (e:h'.get? i2=some (itO l2 k)) (s:Heap.SameBut i2 h h'):W z TI TO i1 i2 l1 l2 o1 o2 f0 f1 a b k1 k h':=
 ⟨(s.2 _ ap.z2).trans x.z_,(s.2 _ ap.T2).trans x.ti,(s.2 _ ap.O2).trans x.to,(s.2 _ ap.ij).trans x.j1,e,(s.2 _ ap.jl.symm).trans x.t1,(s.2 _ ap.jm.symm).trans x.t2⟩
theorem W.up (x:W z TI TO i1 i2 l1 l2 o1 o2 f0 f1 a b k1 k2 h) (k:∀c o,c=z\/c=TI\/c=TO\/c=i1\/c=i2\/c=l1\/c=l2->h.get? c=some o->h'.get? c=some o):W z TI TO i1 i2 l1 l2 o1 o2 f0 f1 a b k1 k2 h':=
 ⟨k _ _ (by simp) x.z_,k _ _ (by simp) x.ti,k _ _ (by simp) x.to,k _ _ (by simp) x.j1,k _ _ (by simp) x.j2,k _ _ (by simp) x.t1,k _ _ (by simp) x.t2⟩
end
noncomputable def aBn (z TO i1 i2:Addr) (h h':Heap):Prop:=∀c o,c≠z->c≠TO->c≠i1->c≠i2->h.get? c=some o->h'.get? c=some o
section
variable {prog:Program} {w:World} {A:Around} {E:Value->Shared->Prop} {s:Shared} {z TI TO i1 i2 l1 l2:Addr} {n1 n2:Nat} {d1 d2:Option Addr} {s1 s2:Array (Option Value)} {f0 f1 a b x y:Value} {k:Nat} {xs ys:Array Value}
theorem W.ty {o1 o2:Obj} {k1 k2:Nat} (hw:W z TI TO i1 i2 l1 l2 o1 o2 f0 f1 a b k1 k2 s.heap):s.TypeIs (.ref z) "zip":=⟨_,hw.z_,rfl⟩
end
end Wz
end
section
namespace Wz
open PySem PySem.Spec
abbrev nxt (z:Addr):Sem PySem.Fin:=Builtin.«zip.__next__» ⟨[.ref z],[]⟩
noncomputable abbrev Got (Q:Value->Shared->Prop):PySem.Fin->Shared->Prop:=fun r t=>∃v,r=.done (.ret v)/\Q v t
section
variable {prog:Program} {w:World} {A:Around} {E:Value->Shared->Prop} {s:Shared} {z TI TO i1 i2 l1 l2:Addr} {n1 n2:Nat} {d1 d2:Option Addr} {s1 s2:Array (Option Value)} {f0 f1 a b x y:Value} {k:Nat} {xs ys:Array Value}
theorem there {c:Addr} {o:Obj} {Q:Option Obj->Shared->Prop} (e:s.heap.get? c=some o) (q:Q (some o) s):wpAny (model prog w) A (loadIfAlive c) Q E s:=fun Γ p _=>by
 show Sem.wp _ Γ (.loadIfAlive c pure) _ _ p s;rw [Sem.wp_loadIfAlive,e];exact q
theorem keptAt {o1 o2:Obj} {k1 k2:Nat} {Q:Unit->Shared->Prop} (j:Nat) (v c d:Value) (hw:W z TI TO i1 i2 l1 l2 o1 o2 f0 f1 a b k1 k2 s.heap) (ap:Apart z TI TO i1 i2 l1 l2) (hj:(#[a,b]:Array Value).setIfInBounds j v=#[c,d])
  (q:∀h',W z TI TO i1 i2 l1 l2 o1 o2 f0 f1 c d k1 k2 h'->Heap.SameBut TO s.heap h'->Q () {s with heap:=h'}):wpAny (model prog w) A (updateSeq TO (·.setIfInBounds j v)) Q E s:=
 wpAny_updateSeq_pair hw.to fun h' e sb=>q h' (hw.onT ap (by rw [e,hj]) sb) sb
theorem first {Q:Value->Shared->Prop} (ap:Apart z TI TO i1 i2 l1 l2) (hw:W z TI TO i1 i2 l1 l2 (tuO xs n1 d1 s1) (tuO ys n2 d2 s2) .none (.bool false) a b k k s.heap) (hx:xs[k]?=some x) (hy:ys[k]?=some y)
  (q:∀(h':Heap) (p:Addr),W z TI TO i1 i2 l1 l2 (tuO xs n1 d1 s1) (tuO ys n2 d2 s2) (rawInt p) (.bool false) x y (k+1) (k+1) h'->h'.get? p=some (prO x y)->p=s.heap.objs.size->aBn z TO i1 i2 s.heap h'->Q (.ref p) {s with heap:=h'}) :
  wpAny (model prog w) A (nxt z) (Got Q) E s:=by
 refine wpAny_bind (m:=field (.ref z) 2) (wpAny_field hw.z_ rfl (x:=.bool false) rfl (wpAny_bind (m:=field (.ref z) 3) (wpAny_field hw.z_ rfl (x:=.ref TI) rfl (wpAny_bind (wpAny_seqItems hw.ti rfl ?_)))));refine wpAny_bind (m:=Builtin.SmallTypes.ownedTupleIsFree (.ref z)) (wpAny_bind (wpAny_field hw.z_ rfl (x:=.none) rfl (wpAny_pure ?_)));rw [if_pos rfl];refine wpAny_bind (wpAny_rule (wpAny_bind (wpAny_field hw.z_ rfl (x:=.ref TO) rfl (wpAny_bind (wpAny_setField_rec hw.z_ (by simp) fun h1 e1 k1=>?_)))));have w1:W z TI TO i1 i2 l1 l2 (tuO xs n1 d1 s1) (tuO ys n2 d2 s2) .ellipsis (.bool false) a b k k h1:=hw.onZ ap e1 k1;simp only [List.zipIdx_cons,List.zipIdx_nil,List.forIn_cons,List.forIn_nil];refine wpAny_bind (wpAny_bind (wpAny_bind (wpAny_onRaise (wpAny_bind (m:=Builtin.SmallTypes.nextOf (.ref i1)) (drawn w1.j1 w1.t1 hx fun h2 e2 k2=>wpAny_pure ?_)))));have w2:=w1.on1 ap e2 k2;refine wpAny_bind (wpAny_seqItems w2.to rfl (wpAny_bind (keptAt 0 x x b w2 ap rfl fun h3 w3 k3=>wpAny_bind (wpAny_letGo (wpAny_pure ?_)))));refine wpAny_bind (wpAny_bind (wpAny_onRaise (wpAny_bind (m:=Builtin.SmallTypes.nextOf (.ref i2)) (drawn w3.j2 w3.t2 hy fun h4 e4 k4=>wpAny_pure ?_))));have w4:=w3.on2 ap e4 k4;refine wpAny_bind (wpAny_seqItems w4.to rfl (wpAny_bind (keptAt 1 y x y w4 ap rfl fun h5 w5 k5=>wpAny_bind (wpAny_letGo (wpAny_pure (wpAny_pure ?_))))));have sd:aBn z TO i1 i2 s.heap h5:=fun c o c1 c2 c3 c4 e=>(k5.2 c c2).trans ((k4.2 c c4).trans ((k3.2 c c2).trans ((k2.2 c c3).trans ((k1.2 c c1).trans e))))
 have sz:h5.objs.size=s.heap.objs.size:=by rw [k5.1,k4.1,k3.1,k2.1,k1.1]
 refine wpAny_bind (wpAny_seqItems w5.to rfl (wpAny_bind (wpAny_newTuple ?_)));have w6:W z TI TO i1 i2 l1 l2 (tuO xs n1 d1 s1) (tuO ys n2 d2 s2) .ellipsis (.bool false) x y (k+1) (k+1) (h5.push (prO x y)):=w5.up fun c o _ e=>Heap.get?_push_of_some _ e
 refine wpAny_bind (m:=Builtin.SmallTypes.ownedTupleHandOut (.ref z) (.ref h5.objs.size)) (wpAny_bind (wpAny_setField_rec w6.z_ (by simp) fun h7 e7 k7=>?_));have w7:W z TI TO i1 i2 l1 l2 (tuO xs n1 d1 s1) (tuO ys n2 d2 s2) (rawInt h5.objs.size) (.bool false) x y (k+1) (k+1) h7:=w6.onZ ap e7 k7;refine wpAny_setField_rec w7.z_ (by simp) fun h8 e8 k8=>wpAny_pure ⟨_,rfl,?_⟩
 have w8:W z TI TO i1 i2 l1 l2 (tuO xs n1 d1 s1) (tuO ys n2 d2 s2) (rawInt h5.objs.size) (.bool false) x y (k+1) (k+1) h8:=w7.onZ ap e8 k8;have nz:h5.objs.size≠z:=Nat.ne_of_gt (Heap.lt_size w5.z_);exact q h8 _ w8 ((k8.2 _ nz).trans ((k7.2 _ nz).trans (Heap.get?_push_size _ rfl))) sz fun c o c1 c2 c3 c4 e=>(k8.2 c c1).trans ((k7.2 c c1).trans (Heap.get?_push_of_some _ (sd c o c1 c2 c3 c4 e)))
theorem aBo {Q:Fin->Shared->Prop} (hh:A.handled=none) (ap:Apart z TI TO i1 i2 l1 l2) (hw:W z TI TO i1 i2 l1 l2 (tuO xs n1 d1 s1) (tuO ys n2 d2 s2) .none (.bool false) a b k k s.heap) (hx:xs[k]?=none)
  (q:∀h' e,aBn z TO i1 i2 s.heap h'->(∃o,h'.get? e=some o/\o.cls=.type "StopIteration")->E (.ref e) {s with heap:=h'}) :
  wpAny (model prog w) A (nxt z) Q E s:=by
 refine wpAny_bind (m:=field (.ref z) 2) (wpAny_field hw.z_ rfl (x:=.bool false) rfl (wpAny_bind (m:=field (.ref z) 3) (wpAny_field hw.z_ rfl (x:=.ref TI) rfl (wpAny_bind (wpAny_seqItems hw.ti rfl ?_)))));refine wpAny_bind (m:=Builtin.SmallTypes.ownedTupleIsFree (.ref z)) (wpAny_bind (wpAny_field hw.z_ rfl (x:=.none) rfl (wpAny_pure ?_)));rw [if_pos rfl];refine wpAny_bind (wpAny_rule (wpAny_bind (wpAny_field hw.z_ rfl (x:=.ref TO) rfl (wpAny_bind (wpAny_setField_rec hw.z_ (by simp) fun h1 e1 k1=>?_)))));have w1:W z TI TO i1 i2 l1 l2 (tuO xs n1 d1 s1) (tuO ys n2 d2 s2) .ellipsis (.bool false) a b k k h1:=hw.onZ ap e1 k1;simp only [List.zipIdx_cons,List.zipIdx_nil,List.forIn_cons,List.forIn_nil];refine wpAny_bind (wpAny_bind (wpAny_bind (wpAny_onRaise (wpAny_bind (m:=Builtin.SmallTypes.nextOf (.ref i1)) (over hh w1.j1 w1.t1 hx fun h2 e k2 he=>?_)))));obtain ⟨oe,he,hc⟩:=he;have ez:h2.get? z=some (zpO .ellipsis (.bool false) TI TO):=k2 _ _ ap.z1 w1.z_;have hez:e≠z:=fun v=>by
  rw [v,ez] at he;cases he;exact absurd (show Value.type "zip" = Value.type "StopIteration" from hc) (by decide)
 exact wpAny_setField_rec ez (by simp) fun h3 _ k3=>q h3 e (fun c o c1 _ c3 _ v=>(k3.2 c c1).trans (k2 c o c3 ((k1.2 c c1).trans v))) ⟨oe,(k3.2 e hez).trans he,hc⟩
theorem taken {o1 o2 oT:Obj} {k1 k2:Nat} {T:Addr} {bb:Bool} {Q:Bool->Shared->Prop} (ap:Apart z TI TO i1 i2 l1 l2) (hw:W z TI TO i1 i2 l1 l2 o1 o2 (rawInt T) (.bool bb) a b k1 k2 s.heap) (hT:s.heap.get? T=some oT)
  (q:∀h',W z TI TO i1 i2 l1 l2 o1 o2 (rawInt T) (.bool true) a b k1 k2 h'->Heap.SameBut z s.heap h'->Q false {s with heap:=h'}):wpAny (model prog w) A (Builtin.SmallTypes.ownedTupleIsFree (.ref z)) Q E s:=by
 refine wpAny_bind (wpAny_field hw.z_ rfl (x:=rawInt T) rfl (wpAny_bind (m:=loadIfAlive T) (there hT ?_)));refine wpAny_bind (wpAny_field hw.z_ rfl (x:=.bool bb) rfl ?_);cases bb
 ·exact wpAny_bind (wpAny_setField_rec hw.z_ (by simp) fun h1 e1 k1=>wpAny_pure (q h1 (hw.onZ ap e1 k1) k1))
 ·exact wpAny_pure (q _ hw (Heap.SameBut.refl _ _))
theorem more {T:Addr} {bb:Bool} {oT:Obj} {Q:Value->Shared->Prop} (ap:Apart z TI TO i1 i2 l1 l2) (hw:W z TI TO i1 i2 l1 l2 (tuO xs n1 d1 s1) (tuO ys n2 d2 s2) (rawInt T) (.bool bb) a b k k s.heap) (hT:s.heap.get? T=some oT) (hx:xs[k]?=some x) (hy:ys[k]?=some y)
  (q:∀h' p,W z TI TO i1 i2 l1 l2 (tuO xs n1 d1 s1) (tuO ys n2 d2 s2) (rawInt T) (.bool true) a b (k+1) (k+1) h'->h'.get? p=some (prO x y)->aBn z TO i1 i2 s.heap h'->Q (.ref p) {s with heap:=h'}) :
  wpAny (model prog w) A (nxt z) (Got Q) E s:=by
 refine wpAny_bind (m:=field (.ref z) 2) (wpAny_field hw.z_ rfl (x:=.bool false) rfl (wpAny_bind (m:=field (.ref z) 3) (wpAny_field hw.z_ rfl (x:=.ref TI) rfl (wpAny_bind (wpAny_seqItems hw.ti rfl ?_)))));refine wpAny_bind (m:=Builtin.SmallTypes.ownedTupleIsFree (.ref z)) (taken ap hw hT fun h1 w1 k1=>?_);rw [if_neg Bool.false_ne_true];dsimp only;rw [<-Array.forIn_toList];simp only [List.forIn_cons,List.forIn_nil];refine wpAny_bind (wpAny_bind (wpAny_bind (wpAny_holding (wpAny_bind (m:=Builtin.SmallTypes.nextOf (.ref i1)) (drawn w1.j1 w1.t1 hx fun h2 e2 k2=>wpAny_pure (wpAny_pure ?_))))));have w2:=w1.on1 ap e2 k2;refine wpAny_bind (wpAny_bind (wpAny_holding (wpAny_bind (m:=Builtin.SmallTypes.nextOf (.ref i2)) (drawn w2.j2 w2.t2 hy fun h3 e3 k3=>wpAny_pure (wpAny_pure (wpAny_pure ?_))))));have w3:=w2.on2 ap e3 k3;refine wpAny_bind (wpAny_newTuple (wpAny_pure ⟨_,rfl,?_⟩) (hsz:=by show (2:Nat)<=sizeLine;decide));exact q _ _ (w3.up fun c o _ e=>Heap.get?_push_of_some _ e) (Heap.get?_push_size _ rfl) fun c o c1 c2 c3 c4 e=>Heap.get?_push_of_some _ ((k3.2 c c4).trans ((k2.2 c c3).trans ((k1.2 c c1).trans e)))
theorem aFt {T:Addr} {bb:Bool} {oT:Obj} {Q:Fin->Shared->Prop} (hh:A.handled=none) (ap:Apart z TI TO i1 i2 l1 l2) (hw:W z TI TO i1 i2 l1 l2 (tuO xs n1 d1 s1) (tuO ys n2 d2 s2) (rawInt T) (.bool bb) a b k k s.heap) (hT:s.heap.get? T=some oT) (hx:xs[k]?=none)
  (q:∀h' e,aBn z TO i1 i2 s.heap h'->(∃o,h'.get? e=some o/\o.cls=.type "StopIteration")->E (.ref e) {s with heap:=h'}) :
  wpAny (model prog w) A (nxt z) Q E s:=by
 refine wpAny_bind (m:=field (.ref z) 2) (wpAny_field hw.z_ rfl (x:=.bool false) rfl (wpAny_bind (m:=field (.ref z) 3) (wpAny_field hw.z_ rfl (x:=.ref TI) rfl (wpAny_bind (wpAny_seqItems hw.ti rfl ?_)))));refine wpAny_bind (m:=Builtin.SmallTypes.ownedTupleIsFree (.ref z)) (taken ap hw hT fun h1 w1 k1=>?_);rw [if_neg Bool.false_ne_true];dsimp only;rw [<-Array.forIn_toList];simp only [List.forIn_cons,List.forIn_nil];exact wpAny_bind (wpAny_bind (wpAny_bind (wpAny_holding (wpAny_bind (m:=Builtin.SmallTypes.nextOf (.ref i1)) (over hh w1.j1 w1.t1 hx fun h2 e k2 he=>q h2 e (fun c o c1 _ c3 _ v=>k2 c o c3 ((k1.2 c c1).trans v)) he)))))
end
end Wz
end
section
namespace Wz
open PySem PySem.Spec
theorem five (h:Heap) (a b c d e:Obj) (fa:a.isFreed=false) (fb:b.isFreed=false) (fc:c.isFreed=false) (fd:d.isFreed=false) (fe:e.isFreed=false) :
  (((((h.push a).push b).push c).push d).push e).get? h.objs.size=some a/\(((((h.push a).push b).push c).push d).push e).get? (h.objs.size+1)=some b/\(((((h.push a).push b).push c).push d).push e).get? (h.objs.size+2)=some c/\(((((h.push a).push b).push c).push d).push e).get? (h.objs.size+3)=some d/\(((((h.push a).push b).push c).push d).push e).get? (h.objs.size+4)=some e/\
  (∀x o,h.get? x=some o->(((((h.push a).push b).push c).push d).push e).get? x=some o)/\(((((h.push a).push b).push c).push d).push e).objs.size=h.objs.size+5:=by
 have z1:(h.push a).objs.size=h.objs.size+1:=Heap.size_push ..;have z2:((h.push a).push b).objs.size=h.objs.size+2:=(Heap.size_push ..).trans (by rw [z1]);have z3:(((h.push a).push b).push c).objs.size=h.objs.size+3:=(Heap.size_push ..).trans (by rw [z2]);have z4:((((h.push a).push b).push c).push d).objs.size=h.objs.size+4:=(Heap.size_push ..).trans (by rw [z3]);have up:∀{h:Heap} {x:Addr} {o q:Obj},h.get? x=some o->(h.push q).get? x=some o:=fun e=>Heap.get?_push_of_some _ e
 have g2:=Heap.get?_push_size (h.push a) (o:=b) fb;have g3:=Heap.get?_push_size ((h.push a).push b) (o:=c) fc;have g4:=Heap.get?_push_size (((h.push a).push b).push c) (o:=d) fd;have g5:=Heap.get?_push_size ((((h.push a).push b).push c).push d) (o:=e) fe;rw [z1] at g2;rw [z2] at g3;rw [z3] at g4;rw [z4] at g5;exact ⟨up (up (up (up (Heap.get?_push_size h fa)))),up (up (up g2)),up (up g3),up g4,g5,fun x o q=>up (up (up (up (up q)))),(Heap.size_push ..).trans (by rw [z4])⟩
theorem YW (t u:Addr) (xs ys:Array Value) :
  Meets (Builtin.«zip.__new__» ⟨[.type "zip",.ref t,.ref u],[]⟩) (fun _ R s=>s.heap.IsTuple t xs/\s.heap.IsTuple u ys/\∀h' n,n=s.heap.objs.size->h'.get? n=some (itO t 0)->h'.get? (n+1)=some (itO u 0)->h'.get? (n+2)=some (prO (.ref n) (.ref (n+1)))->h'.get? (n+3)=some (prO .none .none)->h'.get? (n+4)=some (zpO .none (.bool false) (n+2) (n+3))->
   (∀x o,s.heap.get? x=some o->h'.get? x=some o)->h'.objs.size=n+5->R (.ok (.ret (.ref (n+4)))) {s with heap:=h'}):=
 .of_wp fun prog w A R s hs=>by
  obtain ⟨hp,g,d,tk,os⟩:=s;obtain ⟨ht,hu,q⟩:=hs;have sub:=sub_zip;have p1:Heap.IsTuple (Shared.heap ⟨hp,g,d,tk,os⟩) t xs:=ht;have p2:Heap.IsTuple (Shared.heap ⟨hp.push {cls:=.type "tuple_iterator",data:=.fields #[.ref t,.int 0 0]},g,d,tk,os⟩) u ys:=Heap.IsTuple.push hu _;have f:=five hp (itO t 0) (itO u 0) (prO (.ref hp.objs.size) (.ref (hp.objs.size+1))) (prO .none .none) (zpO .none (.bool false) (hp.objs.size+2) (hp.objs.size+3)) rfl rfl rfl rfl rfl
  wp_walk using wpAny_pyIter_tuple p1,wpAny_pyIter_tuple p2
  refine ⟨_,rfl,?_⟩;have fin:=q _ hp.objs.size rfl f.1 f.2.1 f.2.2.1 f.2.2.2.1 f.2.2.2.2.1 f.2.2.2.2.2.1 f.2.2.2.2.2.2;have gen:∀m1 m2 m3 m4:Nat,m1=hp.objs.size+1->m2=hp.objs.size+2->m3=hp.objs.size+3->m4=hp.objs.size+4->R (.ok (.ret (.ref m4))) ⟨((((hp.push (itO t 0)).push (itO u 0)).push (prO (.ref hp.objs.size) (.ref m1))).push (prO .none .none)).push (zpO .none (.bool false) m2 m3),g,d,tk,os⟩:=by
   intro m1 m2 m3 m4 q1 q2 q3 q4;subst q1 q2 q3 q4;exact fin
  exact gen _ _ _ _ (Heap.size_push ..) ((Heap.size_push ..).trans (congrArg (·+1) (Heap.size_push ..))) ((Heap.size_push ..).trans (congrArg (·+1) ((Heap.size_push ..).trans (congrArg (·+1) (Heap.size_push ..))))) ((Heap.size_push ..).trans (congrArg (·+1) ((Heap.size_push ..).trans (congrArg (·+1) ((Heap.size_push ..).trans (congrArg (·+1) (Heap.size_push ..)))))))
section
variable {prog:Program} {w:World} {A:Around} {E:Value->Shared->Prop} {s:Shared}
theorem aDj {t u:Addr} {xs ys:Array Value} {Q:Value->Shared->Prop} (ht:s.heap.IsTuple t xs) (hu:s.heap.IsTuple u ys)
  (q:∀h' n,n=s.heap.objs.size->h'.get? n=some (itO t 0)->h'.get? (n+1)=some (itO u 0)->h'.get? (n+2)=some (prO (.ref n) (.ref (n+1)))->h'.get? (n+3)=some (prO .none .none)->h'.get? (n+4)=some (zpO .none (.bool false) (n+2) (n+3))->
   (∀x o,s.heap.get? x=some o->h'.get? x=some o)->h'.objs.size=n+5->Q (.ref (n+4)) {s with heap:=h'}) :
  wpAny (model prog w) A (call (.type "zip") [.ref t,.ref u]) Q E s:=
 callType_new F.called_zip (by decide) (F.typeCall_zip_2 _ _) (F.newCall_zip_2 _ _) (fun obj=>F.args_object_init_3 obj _ _) F.entry_zip_new (YW t u xs ys)
  ⟨ht,hu,fun h' n e a1 a2 a3 a4 a5 k z=>⟨⟨_,a5,rfl⟩,q h' n e a1 a2 a3 a4 a5 k z⟩⟩
end
theorem aJ3:typeLookup (.type "zip") "keys" = pure none:=by rw [typeLookup_type,builtinLookup_eq_fast];kernel_rfl
theorem noGet:typeLookup (.type "zip") "__getattr__" = pure none:=by rw [typeLookup_type,builtinLookup_eq_fast];kernel_rfl
theorem aJ4:entryFor table "zip.__getattribute__" = some Builtin.«object.__getattribute__»:=entryFor_alias (id' := "object.__getattribute__") (by kernel_rfl) (by decide +kernel) (by decide +kernel) (by kernel_rfl)
theorem NT (a:Addr) (f0 f1:Value) (TI TO:Addr) (u:Tok):Meets (Builtin.«object.__getattribute__» ⟨[.ref a,.str "keys" u],[]⟩) (fun A R s=>s.heap.get? a=some (zpO f0 f1 TI TO)/\raisesAttr (.ref a) "keys" A R s):=.of_wp fun prog w A R s hs=>by
 obtain ⟨hp,g,d,tk,os⟩:=s;obtain ⟨e,hh,q⟩:=hs;have ty:(⟨hp,g,d,tk,os⟩:Shared).TypeIs (.ref a) "zip":=⟨_,e,rfl⟩
 have no:=aJ3
 wp_walk
 exact wpAny_raiseAttrError hh q (attrMsg_fits (by decide +kernel) (by size_fits))
section
variable {prog:Program} {w:World} {A:Around} {E:Value->Shared->Prop} {hp:Heap} {g:Array GenState} {d:Drawn} {tk:Nat} {os:OsState} {a TI TO:Addr} {f0 f1:Value}
theorem gone {u:Tok} {kw:List (Str×Value)} {Q:Value->Shared->Prop} (e:hp.get? a=some (zpO f0 f1 TI TO)) (hh:A.handled=none) (hk:kw=[]) (q:∀h' tk' x,Heap.NewAttrErr hp h' x (.ref a) "keys"->E (.ref x) ⟨h',g,d,tk',os⟩) :
  wpAny (model prog w) A (call (.builtin "zip.__getattribute__") ([.ref a]++[.str "keys" u]) kw) Q E ⟨hp,g,d,tk,os⟩:=by
 subst hk;exact call_meets F.slot_zip_getattribute ⟨_,e,rfl⟩ aJ4 (F.args_zip_getattribute_2 _ _) (NT a f0 f1 TI TO u) ⟨e,hh,fun h' tk' x hx=>q h' tk' x hx⟩
theorem lacks {Q:Option Value->Shared->Prop} (e:hp.get? a=some (zpO f0 f1 TI TO)) (hh:A.handled=none) (q:∀h' tk',(∀b o,hp.get? b=some o->h'.get? b=some o)->Q none ⟨h',g,d,tk',os⟩):wpAny (model prog w) A (getAttr? (.ref a) "keys") Q E ⟨hp,g,d,tk,os⟩:=by
 have ty:∀tk',(⟨hp,g,d,tk',os⟩:Shared).TypeIs (.ref a) "zip":=fun _=>⟨_,e,rfl⟩
 have f3:=F.slot_zip_getattribute.lookup;have f4:=F.slot_zip_getattribute.bind (.ref a);have f5:=noGet;have sub:=sub_AttributeError
 wp_walk using gone e hh
 case hk=>rfl
 intro h' tk' x hx;obtain ⟨t,u,ex⟩:=hx.there;show wpAny _ _ (getattributeRaised _ _ _ _ _ _ _) _ _ _
 wp_walk
 exact q _ _ hx.keeps
end
end Wz
end
section
namespace Wz
open PySem PySem.Spec
noncomputable def ZS (z TI TO i1 i2 l1 l2:Addr) (o1 o2:Obj) (k:Nat) (h:Heap):Prop:=∃f0 f1 a b,W z TI TO i1 i2 l1 l2 o1 o2 f0 f1 a b k k h/\
 ((f0=.none/\f1=.bool false)\/∃(T:Addr) (bb:Bool) (u v:Value),f0=rawInt T/\f1=.bool bb/\h.get? T=some (prO u v)/\T≠z/\T≠TO/\T≠i1/\T≠i2)
section
variable {prog:Program} {w:World} {A:Around} {E:Value->Shared->Prop} {s:Shared} {z TI TO i1 i2 l1 l2 d:Addr} {n1 n2:Nat} {d1 d2:Option Addr} {s1 s2:Array (Option Value)} {x y:Value} {k:Nat} {xs ys:Array Value}
theorem apart {h:Heap} {c d:Addr} {o od:Obj} {T:String} (e:h.get? c=some o) (hc:o.cls=.type T) (ed:h.get? d=some od) (hd:od.cls=.type "dict") (ne:(Value.type T==Value.type "dict")=false):c≠d:=fun q=>by
 subst q;rw [e] at ed;cases ed;rw [hc] at hd;rw [hd] at ne;simp at ne
theorem ZS.keep {h h':Heap} {od:Obj} (Z:ZS z TI TO i1 i2 l1 l2 (tuO xs n1 d1 s1) (tuO ys n2 d2 s2) k h) (ed:h.get? d=some od) (hd:od.cls=.type "dict") (e:∀c o,c≠d->h.get? c=some o->h'.get? c=some o):ZS z TI TO i1 i2 l1 l2 (tuO xs n1 d1 s1) (tuO ys n2 d2 s2) k h':=by
 obtain ⟨f0,f1,a,b,hw,hf⟩:=Z;refine ⟨f0,f1,a,b,⟨e _ _ (apart hw.z_ rfl ed hd (by decide)) hw.z_,e _ _ (apart hw.ti rfl ed hd (by decide)) hw.ti,e _ _ (apart hw.to rfl ed hd (by decide)) hw.to,e _ _ (apart hw.j1 rfl ed hd (by decide)) hw.j1,e _ _ (apart hw.j2 rfl ed hd (by decide)) hw.j2,e _ _ (apart hw.t1 rfl ed hd (by decide)) hw.t1,e _ _ (apart hw.t2 rfl ed hd (by decide)) hw.t2⟩,?_⟩;rcases hf with hf|⟨T,bb,u,v,h1,h2,h3,h4⟩
 ·exact .inl hf
 ·exact .inr ⟨T,bb,u,v,h1,h2,e _ _ (apart h3 rfl ed hd (by decide)) h3,h4⟩
theorem aFu {Q:Option Value->Shared->Prop} (ap:Apart z TI TO i1 i2 l1 l2) (Z:ZS z TI TO i1 i2 l1 l2 (tuO xs n1 d1 s1) (tuO ys n2 d2 s2) k s.heap) (hx:xs[k]?=some x) (hy:ys[k]?=some y)
  (q:∀h' p,ZS z TI TO i1 i2 l1 l2 (tuO xs n1 d1 s1) (tuO ys n2 d2 s2) (k+1) h'->h'.get? p=some (prO x y)->aBn z TO i1 i2 s.heap h'->Q (some (.ref p)) {s with heap:=h'}):wpAny (model prog w) A (pyNext (.ref z)) Q E s:=by
 obtain ⟨f0,f1,a,b,hw,hf⟩:=Z;refine wpAny_bind (wpAny_attempt (wpAny_callSpecial?_slot hw.ty F.slot_zip_next (wpAny_call_entry F.slot_zip_next hw.ty F.entry_zip_next ?_ (F.args_zip_next_1 _))));rcases hf with ⟨rfl,rfl⟩|⟨T,bb,u,v,rfl,rfl,hT,t1,t2,t3,t4⟩
 ·refine first ap hw hx hy fun h' p w' ep pp sd=>wpAny_pure (q h' p ⟨_,_,_,_,w',.inr ⟨p,false,x,y,rfl,rfl,ep,?_⟩⟩ ep sd)
  subst pp;have lt:∀{c o},s.heap.get? c=some o->s.heap.objs.size≠c:=fun e=>Nat.ne_of_gt (Heap.lt_size e)
  exact ⟨lt hw.z_,lt hw.to,lt hw.j1,lt hw.j2⟩
 ·exact more ap hw hT hx hy fun h' p w' ep sd=>wpAny_pure (q h' p ⟨_,_,_,_,w',.inr ⟨T,true,u,v,rfl,rfl,sd _ _ t1 t2 t3 t4 hT,t1,t2,t3,t4⟩⟩ ep sd)
theorem aDk {Q:Option Value->Shared->Prop} (hh:A.handled=none) (ap:Apart z TI TO i1 i2 l1 l2) (Z:ZS z TI TO i1 i2 l1 l2 (tuO xs n1 d1 s1) (tuO ys n2 d2 s2) k s.heap) (hx:xs[k]?=none)
  (q:∀h',aBn z TO i1 i2 s.heap h'->Q none {s with heap:=h'}):wpAny (model prog w) A (pyNext (.ref z)) Q E s:=by
 obtain ⟨f0,f1,a,b,hw,hf⟩:=Z;refine wpAny_bind (wpAny_attempt (wpAny_callSpecial?_slot hw.ty F.slot_zip_next (wpAny_call_entry F.slot_zip_next hw.ty F.entry_zip_next ?_ (F.args_zip_next_1 _))));have stop:∀h' e,aBn z TO i1 i2 s.heap h'->(∃o,h'.get? e=some o/\o.cls=.type "StopIteration")->wpAny (model prog w) A (do if <- isInstance (.ref e) (.type "StopIteration") then pure none else throw (.ref e)) Q E {s with heap:=h'}:=fun h' e sd he=>wpAny_bind (wpAny_isInstance (T := "StopIteration") (b:=true) he isSubtype_stop (wpAny_pure (q h' sd)))
 rcases hf with ⟨rfl,rfl⟩|⟨T,bb,u,v,rfl,rfl,hT,_⟩
 ·exact aBo hh ap hw hx fun h' e sd he=>stop h' e sd he
 ·exact aFt hh ap hw hT hx fun h' e sd he=>stop h' e sd he
end
theorem JR:entryFor table "dict.update.loop" = some Builtin.«dict.update.loop»:=entryFor_of_tree (by kernel_rfl)
section
variable {prog:Program} {w:World} {K:Type} [DecidableEq K] {knd:KeyKind prog w K} {A:Around} {R:Except Value Flow->Shared->Prop} {z TI TO i1 i2 l1 l2 d:Addr} {n1 n2:Nat} {d1 d2:Option Addr} {s1 s2:Array (Option Value)} {xs ys:Array Value} {ks:List K}
theorem aBp (hh:A.handled=none) (ap:Apart z TI TO i1 i2 l1 l2) (hdz:d≠z) (hdT:d≠TO) (hd1:d≠i1) (hd2:d≠i2) (hsz:ys.size=xs.size) (hk:∀(i:Nat) (x:Value),xs[i]?=some x->∃k,ks[i]?=some k/\knd.is k x=true) :
  ∀(m k:Nat) (s:Shared) (kvs:List (K×Value)),k+m=xs.size->kvs.length+m<=sizeLine->ZS z TI TO i1 i2 l1 l2 (tuO xs n1 d1 s1) (tuO ys n2 d2 s2) k s.heap->s.heap.DictOf knd d kvs->
  (∀h' tk,h'.DictOf knd d (merged kvs ((ks.zip ys.toList).drop k))->(∀c o,c≠d->c≠z->c≠TO->c≠i1->c≠i2->s.heap.get? c=some o->h'.get? c=some o)->R (.ok (.ret .none)) {s with heap:=h',toks:=tk})->
  codeAny (model prog w) A (.builtin "dict.update.loop" ⟨[.ref d,.ref z,rawInt k,.none],[]⟩) R s:=by
 intro m;induction m with
 | zero=>
  intro k s kvs hkm hl Z hd q;refine codeAny_builtin JR ?_;rw [Around.under_plainId (show plainId "dict.update.loop" = true by decide +kernel) _];refine wpAny_bind (m:=pyNext (.ref z)) (aDk hh ap Z (Array.getElem?_eq_none (by lia)) fun h' kp=>?_);refine wpAny_bind (m:=Builtin.Dict.addKeywords d []) ?_;unfold Builtin.Dict.addKeywords;rw [List.forIn_nil];refine wpAny_bind (wpAny_pure (wpAny_pure (wpAny_pure ?_)));have e:(ks.zip ys.toList).drop k=[]:=List.drop_eq_nil_of_le (by rw [List.length_zip];have:ys.toList.length=ys.size:=Array.length_toList;lia);rw [e] at q;obtain ⟨o,es,ep,ho,r⟩:=hd;exact q _ s.toks ⟨o,es,ep,kp d o hdz hdT hd1 hd2 ho,r⟩ fun c o _ c1 c2 c3 c4 e=>kp c o c1 c2 c3 c4 e
 | succ m ih=>
  intro k s kvs hkm hl Z hd q;have hlt:k<xs.size:=by lia
  have hlt2:k<ys.size:=by lia
  have hx:xs[k]?=some xs[k]:=Array.getElem?_eq_getElem hlt;have hy:ys[k]?=some ys[k]:=Array.getElem?_eq_getElem hlt2;obtain ⟨key,hkey,his⟩:=hk k _ hx;refine codeAny_builtin JR ?_;rw [Around.under_plainId (show plainId "dict.update.loop" = true by decide +kernel) _];refine wpAny_bind (m:=pyNext (.ref z)) (aFu ap Z hx hy fun h' p Z' hp kp=>?_);refine wpAny_bind (wpAny_holding (wpAny_bind (wpAny_tryCatch ?_)));refine wpAny_bind (wpAny_typeOf (T := "tuple") ⟨_,hp,rfl⟩ ?_);rw [if_pos (by decide)];refine wpAny_bind (wpAny_seqItems hp rfl (wpAny_pure ?_));show wpAny _ _ (holding [xs[k],ys[k]] (dictSet d xs[k] ys[k])) _ _ _;have hd':h'.DictOf knd d kvs:=let ⟨o,es,ep,ho,r⟩:=hd;⟨o,es,ep,kp d o hdz hdT hd1 hd2 ho,r⟩
  obtain ⟨od,es,ep,ho,hc,_⟩:=id hd';refine wpAny_holding (wpAny_dictSet_pairs his hd' (fun h2 hd2' sb=>?_) (by lia));refine wpAny_pure ⟨Code.quiet_builtin _ (by decide +kernel),?_⟩;have ek:(rawInt (k+1):Value)=rawInt ((k+1:Nat):Int):=rfl;rw [ek];have hzip:(ks.zip ys.toList).drop k=(key,ys[k])::(ks.zip ys.toList).drop (k+1):=by
   have hlz:(ks.zip ys.toList)[k]?=some (key,ys[k]):=by
    rw [List.getElem?_zip_eq_some];exact ⟨hkey,by rw [Array.getElem?_toList];exact hy⟩
   obtain ⟨h1,h2⟩:=List.getElem?_eq_some_iff.mp hlz;rw [List.drop_eq_getElem_cons h1,h2]
  have ls:(stored kvs key ys[k]).length<=kvs.length+1:=by
   unfold stored;split
   ·rw [List.length_map];lia
   ·rw [List.length_append];exact Nat.le_refl _
  refine ih (k+1) _ (stored kvs key ys[k]) (by lia) (by lia) (Z'.keep ho hc.1 fun c o hcd e=>(sb.2 c hcd).trans e) hd2' fun h3 tk hd3 kp3=>?_
  refine q h3 tk (by rw [hzip];exact hd3) fun c o c0 c1 c2 c3 c4 e=>kp3 c o c0 c1 c2 c3 c4 ((sb.2 c c0).trans (kp c o c1 c2 c3 c4 e))
end
section
variable {prog:Program} {w:World} {K:Type} [DecidableEq K] {knd:KeyKind prog w K} {A:Around} {E:Value->Shared->Prop} {hp:Heap} {g:Array GenState} {dr:Drawn} {tk:Nat} {os:OsState} {z TI TO i1 i2 l1 l2:Addr} {n1 n2:Nat} {d1 d2:Option Addr} {s1 s2:Array (Option Value)} {xs ys:Array Value} {ks:List K}
theorem aBq {Q:Value->Shared->Prop} (hh:A.handled=none) (ap:Apart z TI TO i1 i2 l1 l2) {a b:Value} (hw:W z TI TO i1 i2 l1 l2 (tuO xs n1 d1 s1) (tuO ys n2 d2 s2) .none (.bool false) a b 0 0 hp) (hsz:ys.size=xs.size) (hxs:xs.size<=1000) (hk:∀(i:Nat) (x:Value),xs[i]?=some x->∃k,ks[i]?=some k/\knd.is k x=true)
  (q:∀h' tk',h'.DictOf knd hp.objs.size (merged [] (ks.zip ys.toList))->aBn z TO i1 i2 hp h'->Q (.ref hp.objs.size) ⟨h',g,dr,tk',os⟩) :
  wpAny (model prog w) A (call (.type "dict") [.ref z]) Q E ⟨hp,g,dr,tk,os⟩:=by
 have hnew:(hp.push {cls:=.type "dict",data:=.dict #[]}).DictOf knd hp.objs.size []:=Heap.DictOf.new hp;have up:∀c o,hp.get? c=some o->(hp.push {cls:=.type "dict",data:=.dict #[]}).get? c=some o:=fun c o e=>Heap.get?_push_of_some _ e
 have lt:∀{c o},hp.get? c=some o->hp.objs.size≠c:=fun e=>Nat.ne_of_gt (Heap.lt_size e)
 refine callType_codes (Q₁:=fun v s₁=>v=.ref hp.objs.size/\s₁=⟨hp.push {cls:=.type "dict",data:=.dict #[]},g,dr,tk,os⟩) F.kt_called_dict (F.kt_typeCall_dict_1 _) F.entry_dict_init (kt_code_dict_new _ ⟨rfl,rfl⟩) fun v s₁ hv=>?_
 obtain ⟨rfl,rfl⟩:=hv;have ty:(⟨hp.push {cls:=.type "dict",data:=.dict #[]},g,dr,tk,os⟩:Shared).TypeIs (.ref hp.objs.size) "dict":=hnew.typeIs;have ez:=up _ _ hw.z_;have tz:(⟨hp.push {cls:=.type "dict",data:=.dict #[]},g,dr,tk,os⟩:Shared).TypeIs (.ref z) "zip":=⟨_,ez,rfl⟩
 refine ⟨ty,F.args_dict_init_2 _ _,wpAny_bind (m:=Builtin.Dict.selfAndRest "__init__" _) (wpAny_bind (wpAny_notOrdered_dict ty (wpAny_pure ?_)))⟩;refine wpAny_bind (m:=typeOf (.ref z)) (wpAny_typeOf tz ?_);rw [if_pos (by decide)];refine wpAny_bind (lacks ez hh fun h' tk' kp=>?_);rw [if_pos (show (none:Option Value).isNone=true from rfl)];refine wpAny_bind (wpAny_rule (wpAny_bind (wpAny_pyIter_zip (TI:=TI) (TO:=TO) (f0:=.none) (kp _ _ ez) (wpAny_pure ⟨Code.quiet_builtin _ (by decide +kernel),?_⟩))));have hd':h'.DictOf knd hp.objs.size []:=let ⟨o,es,ep,ho,r⟩:=hnew;⟨o,es,ep,kp _ _ ho,r⟩
 refine aBp (A:=A.in1) (ks:=ks) (show A.in1.handled=none from hh) ap (lt hw.z_) (lt hw.to) (lt hw.j1) (lt hw.j2) hsz hk xs.size 0 ⟨h',g,dr,tk',os⟩ [] (by lia) (by rw [List.length_nil,sizeLine_eq];lia) ⟨_,_,_,_,hw.up fun c o _ e=>kp c o (up c o e),.inl ⟨rfl,rfl⟩⟩ hd' fun h2 tk2 hd2 kp2=>?_
 exact ⟨rfl,q h2 tk2 hd2 fun c o c1 c2 c3 c4 e=>kp2 c o (fun x=>lt e x.symm) c1 c2 c3 c4 (kp c o (up c o e))⟩
end
end Wz
end
section
namespace Mi
open PySem L2 PySem.SeqAt PySem.Spec PyProof.Rows
variable [KFrag]
theorem boot_zip:bootBuiltins "zip" = some (.type "zip"):=by decide +kernel
theorem aBr:bootBuiltins "dict" = some (.type "dict"):=by decide +kernel
theorem YX {P:Addr->Prop} {H:Hp} {pr:Program} {w:World}:∀{vs:List V} {us:List Value} {ds:List D},bQ P H vs ds->Vals vs us->ds.all mJ=true->∃ks:List Key,ks.map kD=ds/\ks.length=us.length/\∀(i:Nat) (u:Value),us[i]?=some u->∃k,ks[i]?=some k/\(cX pr w).is k u=true
 | _,_,_,.nil,.nil,_=>⟨[],rfl,rfl,fun i u h=>by simp at h⟩
 | v::vs,u::us,d::ds,.cons r t,.cons rv tv,h=>by
  rw [List.all_cons,Bool.and_eq_true] at h;obtain ⟨ks,h1,h2,h3⟩:=YX (pr:=pr) (w:=w) t tv h.2;obtain ⟨k,hk1,hk2⟩:∃k:Key,kD k=d/\(cX pr w).is k u=true:=by
   cases r with
   | int i=>exact ⟨.inl i,rfl,HR (k:=.inl i) rv⟩
   | str x=>exact ⟨.inr x,rfl,HR (k:=.inr x) rv⟩
   | _=>cases h.1
  refine ⟨k::ks,by rw [List.map_cons,hk1,h1],by rw [List.length_cons,List.length_cons,h2],fun i u' hu=>?_⟩;cases i with
  | zero=>simp at hu;subst hu;exact ⟨k,rfl,hk2⟩
  | succ i=>exact h3 i u' (by simpa using hu)
theorem RG {P:Addr->Prop} {H:Hp} {k:Key} {v:V} {d:D} (r:Rep P H v d):∀{kvs:List (Key×V)} {ds:List (D×D)},lW P H kvs ds->(kvs.map (·.1)).Nodup->lW P H (putK kvs k v) (putD ds (kD k) d)
 | _,_,.nil,_=>.cons r .nil
 | _,_,.cons (k:=k') (v:=v') (r:=kvs) (ds:=ds) r' t,hn=>by
  rw [List.map_cons,List.nodup_cons] at hn;rw [putD,XS];by_cases h:k'=k
  ·rw [CJ h (by rw [<-h];exact hn.1),if_pos (decide_eq_true h),h];exact .cons r t
  ·rw [CK h,if_neg (by simpa using h)];exact .cons r' (RG r t hn.2)
theorem RJ {P:Addr->Prop} {H:Hp}:∀{ks:List Key} {vs:List V} {ds:List D} {kvs:List (Key×V)} {es:List (D×D)},bQ P H vs ds->lW P H kvs es->(kvs.map (·.1)).Nodup->lW P H (jA kvs (ks.zip vs)) (oV (ks.map kD) ds es)/\((jA kvs (ks.zip vs)).map (·.1)).Nodup
 | [],_,_,_,_,_,r,n=>by
  rw [List.zip_nil_left];exact ⟨by cases ‹List D› <;> exact r,n⟩
 | k::ks,_,_,kvs,es,.nil,r,n=>⟨r,n⟩
 | k::ks,_,_,kvs,es,.cons rv tv,r,n=>RJ (ks:=ks) tv (RG rv r n) (j7 n)
theorem aJ5 {vs:List V} {us:List Value} (r:Vals vs us):∀ks:List Key,KV (ks.zip vs) (ks.zip us):=by
 induction r with
 | nil=>intro ks;rw [List.zip_nil_right,List.zip_nil_right];exact .nil
 | cons h t ih=>
  intro ks;cases ks with
  | nil=>exact .nil
  | cons k ks=>exact .cons ⟨rfl,h⟩ (ih ks)
theorem JS {n l m:Nat} (hl:l<n) (hm:m<n):Wz.Apart (n+4) (n+2) (n+3) n (n+1) l m:=by
 constructor <;> (intro h;replace h:@Eq Nat _ _:=h;lia)
section
variable {X:Cx} {a b:Expr} {fs:FA} {rr:Bool} {p p2 pos pos2:Pos}
theorem aFv (hg:Gl X "dict") (hm:X.mg "dict" = none) (hg2:Gl X "zip") (hm2:X.mg "zip" = none) (ha:PA X [a,b] (gA fs rr)) (hc:X.calm=true:=by rfl) (hs2:starEach [a,b] X.env=(false,eval a X.env)::starEach [b] X.env:=by rfl) (hpl2:(backTo pos2 (starEach [b] X.env)).any (·.1)=false:=by rfl)
  (hs:starEach [.Call (.Name "zip" p2) [a,b] [] pos2] X.env=(false,eval (.Call (.Name "zip" p2) [a,b] [] pos2) X.env)::starEach [] X.env:=by rfl) :
  PE X (.Call (.Name "dict" p) [.Call (.Name "zip" p2) [a,b] [] pos2] [] pos) (gE (aV YT fs) true):=by
 intro pins s σ H Q I ⟨ρ,d,E,h,q⟩;obtain ⟨xs,h1,h2⟩:=aR h;unfold YT at h2;split at h2
 ·rename_i xs ys;split at h2
  ·rename_i hb;cases h2;simp only [Bool.and_eq_true,decide_eq_true_eq] at hb;obtain ⟨⟨⟨hb1,hb2⟩,hb3⟩,hb4⟩:=hb;refine wpAny_Call_Name_kw (n6 I hg hm aBr ?_);refine PyProof.Rows.callWith_type1 ?_ hs rfl;rw [hs];show wpAny _ _ (spliced ((false,eval (.Call (.Name "zip" p2) [a,b] [] pos2) X.env)::backTo pos (starEach [] X.env))) _ _ s;refine Calls.spliced_cons ?_;refine wpAny_Call_Name_kw (n6 I hg2 hm2 boot_zip ?_);refine PyProof.Rows.callWith_type1 (thn (ha pos2 pins s σ H (fun vs H1=>b_ H H1/\bQ All H1 vs [.tup xs,.tup ys]) I ⟨ρ,_,E,h1,fun vs H1 s1 r1 _=>⟨s1,r1⟩⟩) fun us s1 ⟨vs,H1,I1,r1,sm,rp⟩=>?_) hs2 hpl2;cases rp with
   | cons rp1 rp=>
    cases rp with
    | cons rp2 rp=>
     cases rp;obtain ⟨l1,vs1,rfl,e1,rr1⟩:=rp1.gD;obtain ⟨l2,vs2,rfl,e2,rr2⟩:=rp2.gD;cases r1 with
     | cons q1 r1=>
      cases r1 with
      | cons q2 r1=>
       cases r1;cases q1;cases q2;obtain ⟨its1,w1,p1,_⟩:=I1.tuple (.of e1);obtain ⟨its2,w2,p2,_⟩:=I1.tuple (.of e2);have t1:s1.heap.IsTuple l1 its1.toArray:=p1;have t2:s1.heap.IsTuple l2 its2.toArray:=p2;obtain ⟨⟨c1,dd1,da1,sl1⟩,g1,hc1,m1,hd1⟩:=id p1;obtain ⟨⟨c2,dd2,da2,sl2⟩,g2,hc2,m2,hd2⟩:=id p2;simp only at hc1 hd1 hc2 hd2;subst hc1 hd1 hc2 hd2;have hl1:=Heap.lt_size g1;have hl2:=Heap.lt_size g2;refine Wz.aDj t1 t2 fun h' n hn z1 z2 z3 z4 z5 kp zsz=>?_
       subst hn;refine Calls.spliced_nil ?_;have n1:=w1.length;have n2:=w2.length;have m1:=rr1.length;have m2:=rr2.length;obtain ⟨ks,k1,k2,k3⟩:=YX (pr:=X.prog) (w:=X.w) rr1 w1 hb3;refine Wz.aBq (knd:=cX X.prog X.w) (ks:=ks) (I1.ok.hd hc) (JS hl1 hl2) ⟨z5,z3,z4,z1,z2,kp _ _ g1,kp _ _ g2⟩ (by simp only [List.size_toArray];lia) (by simp only [List.size_toArray];lia) (fun i u hu=>k3 i u (by simpa using hu)) fun h2 tk dd kp2=>?_
       have hfr:H1 h'.objs.size=none:=I1.hok.fresh (by rw [zsz];lia);have kall:∀c o,s1.heap.get? c=some o->h2.get? c=some o:=fun c o e=>by
        have:=Heap.lt_size e;exact kp2 c o (Nat.ne_of_lt (Nat.lt_of_lt_of_le this (Nat.le_add_right _ 4))) (Nat.ne_of_lt (Nat.lt_of_lt_of_le this (Nat.le_add_right _ 3))) (Nat.ne_of_lt this) (Nat.ne_of_lt (Nat.lt_of_lt_of_le this (Nat.le_add_right _ 1))) (kp c o e)
       have rel:KV (jA [] (ks.zip vs2)) (merged [] (ks.zip its2)):=(aJ5 w2 ks).merge .nil;have hz:(jA [] (ks.zip vs2)).length<=sizeLine:=by
        have:=kW (ks.zip vs2) [];rw [List.length_nil,List.length_zip] at this;rw [sizeLine_eq];lia
       obtain ⟨rk,nd⟩:=RJ (ks:=ks) (P:=All) (rr2) lW.nil List.nodup_nil;rw [k1] at rk;have sp:b_ H1 (upd H1 h'.objs.size (.dK (jA [] (ks.zip vs2)))):=b_.upd hfr;have pv:D.aX ((oV xs ys []).map (·.2))=true:=by
        have go:∀(a b:List D) (m:List (D×D)),D.aX b=true->D.aX (m.map (·.2))=true->D.aX ((oV a b m).map (·.2))=true:=by
         intro a;induction a with
         | nil=>intro b m _ hm;cases b <;> exact hm
         | cons x a ih=>
          intro b m hb hm;cases b with
          | nil=>exact hm
          | cons y b=>
           rw [D.aX,Bool.and_eq_true] at hb;refine ih b _ hb.2 ?_;have hp:=m8 (ds:=m) (k:=x) hb.1 hm;exact hp
        exact go xs ys [] hb4 rfl
       have rk2:∀{P:Addr->Prop},lW P (upd H1 h'.objs.size (.dK (jA [] (ks.zip vs2)))) (jA [] (ks.zip vs2)) (oV xs ys []):=fun {P}=>(rk.keep (.same sp) fun _ h=>h).bK pv
       refine ⟨.ref h'.objs.size,_,I1.laid (a:=h'.objs.size) (t':=tk) (o:=.dK (jA [] (ks.zip vs2))) kall (by rw [zsz];lia) (QF hz (beq_eq_false_iff_ne.mpr ?_) rel (by simpa using dd)),rfl,?_⟩
       ·exact Ne.symm (Nat.ne_of_lt (Nat.lt_of_lt_of_le I1.big (by rw [zsz];exact Nat.le_add_right _ 5)))
       ·exact q _ _ (sm.trans sp) (.dK aL trivial rk2 nd) fun _=>.dK aL (sm.free hfr) rk2 nd
  ·cases h2
 ·cases h2
end
end Mi
end
section
namespace Mi
open PySem L2 PySem.SeqAt PySem.Spec PyProof.Rows
noncomputable def U0 (i j:Nat):FS:=fun ρ=>match ρ.getD i .uD with
 | .lst xs=>(match xs[xs.length-1]? with|some x=>.ok (.nx ((ρ.set i (.lst xs.dropLast)).set j x))|none=>.bad)
 | _=>.bad
noncomputable def aFw (i:Nat) (f:FE):FS:=fun ρ=>do
 let d <- f ρ
 match ρ.getD i .uD,d with
 | .lst xs,.lst ys=>if decide (xs.length+ys.length<=lim)&&D.aX ys then .ok (.nx (ρ.set i (.lst (xs++ys)))) else .bad
 | _,_=>.bad
variable [KFrag]
section
variable {X:Cx} {own:Nat->Bool} {e:Expr} {fe:FE} {re:Bool} {pos:Pos}
theorem aFx {i j:Nat} {x y:Str} {p1 py apos cpos:Pos} (ho:own i=true) (hN:X.N[i]?=some x) (hv:Vis X.env.scope x) (hnd:X.N.Nodup) (hj:X.N[j]?=some y) (hy:Loc X.env.scope y) (hoj:own j=false) (hd:nDb x:=by decide) (hcd:nCd x:=by decide)
  (hbase:attributeBase (.Name x p1) "pop" X.env (eval (.Name x p1) X.env)=eval (.Name x p1) X.env:=by rfl)
  (hline:(apos.endLine==cpos.line)=true:=by rfl)
  (hs:swapsWith (.Call (.Attribute (.Name x p1) "pop" apos) [] [] cpos) (some (.Name y py)) pos.line X.env=pure false:=by rfl) (hf:X.fn y=true\/X.env.scope.names.lookup y=some .local:=by first|exact .inl rfl|exact .inr rfl|assumption) :
  PS X (.Assign [.Name y py] (.Call (.Attribute (.Name x p1) "pop" apos) [] [] cpos) pos) (tS own (U0 i j)):=
 PS.imp (G7 hnd hj hy (aD8 PySem.F.plainAttrs_list PySem.F.slot_list_pop PySem.F.type_list_pop aD9 (bW hN hv hd hcd) hbase hline) hs hf) fun D' σ H ⟨ρ,fl,E,h,q⟩=>by
 unfold U0 at h;split at h
 ·rename_i xs hx;split at h
  ·rename_i dx hdx;cases h;obtain ⟨a,o,hσ,r,hin,ha,hm⟩:=E.ownAt ho (by rw [hx];intro z;cases z);rw [hx] at r hin;obtain ⟨vs,hl,rr⟩:=Q8 r;obtain ⟨v,hvx,rv⟩:=rr.get hdx;have hlen:=rr.length;refine ⟨_,hσ,.inl ⟨rfl,vs,.of hl⟩,a,vs,v,rfl,rfl,hl,by rw [hlen];exact hvx,?_⟩;have hin':D.aX xs=true:=hin;have pall:∀y∈xs,y.pure=true:=fun y hy=>fU.mp hin' y hy
   have pdx:dx.pure=true:=pall dx (List.mem_of_getElem? hdx);have pe:D.aX xs.dropLast=true:=fU.mpr fun y hy=>pall y (List.dropLast_subset _ hy)
   have er:bQ All H vs.dropLast xs.dropLast:=by
    rw [List.dropLast_eq_take,List.dropLast_eq_take,hlen];exact rr.take _
   obtain ⟨E2,k2⟩:=E.mut (o:=.lst vs.dropLast) (d:=.lst xs.dropLast) ho hσ rfl (.lst aL trivial (er.upd pe hl rfl)) pe;have r1:=(bQ.cons rv .nil).upd (o:=.lst vs.dropLast) (by rw [D.aX,pdx];rfl) hl rfl;cases r1 with
   | cons r1 _=>
    have E3:=E2.set hoj (v:=v) (d:=dx) (r1.bK pdx);exact q _ _ (k2.trans fun b ob eb nb=>⟨eb,by rw [lD hoj];exact nb⟩) E3
  ·cases h
 ·cases h
theorem aDl {i:Nat} {x:Str} {p1 apos cpos:Pos} (ho:own i=true) (hN:X.N[i]?=some x) (hv:Vis X.env.scope x) (he:PE X e (gE fe re)) (hd:nDb x:=by decide) (hcd:nCd x:=by decide)
  (hbase:attributeBase (.Name x p1) "extend" X.env (eval (.Name x p1) X.env)=eval (.Name x p1) X.env:=by rfl)
  (hs1:starEach [e] X.env=(false,eval e X.env)::starEach [] X.env:=by rfl)
  (hfew:((backTo cpos (starEach [e] X.env)).all (fun x=>!x.1)&&(backToKw cpos (keywordEach [] X.env)).all (fun x=>x.1.isSome)
   && decide (([e]:List Expr).length+([]:List Keyword).length+(if ([]:List Keyword).isEmpty then 0 else 1)<30))=true:=by rfl)
  (hline:(apos.endLine==cpos.line)=true:=by rfl)
  (hs:swapsWith (.Call (.Attribute (.Name x p1) "extend" apos) [e] [] cpos) none pos.line X.env=pure false:=by rfl) :
  PS X (.Expr (.Call (.Attribute (.Name x p1) "extend" apos) [e] [] cpos) pos) (tS own (aFw i fe)):=
 PS.imp (mG (aEv PySem.F.plainAttrs_list PySem.F.slot_list_extend PySem.F.type_list_extend WN (bW hN hv hd hcd) (bI he iJ hs1) hbase hfew hline hs1 rfl) hs) fun D' σ H ⟨ρ,fl,E,h,q⟩=>by
 obtain ⟨d,h1,h2⟩:=aR h;split at h2
 ·rename_i xs ys hx;split at h2
  ·rename_i hk;cases h2;rw [Bool.and_eq_true,decide_eq_true_eq] at hk;obtain ⟨a,o,hσ,r,hin,ha,hm⟩:=E.ownAt ho (by rw [hx];intro z;cases z);rw [hx] at r hin;obtain ⟨vs,hl,rr⟩:=Q8 r;refine ⟨_,hσ,.inl ⟨rfl,vs,.of hl⟩,ρ,_,E.er,h1,fun v H' s rv _=>?_⟩;cases rv with
   | @lst b zs _ hb _ rz=>
    have E':=E.same s;have hl':=s _ _ hl;refine ⟨a,b,vs,zs,rfl,rfl,hl',hb,by rw [rr.length,rz.length];exact Nat.le_trans hk.1 (by rw [sizeLine_eq];decide),?_⟩;have hp:D.aX (xs++ys)=true:=by rw [oO,Bool.and_eq_true];exact ⟨hin,hk.2⟩
    obtain ⟨E2,k2⟩:=E'.mut (o:=.lst (vs++zs)) (d:=.lst (xs++ys)) ho hσ rfl (.lst aL trivial (((rr.same s).append rz).upd hp hl' rfl)) hp;exact q _ _ ((KU.same s).trans k2) E2
  ·cases h2
 ·cases h2
end
end Mi
end
section
namespace Ws
open PySem PySem.Spec PySem.Builtin PySem.Builtin.Str
end Ws
namespace Mi
open PySem L2 PySem.SeqAt PySem.Spec PyProof.Rows
variable [KFrag]
end Mi
end
section
namespace Ws
open PySem PySem.Spec PySem.Builtin PySem.SeqAt PyProof.Rows
section
variable {prog:Program} {w:World} {A:Around} {E:Value->Shared->Prop} {s:Shared}
end
end Ws
namespace Mi
open PySem L2 PySem.SeqAt PySem.Spec PyProof.Rows
variable [KFrag]
section
variable {X:Cx}
end
end Mi
end
section
namespace Wz
open PySem PySem.Spec
section
variable {prog:Program} {w:World} {A:Around} {E:Value->Shared->Prop} {s:Shared} {z TI TO i1 i2 l1 l2:Addr} {o1 o2:Obj} {a b:Value} {k1 k2:Nat}
theorem let_go {elts:List Expr} {x1} {pos:Pos} {p:Addr} {Q:Unit->Shared->Prop} (ap:Apart z TI TO i1 i2 l1 l2) (hw:W z TI TO i1 i2 l1 l2 o1 o2 (rawInt p) (.bool false) a b k1 k2 s.heap)
  (q:∀h',W z TI TO i1 i2 l1 l2 o1 o2 .none (.bool false) a b k1 k2 h'->Heap.SameBut z s.heap h'->Q () {s with heap:=h'}):wpAny (model prog w) A (letOwnedTupleGo (.Tuple elts x1 pos) (.ref z) (.ref p)) Q E s:=by
 refine wpAny_bind (m:=load z) (wpAny_load hw.z_ ?_);have e:(["enumerate", "zip", "dict_itemiterator", "dict_reverseitemiterator", "odict_iterator", "itertools.zip_longest", "itertools.pairwise"].contains "zip" && (#[rawInt p,.bool false,.bool false,.ref TI,.ref TO]:Array Value)[0]?==some (rawInt p))=true:=by simp
 dsimp only;rw [if_pos e];exact wpAny_bind (wpAny_rule (wpAny_setField_rec (k:=0) (x:=.none) hw.z_ (by simp) fun h1 e1 k1=>q h1 (hw.onZ ap e1 k1) k1))
end
end Wz
namespace Mi
open PySem L2 PySem.SeqAt PySem.Spec PyProof.Rows
noncomputable def aM9:List D->Res (List D×Bool)
 | [.tup xs,.tup ys]=>if decide (ys.length=xs.length)&&D.aX xs&&D.aX ys then .ok (VR xs ys,true) else .bad
 | _=>.bad
variable [KFrag]
section
variable {X:Cx}
theorem YZ {pins:List (Addr×Obj)} {s:Shared} {σ:L2.St} {H:Hp} {h':Heap} {t':Nat} {ch:List Addr} (I:Inv X pins σ H s) (k:∀b u,b∉ch->s.heap.get? b=some u->h'.get? b=some u) (hf:∀b∈ch,QB X pins H b):Inv X pins σ H {s with heap:=h',toks:=t'}:=by
 have nch:∀b u,H b=some u->b∉ch:=fun b u e z=>by rw [(hf b z).1] at e;cases e
 refine I.step (g':=s.gens) (d':=s.drawn) (ch:=ch) (fun b hb=>?_) (fun b u _ _ hc e _=>k b u hc e) (fun b u _ _ hc e _=>⟨u.slots,k b u hc e⟩) (fun b u _ e n=>n)
  (fun b u hc e=>⟨u,k b u hc e⟩) (fun b xs e=>e) (fun b u v e=>e) (fun b ps e=>⟨#[],by rw [e];simp⟩) (fun m hm=>?_) (fun b u e=>?_) I.bare
 ·obtain ⟨_,f1,_,f3,f4,f5⟩:=hf b hb;exact ⟨f3,f1,f4,f5⟩
 ·obtain ⟨u,es,ep,hu,r⟩:=hm;exact ⟨u,es,ep,k _ u (fun z=>(hf _ z).2.1 rfl) hu,r⟩
 ·refine (I.hok b u e).stay (fun c v hc q=>k c v ?_ q) (fun c q=>q) fun c xs q=>q
  rcases hc with z|z
  ·rw [z];exact nch b u e
  ·exact nch c _ z
end
theorem CZ {h:Heap} {l:Addr} {its:Array Value} (p:PyProof.Rows.IsTup h l its):∃n dd sl,h.get? l=some (Wz.tuO its n dd sl):=by
 obtain ⟨⟨c,dd,da,sl⟩,g,hc,m,hd⟩:=p;simp only at hc hd;subst hc hd;exact ⟨m,dd,sl,g⟩
noncomputable def ZF (z TI TO i1 i2 l1 l2:Addr) (i:Nat) (h:Heap):Prop:=∃a b,h.get? z=some (Wz.zpO .none (.bool false) TI TO)/\h.get? TI=some (Wz.prO (.ref i1) (.ref i2))/\h.get? TO=some (Wz.prO a b)/\h.get? i1=some (Wz.itO l1 i)/\h.get? i2=some (Wz.itO l2 i)
theorem aBs {P:Program} {w:World} {K:PySem.W.Frag} {elts:List Expr} {x1} {tp:Pos} {z TI TO i1 i2 l1 l2:Addr} (ap:Wz.Apart z TI TO i1 i2 l1 l2):Turn P w K (.Tuple elts x1 tp) (Itz l1 l2) [z,TI,TO,i1,i2] z (ZF z TI TO i1 i2 l1 l2) where
 mem:=by simp
 obj:=fun i h ⟨a,b,e1,e2,e3,e4,e5⟩ c hc=>by
  simp only [List.mem_cons,List.not_mem_nil,or_false] at hc;rcases hc with rfl|rfl|rfl|rfl|rfl
  ·exact ⟨_,e1,fun v q=>nomatch (show Data.fields _=Data.cell v from q)⟩
  ·exact ⟨_,e2,fun v q=>nomatch (show Data.seq _ _=Data.cell v from q)⟩
  ·exact ⟨_,e3,fun v q=>nomatch (show Data.seq _ _=Data.cell v from q)⟩
  ·exact ⟨_,e4,fun v q=>nomatch (show Data.fields _=Data.cell v from q)⟩
  ·exact ⟨_,e5,fun v q=>nomatch (show Data.fields _=Data.cell v from q)⟩
 keep:=fun i h h' ⟨a,b,e1,e2,e3,e4,e5⟩ k=>⟨a,b,k _ (by simp) _ e1,k _ (by simp) _ e2,k _ (by simp) _ e3,k _ (by simp) _ e4,k _ (by simp) _ e5⟩
 item:=by
  intro Y hP hw hK hc i pins s σ H E I hf ⟨a,b,e1,e2,e3,e4,e5⟩ ⟨xs,ys,x,y,g1,g2,hx,hy⟩;subst hP hw hK;obtain ⟨its1,w1,p1,_⟩:=I.tuple (.of g1);obtain ⟨its2,w2,p2,_⟩:=I.tuple (.of g2);obtain ⟨u,hu,ru⟩:=w1.get hx;obtain ⟨v,hv,rv⟩:=w2.get hy;obtain ⟨n1,d1,s1,t1⟩:=CZ p1;obtain ⟨n2,d2,s2,t2⟩:=CZ p2;have hw:Wz.W z TI TO i1 i2 l1 l2 (Wz.tuO its1.toArray n1 d1 s1) (Wz.tuO its2.toArray n2 d2 s2) .none (.bool false) a b i i s.heap:=⟨e1,e2,e3,e4,e5,t1,t2⟩
  refine wpAny_bind (wpAny_attempt (wpAny_callSpecial?_slot hw.ty F.slot_zip_next (wpAny_call_entry F.slot_zip_next hw.ty F.entry_zip_next ?_ (F.args_zip_next_1 _))));refine Wz.first ap hw (x:=u) (y:=v) (by simpa using hu) (by simpa using hv) fun h' p w' ep pp sd=>wpAny_pure ⟨_,rfl,Wz.let_go ap w' fun h'' w'' sb=>?_⟩
  subst pp;have sb':Heap.SameBut z h' h'':=sb;have lt:∀{c o},s.heap.get? c=some o->s.heap.objs.size≠c:=fun e=>Nat.ne_of_gt (Heap.lt_size e)
  have kk:∀c o,c∉[z,TI,TO,i1,i2]->s.heap.get? c=some o->h''.get? c=some o:=fun c o hc e=>by
   simp only [List.mem_cons,List.not_mem_nil,or_false,not_or] at hc;exact (sb'.2 c hc.1).trans (sd c o hc.1 hc.2.2.1 hc.2.2.2.1 hc.2.2.2.2 e)
  have ep':h''.get? s.heap.objs.size=some (Wz.prO u v):=(sb'.2 _ (lt e1)).trans ep;refine ⟨.ref s.heap.objs.size,upd H s.heap.objs.size (.tup [x,y]),NQ (s:=s) (h':=h'') (t':=s.toks) (ch:=[z,TI,TO,i1,i2]) I kk hf (Nat.le_refl _) ?_,rfl,⟨_,x,y,fun zs hz=>?_,fun zs hz=>?_,rfl,I.hok.fresh (Nat.le_refl _),rfl⟩,⟨u,v,w''.z_,w''.ti,w''.to,w''.j1,w''.j2⟩,fun c hc=>?_⟩
  ·exact ⟨by show 2<=sizeLine;rw [sizeLine_eq];decide,[u,v],.cons ru (.cons rv .nil),⟨_,ep',rfl,0,rfl⟩⟩
  ·rw [g1] at hz;cases hz;exact hx
  ·rw [g2] at hz;cases hz;exact hy
  ·have hn:=(hf c hc).1;rw [bB]
   ·exact hn
   ·intro q;subst q;simp only [List.mem_cons,List.not_mem_nil,or_false] at hc;rcases hc with h|h|h|h|h
    ·exact lt e1 h
    ·exact lt e2 h
    ·exact lt e3 h
    ·exact lt e4 h
    ·exact lt e5 h
 done:=by
  intro Y hP hw hK hc i pins s σ H E I hf ⟨a,b,e1,e2,e3,e4,e5⟩ ⟨xs,ys,g1,g2,hl,hi⟩;subst hP hw hK;obtain ⟨its1,w1,p1,_⟩:=I.tuple (.of g1);obtain ⟨its2,w2,p2,_⟩:=I.tuple (.of g2);obtain ⟨n1,d1,s1,t1⟩:=CZ p1;obtain ⟨n2,d2,s2,t2⟩:=CZ p2;have hw:Wz.W z TI TO i1 i2 l1 l2 (Wz.tuO its1.toArray n1 d1 s1) (Wz.tuO its2.toArray n2 d2 s2) .none (.bool false) a b i i s.heap:=⟨e1,e2,e3,e4,e5,t1,t2⟩
  have hz:its1.toArray[i]?=none:=by
   have:=w1.length;simp;lia
  refine Wz.aDk (I.ok.hd hc) ap ⟨_,_,_,_,hw,.inl ⟨rfl,rfl⟩⟩ hz fun h' sd=>⟨rfl,YZ (t':=s.toks) (ch:=[z,TI,TO,i1,i2]) I (fun c o hc e=>?_) hf⟩
  simp only [List.mem_cons,List.not_mem_nil,or_false,not_or] at hc;exact sd c o hc.1 hc.2.2.1 hc.2.2.2.1 hc.2.2.2.2 e
 self:=fun _ _ _ _ _ ⟨a,b,e1,_⟩ h=>wpAny_pyIter_zip (TI:=TI) (TO:=TO) (f0:=.none) e1 h
section
variable {X:Cx} {a b:Expr} {fs:FA} {rr:Bool} {p pos:Pos}
theorem aJ6 {elts:List Expr} {x1} {tp:Pos} (hg:Gl X "zip") (hm:X.mg "zip" = none) (ha:PA X [a,b] (gA fs rr)) (hs2:starEach [a,b] X.env=(false,eval a X.env)::starEach [b] X.env:=by rfl) (hpl2:(backTo pos (starEach [b] X.env)).any (·.1)=false:=by rfl) :
  PI X (.Tuple elts x1 tp) (.Call (.Name "zip" p) [a,b] [] pos) (gI X.K (jC fs aM9)):=by
 intro pins s σ H R I ⟨ρ,items,k,E,h,q⟩;obtain ⟨ds,h1,h2⟩:=aR h;unfold aM9 at h2;split at h2
 ·rename_i xs ys;split at h2
  ·rename_i hb;cases h2;simp only [Bool.and_eq_true,decide_eq_true_eq] at hb;obtain ⟨⟨hb1,hb2⟩,hb3⟩:=hb;refine wpAny_Call_Name_kw (n6 I hg hm boot_zip ?_);refine PyProof.Rows.callWith_type1 (thn (ha pos pins s σ H (fun vs H1=>b_ H H1/\bQ All H1 vs [.tup xs,.tup ys]) I ⟨ρ,_,E,h1,fun vs H1 s1 r1 _=>⟨s1,r1⟩⟩) fun us s1 ⟨vs,H1,I1,r1,sm,rp⟩=>?_) hs2 hpl2;cases rp with
   | cons rp1 rp=>
    cases rp with
    | cons rp2 rp=>
     cases rp;obtain ⟨l1,vs1,rfl,e1,rr1⟩:=rp1.gD;obtain ⟨l2,vs2,rfl,e2,rr2⟩:=rp2.gD;cases r1 with
     | cons q1 r1=>
      cases r1 with
      | cons q2 r1=>
       cases r1;cases q1;cases q2;obtain ⟨its1,w1,p1,_⟩:=I1.tuple (.of e1);obtain ⟨its2,w2,p2,_⟩:=I1.tuple (.of e2);have lt1:l1<s1.heap.objs.size:=by obtain ⟨_,e,_⟩:=p1;exact Heap.lt_size e
       have lt2:l2<s1.heap.objs.size:=by obtain ⟨_,e,_⟩:=p2;exact Heap.lt_size e
       have t1:s1.heap.IsTuple l1 its1.toArray:=p1;have t2:s1.heap.IsTuple l2 its2.toArray:=p2;refine Wz.aDj t1 t2 fun h' n hn z1 z2 z3 z4 z5 kp zsz=>?_
       subst hn;refine wpAny_pyIter_zip (TI:=s1.heap.objs.size+2) (TO:=s1.heap.objs.size+3) (f0:=.none) z5 ?_;have fp:∀c,s1.heap.objs.size<=c->QB X pins H1 c:=fun c hc=>I1.aHs hc (I1.hok.fresh hc)
       refine ⟨_,_,_,_,H1,rfl,I1.kept (t':=s1.toks) fun c o e=>kp c o e,aBs (JS lt1 lt2),⟨_,_,z5,z3,z4,z1,z2⟩,fun c hc=>?_,q _ H1 sm (.zip l1 l2 xs ys rfl rp1 rp2 hb1 rfl) fun _=>.zip l1 l2 xs ys rfl (rp1.bK (by rw [D.pure];exact hb2)) (rp2.bK (by rw [D.pure];exact hb3)) hb1 rfl⟩;simp only [List.mem_cons,List.not_mem_nil,or_false] at hc;rcases hc with rfl|rfl|rfl|rfl|rfl
       ·exact fp _ (Nat.le_add_right _ _)
       ·exact fp _ (Nat.le_add_right _ _)
       ·exact fp _ (Nat.le_add_right _ _)
       ·exact fp _ (Nat.le_refl _)
       ·exact fp _ (Nat.le_add_right _ _)
  ·cases h2
 ·cases h2
end
end Mi
end
section
namespace Mi
open PySem L2 PySem.SeqAt PySem.Spec PyProof.Rows
abbrev FX:=List D->Res (D×List D)
abbrev FXT:=List D->Res (Bool×List D)
noncomputable def LQ:D->Option (List D)
 | .lst xs=>some xs
 | .cel _ xs=>some xs
 | _=>none
noncomputable def aBt:D->List D->D
 | .cel a _,xs=>.cel a xs
 | _,xs=>.lst xs
def wU (k:Nat):Nat->Bool:=fun i=>decide (i<k)
open Classical in
noncomputable def ch1 (f:List D->Res D) (xs rest:List D):Res (D×List D):=
 if h:∃p:D×List D,∀b,f (.cel b xs::rest)=.ok (.tup [p.1,.cel b p.2]) then .ok h.choose else .bad
theorem aJ7 {f:List D->Res D} {xs rest:List D} {p:D×List D} (h:ch1 f xs rest=.ok p):∀b,f (.cel b xs::rest)=.ok (.tup [p.1,.cel b p.2]):=by
 unfold ch1 at h;split at h
 ·rename_i e;cases h;exact e.choose_spec
 ·cases h
theorem JT {f:List D->Res D} {xs rest xs':List D} {r:D} (h:∀b,f (.cel b xs::rest)=.ok (.tup [r,.cel b xs'])):ch1 f xs rest=.ok (r,xs'):=by
 have e:∃p:D×List D,∀b,f (.cel b xs::rest)=.ok (.tup [p.1,.cel b p.2]):=⟨(r,xs'),h⟩
 have q:ch1 f xs rest=.ok e.choose:=by unfold ch1;rw [dif_pos e]
 rw [q];have z:=e.choose_spec 0;rw [h 0] at z;injection z with z
 injection z with z
 injection z with z1 z2
 injection z2 with z2
 injection z2 with _ z2
 rw [z1,z2]
noncomputable def aMa (k:Nat):Fl->Res D
 | .rt (.tup (d::ρ))=>.ok (.tup (d::ρ.take k))
 | .nx ρ=>.ok (.tup (.non::ρ.take k))
 | _=>.bad
noncomputable def fnX (k n m:Nat) (f:FS):List D->Res D:=fun ds=>do
 let r <- f (ds++List.replicate (m-n) .uD)
 aMa k r
noncomputable def bY (f:List D->Res D) (n i:Nat) (fs:FA):FX:=fun ρ=>do
 let rest <- fs ρ
 match LQ (ρ.getD i .uD) with
 | some xs=>if decide (rest.length+1=n) then (do
   let p <- ch1 f xs rest
   if D.aX p.2 then .ok (p.1,ρ.set i (aBt (ρ.getD i .uD) p.2)) else .bad) else .bad
 | none=>.bad
noncomputable def x2L (f:D->D->Res D) (fa:FX) (fb:FE):FX:=fun ρ=>do
 let p <- fa ρ
 if p.1.pure then (do
  let y <- fb p.2
  let d <- f p.1 y
  if d.pure then .ok (d,p.2) else .bad) else .bad
noncomputable def x2R (f:D->D->Res D) (fa:FE) (fb:FX):FX:=fun ρ=>do
 let x <- fa ρ
 let p <- fb ρ
 let d <- f x p.1
 if d.pure then .ok (d,p.2) else .bad
noncomputable def xTB (f:FX):FXT:=fun ρ=>do
 let p <- f ρ
 let b <- asB p.1
 .ok (b,p.2)
noncomputable def fX (o:Bool) (i:Nat) (f:FX):FS:=fun ρ=>do
 let p <- f ρ
 if (if o then inner p.1 else true) then .ok (.nx (p.2.set i p.1)) else .bad
noncomputable def aBu (c:FXT) (f g:FS):FS:=fun ρ=>do
 let p <- c ρ
 if p.1 then f p.2 else g p.2
noncomputable def Y0 (i:Nat) (fk fv:FE):FS:=fun ρ=>do
 let d <- fv ρ
 let k <- fk ρ
 match LQ (ρ.getD i .uD),k with
 | some xs,.int k=>if d.pure then (match ixD xs.length k with|some j=>.ok (.nx (ρ.set i (aBt (ρ.getD i .uD) (xs.set j d))))|none=>.bad) else .bad
 | _,_=>.bad
noncomputable def bPu (f:FE):FE:=fun ρ=>do
 let d <- f ρ
 if d.pure then .ok d else .bad
noncomputable def isI:D->Bool
 | .int _=>true
 | _=>false
noncomputable def aFy:List D->Res (List D)
 | []=>.bad
 | .lst ys::xs=>if ys.all isI&&D.aX xs then .ok (.scr ys::xs) else .bad
 | x::xs=>if x.pure then (do let r <- aFy xs;.ok (x::r)) else .bad
noncomputable def aLd (f:FE):FE:=fun ρ=>do
 let d <- f ρ
 match d with
 | .lst xs=>(do let r <- aFy xs;.ok (.lst r))
 | _=>.bad
noncomputable def xE (f:FE):FX:=fun ρ=>do
 let d <- f ρ
 if d.pure then .ok (d,ρ) else .bad
variable [KFrag]
section
variable {own:Nat->Bool}
theorem aDm {P:Addr->Prop} {H:Hp} {a:Addr} {d:D} {xs:List D} (r:Rep P H (.ref a) d) (h:LQ d=some xs):∃vs,H a=some (.lst vs)/\P a/\bQ P H vs xs:=by
 cases d <;> simp only [LQ] at h <;> cases h <;> cases r
 ·exact ⟨_,by assumption,by assumption,by assumption⟩
 ·exact ⟨_,by assumption,by assumption,by assumption⟩
theorem Y4 {P:Addr->Prop} {H:Hp} {v:V} {b:Nat} {xs:List D} (r:Rep P H v (.cel b xs)):v=.ref b:=by cases r;rfl
theorem aDn {P P':Addr->Prop} {H H':Hp} {a:Addr} {d:D} {xs xs':List D} {vs':List V} (r:Rep P H (.ref a) d) (h:LQ d=some xs) (e:H' a=some (.lst vs')) (p:P' a) (r':bQ P' H' vs' xs'):Rep P' H' (.ref a) (aBt d xs'):=by
 cases d <;> simp only [LQ] at h <;> cases h <;> cases r
 ·exact .lst e p r'
 ·exact .cel e p r'
theorem aJ8 {d:D} {xs:List D} (h:LQ d=some xs):inner d=D.aX xs:=by
 cases d <;> simp only [LQ] at h <;> cases h <;> rfl
theorem Y5 {d:D} {xs xs':List D} (h:LQ d=some xs):inner (aBt d xs')=D.aX xs':=by
 cases d <;> simp only [LQ] at h <;> cases h <;> rfl
theorem aJ9 {d:D} {xs:List D} (h:LQ d=some xs):d≠.uD:=fun z=>by subst z;cases h
theorem ES.aN2 {H H':Hp} {σ:L2.St} {ρ:List D} {i:Nat} {a:Addr} {o:HO} {d:D} (E:ES own H σ ρ) (ho:own i=true) (hi:σ[i]?=some (some (.ref a))) (hk:∀b ob,H b=some ob->b≠a->H' b=some ob) (e:H' a=some o) (hm:QM o=true) (r:Rep All H' (.ref a) d) (hin:inner d=true) :
  ES own H' σ (ρ.set i d)/\KU own σ H σ H':=by
 have hOa:Own own σ a:=⟨i,ho,hi⟩
 obtain ⟨a',oa,ea,_,_,hHa,hma,huq⟩:=E.own i _ ho hi;cases ea;have k:KU own σ H σ H':=fun b ob e n=>⟨hk b ob e (fun z=>by subst z;exact n hOa),n⟩
 have hl:i<ρ.length:=by rw [<-E.len];exact (List.getElem?_eq_some_iff.mp hi).1
 refine ⟨⟨by simp [E.len],fun j hj=>?_,fun j w hj hw=>?_⟩,k⟩
 ·rw [cR] at hj ⊢;by_cases h:i=j/\i<ρ.length
  ·obtain ⟨rfl,_⟩:=h;exact ⟨_,hi,fun z=>by rw [ho] at z;cases z⟩
  ·rw [if_neg h] at hj ⊢;obtain ⟨w,h1,h2⟩:=E.at_ j hj;exact ⟨w,h1,fun hj=>k.rep E (h2 hj)⟩
 ·by_cases hij:i=j
  ·subst hij;rw [hi] at hw;cases hw;rw [cR,if_pos ⟨rfl,hl⟩];exact ⟨a,o,rfl,r,hin,e,hm,huq⟩
  ·rw [cR,if_neg fun z=>hij z.1];obtain ⟨b,ob,h1,h2,h3,h4,h5,h6⟩:=E.own j w hj hw;subst h1;have hba:b≠a:=fun z=>by subst z;exact hij (h6 i ho hi)
   refine ⟨b,ob,rfl,?_,h3,hk _ _ h4 hba,h5,h6⟩;refine (h2.wU (P':=fun c=>c=b) h3 rfl).keep (fun c oc hc hp=>?_) fun _ _=>trivial
   refine hk _ _ hc fun z=>?_
   subst z;rcases hp with hp|hp
   ·exact hba hp.symm
   ·rw [hHa] at hc;cases hc;rw [hma] at hp;cases hp
noncomputable def NS (own:Nat->Bool) (ρ ρ':List D):Prop:=∀i,own i=false->ρ'.getD i .uD=ρ.getD i .uD
theorem NS.refl {ρ:List D}:NS own ρ ρ:=fun _ _=>rfl
theorem NS.trans {ρ ρ1 ρ2:List D} (a:NS own ρ ρ1) (b:NS own ρ1 ρ2):NS own ρ ρ2:=fun i h=>(b i h).trans (a i h)
theorem NS.set {ρ:List D} {i:Nat} {d:D} (ho:own i=true):NS own ρ (ρ.set i d):=fun j hj=>by
 rw [cR,if_neg];rintro ⟨rfl,_⟩;rw [ho] at hj;cases hj
noncomputable def kX (own:Nat->Bool) (σ:L2.St) (H:Hp) (ρ:List D) (d:D) (ρ':List D) (Q:VK):Prop:=∀v H',KU own σ H σ H'->ES own H' σ ρ'->NS own ρ ρ'->Rep (New H) H' v d->Q v H'
noncomputable def gX (own:Nat->Bool) (f:FX):TE:=fun σ H Q=>∃ρ d ρ',ES own H σ ρ/\f ρ=.ok (d,ρ')/\kX own σ H ρ d ρ' Q
noncomputable def gXT (own:Nat->Bool) (f:FXT):TT:=fun σ H Q=>∃ρ d ρ',ES own H σ ρ/\f ρ=.ok (d,ρ')/\∀H',KU own σ H σ H'->ES own H' σ ρ'->NS own ρ ρ'->Q d H'
noncomputable def gAO (own:Nat->Bool) (f:FA):TA:=fun σ H Q=>∃ρ ds,ES own H σ ρ/\f ρ=.ok ds/\∀vs H',b_ H H'->bQ (fun a=>¬Own own σ a) H' vs ds->Q vs H'
theorem aFz {σ:L2.St} {H H1:Hp} {ρ1:List D} (k:KU own σ H σ H1) (E1:ES own H1 σ ρ1) {a:Addr} (h:H1 a=none):H a=none:=by
 cases q:H a with
 | none=>rfl
 | some o=>
  by_cases n:Own own σ a
  ·obtain ⟨o',e,_⟩:=E1.live n;rw [h] at e;cases e
  ·have:=(k a o q n).1;rw [h] at this;cases this
theorem xW {σ:L2.St} {H:Hp} {ρ:List D} (E:ES own H σ ρ) {a:Addr} (h:H a=none):¬Own own σ a:=fun n=>by
 obtain ⟨o',e,_⟩:=E.live n;rw [h] at e;cases e
theorem aG0 {σ:L2.St} {H H1 H2:Hp} {ρ ρ1:List D} (E:ES own H σ ρ) (E1:ES own H1 σ ρ1) (k:KU own σ H1 σ H2):aAr (New H) H1 H2:=fun a o e hp=>by
 refine (k a o e ?_).1;rcases hp with hp|hp
 ·exact xW E hp
 ·intro n;obtain ⟨o',e',hm⟩:=E1.live n;rw [e] at e';cases e';rw [hp] at hm;cases hm
theorem Rep.ku {σ:L2.St} {H H1 H2:Hp} {ρ ρ1:List D} {v:V} {d:D} (r:Rep (New H) H1 v d) (E:ES own H σ ρ) (E1:ES own H1 σ ρ1) (k:KU own σ H1 σ H2):Rep (New H) H2 v d:=r.keep (aG0 E E1 k) fun _ h=>h
theorem ES.aO4 {H H':Hp} {σ:L2.St} {ρ ρ':List D} {i:Nat} {a:Addr} {o:HO} {d:D} (E:ES own H σ ρ) (k:KU own σ H σ H') (E':ES own H' σ ρ') (ns:NS own ρ ρ') (ho:own i=true) (hn:H a=none) (r:Rep All H' (.ref a) d) (hin:inner d=true) (ha:H' a=some o) (hm:QM o=true) :
  ES own H' (σ.set i (some (.ref a))) (ρ'.set i d)/\KU own σ H (σ.set i (some (.ref a))) H':=by
 have hO:∀b,H b≠none->¬Own own σ b->¬Own own (σ.set i (some (.ref a))) b:=fun b hb n ⟨j,hj,e⟩=>by
  by_cases hij:i=j
  ·subst hij;by_cases hl:i<σ.length
   ·rw [List.getElem?_set_self hl] at e;cases e;exact hb hn
   ·rw [List.getElem?_set,if_pos rfl,if_neg hl] at e;cases e
  ·rw [List.getElem?_set_ne hij] at e;exact n ⟨j,hj,e⟩
 have hna:¬Own own σ a:=xW E hn;refine ⟨⟨by simp [E'.len],fun j hj=>?_,fun j w hj hw=>?_⟩,fun b ob e n=>⟨(k b ob e n).1,hO b (by rw [e];simp) n⟩⟩
 ·rw [cR] at hj ⊢;by_cases h:i=j/\i<ρ'.length
  ·rw [if_pos h];obtain ⟨rfl,hl⟩:=h;exact ⟨.ref a,by rw [List.getElem?_set_self (by rw [E'.len];exact hl)],fun z=>by rw [ho] at z;cases z⟩
  ·rw [if_neg h] at hj ⊢;obtain ⟨w,h1,h2⟩:=E'.at_ j hj;by_cases hij:i=j
   ·subst hij;have:i<σ.length:=(List.getElem?_eq_some_iff.mp h1).1;rw [E'.len] at this;exact absurd ⟨rfl,this⟩ h
   ·refine ⟨w,by rw [List.getElem?_set_ne hij];exact h1,fun hoj=>?_⟩;rw [ns j hoj] at hj ⊢;obtain ⟨w',h1',h2'⟩:=E.at_ j hj;rw [h1] at h1';cases h1';exact (h2' hoj).dom.keep (fun c oc hc hp=>k.keep E c oc hc (hp.imp And.left id)) fun b ⟨n,hb⟩=>hO b hb n
 ·by_cases hij:i=j
  ·subst hij;have hl:i<σ.length:=by
    have:=(List.getElem?_eq_some_iff.mp hw).1;simpa using this
   rw [List.getElem?_set_self hl] at hw;cases hw;rw [cR,if_pos ⟨rfl,by rw [<-E'.len];exact hl⟩];refine ⟨a,o,rfl,r,hin,ha,hm,fun k hk hs=>?_⟩;by_cases hik:i=k
   ·exact hik.symm
   ·rw [List.getElem?_set_ne hik] at hs;exact absurd ⟨k,hk,hs⟩ hna
  ·rw [List.getElem?_set_ne hij] at hw;rw [cR,if_neg fun z=>hij z.1];obtain ⟨b,ob,h1,h2,h3,h4,h5,h6⟩:=E'.own j w hj hw;refine ⟨b,ob,h1,h2,h3,h4,h5,fun k hk hs=>?_⟩;by_cases hik:i=k
   ·subst hik;by_cases hl:i<σ.length
    ·rw [List.getElem?_set_self hl] at hs;cases hs;subst h1;exact absurd ⟨j,hj,hw⟩ hna
    ·rw [List.getElem?_set,if_pos rfl,if_neg hl] at hs;cases hs
   ·rw [List.getElem?_set_ne hik] at hs;exact h6 k hk hs
end
section
variable {own:Nat->Bool} {X:Cx} {a b c e:Expr} {pos pos':Pos} {fa fb fe:FE} {ra rb re:Bool} {xa xb xe:FX}
theorem aMb (ha:PE X a (gE fa ra)):PE X a (gX own (xE fa)):=PE.imp ha fun σ H Q ⟨ρ,d,ρ',E,h,q⟩=>by
 obtain ⟨x,h1,h⟩:=aR h;split at h
 ·rename_i hp;cases h;exact ⟨ρ,_,E.er,h1,fun v H' s r _=>q v H' (.same s) (E.same s) .refl (r.bK hp)⟩
 ·cases h
theorem aN3 {f:D->D->Res D} {fr:Bool} {σ:L2.St} {H:Hp} {Q:VK} (h:gX own (x2L f xa fb) σ H Q):tOp (r2 f fr) (gX own xa) (gE fb rb) σ H Q:=by
 obtain ⟨ρ,d,ρ',E,h,q⟩:=h;obtain ⟨⟨x,ρ1⟩,h1,h⟩:=aR h;split at h
 ·rename_i hp;obtain ⟨y,h2,h⟩:=aR h;obtain ⟨z,h3,h⟩:=aR h;split at h
  ·rename_i hz;cases h;refine ⟨ρ,x,ρ1,E,h1,fun v H1 k1 E1 ns r1=>⟨ρ1,y,E1.er,h2,fun w H2 s2 r2 _=>⟨x,y,_,(r1.same s2).all,r2,h3,fun u H3 s3 r3 _=>?_⟩⟩⟩;exact q u H3 (k1.trans (.same (s2.trans s3))) (E1.same (s2.trans s3)) ns (r3.bK hz)
  ·cases h
 ·cases h
theorem JV {o:Operator} {f:D->D->Res D} {fr:Bool} (ho:OpR X (binaryOp o) (r2 f fr)) (ha:PE X a (gX own xa)) (hb:PE X b (gE fb rb)):PE X (.BinOp a o b pos) (gX own (x2L f xa fb)):=PE.imp (aEk ho ha hb) fun _ _ _=>aN3
theorem aG1 {o:CmpOp} {f:D->D->Res D} {fr:Bool} (ho:OpR X (compareOp o) (r2 f fr)) (ha:PE X a (gX own xa)) (hb:PE X b (gE fb rb)) (hm:behindInMarks o b=false):PT X (.Compare a [o] [b] pos) (gXT own (xTB (x2L f xa fb))):=
 PT.imp (MP ho ha hb hm) fun σ H Q ⟨ρ,k,ρ',E,h,q⟩=>by
  obtain ⟨⟨d,ρ1⟩,h1,h2⟩:=aR h;obtain ⟨b,h3,h4⟩:=aR h2;cases h4;refine aN3 ⟨ρ,d,_,E,h1,fun v H' k1 E1 ns r=>?_⟩;cases XJ h3;cases r;exact ⟨_,rfl,q H' k1 E1 ns⟩
theorem aN4 {f:D->D->Res D} {fr:Bool} {σ:L2.St} {H:Hp} {Q:VK} (h:gX own (x2R f fa xb) σ H Q):tOp (r2 f fr) (gE fa true) (gX own xb) σ H Q:=by
 obtain ⟨ρ,d,ρ',E,h,q⟩:=h;obtain ⟨x,h1,h⟩:=aR h;obtain ⟨⟨y,ρ1⟩,h2,h⟩:=aR h;obtain ⟨z,h3,h⟩:=aR h;split at h
 ·rename_i hz;cases h;refine ⟨ρ,x,E.er,h1,fun v H1 s1 r1 n1=>⟨ρ,y,ρ1,E.same s1,h2,fun w H2 k2 E2 ns r2=>⟨x,y,_,((n1 rfl).ku E (E.same s1) k2).all,r2.all,h3,fun u H3 s3 r3 _=>?_⟩⟩⟩;exact q u H3 ((KU.same s1).trans (k2.trans (.same s3))) (E2.same s3) ns (r3.bK hz)
 ·cases h
theorem aJa {o:Operator} {f:D->D->Res D} {fr:Bool} (ho:OpR X (binaryOp o) (r2 f fr)) (ha:PE X a (gE fa true)) (hb:PE X b (gX own xb)):PE X (.BinOp a o b pos) (gX own (x2R f fa xb)):=PE.imp (aEk ho ha hb) fun _ _ _=>aN4
theorem aJb {σ:L2.St} {H:Hp} {ρ:List D} {i:Nat} {d:D} (E:ES own H σ ρ) (ho:own i=false) (h:dH i ρ=.ok d):∃v,σ[i]?=some (some v)/\Rep (fun a=>¬Own own σ a) H v d:=by
 obtain ⟨v,hv,r,e⟩:=E.er.var h;have hne:ρ.getD i .uD≠.uD:=fun z=>by
  rw [z] at e;subst e;exact Rep.uD r
 obtain ⟨w,hw,hr⟩:=E.at_ i hne;rw [hv] at hw;cases hw;have r2:=hr ho;rw [e] at r2;exact ⟨v,hv,r2⟩
theorem aO5 {i:Nat} {f:D->D->Res D} {fr:Bool} {σ:L2.St} {H:Hp} {Q:VK} (ho:own i=false) (h:gX own (x2R f (dH i) xb) σ H Q):tOp (r2 f fr) (S9 i) (gX own xb) σ H Q:=by
 obtain ⟨ρ,d,ρ',E,h,q⟩:=h;obtain ⟨x,h1,h⟩:=aR h;obtain ⟨⟨y,ρ1⟩,h2,h⟩:=aR h;obtain ⟨z,h3,h⟩:=aR h;obtain ⟨v,hv,rv⟩:=aJb E ho h1;split at h
 ·rename_i hz;cases h;refine ⟨v,hv,ρ,y,ρ1,E,h2,fun w H2 k2 E2 ns r2=>⟨x,y,_,(k2.rep E rv).all,r2.all,h3,fun u H3 s3 r3 _=>?_⟩⟩;exact q u H3 (k2.trans (.same s3)) (E2.same s3) ns (r3.bK hz)
 ·cases h
theorem aJc {i:Nat} {x:Str} {pv:Pos} {f:D->D->Res D} {fr:Bool} (ho:IxR X (r2 f fr)) (hoi:own i=false) (hN:X.N[i]?=some x) (hv:Vis X.env.scope x) (hb:PE X b (gX own xb)) (hs:BJ b) (hd:nDb x:=by decide) (hcd:nCd x:=by decide):PE X (.Subscript (.Name x pv) b pos) (gX own (x2R f (dH i) xb)):=PE.imp (aI4 ho (bW hN hv hd hcd) hb hs) fun _ _ _=>aO5 hoi
theorem RK {o:Bool} {i:Nat} {D':Ends} {σ:L2.St} {H:Hp} (ho:own i=o) (h:tS own (fX o i xe) D' σ H):aEj (gX own xe) (o9 i) D' σ H:=by
 obtain ⟨ρ,fl,E,h,q⟩:=h;obtain ⟨⟨d,ρ1⟩,h1,h2⟩:=aR h;cases o with
 | true=>
  simp only [if_true] at h2;split at h2
  ·rename_i hk;cases h2;refine ⟨ρ,d,ρ1,E,h1,fun v H' k E1 ns r=>?_⟩;obtain ⟨a,ob,rfl,hn,ha,hm⟩:=aDh r hk;obtain ⟨E2,k2⟩:=E.aO4 k E1 ns ho hn r.all hk ha hm;exact q _ H' k2 E2
  ·cases h2
 | false=>
  simp only [Bool.false_eq_true,if_false,if_true] at h2;cases h2;refine ⟨ρ,d,ρ1,E,h1,fun v H' k E1 ns r=>?_⟩;exact q _ H' (fun a ob e hn=>⟨(k a ob e hn).1,by rw [lD ho];exact hn⟩) (E1.set ho (B_ E r))
theorem mR {i:Nat} {x:Str} {o:Bool} (ho:own i=o) (hN:X.N.Nodup) (hi:X.N[i]?=some x) (hx:Loc X.env.scope x) (he:PE X e (gX own xe)) (hs:swapsWith e (some (.Name x pos')) pos.line X.env=pure false:=by rfl) (hf:X.fn x=true\/X.env.scope.names.lookup x=some .local:=by first|exact .inl rfl|exact .inr rfl|assumption) :
  PS X (.Assign [.Name x pos'] e pos) (tS own (fX o i xe)):=PS.imp (G7 hN hi hx he hs hf) fun _ _ _=>RK ho
end
section
variable {own:Nat->Bool} {X:Cx} {a b c e:Expr} {pos pos':Pos} {fa fb fe:FE} {ra rb re:Bool} {xa xb xe:FX}
theorem kRt.new {D:Ends} {σ:L2.St} {H:Hp} {d0:Mi.D} {ρ':List Mi.D} (h:kRt own D σ H (.tup (d0::ρ'))) (hx:own rtX=true):∀v σ' H',KU own σ H σ' H'->ES own H' σ' ρ'->Rep (fun a=>(Own own σ a\/H a=none)/\∀i b xs,ρ'.getD i .uD=.cel b xs->a≠b) H' v d0->D.rt v H':=by
 unfold kRt at h;rw [if_pos hx] at h;obtain ⟨d1,ρ1,e,g⟩:=h;cases e;exact g
theorem kI {σ:L2.St} {H:Hp} {ρ:List D} (E:ES own H σ ρ) {i b:Nat} {xs:List D} (h:ρ.getD i .uD=.cel b xs):∃vs,σ[i]?=some (some (.ref b))/\H b=some (.lst vs):=by
 obtain ⟨v,h1,h2⟩:=E.er i (by rw [h];intro z;cases z);rw [h] at h2;cases h2 with
 | cel e _ _=>exact ⟨_,h1,e⟩
theorem C_ (he:PE X e (gE fe re)) (hx:own rtX=true:=by rfl):PS X (.Return (some e) pos) (tS own (H_ fe re)):=PS.imp (G6 he) fun D σ H ⟨ρ,fl,E,h,q⟩=>by
 obtain ⟨d,h1,h2⟩:=aR h;split at h2
 ·rename_i hk;cases h2;refine ⟨ρ,d,E.er,h1,fun v H' s r n=>kRt.new q hx v σ H' (.same s) (E.same s) ?_⟩;rw [Bool.or_eq_true] at hk;rcases hk with hk|hk
  ·refine (n hk).mono fun a ha=>⟨.inr ha,fun i b xs hb z=>?_⟩
   obtain ⟨vs,_,e⟩:=kI E hb;subst z;rw [show H a=none from ha] at e;cases e
  ·exact r.bK hk
 ·cases h2
theorem RL {i:Nat} {x:Str} (ho:own i=true) (hN:X.N[i]?=some x) (hv:Vis X.env.scope x) (hd:nDb x:=by decide) (hcd:nCd x:=by decide) (hx:own rtX=true:=by rfl):PS X (.Return (some (.Name x pos')) pos) (tS own (zP i)):=
 PS.imp (G6 (bW hN hv hd hcd)) fun D σ H ⟨ρ,fl,E,h,q⟩=>by
 obtain ⟨d,h1,h2⟩:=aR h;split at h2
 ·rename_i hc;cases h2;obtain ⟨v,hv,r,e⟩:=E.er.var h1;obtain ⟨a,o,rfl,r2,hin,_,_,huq⟩:=E.own i v ho hv;rw [e] at hin;refine ⟨_,hv,kRt.new q hx _ σ H (.same (b_.refl H)) E (r.wU hin ⟨.inl ⟨i,ho,hv⟩,fun j b xs hb z=>?_⟩)⟩;obtain ⟨vs,hj,eb⟩:=kI E hb;subst z;cases hoj:own j with
  | true=>
   have:=huq j hoj hj;subst this;rw [hb] at e;subst e;cases hc
  | false=>
   obtain ⟨w,hw,hr⟩:=E.at_ j (by rw [hb];intro z;cases z);have r3:=hr hoj;rw [hb] at r3;cases r3 with
   | cel e p r=>exact p ⟨i,ho,hv⟩
 ·cases h2
noncomputable def spV (k:Nat) (f:List D->Res D) (n:Nat):Sp:=fun vs H Q _=>∃ds d ds',ds.length=n/\vs.length=n/\ES (wU k) H (vs.map some) ds/\(∀i,i<k->∃b xs xs',ds.getD i .uD=.cel b xs/\ds'.getD i .uD=.cel b xs')/\f ds=.ok (.tup (d::ds'))/\
 ∀v H',(∀a o,H a=some o->¬Own (wU k) (vs.map some) a->H' a=some o)->(∀i v,i<k->vs[i]?=some v->Rep All H' v (ds'.getD i .uD)/\inner (ds'.getD i .uD)=true)->Rep (New H) H' v d->Q v H'
theorem aG2 {k:Nat} {f:List D->Res D} {n:Nat} {vs:List V} {H:Hp} {Q:VK} {E:XK} (h:spV k f n vs H Q E):vs.length=n:=by
 obtain ⟨ds,d,ds',h1,h2,_⟩:=h;exact h2
theorem JW {ρ:List D} {k i:Nat} (h:i<k):(ρ.take k).getD i .uD=ρ.getD i .uD:=by
 rw [List.getD_eq_getElem?_getD,List.getD_eq_getElem?_getD,List.getElem?_take,if_pos h]
theorem aBv {k:Nat} {N ps:List Str} {f:FS} {vs:List V} {H:Hp} {Q:VK} {E:XK} (hx:own rtX=true) (hown:∀i,i<ps.length->own i=wU k i) (hkn:k<=ps.length) (h0:spV k (fnX k ps.length N.length f) ps.length vs H Q E):tS own f {nx:=fun _ H'=>Q .non H',rt:=Q} (start N vs) H:=by
 obtain ⟨ds,d,ds',hl,hvl,E0,hc,h,q⟩:=h0;obtain ⟨fl,h1,h2⟩:=aR h;have hst:start N vs=vs.map some++List.replicate (N.length-ps.length) none:=by
  show vs.map some++List.replicate (N.length-vs.length) none=_;rw [hvl]
 have low:∀i,i<ps.length->(start N vs)[i]?=(vs.map some)[i]?:=fun i hi=>by rw [hst,List.getElem?_append_left (by simp [hvl,hi])]
 have high:∀i v,ps.length<=i->(start N vs)[i]?≠some (some v):=fun i v hi e=>by
  rw [hst,List.getElem?_append_right (by simp [hvl];lia),List.getElem?_replicate] at e;split at e <;> cases e
 have hO:∀a,Own own (start N vs) a↔Own (wU k) (vs.map some) a:=fun a=>by
  constructor
  ·rintro ⟨i,hi,e⟩;by_cases hlt:i<ps.length
   ·exact ⟨i,by rw [<-hown i hlt];exact hi,by rw [<-low i hlt];exact e⟩
   ·exact absurd e (high i _ (by lia))
  ·rintro ⟨i,hi,e⟩;have hik:i<k:=by simpa [wU] using hi
   have hlt:i<ps.length:=by lia
   exact ⟨i,by rw [hown i hlt];exact hi,by rw [low i hlt];exact e⟩
 have hOf:(fun a=>¬Own own (start N vs) a)=fun a=>¬Own (wU k) (vs.map some) a:=funext fun a=>by rw [hO]
 have gd:∀i,i<ps.length->(ds++List.replicate (N.length-ps.length) D.uD).getD i .uD=ds.getD i .uD:=fun i hi=>by
  rw [List.getD_eq_getElem?_getD,List.getElem?_append_left (by lia),List.getD_eq_getElem?_getD]
 have ES0:ES own H (start N vs) (ds++List.replicate (N.length-ps.length) .uD):=by
  refine ⟨by rw [hst];simp [hvl,hl],fun i hi=>?_,fun i v hi hv=>?_⟩
  ·have hlt:i<ps.length:=Nat.lt_of_not_le fun hge=>hi (by
    rw [List.getD_eq_getElem?_getD,List.getElem?_append_right (by lia),List.getElem?_replicate];split <;> rfl)
   rw [gd i hlt] at hi ⊢;obtain ⟨v,g1,g2⟩:=E0.at_ i hi;exact ⟨v,by rw [low i hlt];exact g1,fun ho=>by rw [hOf];exact g2 (by rw [<-hown i hlt];exact ho)⟩
  ·have hlt:i<ps.length:=Nat.lt_of_not_le fun hge=>high i v hge hv
   rw [low i hlt] at hv;rw [gd i hlt];obtain ⟨a,o,g1,g2,g3,g4,g5,g6⟩:=E0.own i v (by rw [<-hown i hlt];exact hi) hv;refine ⟨a,o,g1,g2,g3,g4,g5,fun j hj hs=>?_⟩;have hjl:j<ps.length:=Nat.lt_of_not_le fun hge=>high j _ hge hs
   exact g6 j (by rw [<-hown j hjl];exact hj) (by rw [<-low j hjl];exact hs)
 have fin:∀v σ' H' ρ',ds'=ρ'.take k->KU own (start N vs) H σ' H'->ES own H' σ' ρ'->Rep (New H) H' v d->Q v H':=fun v σ' H' ρ' ed ku E' r=>by
  refine q v H' (fun a o e n=>(ku a o e (by rw [hO];exact n)).1) (fun i w hi hw=>?_) r;have hlt:i<ps.length:=by lia
  obtain ⟨b,xs,xs',g1,g2⟩:=hc i hi;have hoi:own i=true:=by rw [hown i hlt];simp [wU,hi]
  have g3:ρ'.getD i .uD=.cel b xs':=by rw [ed,JW hi] at g2;exact g2
  obtain ⟨vs0,z1,_⟩:=kI E0 g1;rw [List.getElem?_map,hw] at z1;cases z1;obtain ⟨w',z2,_⟩:=E'.at_ i (by rw [g3];intro z;cases z);obtain ⟨a,o,rfl,g4,g5,_⟩:=E'.own i w' hoi z2;rw [g3] at g4 g5;have:=Y4 g4;cases this;rw [g2];exact ⟨g4,g5⟩
 refine ⟨_,fl,ES0,h1,?_⟩;cases fl with
 | nx ρ'=>
  simp only [aMa] at h2;injection h2 with h2
  injection h2 with h2
  injection h2 with z1 z2
  subst z1;exact fun σ' H' ku E'=>fin .non σ' H' ρ' z2.symm ku E' .non
 | bk ρ'=>cases h2
 | ct ρ'=>cases h2
 | rt d'=>
  show kRt own _ _ _ d';unfold kRt;rw [if_pos hx];unfold aMa at h2;split at h2
  ·rename_i d1 ρ' heq;cases heq;injection h2 with h2
   injection h2 with h2
   injection h2 with z1 z2
   subst z1;refine ⟨_,_,rfl,fun v σ' H' ku E' r=>fin v σ' H' ρ' z2.symm ku E' (r.mono fun a ha=>?_)⟩;rcases ha.1 with ⟨i,hi,e⟩|hn
   ·exfalso;have hlt:i<ps.length:=Nat.lt_of_not_le fun hge=>high i _ hge e
    have hik:i<k:=by rw [hown i hlt] at hi;simpa [wU] using hi
    obtain ⟨b,xs,xs',g1,g2⟩:=hc i hik;obtain ⟨vs0,q1,_⟩:=kI E0 g1;rw [low i hlt,q1] at e;cases e;rw [<-z2,JW hik] at g2;exact ha.2 i _ xs' g2 rfl
   ·exact hn
  ·rename_i heq;cases heq
  ·cases h2
theorem aJd {P:Program} {w:World} {K:PySem.W.Frag} {mg:Str->Option Value} {base:Heap} {x qual:Str} {st:Stmt} {fad:Addr} {fd:FuncData} {N ps:List Str} {k c:Nat} {f:FS} (F:Fun K x qual st fad fd) (S:bO N ps (aH st)) (own:Nat->Bool) (hx:own rtX=true) (hown:∀i,i<ps.length->own i=wU c i) (hkn:c<=ps.length)
  (hbody:∀(cdv:Value) (A:Around) (outer:List Env) (s:Shared) (H:Hp) (E:XK),jX k (A.deeper (envOfC qual (aH st) s.heap.objs.size fad cdv))->PSs (lY CX0 P w K mg base N qual (aH st) fad cdv A outer s H E).nox (cZ st) (tS own f)):o7 P w K mg base CX0 (k+1) fad fd ps (spV c (fnX c ps.length N.length f) ps.length):=
 F.ok S (fun vs H Q E h=>aG2 h) fun cdv A outer s H vs Q E hr h=>⟨_,hbody cdv A outer s H E hr,aBv hx hown hkn h⟩
noncomputable def LR (P:Program) (w:World) (K:PySem.W.Frag) (mg:Str->Option Value) (base:Heap) (k:Nat) (x:Str) (n c:Nat) (f:List D->Res D):Prop:=
 ∃(fad:Addr) (fd:FuncData) (ps:List Str),o7 P w K mg base CX0 k fad fd ps (spV c f n)/\mg x=some (.ref fad)/\PySem.W.keepIn K (.ref fad)=true/\Binds K fd ps []
theorem xX {P:Program} {w:World} {K:PySem.W.Frag} {mg:Str->Option Value} {base:Heap} {x:Str} {k:Nat} {st:Stmt} {fad:Addr} {fd:FuncData} {N ps:List Str} {fs:FS} (c:Nat) (F:Fun K x x st fad fd) (hm:mg x=some (.ref fad)) (hb:Binds K fd ps []) (S:bO N ps (aH st)) (own:Nat->Bool) (hown:∀i,i<ps.length->own i=wU c i) (hkn:c<=ps.length)
  (hbody:∀(cdv:Value) (A:Around) (outer:List Env) (s:Shared) (H:Hp) (E:XK),jX k (A.deeper (envOfC x (aH st) s.heap.objs.size fad cdv))->PSs (lY CX0 P w K mg base N x (aH st) fad cdv A outer s H E).nox (cZ st) (tS own fs)) (hx:own rtX=true:=by rfl):LR P w K mg base (k+1) x ps.length c (fnX c ps.length N.length fs):=
 ⟨fad,fd,ps,aJd F S own hx hown hkn hbody,hm,F.kp,hb⟩
theorem jF:PA X [] (gAO own aO):=PA.imp iJ fun σ H Q ⟨ρ,ds,E,h,q⟩=>by cases h;exact q [] H (b_.refl H) .nil
theorem RM {i:Nat} {x:Str} {es:List Expr} {f:FA} (ho:own i=false) (hN:X.N[i]?=some x) (hv:Vis X.env.scope x) (hes:PA X es (gAO own f)) (hd:nDb x:=by decide) (hcd:nCd x:=by decide) (hs:starEach (.Name x pos::es) X.env=(false,eval (.Name x pos) X.env)::starEach es X.env:=by rfl):PA X (.Name x pos::es) (gAO own (aB (dH i) f)):=PA.imp (bI (bW hN hv hd hcd) hes hs) fun σ H Q ⟨ρ,ds,E,h,q⟩=>by
 obtain ⟨x,h1,h⟩:=aR h;obtain ⟨xs,h2,h⟩:=aR h;cases h;obtain ⟨v,hv,rv⟩:=aJb E ho h1;exact ⟨v,hv,ρ,xs,E,h2,fun vs H2 s2 r2=>q _ _ s2 (.cons (rv.same s2) r2)⟩
theorem aJe {es:List Expr} {f:FA} (he:PE X e (gE fe re)) (hes:PA X es (gAO own f)) (hs:starEach (e::es) X.env=(false,eval e X.env)::starEach es X.env:=by rfl):PA X (e::es) (gAO own (aB (bPu fe) f)):=PA.imp (bI he hes hs) fun σ H Q ⟨ρ,ds,E,h,q⟩=>by
 obtain ⟨x,h1,h⟩:=aR h;obtain ⟨xs,h2,h⟩:=aR h;cases h;obtain ⟨y,h3,h1⟩:=aR h1;split at h1
 ·rename_i hp;cases h1;exact ⟨ρ,_,E.er,h3,fun v H1 s1 r1 _=>⟨ρ,xs,E.same s1,h2,fun vs H2 s2 r2=>q _ _ (s1.trans s2) (.cons ((r1.bK hp).same s2) r2)⟩⟩
 ·cases h1
theorem aJf {es:List Expr} {f:FA} (he:PE X e (gE fe true)) (hes:PA X es (gAO own f)) (hs:starEach (e::es) X.env=(false,eval e X.env)::starEach es X.env:=by rfl):PA X (e::es) (gAO own (aB fe f)):=PA.imp (bI he hes hs) fun σ H Q ⟨ρ,ds,E,h,q⟩=>by
 obtain ⟨x,h1,h⟩:=aR h;obtain ⟨xs,h2,h⟩:=aR h;cases h;exact ⟨ρ,_,E.er,h1,fun v H1 s1 r1 n1=>⟨ρ,xs,E.same s1,h2,fun vs H2 s2 r2=>q _ _ (s1.trans s2) (.cons ((B_ E (n1 rfl)).same s2) r2)⟩⟩
theorem aMc {H:Hp} {a:Addr} {xs:List D} {vs0:List V} {vs:List V} {rest:List D} (ha:H a=some (.lst vs0)) (ra:bQ All H vs0 xs) (hp:D.aX xs=true) (rs:bQ (fun b=>b≠a) H vs rest):ES (wU 1) H ((V.ref a::vs).map some) (.cel a xs::rest):=by
 have hO:∀b,Own (wU 1) ((V.ref a::vs).map some) b->b=a:=fun b ⟨j,hj,e⟩=>by
  have:j=0:=by simp [wU] at hj;lia
  subst this;simp at e;exact e.symm
 refine ⟨by simp [rs.length],fun i hi=>?_,fun i v hi hv=>?_⟩
 ·cases i with
  | zero=>exact ⟨.ref a,rfl,fun z=>by simp [wU] at z⟩
  | succ i=>
   have e:(D.cel a xs::rest).getD (i+1) .uD=rest.getD i .uD:=rfl;rw [e] at hi ⊢;cases hq:rest[i]? with
   | none=>rw [List.getD_eq_getElem?_getD,hq] at hi;exact absurd rfl hi
   | some d=>
    obtain ⟨v,g1,g2⟩:=rs.get hq;rw [List.getD_eq_getElem?_getD,hq];exact ⟨v,by simp [g1],fun _=>g2.mono fun b hb ho=>hb (hO b ho)⟩
 ·have:i=0:=by simp [wU] at hi;lia
  subst this;simp at hv;subst hv;exact ⟨a,.lst vs0,rfl,.cel ha trivial ra,hp,ha,rfl,fun j hj _=>by simp [wU] at hj;lia⟩
theorem Y6 {σ:L2.St} {H:Hp} {ρ:List D} {i:Nat} {xs:List D} (E:ES own H σ ρ) (ho:own i=true) (h:LQ (ρ.getD i .uD)=some xs):∃a vs,σ[i]?=some (some (.ref a))/\H a=some (.lst vs)/\bQ All H vs xs/\D.aX xs=true/\Rep All H (.ref a) (ρ.getD i .uD)/\∀b,ρ.getD i .uD=.cel b xs->b=a:=by
 obtain ⟨a,o,hσ,r,hin,ha,hm⟩:=E.ownAt ho (aJ9 h);obtain ⟨vs,e,_,rr⟩:=aDm r h;exact ⟨a,vs,hσ,e,rr,by rw [aJ8 h] at hin;exact hin,r,fun b hb=>by rw [hb] at r;have:=Y4 r;cases this;rfl⟩
theorem aJg {H H':Hp} {a:Addr} {d:D} {xs xs':List D} (r:Rep All H (.ref a) d) (h:LQ d=some xs) (r':Rep All H' (.ref a) (.cel a xs')):∃vs,H' a=some (.lst vs)/\Rep All H' (.ref a) (aBt d xs'):=by
 obtain ⟨vs,e,_,rr⟩:=aDm r' rfl;exact ⟨vs,e,aDn r h e trivial rr⟩
theorem dM {x y:Str} {p py:Pos} {es:List Expr} {fs:FA} {k k' n i:Nat} {f:List D->Res D} (C:LR X.prog X.w X.K X.mg X.base k x n 1 f) (hr:jX k' X.A) (hkk:k<=k') (hg:Gl X x) (ho:own i=true) (hN:X.N[i]?=some y) (hv:Vis X.env.scope y) (ha:PA X es (gAO own fs)) (hdb:nDb x:=by decide) (hd:(y==("__debug__" : Str))=false:=by decide) (hcd:(y==("__classdict__" : Str))=false:=by decide)
  (he:starEach (.Name y py::es) X.env=(false,eval (.Name y py) X.env)::starEach es X.env:=by rfl) (hpl:(backTo pos (starEach es X.env)).any (·.1)=false:=by rfl):PE X (.Call (.Name x p) (.Name y py::es) [] pos) (gX own (bY f n i fs)):=by
 obtain ⟨fad,fd,ps,F,hm,hk,hb⟩:=C;refine PE.imp (A_ F (hr.mono hkk) hg hm hk hb .nil aF3 (bI (bW hN hv hd hcd) ha he) hdb he hpl) fun σ H Q ⟨ρ,d,ρ',E,h,q⟩=>?_
 obtain ⟨rest,h1,h⟩:=aR h;split at h
 ·rename_i xs hx;split at h
  ·rename_i hn;obtain ⟨⟨r0,xs'⟩,h2,h⟩:=aR h;split at h
   ·rename_i hp';cases h;obtain ⟨a,vs0,hσ,e0,rr0,hp0,rp0,_⟩:=Y6 E ho hx;refine ⟨_,hσ,ρ,rest,E,h1,fun vs H1 s1 rs=>?_⟩;have hOa:Own own σ a:=⟨i,ho,hσ⟩
    have hl:rest.length+1=n:=of_decide_eq_true hn;dsimp only;rw [List.append_nil];refine ⟨.cel a xs::rest,_,[.cel a xs'],by simp;lia,by simp [rs.length];lia,aMc (s1 _ _ e0) (rr0.same s1) hp0 (rs.mono fun b hb z=>by subst z;exact hb hOa),fun j hj=>?_,aJ7 h2 a,fun v H' k1 own1 rn=>?_⟩
    ·have:j=0:=by lia
     subst this;exact ⟨a,xs,xs',rfl,rfl⟩
    ·obtain ⟨r1,hin⟩:=own1 0 _ (by lia) rfl;have r1:Rep All H' (.ref a) (.cel a xs'):=r1;obtain ⟨vs1,e1,r2⟩:=aJg (rp0.same s1) hx r1;have hk1:∀b ob,H1 b=some ob->b≠a->H' b=some ob:=fun b ob e n=>k1 b ob e fun ⟨j,hj,ej⟩=>by
      have:j=0:=by simp [wU] at hj;lia
      subst this;simp at ej;exact n ej.symm
     obtain ⟨E2,k2⟩:=(E.same s1).aN2 ho hσ hk1 e1 rfl r2 (by rw [Y5 hx];exact hp');exact q v H' ((KU.same s1).trans k2) E2 (.set ho) (rn.mono fun b hb=>s1.free hb)
   ·cases h
  ·cases h
 ·cases h
end
section
variable {own:Nat->Bool} {X:Cx} {a b c e:Expr} {pos pos':Pos} {fa fb fe:FE} {ra rb re:Bool} {xa xb xe:FX}
theorem aG3 {i:Nat} {x:Str} {p1:Pos} {value k:Expr} {fv fk:FE} {rv rk:Bool} (ho:own i=true) (hN:X.N[i]?=some x) (hvi:Vis X.env.scope x) (hk:PE X k (gE fk rk)) (hv:PE X value (gE fv rv)) (hs:swapsWith value (some (.Subscript (.Name x p1) k pos')) pos.line X.env=pure false:=by rfl) (hd:nDb x:=by decide) (hcd:nCd x:=by decide) :
  PS X (.Assign [.Subscript (.Name x p1) k pos'] value pos) (tS own (Y0 i fk fv)):=by
 intro pins s σ H D' I ⟨ρ,fl,E,h,q⟩;obtain ⟨d,h0,h⟩:=aR h;obtain ⟨kd,h1,h2⟩:=aR h;split at h2
 ·rename_i xs kk hx;split at h2
  ·rename_i hp;split at h2
   ·rename_i j hj;cases h2;obtain ⟨a,vs,hσ,e0,rr,hin,rp,_⟩:=Y6 E ho hx;have pn:D.aX (xs.set j d)=true:=fU.mpr fun y hy=>by
     rcases List.mem_or_eq_of_mem_set hy with hy|hy
     ·exact fU.mp hin y hy
     ·subst hy;exact hp
    have go:∀{v:V} {H2:Hp},b_ H H2->Rep All H2 v d->D'.nx σ (upd H2 a (.lst (vs.set j v))):=fun {v H2} sm rv=>by
     have rn:bQ All (upd H2 a (.lst (vs.set j v))) (vs.set j v) (xs.set j d):=((rr.same sm).set rv j).upd pn (sm _ _ e0) rfl;obtain ⟨E2,k2⟩:=(E.same sm).aN2 (H':=upd H2 a (.lst (vs.set j v))) (o:=.lst (vs.set j v)) (d:=aBt (ρ.getD i .uD) (xs.set j d)) ho hσ (fun b ob e n=>by rw [bB n];exact e) aL rfl (aDn (rp.same sm) hx aL trivial rn) (by rw [Y5 hx];exact pn);exact q _ _ ((KU.same sm).trans k2) E2
    refine wpAny_Assign_Subscript (thn (hv pins s σ H (fun v H1=>b_ H H1/\Rep All H1 v d) I ⟨ρ,d,E.er,h0,fun v H1 s1 r1 _=>⟨s1,r1⟩⟩) fun u1 t1 ⟨v,H1,I1,rv1,sm1,rp1⟩=>
     thn (bW hN hvi hd hcd pins t1 σ H1 (fun w H2=>w=.ref a/\H2=H1) I1 ⟨_,hσ,rfl,rfl⟩) fun u2 t2 ⟨xx,H2,I2,rx,ex,eH⟩=>?_) hs
    subst ex;rw [eH] at I2;refine thn (hk pins t2 σ _ (fun w H3=>b_ H1 H3/\w=.int kk) I2 ⟨ρ,_,E.er.same sm1,h1,fun w H3 s3 r3 _=>⟨s3,by cases r3;rfl⟩⟩) fun u3 t3 ⟨y,H3,I3,ry,sm3,ey⟩=>?_
    subst ey;exact thn (set_list pins t3 σ H3 (.ref a) (.int kk) v u2 u3 u1 (fun H4=>D'.nx σ H4) I3 rx ry rv1 ⟨a,vs,kk,j,rfl,rfl,(sm1.trans sm3) _ _ e0,by rw [rr.length];exact hj,go (sm1.trans sm3) (rp1.same sm3)⟩) fun _ t4 ⟨H4,I4,q4⟩=>⟨σ,H4,I4,q4⟩
   ·cases h2
  ·cases h2
 ·cases h2
theorem U3 {pins:List (Addr×Obj)} {σ:L2.St} {H:Hp} {s:Shared} {a:Addr} {vs:List V} (I:Inv X pins σ H s) (e:H a=some (.lst vs)):∃o,Inv X pins σ (upd H a (.frz o (.lst vs))) s:=by
 obtain ⟨its,n,r,ho,hz⟩:=I.lst e;refine ⟨_,I.write (t':=s.toks) (x:=a) (e:=a) (h':=s.heap) (o:=.frz _ (.lst vs)) (by rw [e];trivial) (.inl rfl) (fun _ _ _ q=>q) ⟨_,ho⟩ ⟨ho,hz,its,n,r,ho⟩⟩
theorem Y7 {ys:List D} (h:ys.all isI=true):D.aX ys=true:=fU.mpr fun y hy=>by
 have:=List.all_eq_true.mp h y hy;cases y <;> first|rfl|cases this
theorem aDo {H H':Hp}:∀{xs r:List D} {vs:List V},aFy xs=.ok r->bQ (New H) H' vs xs->∃b ws,H b=none/\H' b=some (.lst ws)/\D.aX r=true/\(∃(k:Nat) (ys:List D),vs[k]?=some (V.ref b)/\bQ (New H) H' ws ys/\ys.all isI=true)/\∀o,bQ (fun c=>H c=none) (upd H' b (.frz o (.lst ws))) vs r
 | [],r,vs,h,_=>by cases h
 | x::xs,r,_,h,.cons (v:=v) (vs:=vs) rx t=>by
  by_cases hl:∃ys,x=.lst ys
  ·obtain ⟨ys,rfl⟩:=hl;simp only [aFy] at h;split at h
   ·rename_i hp;rw [Bool.and_eq_true] at hp;cases h;have hpi:=Y7 hp.1;cases rx with
    | @lst b ws _ e p rr=>
     have hne:∀ob,H' b=some ob->aLc ob=true:=fun ob z=>by rw [e] at z;cases z;rfl
     refine ⟨b,ws,p,e,by rw [D.aX,Bool.and_eq_true];exact ⟨hpi,hp.2⟩,⟨0,ys,rfl,rr,hp.1⟩,fun o=>.cons (.frz (.inl ⟨o,aL⟩) ((mQ hne rr hpi).bK hpi)) ((mQ hne t hp.2).bK hp.2)⟩
   ·cases h
  ·have h':(if x.pure then (do let r <- aFy xs;.ok (x::r)) else .bad)=Res.ok r:=by
    cases x <;> first|exact h|exact absurd ⟨_,rfl⟩ hl
   split at h'
   ·rename_i hp;obtain ⟨r',h1,h2⟩:=aR h';cases h2;obtain ⟨b,ws,g1,g2,g3,⟨k,ys,g5,g6,g7⟩,g4⟩:=aDo h1 t;have hne:∀ob,H' b=some ob->aLc ob=true:=fun ob z=>by rw [g2] at z;cases z;rfl
    exact ⟨b,ws,g1,g2,by rw [D.aX,Bool.and_eq_true];exact ⟨hp,g3⟩,⟨k+1,ys,by simpa using g5,g6,g7⟩,fun o=>.cons ((RD hne rx hp).bK hp) (g4 o)⟩
   ·cases h'
theorem aJh (ha:PE X a (gE fa true)):PE X a (gE (aLd fa) true):=by
 intro pins s σ H Q I ⟨ρ,d,E,h,q⟩;obtain ⟨x,h1,h⟩:=aR h;split at h
 ·rename_i xs;obtain ⟨r,h2,h⟩:=aR h;cases h;refine thn (ha pins s σ H (fun v H'=>b_ H H'/\Rep (New H) H' v (.lst xs)) I ⟨ρ,_,E,h1,fun v H' sm rr n=>⟨sm,n rfl⟩⟩) fun u s' ⟨v,H',I',rv,sm,rn⟩=>?_
  cases rn with
  | @lst a vs _ e p rr=>
   obtain ⟨b,ws,g1,g2,g3,⟨k,ys,g5,g6,g7⟩,g4⟩:=aDo h2 rr;have hab:a≠b:=fun z=>by
    subst z;rw [e] at g2;cases g2;obtain ⟨d,hd,rd⟩:=g6.at g5;have:=List.all_eq_true.mp g7 d (List.mem_of_getElem? hd);cases d <;> first|(cases this;done)|(cases rd;done)
   obtain ⟨o,I2⟩:=U3 I' g2;have s2:b_ H (upd H' b (.frz o (.lst ws))):=fun c oc hc=>by
    rw [bB (fun z=>by subst z;rw [g1] at hc;cases hc)];exact sm c oc hc
   have e2:upd H' b (.frz o (.lst ws)) a=some (.lst vs):=by rw [bB hab];exact e
   exact ⟨.ref a,_,I2,rv,q _ _ s2 (.lst e2 trivial (g4 o).all) fun _=>.lst e2 p (g4 o)⟩
 ·cases h
theorem ES.aO6 {H H5:Hp} {σ:L2.St} {ρ ρ5:List D} {p:Addr} {o:HO} {vs:List V} (E:ES own H σ ρ) (k:KU own σ H σ H5) (E5:ES own H5 σ ρ5) (ns:NS own ρ ρ5) (hp:H p=none) (e5:H5 p=some (.lst vs)):ES own (upd H5 p o) σ ρ5/\KU own σ H σ (upd H5 p o):=by
 have k':KU own σ H σ (upd H5 p o):=fun b ob e n=>⟨by rw [bB (bT e hp)];exact (k b ob e n).1,n⟩
 refine ⟨⟨E5.len,fun j hj=>?_,fun j w hj hw=>?_⟩,k'⟩
 ·obtain ⟨w,h1,h2⟩:=E5.at_ j hj;refine ⟨w,h1,fun hoj=>?_⟩;rw [ns j hoj] at hj ⊢;obtain ⟨w',h1',h2'⟩:=E.at_ j hj;rw [h1] at h1';cases h1';exact k'.rep E (h2' hoj)
 ·obtain ⟨b,ob,h1,h2,h3,h4,h5,h6⟩:=E5.own j w hj hw;subst h1;have hbp:b≠p:=fun z=>by subst z;exact xW E hp ⟨j,hj,hw⟩
  refine ⟨b,ob,rfl,?_,h3,by rw [bB hbp];exact h4,h5,h6⟩;refine (h2.wU (P':=fun c=>c=b) h3 rfl).keep (fun c oc hc hq=>?_) fun _ _=>trivial
  rw [bB]
  ·exact hc
  ·intro z;subst z;rcases hq with hq|hq
   ·exact hbp hq.symm
   ·rw [e5] at hc;cases hc;cases hq
theorem ES.snoc {H:Hp} {σ:L2.St} {ρ:List D} {x:V} {d:D} (E:ES own H σ ρ) (ho:own σ.length=false) (r:Rep (fun a=>¬Own own σ a) H x d):ES own H (σ++[some x]) (ρ++[d])/\∀a,Own own (σ++[some x]) a↔Own own σ a:=by
 have hO:∀a,Own own (σ++[some x]) a↔Own own σ a:=fun a=>by
  constructor
  ·rintro ⟨i,hi,e⟩;by_cases hl:i<σ.length
   ·exact ⟨i,hi,by rw [List.getElem?_append_left hl] at e;exact e⟩
   ·by_cases hq:i=σ.length
    ·subst hq;rw [ho] at hi;cases hi
    ·rw [List.getElem?_append_right (by lia)] at e;rw [List.getElem?_eq_none (by simp;lia)] at e;cases e
  ·rintro ⟨i,hi,e⟩;exact ⟨i,hi,by rw [List.getElem?_append_left (List.getElem?_eq_some_iff.mp e).1];exact e⟩
 have hOf:(fun a=>¬Own own (σ++[some x]) a)=fun a=>¬Own own σ a:=funext fun a=>by rw [hO]
 refine ⟨⟨by simp [E.len],fun i hi=>?_,fun i v hi hv=>?_⟩,hO⟩
 ·rw [hOf];by_cases hl:i<σ.length
  ·have e:(ρ++[d]).getD i .uD=ρ.getD i .uD:=by rw [List.getD_eq_getElem?_getD,List.getElem?_append_left (by rw [<-E.len];exact hl),List.getD_eq_getElem?_getD]
   rw [e] at hi ⊢;obtain ⟨v,h1,h2⟩:=E.at_ i hi;exact ⟨v,by rw [List.getElem?_append_left hl];exact h1,h2⟩
  ·by_cases hq:i=σ.length
   ·subst hq;have e:(ρ++[d]).getD σ.length .uD=d:=by rw [E.len];simp
    rw [e];exact ⟨x,by simp,fun _=>r⟩
   ·exfalso;apply hi;rw [List.getD_eq_getElem?_getD,List.getElem?_eq_none (by simp;rw [<-E.len];lia)];rfl
 ·have hl:i<σ.length:=Nat.lt_of_not_le fun hge=>by
   by_cases hq:i=σ.length
   ·subst hq;rw [ho] at hi;cases hi
   ·rw [List.getElem?_eq_none (by simp;lia)] at hv;cases hv
  rw [List.getElem?_append_left hl] at hv;have e:(ρ++[d]).getD i .uD=ρ.getD i .uD:=by rw [List.getD_eq_getElem?_getD,List.getElem?_append_left (by rw [<-E.len];exact hl),List.getD_eq_getElem?_getD]
  rw [e];obtain ⟨b,ob,h1,h2,h3,h4,h5,h6⟩:=E.own i v hi hv;refine ⟨b,ob,h1,h2,h3,h4,h5,fun j hj hs=>?_⟩;have hjl:j<σ.length:=Nat.lt_of_not_le fun hge=>by
   by_cases hq:j=σ.length
   ·subst hq;rw [ho] at hj;cases hj
   ·rw [List.getElem?_eq_none (by simp;lia)] at hs;cases hs
  exact h6 j hj (by rw [List.getElem?_append_left hjl] at hs;exact hs)
theorem ES.aJi {H:Hp} {σ:L2.St} {ρ:List D} {x:Option V} (E:ES own H (σ++[x]) ρ) (hO:∀a,Own own (σ++[x]) a↔Own own σ a):ES own H σ ρ.dropLast:=by
 have hl:ρ.length=σ.length+1:=by rw [<-E.len];simp
 have gd:∀i,i<σ.length->ρ.dropLast.getD i .uD=ρ.getD i .uD:=fun i hi=>by
  rw [List.getD_eq_getElem?_getD,List.getD_eq_getElem?_getD,List.getElem?_dropLast,if_pos (by lia)]
 have hOf:(fun a=>¬Own own (σ++[x]) a)=fun a=>¬Own own σ a:=funext fun a=>by rw [hO]
 refine ⟨by simp [hl],fun i hi=>?_,fun i v hi hv=>?_⟩
 ·have hlt:i<σ.length:=Nat.lt_of_not_le fun hge=>hi (by rw [List.getD_eq_getElem?_getD,List.getElem?_eq_none (by simp;lia)];rfl)
  rw [gd i hlt] at hi ⊢;obtain ⟨v,h1,h2⟩:=E.at_ i hi;rw [hOf] at h2;exact ⟨v,by rw [List.getElem?_append_left hlt] at h1;exact h1,h2⟩
 ·have hlt:i<σ.length:=(List.getElem?_eq_some_iff.mp hv).1;rw [gd i hlt];obtain ⟨b,ob,h1,h2,h3,h4,h5,h6⟩:=E.own i v hi (by rw [List.getElem?_append_left hlt];exact hv);exact ⟨b,ob,h1,h2,h3,h4,h5,fun j hj hs=>h6 j hj (by rw [List.getElem?_append_left (List.getElem?_eq_some_iff.mp hs).1];exact hs)⟩
end
section
variable {X:Cx} {a:Expr} {fa:FE} {ra:Bool} {pos p p1 p2 p3:Pos}
theorem DG (ha:PE X a (gE fa ra)):PE X a (gE (bPu fa) true):=PE.imp ha fun σ H Q ⟨ρ,d,E,h,q⟩=>by
 obtain ⟨x,h1,h⟩:=aR h;split at h
 ·rename_i hp;cases h;exact ⟨ρ,_,E,h1,fun v H' s r _=>q v H' s r fun _=>r.bK hp⟩
 ·cases h
end
section
variable {own:Nat->Bool} {X:Cx} {pos:Pos}
end
end Mi
end
section
namespace Mi
open PySem L2 PySem.SeqAt PySem.Spec PyProof.Rows
noncomputable def NZ (i:Nat):FX:=fun ρ=>match ρ.getD i .uD with
 | .lst xs=>(match xs[xs.length-1]? with|some x=>.ok (x,ρ.set i (.lst xs.dropLast))|none=>.bad)
 | _=>.bad
noncomputable def aJj (f:FX):List D->Res (List D×List D):=fun ρ=>do
 let p <- f ρ
 let r <- iM [p.1]
 .ok (r.1,p.2)
noncomputable def Y8 (it:List D->Res (List D×List D)) (t:D->List D->Res (List D)) (body:FS):FS:=fun ρ=>do
 let p <- it ρ
 gQ t body p.1 p.2
variable [KFrag]
section
variable {X:Cx} {own:Nat->Bool} {a b e:Expr} {pos:Pos} {ga:FT} {xb:FXT} {xa:FX}
theorem aG4 {i:Nat} {x:Str} {p1 apos cpos:Pos} (ho:own i=true) (hN:X.N[i]?=some x) (hv:Vis X.env.scope x) (hd:nDb x:=by decide) (hcd:nCd x:=by decide)
  (hbase:attributeBase (.Name x p1) "pop" X.env (eval (.Name x p1) X.env)=eval (.Name x p1) X.env:=by rfl)
  (hline:(apos.endLine==cpos.line)=true:=by rfl) :
  PE X (.Call (.Attribute (.Name x p1) "pop" apos) [] [] cpos) (gX own (NZ i)):=
 PE.imp (aD8 PySem.F.plainAttrs_list PySem.F.slot_list_pop PySem.F.type_list_pop aD9 (bW hN hv hd hcd) hbase hline) fun σ H Q ⟨ρ,d,ρ',E,h,q⟩=>by
 unfold NZ at h;split at h
 ·rename_i xs hx;split at h
  ·rename_i dx hdx;cases h;obtain ⟨a,o,hσ,r,hin,ha,hm⟩:=E.ownAt ho (by rw [hx];intro z;cases z);rw [hx] at r hin;obtain ⟨vs,hl,rr⟩:=Q8 r;obtain ⟨v,hvx,rv⟩:=rr.get hdx;have hlen:=rr.length;refine ⟨_,hσ,.inl ⟨rfl,vs,.of hl⟩,a,vs,v,rfl,rfl,hl,by rw [hlen];exact hvx,?_⟩;have hin':D.aX xs=true:=hin;have pall:∀y∈xs,y.pure=true:=fun y hy=>fU.mp hin' y hy
   have pdx:d.pure=true:=pall d (List.mem_of_getElem? hdx);have pe:D.aX xs.dropLast=true:=fU.mpr fun y hy=>pall y (List.dropLast_subset _ hy)
   have er:bQ All H vs.dropLast xs.dropLast:=by
    rw [List.dropLast_eq_take,List.dropLast_eq_take,hlen];exact rr.take _
   obtain ⟨E2,k2⟩:=E.mut (o:=.lst vs.dropLast) (d:=.lst xs.dropLast) ho hσ rfl (.lst aL trivial (er.upd pe hl rfl)) pe;have r1:=(bQ.cons rv .nil).upd (o:=.lst vs.dropLast) (by rw [D.aX,pdx];rfl) hl rfl;cases r1 with
   | cons r1 _=>exact q _ _ k2 E2 (.set ho) (r1.bK pdx)
  ·cases h
 ·cases h
noncomputable def gIX (K:PySem.W.Frag) (own:Nat->Bool) (f:List D->Res (List D×List D)):TI:=fun σ H R=>∃ρ items ρ',ES own H σ ρ/\f ρ=.ok (items,ρ')/\∀J H1,KU own σ H σ H1->ES own H1 σ ρ'->ItQ K (fun a=>¬Own own σ a) J H1 items->R J H1
theorem aJk {tg:Expr} {p:Pos} (hg:Gl X "range") (hm:X.mg "range" = none) (ha:PE X a (gX own xa)) (hs:starEach [a] X.env=[(false,eval a X.env)]:=by rfl):PI X tg (.Call (.Name "range" p) [a] [] pos) (gIX X.K own (aJj xa)):=
 PI.imp (G8 hg hm (bI ha iJ hs) hs) fun σ H R ⟨ρ,items,ρ',E,h,q⟩=>by
 obtain ⟨p,h1,h⟩:=aR h;obtain ⟨r,h2,h⟩:=aR h;cases h;refine ⟨ρ,p.1,p.2,E,h1,fun v H1 k1 E1 n1 r1=>?_⟩;unfold iM at h2;split at h2
 ·rename_i n he;split at h2
  ·rename_i hb;cases h2;obtain ⟨b1,b2⟩:=zQ hb;injection he with he _
   rw [he] at r1;cases r1;exact ⟨_,rfl,b1,b2,q _ H1 k1 E1 (.rng 0 _ rfl rfl)⟩
  ·cases h2
 ·cases h2
theorem aJl {tg iter:Expr} {body:List Stmt} {g:TG} {t:D->List D->Res (List D)} {it:List D->Res (List D×List D)} {fb:FS} (hp:PassesOwn (model X.prog X.w) X.A X.env X.xe) (hc:X.calm=true) (hi:PI X tg iter (gIX X.K own it)) (ht:TgS own g t) (hg:PG X tg g) (hb:PSs X body (tS own fb))
  (hs:∀x,foldedSetIterable iter X.env x=pure x:=by intro _;rfl):PS X (.For tg iter body [] pos) (tS own (Y8 it t fb)):=PS.imp (G9 hp hc hi hg hb hs) fun D' σ H ⟨ρ,fl,E,h,q⟩=>by
 obtain ⟨⟨items,ρ1⟩,h1,h2⟩:=aR h;exact ⟨ρ,items,ρ1,E,h1,fun J H1 k1 E1 hJ=>CP ht E1 hJ h2 (q.step k1)⟩
end
end Mi
end
section
namespace Mi
open PySem L2 PySem.SeqAt PySem.Spec PyProof.Rows
noncomputable def bOw (i:Nat):FE:=fun ρ=>do
 let d <- dH i ρ
 if d.QL then .ok d else .bad
noncomputable def JX (f:FA):FS:=fun ρ=>do
 let ds <- f ρ
 if decide (ds.length<=lim) then .ok (.rt (.tup (.lst ds::ρ))) else .bad
noncomputable def Y9 (f:FX) (is:List Nat):FS:=fun ρ=>do
 let p <- f ρ
 match p.1 with
 | .lst xs=>if decide (xs.length=is.length) then .ok (.nx (M8 is xs p.2)) else .bad
 | _=>.bad
variable [KFrag]
section
variable {prog:Program} {w:World} {A:Around} {E:Value->Shared->Prop} {s:Shared}
theorem JZ {it t:Addr} {items:Array Value} (hne:t≠it):∀(n i:Nat) (s:Shared) (Q:List Value->Shared->Prop),s.heap.IsListIter it t i->s.heap.IsList t items->i+n<=items.size->
  (∀h',h'.IsListIter it t (i+n)->Heap.SameBut it s.heap h'->Q ((items.toList.drop i).take n) {s with heap:=h'})->wpAny (model prog w) A (draw (.ref it) n) Q E s
 | 0,i,s,Q,hit,_,_,hQ=>by
  show wpAny _ _ (pure []) Q E s;exact wpAny_pure (by simpa using hQ s.heap hit (Heap.SameBut.refl ..))
 | n+1,i,s,Q,hit,ht,hle,hQ=>by
  have hlt:i<items.size:=by lia
  have keep:∀{h h':Heap},h.IsList t items->Heap.SameBut it h h'->h'.IsList t items:=fun {h h'} ⟨o,e,r⟩ sb=>⟨o,(sb.2 t hne).trans e,r⟩
  show wpAny _ _ (pyNext (.ref it) >>= _) Q E s;refine wpAny_bind (wpAny_pyNext_list_item hit ht (x:=items[i]) (by simp [hlt]) fun h₁ hit₁ hs₁=>?_);refine wpAny_bind (wpAny_holding (JZ hne n (i+1) _ _ hit₁ (keep ht hs₁) (by lia) fun h₂ hit₂ hs₂=>wpAny_pure ?_));have hd:items.toList.drop i=items[i]::items.toList.drop (i+1):=by simp [List.drop_eq_getElem_cons,hlt]
  have:=hQ h₂ (by rw [show i+(n+1)=i+1+n by lia];exact hit₂) (hs₁.trans hs₂);rw [hd,List.take_succ_cons] at this;exact this
theorem N5 {t:Addr} {items:Array Value} {targets:List (Bool×(Value->Sem Unit))} {Q:Unit->Shared->Prop} (hh:A.handled=none) (ht:s.heap.IsList t items)
  (hn:targets.length=items.size) (hstar:targets.findIdx? (·.1)=none)
  (h:∀h',Heap.ExtBut s.heap.objs.size s.heap h'->wpAny (model prog w) A (assignInOrder (targets.map (·.2)) items.toList) Q E {s with heap:=h'}) :
  wpAny (model prog w) A (unpack (.ref t) targets) Q E s:=by
 have hlt:t≠s.heap.objs.size:=by obtain ⟨o,ho,_⟩:=ht;exact Nat.ne_of_lt (Heap.lt_size ho)
 have push:∀o,(s.heap.push o).IsList t items:=fun o=>let ⟨o',e,r⟩:=ht;⟨o',Heap.get?_push_of_some _ e,r⟩
 unfold unpack;rw [hn,hstar];refine wpAny_bind (wpAny_holding ?_);unfold unpackItems;refine wpAny_bind ?_;unfold notIterableAtAll;refine wpAny_bind (wpAny_specialOf ht.typeIs PySem.F.slot_list_iter.lookup ?_);refine wpAny_pure ?_;simp only [Bool.false_eq_true,if_false];refine wpAny_bind (wpAny_holding (wpAny_pyIter_list ht ?_));refine wpAny_bind (wpAny_holding (JZ hlt items.size 0 _ _ ⟨_,Heap.get?_push_size _ rfl,rfl,rfl⟩ (push _) (by lia) fun h₁ hit₁ hs₁=>?_));have hall:List.take items.size (List.drop 0 items.toList)=items.toList:=by
  rw [List.drop_zero];exact List.take_of_length_le (by simp)
 rw [hall];rw [if_neg (by simp)];have ht₁:h₁.IsList t items:=let ⟨o,e,r⟩:=push {cls:=.type "list_iterator",data:=.fields #[.ref t,.int 0 0]};⟨o,(hs₁.2 t hlt).trans e,r⟩
 refine wpAny_bind (wpAny_holding (wpAny_pyNext_list_end hh hit₁ ht₁ (by simp) fun h₂ he₂=>?_));simp only [Option.isSome_none,Bool.false_eq_true,if_false];exact wpAny_pure (h h₂ fun b o hb e=>he₂ b o hb (hs₁.extBut b o hb (Heap.get?_push_of_some _ e)))
end
section
variable {X:Cx} {own:Nat->Bool} {e:Expr} {pos pos':Pos} {fe:FE} {re:Bool} {xe:FX}
noncomputable def aJm (K:PySem.W.Frag) (n:Nat) (t:TGs):TG:=fun v σ H Q=>∃a xs,v=.ref a/\SqL K H a xs/\xs.length=n/\t xs σ H Q
theorem aG5 {es:List Expr} {k:Nat} {t:TGs} {n:Nat} (hc:X.calm=true) (h:PGs X es t)
  (hn:(assignEach es X.env).length=n:=by rfl) (hst:(assignEach es X.env).findIdx? (·.1)=none:=by rfl):PG X (.Tuple es k pos) (aJm X.K n t):=by
 intro pins s σ H v u Q I r hw;obtain ⟨a,xs,e1,hq,hl,hw⟩:=hw;subst e1;cases r;obtain ⟨its,rv,ht,hz⟩:=I.list hq;rw [assign_Tuple];refine wpAny_bind (wpAny_standAt (N5 (I.ok.hd hc) ht.isList (by simp [hn,<-hl,rv.length]) hst fun h' hx=>?_));have I1:Inv X pins σ H {s with heap:=h'}:=I.kept (t':=s.toks) fun b o e=>hx b o (Nat.ne_of_lt (Heap.lt_size e)) e
 exact h pins _ σ H xs _ Q I1 (by simpa using rv) hw
noncomputable def RP (own:Nat->Bool) (σ:L2.St) (H:Hp) (ρ:List D) (a:Addr):Prop:=(Own own σ a\/H a=none)/\∀i b xs,ρ.getD i .uD=.cel b xs->a≠b
theorem RP.same {σ:L2.St} {H H':Hp} {ρ:List D} {a:Addr} (s:b_ H H') (h:RP own σ H' ρ a):RP own σ H ρ a:=⟨h.1.imp id s.free,h.2⟩
theorem aDp {σ:L2.St} {H:Hp} {ρ:List D} {a:Addr} (E:ES own H σ ρ) (h:H a=none):RP own σ H ρ a:=⟨.inr h,fun i b xs hb z=>by
 obtain ⟨vs,_,e⟩:=kI E hb;subst z;rw [h] at e;cases e⟩
noncomputable def gAR (own:Nat->Bool) (f:FA):TA:=fun σ H Q=>∃ρ ds,ES own H σ ρ/\f ρ=.ok ds/\∀vs H',b_ H H'->bQ (RP own σ H ρ) H' vs ds->Q vs H'
theorem aJn:PA X [] (gAR own aO):=PA.imp iJ fun σ H Q ⟨ρ,ds,E,h,q⟩=>by cases h;exact q [] H (b_.refl H) .nil
theorem aDq {i:Nat} {x:Str} {es:List Expr} {f:FA} (ho:own i=true) (hN:X.N[i]?=some x) (hv:Vis X.env.scope x) (hes:PA X es (gAR own f)) (hd:nDb x:=by decide) (hcd:nCd x:=by decide) (hs:starEach (.Name x pos::es) X.env=(false,eval (.Name x pos) X.env)::starEach es X.env:=by rfl):PA X (.Name x pos::es) (gAR own (aB (bOw i) f)):=PA.imp (bI (bW hN hv hd hcd) hes hs) fun σ H Q ⟨ρ,ds,E,h,q⟩=>by
 obtain ⟨y,h1,h⟩:=aR h;obtain ⟨xs,h2,h⟩:=aR h;cases h;obtain ⟨d,h3,h1⟩:=aR h1;split at h1
 ·rename_i hc;cases h1;obtain ⟨v,hv,r,e⟩:=E.er.var h3;obtain ⟨a,o,rfl,r2,hin,_,_,huq⟩:=E.own i v ho hv;rw [e] at hin;have hp:RP own σ H ρ a:=⟨.inl ⟨i,ho,hv⟩,fun j b xs hb z=>by
   obtain ⟨vs,hj,eb⟩:=kI E hb;subst z;cases hoj:own j with
   | true=>
    have:=huq j hoj hj;subst this;rw [hb] at e;subst e;cases hc
   | false=>
    obtain ⟨w,hw,hr⟩:=E.at_ j (by rw [hb];intro z;cases z);have r3:=hr hoj;rw [hb] at r3;cases r3 with
    | cel e p r=>exact p ⟨i,ho,hv⟩⟩
  exact ⟨_,hv,ρ,xs,E,h2,fun vs H2 s2 r2=>q _ _ s2 (.cons ((r.wU hin hp).same s2) r2)⟩
 ·cases h1
theorem aJo {es:List Expr} {f:FA} (he:PE X e (gE fe true)) (hes:PA X es (gAR own f)) (hs:starEach (e::es) X.env=(false,eval e X.env)::starEach es X.env:=by rfl):PA X (e::es) (gAR own (aB fe f)):=PA.imp (bI he hes hs) fun σ H Q ⟨ρ,ds,E,h,q⟩=>by
 obtain ⟨y,h1,h⟩:=aR h;obtain ⟨xs,h2,h⟩:=aR h;cases h;exact ⟨ρ,_,E.er,h1,fun v H1 s1 r1 n1=>⟨ρ,xs,E.same s1,h2,fun vs H2 s2 r2=>q _ _ (s1.trans s2) (.cons (((n1 rfl).mono fun a ha=>aDp E ha).same s2) (r2.mono fun a ha=>ha.same s1))⟩⟩
theorem aBw {es:List Expr} {f:FA} (h:PA X es (gAR own f)) (hx:own rtX=true:=by rfl):PS X (.Return (some (.List es pos')) pos) (tS own (JX f)):=PS.imp (G6 (aD6 h)) fun D σ H ⟨ρ,fl,E,h,q⟩=>by
 obtain ⟨ds,h1,h2⟩:=aR h;split at h2
 ·rename_i hl;cases h2;refine ⟨ρ,ds,E,h1,fun vs H1 s1 r1=>⟨by rw [r1.length];exact lA hl,fun p hp=>?_⟩⟩;have s2:b_ H1 (upd H1 p (.lst vs)):=b_.upd hp;have hpH:H p=none:=s1.free hp;exact kRt.new q hx _ σ _ (.same (s1.trans s2)) (E.same (s1.trans s2)) (.lst aL (aDp E hpH) (r1.same s2))
 ·cases h2
theorem aJp {es:List Expr} {k:Nat} {is:List Nat} {pt:Pos} (ho:∀i∈is,own i=false) (he:PE X e (gX own xe)) (hg:PG X (.Tuple es k pt) (aJm X.K is.length (gIx is))) (hs:swapsWithSole [.Tuple es k pt] e pos.line X.env=pure false:=by rfl) (hw:swappedStores [.Tuple es k pt] e X.env=pure none:=by rfl)
  (h1:(assignEach [.Tuple es k pt] X.env).map (·.2)=[assign (.Tuple es k pt) X.env]:=by rfl):PS X (.Assign [.Tuple es k pt] e pos) (tS own (Y9 xe is)):=PS.imp (aD4 he hg hs hw h1) fun D' σ H ⟨ρ,fl,E,h,q⟩=>by
 obtain ⟨p,h1,h2⟩:=aR h;refine ⟨ρ,p.1,p.2,E,h1,fun v H1 k1 E1 n1 r=>?_⟩;split at h2
 ·rename_i xs hxs;split at h2
  ·rename_i hl;cases h2;have hl':=of_decide_eq_true hl;rw [hxs] at r;have r2:=B_ E r;obtain ⟨a,vs,rfl,sq,rr⟩:=r2.jE (K:=X.K);refine ⟨a,vs,rfl,sq,by rw [rr.length];exact hl',BZ _ _ _ (by rw [rr.length];exact hl') ?_⟩;obtain ⟨E2,hO⟩:=ES.sets ho E1 rr;exact q _ H1 (k1.trans fun a o e n=>⟨e,by rw [hO];exact n⟩) E2
  ·cases h2
 ·cases h2
end
end Mi
end
section
namespace Mi
open PySem PySem.Spec
namespace Rv
theorem U4:typeLookup (.type "tuple") "__reversed__" = pure none:=by rw [typeLookup_type,builtinLookup_eq_fast];kernel_rfl
theorem U5:typeLookup (.type "reversed") "__len__" = pure none:=by rw [typeLookup_type,builtinLookup_eq_fast];kernel_rfl
theorem slot_next:Slot "reversed" "__next__" "reversed.__next__":=
 .of (owner := "reversed") (n := "__next__") (by rw [typeLookup_type,builtinLookup_eq_fast];kernel_rfl) (by decide +kernel) (by decide +kernel) (by decide +kernel)
  (by first|exact .inl (by decide +kernel)|exact .inr (by decide +kernel)) (by rw [isSubtype_type];kernel_rfl)
theorem xY:Slot "reversed" "__length_hint__" "reversed.__length_hint__":=
 .of (owner := "reversed") (n := "__length_hint__") (by rw [typeLookup_type,builtinLookup_eq_fast];kernel_rfl) (by decide +kernel) (by decide +kernel) (by decide +kernel)
  (by first|exact .inl (by decide +kernel)|exact .inr (by decide +kernel)) (by rw [isSubtype_type];kernel_rfl)
theorem J0:Slot "reversed" "__iter__" "reversed.__iter__":=
 .of (owner := "reversed") (n := "__iter__") (by rw [typeLookup_type,builtinLookup_eq_fast];kernel_rfl) (by decide +kernel) (by decide +kernel) (by decide +kernel)
  (by first|exact .inl (by decide +kernel)|exact .inr (by decide +kernel)) (by rw [isSubtype_type];kernel_rfl)
theorem entry_next:entryFor table "reversed.__next__" = some Builtin.«reversed.__next__»:=entryFor_of_tree (by kernel_rfl)
theorem U6:entryFor table "reversed.__length_hint__" = some Builtin.«reversed.__length_hint__»:=entryFor_of_tree (by kernel_rfl)
theorem U7:entryFor table "reversed.__iter__" = some Builtin.«dict_keyiterator.__iter__»:=
 entryFor_alias (id' := "dict_keyiterator.__iter__") (by kernel_rfl) (by first|rfl|decide +kernel|(unfold String.splitOn;simp +decide [String.splitOnAux])) (by decide +kernel) (by kernel_rfl)
theorem owner:Manifest.owners.lookup (String.ofList ['d','e','s','r','e','v','e','r'].reverse)=some Manifest.sig_reversed:=by kernel_rfl
theorem args_next (a:Value):argsOk "reversed.__next__" ⟨[a],[]⟩:=by
 unfold argsOk;rw [signature?_of (id := "reversed.__next__") (n:=['_','_','t','x','e','n','_','_']) (o:=['d','e','s','r','e','v','e','r']) (by kernel_rfl) owner];kernel_rfl
theorem Y_ (a:Value):argsOk "reversed.__iter__" ⟨[a],[]⟩:=by
 unfold argsOk;rw [signature?_of (id := "reversed.__iter__") (n:=['_','_','r','e','t','i','_','_']) (o:=['d','e','s','r','e','v','e','r']) (by kernel_rfl) owner];kernel_rfl
theorem ZC (a:Value):argsOk "reversed.__length_hint__" ⟨[a],[]⟩:=by
 unfold argsOk;rw [signature?_of (id := "reversed.__length_hint__") (n:=['_','_','t','n','i','h','_','h','t','g','n','e','l','_','_']) (o:=['d','e','s','r','e','v','e','r']) (by kernel_rfl) owner];kernel_rfl
theorem ZD:Slot "reversed" "__init__" "object.__init__":=
 .of (owner := "object") (n := "__init__") (by rw [typeLookup_type,builtinLookup_eq_fast];kernel_rfl) (by decide +kernel) (by decide +kernel) (by decide +kernel)
  (by first|exact .inl (by decide +kernel)|exact .inr (by decide +kernel)) (by rw [isSubtype_type];kernel_rfl)
theorem called:TypeCalled "reversed" "reversed.__new__" "object.__init__":=
 ⟨by decide +kernel,by decide +kernel,⟨_,_,PySem.F.mro_reversed⟩,PySem.F.made_reversed,by decide +kernel,by rw [isSubtype_type];kernel_rfl,ZD⟩
noncomputable def obj (t:Addr) (i:Int):Obj:={cls:=.type "reversed",data:=.fields #[.ref t,rawInt i]}
theorem ZG (t:Addr) (items:Array Value) (n:Nat) (dct:Option Addr) (sl:Array (Option Value)) (hz:(items.size:Int)<2 ^ 62) :
  Meets (Builtin.«reversed.__new__» ⟨[.type "reversed",.ref t],[]⟩) (fun _ R s=>s.heap.get? t=some {cls:=.type "tuple",dict:=dct,data:=.seq items n,slots:=sl}/\
   ∀tk,R (.ok (.ret (.ref s.heap.objs.size))) {s with heap:=s.heap.push (obj t ((items.size:Int)-1)),toks:=tk}):=
 .of_wp fun prog w A R s h=>by
  obtain ⟨hp,g,d,tk,os⟩:=s;obtain ⟨hl,h⟩:=h;have hT:(Shared.mk hp g d tk os).TypeIs (.ref t) "tuple":=⟨_,hl,rfl⟩
  unfold Builtin.«reversed.__new__»;refine wpAny_bind (wpAny_of_eq (newClass_reversed _) ?_)
  try dsimp only
  refine wpAny_bind (wpAny_of_eq (a:=()) (by first|rfl|kernel_rfl) ?_);refine wpAny_bind (wpAny_of_eq (a:=()) (by first|rfl|kernel_rfl) ?_)
  try dsimp only
  refine wpAny_bind (wpAny_specialOf hT U4 ?_)
  try dsimp only
  refine wpAny_bind ?_;refine wpAny_bind (wpAny_isInstance (T := "tuple") (b:=false) hT (by rw [isSubtype_type];kernel_rfl) ?_);refine wpAny_ite_split (fun hab=>absurd hab (by decide)) (fun _=>?_);refine wpAny_bind (wpAny_specialOf hT PyProof.Rows.slot_tuple_getitem.lookup ?_);dsimp only;rw [if_pos (by decide +kernel)];refine wpAny_pure ?_;rw [if_neg (by decide)];refine wpAny_bind (PyProof.Rows.len_tuple (items:=items) ⟨_,hl,rfl,n,rfl⟩ (by lia) ?_);refine wpAny_bind (wpAny_of_eq (a:=some (items.size:Int)) rfl ?_);dsimp only;refine wpAny_bind ?_;unfold Builtin.SmallTypes.newRecord;exact wpAny_newObj_type (wpAny_pure ⟨_,rfl,h _⟩)
theorem aBx {prog:Program} {w:World} {A:Around} {E:Value->Shared->Prop} {s:Shared} {t:Addr} {items:Array Value} {Q:Value->Shared->Prop} (hL:s.heap.IsTuple t items) (hz:(items.size:Int)<2 ^ 62)
  (h:∀tk,Q (.ref s.heap.objs.size) {s with heap:=s.heap.push (obj t ((items.size:Int)-1)),toks:=tk}):wpAny (model prog w) A (call (.type "reversed") [.ref t]) Q E s:=by
 obtain ⟨⟨c,dct,dt,sl⟩,hl,hc,n,hd⟩:=hL;replace hc:c=.type "tuple":=hc;replace hd:dt=.seq items n:=hd;subst hc hd;refine callType_new called (by decide) (PySem.F.typeCall_reversed_1 _) (PySem.F.newCall_reversed_1 _) (fun obj=>PySem.F.args_object_init_2 obj _) PySem.F.entry_reversed_new (ZG t items n dct sl hz) ⟨hl,fun tk=>⟨⟨_,Heap.get?_push_size _ rfl,rfl⟩,h tk⟩⟩
noncomputable def Is (h:Heap) (a t:Addr) (i:Int):Prop:=∃o,h.get? a=some o/\o.cls=.type "reversed"/\o.data=.fields #[.ref t,rawInt i]
theorem Is.ty {s:Shared} {a t:Addr} {i:Int} (x:Is s.heap a t i):s.TypeIs (.ref a) "reversed":=let ⟨o,ho,hc,_⟩:=x;⟨o,ho,hc⟩
theorem Is.at {h h':Heap} {a t:Addr} {i:Int} (x:Is h a t i) (e:∀o,h.get? a=some o->h'.get? a=some o):Is h' a t i:=let ⟨o,ho,r⟩:=x;⟨o,e o ho,r⟩
section
variable {prog:Program} {w:World} {A:Around} {E:Value->Shared->Prop} {s:Shared}
theorem next_item {it t:Addr} {i:Nat} {items:Array Value} {x:Value} {Q:Option Value->Shared->Prop} (hit:Is s.heap it t (i:Int)) (hl:s.heap.IsTuple t items) (hx:items[i]?=some x) (hz:(items.size:Int)<2 ^ 62)
  (hQ:∀h' tk,Is h' it t ((i:Int)-1)->Heap.SameBut it s.heap h'->Q (some x) {s with heap:=h',toks:=tk}):wpAny (model prog w) A (pyNext (.ref it)) Q E s:=by
 obtain ⟨o,ho,hc,hd⟩:=id hit;have hi:i<items.size:=(Array.getElem?_eq_some_iff.mp hx).1;unfold pyNext;refine wpAny_bind (wpAny_attempt (wpAny_callSpecial?_slot (name:=Str.ofString "__next__") hit.ty slot_next
  (wpAny_call_entry slot_next hit.ty entry_next ?_ (args_next _))))
 unfold Builtin.«reversed.__next__»;refine wpAny_bind (wpAny_of_eq (a:=(Value.ref it,[])) rfl ?_)
 try dsimp only
 refine wpAny_bind (wpAny_field ho hd (x:=.ref t) rfl ?_);refine wpAny_bind (wpAny_field ho hd (x:=rawInt (i:Int)) rfl ?_);show wpAny _ _ (if (i:Int)<0 then _ else _) _ _ s;rw [if_neg (by lia)];refine wpAny_bind (wpAny_specialOf hl.typeIs PyProof.Rows.slot_tuple_getitem.lookup ?_);rw [if_neg (by simp)];refine wpAny_bind (wpAny_mkInt ?_);refine wpAny_bind (wpAny_attempt (PyProof.Rows.getItem_tuple (items:=items) (j:=i) (x:=x) hl (by lia) (by lia) (by unfold seqIndex?;simp;lia) hx ?_));dsimp only;refine wpAny_bind (wpAny_field ho hd (x:=rawInt (i:Int)) rfl ?_);show wpAny _ _ (setField (.ref it) 1 (rawInt ((i:Int)-1)) >>= _) _ _ _;refine wpAny_bind (wpAny_setField ho hd (by simp) ?_);refine wpAny_pure ⟨x,rfl,wpAny_pure (hQ _ _ ?_ (Heap.SameBut.update ..))⟩;exact ⟨_,Heap.get?_update_self _ ho (Obj.isFreed_of_fields (Obj.data_mapFields hd _)),(Obj.cls_mapFields ..).trans hc,by
  rw [Obj.data_mapFields hd];simp⟩
theorem next_end {it t:Addr} {Q:Option Value->Shared->Prop} (hh:A.handled=none) (hit:Is s.heap it t (-1))
  (hQ:∀h',Heap.ExtBut it s.heap h'->Q none {s with heap:=h'}):wpAny (model prog w) A (pyNext (.ref it)) Q E s:=by
 obtain ⟨o,ho,hc,hd⟩:=id hit;unfold pyNext;refine wpAny_bind (wpAny_attempt (wpAny_callSpecial?_slot (name:=Str.ofString "__next__") hit.ty slot_next
  (wpAny_call_entry slot_next hit.ty entry_next ?_ (args_next _))))
 unfold Builtin.«reversed.__next__»;refine wpAny_bind (wpAny_of_eq (a:=(Value.ref it,[])) rfl ?_)
 try dsimp only
 refine wpAny_bind (wpAny_field ho hd (x:=.ref t) rfl ?_);refine wpAny_bind (wpAny_field ho hd (x:=rawInt (-1)) rfl ?_);show wpAny _ _ (if (-1:Int)<0 then _ else _) _ _ s;rw [if_pos (by decide)];refine wpAny_bind (wpAny_rule ?_);refine wpAny_bind ?_;refine wpAny_bind (wpAny_setField ho hd (by simp) ?_);have h1:=Heap.get?_update_self (h:=s.heap) (a:=it) (Obj.mapFields (·.set! 1 (rawInt (-1)))) ho (Obj.isFreed_of_fields (Obj.data_mapFields hd _));have hd1:(Obj.mapFields (·.set! 1 (rawInt (-1))) o).data=.fields #[.ref t,rawInt (-1)]:=by rw [Obj.data_mapFields hd];simp
 refine wpAny_setField h1 hd1 (by simp) ?_;refine wpAny_bind ?_;unfold Builtin.SmallTypes.stopIteration;simp only [newExc,newTuple];refine wpAny_bind ?_;refine wpAny_bind (wpAny_newObj_type ?_ (by size_fits));refine wpAny_bind (m:=firstArgMember _ _) (wpAny_of_eq (a:=Value.none) (by first|rfl|(simp only [firstArgMember];rfl)) ?_);refine wpAny_newObj_type ?_ (by size_fits);simp only [raiseNew];refine wpAny_bind (wpAny_handled ?_)
 first|rw [show A.in1.handled=none from hh]|rw [hh]
 refine wpAny_bind (wpAny_pure (wpAny_throw ?_));refine wpAny_bind (wpAny_isInstance (T := "StopIteration") (b:=true) ⟨_,Heap.get?_push_size _ rfl,rfl⟩ isSubtype_stop ?_);exact wpAny_pure (hQ _ ((((Heap.SameBut.update ..).trans (Heap.SameBut.update ..)).extBut.push _).push _))
theorem J1 {it t:Addr} {i:Int} {Q:Value->Shared->Prop} (hit:Is s.heap it t i) (h:Q (.ref it) s):wpAny (model prog w) A (pyIter (.ref it)) Q E s:=by
 refine wpAny_pyIter_slot hit.ty J0 (wpAny_call_entry J0 hit.ty U7 ?_ (Y_ _));show wpAny _ _ (ret (.ref it)) _ _ s;exact wpAny_pure ⟨_,rfl, "reversed",_,hit.ty,slot_next.lookup,h⟩
end
theorem walks {prog:Program} {w:World} {A:Around} (hh:A.handled=none) (I l:Addr) (hne:l≠I) (items:Array Value) (hz:(items.size:Int)<2 ^ 62) :
  Walks prog w A I [I,l] [I] items.size (fun i v=>items[items.size-1-i]?=some v) (fun i h=>i<=items.size/\Is h I l ((items.size:Int)-1-(i:Int))/\h.IsTuple l items) where
 sub:=fun b hb=>by simp at hb;simp [hb]
 frame:=fun _ _ _ x hk=>⟨x.1,x.2.1.at fun o e=>hk I (by simp) o e,let ⟨o,e,r⟩:=x.2.2;⟨o,hk l (by simp) o e,r⟩⟩
 item:=fun i s Q E hi x hQ=>by
  have e:(items.size:Int)-1-(i:Int)=((items.size-1-i:Nat):Int):=by lia
  have hit:=x.2.1;rw [e] at hit;have hx:items[items.size-1-i]?=some (items[items.size-1-i]'(by lia)):=Array.getElem?_eq_getElem (by lia);refine next_item hit x.2.2 hx hz fun h' tk hit' hs'=>?_
  have e2:((items.size-1-i:Nat):Int)-1=(items.size:Int)-1-((i+1:Nat):Int):=by lia
  rw [e2] at hit';exact hQ _ h' tk hx ⟨hi,hit',let ⟨o,eo,r⟩:=x.2.2;⟨o,(hs'.2 l hne).trans eo,r⟩⟩ fun b o hb eo=>hs'.extBut b o (fun h=>hb (by simp [h])) eo
 done:=fun s Q E x hQ=>by
  have e:(items.size:Int)-1-(items.size:Int)=-1:=by lia
  have hit:=x.2.1;rw [e] at hit;exact next_end hh hit fun h' he'=>hQ h' s.toks fun b o hb eo=>he' b o (fun h=>hb (by simp [h])) eo
 self:=fun _ _ _ _ x hQ=>J1 x.2.1 hQ
section
variable {prog:Program} {w:World} {A:Around} {E:Value->Shared->Prop} {s:Shared}
theorem hint {I l:Addr} {items:Array Value} {Q:Bool->Shared->Prop} (hit:Is s.heap I l ((items.size:Int)-1)) (hl:s.heap.IsTuple l items) (hz:items.size<=sizeLine) (h:∀b tk,Q b {s with toks:=tk}):wpAny (model prog w) A (Builtin.List.listLengthHint (.ref I)) Q E s:=by
 unfold Builtin.List.listLengthHint;refine wpAny_bind (wpAny_specialOf hit.ty U5 ?_);dsimp only;refine wpAny_ite_split (fun hab=>absurd hab (by decide +kernel)) (fun _=>?_);rw [if_neg (by simp)];refine wpAny_bind (wpAny_specialOf hit.ty xY.lookup ?_);generalize hid:("reversed.__length_hint__" : String)=id0
 wp_delta
 rw [show splitId id0=some ("reversed", "__length_hint__") from by subst hid;decide +kernel];subst hid;refine wpAny_bind (wpAny_isInstance (T := "reversed") (b:=true) hit.ty PySem.F.sub_reversed_self ?_);refine wpAny_ite_split (fun hab=>absurd hab (by decide)) (fun _=>?_);refine wpAny_ite_split (fun hab=>absurd hab (by decide +kernel)) (fun _=>?_);refine wpAny_bind (wpAny_rule ?_);refine wpAny_bind (wpAny_of_eq (xY.bind _) ?_);refine wpAny_bind (wpAny_attempt (wpAny_call_entry xY hit.ty U6 ?_ (ZC _)));obtain ⟨o,ho,hc,hd⟩:=id hit;unfold Builtin.«reversed.__length_hint__»;refine wpAny_bind (wpAny_of_eq (a:=Value.ref I) rfl ?_);refine wpAny_bind (wpAny_field ho hd (x:=.ref l) rfl ?_);rw [if_neg (show ¬((Value.ref l==Value.none)=true) from Bool.false_ne_true)];rw [sizeLine_eq] at hz;refine wpAny_bind (PyProof.Rows.len_tuple (items:=items) hl (by lia) ?_);refine wpAny_bind (wpAny_of_eq (a:=some (items.size:Int)) rfl ?_);dsimp only;refine wpAny_bind (wpAny_field ho hd (x:=rawInt ((items.size:Int)-1)) rfl ?_);show wpAny _ _ (if (items.size:Int)<(items.size:Int)-1+1 then _ else _) _ _ _;rw [if_neg (by lia)];refine wpAny_bind (wpAny_mkInt (wpAny_pure ⟨_,rfl,?_⟩));dsimp only;refine wpAny_bind (wpAny_of_eq (a:=some ((items.size:Int)-1+1)) rfl ?_);dsimp only;rw [if_neg (by simp only [Builtin.List.listFitsIndex,Bool.not_eq_true',Bool.not_eq_false,Bool.and_eq_true,decide_eq_true_eq];lia),if_neg (by lia),if_neg (by simp only [Builtin.List.listTooLong,decide_eq_true_eq,sizeLine_eq];lia)];exact wpAny_pure (h _ _)
theorem extend {R:Result->Shared->Prop} {I l:Addr} {items:Array Value} (hh:A.handled=none) (hit:Is s.heap I l ((items.size:Int)-1)) (hl:s.heap.IsTuple l items) (hIl:l≠I) (S:Addr) (hSr:S≠I) (hSd:S≠l) (res:Value) (c₀:Nat) (hS:s.heap.get? S=some {cls:=.type "list",data:=.seq #[] c₀})
  (hR:∀h' tk acc' c',(∀b o,b≠S->b≠I->s.heap.get? b=some o->h'.get? b=some o)->h'.get? S=some {cls:=.type "list",dict:=none,data:=.seq acc' c',slots:=#[]}->ItemsOf (fun i v=>items[items.size-1-i]?=some v) acc' items.size->R (.ok (.ret res)) {s with heap:=h',toks:=tk}) (hn:items.size<=sizeLine) :
  wpAny (model prog w) A.in1 (Builtin.List.listExtendWith (.ref S) (.ref I) res)
   (fun fin s'=>match fin with|.done f=>R (.ok f) s'|.again c'=>c'.quiet=true/\codeAny (model prog w) A c' R s') (fun e s'=>R (.error e) s') s:=by
 have hz:(items.size:Int)<2 ^ 62:=by rw [sizeLine_eq] at hn;lia
 have W:=walks (prog:=prog) (w:=w) (A:=A.in1) hh I l hIl items hz;have hSf:S∉[I,l]:=by simp only [List.mem_cons,List.not_mem_nil,or_false,not_or];exact ⟨hSr,hSd⟩
 have st0:∀{h:Heap},Is h I l ((items.size:Int)-1)->h.IsTuple l items->0<=items.size/\Is h I l ((items.size:Int)-1-((0:Nat):Int))/\h.IsTuple l items:=fun {h} a b=>⟨Nat.zero_le _,by simpa using a,b⟩
 have key:∀(h:Heap) (c₁ tk:Nat),Is h I l ((items.size:Int)-1)->h.IsTuple l items->(∀b o,b≠S->s.heap.get? b=some o->h.get? b=some o)->
   h.get? S=some {cls:=.type "list",data:=.seq #[] c₁}->codeAny (model prog w) A (.builtin "list.extend.loop" ⟨[.ref S,.ref I,res],[]⟩) R {s with heap:=h,toks:=tk}:=by
  intro h c₁ tk h1 h2 hk hS₁;refine codeAny_extend_loopS W.toS hn S hSf res items.size 0 _ #[] c₁ rfl (Nat.zero_le _) (st0 h1 h2) hS₁ (ItemsOf.nil _) fun s' acc' c' hm hS' hacc=>?_
  rw [Moved.eq_with hm];refine hR s'.heap s'.toks acc' c' (fun b o hb hbI e=>hm.heap b o (fun hmem=>?_) (hk b o hb e)) hS' hacc;rcases List.mem_cons.mp hmem with e'|hmem
  ·exact hb e'
  ·exact hbI (List.mem_singleton.mp hmem)
 unfold Builtin.List.listExtendWith;refine wpAny_bind (wpAny_typeOf (T := "reversed") hit.ty ?_);have h1:Builtin.List.listSameRef (.ref S) (.ref I)=false:=by simp [Builtin.List.listSameRef,hSr]
 have n1:(Value.type "reversed" == Value.type "list")=false:=by decide
 have n2:(Value.type "reversed" == Value.type "tuple")=false:=by decide
 simp only [h1,n1,n2,Bool.or_false,Bool.false_eq_true,if_false];refine wpAny_bind (J1 hit ?_);refine wpAny_bind (wpAny_holding (hint hit hl hn fun b tk=>?_));refine wpAny_ite_split (fun _=>?_) (fun _=>wpAny_pure ⟨plainId_quiet PySem.F.plain_extend_loop _,key _ c₀ _ hit hl (fun b o _ e=>e) hS⟩);refine wpAny_bind (wpAny_rule ?_);refine wpAny_bind ?_;show wpAny _ _ (updateSeq S (·.push .none) >>= fun _=>updateSeq S (·.pop)) _ _ _;refine wpAny_bind (wpAny_updateSeq hS rfl ?_);have hS₂:=Heap.get?_update_self (Obj.mapSeq (·.push Value.none)) hS rfl;refine wpAny_updateSeq (hz:=by seq_fits) hS₂ rfl ?_;have hS₃:=Heap.get?_update_self (Obj.mapSeq (·.pop)) hS₂ rfl;have oth:∀b o,b≠S->s.heap.get? b=some o->((s.heap.update S (Obj.mapSeq (·.push Value.none))).update S (Obj.mapSeq (·.pop))).get? b=some o:=fun b o hb e=>(Heap.get?_update_other _ _ (Ne.symm hb)).trans ((Heap.get?_update_other _ _ (Ne.symm hb)).trans e)
 refine wpAny_pure ⟨plainId_quiet PySem.F.plain_extend_loop _,key _ _ _ (hit.at fun o e=>oth I o (Ne.symm hSr) e) (let ⟨o,e,r⟩:=hl;⟨o,oth l o (Ne.symm hSd) e,r⟩) (fun b o hb e=>oth b o hb e) hS₃⟩
theorem init {R:Result->Shared->Prop} {I l:Addr} {items:Array Value} (hh:A.handled=none) (hit:Is s.heap I l ((items.size:Int)-1)) (hl:s.heap.IsTuple l items) (hIl:l≠I) (S:Addr) (hSr:S≠I) (hSd:S≠l) (hS:s.heap.get? S=some {cls:=.type "list",data:=.seq #[]})
  (hR:∀h' tk acc' c',(∀b o,b≠S->b≠I->s.heap.get? b=some o->h'.get? b=some o)->h'.get? S=some {cls:=.type "list",dict:=none,data:=.seq acc' c',slots:=#[]}->ItemsOf (fun i v=>items[items.size-1-i]?=some v) acc' items.size->R (.ok (.ret .none)) {s with heap:=h',toks:=tk}) (hn:items.size<=sizeLine) :
  wpAny (model prog w) A.in1 (Builtin.«list.__init__» ⟨[.ref S,.ref I],[]⟩)
   (fun fin s'=>match fin with|.done f=>R (.ok f) s'|.again c'=>c'.quiet=true/\codeAny (model prog w) A c' R s') (fun e s'=>R (.error e) s') s:=by
 show wpAny _ _ (do let old <- Builtin.List.listItems (.ref S);Builtin.List.listUpdate (.ref S) (fun _=>#[]);letGo old.toList.reverse;Builtin.List.listExtendWith (.ref S) (.ref I) .none) _ _ s;refine wpAny_bind ?_;unfold Builtin.List.listItems;refine wpAny_bind (wpAny_seqItems hS rfl (wpAny_pure ?_));show wpAny _ _ (updateSeq S (fun _=>#[]) >>= fun _=>letGo (#[]:Array Value).toList.reverse >>= fun _=>Builtin.List.listExtendWith (.ref S) (.ref I) .none) _ _ s;refine wpAny_bind (wpAny_updateSeq hS rfl ?_);have hS₂:=Heap.get?_update_self (Obj.mapSeq (fun _=>(#[]:Array Value))) hS rfl;have oth:∀b o,b≠S->s.heap.get? b=some o->(s.heap.update S (Obj.mapSeq (fun _=>(#[]:Array Value)))).get? b=some o:=
  fun b o hb e=>(Heap.get?_update_other _ _ (Ne.symm hb)).trans e
 refine wpAny_bind (wpAny_letGo ?_);refine extend hh (hit.at fun o e=>oth I o (Ne.symm hSr) e) (let ⟨o,e,r⟩:=hl;⟨o,oth l o (Ne.symm hSd) e,r⟩) hIl S hSr hSd .none _ hS₂ (fun h' tk acc' c' hk hS' hacc=>?_) hn;exact hR h' tk acc' c' (fun b o hb hbI e=>hk b o hb hbI (oth b o hb e)) hS' hacc
theorem ZJ {I l:Addr} {items:Array Value} {Q:Value->Shared->Prop} (hh:A.handled=none) (hit:Is s.heap I l ((items.size:Int)-1)) (hl:s.heap.IsTuple l items) (hIl:l≠I) (hn:items.size<=sizeLine)
  (hQ:∀h' tk acc' c',(∀b o,b≠I->s.heap.get? b=some o->h'.get? b=some o)->h'.get? s.heap.objs.size=some {cls:=.type "list",dict:=none,data:=.seq acc' c',slots:=#[]}->ItemsOf (fun i v=>items[items.size-1-i]?=some v) acc' items.size->Q (.ref s.heap.objs.size) {s with heap:=h',toks:=tk}) :
  wpAny (model prog w) A (call (.type "list") [.ref I]) Q E s:=by
 refine callType_codes (Q₁:=fun obj s₁=>obj=.ref s.heap.objs.size/\s₁={s with heap:=s.heap.push {cls:=.type "list",data:=.seq #[]}}) PySem.F.called_list (PySem.F.typeCall_list_1 _) PySem.F.entry_list_init
  (code_list_new _ ⟨rfl,rfl⟩) fun obj s₁ h₁=>?_
 obtain ⟨rfl,rfl⟩:=h₁;have hS:(s.heap.push {cls:=.type "list",data:=.seq #[]}).get? s.heap.objs.size=some {cls:=.type "list",data:=.seq #[]}:=Heap.get?_push_size _ rfl;have lt:∀{b:Addr} {o:Obj},s.heap.get? b=some o->s.heap.objs.size≠b:=fun e=>Nat.ne_of_gt (Heap.lt_size e)
 have l1:s.heap.objs.size≠I:=let ⟨o,e,_⟩:=hit;lt e
 have l2:s.heap.objs.size≠l:=let ⟨o,e,_⟩:=hl;lt e
 refine ⟨⟨_,hS,rfl⟩,PySem.F.args_list_init_2 _ _,init (A:=A.in1) hh (hit.at fun o e=>Heap.get?_push_of_some _ e) (let ⟨o,e,r⟩:=hl;⟨o,Heap.get?_push_of_some _ e,r⟩) hIl _ l1 l2 hS (fun h' tk acc' c' hk hS' hacc=>?_) hn⟩;exact ⟨rfl,hQ h' tk acc' c' (fun b o hb e=>hk b o (Ne.symm (lt e)) hb (Heap.get?_push_of_some _ e)) hS' hacc⟩
end
end Rv
end Mi
end
section
namespace Mi
open PySem L2 PySem.SeqAt PySem.Spec PyProof.Rows
noncomputable def aDr:D->Res D
 | .tup xs=>if D.aX xs&&decide (xs.length<=lim) then .ok (.lst xs.reverse) else .bad
 | _=>.bad
theorem N6:bootBuiltins "reversed" = some (.type "reversed"):=by decide +kernel
variable [KFrag]
theorem bQ.rev {P:Addr->Prop} {H:Hp}:∀{vs:List V} {ds:List D},bQ P H vs ds->bQ P H vs.reverse ds.reverse
 | _,_,.nil=>.nil
 | _,_,.cons r t=>by rw [List.reverse_cons,List.reverse_cons];exact t.rev.snoc r
theorem ZK {ds:List D} (h:D.aX ds=true):D.aX ds.reverse=true:=fU.mpr fun y hy=>fU.mp h y (List.mem_reverse.mp hy)
theorem aBy {xs:List V} {its acc:List Value} (r:Vals xs its) (hl:acc.length=its.length) (h:∀j v,acc[j]?=some v->its[its.length-1-j]?=some v):Vals xs.reverse acc:=by
 have e:acc=its.reverse:=by
  refine List.ext_getElem? fun j=>?_
  by_cases hj:j<its.length
  ·have h1:acc[j]?=some (acc[j]'(by lia)):=List.getElem?_eq_getElem (by lia);have h2:=h j _ h1;rw [h1,List.getElem?_reverse hj,h2]
  ·rw [List.getElem?_eq_none (by lia),List.getElem?_eq_none (by rw [List.length_reverse];lia)]
 rw [e];clear e h hl;induction r with
 | nil=>exact .nil
 | cons h t ih=>
  rw [List.reverse_cons,List.reverse_cons];exact ih.append (.cons h .nil)
section
variable {X:Cx} {e:Expr} {fe:FE} {re:Bool} {p p2 pos pos2:Pos}
theorem ZL (hc:X.calm=true) (hg:Gl X "list") (hm:X.mg "list" = none) (hg2:Gl X "reversed") (hm2:X.mg "reversed" = none) (he:PE X e (gE fe re)) (hs:starEach [e] X.env=[(false,eval e X.env)]:=by rfl)
  (hs2:starEach [.Call (.Name "reversed" p2) [e] [] pos2] X.env=[(false,eval (.Call (.Name "reversed" p2) [e] [] pos2) X.env)]:=by rfl) :
  PE X (.Call (.Name "list" p) [.Call (.Name "reversed" p2) [e] [] pos2] [] pos) (gE (b1 aDr fe) true):=by
 intro pins s σ H Q I ⟨ρ,d,E,h,q⟩;obtain ⟨d0,h1,h2⟩:=aR h;unfold aDr at h2;split at h2
 rotate_left
 ·cases h2
 rename_i ds;split at h2
 rotate_left
 ·cases h2
 rename_i hb;cases h2;rw [Bool.and_eq_true] at hb;refine wpAny_Call_Name_kw (n6 I hg hm aFl ?_);refine PyProof.Rows.callWith_type1 ?_ hs2 rfl;rw [hs2];show wpAny _ _ (spliced [(false,eval (.Call (.Name "reversed" p2) [e] [] pos2) X.env)]) _ _ s;refine Calls.spliced_cons ?_;refine wpAny_Call_Name_kw (n6 I hg2 hm2 N6 ?_);refine PyProof.Rows.callWith_type1 ?_ hs rfl;rw [hs];show wpAny _ _ (spliced [(false,eval e X.env)]) _ _ s;refine Calls.spliced_cons (thn (he pins s σ H (fun v H1=>b_ H H1/\Rep All H1 v (.tup ds)) I ⟨ρ,_,E,h1,fun v H1 s1 r1 _=>⟨s1,r1⟩⟩) fun u s1 ⟨x,H1,I1,ru,sm,rx⟩=>?_);obtain ⟨t,xs,rfl,ex,rr⟩:=rx.gD;cases ru;obtain ⟨its,rv,ht,hz⟩:=I1.tuple (.of ex);have htt:s1.heap.IsTuple t its.toArray:=ht;refine Calls.spliced_nil ?_;have hz':its.toArray.size<=sizeLine:=by rw [List.size_toArray,<-rv.length];exact hz
 refine Rv.aBx htt (by rw [sizeLine_eq] at hz';lia) fun tk=>?_
 refine Calls.spliced_nil ?_;have hne:t≠s1.heap.objs.size:=let ⟨o,e,_⟩:=htt;Nat.ne_of_lt (Heap.lt_size e)
 refine Rv.ZJ (s:={s1 with heap:=s1.heap.push (Rv.obj t ((its.toArray.size:Int)-1)),toks:=tk}) (I:=s1.heap.objs.size) (l:=t) (items:=its.toArray) (I1.ok.hd hc) ⟨_,Heap.get?_push_size _ rfl,rfl,rfl⟩ (let ⟨o,e,r⟩:=htt;⟨o,Heap.get?_push_of_some _ e,r⟩) hne hz' fun h' tk' acc c hk hS hacc=>?_
 have hsz:((s1.heap.push (Rv.obj t ((its.toArray.size:Int)-1))).objs.size)=s1.heap.objs.size+1:=Heap.size_push ..;have hfr:H1 (s1.heap.push (Rv.obj t ((its.toArray.size:Int)-1))).objs.size=none:=I1.hok.fresh (by rw [hsz];lia);have hlen:acc.toList.length=its.length:=by have:=hacc.1;simpa using this
 have hv:Vals xs.reverse acc.toList:=aBy rv hlen fun j v hj=>by
  have:=hacc.2 j v (by simpa using hj);simpa using this
 have sm2:b_ H1 (upd H1 (s1.heap.push (Rv.obj t ((its.toArray.size:Int)-1))).objs.size (.lst xs.reverse)):=b_.upd hfr;refine ⟨.ref (s1.heap.push (Rv.obj t ((its.toArray.size:Int)-1))).objs.size,_,I1.laid (a:=(s1.heap.push (Rv.obj t ((its.toArray.size:Int)-1))).objs.size) (o:=.lst xs.reverse) (h':=h') (t':=tk') (fun b o e=>hk b o (Nat.ne_of_lt (Heap.lt_size e)) (Heap.get?_push_of_some _ e)) (by rw [hsz];lia) ⟨by rw [List.length_reverse];exact hz,acc.toList,c,hv,by simpa using hS⟩,rfl,?_⟩;exact q _ _ (sm.trans sm2) (.lst aL trivial (rr.rev.same sm2)) fun _=>.lst aL (sm.free hfr) ((rr.rev.bK (ZK hb.1)).same sm2)
end
end Mi
end
section
namespace Wl
open PySem PySem.Spec
section
variable {prog:Program} {w:World} {A:Around} {E:Value->Shared->Prop} {hp:Heap} {g:Array GenState} {d:Drawn} {tk:Nat} {os:OsState} {a:Addr} {xs:Array Value} {n:Nat}
end
section
variable {prog:Program} {w:World} {K:Type} [DecidableEq K] {knd:KeyKind prog w K} {A:Around} {R:Except Value Flow->Shared->Prop} {it l d:Addr} {items:Array Value} {ps:List (K×Value)} {nl:Nat}
end
section
variable {prog:Program} {w:World} {K:Type} [DecidableEq K] {knd:KeyKind prog w K} {A:Around} {E:Value->Shared->Prop} {hp:Heap} {g:Array GenState} {dr:Drawn} {tk:Nat} {os:OsState} {l:Addr} {items:Array Value} {ps:List (K×Value)} {nl:Nat}
end
end Wl
end
section
namespace Mi
open PySem L2 PySem.SeqAt PySem.Spec PyProof.Rows
variable [KFrag]
section
variable {X:Cx} {e:Expr} {fe:FE} {re:Bool} {p pos:Pos}
end
end Mi
end
section
namespace Mi
open PySem L2 PySem.SeqAt PySem.Spec PyProof.Rows
noncomputable def ZM (i:Nat) (f:FE):FS:=fun ρ=>do
 let d <- f ρ
 match ρ.getD i .uD with
 | .dct kvs=>if decide (kvs.length<lim)&&(xJ kvs d&&(cG kvs d).isNone) then .ok (.nx (ρ.set i (.dct (putD kvs d (.bl true))))) else .bad
 | _=>.bad
variable [KFrag]
section
variable {X:Cx} {own:Nat->Bool} {a b e:Expr} {pos pos' posE:Pos} {fa fe:FE} {re:Bool} {xb:FX}
theorem aG6 {o:CmpOp} {f:D->D->Res D} {fr:Bool} (ho:OpR X (compareOp o) (r2 f fr)) (ha:PE X a (gE fa true)) (hb:PE X b (gX own xb)) (hm:behindInMarks o b=false):PT X (.Compare a [o] [b] pos) (gXT own (xTB (x2R f fa xb))):=
 PT.imp (MP ho ha hb hm) fun σ H Q ⟨ρ,k,ρ',E,h,q⟩=>by
  obtain ⟨⟨d,ρ1⟩,h1,h2⟩:=aR h;obtain ⟨b,h3,h4⟩:=aR h2;cases h4;refine aN4 ⟨ρ,d,_,E,h1,fun v H' k1 E1 ns r=>?_⟩;cases XJ h3;cases r;exact ⟨_,rfl,q H' k1 E1 ns⟩
noncomputable def aJq (i:Nat) (fk fv:FE):TS:=fun D' σ H=>∃ρ kd d kvs a,ER H σ ρ/\fv ρ=.ok d/\fk ρ=.ok kd/\σ[i]?=some (some (.ref a))/\Rep All H (.ref a) (.dct kvs)/\D.aX (kvs.map (·.2))=true/\kvs.length<sizeLine/\xJ kvs kd=true/\d.pure=true/\
 ∀H1 o,b_ H H1->QM o=true->Rep All (upd H1 a o) (.ref a) (.dct (putD kvs kd d))->D'.nx σ (upd H1 a o)
theorem aG7 {i:Nat} {x:Str} {p1:Pos} {value k:Expr} {fv fk:FE} {rv rk:Bool} (hu:X.A.units+20<cLine) (hN:X.N[i]?=some x) (hvi:Vis X.env.scope x) (hk:PE X k (gE fk rk)) (hv:PE X value (gE fv rv))
  (hs:swapsWith value (some (.Subscript (.Name x p1) k pos')) pos.line X.env=pure false) (hd:nDb x) (hcd:nCd x) :
  PS X (.Assign [.Subscript (.Name x p1) k pos'] value pos) (aJq i fk fv):=by
 intro pins s σ H D' I ⟨ρ,kd,d,kvs,a,E,h0,h1,hσ,r,hin,hg1,hg2,hg3,q⟩;refine wpAny_Assign_Subscript (thn (hv pins s σ H (fun v H1=>b_ H H1/\Rep All H1 v d) I ⟨ρ,d,E,h0,fun v H1 s1 r1 _=>⟨s1,r1⟩⟩) fun rr s1 ⟨v,H1,I1,rv1,sm1,rp1⟩=>
  thn (bW hN hvi hd hcd pins s1 σ H1 (fun w H2=>w=.ref a/\H2=H1) I1 ⟨_,hσ,rfl,rfl⟩) fun u s2 ⟨xx,H2,I2,rx,ex,eH⟩=>
  thn (hk pins s2 σ H2 (fun w H3=>b_ H2 H3/\Rep All H3 w kd) I2 ⟨ρ,kd,by rw [eH];exact E.same sm1,h1,fun v H1 s1 r1 _=>⟨s1,r1⟩⟩) fun iv s3 ⟨y,H3,I3,ry,sm3,rp3⟩=>?_) hs
 subst ex eH;obtain rfl:u=Value.ref a:=rx;have sm:=sm1.trans sm3;obtain ⟨H4,o4,I4,g,hmo,rp⟩:=aIp I3 (r.same sm) hin rp3 hg2 hg1 (rp1.same sm3) hg3;exact HX (by lia) I4 g ry rv1 fun s4 I5=>⟨σ,_,I5,q _ _ sm hmo rp⟩
noncomputable def aMd:Sp:=fun vs H Q _=>∃(a:Addr) (v:V) (kvs:List (D×D)) (k:D),vs=[.ref a,v]/\Rep All H (.ref a) (.dct kvs)/\Rep All H v k/\D.aX (kvs.map (·.2))=true/\kvs.length<sizeLine/\xJ kvs k=true/\cG kvs k=none/\
 ∀H1 o,b_ H H1->QM o=true->Rep All (upd H1 a o) (.ref a) (.dct (putD kvs k (.bl true)))->Q .non (upd H1 a o)
noncomputable def ZP (P:Program) (w:World) (K:PySem.W.Frag) (mg:Str->Option Value) (base:Heap) (k:Nat) (x:Str):Prop:=
 ∃(fad:Addr) (fd:FuncData) (ps:List Str),o7 P w K mg base CX0 k fad fd ps aMd/\mg x=some (.ref fad)/\PySem.W.keepIn K (.ref fad)=true/\Binds K fd ps []
noncomputable def aO7:TS:=aD3 (aMv (gT (bTB (b2 (cC .isin) fK fC))) (fun _ _ _=>False) aHp) (aJq 0 fK (bC (.bl true)))
theorem aG8 {k:D} {kvs:List (D×D)} (h:xJ kvs k=true) (x:D):dH 1 [x,k]=.ok k:=by
 unfold xJ at h;rw [Bool.and_eq_true] at h;have h:=h.1;cases k <;> first|rfl|cases h
theorem aJr {P:Program} {w:World} {K:PySem.W.Frag} {mg:Str->Option Value} {base:Heap} {x:Str} {k:Nat} {st:Stmt} {fad:Addr} {fd:FuncData} {N ps:List Str} (F:Fun K x x st fad fd) (hm:mg x=some (.ref fad)) (hb:Binds K fd ps []) (S:bO N ps (aH st)) (hp:ps.length=2) (hN:N.length=2)
  (hbody:∀(cdv:Value) (A:Around) (outer:List Env) (s:Shared) (H:Hp) (E:XK),jX k (A.deeper (envOfC x (aH st) s.heap.objs.size fad cdv))->PSs (lY CX0 P w K mg base N x (aH st) fad cdv A outer s H E).nox (cZ st) aO7):ZP P w K mg base (k+1) x:=by
 refine ⟨fad,fd,ps,F.ok S (fun vs H Q E ⟨a,v,_,_,e,_⟩=>by rw [e,hp];rfl) fun cdv A outer s H vs Q E hr ⟨a,v,kvs,kd,e,r,rk,hin,hl,hf,hn,q⟩=>⟨_,hbody cdv A outer s H E hr,?_⟩,hm,F.kp,hb⟩;subst e;have hst:L2.start N [V.ref a,v]=[some (.ref a),some v]:=by
  unfold L2.start;rw [hN];rfl
 have hv:=aG8 hf (.dct kvs);have E0:ER H (L2.start N [V.ref a,v]) [.dct kvs,kd]:=fun i hi=>by
  rw [hst]
  match i,hi with
  | 0,_=>exact ⟨_,rfl,r⟩
  | 1,_=>exact ⟨_,rfl,rk⟩
  | n+2,hi=>exact absurd rfl hi
 refine ⟨[.dct kvs,kd],false,E0,?_,fun H1 s1=>?_⟩
 ·have hc:cC .isin kd (.dct kvs)=.ok (.bl false):=by
   show (if xJ kvs kd then Res.ok (D.bl (cG kvs kd).isSome) else .bad)=_;rw [if_pos hf,hn];rfl
  exact dC (aF hv rfl hc)
 ·dsimp only;rw [if_neg (by simp)];exact ⟨_,kd,.bl true,kvs,a,E0.same s1,rfl,hv,by rw [hst];rfl,r.same s1,hin,hl,hf,rfl,fun H2 o s2 hmo rp=>q H2 o (s1.trans s2) hmo rp⟩
theorem RN {x y:Str} {p py:Pos} {k k' i:Nat} (C:ZP X.prog X.w X.K X.mg X.base k x) (hr:jX k' X.A) (hkk:k<=k') (hg:Gl X x) (ho:own i=true) (hN:X.N[i]?=some y) (hv:Vis X.env.scope y) (he1:PE X e (gE fe re)) (hdb:nDb x:=by decide) (hd:(y==("__debug__" : Str))=false:=by decide) (hcd:(y==("__classdict__" : Str))=false:=by decide)
  (he:starEach [.Name y py,e] X.env=(false,eval (.Name y py) X.env)::starEach [e] X.env:=by rfl) (he2:starEach [e] X.env=(false,eval e X.env)::starEach [] X.env:=by rfl) (hpl:(backTo pos (starEach [e] X.env)).any (·.1)=false:=by rfl)
  (hs:swapsWith (.Call (.Name x p) [.Name y py,e] [] pos) none posE.line X.env=pure false:=by rfl) :
  PS X (.Expr (.Call (.Name x p) [.Name y py,e] [] pos) posE) (tS own (ZM i fe)):=by
 obtain ⟨fad,fd,ps,F,hm,hk,hb⟩:=C;refine PS.imp (mG (A_ F (hr.mono hkk) hg hm hk hb .nil aF3 (bI (bW hN hv hd hcd) (bI he1 iJ he2) he) hdb he hpl) hs) fun D' σ H ⟨ρ,fl,E,h,q⟩=>?_
 obtain ⟨d,h1,h⟩:=aR h;split at h
 ·rename_i kvs hx;split at h
  ·rename_i hg;cases h;rw [Bool.and_eq_true,Bool.and_eq_true,Option.isNone_iff_eq_none] at hg;obtain ⟨hg1,hg2,hg3⟩:=hg;obtain ⟨a,o,hσ,r,hin,ha,hm'⟩:=E.ownAt ho (by rw [hx];intro z;cases z);rw [hx] at r hin;refine ⟨_,hσ,ρ,d,E.er,h1,fun v H1 s1 r1 _=>?_⟩;refine ⟨a,v,kvs,d,rfl,r.same s1,r1,hin,XM hg1,hg2,hg3,fun H2 o2 s2 hmo rp=>?_⟩;have sm:=s1.trans s2;obtain ⟨E2,k2⟩:=(E.same sm).mut ho hσ hmo rp (m8 rfl hin);exact q _ _ ((KU.same sm).trans k2) E2
  ·cases h
 ·cases h
end
end Mi
end
section
namespace Mi
open PySem L2 PySem.SeqAt PySem.Spec PyProof.Rows
noncomputable def aN5:D->D->D->D->Res D
 | .str a,.bl i,.str b,.bl j=>.ok (.dct (putD [(.str a,.bl i)] (.str b) (.bl j)))
 | _,_,_,_=>.bad
noncomputable def aDs (k v l w:FE):FE:=fun ρ=>do
 let k <- k ρ
 let v <- v ρ
 let l <- l ρ
 let w <- w ρ
 aN5 k v l w
variable [KFrag]
section
variable {own:Nat->Bool}
end
section
variable {X:Cx} {own:Nat->Bool} {st:Stmt} {rest:List Stmt} {f g:FS} {R:TS} {e1 e2:Expr} {x1 x2:FX} {pos:Pos}
end
section
variable {X:Cx} {pos:Pos}
end
section
variable {X:Cx} {pos:Pos}
theorem aG9 {k1 k2 v1 v2:Expr} {g1 g2 h1 h2:FE} {r1 r2 r3 r4:Bool} (hk1:PE X k1 (gE g1 r1)) (hv1:PE X v1 (gE h1 r2)) (hk2:PE X k2 (gE g2 r3)) (hv2:PE X v2 (gE h2 r4)):PE X (.Dict [some k1,some k2] [v1,v2] pos) (gE (aDs g1 h1 g2 h2) true):=
 PE.imp (aF1 (QH hk1 hv1 (QH hk2 hv2 aF0)) rfl rfl (by simp) (Nat.le_of_ble_eq_true rfl)) fun σ H Q ⟨ρ,d,E,h,q⟩=>by
 obtain ⟨a1,e1,hA⟩:=aR h;obtain ⟨a2,e2,hB⟩:=aR hA;obtain ⟨a3,e3,hC⟩:=aR hB;obtain ⟨a4,e4,hD⟩:=aR hC;clear h hA hB hC;unfold aN5 at hD;split at hD
 ·rename_i x i y j;cases hD;intro p hp;have s0:b_ H (upd H p (.dK [])):=b_.upd hp;refine ⟨ρ,_,E.same s0,e1,fun w1 H1 s1 q1 _=>?_⟩;cases q1;refine ⟨ρ,_,(E.same s0).same s1,e2,fun w2 H2 s2 q2 _=>?_⟩;cases q2;refine ⟨ρ,_,((E.same s0).same s1).same s2,e3,fun w3 H3 s3 q3 _=>?_⟩;cases q3;refine ⟨ρ,_,(((E.same s0).same s1).same s2).same s3,e4,fun w4 H4 s4 q4 _=>?_⟩;cases q4;have sm:b_ (upd H p (.dK [])) H4:=((s1.trans s2).trans s3).trans s4;refine ⟨sm _ _ aL,[(.inr x,.bl i),(.inr y,.bl j)],rfl,Nat.le_of_ble_eq_true rfl,?_⟩;have sf:b_ H (upd H4 p (.dK (jA [] [(Sum.inr x,V.bl i),(Sum.inr y,V.bl j)]))):=fun b o e=>by
   rw [bB (bT e hp)];exact sm b o (s0 b o e)
  have rk:∀P:Addr->Prop,lW P (upd H4 p (.dK (jA [] [(Sum.inr x,V.bl i),(Sum.inr y,V.bl j)]))) (putK [(Sum.inr x,V.bl i)] (Sum.inr y) (V.bl j)) (putD [(.str x,.bl i)] (.str y) (.bl j)):=fun P=>wV (k:=.inr y) (.bl j) (.cons (k:=.inr x) (.bl i) .nil) (by simp)
  have nd:((putK [(Sum.inr x,V.bl i)] (Sum.inr y:Key) (V.bl j)).map (·.1)).Nodup:=j7 (by simp);exact q _ _ sf (.dK aL trivial (rk All) nd) fun _=>.dK aL hp (rk _) nd
 ·cases hD
end
section
variable {own:Nat->Bool} {D':Ends} {σ σ':L2.St} {H H':Hp}
end
section
variable {own:Nat->Bool} {X:Cx} {st:Stmt} {rest s1 s2:List Stmt} {f g:FS} {c e:Expr} {gc:FT} {pos pos':Pos}
end
section
variable {own:Nat->Bool} {σ:L2.St} {H:Hp} {ρ:List D}
end
section
variable {own:Nat->Bool} {X:Cx} {k k' n:Nat} {x:Str} {e:Expr} {es fs:List Expr} {fa:FA} {r:Bool} {v:List D->Res D} {p cpos pos pt:Pos} {kk:Nat} {is os:List Nat}
end
end Mi
end
section
namespace Mi
open PySem
theorem ZQ (o:Obj) (f:Array Value->Array Value):(o.mapFields f).dict=o.dict:=by
 obtain ⟨c,d,dt,sl⟩:=o;cases dt <;> rfl
theorem RQ (T:Addr):(Value.ref T != Value.none)=true:=by simp
theorem aBz (L:Addr):¬((Value.none==rawInt L)=true):=by simp [rawInt]
noncomputable def TrD (h B:Heap) (e:Addr) (c:Value) (dd:Option Addr) (fl:Value):Prop:=
 ∃o vs T oT ts,(h.get? e=some o/\o.cls=c/\o.dict=dd/\o.data=.fields vs)/\(vs[1]?=some (.ref T)/\B.get? T=none/\T≠e)/\h.get? T=some oT/\oT.data=.fields ts/\ts[3]?=some fl
noncomputable def FD (B:Heap) (l:List Env) (e:Addr) (c:Value) (dd:Option Addr) (fl:Value) (h:Heap):Prop:=B.StaysIn h/\B.get? e=none/\h.FunFrames B l/\TrD h B e c dd fl
theorem FD.there {B h:Heap} {l:List Env} {e:Addr} {c fl:Value} {dd:Option Addr} (x:FD B l e c dd fl h):∃o,h.get? e=some o/\o.cls=c/\o.dict=dd/\∃vs,o.data=.fields vs:=by
 obtain ⟨_,_,_,o,vs,_,_,_,⟨a,b,d,f⟩,_⟩:=x;exact ⟨o,a,b,d,vs,f⟩
section
variable {M:Model} {A:Around} {E:Value->Shared->Prop} {s:Shared} {B:Heap} {env:Env} {outer l:List Env} {L e:Addr} {oe:Obj} {vs:Array Value} {head c:Value} {dd:Option Addr} {Q:Unit->Shared->Prop}
theorem DK {h:Heap} {a:Addr} {o:Obj} {ws:Array Value} (i:Nat) (v:Value) (ho:h.get? a=some o) (hd:o.data=.fields ws) :
  ∃h2:Heap,h2=h.update a (Obj.mapFields (·.setIfInBounds i v))/\(∀b,b≠a->h2.get? b=h.get? b)/\∃o2,h2.get? a=some o2/\o2.cls=o.cls/\o2.dict=o.dict/\o2.data=.fields (ws.setIfInBounds i v):=
 ⟨_,rfl,fun b hb=>Heap.get?_update_other _ _ (Ne.symm hb),_,Heap.get?_update_self _ ho (Obj.isFreed_of_fields (Obj.data_mapFields hd _)),Obj.cls_mapFields _ _,ZQ _ _,Obj.data_mapFields hd _⟩
theorem RT {had:Bool} (hfr:A.frames=some (env::outer)) (hl:s.heap.FunFrames B (env::outer)) (hf:env.frame=some L) (he:s.heap.get? e=some oe) (hB:B.StaysIn s.heap) (hn:B.get? e=none) (hd:oe.data=.fields vs) (hz:1<vs.size)
  (q:∀h',FD B (env::outer) e oe.cls oe.dict (rawInt L) h'->s.heap.UpToSlots h'->Q () {s with heap:=h'}) :
  wpAny M A (do let a <- frameOf env;let pl <- entryPlaceOf L had;let b <- EntryCells.newEntry head a .none (rawInt L) .none pl;setField (.ref e) 1 b) Q E s:=by
 have nf:e∉(env::outer).filterMap (·.frame):=fun z=>by
  obtain ⟨_,o,ho,k⟩:=hl.mem z;cases he.symm.trans ho;exact k _ hd
 refine wpAny_bind (wpAny_frameOf_fun hfr hl hf fun h1 so=>wpAny_bind (wpAny_entryPlaceOf fun pl hp=>?_));unfold EntryCells.newEntry;unfold newFields;refine wpAny_bind (wpAny_newObj_type ?_ (hp.sizeOk5 _ _ _ _ _));generalize hon:({cls:=.type "traceback",dict:=none,data:=.fields ([head,.ref L,.none,rawInt L,.none]++(if pl.isEmpty then List.replicate 6 Value.none else pl)).toArray}:Obj)=on;have e1:h1.get? e=some oe:=(so.2.1 e nf).trans he;have B1:B.StaysIn h1:=fun b o k=>(so.2.1 b fun z=>by rw [(hl.mem z).1] at k;cases k).trans (hB b o k)
 have e2:=Heap.get?_push_of_some (h:=h1) on e1;obtain ⟨h3,r3,k3,o3,g3,c3,d3,f3⟩:=DK 1 (.ref h1.objs.size) e2 hd;have ne:h1.objs.size≠e:=Nat.ne_of_gt (Heap.lt_size e1);have t3:h3.get? h1.objs.size=some on:=(k3 _ ne).trans (Heap.get?_push_size h1 (by rw [<-hon];rfl));have keep:∀b o,b≠e->h1.get? b=some o->h3.get? b=some o:=fun b o hb k=>(k3 b hb).trans (Heap.get?_push_of_some _ k)
 have nr:∀b o,s.heap.get? b=some o->(∀vs,o.data≠.fields vs)->b≠e:=fun b o k z w=>by
  rw [w] at k;cases he.symm.trans k;exact z _ hd
 have up:s.heap.UpToSlots h3:=fun b o k z=>by
  obtain ⟨sl,w⟩:=so.2.2 b o k;exact ⟨sl,keep b _ (nr b o k z) w⟩
 refine wpAny_setField e2 hd hz ?_;rw [<-r3];refine q h3 ⟨fun b o k=>keep b o (fun z=>by rw [z,hn] at k;cases k) (B1 b o k),hn,hl.of_keeps fun b o k z=>let ⟨sl,w⟩:=up b o k z;⟨_,w,rfl⟩,?_⟩ up;have don:on.data=.fields ([head,.ref L,.none,rawInt L,.none]++(if pl.isEmpty then List.replicate 6 Value.none else pl)).toArray:=by rw [<-hon]
 exact ⟨o3,_,h1.objs.size,on,_,⟨g3,c3,d3,f3⟩,⟨by simp [hz],B1.fresh,ne⟩,t3,don,by simp⟩
theorem oW {fl:Value} (x:FD B l e c dd fl s.heap) (q:∀h',FD B l e c dd .none h'->s.heap.UpToSlots h'->Q () {s with heap:=h'}):wpAny M A (setFlight (.ref e) none) Q E s:=by
 obtain ⟨k1,k2,k3,o,vs,T,oT,ts,⟨g1,g2,g3,g4⟩,⟨t1,t2,t3⟩,u1,u2,u3⟩:=x;obtain ⟨h2,r2,j2,o2,p1,p2,p3,p4⟩:=DK 3 Value.none u1 u2;have hz:3<ts.size:=(Array.getElem?_eq_some_iff.mp u3).1;have up:∀b o,s.heap.get? b=some o->(∀vs,o.data≠.fields vs)->h2.get? b=some o:=fun b o k z=>(j2 b fun w=>by
  rw [w] at k;cases u1.symm.trans k;exact z _ u2).trans k
 unfold setFlight;refine wpAny_bind (wpAny_field g1 g4 t1 ?_);rw [if_pos (RQ T)];refine wpAny_setField u1 u2 hz ?_;show Q () {s with heap:=s.heap.update T (Obj.mapFields (·.setIfInBounds 3 Value.none))};rw [<-r2];exact q h2 ⟨fun b o k=>(j2 b fun w=>by rw [w,t2] at k;cases k).trans (k1 b o k),k2,k3.of_keeps fun b o k z=>⟨o,up b o k z,rfl⟩,o,vs,T,o2,_,⟨(j2 e (Ne.symm t3)).trans g1,g2,g3,g4⟩,⟨t1,t2,t3⟩,p1,p4,by simp [hz]⟩ fun b o k z=>⟨o.slots,up b o k z⟩
theorem ZR (hfr:A.frames=some (env::outer)) (hf:env.frame=some L) (x:FD B (env::outer) e c dd .none s.heap) (q:∀h',FD B (env::outer) e c dd (rawInt L) h'->s.heap.UpToSlots h'->Q () {s with heap:=h'}):wpAny M A (noteFrame (.ref e) env) Q E s:=by
 obtain ⟨k1,k2,k3,o,vs,T,oT,ts,⟨g1,g2,g3,g4⟩,⟨t1,t2,t3⟩,u1,u2,u3⟩:=x;obtain ⟨h2,r2,j2,o2,p1,p2,p3,p4⟩:=DK 3 Value.none u1 u2;have up:∀b o,s.heap.get? b=some o->(∀vs,o.data≠.fields vs)->h2.get? b=some o:=fun b o k z=>(j2 b fun w=>by
  rw [w] at k;cases u1.symm.trans k;exact z _ u2).trans k
 unfold noteFrame;simp only [hf];refine wpAny_bind (wpAny_field g1 g4 t1 ?_);rw [if_pos (RQ T)];refine wpAny_bind (wpAny_field u1 u2 u3 ?_);rw [if_neg (aBz L)];refine wpAny_bind (wpAny_setField u1 u2 (Array.getElem?_eq_some_iff.mp u3).1 ?_);rw [<-r2];have g1':h2.get? e=some o:=(j2 e (Ne.symm t3)).trans g1;subst g2 g3;refine RT (s:={s with heap:=h2}) hfr (k3.of_keeps fun b o k z=>⟨o,up b o k z,rfl⟩) hf g1' (fun b o k=>(j2 b fun w=>by rw [w,t2] at k;cases k).trans (k1 b o k)) k2 g4 (Array.getElem?_eq_some_iff.mp t1).1 fun h' y z=>q h' y fun b o k w=>z b o (up b o k w) w
theorem aC0 (hfr:A.frames=some (env::outer)) (hf:env.frame=some L) (x:FD B (env::outer) e c dd .none s.heap) (q:∀h',FD B outer e c dd .none h'->s.heap.UpToSlots h'->Q () {s with heap:=h'}):wpAny M A (leaving env (.ref e)) Q E s:=by
 unfold leaving;refine wpAny_bind (ZR hfr hf x fun h1 x1 u1=>oW (s:={s with heap:=h1}) x1 fun h2 x2 u2=>q h2 ⟨x2.1,x2.2.1,x2.2.2.1.2.2,x2.2.2.2⟩ (u1.trans u2))
theorem aC1 (hfr:A.frames=some (env::outer)) (hf:env.frame=some L) (hl:s.heap.FunFrames B (env::outer)) (he:s.heap.get? e=some oe) (hB:B.StaysIn s.heap) (hn:B.get? e=none) (hd:oe.data=.fields vs) (hv:vs[1]?=some .none)
  (q:∀h',FD B outer e oe.cls oe.dict .none h'->s.heap.UpToSlots h'->Q () {s with heap:=h'}):wpAny M A (leaving env (.ref e)) Q E s:=by
 unfold leaving noteFrame;simp only [hf];refine wpAny_bind (wpAny_bind (wpAny_field he hd hv ?_));rw [if_neg (by decide)];exact RT hfr hl hf he hB hn hd (Array.getElem?_eq_some_iff.mp hv).1 fun h1 x1 u1=>oW (s:={s with heap:=h1}) x1 fun h2 x2 u2=>q h2 ⟨x2.1,x2.2.1,x2.2.2.1.2.2,x2.2.2.2⟩ (u1.trans u2)
end
end Mi
end
section
namespace Mi
open PySem PySem.W Builtin Builtin.ObjectAttr
noncomputable abbrev vMr:List Value:=[.type "ValueError",.type "Exception",.type "BaseException",.type "object"]
noncomputable def exC (K:Frag) (C:Addr):Bool:=match K.lookup C with
 | some o=>(match o.cls,o.data,o.slots.toList with
  | .type "type",.cls k,[_,_,_,_,some (.builtin n),_]=>(match k.mro with
   | .ref C'::r=>C'==C&&n == "ValueError.__new__" && !k.hasDel&&k.hasDict&&tailIn K vMr r&&nsOkIn K k.ns
   | _=>false)
  | _,_,_=>false)
 | none=>false
structure ExO (h:Heap) (C:Addr) where
 bm:List Value
 N:Addr
 nm:Str
 qn:Str
 bs:List Value
 sn:List Str
 sub:List Value
 ab:Bool
 col:Option Bool
 dd:Option Addr
 k0:Option Value
 k1:Option Value
 k2:Option Value
 k3:Option Value
 k5:Option Value
 mN:Str->Option Value
 ob:h.get? C=some (excClassObj nm qn C N bs bm true sn sub ab col dd k0 k1 k2 k3 k5 "ValueError.__new__")
 ns:h.Ns N mN
 tl:OwnTail h vMr bm
theorem J2 {K:Frag} {h:Heap} {C:Addr} (X:K.In h) (q:exC K C=true):Nonempty (ExO h C):=by
 unfold exC at q;split at q
 ·rename_i o ho;split at q
  ·rename_i k k0 k1 k2 k3 n k5 e1 e2 e3;split at q
   ·rename_i C' r e4;rw [Bool.and_eq_true,Bool.and_eq_true,Bool.and_eq_true,Bool.and_eq_true,Bool.and_eq_true] at q;obtain ⟨⟨⟨⟨⟨q1,q2⟩,q3⟩,q4⟩,q5⟩,q6⟩:=q;have q1:=beq_iff_eq.mp q1;have q2:=beq_iff_eq.mp q2;rw [Bool.not_eq_true'] at q3;subst q1 q2;obtain ⟨oc,od,dt,⟨sl⟩⟩:=o;dsimp only at e1 e2 e3;subst e1 e2 e3;obtain ⟨nm,bs,mro,ns,qn,hd,sn,sub,ab,col,del⟩:=k;dsimp only at e4 q3 q4 q6;subst e4 q3 q4;exact ⟨⟨r,ns,nm,qn,bs,sn,sub,ab,col,od,k0,k1,k2,k3,k5,_,X _ _ ho,.of_isNs (isNs_of_in X q6),tail_of_in X q5⟩⟩
   ·cases q
  ·cases q
 ·cases q
section
variable {prog:Program} {w:World} {A:Around} {E:Value->Shared->Prop} {K:Frag} {C:Addr}
theorem call_exc {h:Heap} {g:Array GenState} {d:Drawn} {t:Nat} {os:OsState} {f:Addr} {us:List Value} {Q:Value->Shared->Prop} (X:K.In h) (q:exC K C=true) (hi:findIn K (.ref C) "__init__" = some (some (.ref f))) (hf:typeIn K (.ref f)=some (.type "function")) (hz:us.length<=sizeLine)
  (hq:wpAny (model prog w) (A.under (.builtin "type.__call__" ⟨.ref C::us,[]⟩)) (call (.ref f) (.ref (h.objs.size+1)::us)) (fun r s'=>r=.none/\Q (.ref (h.objs.size+1)) s') E
   ⟨(h.push {cls:=.type "tuple",data:=.seq us.toArray}).push {cls:=.ref C,data:=.fields #[.ref h.objs.size,.none,.none,.none,.bool false,.none]},g,d,t,os⟩) :
  wpAny (model prog w) A (call (.ref C) us) Q E ⟨h,g,d,t,os⟩:=by
 obtain ⟨⟨bm,N,nm,qn,bs,sn,sub,ab,col,dd,k0,k1,k2,k3,k5,mN,hC,hN,T⟩⟩:=J2 X q;have F:=PySem.F.excBase_ValueError;have f1:=tc_lookup;have f2:=tc_bind (.ref C);have ty:(⟨h,g,d,t,os⟩:Shared).TypeIs (.ref C) "type":=⟨_,hC,rfl⟩
 have kk:∀b o,h.get? b=some o->((h.push {cls:=.type "tuple",data:=.seq us.toArray}).push {cls:=.ref C,data:=.fields #[.ref h.objs.size,.none,.none,.none,.bool false,.none]}).get? b=some o:=fun b o e=>Heap.get?_push_of_some _ (Heap.get?_push_of_some _ e)
 have X1:=X.keeps kk;have c1:=kk _ _ hC;have hg:((h.push {cls:=.type "tuple",data:=.seq us.toArray}).push {cls:=.ref C,data:=.fields #[.ref h.objs.size,.none,.none,.none,.bool false,.none]}).get? (h.objs.size+1)=some {cls:=.ref C,data:=.fields #[.ref h.objs.size,.none,.none,.none,.bool false,.none]}:=by heap_get
 have own:(Value.ref C::bm).contains (.ref C)=true:=by simp
 refine wpAny_call (codeAny_of_tree (show wpAny _ _ (callAny (.ref C) _) _ _ _ from ?_))
 repeat (any_goals (first|with_reducible refine wpAny_loadPart_at hC ?_|assumption|wp_step))
 refine ⟨rfl,?_⟩;refine codeAny_call_builtin_at (Code.quiet_builtin _ (by decide +kernel)) entry_typeCall (wpAny_check_type_call_sub hC ?_)
 repeat (first|with_reducible refine wpAny_madeBy_exc hC ?_|with_reducible refine wpAny_loadPart_at hC ?_|wp_step)
 refine codeAny_call_builtin_code (Code.quiet_builtin _ F.quiet) (wpAny_check_new_subU F F.hasB T hC ?_);refine codeAny_exc_new_subU F F.hasB F T hC ?_ hz;show wpAny _ _ _ _ _ (⟨(h.push {cls:=.type "tuple",data:=.seq us.toArray}).push {cls:=.ref C,data:=.fields #[.ref h.objs.size,.none,.none,.none,.bool false,.none]},g,d,t,os⟩:Shared);unfold isInstance
 repeat (first|with_reducible refine wpAny_loadPart_at hg ?_|(with_reducible refine wpAny_isSubtype_exc c1 ?_;rw [own])|wp_step)
 refine (looks_findIn X1 hi).at (M:=model prog w) ?_;refine wpAny_holding (wpAny_bind ((bind_fn X1 _ hf).at (wpAny_bind (wpAny_mono hq (fun r s' hr=>?_) fun _ _ x=>x))));obtain ⟨rfl,hQ⟩:=hr
 wp_walk
 exact hQ
theorem ZV {h:Heap} {g:Array GenState} {d:Drawn} {t:Nat} {os:OsState} {e:Addr} {us:List Value} {oe:Obj} {a0:Addr} {r1 r2 r3 r4 r5:Value} {Q:Value->Shared->Prop} (X:K.In h) (q:exC K C=true) (he:h.get? e=some oe) (hc:oe.cls=.ref C) (hd:oe.data=.fields #[.ref a0,r1,r2,r3,r4,r5])
  (hq:Q .none ⟨(h.push {cls:=.type "tuple",data:=.seq us.toArray}).update e (Obj.mapFields (·.setIfInBounds 0 (.ref h.objs.size))),g,d,t,os⟩) (hz:us.length<=sizeLine) :
  wpAny (model prog w) A (call (.builtin "ValueError.__init__") (.ref e::us)) Q E ⟨h,g,d,t,os⟩:=by
 obtain ⟨⟨bm,N,nm,qn,bs,sn,sub,ab,col,dd,k0,k1,k2,k3,k5,mN,hC,hN,T⟩⟩:=J2 X q;have F:=PySem.F.excBase_ValueError;obtain ⟨oc,od,dt,sl⟩:=oe;dsimp only at hc hd;subst hc hd;refine wpAny_call (codeAny_call_builtin F.init.plain F.initEntry (wpAny_check_init_subU F T hC he rfl ?_));have he1:=Heap.get?_push_of_some (h:=h) {cls:=.type "tuple",data:=.seq us.toArray} he
 wp_walk
 exact hq
theorem xZ {h:Heap} {l:List Value} (T:OwnTail h vMr l) (self:Value):refuseLoop self "__setattr__" l=pure ():=by
 induction T with
 | base=>exact PySem.F.store_ValueError.passes self
 | own _ _ _ _ ih=>rw [refuseLoop_ref];exact ih
theorem aGa {h:Heap} {g:Array GenState} {d:Drawn} {t:Nat} {os:OsState} {x:Addr} {o:Obj} {ws:Array Value} {name:Str} {v:Value} {Q:Unit->Shared->Prop} (X:K.In h) (q:exC K C=true) (hs:findIn K (.ref C) "__setattr__" = some (some (.builtin "object.__setattr__"))) (hn:findIn K (.ref C) name=some none)
  (ho:mroIn K C (.type "object")=some true) (hx:h.get? x=some o) (hc:o.cls=.ref C) (hd:o.dict=none) (hw:o.data=.fields ws)
  (hq:∀h' tk,h'.Ns1 h.objs.size (fun y=>if y=name then some v else none)->h'.get? x=some {o with dict:=some h.objs.size}->(∀b u,b≠x->h.get? b=some u->h'.get? b=some u)->Q () ⟨h',g,d,tk,os⟩) :
  wpAny (model prog w) A (setAttr (Value.ref x) name v) Q E (⟨h,g,d,t,os⟩:Shared):=by
 obtain ⟨⟨bm,N,nm,qn,bs,sn,sub,ab,col,dd,k0,k1,k2,k3,k5,mN,hC,hN,T⟩⟩:=J2 X q;have SF:=PySem.F.store_ValueError;have hpass:=xZ T (.ref x);have I:InstAt h x o C none:=⟨hx,hc,by unfold notCls;rw [hw],by rw [hd];trivial⟩
 refine set_plain X I hs ?_;have sub:Looks (model prog w) h (isInstance (.ref x) (.type "object")) true:=I.type.andThen (looks_mroIn X ho);refine codeAny_call_builtin SF.slot.plain SF.entry (@check_slot (model prog w) _ _ ⟨h,g,d,t+1,os⟩ "object.__setattr__" "object" "__setattr__" (.ref x) [.str name t,v] [] _ SF.kind SF.split sub (SF.args (.ref x) (.str name t) v) ?_);have hm:Looks (model prog w) h (mroOf (.ref C)) (.ref C::bm):=((Looks.ld (part:=none) hC).andThen .now).andThen .now;show wpAny _ _ (Builtin.«object.__setattr__» ⟨[.ref x,.str name t,v],[]⟩) _ _ _;rw [osa_eq,refuse_eq];refine wpAny_bind (wpAny_bind (I.type.here (s:=⟨h,g,d,t+1,os⟩) (wpAny_bind (hm.here ?_))));rw [refuseLoop_ref,hpass];refine wpAny_pure (wpAny_bind (I.type.here (wpAny_bind ((looks_findIn X hn).here (wpAny_bind (wpAny_pure ?_))))));show wpAny _ _ (storeInOwnDict (.ref x) (.ref C) (.str name t) name v false) _ _ (⟨h,g,d,t+1,os⟩:Shared)
 repeat (first|(with_reducible refine wpAny_loadPart_at hx ?_;rw [hc])|wp_step)
 rw [hd,if_neg (by simp [typeHasDict])];split
 ·rename_i z;cases z
 split
 ·rename_i z;rw [hw] at z;cases z
 have hx1:=Heap.get?_push_of_some (h:=h) {cls:=.type "dict",data:=.dict #[]} hx;have ne:x≠h.objs.size:=Nat.ne_of_lt (Heap.lt_size hx);refine wpAny_bind (wpAny_alloc' (wpAny_bind (wpAny_update' hx1 (wpAny_pure ?_))));generalize hh2:((h.push {cls:=.type "dict",data:=.dict #[]}).update x fun o=>{cls:=o.cls,dict:=some h.objs.size,data:=o.data,slots:=o.slots})=h2;have g1:h2.get? h.objs.size=some {cls:=.type "dict",data:=.dict #[]}:=by
  rw [<-hh2];exact (Heap.get?_update_ne _ _ _ _ ne.symm).trans (Heap.get?_push_at rfl rfl)
 have g2:h2.get? x=some {o with dict:=some h.objs.size}:=by
  rw [<-hh2];refine Heap.get?_update_self _ hx1 ?_;obtain ⟨oc,od,dt,sl⟩:=o;dsimp only at hw;subst hw;rfl
 have g3:∀b u,b≠x->h.get? b=some u->h2.get? b=some u:=fun b u hb k=>by
  rw [<-hh2];exact (Heap.get?_update_ne _ _ _ _ hb).trans (Heap.get?_push_of_some _ k)
 have n1:h2.Ns h.objs.size (fun _=>none):=⟨_,#[],_,g1,rfl,fun e he=>absurd he (by simp),fun _=>rfl⟩
 show wpAny _ _ (storeInDict h.objs.size (.str name _) name v) _ _ _;unfold storeInDict;unfold newKeyGuard;refine wpAny_bind (wpAny_pure (wpAny_bind (wpAny_nsSet1 (Heap.Ns1.of_empty n1) fun h' hn' hs'=>?_)));obtain ⟨od,_,_,g4,g5,g6⟩:=hn'.count (Within.cons name v Within.nil);refine wpAny_bind (wpAny_lookBehind g4 (by rw [g5];exact pastItsLine_dict (Nat.le_trans g6 (by rw [List.length_cons,List.length_nil,sizeLine_eq];lia))) ?_)
 wp_walk
 exact hq h' _ hn' ((hs'.2 x ne).trans g2) fun b u hb k=>(hs'.2 b (Nat.ne_of_lt (Heap.lt_size k))).trans (g3 b u hb k)
end
end Mi
end
section
namespace Mi
open PySem L2 PySem.W PySem.SeqAt PySem.Spec PyProof.Rows Builtin Builtin.ObjectAttr
noncomputable def XO0 (a C:Addr) (h:Heap):Prop:=∃t,h.get? a=some {cls:=.ref C,data:=.fields #[.ref t,.none,.none,.none,.bool false,.none]}
noncomputable def XO1 (a C dx:Addr) (h:Heap):Prop:=∃t,h.get? a=some {cls:=.ref C,dict:=some dx,data:=.fields #[.ref t,.none,.none,.none,.bool false,.none]}
theorem XO0.stay {a C:Addr} {h1 h2:Heap} (x:XO0 a C h1) (k:∀o,h1.get? a=some o->h2.get? a=some o):XO0 a C h2:=let ⟨t,e⟩:=x;⟨t,k _ e⟩
theorem XO1.stay {a C dx:Addr} {h1 h2:Heap} (x:XO1 a C dx h1) (k:∀o,h1.get? a=some o->h2.get? a=some o):XO1 a C dx h2:=let ⟨t,e⟩:=x;⟨t,k _ e⟩
theorem XO.stay {a C:Addr} {dx:Option Addr} {h1 h2:Heap} (x:XO a C dx h1) (k:∀o,h1.get? a=some o->h2.get? a=some o):XO a C dx h2:=let ⟨o,e,r⟩:=x;⟨o,k _ e,r⟩
theorem XD.stay {dx:Addr} {fs:List (Str×Str)} {h1 h2:Heap} (x:XD dx fs h1) (k:∀o,h1.get? dx=some o->h2.get? dx=some o):XD dx fs h2:=let ⟨m,n,r⟩:=x;⟨m,n.at k,r⟩
theorem XO1.xo {a C dx:Addr} {h:Heap} (x:XO1 a C dx h):XO a C (some dx) h:=let ⟨t,e⟩:=x;⟨_,e,rfl,rfl,_,rfl⟩
section
variable {P:Program} {w:World} {H:Hp} {h:Heap} {a C dx:Addr} {fs:List (Str×Str)}
theorem aDt (x:XO0 a C h):gR P w H h a (.ext (XO0 a C)):=⟨x,let ⟨_,e⟩:=x;⟨_,e⟩,fun _ _ y k=>y.stay k⟩
theorem aJs (x:XO1 a C dx h):gR P w H h a (.ext (XO1 a C dx)):=⟨x,let ⟨_,e⟩:=x;⟨_,e⟩,fun _ _ y k=>y.stay k⟩
theorem aJt {dx:Option Addr} (x:XO a C dx h):gR P w H h a (.ext (XO a C dx)):=⟨x,let ⟨o,e,_⟩:=x;⟨o,e⟩,fun _ _ y k=>y.stay k⟩
theorem aJu (x:XD dx fs h):gR P w H h dx (.ext (XD dx fs)):=⟨x,let ⟨_,⟨o,_,_,e,_⟩,_⟩:=x;⟨o,e⟩,fun _ _ y k=>y.stay k⟩
end
noncomputable def CX2 (P:Program) (w:World):CXT:=fun outer H s E e s'=>∃(a C:Addr) (dd:Option Addr) (H1:Hp) (B:Heap),e=.ref a/\s'.os=s.os/\AllBare s'.gens/\FD B outer a (.ref C) dd .none s'.heap/\
 (∀h6:Heap,B.StaysIn h6->s'.heap.UpToSlots h6->Un (L2.frs outer) [] H H1 s.heap h6/\HOk P w H1 h6)/\H1 a=none/\s.heap.get? a=none/\E (.ref C) dd H1
def hid (H:Hp) (a:Addr):Hp:=fun b=>if b=a then none else H b
theorem x_ {H:Hp} {a b:Addr} (h:b≠a):hid H a b=H b:=if_neg h
theorem RV {H:Hp} {a:Addr}:hid H a a=none:=if_pos rfl
section
variable {P:Program} {w:World} {K:PySem.W.Frag} {mg:Str->Option Value} {base:Heap} {N:List Str} {qual:Str} {scope:Scope} {f C:Addr} {cd:Value} {A:Around} {outer:List Env} {s:Shared} {H:Hp} {E:XK}
theorem ZW {pins:List (Addr×Obj)} {σ:L2.St} {H1:Hp} {s1:Shared} {a dx:Addr} (I:Inv (lY (CX2 P w) P w K mg base N qual scope f cd A outer s H E) pins σ H1 s1) (ea:H1 a=some (.ext (XO1 a C dx))) (hg:s.heap.get? a=none) (hE:E (.ref C) (some dx) (hid H1 a)) :
  (lY (CX2 P w) P w K mg base N qual scope f cd A outer s H E).xe (.ref a) s1:=by
 let env:=envOfC qual scope s.heap.objs.size f cd
 have hfr:L2.frs (env::outer)=s.heap.objs.size::L2.frs outer:=by
  unfold L2.frs;rw [List.filterMap_cons];rfl
 have hin:∀v∈(env::outer),∀b,v.frame=some b->b∈a::L2.frs (env::outer):=fun v hv b hb=>List.mem_cons_of_mem _ (List.mem_filterMap.mpr ⟨v,hv,hb⟩)
 have stk:s1.heap.FunFrames base (env::outer):=I.stack;have sfree:∀b∈L2.frs (env::outer),H1 b=none:=I.MK;have u0:Un (L2.frs outer) [] H H1 s.heap s1.heap:=I.base;obtain ⟨⟨t,ht⟩,_⟩:=I.hok a _ ea;show wpAny (model P w) (A.deeper env) (leaving env (.ref a)) (fun _ s''=>CX2 P w outer H s E (.ref a) s'') (fun e' s''=>CX2 P w outer H s E e' s'') s1;refine aC1 (B:=PySem.W.hideAll s1.heap (a::L2.frs (env::outer))) (L:=s.heap.objs.size) I.ok.frames rfl (PySem.W.funFrames_hide stk hin) ht (fun b o q=>PySem.W.of_hideAll _ q) (PySem.W.hideAll_none _ (by simp)) rfl rfl fun h' x1 x4=>?_
 refine ⟨a,C,some dx,hid H1 a,_,rfl,I.os,I.bare,x1,fun h6 st up=>?_,RV,hg,hE⟩;have na:∀b o,s.heap.get? b=some o->b≠a:=fun b o e z=>by rw [z,hg] at e;cases e
 have k:∀b o,s1.heap.get? b=some o->b≠a->b∉L2.frs (env::outer)->h6.get? b=some o:=fun b o eb h1 hb=>st b o (PySem.W.hideAll_get _ eb (by simp only [List.mem_cons,not_or];exact ⟨h1,hb⟩))
 have up6:s1.heap.UpToSlots h6:=x4.trans up;have nL:∀b o,s.heap.get? b=some o->b∉L2.frs outer->b∉L2.frs (env::outer):=fun b o eb hb z=>by
  rw [hfr] at z;rcases List.mem_cons.mp z with z|z
  ·exact absurd (Heap.lt_size eb) (by rw [z];exact Nat.lt_irrefl _)
  ·exact hb z
 have slot:∀b o,s1.heap.get? b=some o->b∈L2.frs outer->∃sl,h6.get? b=some {o with slots:=sl}:=fun b o eb hb=>by
  obtain ⟨_,o',ho',hd⟩:=stk.mem (show b∈L2.frs (env::outer) by rw [hfr];exact List.mem_cons_of_mem _ hb);rw [eb] at ho';cases ho';exact up6 b o eb hd
 have nt:∀b u,H1 b=some u->(∀φ,u≠.ext φ)->b≠a:=fun b u e1 e2 z=>by rw [z,ea] at e1;cases e1;exact e2 _ rfl
 refine ⟨⟨fun b o eb hn hb hx'=>k b o (u0.keep b o eb hn hb hx') (na b o eb) (nL b o eb hb),fun b o eb hn hb hx'=>?_,fun b o eb hn hx'=>?_,fun b o eb hx'=>?_,fun b xs q=>?_,fun b o u q=>?_,fun b ps q=>?_⟩,fun b u eb=>?_⟩
 ·obtain ⟨sl,e1⟩:=u0.slot b o eb hn hb hx';obtain ⟨sl',e2⟩:=slot b _ e1 hb;exact ⟨sl',e2⟩
 ·rw [x_ (na b o eb)];exact u0.free b o eb hn hx'
 ·obtain ⟨o',e1⟩:=u0.there b o eb hx';by_cases hb:b∈L2.frs outer
  ·obtain ⟨sl,e2⟩:=slot b o' e1 hb;exact ⟨_,e2⟩
  ·exact ⟨o',k b o' e1 (na b o eb) (nL b o eb hb)⟩
 ·have e1:=u0.tups b xs q;rw [x_ (nt b _ e1 fun φ z=>by cases z)];exact e1
 ·have e1:=u0.frzs b o u q;rw [x_ (nt b _ e1 fun φ z=>by cases z)];exact e1
 ·obtain ⟨m1,e1⟩:=u0.tbls b ps q;exact ⟨m1,by rw [x_ (nt b _ e1 fun φ z=>by cases z)];exact e1⟩
 ·have hb:b≠a:=fun z=>by rw [z,RV] at eb;cases eb
  rw [x_ hb] at eb;refine (I.hok b u eb).stay (fun c v hc q=>k c v q (fun z=>?_) fun z=>?_) (fun c q=>?_) fun c xs q=>?_
  ·rcases hc with hc|hc
   ·exact hb (hc▸z)
   ·rw [z,ea] at hc;cases hc
  ·have:=sfree c z;rcases hc with hc|hc
   ·rw [hc,eb] at this;cases this
   ·rw [hc] at this;cases this
  ·rw [x_ (nt c _ q fun φ z=>by cases z)];exact q
  ·rw [x_ (nt c _ q fun φ z=>by cases z)];exact q
theorem U8:QC (CX2 P w) (lY (CX2 P w) P w K mg base N qual scope f cd A outer s H E) E:=by
 intro pins σ Hm sm e s' I hx;obtain ⟨a,C,dd,H1,B,rfl,os',bare',fly,clo,hn,hgone,hE⟩:=hx
 let env:=envOfC qual scope s.heap.objs.size f cd
 have hfr:L2.frs (env::outer)=s.heap.objs.size::L2.frs outer:=by
  unfold L2.frs;rw [List.filterMap_cons];rfl
 have u0:Un (L2.frs outer) [] H Hm s.heap sm.heap:=I.base;show wpAny (model P w) (A.deeper env) (leaving env (.ref a)) (fun _ s''=>CX2 P w outer H s E (.ref a) s'') (fun e' s''=>CX2 P w outer H s E e' s'') s';refine aC0 (L:=s.heap.objs.size) I.ok.frames rfl fly fun h' x1 x4=>?_
 have hgone0:s.heap.get? a=none:=by
  cases q:s.heap.get? a with
  | none=>rfl
  | some o=>
   obtain ⟨o',e1⟩:=u0.there a o q (by simp);rw [hgone] at e1;cases e1
 refine ⟨a,C,dd,H1,B,rfl,os'.trans I.os,bare',x1,fun h6 st up=>?_,hn,hgone0,hE⟩;obtain ⟨u2,hok⟩:=clo h6 st (x4.trans up);have nL:∀b o,s.heap.get? b=some o->b∉L2.frs outer->b∉L2.frs (env::outer):=fun b o eb hb z=>by
  rw [hfr] at z;rcases List.mem_cons.mp z with z|z
  ·exact absurd (Heap.lt_size eb) (by rw [z];exact Nat.lt_irrefl _)
  ·exact hb z
 refine ⟨⟨fun b o eb hn hb hx'=>u2.keep b o (u0.keep b o eb hn hb hx') (u0.free b o eb hn hx') (nL b o eb hb) (by simp),fun b o eb hn hb hx'=>?_,fun b o eb hn hx'=>?_,fun b o eb hx'=>?_,fun b xs q=>u2.tups b xs (u0.tups b xs q),fun b o u q=>u2.frzs b o u (u0.frzs b o u q),fun b ps q=>?_⟩,hok⟩
 ·obtain ⟨sl,e1⟩:=u0.slot b o eb hn hb hx';obtain ⟨sl',e2⟩:=u2.slot b _ e1 (u0.free b o eb hn hx') (show b∈L2.frs (env::outer) by rw [hfr];exact List.mem_cons_of_mem _ hb) (by simp);exact ⟨sl',e2⟩
 ·obtain ⟨o',e1⟩:=u0.there b o eb hx';exact u2.free b o' e1 (u0.free b o eb hn hx') (by simp)
 ·obtain ⟨o',e1⟩:=u0.there b o eb hx';exact u2.there b o' e1 (by simp)
 ·obtain ⟨m1,q1⟩:=u0.tbls b ps q;obtain ⟨m2,q2⟩:=u2.tbls b _ q1;exact ⟨m1++m2,by rw [<-Array.append_assoc];exact q2⟩
end
structure XI (K:Frag) (C f:Addr):Prop where
 cl:exC K C=true
 init:findIn K (.ref C) "__init__" = some (some (.ref f))
 fn:isFn K (.ref f)=true
 kp:keepIn K (.ref C)=true
 sa:findIn K (.ref C) "__setattr__" = some (some (.builtin "object.__setattr__"))
 ob:mroIn K C (.type "object")=some true
noncomputable def lU (C:Addr) (fl:List Str):Sp:=fun vs H Q _=>∃(e:Addr) (ts:List Str),vs=.ref e::ts.map V.str/\ts.length=fl.length/\H e=some (.ext (XO0 e C))/\∀dx,H dx=none->Q .non (upd (upd H dx (.ext (XD dx (fl.zip ts)))) e (.ext (XO1 e C dx)))
theorem aJv {H:Hp} {a:Addr} {o:HO} (e:H a=some o):upd H a o=H:=by
 funext b
 unfold upd;split
 ·rename_i z;rw [z,e]
 ·rfl
theorem aJw {H:Hp} {a:Addr} {o o':HO}:upd (upd H a o) a o'=upd H a o':=by
 funext b
 unfold upd;split <;> rfl
section
variable {X:Cx} {C f:Addr} {fl:List Str} {k:Nat} {fd:FuncData} {ps:List Str} {pins:List (Addr×Obj)} {σ:L2.St} {H:Hp} {s:Shared} {us:List Value} {ts:List Str}
theorem aGb {Q:Value->Shared->Prop} (M:XI X.K C f) (F:o7 X.prog X.w X.K X.mg X.base CX0 k f fd ps (lU C fl)) (hr:jX (k+1) X.A) (hb:Binds X.K fd ps []) (I:Inv X pins σ H s) (r:Vals (ts.map V.str) us) (hl:ts.length=fl.length) (hz:us.length<=sizeLine) (hex:X.ex=[])
  (h:∀a dx s2,X.s₀.heap.get? a=none->H a=none->H dx=none->dx≠a->Inv X pins σ (upd (upd H dx (.ext (XD dx (fl.zip ts)))) a (.ext (XO1 a C dx))) s2->Q (.ref a) s2) :
  wpAny (model X.prog X.w) X.A (call (.ref C) us) Q X.xe s:=by
 obtain ⟨hh,g,d,t,os⟩:=s;have I:Inv X pins σ H ⟨hh,g,d,t,os⟩:=I;generalize hot:({cls:=.type "tuple",data:=.seq us.toArray}:Obj)=ot;generalize hoe:({cls:=.ref C,data:=.fields #[.ref hh.objs.size,.none,.none,.none,.bool false,.none]}:Obj)=oe;have fa:H (hh.objs.size+1)=none:=I.hok.fresh (Nat.le_succ _);have I1:Inv X pins σ H ⟨hh.push ot,g,d,t,os⟩:=I.kept (t':=t) fun b u q=>Heap.get?_push_of_some _ q
 have ge:((hh.push ot).push oe).get? (hh.objs.size+1)=some oe:=Heap.get?_push_at (by rw [Heap.size_push]) (by rw [<-hoe];rfl);have I2:Inv X pins σ (upd H (hh.objs.size+1) (.ext (XO0 (hh.objs.size+1) C))) ⟨(hh.push ot).push oe,g,d,t,os⟩:=
  I1.laid (a:=hh.objs.size+1) (t':=t) (fun b u q=>Heap.get?_push_of_some _ q) (Nat.le_of_eq (Heap.size_push _ _)) (aDt ⟨hh.objs.size,by rw [ge,hoe]⟩)
 have ng:X.s₀.heap.get? (hh.objs.size+1)=none:=by
  cases z:X.s₀.heap.get? (hh.objs.size+1) with
  | none=>rfl
  | some o=>
   obtain ⟨o',e1⟩:=I.base.there _ o z (by rw [hex];simp);exact absurd (Heap.lt_size e1) (by show ¬hh.objs.size+1<hh.objs.size;lia)
 have r2:Vals (V.ref (hh.objs.size+1)::ts.map V.str) (Value.ref (hh.objs.size+1)::us):=.cons rfl r;have sp:lU C fl (V.ref (hh.objs.size+1)::ts.map V.str) (upd H (hh.objs.size+1) (.ext (XO0 (hh.objs.size+1) C))) (fun v H'=>v=.non/\∃dx,H dx=none/\dx≠hh.objs.size+1/\H'=upd (upd H dx (.ext (XD dx (fl.zip ts)))) (hh.objs.size+1) (.ext (XO1 (hh.objs.size+1) C dx))) (fun _ _ _=>False):=
  ⟨_,ts,rfl,hl,aL,fun dx hd=>⟨rfl,dx,by
   have ne:dx≠hh.objs.size+1:=fun z=>by rw [z,aL] at hd;cases hd
   rw [bB ne] at hd;refine ⟨hd,ne,?_⟩
   funext b
   unfold upd;split
   ·rfl
   ·rfl⟩⟩
 have hln:(Value.ref (hh.objs.size+1)::us++[]).length=ps.length:=by
  rw [List.append_nil];have e:=r2.length;rw [F.len _ _ _ _ sp] at e;exact e.symm
 have hb':=hb ⟨(hh.push ot).push oe,g,d,t,os⟩ (Value.ref (hh.objs.size+1)::us) I2.kIn hln;rw [List.append_nil] at hb';refine call_exc I.kIn M.cl M.init (beq_iff_eq.mp M.fn) hz ?_;rw [hot,hoe];refine wpAny_call (codeAny_mono (F.run _ X.stack _ _ ⟨Value.ref (hh.objs.size+1)::us,[]⟩ (Value.ref (hh.objs.size+1)::us) _ _ _ (hr.make C us []) (I2.env0.make C us []) hb' r2 sp) fun r s' hq=>?_);cases r with
 | error e=>exact hq.elim
 | ok fl=>
  cases fl with
  | ret u=>
   obtain ⟨v,H',I3,rv,ev,dx,e1,e2,e3⟩:=I2.after hq;subst ev e3;exact ⟨rv,h _ dx s' ng fa e1 e2 I3⟩
  | next=>exact False.elim hq
  | brk=>exact False.elim hq
  | cont=>exact False.elim hq
end
noncomputable def tBase (C:Addr) (t:TA):TE:=fun σ H Q=>t σ H fun vs H1=>∃a vs',vs=.ref a::vs'/\vs'.length<=sizeLine/\H1 a=some (.ext (XO0 a C))/\Q .non H1
theorem DN {X:Cx} {M C:Addr} {x:Str} {np ap cp:Pos} {e:Expr} {es:List Expr} {t:TA} (q:exC X.K C=true) (hg:Gl X x) (hm:X.mg x=some (.ref M)) (hga:specialIn X.K (.ref M) "__getattribute__" = some (some (.builtin "type.__getattribute__"))) (hr:readsIn X.K M (.type "type")=true)
  (hf:findCls X.K (.ref M) (.type "type") "__init__" = some (.val (.builtin "ValueError.__init__"))) (ha:PA X (e::es) t) (hdb:nDb x:=by decide) (he:starEach (e::es) X.env=(false,eval e X.env)::starEach es X.env:=by rfl) (hpl:(backTo cp (starEach es X.env)).any (·.1)=false:=by rfl)
  {pl:Sem Bool} (ht:eval (.Call (.Attribute (.Name x np) "__init__" ap) (e::es) [] cp) X.env=(do
   let ov <- eval (.Name x np) X.env
   standAt ap.atName
   let (f,first) <- holding [ov] (getMethod ov "__init__" pl)
   callWith cp f first (backTo cp (starEach (e::es) X.env)) (backToKw cp (keywordEach [] X.env))):=by rfl):PE X (.Call (.Attribute (.Name x np) "__init__" ap) (e::es) [] cp) (tBase C t):=by
 intro pins s σ H Q I h;refine methodCall_KW (pl:=pl) (o8 I hg hm ?_ hdb) ht;refine method_cls I.kIn hga (cls_value I.kIn hr hf rfl ?_);refine PyProof.Rows.callWith_builtin1 (thn (ha cp pins _ σ H _ (I.tok _) h) fun us s1 ⟨vs,H1,I1,r1,a,vs',ev,hz,ea,q1⟩=>?_) he hpl;subst ev;obtain ⟨us,rfl,r5⟩:∃us2,us=Value.ref a::us2/\Vals vs' us2:=by
  cases r1 with
  | cons r0 r1=>cases r0;exact ⟨_,rfl,r1⟩
 obtain ⟨⟨t0,ht0⟩,_⟩:=I1.hok a _ ea;obtain ⟨hh,g,d,t,os⟩:=s1;refine ZV (us:=us) I1.kIn q ht0 rfl rfl ?_ (by rw [<-r5.length];exact hz);generalize hot:({cls:=.type "tuple",data:=.seq us.toArray}:Obj)=ot;have I2:Inv X pins σ H1 ⟨hh.push ot,g,d,t,os⟩:=I1.kept (t':=t) fun b u q=>Heap.get?_push_of_some _ q
 have e2:(hh.push ot).get? a=some _:=Heap.get?_push_of_some _ ht0;obtain ⟨h3,r3,k3,o3,g3,c3,d3,f3⟩:=DK 0 (.ref hh.objs.size) e2 rfl;rw [<-r3];have g4:h3.get? a=some {cls:=.ref C,data:=.fields #[.ref hh.objs.size,.none,.none,.none,.bool false,.none]}:=by
  rw [r3];exact Heap.get?_update_self _ e2 rfl
 have I3:Inv X pins σ (upd H1 a (.ext (XO0 a C))) ⟨h3,g,d,t,os⟩:=I2.write (x:=a) (e:=a) (t':=t) (by rw [ea];exact True.intro) (.inl rfl) (fun b u hb z=>(k3 b hb).trans z) ⟨_,g4⟩ (aDt ⟨_,g4⟩);rw [aJv ea] at I3;exact ⟨.non,H1,I3,rfl,q1⟩
noncomputable def aGc (C:Addr) (f:Str) (ta tv:TE):TS:=fun D σ H=>tv σ H fun y H1=>ta σ H1 fun x H2=>∃(a:Addr) (t:Str),x=.ref a/\y=.str t/\H2 a=some (.ext (XO0 a C))/\∀dx,H2 dx=none->D.nx σ (upd (upd H2 dx (.ext (XD dx [(f,t)]))) a (.ext (XO1 a C dx)))
theorem DP {X:Cx} {C fi:Addr} {f:Str} {o value:Expr} {pos' pos:Pos} {ta tv:TE} (M:XI X.K C fi) (hn:findIn X.K (.ref C) f=some none) (ha:PE X o ta) (hv:PE X value tv) (hs:swapsWith value (some (.Attribute o f pos')) pos.line X.env=pure false:=by rfl):PS X (.Assign [.Attribute o f pos'] value pos) (aGc C f ta tv):=by
 intro pins s σ H D I h;refine plainObj_wpAny_Assign_Attribute (thn (hv pins s σ H _ I h) fun u s1 ⟨y,H1,I1,ry,q⟩=>thn (ha pins s1 σ H1 _ I1 q) fun ov s2 ⟨x,H2,I2,rx,a,t,ex,ey,ea,q2⟩=>?_) hs;subst ex ey;obtain rfl:ov=Value.ref a:=rx;obtain ⟨tk,rfl⟩:∃tk,u=Value.str t tk:=ry;obtain ⟨⟨t0,ht0⟩,_⟩:=I2.hok a _ ea;obtain ⟨hh,g,d,tt,os⟩:=s2;refine aGa I2.kIn M.cl M.sa hn M.ob ht0 rfl rfl rfl fun h' tk' n1 g1 k1=>?_
 have ne:hh.objs.size≠a:=Nat.ne_of_gt (Heap.lt_size ht0);have fr:H2 hh.objs.size=none:=I2.hok.fresh (Nat.le_refl _);have hn1:upd H2 a (.ext (XO1 a C hh.objs.size)) hh.objs.size=none:=by rw [bB ne];exact fr
 have hg1:hh.get? hh.objs.size=none:=Heap.get?_none_of_le (Nat.le_refl _);have mu:L2.Mut (H2 a):=by rw [ea];exact True.intro
 have xd:XD hh.objs.size [(f,t)] h':=by
  refine ⟨_,n1,fun g hg=>?_,fun g=>?_⟩
  ·by_cases z:g=f
   ·simp [z]
   ·simp [z] at hg
  ·by_cases z:g=f
   ·subst z;rw [List.lookup_cons_self];exact ⟨tk,if_pos rfl⟩
   ·rw [List.lookup_cons,beq_eq_false_iff_ne.mpr z];exact if_neg z
 have I3:Inv X pins σ (upd (upd H2 a (.ext (XO1 a C hh.objs.size))) hh.objs.size (.ext (XD hh.objs.size [(f,t)]))) ⟨h',g,d,tk',os⟩:=
  I2.un (t':=tk') (aDi (Un.write mu (.inl rfl) (fun b u hb z=>k1 b u hb z) ⟨_,g1⟩) hg1 hn1) (YS (I2.hok.write mu (.inl rfl) (fun b u hb z=>k1 b u hb z) ⟨_,g1⟩ (aJs ⟨t0,g1⟩)) hn1 (aJu xd))
 have e:upd (upd H2 a (.ext (XO1 a C hh.objs.size))) hh.objs.size (.ext (XD hh.objs.size [(f,t)]))=upd (upd H2 hh.objs.size (.ext (XD hh.objs.size [(f,t)]))) a (.ext (XO1 a C hh.objs.size)):=by
  funext b
  unfold upd;by_cases h1:b=a
  ·have h2:b≠hh.objs.size:=fun z=>ne (z.symm.trans h1)
   rw [if_neg h2,if_pos h1,if_pos h1]
  ·rw [if_neg h1,if_neg h1]
 rw [e] at I3;exact ⟨σ,_,I3,q2 hh.objs.size fr⟩
end Mi
end
section
namespace Mi
open PySem L2 PySem.W PySem.SeqAt PySem.Spec PyProof.Rows
noncomputable def noE {α:Type} (f:List D->Res α):List D->Res α:=fun ρ=>match f ρ with|.ok a=>.ok a|_=>.bad
theorem bR {α:Type} {f:List D->Res α} {ρ:List D} {a:α} (h:f ρ=.ok a):noE f ρ=.ok a:=by unfold noE;rw [h]
theorem yC {α:Type} {f:List D->Res α} {ρ:List D}:(∃a,f ρ=.ok a/\noE f ρ=.ok a)\/noE f ρ=.bad:=by
 unfold noE;cases f ρ with
 | ok a=>exact .inl ⟨a,rfl,rfl⟩
 | err c as=>exact .inr rfl
 | bad=>exact .inr rfl
def noT (t:D->List D->Res (List D)):D->List D->Res (List D):=fun x=>noE (t x)
noncomputable def U9:List D->Option (List Str)
 | []=>some []
 | .str t::r=>(U9 r).map (t::·)
 | _=>none
noncomputable def cL (c:Str) (fl:List Str) (fa:FA):FS:=fun ρ=>do
 let ds <- fa ρ
 match U9 ds with
 | some ts=>if ts.length=fl.length then .err c [.exc c (fl.zip ts)] else .bad
 | none=>.bad
variable [KFrag]
theorem DQ {P:Addr->Prop} {H:Hp}:∀{ds:List D} {ts:List Str} {vs:List V},U9 ds=some ts->bQ P H vs ds->vs=ts.map V.str
 | [],_,_,h,.nil=>by cases h;rfl
 | d::r,ts,_,h,.cons r1 t=>by
  cases d with
  | str x=>
   unfold U9 at h;obtain ⟨ts',h1,rfl⟩:=Option.map_eq_some_iff.mp h;cases r1;rw [DQ h1 t];rfl
  | _=>cases h
noncomputable def aC2 (own:Nat->Bool) (E:XK) (σ:L2.St) (H:Hp) (c:Str) (as:List D):Prop:=∃fs C,as=[.exc c fs]/\nsIn KFrag.K mainGlobals c=some (some (.ref C))/\∀σ' H' dx,KU own σ H σ' H'->XDs H' fs dx->E (.ref C) dx H'
noncomputable def kZ (own:Nat->Bool) (E:XK) (D:Ends) (σ:L2.St) (H:Hp):Res Fl->Prop
 | .ok fl=>kS own D σ H fl
 | .err c as=>aC2 own E σ H c as
 | .bad=>False
noncomputable def tZ (own:Nat->Bool) (E:XK) (f:FS):TS:=fun D σ H=>∃ρ,ES own H σ ρ/\kZ own E D σ H (f ρ)
noncomputable def aJx (E:XK) (H:Hp) (c:Str) (as:List D):Prop:=∃fs C,as=[.exc c fs]/\nsIn KFrag.K mainGlobals c=some (some (.ref C))/\∀H' dx,b_ H H'->XDs H' fs dx->E (.ref C) dx H'
noncomputable def kZE (E:XK) (H:Hp) (Q:VK):Res D->Prop
 | .ok d=>kR H d true Q
 | .err c as=>aJx E H c as
 | .bad=>False
def gZ (E:XK) (f:FE):TE:=fun σ H Q=>∃ρ,ER H σ ρ/\kZE E H Q (f ρ)
noncomputable def spZ (f:List D->Res D) (n:Nat):Sp:=fun vs H Q E=>∃ds,ds.length=n/\bQ All H vs ds/\kZE E H Q (f ds)
noncomputable def lX (P:Program) (w:World) (K:PySem.W.Frag) (mg:Str->Option Value) (base:Heap) (k:Nat) (x:Str) (n:Nat) (f:List D->Res D):Prop:=
 ∃(fad:Addr) (fd:FuncData) (ps:List Str),o7 P w K mg base (CX2 P w) k fad fd ps (spZ f n)/\mg x=some (.ref fad)/\PySem.W.keepIn K (.ref fad)=true/\Binds K fd ps []
theorem lX.cal {P:Program} {w:World} {K:PySem.W.Frag} {mg:Str->Option Value} {base:Heap} {k:Nat} {x:Str} {n:Nat} {f:List D->Res D} (Z:lX P w K mg base k x n f):oR P w K mg base k x n f:=by
 obtain ⟨fad,fd,ps,F,hm,hk,hb⟩:=Z;have go:∀{vs H Q E},spD f n vs H Q E->spZ f n vs H Q (fun _ _ _=>False):=fun ⟨ds,d,h1,r,h,q⟩=>⟨ds,h1,r,by rw [h];exact q⟩
 refine ⟨fad,fd,ps,⟨fun vs H Q E h=>F.len vs H Q _ (go h),fun A outer s H args us vs Q E hr he hb hv h=>codeAny_mono (F.run A outer s H args us vs Q _ hr he hb hv (go h)) fun r s' hq=>?_⟩,hm,hk,hb⟩;cases r with
 | ok fl=>cases fl <;> exact hq
 | error e=>
  obtain ⟨_,_,_,_,_,_,_,_,_,_,_,_,z⟩:=hq;exact z.elim
section
variable {own:Nat->Bool} {E:XK} {D':Ends} {σ σ':L2.St} {H H':Hp}
theorem aC2.step {c:Str} {as:List D} (k:KU own σ H σ' H') (h:aC2 own E σ H c as):aC2 own E σ' H' c as:=let ⟨fs,C,h1,h2,h3⟩:=h;⟨fs,C,h1,h2,fun σ2 H2 dx k2 x=>h3 σ2 H2 dx (k.trans k2) x⟩
theorem kZ.step {r:Res Fl} (k:KU own σ H σ' H') (h:kZ own E D' σ H r):kZ own E D' σ' H' r:=by
 cases r with
 | ok fl=>exact kS.step k h
 | err c as=>exact aC2.step k h
 | bad=>exact h
theorem aC2.expr {c:Str} {as:List D} (h:aC2 own E σ H c as):aJx E H c as:=let ⟨fs,C,h1,h2,h3⟩:=h;⟨fs,C,h1,h2,fun H' dx sm x=>h3 σ H' dx (.same sm) x⟩
end
section
variable {own:Nat->Bool} {E:XK} {X:Cx} {st:Stmt} {rest s1 s2:List Stmt} {f g:FS} {c e:Expr} {gc:FT} {pos pos':Pos} {fe:FE}
theorem fY (h:PS X.nox st (tS own f)):PS X st (tZ own E (noE f)):=PS.imp (PS.nox h) fun D σ H ⟨ρ,es,k⟩=>by
 rcases yC (f:=f) (ρ:=ρ) with ⟨fl,h1,h2⟩|h2
 ·rw [h2] at k;exact ⟨ρ,fl,es,h1,k⟩
 ·rw [h2] at k;exact k.elim
theorem yW:PSs X [] (tZ own E iQ):=PSs.imp (dX (own:=own)) fun D σ H ⟨ρ,es,k⟩=>⟨ρ,_,es,rfl,k⟩
theorem iW (h:PS X st (tZ own E f)):PSs X [st] (tZ own E f):=mF h
theorem cU (h1:PS X st (tZ own E f)) (h2:PSs X rest (tZ own E g)):PSs X (st::rest) (tZ own E (aW f g)):=PSs.imp (jK h1 h2) fun D σ H ⟨ρ,es,k⟩=>by
 refine ⟨ρ,es,?_⟩;cases hf:f ρ with
 | ok r=>
  cases r with
  | nx ρ'=>
   have e:aW f g ρ=g ρ':=by unfold aW;rw [hf];rfl
   rw [e] at k;exact fun σ' H' ku E'=>⟨ρ',E',k.step ku⟩
  | bk ρ'=>
   have e:aW f g ρ=.ok (.bk ρ'):=by unfold aW;rw [hf];rfl
   rw [e] at k;exact k
  | ct ρ'=>
   have e:aW f g ρ=.ok (.ct ρ'):=by unfold aW;rw [hf];rfl
   rw [e] at k;exact k
  | rt d=>
   have e:aW f g ρ=.ok (.rt d):=by unfold aW;rw [hf];rfl
   rw [e] at k;exact k
 | err c as=>
  have e:aW f g ρ=.err c as:=by unfold aW;rw [hf];rfl
  rw [e] at k;exact k
 | bad=>
  have e:aW f g ρ=.bad:=by unfold aW;rw [hf];rfl
  rw [e] at k;exact k
theorem aC3 (hc:PT X c (gT gc)) (ha:PSs X s1 (tZ own E f)) (hb:PSs X s2 (tZ own E g)):PS X (.If c s1 s2 pos) (tZ own E (sIf (noE gc) f g)):=PS.imp (aAv hc ha hb) fun D σ H ⟨ρ,es,k⟩=>by
 rcases yC (f:=gc) (ρ:=ρ) with ⟨b,h1,h2⟩|h2
 ·have e:sIf (noE gc) f g ρ=if b then f ρ else g ρ:=by unfold sIf;rw [h2];rfl
  rw [e] at k;refine ⟨ρ,b,es.er,h1,fun H' sm=>?_⟩;cases b with
  | true=>rw [if_pos rfl];rw [if_pos rfl] at k;exact ⟨ρ,es.same sm,k.step (.same sm)⟩
  | false=>rw [if_neg (by simp)];rw [if_neg (by simp)] at k;exact ⟨ρ,es.same sm,k.step (.same sm)⟩
 ·have e:sIf (noE gc) f g ρ=.bad:=by unfold sIf;rw [h2];rfl
  rw [e] at k;exact k.elim
theorem aMe {xc:FXT} (hc:PT X c (gXT own xc)) (ha:PSs X s1 (tZ own E f)) (hb:PSs X s2 (tZ own E g)):PS X (.If c s1 s2 pos) (tZ own E (aBu (noE xc) f g)):=PS.imp (aAv hc ha hb) fun D σ H ⟨ρ,es,k⟩=>by
 rcases yC (f:=xc) (ρ:=ρ) with ⟨⟨b,ρ1⟩,h1,h2⟩|h2
 ·have e:aBu (noE xc) f g ρ=if b then f ρ1 else g ρ1:=by unfold aBu;rw [h2];rfl
  rw [e] at k;refine ⟨ρ,b,ρ1,es,h1,fun H' ku E1 ns=>?_⟩;cases b with
  | true=>rw [if_pos rfl];rw [if_pos rfl] at k;exact ⟨ρ1,E1,k.step ku⟩
  | false=>rw [if_neg (by simp)];rw [if_neg (by simp)] at k;exact ⟨ρ1,E1,k.step ku⟩
 ·have e:aBu (noE xc) f g ρ=.bad:=by unfold aBu;rw [h2];rfl
  rw [e] at k;exact k.elim
theorem aMf {i:Nat} {x:Str} {o:Bool} (ho:own i=o) (hN:X.N.Nodup) (hi:X.N[i]?=some x) (hx:Loc X.env.scope x) (he:PE X e (gZ E fe)) (hs:swapsWith e (some (.Name x pos')) pos.line X.env=pure false:=by rfl) (hf:X.fn x=true\/X.env.scope.names.lookup x=some .local:=by first|exact .inl rfl|exact .inr rfl|assumption) :
  PS X (.Assign [.Name x pos'] e pos) (tZ own E (bV o i fe true)):=PS.imp (G7 hN hi hx he hs hf) fun D σ H ⟨ρ,es,k⟩=>by
 refine ⟨ρ,es.er,?_⟩;cases hfe:fe ρ with
 | ok d=>
  have e:bV o i fe true ρ=bV o i (fun _=>.ok d) true ρ:=by unfold bV;rw [hfe]
  rw [e] at k;cases hs2:bV o i (fun _=>.ok d) true ρ with
  | ok fl=>
   rw [hs2] at k;obtain ⟨ρ',d',_,h1,q⟩:=CG (own:=own) (fe:=fun _=>.ok d) (re:=true) (D':=D) (σ:=σ) (H:=H) ho ⟨ρ,fl,es,hs2,k⟩;cases h1;exact q
  | err c as=>
   exfalso;unfold bV at hs2;rw [Res.aN] at hs2;generalize (if o=true then true&&inner d else true||d.pure)=b at hs2;cases b <;> cases hs2
  | bad=>rw [hs2] at k;exact k.elim
 | err c as=>
  have e:bV o i fe true ρ=.err c as:=by unfold bV;rw [hfe];rfl
  rw [e] at k;exact aC2.expr k
 | bad=>
  have e:bV o i fe true ρ=.bad:=by unfold bV;rw [hfe];rfl
  rw [e] at k;exact k.elim
theorem J3 (he:PE X e (gZ E fe)) (hs:swapsWith e none pos.line X.env=pure false:=by rfl):PS X (.Expr e pos) (tZ own E (jD fe)):=PS.imp (mG he hs) fun D σ H ⟨ρ,es,k⟩=>by
 refine ⟨ρ,es.er,?_⟩;cases hfe:fe ρ with
 | ok d=>
  have e:jD fe ρ=.ok (.nx ρ):=by unfold jD;rw [hfe];rfl
  rw [e] at k;exact fun v H' s r n=>k σ H' (.same s) (es.same s)
 | err c as=>
  have e:jD fe ρ=.err c as:=by unfold jD;rw [hfe];rfl
  rw [e] at k;exact aC2.expr k
 | bad=>
  have e:jD fe ρ=.bad:=by unfold jD;rw [hfe];rfl
  rw [e] at k;exact k.elim
end
section
variable {own:Nat->Bool} {E:XK}
theorem J4 {K:PySem.W.Frag} {g:TG} {t:D->List D->Res (List D)} {body:FS} {D':Ends} {J:It} {items:List D} {σ:L2.St} {H1:Hp} {ρ:List D} {rr:Res Fl} (tg:TgS own g t) (es:ES own H1 σ ρ) (hJ:ItQ K (fun a=>¬Own own σ a) J H1 items) (hf:gQ (noT t) body items ρ=rr) (q:kZ own E D' σ H1 rr) :
  ∃W:Nat->Nat->L2.St->Hp->Prop,(∃m,W 0 m σ H1)/\∀i m σ H,W i m σ H->
   (J.stop i H/\D'.nx σ H)\/(J.go i H/\∃N:L2.St->Hp->Prop,(∀σ' H',N σ' H'->∃m',m'<m/\W (i+1) m' σ' H')/\∀x H',J.yld i H x H'->g x σ H' fun σ2 H2=>tZ own E body {D' with nx:=N,ct:=N,bk:=D'.nx} σ2 H2):=by
 refine ⟨fun i m σ' H'=>m=items.length-i/\i<=items.length/\ItQ K (fun a=>¬Own own σ' a) J H' items/\∃ρ',ES own H' σ' ρ'/\gQ (noT t) body (items.drop i) ρ'=rr/\kZ own E D' σ' H' rr,⟨items.length,rfl,Nat.zero_le _,hJ,ρ,es,hf,q⟩,?_⟩;rintro i m σ' H' ⟨rfl,hi,hJ',ρ',E',hf',q'⟩;rcases Nat.lt_or_ge i items.length with hlt|hge
 ·refine .inr ?_;have e:items[i]?=some items[i]:=List.getElem?_eq_getElem hlt;obtain ⟨g1,g2⟩:=hJ'.go e;rw [List.drop_eq_getElem_cons hlt] at hf';rcases yC (f:=t items[i]) (ρ:=ρ') with ⟨ρ1,h1,h2⟩|h2
  ·have hf2:(do let r <- body ρ1;match r with|.nx ρ'=>gQ (noT t) body (items.drop (i+1)) ρ'|.ct ρ'=>gQ (noT t) body (items.drop (i+1)) ρ'|.bk ρ'=>.ok (.nx ρ')|.rt d=>.ok (.rt d):Res Fl)=rr:=by
    rw [<-hf'];show _=(noE (t items[i]) ρ' >>= _);rw [h2];rfl
   refine ⟨g1,fun σ2 H2=>ItQ K (fun a=>¬Own own σ2 a) J H2 items/\∃ρ',ES own H2 σ2 ρ'/\gQ (noT t) body (items.drop (i+1)) ρ'=rr/\kZ own E D' σ2 H2 rr,fun σ2 H2 ⟨n1,n2⟩=>⟨items.length-(i+1),by lia,rfl,hlt,n1,n2⟩,fun x H2 hy=>?_⟩;obtain ⟨sH,rx⟩:=g2 x H2 hy;have ks:KU own σ' H' σ' H2:=fun a o e n=>⟨sH a o e,n⟩
   have hJ':=hJ'.ku ks E';have q':=q'.step ks;have E':=E'.same sH;refine tg x items[i] ρ' ρ1 σ' H2 _ E' rx h1 fun σ2 E2 hO=>?_
   have k0:KU own σ' H2 σ2 H2:=fun a o e n=>⟨e,by rw [hO];exact n⟩
   have hJ2:=hJ'.ku k0 E';have q2:=q'.step k0;refine ⟨ρ1,E2,?_⟩;cases hb:body ρ1 with
   | ok r=>
    rw [hb] at hf2;cases r with
    | nx ρ2=>exact fun σ3 H3 k3 E3=>⟨hJ2.ku k3 E2,ρ2,E3,hf2,q2.step k3⟩
    | ct ρ2=>exact fun σ3 H3 k3 E3=>⟨hJ2.ku k3 E2,ρ2,E3,hf2,q2.step k3⟩
    | bk ρ2=>
     have hf2:Res.ok (Fl.nx ρ2)=rr:=hf2;subst hf2;exact fun σ3 H3 k3 E3=>q2 σ3 H3 k3 E3
    | rt d=>
     have hf2:Res.ok (Fl.rt d)=rr:=hf2;subst hf2;exact q2
   | err c as=>
    rw [hb] at hf2;have hf2:Res.err c as=rr:=hf2;subst hf2;exact q2
   | bad=>
    rw [hb] at hf2;have hf2:Res.bad=rr:=hf2;subst hf2;exact q2
  ·have hf2:Res.bad=rr:=by
    rw [<-hf'];show _=(noE (t items[i]) ρ' >>= _);rw [h2];rfl
   subst hf2;exact q'.elim
 ·refine .inl ⟨hJ'.stop hge,?_⟩;rw [List.drop_eq_nil_of_le hge] at hf';have hf':Res.ok (Fl.nx ρ')=rr:=hf';subst hf';exact q' σ' H' (fun a o e n=>⟨e,n⟩) E'
end
section
variable {P:Program} {w:World} {K:PySem.W.Frag} {mg:Str->Option Value} {base:Heap} {N:List Str} {qual:Str} {scope:Scope} {fad C:Addr} {cd:Value} {A:Around} {outer:List Env} {s:Shared} {H:Hp} {E:XK} {own:Nat->Bool} {pos:Pos}
theorem ZX {tg iter:Expr} {body:List Stmt} {g:TG} {t:D->List D->Res (List D)} {it:FI} {fb:FS} (hi:PI (lY (CX2 P w) P w K mg base N qual scope fad cd A outer s H E) tg iter (gI K it)) (ht:TgS own g t) (hg:PG (lY (CX2 P w) P w K mg base N qual scope fad cd A outer s H E) tg g) (hb:PSs (lY (CX2 P w) P w K mg base N qual scope fad cd A outer s H E) body (tZ own E fb))
  (hs:∀x,foldedSetIterable iter (envOfC qual scope s.heap.objs.size fad cd) x=pure x:=by intro _;rfl):PS (lY (CX2 P w) P w K mg base N qual scope fad cd A outer s H E) (.For tg iter body [] pos) (tZ own E (yU (noE it) (noT t) fb)):=by
 refine PS.imp (G9 PassesOwn.leaving rfl hi hg hb hs) fun D' σ H1 ⟨ρ,es,k⟩=>?_
 rcases yC (f:=it) (ρ:=ρ) with ⟨⟨items,b⟩,h1,h2⟩|h2
 ·have e:yU (noE it) (noT t) fb ρ=if b then gQ (noT t) fb items ρ else .bad:=by unfold yU;rw [h2];rfl
  rw [e] at k;cases b with
  | true=>
   rw [if_pos rfl] at k;refine ⟨ρ,items,true,es.er,h1,fun J H2 s1 _ hJ=>J4 ht (es.same s1) ((hJ rfl).keep (fun _ _ e _=>e) fun a ha ho=>?_) rfl (k.step (.same s1))⟩;obtain ⟨o,e1,_⟩:=es.live ho;rw [show H1 a=none from ha] at e1;cases e1
  | false=>rw [if_neg (by simp)] at k;exact k.elim
 ·have e:yU (noE it) (noT t) fb ρ=.bad:=by unfold yU;rw [h2];rfl
  rw [e] at k;exact k.elim
theorem aDu {tg:Expr} {body:List Stmt} {g:TG} {t:D->List D->Res (List D)} {i:Nat} {x:Str} {px:Pos} {fb:FS} (ho:own i=false) (hN:N[i]?=some x) (hv:Vis scope x) (ht:TgS own g t) (hg:PG (lY (CX2 P w) P w K mg base N qual scope fad cd A outer s H E) tg g) (hb:PSs (lY (CX2 P w) P w K mg base N qual scope fad cd A outer s H E) body (tZ own E fb))
  (hs:∀z,foldedSetIterable (.Name x px) (envOfC qual scope s.heap.objs.size fad cd) z=pure z:=by intro _;rfl) (hd:nDb x:=by decide) (hcd:nCd x:=by decide):PS (lY (CX2 P w) P w K mg base N qual scope fad cd A outer s H E) (.For tg (.Name x px) body [] pos) (tZ own E (iD i (noT t) fb)):=by
 refine PS.imp (G9 PassesOwn.leaving rfl (aDg (X:=lY (CX2 P w) P w K mg base N qual scope fad cd A outer s H E) hN hv hd hcd) hg hb hs) fun D' σ H1 ⟨ρ,es,k⟩=>?_
 cases h1:dH i ρ with
 | ok d=>
  cases h2:mK d with
  | ok items=>
   have e:iD i (noT t) fb ρ=gQ (noT t) fb items ρ:=by unfold iD;rw [h1];show (mK d >>= _)=_;rw [h2];rfl
   rw [e] at k;obtain ⟨v,hv,rv,e⟩:=es.er.var h1;have hne:ρ.getD i .uD≠.uD:=fun z=>by
    rw [z] at e;subst e;exact Rep.uD rv
   obtain ⟨w',hw,hr⟩:=es.at_ i hne;rw [hv] at hw;cases hw;have r2:=hr ho;rw [e] at r2;exact ⟨v,d,items,hv,rv,h2,fun J hJ=>J4 ht es (hJ _ r2) rfl k⟩
  | err c as=>cases d <;> cases h2
  | bad=>
   have e:iD i (noT t) fb ρ=.bad:=by unfold iD;rw [h1];show (mK d >>= _)=_;rw [h2];rfl
   rw [e] at k;exact k.elim
 | err c as=>
  unfold dH at h1;split at h1 <;> cases h1
 | bad=>
  have e:iD i (noT t) fb ρ=.bad:=by unfold iD;rw [h1];rfl
  rw [e] at k;exact k.elim
theorem sV {k k' n:Nat} {x:Str} {e:Expr} {es:List Expr} {fa:FA} {r:Bool} {v:List D->Res D} {p cpos:Pos} (R:lX P w K mg base k x n v) (hr:jX k' (A.deeper (envOfC qual scope s.heap.objs.size fad cd))) (hkk:k<=k') (hg:Gl (lY (CX2 P w) P w K mg base N qual scope fad cd A outer s H E) x) (ha:PA (lY (CX2 P w) P w K mg base N qual scope fad cd A outer s H E) (e::es) (gA fa r))
  (hdb:nDb x:=by decide) (he:starEach (e::es) (envOfC qual scope s.heap.objs.size fad cd)=(false,eval e (envOfC qual scope s.heap.objs.size fad cd))::starEach es (envOfC qual scope s.heap.objs.size fad cd):=by rfl) (hpl:(backTo cpos (starEach es (envOfC qual scope s.heap.objs.size fad cd))).any (·.1)=false:=by rfl) :
  PE (lY (CX2 P w) P w K mg base N qual scope fad cd A outer s H E) (.Call (.Name x p) (e::es) [] cpos) (gZ E (aV (iK n v) (noE fa))):=by
 obtain ⟨fm,fdm,ps,F,hm,hk,hb⟩:=R;refine PE.imp (A_ F (hr.mono hkk) hg hm hk hb .nil U8 ha hdb he hpl) fun σ H1 Q ⟨ρ,er,k⟩=>?_
 rcases yC (f:=fa) (ρ:=ρ) with ⟨ds,h1,h2⟩|h2
 ·have e:aV (iK n v) (noE fa) ρ=iK n v ds:=by unfold aV;rw [h2];rfl
  rw [e] at k;unfold iK at k;split at k
  ·rename_i hl;refine ⟨ρ,ds,er,h1,fun vs H' sm rs _=>⟨ds,of_decide_eq_true hl,by rw [List.append_nil];exact rs,?_⟩⟩;cases hv:v ds with
   | ok d=>rw [hv] at k;exact kR.imp k sm id
   | err c as=>
    rw [hv] at k;obtain ⟨fs,C,e1,e2,e3⟩:=k;exact ⟨fs,C,e1,e2,fun H2 dx s2 x=>e3 H2 dx (sm.trans s2) x⟩
   | bad=>rw [hv] at k;exact k
  ·exact k.elim
 ·have e:aV (iK n v) (noE fa) ρ=.bad:=by unfold aV;rw [h2];rfl
  rw [e] at k;exact k.elim
end
theorem yD {P:Program} {w:World} {K:PySem.W.Frag} {mg:Str->Option Value} {base:Heap} {x:Str} {st:Stmt} {fad:Addr} {fd:FuncData} {N ps:List Str} {k:Nat} {f:FS} (F:Fun K x x st fad fd) (hm:mg x=some (.ref fad)) (hb:Binds K fd ps []) (S:bO N ps (aH st)) (own:Nat->Bool) (hown:∀i,i<ps.length->own i=false) (hNl:ps.length<=N.length)
  (hbody:∀(cdv:Value) (A:Around) (outer:List Env) (s:Shared) (H:Hp) (E:XK),jX k (A.deeper (envOfC x (aH st) s.heap.objs.size fad cdv))->PSs (lY (CX2 P w) P w K mg base N x (aH st) fad cdv A outer s H E) (cZ st) (tZ own E f)) (hx:own rtX=false:=by rfl):lX P w K mg base (k+1) x ps.length (fnS ps.length N.length f):=by
 refine ⟨fad,fd,ps,?_,hm,F.kp,hb⟩;obtain ⟨oc,od,kV,doc,pm,an,cdv,ct,osl,rfl,lk,hcd⟩:=F.ex;refine aI1 lk hcd S (fun vs H Q E ⟨ds,h1,r,_⟩=>by rw [r.length,h1]) fun A outer s H vs Q E hr ⟨ds,hl,r,h⟩=>?_
 refine ⟨_,hbody cdv A outer s H E hr,?_⟩;have hst:start N vs=vs.map some++List.replicate (N.length-ps.length) none:=by
  show vs.map some++List.replicate (N.length-vs.length) none=_;rw [r.length,hl]
 have noown:∀a,¬Own own (start N vs) a:=fun a ⟨i,hi,e⟩=>by
  rw [hst] at e;by_cases h:i<ps.length
  ·rw [hown i h] at hi;cases hi
  ·rw [List.getElem?_append_right (by simp [r.length,hl];lia)] at e;rw [List.getElem?_replicate] at e;split at e <;> cases e
 cases hv:fnS ps.length N.length f ds with
 | ok d=>
  rw [hv] at h;obtain ⟨ρ,fl,es,h1,q⟩:=X_ (N:=N) (ps:=ps) (f:=f) (own:=own) (vs:=vs) (H:=H) (Q:=Q) (E:=E) hx hown ⟨ds,d,hl,r,hv,h⟩;exact ⟨ρ,es,by rw [h1];exact q⟩
 | err c as=>
  rw [hv] at h;refine ⟨_,Q9 hst hl r hown noown,?_⟩;cases hf:f (ds++List.replicate (N.length-ps.length) .uD) with
  | ok fl=>
   exfalso;unfold fnS at hv;rw [hf] at hv;cases fl <;> cases hv
  | err c' as'=>
   unfold fnS at hv;rw [hf] at hv;cases hv;obtain ⟨fs,C,e1,e2,e3⟩:=h;exact ⟨fs,C,e1,e2,fun σ' H' dx kk x=>e3 H' dx (fun a o e=>(kk a o e (noown a)).1) x⟩
  | bad=>
   exfalso;unfold fnS at hv;rw [hf] at hv;cases hv
 | bad=>rw [hv] at h;exact h.elim
end Mi
end
section
namespace Mi
open PySem L2 PySem.W PySem.SeqAt PySem.Spec PyProof.Rows Builtin Builtin.ObjectAttr
noncomputable def aJy (c:Str) (fl:List Str) (fa:FA):FE:=fun ρ=>do
 let ds <- fa ρ
 match U9 ds with
 | some ts=>if ts.length=fl.length then .ok (.exc c (fl.zip ts)) else .bad
 | none=>.bad
noncomputable def N7 (tbl:List (Str×Bool)) (i:Nat):FE:=fun ρ=>match ρ.getD i .uD with
 | .exc c _=>(match tbl.lookup c with|some b=>.ok (.bl b)|none=>.bad)
 | _=>.bad
noncomputable def mU (cs:List Str) (f:Str) (i:Nat):FE:=fun ρ=>match ρ.getD i .uD with
 | .exc c fs=>if cs.contains c then (match fs.lookup f with|some t=>.ok (.str t)|none=>.bad) else .bad
 | _=>.bad
noncomputable def aJz (v:List D->Res D) (n:Nat) (fa:FA) (cs:List Str) (ic ie:Nat):FS:=fun ρ=>do
 let ds <- fa ρ
 match iK n v ds with
 | .err c [.exc c' fs]=>if c'==c&&cs.contains c&&decide (ie<ρ.length) then .ok (.nx (((ρ.set ie (.exc c fs)).set ic (.exc c fs)).set ie .uD)) else .bad
 | _=>.bad
noncomputable def aO8 (X:Cx) (C:Addr) (fl:List Str) (t:TA):TE:=fun σ H Q=>t σ H fun vs H1=>∃ts:List Str,vs=ts.map V.str/\ts.length=fl.length/\∀a dx,X.s₀.heap.get? a=none->H1 a=none->H1 dx=none->dx≠a->Q (.ref a) (upd (upd H1 dx (.ext (XD dx (fl.zip ts)))) a (.ext (XO1 a C dx)))
section
variable {X:Cx} {C f:Addr} {fl:List Str} {k:Nat} {fd:FuncData} {ps:List Str} {x:Str} {p pos:Pos} {e:Expr} {es:List Expr} {t:TA}
theorem aDv (M:XI X.K C f) (F:o7 X.prog X.w X.K X.mg X.base CX0 k f fd ps (lU C fl)) (hr:jX (k+1) X.A) (hb:Binds X.K fd ps []) (hz:fl.length<=sizeLine) (hex:X.ex=[]) (hg:Gl X x) (hm:X.mg x=some (.ref C)) (ha:PA X (e::es) t)
  (hdb:nDb x:=by decide) (he:starEach (e::es) X.env=(false,eval e X.env)::starEach es X.env:=by rfl) (hpl:(backTo pos (starEach es X.env)).any (·.1)=false:=by rfl):PE X (.Call (.Name x p) (e::es) [] pos) (aO8 X C fl t):=by
 intro pins s σ H Q I h;refine wpAny_Call_Name_kw (o8 I hg hm ?_ hdb);refine PySem.W.callWith_K (h₀:=X.base) I.ok.mod.kin M.kp (thn (ha pos pins s σ H _ I h) fun us s1 ⟨vs,H1,I1,r,ts,ev,hl,q⟩=>⟨I1.kIn,?_⟩) he hpl;subst ev;exact aGb M F hr hb I1 r hl (show us.length<=sizeLine from by rw [<-r.length,List.length_map,hl];exact hz) hex fun a dx s2 g1 g2 g3 g4 I2=>⟨.ref a,_,I2,rfl,q a dx g1 g2 g3 g4⟩
noncomputable def aGd (X:Cx) (te:TE):TS:=fun _ σ H=>te σ H fun v H1=>∃a C dx,v=.ref a/\H1 a=some (.ext (XO1 a C dx))/\exC X.K C=true/\∀pins s,Inv X pins σ H1 s->X.xe (.ref a) s
theorem ZZ {te:TE} (hc:X.calm=true) (he:PE X e te):PS X (.Raise (some e) none pos) (aGd X te):=by
 intro pins s σ H D I h;have hh:=I.ok.hd hc;show wpAny _ _ (exec (.Raise (some e) none pos) X.env) _ _ _;rw [arm_exec_Raise];refine wpAny_bind (wpAny_standAt (show _ from ?_));simp only [evalOpt,Option.map];unfold raiseStmt;refine wpAny_bind (wpAny_bind (wpAny_mono (he pins s σ H _ I h) (fun u s1 ⟨v,H1,I1,rv,a,C,dx,ev,ea,qC,q⟩=>wpAny_bind (wpAny_standAt (wpAny_pure ?_))) fun _ _ x=>x));subst ev;obtain rfl:u=Value.ref a:=rv;obtain ⟨⟨t0,ht⟩,_⟩:=I1.hok a _ ea;have out:=q _ _ I1;obtain ⟨hp,g,d,tk,os⟩:=s1;obtain ⟨⟨bm,N,nm,qn,bs,sn,sub,ab,col,dd,k0,k1,k2,k3,k5,mN,hC,hN,T⟩⟩:=J2 I1.kIn qC;have hcB:(Value.ref C::bm).contains (.type "BaseException")=true:=by rw [List.contains_cons,T.hasType PySem.F.excBase_ValueError.hasBase,Bool.or_true]
 repeat (first|with_reducible refine wpAny_loadPart_at ht ?_|with_reducible refine wpAny_loadPart_at hC ?_|(with_reducible refine wpAny_isSubtype_exc hC ?_;rw [hcB])|wp_step)
 exact wpAny_raiseNew_none hh out
end
variable [KFrag]
section
variable {P:Program} {w:World} {K:PySem.W.Frag} {mg:Str->Option Value} {base:Heap} {N:List Str} {qual:Str} {scope:Scope} {fad C fi:Addr} {cd:Value} {A:Around} {outer:List Env} {s:Shared} {H:Hp} {E:XK} {own:Nat->Bool} {pos p cpos:Pos} {x:Str} {e:Expr} {es:List Expr} {fa:FA} {r:Bool} {fl:List Str} {k k':Nat} {fd:FuncData} {ps:List Str}
theorem aGe (hK:KFrag.K=K) (hn:nsIn K mainGlobals x=some (some (.ref C))) (M:XI K C fi) (F:o7 P w K mg base CX0 k fi fd ps (lU C fl)) (hr:jX k' (A.deeper (envOfC qual scope s.heap.objs.size fad cd))) (hkk:k+1<=k') (hb:Binds K fd ps []) (hz:fl.length<=sizeLine) (hg:Gl (lY (CX2 P w) P w K mg base N qual scope fad cd A outer s H E) x) (hm:mg x=some (.ref C)) (ha:PA (lY (CX2 P w) P w K mg base N qual scope fad cd A outer s H E) (e::es) (gA fa r))
  (hdb:nDb x:=by decide) (he:starEach (e::es) (envOfC qual scope s.heap.objs.size fad cd)=(false,eval e (envOfC qual scope s.heap.objs.size fad cd))::starEach es (envOfC qual scope s.heap.objs.size fad cd):=by rfl) (hpl:(backTo cpos (starEach es (envOfC qual scope s.heap.objs.size fad cd))).any (·.1)=false:=by rfl) :
  PS (lY (CX2 P w) P w K mg base N qual scope fad cd A outer s H E) (.Raise (some (.Call (.Name x p) (e::es) [] cpos)) none pos) (tZ own E (cL x fl (noE fa))):=by
 subst hK;refine PS.imp (ZZ (X:=lY (CX2 P w) P w KFrag.K mg base N qual scope fad cd A outer s H E) rfl (aDv (X:=lY (CX2 P w) P w KFrag.K mg base N qual scope fad cd A outer s H E) M F (hr.mono hkk) hb hz rfl hg hm ha hdb he hpl)) fun D σ H1 ⟨ρ,er,q⟩=>?_
 rcases yC (f:=fa) (ρ:=ρ) with ⟨ds,h1,h2⟩|h2
 ·have e0:cL x fl (noE fa) ρ=(match U9 ds with|some ts=>if ts.length=fl.length then .err x [.exc x (fl.zip ts)] else .bad|none=>.bad):=by unfold cL;rw [h2];rfl
  rw [e0] at q;split at q
  ·rename_i ts hts;split at q
   ·rename_i hl;obtain ⟨fs,C',e1,e2,e3⟩:=q;cases e1;rw [hn] at e2;cases e2;refine ⟨ρ,ds,er.er,h1,fun vs H2 sm rs _=>⟨ts,DQ hts rs,hl,fun a dx g1 g2 g3 g4=>⟨a,C,dx,rfl,aL,M.cl,fun pins s2 I2=>ZW I2 aL g1 ?_⟩⟩⟩;have eh:hid (upd (upd H2 dx (.ext (XD dx (fl.zip ts)))) a (.ext (XO1 a C dx))) a=upd H2 dx (.ext (XD dx (fl.zip ts))):=by
     funext b
     unfold hid;by_cases hb:b=a
     ·rw [if_pos hb,hb,bB (Ne.symm g4)];exact g2.symm
     ·rw [if_neg hb,bB hb]
    rw [eh];exact e3 σ _ (some dx) (.same (sm.trans (oU g3))) aL
   ·exact q.elim
  ·exact q.elim
 ·have e0:cL x fl (noE fa) ρ=.bad:=by unfold cL;rw [h2];rfl
  rw [e0] at q;exact q.elim
end
section
variable {X:Cx} {C fi:Addr} {fl:List Str} {k:Nat} {fd:FuncData} {ps:List Str} {x:Str} {p pos:Pos} {e:Expr} {es:List Expr} {fa:FA} {r:Bool}
theorem N8 {pins:List (Addr×Obj)} {σ:L2.St} {H:Hp} {s:Shared} {a dx:Addr} (I:Inv X pins σ (upd H a (.ext (XO1 a C dx))) s):Inv X pins σ (upd H a (.ext (XO a C (some dx)))) s:=by
 obtain ⟨h1,_⟩:=I.hok a _ aL;have hx:=h1.xo;have I2:=I.write (x:=a) (e:=a) (h':=s.heap) (t':=s.toks) (o:=.ext (XO a C (some dx))) (by rw [aL];exact True.intro) (.inl rfl) (fun b u _ z=>z) (let ⟨o,e,_⟩:=hx;⟨o,e⟩) (aJt hx);rw [aJw] at I2;exact I2
theorem aK0 {k':Nat} (hK:KFrag.K=X.K) (hn:nsIn X.K mainGlobals x=some (some (.ref C))) (M:XI X.K C fi) (F:o7 X.prog X.w X.K X.mg X.base CX0 k fi fd ps (lU C fl)) (hr:jX k' X.A) (hkk:k+1<=k') (hb:Binds X.K fd ps []) (hz:fl.length<=sizeLine) (hex:X.ex=[]) (hg:Gl X x) (hm:X.mg x=some (.ref C)) (ha:PA X (e::es) (gA fa r))
  (hdb:nDb x:=by decide) (he:starEach (e::es) X.env=(false,eval e X.env)::starEach es X.env:=by rfl) (hpl:(backTo pos (starEach es X.env)).any (·.1)=false:=by rfl):PE X (.Call (.Name x p) (e::es) [] pos) (gE (aJy x fl fa) true):=by
 intro pins s σ H Q I ⟨ρ,d,er,h,q⟩;obtain ⟨ds,h1,h⟩:=aR h;split at h
 ·rename_i ts hts;split at h
  ·rename_i hl;cases h;refine thn (aDv M F (hr.mono hkk) hb hz hex hg hm ha hdb he hpl pins s σ H (fun v H3=>∃a dx H2,v=.ref a/\b_ H H2/\H2 a=none/\H2 dx=none/\dx≠a/\H3=upd (upd H2 dx (.ext (XD dx (fl.zip ts)))) a (.ext (XO1 a C dx))) I ⟨ρ,ds,er,h1,fun vs H2 sm rs _=>⟨ts,DQ hts rs,hl,fun a dx g1 g2 g3 g4=>⟨a,dx,H2,rfl,sm,g2,g3,g4,rfl⟩⟩⟩) fun u s2 ⟨v,H3,I3,rv,a,dx,H2,e1,sm,g2,g3,g4,e3⟩=>?_
   subst e1 e3;have sm3:b_ H (upd (upd H2 dx (.ext (XD dx (fl.zip ts)))) a (.ext (XO a C (some dx)))):=sm.trans ((oU g3).trans (oU (by rw [bB (Ne.symm g4)];exact g2)));have rp:∀P,Rep P (upd (upd H2 dx (.ext (XD dx (fl.zip ts)))) a (.ext (XO a C (some dx)))) (.ref a) (.exc x (fl.zip ts)):=fun P=>.exc (C:=C) (dx:=some dx) (by rw [hK];exact hn) aL (by show upd _ _ _ dx=_;rw [bB g4];exact aL)
   exact ⟨.ref a,_,N8 I3,rv,q _ _ sm3 (rp _) fun _=>rp _⟩
  ·cases h
 ·cases h
end
structure XA (K:Frag) (C:Addr) (f:Str):Prop where
 xc:XC K C
 hd:hasDictIn K C=true
 no:findIn K (.ref C) f=some none
theorem XO.exc {a C:Addr} {dx:Option Addr} {h:Heap} (x:XO a C dx h):ExcAt a C h:=let ⟨o,e,c,_⟩:=x;⟨o,e,c⟩
section
variable {prog:Program} {w:World} {A:Around} {E:Value->Shared->Prop} {s:Shared} {K:Frag} {x C dx:Addr} {f t:Str} {fs:List (Str×Str)}
theorem aC4 {b:Bool} {Q:Value->Shared->Prop} (X:K.In s.heap) (c:XA K C f) (xo:XO x C (some dx) s.heap) (xd:XD dx fs s.heap) (l:fs.lookup f=some t) (h:∀tk,Q (.str t tk) {s with toks:=s.toks+1}):wpAny (model prog w) A (getAttr (.ref x) f b) Q E s:=by
 obtain ⟨hh,g,dr,tt,os⟩:=s;obtain ⟨mA,n,_,hm⟩:=xd;have hf:=hm f;rw [l] at hf;obtain ⟨tk,hf⟩:=hf;obtain ⟨od,ho,hl⟩:=G_ n;have p:=xo.exc;obtain ⟨o,e1,e2,e3,vs,e4⟩:=xo;have J:InstAt hh x o C (some od):=⟨e1,e2,by unfold notCls;rw [e4],by rw [e3];exact ho⟩
 have L0:=zR (M:=model prog w) p;have L1:=looks_findIn (M:=model prog w) X c.xc.ga;have L2:=looks_findIn (M:=model prog w) X c.xc.gh;have L3:Looks (model prog w) hh (find (.ref x) (.ref C) f) (.value (.str t tk)):=looks_find X J (findObj_own c.hd c.no rfl (by rw [hl,hf]));have z2:(Value.builtin "BaseException.__getattribute__" == Value.builtin "object.__getattribute__")=false:=by decide +kernel
 have z1:(onTheHeap (Value.ref C)&&Value.builtin "BaseException.__getattribute__" == Value.builtin "object.__getattribute__")=false:=by rw [z2];rfl
 unfold getAttr getAttrBy;refine wpAny_bind (wpAny_mkText (wpAny_holding ?_));refine wpAny_bind (L0.at (wpAny_bind (L1.at (show _ from ?_))));dsimp only;rw [z1,if_neg (by decide)];unfold getAttrByItsOwn callGetattribute hookBefore boundAndCalled;rw [if_pos (show onTheHeap (Value.ref C)=true from rfl)];refine wpAny_bind (L2.at (wpAny_bind (wpAny_attempt (wpAny_holding ?_))));rw [show (b&&onTheHeap (Value.builtin "BaseException.__getattribute__"))=false from Bool.and_false _,if_neg (by decide)];refine wpAny_bind (wpAny_of_eq (F.excAttr_ValueError.ga.bind (.ref x)) ?_);refine wpAny_call (codeAny_call_builtin F.excAttr_ValueError.ga.plain F.entry_bexc_ga (JN (K:=K) (C:=C) X p c.xc ?_));show wpAny _ _ (Builtin.«object.__getattribute__» ⟨[.ref x,.str f tt],[]⟩) _ _ _
 delta Builtin.«object.__getattribute__»
 refine wpAny_bind (wpAny_pure (wpAny_bind (wpAny_pure (wpAny_bind (L0.at (wpAny_bind (L3.at ?_)))))));refine wpAny_pure ?_;show wpAny _ _ (handedOut (.str t tk)) _ _ _;exact wpAny_pure (h tk)
end
section
variable {X:Cx} {y f:Str} {i:Nat} {np pos:Pos} {cs:List Str}
theorem sW (hK:KFrag.K=X.K) (hc:∀c,cs.contains c=true->∃C,nsIn X.K mainGlobals c=some (some (.ref C))/\XA X.K C f) (hN:X.N[i]?=some y) (hv:Vis X.env.scope y) (hb:attributeBase (.Name y np) f X.env (eval (.Name y np) X.env)=eval (.Name y np) X.env:=by rfl)
  (hd:(y==("__debug__" : Str))=false:=by decide) (hcd:(y==("__classdict__" : Str))=false:=by decide):PE X (.Attribute (.Name y np) f pos) (gE (mU cs f i) true):=by
 intro pins s σ H Q I ⟨ρ,d,er,h,q⟩;unfold mU at h;split at h
 ·rename_i c fs hρ;split at h
  ·rename_i hcc;split at h
   ·rename_i t hl;cases h;obtain ⟨v,h1,r1⟩:=er i (by rw [hρ];intro z;cases z);rw [hρ] at r1;cases r1 with
    | @exc a C dx _ _ n e qd=>
     obtain ⟨C',n',xa⟩:=hc c hcc;rw [hK,n'] at n;cases n;refine aEo hb (thn (bW hN hv hd hcd pins s σ H (fun v H1=>v=.ref a/\H1=H) I ⟨_,h1,rfl,rfl⟩) fun u s1 ⟨v,H1,I1,rv,e1,e2⟩=>?_);subst e1 e2;obtain rfl:u=Value.ref a:=rv;cases dx with
     | none=>cases qd;cases hl
     | some dx=>
      obtain ⟨xo,_⟩:=I1.hok a _ e;obtain ⟨xd,_⟩:=I1.hok dx _ qd;exact aC4 I1.kIn xa xo xd hl fun tk=>⟨.str t,_,I1.tok _,⟨tk,rfl⟩,q _ _ (fun _ _ z=>z) (.str t) fun _=>.str t⟩
   ·cases h
  ·cases h
 ·cases h
end
end Mi
end
section
namespace Mi
open PySem L2 PySem.W PySem.SeqAt PySem.Spec PyProof.Rows
noncomputable def aMg (K:Frag) (cM:Value) (t:TA) (sp:Sp) (ie:Nat) (ts:TS):TS:=fun D σ H=>t σ H fun vs H1=>sp vs H1 (fun _ _=>False) fun Cv dd H2=>∃C,Cv=.ref C/\exmOne K (.ref C) cM=some true/\∀a,H2 a=none->ts {nx:=fun σ' H'=>D.nx (σ'.set ie none) H',rt:=fun _ _=>False} (σ.set ie (some (.ref a))) (upd H2 a (.ext (XO a C dd)))
theorem aGf {X:Cx} {k:Nat} {fad:Addr} {cM:Value} {fd:FuncData} {ps:List Str} {sp:Sp} {f mx n:Str} {p cpos xpos mp hpos pos:Pos} {e:Expr} {es:List Expr} {t:TA} {b0:Stmt} {suite:List Stmt} {ts:TS} {ie:Nat}
  (hst:X.stack=X.env::X.outer) (hfr:X.env.frame=some X.env.locals) (F:o7 X.prog X.w X.K X.mg X.base (CX2 X.prog X.w) k fad fd ps sp) (hr:jX k X.A) (hg:Gl X f) (hm:X.mg f=some (.ref fad)) (hk:keepIn X.K (.ref fad)=true) (hb:Binds X.K fd ps [])
  (ha:PA X.nox (e::es) t) (hgM:Gl X mx) (hmM:X.mg mx=some cM) (hN:X.N.Nodup) (hin:X.N[ie]?=some n) (hln:X.env.scope.names.lookup n=some .local)
  (hs:∀v,PSs (mrk X v).nox (b0::suite) ts)
  (hdb:(f==("__debug__" : Str))=false:=by decide) (hdM:(mx==("__debug__" : Str))=false:=by decide) (he:starEach (e::es) X.env=(false,eval e X.env)::starEach es X.env:=by rfl) (hpl:(backTo cpos (starEach es X.env)).any (·.1)=false:=by rfl)
  (hsw:swapsWith (.Call (.Name f p) (e::es) [] cpos) none xpos.line X.env=pure false:=by rfl) :
  PS X (.Try [.Expr (.Call (.Name f p) (e::es) [] cpos) xpos] [.ExceptHandler (some (.Name mx mp)) (some n) (b0::suite) hpos] [] [] pos) (aMg X.K cM t sp ie ts):=by
 intro pins s σ H D I h;refine wpAny_Try_except (wpAny_execs_cons (wpAny_Expr_any ?_ I.quiet hsw));refine wpAny_Call_Name_kw (o8 I hg hm ?_ hdb);refine callWith_K (h₀:=X.base) I.ok.mod.kin hk (wpAny_mono (ha cpos pins s σ H _ (I.wish _) h) (fun us s1 ⟨vs,H1,I1,r,q⟩=>⟨I1.kIn,?_⟩) fun _ _ z=>False.elim z) he hpl;have I1:Inv X pins σ H1 s1:=I1.mD;have hl:(us++[]).length=ps.length:=by rw [List.append_nil,<-r.length];exact F.len _ _ _ _ q
 have hb':=hb s1 us I1.kIn hl;rw [List.append_nil] at hb';refine wpAny_call (codeAny_mono (F.run X.A X.stack s1 H1 ⟨us,[]⟩ us vs _ _ hr I1.env0 hb' r q) fun r s' hq=>?_);cases r with
 | ok fl=>
  cases fl with
  | ret u=>obtain ⟨_,_,_,_,_,_,_,z⟩:=hq;exact z.elim
  | next=>exact False.elim hq
  | brk=>exact False.elim hq
  | cont=>exact False.elim hq
 | error e=>
  obtain ⟨a,C',dd,H2,B,rfl,os',bare',fly,clo,hn,hgone,C,eC,hx,hE⟩:=hq;cases eC;rw [hst] at fly;refine ZR (by rw [I.ok.frames,hst]) hfr fly fun h4 held4 sm4=>?_
  refine oW (s:={s' with heap:=h4}) held4 fun h5 fly5 sm5=>?_
  have up5:s'.heap.UpToSlots h5:=Heap.UpToSlots.trans sm4 sm5;have I5:Inv X pins σ H2 {s' with heap:=h5}:=by
   obtain ⟨un,hok⟩:=clo h5 fly5.1 up5;exact I1.call' (ch:=[]) os' un hok bare' (fun b z=>absurd z (by simp))
  refine wpAny_handleBy_cons (codeAny_handlers_test ?_) (by intro q;cases q);refine o8 (X:=mrk X (.ref a)) (YM I5 _) hgM hmM ?_ hdM;have LT:Looks (model X.prog X.w) h5 (typeOf (.ref a)) (.ref C'):=by
   obtain ⟨ob,hob,hc,_⟩:=fly5.there;rw [<-hc];exact (Looks.ld hob).andThen .now
  refine (exm_one I5.kIn LT hx).here ?_;refine codeAny_handlers_suite_as ?_;refine oW (s:={s' with heap:=h5}) fly5 fun h6 fly6 sm6=>?_
  obtain ⟨un6,hok6⟩:=clo h6 fly6.1 (Heap.UpToSlots.trans up5 sm6);have I6:Inv X pins σ (upd H2 a (.ext (XO a C' dd))) {s' with heap:=h6}:=
   I1.call' (ch:=[]) os' (aDi un6 hgone hn) (YS hok6 hn (aJt fly6.there)) bare' (fun b z=>absurd z (by simp))
  refine G5 (X:=X) (v:=.ref a) I6 hN hin (.inl hln) rfl (fun s7 I7 _=>?_) (.inr hln);refine wpAny_mono (hs (.ref a) pins s7 _ _ _ ((YM I7 _).wish _) (hE a hn)) (fun fl s8 q8=>?_) fun _ _ z=>False.elim z
  cases fl with
  | ret u=>obtain ⟨_,_,_,_,_,z⟩:=q8;exact z.elim
  | brk=>obtain ⟨_,_,_,z⟩:=q8;exact z.elim
  | cont=>obtain ⟨_,_,_,z⟩:=q8;exact z.elim
  | next=>
   obtain ⟨σ8,H8,I8,q⟩:=q8;have I8:Inv X pins σ8 H8 s8:=YQ I.ok I8.mD;obtain ⟨m,hm8,hl8⟩:=id I8.loc;refine wpAny_nameGoes_keeps hln hm8 (by rw [I.ok.kind];rfl) fun h9 v hn9 sb9=>?_
   exact ⟨_,H8,aBl I8 hN hin hm8 hl8 hn9 sb9,q⟩
variable [KFrag]
theorem RW {own:Nat->Bool} {σ:L2.St} {i:Nat} (ho:own i=false) (a:Addr):Own own (σ.set i none) a↔Own own σ a:=by
 constructor
 ·rintro ⟨j,hj,e⟩;have:i≠j:=fun z=>by subst z;rw [ho] at hj;cases hj
  rw [List.getElem?_set_ne this] at e;exact ⟨j,hj,e⟩
 ·rintro ⟨j,hj,e⟩;have:i≠j:=fun z=>by subst z;rw [ho] at hj;cases hj
  exact ⟨j,hj,by rw [List.getElem?_set_ne this];exact e⟩
theorem ES.drop {own:Nat->Bool} {H:Hp} {σ:L2.St} {ρ:List D} {i:Nat} (ho:own i=false) (es:ES own H σ ρ):ES own H (σ.set i none) (ρ.set i .uD):=by
 refine ⟨by simp [es.len],fun j hj=>?_,fun j v hj hv=>?_⟩
 ·rw [cR] at hj ⊢;by_cases h:i=j/\i<ρ.length
  ·rw [if_pos h] at hj;exact absurd rfl hj
  ·rw [if_neg h] at hj ⊢;obtain ⟨v,h1,h2⟩:=es.at_ j hj;have ne:i≠j:=fun z=>by
    subst z;have:i<σ.length:=(List.getElem?_eq_some_iff.mp h1).1;exact h ⟨rfl,by rw [<-es.len];exact this⟩
   exact ⟨v,by rw [List.getElem?_set_ne ne];exact h1,fun o=>(h2 o).mono fun a n z=>n ((RW ho a).mp z)⟩
 ·have ne:i≠j:=fun z=>by subst z;rw [ho] at hj;cases hj
  rw [List.getElem?_set_ne ne] at hv;obtain ⟨a,o,h1,h2,h3,h4,h5,h6⟩:=es.own j v hj hv;have e:(ρ.set i .uD).getD j .uD=ρ.getD j .uD:=by rw [cR,if_neg (fun z=>ne z.1)]
  refine ⟨a,o,h1,by rw [e];exact h2,by rw [e];exact h3,h4,h5,fun l hl hs=>h6 l hl ?_⟩;have:i≠l:=fun z=>by subst z;rw [ho] at hl;cases hl
  rwa [List.getElem?_set_ne this] at hs
section
variable {own:Nat->Bool} {X:Cx} {cM:Value} {k n:Nat} {f mx nm cn:Str} {p cpos xpos mp hpos pos tp ep ap:Pos} {e:Expr} {es:List Expr} {v:List D->Res D} {fa:FA} {ra:Bool} {cs:List Str} {ic ie k':Nat}
theorem aK1 (hK:KFrag.K=X.K) (hst:X.stack=X.env::X.outer) (hfr:X.env.frame=some X.env.locals) (R:lX X.prog X.w X.K X.mg X.base k f n v) (hr:jX k' X.A) (hkk:k<=k') (hg:Gl X f) (ha:PA X.nox (e::es) (gA fa ra)) (hgM:Gl X mx) (hmM:X.mg mx=some cM)
  (hcs:∀c,cs.contains c=true->∃C,nsIn X.K mainGlobals c=some (some (.ref C))/\exmOne X.K (.ref C) cM=some true)
  (hN:X.N.Nodup) (hin:X.N[ie]?=some nm) (hln:X.env.scope.names.lookup nm=some .local) (hic:X.N[ic]?=some cn) (hlc:Loc X.env.scope cn) (hfc:X.fn cn=true\/X.env.scope.names.lookup cn=some .local) (oc:own ic=false) (oe:own ie=false) (hne:ie≠ic)
  (hdb:(f==("__debug__" : Str))=false:=by decide) (hdM:(mx==("__debug__" : Str))=false:=by decide) (he:starEach (e::es) X.env=(false,eval e X.env)::starEach es X.env:=by rfl) (hpl:(backTo cpos (starEach es X.env)).any (·.1)=false:=by rfl)
  (hsw:swapsWith (.Call (.Name f p) (e::es) [] cpos) none xpos.line X.env=pure false:=by rfl) (hs2:swapsWith (.Name nm ep) (some (.Name cn tp)) ap.line X.env=pure false:=by rfl) (hd1:(nm==("__debug__" : Str))=false:=by decide) (hd2:(nm==("__classdict__" : Str))=false:=by decide) :
  PS X (.Try [.Expr (.Call (.Name f p) (e::es) [] cpos) xpos] [.ExceptHandler (some (.Name mx mp)) (some nm) [.Assign [.Name cn tp] (.Name nm ep) ap] hpos] [] [] pos) (tS own (aJz v n fa cs ic ie)):=by
 obtain ⟨fm,fdm,ps,F,hm,hk,hb⟩:=R;refine PS.imp (aGf hst hfr F (hr.mono hkk) hg hm hk hb ha hgM hmM hN hin hln (fun v=>mF (G7 (X:=(mrk X v).nox) hN hic hlc (bW hin (.inl hln) hd1 hd2) hs2 hfc)) hdb hdM he hpl hsw) fun D σ H ⟨ρ,fl,es,h,q⟩=>?_
 obtain ⟨ds,h1,h⟩:=aR h;refine ⟨ρ,ds,es.er,h1,fun vs H1 sm rs _=>?_⟩;split at h
 ·rename_i c c' fs hv;split at h
  ·rename_i hc;rw [Bool.and_eq_true,Bool.and_eq_true] at hc;have ec:=beq_iff_eq.mp hc.1.1;subst ec;cases h;unfold iK at hv;split at hv
   ·rename_i hl;obtain ⟨C,hn,hx⟩:=hcs _ hc.1.2;refine ⟨ds,of_decide_eq_true hl,rs,?_⟩;rw [hv];refine ⟨fs,C,rfl,by rw [hK];exact hn,fun H2 dd s2 xd=>⟨C,rfl,hx,fun a ha=>?_⟩⟩;have hl2:ie<σ.length:=by
     rw [es.len];exact of_decide_eq_true hc.2
    have rp:∀P,Rep P (upd H2 a (.ext (XO a C dd))) (.ref a) (.exc c' fs):=fun P=>.exc (C:=C) (dx:=dd) (by rw [hK];exact hn) aL (by
     cases dd with
     | none=>exact xd
     | some d=>
      have xd:H2 d=some (.ext (XD d fs)):=xd;show upd _ _ _ d=_;rw [bB (fun z=>by rw [z,ha] at xd;cases xd)];exact xd)
    have sm3:b_ H (upd H2 a (.ext (XO a C dd))):=sm.trans (s2.trans (oU ha));have es3:=(((es.same sm3).set oe (rp _)).set oc (rp _)).drop oe;refine ⟨.ref a,by rw [List.getElem?_set_self hl2],?_⟩;exact q _ _ (fun b o eb nb=>⟨sm3 b o eb,fun z=>nb ((lD oe b).mp ((lD oc b).mp ((RW oe b).mp z)))⟩) es3
   ·cases hv
  ·cases h
 ·cases h
end
section
variable {X:Cx} {i:Nat} {y:Str} {p np tpos pos:Pos} {es:List Expr} {kk:Nat} {ce:Expr} {cs:List Addr} {tbl:List (Str×Bool)} {v:V} {u:Value}
theorem Z0 {ρ:List D} {σ:L2.St} {H:Hp} {c:Str} {fs:List (Str×Str)} (er:ER H σ ρ) (h:ρ.getD i .uD=.exc c fs):∃a C dx,σ[i]?=some (some (.ref a))/\nsIn KFrag.K mainGlobals c=some (some (.ref C))/\H a=some (.ext (XO a C dx)):=by
 obtain ⟨v,h1,r1⟩:=er i (by rw [h];intro z;cases z);rw [h] at r1;cases r1 with
 | @exc a C dx _ _ n e q=>exact ⟨a,C,dx,h1,n,e⟩
theorem Z1 (hK:KFrag.K=X.K) (ht:∀c b,tbl.lookup c=some b->∃C,nsIn X.K mainGlobals c=some (some (.ref C))/\XC X.K C/\kitAny X.K (.ref C) (cs.map Value.ref)=some b) (hz:cs.length<=sizeLine) (hg:Gl X "isinstance") (hm:X.mg "isinstance" = none) (hN:X.N[i]?=some y) (hv:Vis X.env.scope y) (ha:PA X es fun _ H Q=>Q (cs.map V.ref) H)
  (hd:(y==("__debug__" : Str))=false:=by decide) (hcd:(y==("__classdict__" : Str))=false:=by decide) :
  PE X (.Call (.Name "isinstance" p) [.Name y np,.Tuple es kk tpos] [] pos) (gE (N7 tbl i) true):=by
 have hc:oA X (.builtin "isinstance") (fun vs H Q=>∃a tp C dx b,vs=[.ref a,.ref tp]/\H a=some (.ext (XO a C dx))/\H tp=some (.tup (cs.map V.ref))/\XC X.K C/\kitAny X.K (.ref C) (cs.map Value.ref)=some b/\Q (.bl b) H):=by
  intro pins s σ H vs us Q I r ⟨a,tp,C,dx,b,e,ea,et,c,hk,q⟩;subst e;cases r with
  | cons r1 r=>
   cases r with
   | cons r2 r=>
    cases r;cases r1;cases r2;obtain ⟨_,its,ri,o,ho,hoc,n,hod⟩:=I.hok tp _ et;have e2:=JP ri;subst e2;obtain ⟨c1,d1,dt,sl⟩:=o;replace hod:=congrArg Prod.fst hod;dsimp only at hoc hod;subst hoc hod;obtain ⟨px,_⟩:=I.hok a _ ea;exact kia_tup (RC c) I.kIn px.exc ho hk (by intro z;cases z) fun tk=>⟨.bl b,H,I.tok tk,rfl,q⟩
 refine PE.imp (wR hc hg hm (by decide +kernel) (bI (bW hN hv hd hcd) (bI (aD5 ha) iJ))) fun σ H Q ⟨ρ,d,er,h,q⟩=>?_
 unfold N7 at h;split at h
 ·rename_i c fs hρ;split at h
  ·rename_i b hb;cases h;obtain ⟨a,C,dx,h1,n,e⟩:=Z0 er hρ;obtain ⟨C',n',xc,hk⟩:=ht c b hb;rw [hK,n'] at n;cases n;refine ⟨.ref a,h1,⟨by simpa using hz,fun tp htp=>⟨a,tp,C,dx,b,rfl,?_,aL,xc,hk,q _ _ (oU htp) (.bl b) fun _=>.bl b⟩⟩⟩;rw [bB (bT e htp)];exact e
  ·cases h
 ·cases h
theorem N_ (hK:KFrag.K=X.K) (ht:∀c b,tbl.lookup c=some b->∃C,nsIn X.K mainGlobals c=some (some (.ref C))/\XC X.K C/\kitOne X.K (.ref C) u=some b) (hu:∀u',RelV v u'->u'=u) (hg:Gl X "isinstance") (hm:X.mg "isinstance" = none) (hN:X.N[i]?=some y) (hv:Vis X.env.scope y) (ha:PE X ce (tC v))
  (hst:starEach [ce] X.env=(false,eval ce X.env)::starEach [] X.env) (hpl:(backTo pos (starEach [ce] X.env)).any (·.1)=false)
  (hd:(y==("__debug__" : Str))=false:=by decide) (hcd:(y==("__classdict__" : Str))=false:=by decide) :
  PE X (.Call (.Name "isinstance" p) [.Name y np,ce] [] pos) (gE (N7 tbl i) true):=by
 have hc:oA X (.builtin "isinstance") (fun vs H Q=>∃a C dx b,vs=[.ref a,v]/\H a=some (.ext (XO a C dx))/\XC X.K C/\kitOne X.K (.ref C) u=some b/\Q (.bl b) H):=by
  intro pins s σ H vs us Q I r ⟨a,C,dx,b,e,ea,c,hk,q⟩;subst e;cases r with
  | cons r1 r=>
   cases r with
   | cons r2 r=>
    cases r;cases r1;have e2:=hu _ r2;subst e2;obtain ⟨px,_⟩:=I.hok a _ ea;exact kia_one (RC c) I.kIn px.exc hk (by intro z;cases z) fun tk=>⟨.bl b,H,I.tok tk,rfl,q⟩
 refine PE.imp (wR hc hg hm (by decide +kernel) (bI (bW hN hv hd hcd) (bI ha iJ hst)) (hpl:=hpl)) fun σ H Q ⟨ρ,d,er,h,q⟩=>?_
 unfold N7 at h;split at h
 ·rename_i c fs hρ;split at h
  ·rename_i b hb;cases h;obtain ⟨a,C,dx,h1,n,e⟩:=Z0 er hρ;obtain ⟨C',n',xc,hk⟩:=ht c b hb;rw [hK,n'] at n;cases n;exact ⟨.ref a,h1,a,C,dx,b,rfl,e,xc,hk,q _ _ (fun _ _ z=>z) (.bl b) fun _=>.bl b⟩
  ·cases h
 ·cases h
end
end Mi
end
section
namespace Mi
open PySem L2 PySem.W PySem.SeqAt PySem.Spec PyProof.Rows
noncomputable def aC5 (s:Stmt) (j:Nat):Stmt:=match s with
 | .ClassDef _ _ _ b _ _ _ _ _ _ _=>b.getD j (.Pass ⟨0,0,0,0⟩)
 | _=>.Pass ⟨0,0,0,0⟩
noncomputable def OD (P:Program) (w:World) (K:Frag) (mg:Str->Option Value) (base:Heap) (k:Nat) (c:Str) (fl:List Str):Prop:=
 ∃(C fi:Addr) (fd:FuncData) (ps:List Str),nsIn K mainGlobals c=some (some (.ref C))/\mg c=some (.ref C)/\XI K C fi/\o7 P w K mg base CX0 k fi fd ps (lU C fl)/\Binds K fd ps []/\fl.length<=sizeLine
noncomputable def aGg (p:Str->Bool->Prop):List (Str×Bool)->Prop
 | []=>True
 | (c,b)::r=>p c b/\aGg p r
theorem sX {p:Str->Bool->Prop}:∀{t:List (Str×Bool)},aGg p t->∀c b,t.lookup c=some b->p c b
 | [],_,_,_,h=>by cases h
 | (d,e)::r,⟨h1,h2⟩,c,b,h=>by
  rw [List.lookup_cons] at h;split at h
  ·rename_i z;rw [beq_iff_eq.mp z];cases h;exact h1
  ·exact sX h2 c b h
noncomputable def aC6 (p:Str->Prop):List Str->Prop
 | []=>True
 | c::r=>p c/\aC6 p r
theorem mV {p:Str->Prop}:∀{t:List Str},aC6 p t->∀c,t.contains c=true->p c
 | [],_,_,h=>by cases h
 | d::r,⟨h1,h2⟩,c,h=>by
  rw [List.contains_cons] at h;rcases (Bool.or_eq_true _ _).mp h with z|z
  ·rw [beq_iff_eq.mp z];exact h1
  ·exact mV h2 c z
theorem DR {P:Program} {w:World} {K:Frag} {mg:Str->Option Value} {base:Heap} {x qual:Str} {st:Stmt} {fad C M:Addr} {fd:FuncData} {N ps:List Str} {f:Str} {k:Nat} (F:Fun K x qual st fad fd) (S:bO N ps (aH st)) (hN:N.length=2) (hp:ps.length=2)
  (hbody:∀(cdv:Value) (A:Around) (outer:List Env) (s:Shared) (H:Hp) (E:XK),jX k (A.deeper (envOfC qual (aH st) s.heap.objs.size fad cdv))->
   PSs (lY CX0 P w K mg base N qual (aH st) fad cdv A outer s H E).nox (cZ st) (aD3 (aEi (tBase C (TY (S9 0) (TY (S9 1) aLs)))) (aGc C f (S9 0) (S9 1)))):o7 P w K mg base CX0 (k+1) fad fd ps (lU C [f]):=by
 refine F.ok S (fun vs H Q E ⟨e,ts,h1,h2,_⟩=>by rw [h1,hp];simp at h2;simp [h2]) fun cdv A outer s H vs Q E hr ⟨e,ts,h1,h2,h3,h4⟩=>⟨_,hbody cdv A outer s H E hr,?_⟩
 obtain ⟨t,rfl⟩:∃t,ts=[t]:=by
  match ts,h2 with
  | [t],_=>exact ⟨t,rfl⟩
 subst h1;have e0:L2.start N [V.ref e,V.str t]=[some (V.ref e),some (V.str t)]:=by
  unfold L2.start;rw [hN];rfl
 show aD3 _ _ _ (L2.start N [V.ref e,V.str t]) H;rw [e0];refine ⟨.ref e,rfl,.str t,rfl,e,[.str t],rfl,show 1<=sizeLine from by decide,h3,?_⟩;exact ⟨.str t,rfl,.ref e,rfl,e,t,rfl,rfl,h3,fun dx hd=>h4 dx hd⟩
variable [KFrag]
section
variable {P:Program} {w:World} {K:PySem.W.Frag} {mg:Str->Option Value} {base:Heap} {N:List Str} {qual:Str} {scope:Scope} {fad:Addr} {cd:Value} {A:Around} {outer:List Env} {s:Shared} {H:Hp} {E:XK} {own:Nat->Bool} {pos p cpos:Pos} {x:Str} {e:Expr} {es:List Expr} {fa:FA} {r:Bool} {fl:List Str} {k k':Nat}
theorem fZ (R:OD P w K mg base k x fl) (hK:KFrag.K=K) (hr:jX k' (A.deeper (envOfC qual scope s.heap.objs.size fad cd))) (hkk:k+1<=k') (hg:Gl (lY (CX2 P w) P w K mg base N qual scope fad cd A outer s H E) x) (ha:PA (lY (CX2 P w) P w K mg base N qual scope fad cd A outer s H E) (e::es) (gA fa r))
  (hdb:nDb x:=by decide) (he:starEach (e::es) (envOfC qual scope s.heap.objs.size fad cd)=(false,eval e (envOfC qual scope s.heap.objs.size fad cd))::starEach es (envOfC qual scope s.heap.objs.size fad cd):=by rfl) (hpl:(backTo cpos (starEach es (envOfC qual scope s.heap.objs.size fad cd))).any (·.1)=false:=by rfl) :
  PS (lY (CX2 P w) P w K mg base N qual scope fad cd A outer s H E) (.Raise (some (.Call (.Name x p) (e::es) [] cpos)) none pos) (tZ own E (cL x fl (noE fa))):=by
 obtain ⟨C,fi,fd,ps,hn,hm,M,F,hb,hz⟩:=R;exact aGe hK hn M F hr hkk hb hz hg hm ha hdb he hpl
end
theorem aGh {X:Cx} {x:Str} {p pos:Pos} {e:Expr} {es:List Expr} {fa:FA} {r:Bool} {fl:List Str} {k k':Nat} (R:OD X.prog X.w X.K X.mg X.base k x fl) (hK:KFrag.K=X.K) (hr:jX k' X.A) (hkk:k+1<=k') (hex:X.ex=[]) (hg:Gl X x) (ha:PA X (e::es) (gA fa r))
  (hdb:nDb x:=by decide) (he:starEach (e::es) X.env=(false,eval e X.env)::starEach es X.env:=by rfl) (hpl:(backTo pos (starEach es X.env)).any (·.1)=false:=by rfl):PE X (.Call (.Name x p) (e::es) [] pos) (gE (aJy x fl fa) true):=by
 obtain ⟨C,fi,fd,ps,hn,hm,M,F,hb,hz⟩:=R;exact aK0 hK hn M F hr hkk hb hz hex hg hm ha hdb he hpl
end Mi
end
section
namespace Mi
open PySem L2 PySem.W PySem.SeqAt PySem.Spec PyProof.Rows Builtin Builtin.ObjectAttr
theorem aC7 {prog:Program} {w:World} {A:Around} {E:Value->Shared->Prop} {K:Frag} {C:Addr} {h:Heap} {g:Array GenState} {d:Drawn} {t:Nat} {os:OsState} {x dx:Addr} {o:Obj} {ws:Array Value} {name:Str} {v:Value} {mA:Str->Option Value} {nl:List Str} {Q:Unit->Shared->Prop} (X:K.In h) (q:exC K C=true) (hs:findIn K (.ref C) "__setattr__" = some (some (.builtin "object.__setattr__"))) (hn:findIn K (.ref C) name=some none)
  (ho:mroIn K C (.type "object")=some true) (hx:h.get? x=some o) (hc:o.cls=.ref C) (hd:o.dict=some dx) (hw:o.data=.fields ws) (n:h.Ns1 dx mA) (hwi:Within mA nl) (hz:nl.length<=1000)
  (hq:∀h' tk,h'.Ns1 dx (fun y=>if y=name then some v else mA y)->Heap.SameBut dx h h'->Q () ⟨h',g,d,tk,os⟩):wpAny (model prog w) A (setAttr (Value.ref x) name v) Q E (⟨h,g,d,t,os⟩:Shared):=by
 obtain ⟨⟨bm,N,nm,qn,bs,sn,sub,ab,col,dd,k0,k1,k2,k3,k5,mN,hC,hN,T⟩⟩:=J2 X q;have SF:=PySem.F.store_ValueError;have hpass:=xZ T (.ref x);obtain ⟨od,hod,_⟩:=G_ n;have I:InstAt h x o C (some od):=⟨hx,hc,by unfold notCls;rw [hw],by rw [hd];exact hod⟩
 refine set_plain X I hs ?_;have up:Looks (model prog w) h (isInstance (.ref x) (.type "object")) true:=I.type.andThen (looks_mroIn X ho);refine codeAny_call_builtin SF.slot.plain SF.entry (@check_slot (model prog w) _ _ ⟨h,g,d,t+1,os⟩ "object.__setattr__" "object" "__setattr__" (.ref x) [.str name t,v] [] _ SF.kind SF.split up (SF.args (.ref x) (.str name t) v) ?_);have hm:Looks (model prog w) h (mroOf (.ref C)) (.ref C::bm):=((Looks.ld (part:=none) hC).andThen .now).andThen .now;show wpAny _ _ (Builtin.«object.__setattr__» ⟨[.ref x,.str name t,v],[]⟩) _ _ _;rw [osa_eq,refuse_eq];refine wpAny_bind (wpAny_bind (I.type.here (s:=⟨h,g,d,t+1,os⟩) (wpAny_bind (hm.here ?_))));rw [refuseLoop_ref,hpass];refine wpAny_pure (wpAny_bind (I.type.here (wpAny_bind ((looks_findIn X hn).here (wpAny_bind (wpAny_pure ?_))))));show wpAny _ _ (storeInOwnDict (.ref x) (.ref C) (.str name t) name v false) _ _ (⟨h,g,d,t+1,os⟩:Shared)
 repeat (first|(with_reducible refine wpAny_loadPart_at hx ?_;rw [hc])|wp_step)
 rw [hd];refine wpAny_pure ?_;show wpAny _ _ (storeInDict dx (.str name _) name v) _ _ _;unfold storeInDict;unfold newKeyGuard;refine wpAny_bind (wpAny_pure (wpAny_bind (wpAny_nsSet1 n fun h' hn' hs'=>?_)));obtain ⟨oD,_,_,g4,g5,g6⟩:=hn'.count (Within.cons name v hwi);refine wpAny_bind (wpAny_lookBehind g4 (by rw [g5];exact pastItsLine_dict (Nat.le_trans g6 (by rw [List.length_cons,sizeLine_eq];lia))) ?_)
 wp_walk
 exact hq h' _ hn' hs'
noncomputable def aK2 (C:Addr) (f:Str) (ta tv:TE):TS:=fun D σ H=>tv σ H fun y H1=>ta σ H1 fun x H2=>∃(a dx:Addr) (t:Str) (fs:List (Str×Str)),x=.ref a/\y=.str t/\H2 a=some (.ext (XO1 a C dx))/\H2 dx=some (.ext (XD dx fs))/\fs.length<=10/\fs.lookup f=none/\D.nx σ (upd H2 dx (.ext (XD dx (fs++[(f,t)]))))
theorem aGi {X:Cx} {C fi:Addr} {f:Str} {o value:Expr} {pos' pos:Pos} {ta tv:TE} (M:XI X.K C fi) (hn:findIn X.K (.ref C) f=some none) (ha:PE X o ta) (hv:PE X value tv) (hs:swapsWith value (some (.Attribute o f pos')) pos.line X.env=pure false:=by rfl):PS X (.Assign [.Attribute o f pos'] value pos) (aK2 C f ta tv):=by
 intro pins s σ H D I h;refine plainObj_wpAny_Assign_Attribute (thn (hv pins s σ H _ I h) fun u s1 ⟨y,H1,I1,ry,q⟩=>thn (ha pins s1 σ H1 _ I1 q) fun ov s2 ⟨x,H2,I2,rx,a,dx,t,fs,ex,ey,ea,ed,hl,hf,q2⟩=>?_) hs;subst ex ey;obtain rfl:ov=Value.ref a:=rx;obtain ⟨tk,rfl⟩:∃tk,u=Value.str t tk:=ry;obtain ⟨⟨t0,ht0⟩,_⟩:=I2.hok a _ ea;obtain ⟨⟨mA,n,wi,hm⟩,_⟩:=I2.hok dx _ ed;obtain ⟨hh,g,d,tt,os⟩:=s2;refine aC7 I2.kIn M.cl M.sa hn M.ob ht0 rfl rfl rfl n wi (by rw [List.length_map];lia) fun h' tk' n1 sb=>?_
 have xd:XD dx (fs++[(f,t)]) h':=by
  refine ⟨_,n1,fun g hg=>?_,fun g=>?_⟩
  ·rw [List.map_append];by_cases z:g=f
   ·simp [z]
   ·exact List.mem_append_left _ (wi g (by simpa [z] using hg))
  ·rw [List.lookup_append];by_cases z:g=f
   ·subst z;rw [hf];show match (Option.none.or ([(g,t)].lookup g)) with|some t=>_|none=>_
    rw [List.lookup_cons_self];exact ⟨tk,if_pos rfl⟩
   ·have e1:[(f,t)].lookup g=none:=by rw [List.lookup_cons,beq_eq_false_iff_ne.mpr z];rfl
    have:=hm g;rw [e1,Option.or_none];rw [if_neg z];exact this
 have mu:L2.Mut (H2 dx):=by rw [ed];exact True.intro
 obtain ⟨oo,eo⟩:∃oo,h'.get? dx=some oo:=let ⟨o,_,_,e,_⟩:=n1;⟨o,e⟩
 exact ⟨σ,_,I2.write (x:=dx) (e:=dx) (t':=tk') mu (.inl rfl) (fun b u hb z=>(sb.2 b hb).trans z) ⟨oo,eo⟩ (aJu xd),q2⟩
theorem aC8 {P:Program} {w:World} {K:Frag} {mg:Str->Option Value} {base:Heap} {x qual:Str} {st:Stmt} {fad C M:Addr} {fd:FuncData} {N ps:List Str} {f1 f2:Str} {k:Nat} (F:Fun K x qual st fad fd) (S:bO N ps (aH st)) (hN:N.length=3) (hp:ps.length=3) (hne:f2≠f1)
  (hbody:∀(cdv:Value) (A:Around) (outer:List Env) (s:Shared) (H:Hp) (E:XK),jX k (A.deeper (envOfC qual (aH st) s.heap.objs.size fad cdv))->
   PSs (lY CX0 P w K mg base N qual (aH st) fad cdv A outer s H E).nox (cZ st) (aD3 (aEi (tBase C (TY (S9 0) (TY (S9 1) (TY (S9 2) aLs))))) (aD3 (aGc C f1 (S9 0) (S9 1)) (aK2 C f2 (S9 0) (S9 2))))):o7 P w K mg base CX0 (k+1) fad fd ps (lU C [f1,f2]):=by
 refine F.ok S (fun vs H Q E ⟨e,ts,h1,h2,_⟩=>by rw [h1,hp];simp at h2;simp [h2]) fun cdv A outer s H vs Q E hr ⟨e,ts,h1,h2,h3,h4⟩=>⟨_,hbody cdv A outer s H E hr,?_⟩
 obtain ⟨t,u,rfl⟩:∃t u,ts=[t,u]:=by
  match ts,h2 with
  | [t,u],_=>exact ⟨t,u,rfl⟩
 subst h1;have e0:L2.start N [V.ref e,V.str t,V.str u]=[some (V.ref e),some (V.str t),some (V.str u)]:=by
  unfold L2.start;rw [hN];rfl
 show aD3 _ _ _ (L2.start N [V.ref e,V.str t,V.str u]) H;rw [e0];refine ⟨.ref e,rfl,.str t,rfl,.str u,rfl,e,[.str t,.str u],rfl,show 2<=sizeLine from by decide,h3,?_⟩;refine ⟨.str t,rfl,.ref e,rfl,e,t,rfl,rfl,h3,fun dx hd=>?_⟩;have ne:dx≠e:=fun z=>by rw [z,h3] at hd;cases hd
 refine ⟨.str u,rfl,.ref e,rfl,e,dx,u,[(f1,t)],rfl,rfl,aL,by rw [bB ne];exact aL,by simp,by rw [List.lookup_cons,beq_eq_false_iff_ne.mpr hne];rfl,?_⟩;have eq:upd (upd (upd H dx (.ext (XD dx [(f1,t)]))) e (.ext (XO1 e C dx))) dx (.ext (XD dx ([(f1,t)]++[(f2,u)])))=upd (upd H dx (.ext (XD dx ([f1,f2].zip [t,u])))) e (.ext (XO1 e C dx)):=by
  funext b
  unfold upd;by_cases hb:b=dx
  ·have hb2:b≠e:=fun z=>ne (hb.symm.trans z)
   rw [if_pos hb,if_neg hb2,if_pos hb];rfl
  ·rw [if_neg hb];by_cases hb2:b=e
   ·rw [if_pos hb2,if_pos hb2]
   ·rw [if_neg hb2,if_neg hb2,if_neg hb,if_neg hb]
 show Q .non _;rw [eq];exact h4 dx hd
end Mi
end
section
namespace Mi
open PySem L2 PySem.SeqAt PySem.Spec PyProof.Rows
noncomputable def zT (f:FX):List D->Res (List D×List D):=fun ρ=>do
 let p <- f ρ
 let its <- mK p.1
 .ok (its,p.2)
noncomputable def aGj (t:FXT) (f:FX):List D->List D->List D->Res (List D×List D)
 | acc,[],ρ=>.ok (acc,ρ)
 | acc,x::xs,ρ=>do
  let c <- t (ρ++[x])
  if c.1 then (do
   let p <- f c.2
   if p.1.pure then aGj t f (acc++[p.1]) xs p.2.dropLast else .bad) else aGj t f acc xs c.2.dropLast
noncomputable def zU (xi:List D->Res (List D×List D)) (t:FXT) (f:FX):FX:=fun ρ=>do
 let xs <- xi ρ
 if decide (xs.1.length<=lim) then (do
  let p <- aGj t f [] xs.1 xs.2
  .ok (.lst p.1,p.2)) else .bad
variable [KFrag]
noncomputable def gIE (own:Nat->Bool) (K:PySem.W.Frag) (f:List D->Res (List D×List D)):TI:=fun σ H R=>∃ρ items ρ',ES own H σ ρ/\f ρ=.ok (items,ρ')/\∀J H1,KU own σ H σ H1->ES own H1 σ ρ'->NS own ρ ρ'->ItQ K (New H) J H1 items->R J H1
section
variable {own:Nat->Bool} {X:Cx} {pos pos':Pos}
theorem aK3 {tg l:Expr} {f:FX} (hl:PE X l (gX own f)):PI X tg l (gIE own X.K (zT f)):=by
 intro pins s σ H R I ⟨ρ,items,ρ',E,h,q⟩;obtain ⟨⟨d,ρ1⟩,h1,h⟩:=aR h;obtain ⟨its,h2,h⟩:=aR h;cases h;exact thn (hl pins s σ H _ I ⟨ρ,d,_,E,h1,fun v H1 k1 E1 n1 r1=>(show (Rep All H1 v d/\∀J,(∀P:Addr->Prop,Rep P H1 v d->ItQ X.K P J H1 items)->R J H1) from ⟨r1.mono fun _ _=>trivial,fun J hJ=>q J H1 k1 E1 n1 (hJ _ r1)⟩)⟩) fun u s1 ⟨v,H1,I1,ru,r1,q1⟩=>BX I1 r1 ru h2 q1
theorem U_ {K:PySem.W.Frag} {xi:List D->Res (List D×List D)} {t:FXT} {f:FX} {n:Nat} (ho:own n=false) {σ:L2.St} {H:Hp} {Q:VK} (hn:σ.length=n) (h:gX own (zU xi t f) σ H Q) :
  IV (gIE own K xi) (o9 n) (gXT own t) (gX own f) 1 σ H Q:=by
 obtain ⟨ρ,d,ρ',E,h,q⟩:=h;obtain ⟨⟨items,ρi⟩,h1,h⟩:=aR h;split at h
 ·rename_i hk;obtain ⟨⟨ys,ρf⟩,h2,h⟩:=aR h;cases h;refine ⟨ρ,items,ρi,E,h1,fun J H1 k1 E1 ns1 hJ p hp=>?_⟩;have hp0:H p=none:=aFz k1 E1 hp;have hJ1:ItQ K (fun a=>¬Own own σ a) J H1 items:=hJ.keep (fun _ _ e _=>e) fun a ha=>xW E ha
  refine ⟨fun i n' vs H'=>n'=items.length-i/\i<=items.length/\H' p=some (.lst vs)/\KU own σ H1 σ H'/\∃acc ρc,acc.length<=i/\D.aX acc=true/\bQ (fun _=>False) H' vs acc/\ES own H' σ ρc/\NS own ρ ρc/\aGj t f acc (items.drop i) ρc=.ok (ys,ρf),⟨items.length,?_⟩,?_⟩
  ·exact ⟨rfl,Nat.zero_le _,aL,.same (b_.upd hp),[],ρi,Nat.zero_le _,rfl,.nil,E1.same (b_.upd hp),ns1,h2⟩
  ·rintro i n' vs H' ⟨rfl,hi,hH,ku,acc,ρc,hal,hpa,racc,Ec,ns,hf⟩;refine ⟨hH,?_⟩;have hJ':ItQ K (fun a=>¬Own own σ a) J H' items:=hJ1.ku ku E1;rcases Nat.lt_or_ge i items.length with hlt|hge
   ·refine .inr ?_;have e:items[i]?=some items[i]:=List.getElem?_eq_getElem hlt;obtain ⟨g1,g2⟩:=hJ'.go e;have hl1:items.length<=lim:=of_decide_eq_true hk;refine ⟨g1,?_,fun x H2 hy=>?_⟩
    ·rw [racc.length];exact Nat.lt_of_le_of_lt hal (Nat.lt_of_lt_of_le hlt (Nat.le_trans hl1 (by rw [sizeLine_eq];decide)))
    ·obtain ⟨sH,rx⟩:=g2 x H2 hy;have es:(σ++List.replicate 1 none).set n (some x)=σ++[some x]:=by
      subst hn;simp
     show Ext _ ((σ++List.replicate 1 none).set n (some x))/\_;rw [es];rw [List.drop_eq_getElem_cons hlt] at hf;obtain ⟨⟨b,ρt⟩,hft,hf⟩:=aR hf;have Ec2:=Ec.same sH;obtain ⟨E2,hO⟩:=Ec2.snoc (by rw [hn];exact ho) rx;have step:∀H5 ρ2,KU own (σ++[some x]) H2 (σ++[some x]) H5->ES own H5 (σ++[some x]) ρ2->NS own (ρc++[items[i]]) ρ2->H5 p=some (.lst vs)/\ES own H5 σ ρ2.dropLast/\NS own ρ ρ2.dropLast/\KU own σ H1 σ H5/\bQ (fun _=>False) H5 vs acc:=by
      intro H5 ρ2 k5 E5 ns5;have k5':KU own σ H2 σ H5:=fun b ob eb nb=>⟨(k5 b ob eb (by rw [hO];exact nb)).1,nb⟩
      have hpn:¬Own own σ p:=xW E hp0;have hp5:H5 p=some (.lst vs):=(k5' p _ (sH p _ hH) hpn).1;have E5':ES own H5 σ ρ2.dropLast:=E5.aJi hO;have hlc:ρc.length=σ.length:=Ec.len.symm;refine ⟨hp5,E5',fun j hj=>?_,ku.trans ((KU.same sH).trans k5'),(racc.same sH).keep (fun c oc hc hq=>?_) fun _ z=>z⟩
      ·by_cases hjl:j<σ.length
       ·have hl2:ρ2.length=σ.length+1:=by rw [<-E5.len];simp
        rw [<-ns j hj,List.getD_eq_getElem?_getD,List.getElem?_dropLast,if_pos (by lia),<-List.getD_eq_getElem?_getD,ns5 j hj,List.getD_eq_getElem?_getD,List.getElem?_append_left (by lia),<-List.getD_eq_getElem?_getD]
       ·rw [List.getD_eq_getElem?_getD,List.getElem?_eq_none (by rw [<-E5'.len];lia),List.getD_eq_getElem?_getD,List.getElem?_eq_none (by rw [<-E.len];lia)]
      ·refine (k5' c oc hc fun nn=>?_).1;obtain ⟨o',e',hm⟩:=Ec2.live nn;rw [hc] at e';cases e';rcases hq with hq|hq
       ·exact hq
       ·rw [hm] at hq;cases hq
     refine ⟨⟨by simp,fun j v hv=>?_⟩,?_⟩
     ·by_cases hj:j<σ.length
      ·rw [List.getElem?_append_left hj] at hv ⊢;exact hv
      ·rw [List.getElem?_append_right (by lia),List.getElem?_replicate] at hv;split at hv <;> cases hv
     ·refine ⟨_,b,ρt,E2,hft,fun H4 k4 E4 ns4=>?_⟩;cases b
      ·rw [if_neg (by simp)] at hf ⊢;obtain ⟨s1,s2,s3,s4,s5⟩:=step H4 ρt k4 E4 ns4;exact ⟨items.length-(i+1),by lia,rfl,hlt,s1,s4,acc,ρt.dropLast,by lia,hpa,s5,s2,s3,hf⟩
      ·rw [if_pos rfl] at hf ⊢;obtain ⟨⟨y,ρ2⟩,hfy,hf⟩:=aR hf;split at hf
       ·rename_i hpy;refine ⟨_,y,ρ2,E4,hfy,fun w H5 k5 E5 ns5 r5=>?_⟩;obtain ⟨s1,s2,s3,s4,s5⟩:=step H5 ρ2 (k4.trans k5) E5 (ns4.trans ns5);obtain ⟨E6,k6⟩:=E1.aO6 (o:=.lst (vs++[w])) s4 s2 (fun j hj=>(s3 j hj).trans (ns1 j hj).symm) hp s1;refine ⟨s1,items.length-(i+1),by lia,rfl,hlt,aL,k6,acc++[y],ρ2.dropLast,?_,?_,?_,E6,s3,hf⟩
        ·rw [List.length_append,List.length_singleton];lia
        ·rw [oO,hpa];simp [D.aX,hpy]
        ·have r2:bQ (fun _=>False) H5 (vs++[w]) (acc++[y]):=s5.snoc (r5.bK hpy);exact r2.keep (xP s1 rfl) fun _ z=>z
       ·cases hf
   ·refine .inl ⟨hJ'.stop hge,?_⟩;rw [List.drop_eq_nil_of_le hge] at hf;cases hf;exact q _ _ (k1.trans ku) Ec ns (.lst hH hp0 (racc.mono fun _ z=>z.elim))
 ·cases h
theorem aC9 {scope:Scope} {elt iter c:Expr} {tg:Expr} {xi:List D->Res (List D×List D)} {t:FXT} {f:FX} {n:Nat} {cn y:Str} {py pos2:Pos} {iy:Nat} {o:Bool} (S:cD X.N X.env.scope scope [cn]) (hn:X.N.length=n) (hcalm:X.calm=true) (hon:own n=false) (hi:PI X tg iter (gIE own X.K xi)) (hg:∀y,PG (mkC X scope [cn] y) tg (o9 n)) (hc:∀y,PT (mkC X scope [cn] y) c (gXT own t)) (he:∀y,PE (mkC X scope [cn] y) elt (gX own f))
  (hs:∀x,foldedSetIterable iter X.env x=pure x) (ho:own iy=o) (hNn:X.N.Nodup) (hiy:X.N[iy]?=some y) (hxy:Loc X.env.scope y) (hfy:X.fn y=true\/X.env.scope.names.lookup y=some .local) (hsw:swapsWith (.ListComp elt [⟨tg,iter,[c],0⟩] scope pos) (some (.Name y py)) pos2.line X.env=pure true) :
  PS X (.Assign [.Name y py] (.ListComp elt [⟨tg,iter,[c],0⟩] scope pos) pos2) (tS own (fX o iy (zU xi t f))):=by
 intro pins s σ H D I h;refine JD S hcalm hi (fun X' cc=>by obtain ⟨y,rfl⟩:=j8 cc;exact hg y) (fun X' cc=>by obtain ⟨y,rfl⟩:=j8 cc;exact hc y) (fun X' cc=>by obtain ⟨y,rfl⟩:=j8 cc;exact he y) hs hNn hiy hxy hfy hsw pins s σ H D I ?_;exact U_ hon (I.len.trans hn) (RK ho h)
end
end Mi
end
section
local macro_rules | `(tactic| trivial) => `(tactic| first | exact Or.inl rfl | exact Or.inr rfl | exact Or.inr (Or.inl rfl) | exact Or.inr (Or.inr rfl))
namespace Lk49
open PySem L2 Mi PySem.W
noncomputable def top (i:Nat):Stmt:=PySem.Challenge.pw_hookmill_k49_lacking.main.body.getD i (.Pass ⟨0,0,0,0⟩)
abbrev nU:Stmt:=top 29
def OJ:Nat->Bool:=fun i=>i==0||i==1000000
noncomputable def yE:FS:=aW (bV false 1 (b2 getD fC fM) false) (aW (bV false 2 (b2 getD fC dZ) false) (aW (Y0 0 dZ (b2 (aU .add) cO dZ)) (aW (sIf (bTB (b2 (YD .lt) cO (aV mC (aB fK aO)))) (H_ (b2 getD fK cO) false) iQ) (aW (sIf (bTB (b2 (cC .eq) (aV mC (aB fK aO)) fM)) (H_ (b2 (aU .add) (b2 CQ (b2 CQ cO cO) j0) cO) true) iQ) (H_ (b2 (aU .add) (b2 (aU .fdiv) (b2 getD fK (b2 (aU .mod) cO (aV mC (aB fK aO)))) oK) (b2 CQ cO cO)) true)))))
def aP:List D->Res D:=fnX 1 1 3 yE
abbrev h_:Stmt:=top 30
def J5:Nat->Bool:=fun i=>i==0||i==9||i==1000000
noncomputable def J6:FS:=aW (bV false 1 (bC (.str "abcdefghijklmnopqrstuvwxyz")) true) (aW (fX false 2 (bY aP 1 0 aO)) (aW (bV false 3 (b2 getD (l_ (aB dZ (aB j0 (aB VN (aB (bC (.int 7)) (aB aLa (aB (bC (.int 25)) aO))))))) (b2 (aU .mod) (b2 (aU .fdiv) cO j0) W6)) false) (aW (bV false 4 (b2 (aU .mod) (b2 (aU .fdiv) cO yV) nA) true) (aW (fX false 5 (bY aP 1 0 aO)) (aW (bV false 6 (b2 (aU .mod) fO aIb) true) (aW (bV false 7 (bM joinM (bC (.str "")) (aB (cN 14 (jC (aB eN aO) iM) nC eE (b2 getD fK (b2 (aU .mod) (b2 (aU .add) (b2 (aU .fdiv) fO aIb) (b2 CQ jZ (b2 (aU .add) fP (b2 (aU .mod) (b2 (aU .fdiv) fO aF6) VN)))) nA)) false) aO)) true) (aW (fX false 8 (x2L (aU .mod) (bY aP 1 0 aO) (b2 (aU .add) eN dZ))) (aW (sIf (bTB (b2 (cC .eq) (b2 (aU .mod) cO j0) oK)) (bV false 7 (m9 dY fL (eV W6)) true) iQ) (aW (bV true 9 (l_ aO) true) (aW (yU (jC (aB nA aO) iM) (tg1 10) (aW (bV false 11 (b2 (aU .mod) (b2 (aU .add) (b2 CQ fQ d_) fP) nA) true) (sIf (bTB (b2 (cC .eq) (b2 (aU .mod) cO j0) dZ)) (IK 9 (b2 CQ (b2 getD fK (b2 (aU .mod) (b2 (aU .add) fP (b2 (aU .mod) lV VP)) nA)) (b2 (aU .add) dZ (b2 (aU .fdiv) lV VP)))) (sIf (bTB (b2 (cC .eq) (b2 (aU .mod) cO j0) oK)) (aW (bV false 12 (b2 getD fK (b2 (aU .mod) (b2 (aU .add) fP (b2 (aU .mod) lV W6)) nA)) false) (aW (bV false 13 (b2 getD fK (b2 (aU .mod) (b2 (aU .add) fP (b2 (aU .fdiv) lV W6)) nA)) false) (IK 9 (b2 (aU .add) (b2 (aU .add) (b2 (aU .add) (m9 dY fL (eV lZ)) nP) T7) (m9 dY (eV lZ) fL))))) (IK 9 (b2 (aU .add) (b2 (aU .add) (m9 dY fL (eV lZ)) (b2 getD fK lV)) (m9 dY (eV lZ) fL))))))) (aW (sIf (bOr (bTB (b2 inX (bC (.str "copy")) BL)) (bTB (b2 inX (bC (.str "drop")) BL))) (bV true 9 (cN 14 (bL BL false) nC eE (b2 (aU .add) jZ (bC (.str "e"))) true) true) iQ) (zP 9))))))))))))
def fD:List D->Res D:=fnX 1 1 14 J6
abbrev iY:Stmt:=top 31
noncomputable def VB:Nat->Bool:=fun i=>i==0||i==4||i==5||i==10||i==1000000
noncomputable def sY:FS:=aW (fX false 2 (bY aP 1 0 aO)) (aW (bV false 3 (b2 (aU .add) dZ (b2 (aU .mod) cO j0)) true) (aW (bV true 4 (m9 fK fL (eV d_)) true) (aW (bV true 5 (cN 12 (jC (aB d_ aO) iM) nC eE (eX (aB (b2 getD fK (b2 (aU .add) j0 nP)) (aB (b2 getD fP nP) (aB (eX aO) aO)))) false) true) (aW (yU (jC (aB (b2 (aU .mod) (b2 (aU .fdiv) cO j0) VP) aO) iM) (tg1 6) (aW (fX false 7 (bY aP 1 0 aO)) (aW (bV false 8 (cN 12 (jC (aB (b2 (aU .mod) (b2 (aU .fdiv) dY j0) VP) aO) iM) nC eE (b2 getD fP (b2 (aU .mod) (b2 (aU .fdiv) dY (b2 getD (l_ (aB aB8 (aB (bC (.int 36)) (aB (bC (.int 108)) aO)))) nP)) d_)) false) true) (IK 5 (eX (aB (b2 getD fK (b2 (aU .add) (b2 (aU .add) j0 d_) eN)) (aB (b2 getD fP (b2 (aU .mod) dY d_)) (aB (aV eO (aB lZ aO)) aO)))))))) (aW (bV false 9 (b2 (aU .mod) (b2 (aU .fdiv) cO aB8) (aV mC (aB fO aO))) true) (aW (bV true 10 (l_ aO) true) (aW (Y8 (aJj (x2R (aU .add) dZ (x2L (aU .mod) (bY aP 1 0 aO) j0))) (tg1 6) (aW (fX false 7 (bY aP 1 0 aO)) (aW (bV false 11 (cN 12 (jC (aB (b2 (aU .mod) (b2 (aU .fdiv) dY aLa) j0) aO) iM) nC eE (b2 getD fP (b2 (aU .mod) (b2 (aU .fdiv) dY (b2 getD (l_ (aB (bC (.int 27)) (aB (bC (.int 81)) aO))) nP)) d_)) false) true) (IK 10 (eX (aB (b2 getD fK (b2 (aU .add) aF7 eN)) (aB (b2 getD fP (b2 (aU .mod) dY d_)) (aB (b2 getD fP (b2 (aU .mod) (b2 (aU .fdiv) dY j0) d_)) (aB (aV eO (aB lV aO)) aO))))))))) (JX (aB (bOw 4) (aB (b2 (aU .add) (m9 fO (eV BL) fL) (m9 fO fL (eV BL))) (aB (bOw 10) aO)))))))))))
def iZ:List D->Res D:=fnX 1 2 12 sY
abbrev jN:Stmt:=top 34
def J7:Nat->Bool:=fun i=>false
noncomputable def wH:FS:=aW (bV false 3 (cN 6 (bL cO false) nC eE (eX (aB (b2 getD eN fM) (aB (b2 getD eN dZ) aO))) false) true) (aW (iD 1 (tg1 4) (iD 0 (tg1 5) (sIf (W7 (bTB (b2 (cC .eq) (b2 getD fO dZ) (b2 getD fP oK))) (bTB (b2 (cC .notin) (eX (aB (b2 getD fP fM) (aB (b2 getD fO fM) aO))) d_))) (nZ (l_ (aB (bPu (b2 getD fP fM)) (aB (bPu (b2 getD fO fM)) aO))) true) iQ))) (nZ (l_ aO) true))
def iB:List D->Res D:=fnS 3 6 wH
abbrev lH:Stmt:=top 35
def yF:Nat->Bool:=fun i=>false
noncomputable def O3 (rr:List D->Res D):FS:=aW (sIf (bTr (b1 (UG .str) fK)) (nZ (T_ (b1 (UG .str) fC) (b2 (cC .eq) fC fK)) true) iQ) (aW (sIf (bOr (aAq (bTr (b1 (UG .tuple) fC))) (bTB (b2 (cC .ne) (aV mC (aB fC aO)) (aV mC (aB fK aO))))) (nZ (bC (.bl false)) true) iQ) (nZ (aV aM8 (aB (cN 2 (jC (aB fC (aB fK aO)) aM9) (W8 2) eE (aV (iK 2 rr) (aB cO (aB d_ aO))) true) aO)) true))
noncomputable def bJ:Nat->List D->Res D
 | 0=>fnS 2 2 aN0
 | m+1=>fnS 2 2 (O3 (bJ m))
abbrev sZ:Stmt:=top 19
def VD:Nat->Bool:=fun i=>i==1
noncomputable def VF:FS:=aW (bV true 1 (bC (.dct [])) true) (aW (yU (bL (b2 getD fC dZ) false) (tgN [2,3,4]) (aB9 1 cO (eX (aB d_ (aB fP aO))))) (aW (yU (bL (b2 getD fC oK) false) (tgN [2,3,5,6]) (aB9 1 cO (eX (aB d_ (aB (b2 JQ (eX (aB fO aO)) eN) aO))))) (aIc 1)))
def i_:List D->Res D:=fnS 1 7 VF
abbrev yG:Stmt:=top 21
def Z2:Nat->Bool:=fun i=>false
noncomputable def Z3:FS:=aW (noE (sIf (bTB (b2 inX fK fC)) (nZ (b2 getD fC fK) false) iQ)) (aW (noE (sIf (bTB (b2 inX fK cO)) (nZ (eX (aB (b2 getD cO fK) (aB (eX aO) aO))) false) iQ)) (cL "NoName" ["word"] (noE (aB fK aO))))
def mW:List D->Res D:=fnS 3 3 Z3
abbrev mX:Stmt:=top 20
def J8:Nat->Bool:=fun i=>i==4
noncomputable def wI:FS:=aW (noE (bV true 4 (l_ (aB (bPu cO) aO)) true)) (aW (iD 1 (noT (tg1 5)) (aW (sIf (noE (aAq (bTr fP))) (cL "BadKind" ["word"] (noE (aB fO aO))) iQ) (aW (bV false 6 (aV (iK 3 mW) (noE (aB fC (aB fO (aB d_ aO))))) true) (aW (aBu (noE (xTB (x2R (cC .ne) (bPu (b2 getD eN fM)) (NZ 4)))) (cL "BadKind" ["word"] (noE (aB fO aO))) iQ) (noE (aFw 4 (b1 aDr (b2 getD eN dZ)))))))) (sIf (noE (bTr fP)) (cL "BadKind" ["word"] (noE (aB (bC (.str "")) aO))) iQ))
def cV:List D->Res D:=fnS 4 7 wI
abbrev aGk:Stmt:=top 23
abbrev lJ:Stmt:=top 26
def DW:Nat->Bool:=fun i=>i==6
noncomputable def DX:FS:=aW (noE (bV false 5 (b2 JQ (b2 getD (b2 getD fC cO) dZ) (m9 (b2 getD (b2 getD fC fK) dZ) (eV dZ) fL)) false)) (aW (sIf (noE (bTB (b2 (cC .ne) (aV mC (aB d_ aO)) (aV mC (aB fO aO))))) (cL "BadKind" ["word"] (noE (aB fK aO))) iQ) (aW (noE (bV true 6 (aV aFs (aB fP aO)) true)) (aW (noE (iD 3 (tg1 7) (ZM 6 dY))) (noE (nZ (aV YT (aB d_ (aB fO aO))) true)))))
def eF:List D->Res D:=fnS 5 8 DX
abbrev gB:Stmt:=top 25
def DY:Nat->Bool:=fun i=>i==5
noncomputable def lK:FS:=aW (noE (bV false 2 (aV (iK 1 i_) (aB fC aO)) true)) (aW (noE (bV false 3 (cN 10 (bL (b2 getD fC dZ) false) nC eE (b2 getD fQ fM) false) true)) (aW (noE (bV false 4 (cN 10 (bL (b2 getD fC oK) false) nC eE (b2 getD fQ fM) false) true)) (aW (noE (bV true 5 (bC (.dct [])) true)) (yU (noE (bL (b2 getD fC j0) false)) (noT (tgN [6,7,8,9])) (aW (sIf (noE (bTB (b2 (cC .notin) eN fP))) (cL "NoName" ["word"] (noE (aB eN aO))) iQ) (aW (sIf (noE (bTB (b2 (cC .notin) dY d_))) (cL "NoName" ["word"] (noE (aB dY aO))) iQ) (aW (sIf (noE (bTB (b2 (cC .ne) (b2 getD (b2 getD cO dY) fM) (b2 getD (b2 getD (b2 getD cO eN) dZ) fM)))) (cL "BadKind" ["word"] (noE (aB dY aO))) iQ) (aW (sIf (noE (bTB (b2 inX (eX (aB eN (aB dY aO))) fO))) (cL "Twice" ["word"] (noE (aB eN aO))) iQ) (aW (noE (aB9 5 (eX (aB eN (aB dY aO))) (bC (.bl true)))) (jD (aV (iK 4 cV) (noE (aB cO (aB BL (aB (b2 getD (b2 getD cO eN) fM) (aB (aV (iK 5 eF) (aB cO (aB eN (aB dY (aB lZ (aB fK aO)))))) aO))))))))))))))))
def dN:List D->Res D:=fnS 2 10 lK
abbrev d7:Stmt:=top 27
def yH:Nat->Bool:=fun i=>false
noncomputable def yI:FS:=aW (noE (bV false 1 (cN 7 (bL (b2 getD fC j0) false) nC eE (eX (aB (b2 getD dY fM) (aB (b2 getD dY dZ) aO))) false) true)) (yU (noE (bL (b2 getD fC oK) false)) (noT (tgN [2,3,4,5])) (yU (noE (bL (cN 7 (bL (b2 getD fC dZ) false) (W8 3) (bTB (b2 (cC .eq) lZ fP)) dY false) true)) (noT (tg1 6)) (sIf (noE (bTB (b2 (cC .notin) (eX (aB cO (aB eN aO))) fK))) (cL "Lacking" ["taker", "maker"] (noE (aB cO (aB eN aO)))) iQ)))
def d8:List D->Res D:=fnS 1 7 yI
abbrev lL:Stmt:=top 24
def D_:Nat->Bool:=fun i=>false
noncomputable def oX:FS:=iD 1 (noT (tg1 2)) (sIf (noE (bTB (b2 (cC .notin) cO (b2 getD fC fM)))) (cL "NoName" ["word"] (noE (aB cO aO))) iQ)
def dO:List D->Res D:=fnS 2 3 oX
abbrev O4:Stmt:=top 22
def aGl:Nat->Bool:=fun i=>i==1
noncomputable def Z4:FS:=aW (noE (bV true 1 (aDs (bC (.str "copy")) (bC (.bl true)) (bC (.str "drop")) (bC (.bl true))) true)) (aW (noE (yU (bL (b2 getD fC fM) false) (tg1 2) (ZM 1 cO))) (aW (yU (noE (bL (b2 getD fC dZ) false)) (noT (tgN [2,3,4])) (aW (noE (ZM 1 cO)) (jD (aV (iK 2 dO) (noE (aB fC (aB (b2 JQ (eX (aB d_ aO)) fP) aO))))))) (aW (yU (noE (bL (b2 getD fC oK) false)) (noT (tgN [2,3,5,6])) (aW (noE (ZM 1 cO)) (jD (aV (iK 2 dO) (noE (aB fC (aB (b2 JQ (eX (aB d_ (aB fO aO))) eN) aO))))))) (aW (jD (aV (iK 2 dN) (noE (aB fC (aB fK aO))))) (aW (jD (aV (iK 1 d8) (noE (aB fC aO)))) (noE (nZ fC false)))))))
def gK:List D->Res D:=fnS 1 7 Z4
abbrev jU:Stmt:=top 36
def yX:Nat->Bool:=fun i=>false
noncomputable def jV:FS:=aW (bV false 3 (bC .non) true) (aW (aJz gK 1 (aB fC aO) ["BadKind", "Lacking", "NoName", "Twice"] 3 4) (aW (sIf (bTr (N7 [("BadKind",false),("Lacking",false),("NoName",true),("Twice",false)] 3)) (nZ (bC (.bl false)) true) iQ) (aW (sIf (bOr (bTr (N7 [("BadKind",false),("Lacking",false),("NoName",false),("Twice",true)] 3)) (aAq (bTr (N7 [("BadKind",true),("Lacking",true),("NoName",true),("Twice",true)] 3)))) (nZ (bC (.bl false)) true) iQ) (aW (sIf (bOr (bTB (b2 (cC .ne) (N7 [("BadKind",true),("Lacking",false),("NoName",false),("Twice",false)] 3) (b2 (cC .ne) cO (bC (.str ""))))) (bTB (b2 (cC .ne) (N7 [("BadKind",false),("Lacking",true),("NoName",false),("Twice",false)] 3) (b2 (cC .eq) cO (bC (.str "")))))) (nZ (bC (.bl false)) true) iQ) (aW (sIf (bTB (b2 (cC .ne) cO (bC (.str "")))) (nZ (T_ (b1 (UG .str) (mU ["BadKind", "Lacking", "NoName", "Twice"] "word" 3)) (b2 (cC .eq) (mU ["BadKind", "Lacking", "NoName", "Twice"] "word" 3) cO)) true) iQ) (nZ (aV (iK 2 (bJ 6)) (aB (eX (aB (mU ["BadKind", "Lacking", "NoName", "Twice"] "taker" 3) (aB (mU ["BadKind", "Lacking", "NoName", "Twice"] "maker" 3) aO))) (aB (eX (aB (b2 getD fK fM) (aB (b2 getD fK dZ) aO))) aO))) true))))))
def dW:List D->Res D:=fnS 3 5 jV
abbrev jO:Stmt:=top 32
def J9:Nat->Bool:=fun i=>i==0||i==4||i==5||i==1000000
noncomputable def J_:FS:=aW (bV true 4 (l_ aO) true) (aW (bV true 5 (l_ (aB (bPu cO) aO)) true) (aW (aN1 (bTB (b2 (cC .ne) fO (l_ aO))) (aW (U0 5 6) (aW (bV false 7 (b2 (aU .sub) (b2 (aU .sub) (b2 (aU .sub) d_ (aV mC (aB fP aO))) (aV mC (aB fO aO))) dZ) true) (aW (bV false 8 (cN 10 (bL fK false) nC (W7 (bTB (b2 (cC .eq) (b2 getD fQ dZ) eN)) (bTB (b2 (YD .le) (aV mC (aB (b2 getD fQ oK) aO)) dY))) fQ false) true) (aW (fX false 9 (x2R getD lZ (x2L (aU .mod) (bY aP 1 0 aO) (aV mC (aB lZ aO))))) (aW (IK 4 (b2 getD BL fM)) (aFw 5 (b1 aDr (b2 getD BL oK))))))))) (zP 4)))
def iC:List D->Res D:=fnX 1 4 10 J_
abbrev fG:Stmt:=top 33
def KC:Nat->Bool:=fun i=>i==0||i==5||i==1000000
noncomputable def wJ:FS:=aW (bV false 4 (b2 (aU .add) fK (cN 14 (bL cO false) nC eE (eX (aB (b2 getD jZ fM) (aB (b2 getD jZ dZ) (aB (b2 JQ (eX (aB (b2 getD jZ oK) aO)) (b2 getD jZ j0)) aO)))) false)) true) (aW (bV true 5 (l_ aO) true) (aW (iD 2 (tg1 6) (iD 1 (tg1 7) (sIf (bTB (b2 (cC .eq) (b2 getD dY dZ) (b2 getD eN oK))) (aW (bV false 8 (b2 JQ (b2 getD dY oK) (b2 getD eN j0)) false) (aW (bV false 9 (b2 (aU .add) dZ (b2 (aU .mod) (aV mC (aB fO aO)) VP)) true) (aW (bV false 10 (cN 14 (jC (aB (aV mC (aB lZ aO)) aO) iM) nC eE (b2 getD d_ (b2 (aU .add) (bC (.int 13)) (b2 (aU .mod) (b2 (aU .add) (aV mC (aB fO aO)) (b2 CQ jZ BL)) VN))) false) true) (aW (bV false 11 (cN 14 (jC (aB (aV mC (aB lZ aO)) aO) iM) nC eE (eX (aB (b2 getD fQ jZ) (aB (b2 getD lZ jZ) (aB (eX aO) aO)))) false) true) (aW (fX false 12 (bY iC 4 0 (aB (b2 (aU .add) lV fP) (aB (bPu (b2 getD eN dZ)) (aB (bPu W6) aO))))) (IK 5 (eX (aB (b2 getD eN fM) (aB (b2 getD dY fM) (aB (aV eO (aB fQ aO)) (aB (aV eO (aB nP aO)) aO))))))))))) iQ))) (aW (fX false 13 (x2L (aU .mod) (bY aP 1 0 aO) (aV mC (aB fO aO)))) (H_ (b2 (aU .add) (m9 fO (eV T7) fL) (m9 fO fL (eV T7))) true))))
def cW:List D->Res D:=fnX 1 4 14 wJ
abbrev yZ:Stmt:=top 37
def o_law:Nat->Bool:=fun i=>i==1
noncomputable def aGm:FS:=aW (bV true 1 (aLd (l_ (aB (m9 fC fL (eV QK)) (aB fM aO)))) true) (aW (fX false 2 (bY aP 1 1 aO)) (aW (fX false 3 (bY fD 1 1 aO)) (aW (Y9 (bY iZ 2 1 (aB d_ aO)) [4,5,6]) (aW (fX false 7 (zU (zT (bY cW 4 1 (aB fO (aB eN (aB d_ aO))))) (xTB (x2L (cC .ne) (x2L (aU .mod) (bY aP 1 1 aO) VP) dZ)) (xE W5))) (aW (bV false 8 (aV (iK 3 iB) (aB fO (aB eN (aB dY aO)))) true) (aW (bV false 9 (aJy "Lacking" ["taker", "maker"] (aB (b2 getD d_ yV) (aB (b2 getD d_ T9) aO))) true) (aW (sIf (aAq (bTr (aV (iK 2 (bJ 6)) (aB (eX (aB (mU ["Lacking"] "taker" 9) (aB (mU ["Lacking"] "maker" 9) aO))) (aB (eX (aB (b2 getD d_ yV) (aB (b2 getD d_ T9) aO))) aO))))) (nZ (bC (.bl false)) true) iQ) (aW (bV false 10 (bC (.str "")) true) (aW (sIf (W7 (bTB (b2 (cC .eq) (b2 (aU .mod) cO VN) dZ)) (bTB (b2 (cC .ne) dY (l_ aO)))) (aW (aIz (b2 getD dY (b1 aF8 dZ)) (tgN [11,12,13,14])) (aW (bV false 10 (b2 getD (l_ (aB (bPu (b2 getD d_ yV)) (aB (bPu (b2 getD (b2 getD fO fM) fM)) (aB (bPu (b2 getD fP fM)) aO)))) (b2 (aU .mod) (b2 (aU .fdiv) cO VN) j0)) false) (bV false 7 (b2 (aU .add) (m9 dY fL (eV (b1 aF8 dZ))) (l_ (aB (bPu (eX (aB lV (aB nP (aB T7 (aB (b2 JQ jZ (eX (aB fQ aO))) aO)))))) aO))) true))) iQ) (aW (bV false 15 (eX (aB (aV eO (aB fP aO)) (aB (aV eO (aB fO aO)) (aB (aV eO (aB eN aO)) (aB (aV eO (aB dY aO)) aO))))) false) (aW (sIf (bOr (bTB (b2 (cC .ne) fQ (bC (.str "")))) (bTB (b2 (cC .ne) lZ (l_ aO)))) (nZ (aV (iK 3 dW) (aB T8 (aB lZ (aB fQ aO)))) true) iQ) (nZ (aV (iK 2 (bJ 6)) (aB (aV (iK 1 gK) (aB T8 aO)) (aB T8 aO))) true))))))))))))
def VG:List D->Res D:=fnS 1 16 aGm
abbrev lN:Stmt:=aC5 (top 14) 0
abbrev jG:Stmt:=aC5 (top 16) 0
abbrev nW:Stmt:=aC5 (top 15) 0
abbrev jH:Stmt:=aC5 (top 17) 0
abbrev yJ:List Str:=["deck", "cells", "at"]
noncomputable abbrev fH:List Str:=["deck", "letters", "choice", "turn", "shift", "cell", "size", "base", "at", "names", "k", "spot", "ahead", "behind"]
noncomputable abbrev fJ:List Str:=["deck", "names", "cell", "many", "kinds", "makers", "k", "one", "behind", "at", "takers", "more"]
noncomputable abbrev jP:List Str:=["makers", "takers", "rules", "stand", "taker", "maker"]
abbrev gP:List Str:=["found", "due"]
noncomputable abbrev zV:List Str:=["program", "heads", "name", "kind", "parts", "taken", "more"]
abbrev KD:List Str:=["heads", "word", "known"]
noncomputable abbrev wK:List Str:=["heads", "words", "wanted", "known", "waiting", "word", "head"]
abbrev aK4:List Str:=["seen", "name"]
noncomputable abbrev oY:List Str:=["heads", "taker", "maker", "names", "seen", "kinds", "taken", "name"]
noncomputable abbrev eG:List Str:=["program", "seen", "heads", "makers", "takers", "ahead", "taker", "maker", "names", "words"]
noncomputable abbrev bZ:List Str:=["program", "ruled", "taker", "kind", "taken", "more", "maker"]
abbrev oZ:List Str:=["program", "kinds", "kind"]
noncomputable abbrev Z5:List Str:=["program", "seen", "name", "kind", "parts", "taken", "more"]
abbrev nH:List Str:=["program", "first", "word", "caught", "e"]
noncomputable abbrev jQ:List Str:=["deck", "heads", "wanted", "most", "words", "due", "kind", "room", "some", "pick"]
noncomputable abbrev dF:List Str:=["deck", "makers", "takers", "names", "heads", "rules", "taker", "maker", "behind", "step", "own", "known", "words", "at"]
noncomputable abbrev aCa:List Str:=["script", "deck", "cell", "names", "kinds", "makers", "takers", "rules", "first", "made_here", "word", "taker", "maker", "own", "words", "program"]
theorem KH:bO yJ ["deck"] (aH nU):=by refine ⟨rfl,rfl,rfl,?_,rfl,?_,?_⟩ <;> decide +kernel
theorem EY [KFrag] {P:Program} {w:World} {K:Frag} {mg:Str->Option Value} {base:Heap} {fad:Addr} {fd:FuncData} (hK:KFrag.K=K) (B:Bt mg)  (F:Fun K "_law_next" "_law_next" nU fad fd) (hm:mg "_law_next" = some (.ref fad)):LR P w K mg base 1 "_law_next" 1 1 aP:=by
 have sc:=KH;have nd:=sc.nd;refine xX (ps:=["deck"]) (N:=yJ) (k:=0) 1 F hm (F.binds fun _ _ _ _ _ _ us hl=>match us,hl with|[_],_=>rfl) sc OJ (by decide) (by decide) fun cdv A outer s H E hr=>?_
 have hu:=G4 hr;exact aJ (dI (bA aA aG)) (aJ (dI (bA aA aG)) (aJ (aG3 rfl rfl (by trivial) aG (a_ cH aA aG)) (aJ (lC (cF aM6 aA (cJ (gW hK) (by rfl) B.len g_ (aC aA aM)) (cY _)) (bD (C_ (bA aA aA))) dX) (aJ (lC (cF (wN hu) (cJ (gW hK) (by rfl) B.len g_ (aC aA aM)) aG (cY _)) (bD (C_ (a_ cH (a_ nR (a_ nR aA aA) aG) aA))) dX) (bD (C_ (a_ cH (a_ eZ (bA aA (a_ b7 aA (cJ (gW hK) (by rfl) B.len g_ (aC aA aM)))) aG) (a_ nR aA aA))))))))
theorem E_:bO fH ["deck"] (aH h_):=by refine ⟨rfl,rfl,rfl,?_,rfl,?_,?_⟩ <;> decide +kernel
theorem y_ [KFrag] {P:Program} {w:World} {K:Frag} {mg:Str->Option Value} {base:Heap} {fad:Addr} {fd:FuncData} (hK:KFrag.K=K) (B:Bt mg) (pc:LR P w K mg base 1 "_law_next" 1 1 aP) (F:Fun K "_law_names" "_law_names" h_ fad fd) (hm:mg "_law_names" = some (.ref fad)):LR P w K mg base 2 "_law_names" 1 1 fD:=by
 have sc:=E_;have nd:=sc.nd;refine xX (ps:=["deck"]) (N:=fH) (k:=1) 1 F hm (F.binds fun _ _ _ _ _ _ us hl=>match us,hl with|[_],_=>rfl) sc J5 (by decide) (by decide) fun cdv A outer s H E hr=>?_
 have hu:=G4 hr;exact aJ (dI j5) (aJ (mR rfl sc.nd rfl (by trivial) (dM pc hr (by decide) (by rfl) rfl rfl (by trivial) (jF))) (aJ (dI (bA (gU (aC aG (aC aG (aC aG (aC aG (aC aG (aC aG aM))))))) (a_ b7 (a_ eZ aA aG) aG))) (aJ (dI (a_ b7 (a_ eZ aA aG) aG)) (aJ (mR rfl sc.nd rfl (by trivial) (dM pc hr (by decide) (by rfl) rfl rfl (by trivial) (jF))) (aJ (dI (a_ b7 aA aG)) (aJ (dI (aM3 PySem.F.plainAttrs_str PySem.F.slot_str_join PySem.F.type_str_join aFn j5 (aC (wW (ownN:=(["k"]:List Str)) (show cD fH (aH h_) _ (["k"]:List Str) from by refine ⟨rfl,?_,?_,?_,?_,?_,?_⟩ <;> decide +kernel) (n:=14) (m:=1) rfl rfl rfl (mL (by rfl) B.range (aC aA aM)) (gJ 14) (fun _=>aQ (show ((List.map (gF (["k"]:List Str)) fH++(["k"]:List Str)):List Str).Nodup from by decide +kernel) rfl (by trivial)) (fun _=>bA aA (a_ b7 (a_ cH (a_ eZ aA aG) (a_ nR aA (a_ cH aA (a_ b7 (a_ eZ aA aG) aG)))) aG)) (fun _=>rfl)) aM) (fun _ _ _ _ _ h r=>aBi h r))) (aJ (mR rfl sc.nd rfl (by trivial) (JV b7 (dM pc hr (by decide) (by rfl) rfl rfl (by trivial) (jF)) (a_ cH aA aG))) (aJ (lC (cF (wN hu) (a_ b7 aA aG) aG (cY _)) (bD (dI (j9 hK aA (gG) (gH aG)))) dX) (aJ (dI (gU aM)) (aJ (JF PassesOwn.never rfl (mL (by rfl) B.range (aC aG aM)) (iG rfl) (aQ sc.nd rfl (by trivial)) (aJ (dI (a_ b7 (a_ cH (a_ nR aA aA) aA) aG)) (bD (lC (cF (wN hu) (a_ b7 aA aG) aG (cY _)) (bD (xO rfl rfl (by trivial) (a_ nR (bA aA (a_ b7 (a_ cH aA (a_ b7 aA aG)) aG)) (a_ cH aG (a_ eZ aA aG))))) (bD (lC (cF (wN hu) (a_ b7 aA aG) aG (cY _)) (aJ (dI (bA aA (a_ b7 (a_ cH aA (a_ b7 aA aG)) aG))) (aJ (dI (bA aA (a_ b7 (a_ cH aA (a_ eZ aA aG)) aG))) (bD (xO rfl rfl (by trivial) (a_ cH (a_ cH (a_ cH (j9 hK aA (gG) (gH aA)) aA) aA) (j9 hK aA (gH aA) (gG))))))) (bD (xO rfl rfl (by trivial) (a_ cH (a_ cH (j9 hK aA (gG) (gH aA)) (bA aA aA)) (j9 hK aA (gH aA) (gG))))))))))) (aJ (lC (PW.pt (XQ (cF (JK hu) j5 aA (by with_unfolding_all rfl)) (IW (cF (JK hu) j5 aA (by with_unfolding_all rfl))))) (bD (iR (ownN:=(["name"]:List Str)) (show cD fH (aH h_) _ (["name"]:List Str) from by refine ⟨rfl,?_,?_,?_,?_,?_,?_⟩ <;> decide +kernel) (n:=14) (m:=1) rfl rfl rfl (eU aA) (gJ 14) (fun _=>aQ (show ((List.map (gF (["name"]:List Str)) fH++(["name"]:List Str)):List Str).Nodup from by decide +kernel) rfl (by trivial)) (fun _=>a_ cH aA j5) (fun _=>rfl) rfl sc.nd rfl (by trivial) (Or.inl rfl) (by with_unfolding_all rfl))) dX) (bD (RL rfl rfl (by trivial))))))))))))))
theorem O5:bO fJ ["deck", "names"] (aH iY):=by refine ⟨rfl,rfl,rfl,?_,rfl,?_,?_⟩ <;> decide +kernel
theorem KJ [KFrag] {P:Program} {w:World} {K:Frag} {mg:Str->Option Value} {base:Heap} {fad:Addr} {fd:FuncData} (hK:KFrag.K=K) (B:Bt mg) (pc:LR P w K mg base 1 "_law_next" 1 1 aP) (F:Fun K "_law_sig" "_law_sig" iY fad fd) (hm:mg "_law_sig" = some (.ref fad)):LR P w K mg base 2 "_law_sig" 2 1 iZ:=by
 have sc:=O5;have nd:=sc.nd;refine xX (ps:=["deck", "names"]) (N:=fJ) (k:=1) 1 F hm (F.binds fun _ _ _ _ _ _ us hl=>match us,hl with|[_,_],_=>rfl) sc VB (by decide) (by decide) fun cdv A outer s H E hr=>?_
 have hu:=G4 hr
 exact aJ (mR rfl sc.nd rfl (by trivial) (dM pc hr (by decide) (by rfl) rfl rfl (by trivial) (jF))) (aJ (dI (a_ cH aG (a_ b7 aA aG))) (aJ (dI (j9 hK aA (gG) (gH aA))) (aJ (iR (ownN:=(["k"]:List Str)) (show cD fJ (aH iY) _ (["k"]:List Str) from by refine ⟨rfl,?_,?_,?_,?_,?_,?_⟩ <;> decide +kernel) (n:=12) (m:=1) rfl rfl rfl (mL (by rfl) B.range (aC aA aM)) (gJ 12) (fun _=>aQ (show ((List.map (gF (["k"]:List Str)) fJ++(["k"]:List Str)):List Str).Nodup from by decide +kernel) rfl (by trivial)) (fun _=>cQ (aC (bA aA (a_ cH aG aA)) (aC (bA aA aA) (aC (cQ aM) aM)))) (fun _=>rfl) rfl sc.nd rfl (by trivial) (Or.inl rfl) (by with_unfolding_all rfl)) (aJ (JF PassesOwn.never rfl (mL (by rfl) B.range (aC (a_ b7 (a_ eZ aA aG) aG) aM)) (iG rfl) (aQ sc.nd rfl (by trivial)) (aJ (mR rfl sc.nd rfl (by trivial) (dM pc hr (by decide) (by rfl) rfl rfl (by trivial) (jF))) (aJ (iR (ownN:=(["j"]:List Str)) (show cD fJ (aH iY) _ (["j"]:List Str) from by refine ⟨rfl,?_,?_,?_,?_,?_,?_⟩ <;> decide +kernel) (n:=12) (m:=1) rfl rfl rfl (mL (by rfl) B.range (aC (a_ b7 (a_ eZ aA aG) aG) aM)) (gJ 12) (fun _=>aQ (show ((List.map (gF (["j"]:List Str)) fJ++(["j"]:List Str)):List Str).Nodup from by decide +kernel) rfl (by trivial)) (fun _=>bA aA (a_ b7 (a_ eZ aA (bA (gU (aC aG (aC aG (aC aG aM)))) aA)) aA)) (fun _=>rfl) rfl sc.nd rfl (by trivial) (Or.inl rfl) (by with_unfolding_all rfl)) (bD (xO rfl rfl (by trivial) (cQ (aC (bA aA (a_ cH (a_ cH aG aA) aA)) (aC (bA aA (a_ b7 aA aA)) (aC (fV jM (by rfl) B.tuple iV (aC aA aM)) aM))))))))) (aJ (dI (a_ b7 (a_ eZ aA aG) (cJ (gW hK) (by rfl) B.len g_ (aC aA aM)))) (aJ (dI (gU aM)) (aJ (aJl PassesOwn.never rfl (aJk (by rfl) B.range (aJa cH aG (JV b7 (dM pc hr (by decide) (by rfl) rfl rfl (by trivial) (jF)) aG))) (iG rfl) (aQ sc.nd rfl (by trivial)) (aJ (mR rfl sc.nd rfl (by trivial) (dM pc hr (by decide) (by rfl) rfl rfl (by trivial) (jF))) (aJ (iR (ownN:=(["j"]:List Str)) (show cD fJ (aH iY) _ (["j"]:List Str) from by refine ⟨rfl,?_,?_,?_,?_,?_,?_⟩ <;> decide +kernel) (n:=12) (m:=1) rfl rfl rfl (mL (by rfl) B.range (aC (a_ b7 (a_ eZ aA aG) aG) aM)) (gJ 12) (fun _=>aQ (show ((List.map (gF (["j"]:List Str)) fJ++(["j"]:List Str)):List Str).Nodup from by decide +kernel) rfl (by trivial)) (fun _=>bA aA (a_ b7 (a_ eZ aA (bA (gU (aC aG (aC aG aM))) aA)) aA)) (fun _=>rfl) rfl sc.nd rfl (by trivial) (Or.inl rfl) (by with_unfolding_all rfl)) (bD (xO rfl rfl (by trivial) (cQ (aC (bA aA (a_ cH aG aA)) (aC (bA aA (a_ b7 aA aA)) (aC (bA aA (a_ b7 (a_ eZ aA aG) aA)) (aC (fV jM (by rfl) B.tuple iV (aC aA aM)) aM)))))))))) (bD (aBw (aDq rfl rfl (by trivial) (aJo (a_ cH (j9 hK aA (gH aA) (gG)) (j9 hK aA (gG) (gH aA))) (aDq rfl rfl (by trivial) (aJn)))))))))))))
theorem FJ:bO jP ["makers", "takers", "rules"] (aH jN):=by refine ⟨rfl,rfl,rfl,?_,rfl,?_,?_⟩ <;> decide +kernel
theorem zA [KFrag] {P:Program} {w:World} {K:Frag} {mg:Str->Option Value} {base:Heap} {fad:Addr} {fd:FuncData} (hK:KFrag.K=K) (B:Bt mg)  (F:Fun K "_law_first" "_law_first" jN fad fd) (hm:mg "_law_first" = some (.ref fad)):oR P w K mg base 1 "_law_first" 3 iB:=by
 have sc:=FJ;have nd:=sc.nd;refine JG (ps:=["makers", "takers", "rules"]) (N:=jP) (k:=0) F hm (F.binds fun _ _ _ _ _ _ us hl=>match us,hl with|[_,_,_],_=>rfl) sc J7 (by decide) (by decide) fun cdv A outer s H E hr=>?_
 have hu:=G4 hr;exact aJ (iR (ownN:=(["row"]:List Str)) (show cD jP (aH jN) _ (["row"]:List Str) from by refine ⟨rfl,?_,?_,?_,?_,?_,?_⟩ <;> decide +kernel) (n:=6) (m:=1) rfl rfl rfl (eU aA) (gJ 6) (fun _=>aQ (show ((List.map (gF (["row"]:List Str)) jP++(["row"]:List Str)):List Str).Nodup from by decide +kernel) rfl (by trivial)) (fun _=>cQ (aC (bA aA aG) (aC (bA aA aG) aM))) (fun _=>rfl) rfl sc.nd rfl (by trivial) (Or.inl rfl) (by with_unfolding_all rfl)) (aJ (xQ rfl PassesOwn.never rfl rfl (by trivial) (iG rfl) (aQ sc.nd rfl (by trivial)) (bD (xQ rfl PassesOwn.never rfl rfl (by trivial) (iG rfl) (aQ sc.nd rfl (by trivial)) (bD (lC (PW.pt (XN (cF (wN hu) (bA aA aG) (bA aA aG) (cY _)) (NK (cF (oM hu) (cQ (aC (bA aA aG) (aC (bA aA aG) aM))) aA (by with_unfolding_all rfl))))) (bD (gY (gU (aC (DG (bA aA aG)) (aC (DG (bA aA aG)) aM))))) dX))))) (bD (gY (gU aM))))
theorem KN:bO gP ["found", "due"] (aH lH):=by refine ⟨rfl,rfl,rfl,?_,rfl,?_,?_⟩ <;> decide +kernel
theorem FN [KFrag] {P:Program} {w:World} {K:Frag} {mg:Str->Option Value} {base:Heap} {fad:Addr} {fd:FuncData} (hK:KFrag.K=K) (B:Bt mg)  (F:Fun K "_law_same" "_law_same" lH fad fd) (hm:mg "_law_same" = some (.ref fad)):∀m:Nat,oR P w K mg base (m+1) "_law_same" 2 (bJ m):=by
 have sc:=KN;have nd:=sc.nd;intro m;induction m with
 | zero=>
  refine JG (ps:=["found", "due"]) (N:=gP) (k:=0) F hm (F.binds fun _ _ _ _ _ _ us hl=>match us,hl with|[_,_],_=>rfl) sc yF (by decide) (by decide) fun cdv A outer s H E hr=>?_
  exact aFk
 | succ m ih=>
  have pC:=ih;refine JG (ps:=["found", "due"]) (N:=gP) (k:=m+1) F hm (F.binds fun _ _ _ _ _ _ us hl=>match us,hl with|[_,_],_=>rfl) sc yF (by decide) (by decide) fun cdv A outer s H E hr=>?_
  have hu:=G4 hr;exact aJ (lC (wF (Q5 .str aA (by rfl) B.isi iU (by rfl) B.str YB)) (bD (gY (aDc (Q5 .str aA (by rfl) B.isi iU (by rfl) B.str YB) (aDb (QT (wN hu) aA aA (cY _)))))) dX) (aJ (lC (PW.pt (XQ (QV (wF (Q5 .tuple aA (by rfl) B.isi iU (by rfl) B.tuple iV))) (IW (cF (sI hu) (cJ (gW hK) (by rfl) B.len g_ (aC aA aM)) (cJ (gW hK) (by rfl) B.len g_ (aC aA aM)) (cY _))))) (bD (gY BR)) dX) (bD (gY (cJ (aIu (by rfl)) (by rfl) B.all aIv (aC (wW (ownN:=(["one", "other"]:List Str)) (show cD gP (aH lH) _ (["one", "other"]:List Str) from by refine ⟨rfl,?_,?_,?_,?_,?_,?_⟩ <;> decide +kernel) (n:=2) (m:=2) rfl rfl rfl (aJ6 (by rfl) B.zip (aC aA (aC aA aM))) (X5 _ 2 2) (fun _=>n8 rfl (bG (aQ (show ((List.map (gF (["one", "other"]:List Str)) gP++(["one", "other"]:List Str)):List Str).Nodup from by decide +kernel) rfl (by trivial)) (bG (aQ (show ((List.map (gF (["one", "other"]:List Str)) gP++(["one", "other"]:List Str)):List Str).Nodup from by decide +kernel) rfl (by trivial)) (jT)))) (fun _=>iT pC hr (Nat.le_refl _) (by rfl) (aC aA (aC aA aM))) (fun _=>rfl)) aM)))))
theorem O6:bO zV ["program"] (aH sZ):=by refine ⟨rfl,rfl,rfl,?_,rfl,?_,?_⟩ <;> decide +kernel
theorem KQ [KFrag] {P:Program} {w:World} {K:Frag} {mg:Str->Option Value} {base:Heap} {fad:Addr} {fd:FuncData} (hK:KFrag.K=K) (B:Bt mg)  (F:Fun K "heads_of" "heads_of" sZ fad fd) (hm:mg "heads_of" = some (.ref fad)):oR P w K mg base 1 "heads_of" 1 i_:=by
 have sc:=O6;have nd:=sc.nd;refine JG (ps:=["program"]) (N:=zV) (k:=0) F hm (F.binds fun _ _ _ _ _ _ us hl=>match us,hl with|[_],_=>rfl) sc VD (by decide) (by decide) fun cdv A outer s H E hr=>?_
 have hu:=G4 hr;exact aJ (dI (QW)) (aJ (JF PassesOwn.never rfl (eU (bA aA aG)) (nQ _ (by decide)) (n8 rfl (bG (aQ sc.nd rfl (by trivial)) (bG (aQ sc.nd rfl (by trivial)) (bG (aQ sc.nd rfl (by trivial)) (jT))))) (bD (X8 hu rfl rfl (by trivial) aA (cQ (aC aA (aC aA aM)))))) (aJ (JF PassesOwn.never rfl (eU (bA aA aG)) (nQ _ (by decide)) (n8 rfl (bG (aQ sc.nd rfl (by trivial)) (bG (aQ sc.nd rfl (by trivial)) (bG (aQ sc.nd rfl (by trivial)) (bG (aQ sc.nd rfl (by trivial)) (jT)))))) (bD (X8 hu rfl rfl (by trivial) aA (cQ (aC aA (aC (a_ nT (cQ (aC aA aM)) aA) aM)))))) (bD (aFi rfl rfl (by trivial)))))
theorem VH:bO KD ["heads", "word", "known"] (aH yG):=by refine ⟨rfl,rfl,rfl,?_,rfl,?_,?_⟩ <;> decide +kernel
theorem O7 [KFrag] {P:Program} {w:World} {K:Frag} {mg:Str->Option Value} {base:Heap} {fad:Addr} {fd:FuncData} (hK:KFrag.K=K) (B:Bt mg)  (pj:OD P w K mg base 1 "NoName" ["word"]) (F:Fun K "head_of" "head_of" yG fad fd) (hm:mg "head_of" = some (.ref fad)):lX P w K mg base 3 "head_of" 3 mW:=by
 have sc:=VH;have nd:=sc.nd;refine yD (ps:=["heads", "word", "known"]) (N:=KD) (k:=2) F hm (F.binds fun _ _ _ _ _ _ us hl=>match us,hl with|[_,_,_],_=>rfl) sc Z2 (by decide) (by decide) fun cdv A outer s H E hr=>?_
 have hu:=G4 hr;exact cU (fY (lC (cF (JK hu) aA aA (by with_unfolding_all rfl)) (bD (gY (bA aA aA))) dX)) (cU (fY (lC (cF (JK hu) aA aA (by with_unfolding_all rfl)) (bD (gY (cQ (aC (bA aA aA) (aC (cQ aM) aM))))) dX)) (iW (fZ pj hK hr (by decide) (by rfl) (aC aA aM))))
theorem FP:bO wK ["heads", "words", "wanted", "known"] (aH mX):=by refine ⟨rfl,rfl,rfl,?_,rfl,?_,?_⟩ <;> decide +kernel
theorem zB [KFrag] {P:Program} {w:World} {K:Frag} {mg:Str->Option Value} {base:Heap} {fad:Addr} {fd:FuncData} (hK:KFrag.K=K) (B:Bt mg)  (qr:lX P w K mg base 3 "head_of" 3 mW) (ph:OD P w K mg base 1 "BadKind" ["word"]) (F:Fun K "walk_words" "walk_words" mX fad fd) (hm:mg "walk_words" = some (.ref fad)):lX P w K mg base 4 "walk_words" 4 cV:=by
 have sc:=FP;have nd:=sc.nd;refine yD (ps:=["heads", "words", "wanted", "known"]) (N:=wK) (k:=3) F hm (F.binds fun _ _ _ _ _ _ us hl=>match us,hl with|[_,_,_,_],_=>rfl) sc J8 (by decide) (by decide) fun cdv A outer s H E hr=>?_
 have hu:=G4 hr;exact cU (fY (dI (gU (aC (DG aA) aM)))) (cU (aDu rfl rfl (by trivial) (iG rfl) (aQ sc.nd rfl (by trivial)) (cU (aC3 (QV (wF aA)) (iW (fZ ph hK hr (by decide) (by rfl) (aC aA aM))) yW) (cU (aMf rfl sc.nd rfl (by trivial) (sV qr hr (by decide) (by rfl) (aC aA (aC aA (aC aA aM))))) (cU (aMe (aG6 (sI hu) (DG (bA aA aG)) (aG4 rfl rfl (by trivial)) (cY _)) (iW (fZ ph hK hr (by decide) (by rfl) (aC aA aM))) yW) (iW (fY (aDl rfl rfl (by trivial) (ZL (by rfl) (by rfl) B.list (by rfl) B.reversed (bA aA aG))))))))) (iW (aC3 (wF aA) (iW (fZ ph hK hr (by decide) (by rfl) (aC j5 aM))) yW)))
theorem aK5:bO aK4 ["seen", "name"] (aH aGk):=by refine ⟨rfl,rfl,rfl,?_,rfl,?_,?_⟩ <;> decide +kernel
theorem aGn [KFrag] {P:Program} {w:World} {K:Frag} {mg:Str->Option Value} {base:Heap} {fad:Addr} {fd:FuncData} (hK:KFrag.K=K) (B:Bt mg)  (F:Fun K "see" "see" aGk fad fd) (hm:mg "see" = some (.ref fad)):ZP P w K mg base 3 "see":=by
 have sc:=aK5;have nd:=sc.nd;refine aJr (ps:=["seen", "name"]) (N:=aK4) (k:=2) F hm (F.binds fun _ _ _ _ _ _ us hl=>match us,hl with|[_,_],_=>rfl) sc rfl rfl fun cdv A outer s H E hr=>?_
 have hu:=G4 hr;exact jK (aAv (cF (aIj hu) aA aA (by with_unfolding_all rfl)) (fun _ _ _ _ _ _ h=>h.elim) V6) (mF (aG7 hu rfl (by trivial) aA BR rfl rfl rfl))
theorem zE:bO oY ["heads", "taker", "maker", "names", "seen"] (aH lJ):=by refine ⟨rfl,rfl,rfl,?_,rfl,?_,?_⟩ <;> decide +kernel
theorem yK [KFrag] {P:Program} {w:World} {K:Frag} {mg:Str->Option Value} {base:Heap} {fad:Addr} {fd:FuncData} (hK:KFrag.K=K) (B:Bt mg) (pL:ZP P w K mg base 3 "see") (ph:OD P w K mg base 1 "BadKind" ["word"]) (F:Fun K "known_names" "known_names" lJ fad fd) (hm:mg "known_names" = some (.ref fad)):lX P w K mg base 4 "known_names" 5 eF:=by
 have sc:=zE;have nd:=sc.nd;refine yD (ps:=["heads", "taker", "maker", "names", "seen"]) (N:=oY) (k:=3) F hm (F.binds fun _ _ _ _ _ _ us hl=>match us,hl with|[_,_,_,_,_],_=>rfl) sc DW (by decide) (by decide) fun cdv A outer s H E hr=>?_
 have hu:=G4 hr;exact cU (fY (dI (a_ nT (bA (bA aA aA) aG) (j9 hK (bA (bA aA aA) aG) (gH aG) (gG))))) (cU (aC3 (cF (sI hu) (cJ (gW hK) (by rfl) B.len g_ (aC aA aM)) (cJ (gW hK) (by rfl) B.len g_ (aC aA aM)) (cY _)) (iW (fZ ph hK hr (by decide) (by rfl) (aC aA aM))) yW) (cU (fY (dI (fV aBm (by rfl) B.dict aFm (aC aA aM)))) (cU (fY (xQ rfl PassesOwn.never rfl rfl (by trivial) (iG rfl) (aQ sc.nd rfl (by trivial)) (bD (RN pL hr (by decide) (by rfl) rfl rfl (by trivial) aA)))) (iW (fY (gY (aFv (by rfl) B.dict (by rfl) B.zip (aC aA (aC aA aM)))))))))
theorem zF:bO eG ["program", "seen"] (aH gB):=by refine ⟨rfl,rfl,rfl,?_,rfl,?_,?_⟩ <;> decide +kernel
theorem yL [KFrag] {P:Program} {w:World} {K:Frag} {mg:Str->Option Value} {base:Heap} {fad:Addr} {fd:FuncData} (hK:KFrag.K=K) (B:Bt mg) (va:oR P w K mg base 1 "heads_of" 1 i_) (vb:oR P w K mg base 4 "known_names" 5 eF) (qt:lX P w K mg base 4 "walk_words" 4 cV) (pj:OD P w K mg base 1 "NoName" ["word"]) (ph:OD P w K mg base 1 "BadKind" ["word"]) (rN:OD P w K mg base 1 "Twice" ["word"]) (F:Fun K "check_rules" "check_rules" gB fad fd) (hm:mg "check_rules" = some (.ref fad)):lX P w K mg base 5 "check_rules" 2 dN:=by
 have sc:=zF;have nd:=sc.nd;refine yD (ps:=["program", "seen"]) (N:=eG) (k:=4) F hm (F.binds fun _ _ _ _ _ _ us hl=>match us,hl with|[_,_],_=>rfl) sc DY (by decide) (by decide) fun cdv A outer s H E hr=>?_
 have hu:=G4 hr;exact cU (fY (dI (iT va hr (by decide) (by rfl) (aC aA aM)))) (cU (fY (iR (ownN:=(["maker"]:List Str)) (show cD eG (aH gB) _ (["maker"]:List Str) from by refine ⟨rfl,?_,?_,?_,?_,?_,?_⟩ <;> decide +kernel) (n:=10) (m:=1) rfl rfl rfl (eU (bA aA aG)) (gJ 10) (fun _=>aQ (show ((List.map (gF (["maker"]:List Str)) eG++(["maker"]:List Str)):List Str).Nodup from by decide +kernel) rfl (by trivial)) (fun _=>bA aA aG) (fun _=>rfl) rfl sc.nd rfl (by trivial) (Or.inl rfl) (by with_unfolding_all rfl))) (cU (fY (iR (ownN:=(["taker"]:List Str)) (show cD eG (aH gB) _ (["taker"]:List Str) from by refine ⟨rfl,?_,?_,?_,?_,?_,?_⟩ <;> decide +kernel) (n:=10) (m:=1) rfl rfl rfl (eU (bA aA aG)) (gJ 10) (fun _=>aQ (show ((List.map (gF (["taker"]:List Str)) eG++(["taker"]:List Str)):List Str).Nodup from by decide +kernel) rfl (by trivial)) (fun _=>bA aA aG) (fun _=>rfl) rfl sc.nd rfl (by trivial) (Or.inl rfl) (by with_unfolding_all rfl))) (cU (fY (dI (QW))) (iW (ZX (eU (bA aA aG)) (nQ _ (by decide)) (n8 rfl (bG (aQ sc.nd rfl (by trivial)) (bG (aQ sc.nd rfl (by trivial)) (bG (aQ sc.nd rfl (by trivial)) (bG (aQ sc.nd rfl (by trivial)) (jT)))))) (cU (aC3 (cF (oM hu) aA aA (by with_unfolding_all rfl)) (iW (fZ pj hK hr (by decide) (by rfl) (aC aA aM))) yW) (cU (aC3 (cF (oM hu) aA aA (by with_unfolding_all rfl)) (iW (fZ pj hK hr (by decide) (by rfl) (aC aA aM))) yW) (cU (aC3 (cF (sI hu) (bA (bA aA aA) aG) (bA (bA (bA aA aA) aG) aG) (cY _)) (iW (fZ ph hK hr (by decide) (by rfl) (aC aA aM))) yW) (cU (aC3 (cF (JK hu) (cQ (aC aA (aC aA aM))) aA (by with_unfolding_all rfl)) (iW (fZ rN hK hr (by decide) (by rfl) (aC aA aM))) yW) (cU (fY (X8 hu rfl rfl (by trivial) (cQ (aC aA (aC aA aM))) BR)) (iW (J3 (sV qt hr (by decide) (by rfl) (aC aA (aC aA (aC (bA (bA aA aA) aG) (aC (iT vb hr (by decide) (by rfl) (aC aA (aC aA (aC aA (aC aA (aC aA aM)))))) aM)))))))))))))))))
theorem wO:bO bZ ["program"] (aH d7):=by refine ⟨rfl,rfl,rfl,?_,rfl,?_,?_⟩ <;> decide +kernel
theorem t_ [KFrag] {P:Program} {w:World} {K:Frag} {mg:Str->Option Value} {base:Heap} {fad:Addr} {fd:FuncData} (hK:KFrag.K=K) (B:Bt mg)  (pE:OD P w K mg base 1 "Lacking" ["taker", "maker"]) (F:Fun K "check_lacking" "check_lacking" d7 fad fd) (hm:mg "check_lacking" = some (.ref fad)):lX P w K mg base 3 "check_lacking" 1 d8:=by
 have sc:=wO;have nd:=sc.nd;refine yD (ps:=["program"]) (N:=bZ) (k:=2) F hm (F.binds fun _ _ _ _ _ _ us hl=>match us,hl with|[_],_=>rfl) sc yH (by decide) (by decide) fun cdv A outer s H E hr=>?_
 have hu:=G4 hr;exact cU (fY (iR (ownN:=(["rule"]:List Str)) (show cD bZ (aH d7) _ (["rule"]:List Str) from by refine ⟨rfl,?_,?_,?_,?_,?_,?_⟩ <;> decide +kernel) (n:=7) (m:=1) rfl rfl rfl (eU (bA aA aG)) (gJ 7) (fun _=>aQ (show ((List.map (gF (["rule"]:List Str)) bZ++(["rule"]:List Str)):List Str).Nodup from by decide +kernel) rfl (by trivial)) (fun _=>cQ (aC (bA aA aG) (aC (bA aA aG) aM))) (fun _=>rfl) rfl sc.nd rfl (by trivial) (Or.inl rfl) (by with_unfolding_all rfl))) (iW (ZX (eU (bA aA aG)) (nQ _ (by decide)) (n8 rfl (bG (aQ sc.nd rfl (by trivial)) (bG (aQ sc.nd rfl (by trivial)) (bG (aQ sc.nd rfl (by trivial)) (bG (aQ sc.nd rfl (by trivial)) (jT)))))) (iW (ZX (eU (UL (ownN:=(["name", "given", "parts"]:List Str)) (show cD bZ (aH d7) _ (["name", "given", "parts"]:List Str) from by refine ⟨rfl,?_,?_,?_,?_,?_,?_⟩ <;> decide +kernel) (n:=7) (m:=3) rfl rfl rfl (eU (bA aA aG)) (X5 _ 7 3) (fun _=>n8 rfl (bG (aQ (show ((List.map (gF (["name", "given", "parts"]:List Str)) bZ++(["name", "given", "parts"]:List Str)):List Str).Nodup from by decide +kernel) rfl (by trivial)) (bG (aQ (show ((List.map (gF (["name", "given", "parts"]:List Str)) bZ++(["name", "given", "parts"]:List Str)):List Str).Nodup from by decide +kernel) rfl (by trivial)) (bG (aQ (show ((List.map (gF (["name", "given", "parts"]:List Str)) bZ++(["name", "given", "parts"]:List Str)):List Str).Nodup from by decide +kernel) rfl (by trivial)) (jT))))) (fun _=>cF (wN hu) aA aA (cY _)) (fun _=>aA) (fun _=>rfl))) (iG rfl) (aQ sc.nd rfl (by trivial)) (iW (aC3 (cF (oM hu) (cQ (aC aA (aC aA aM))) aA (by with_unfolding_all rfl)) (iW (fZ pE hK hr (by decide) (by rfl) (aC aA (aC aA aM)))) yW))))))
theorem zG:bO oZ ["program", "kinds"] (aH lL):=by refine ⟨rfl,rfl,rfl,?_,rfl,?_,?_⟩ <;> decide +kernel
theorem yM [KFrag] {P:Program} {w:World} {K:Frag} {mg:Str->Option Value} {base:Heap} {fad:Addr} {fd:FuncData} (hK:KFrag.K=K) (B:Bt mg)  (pj:OD P w K mg base 1 "NoName" ["word"]) (F:Fun K "check_kinds" "check_kinds" lL fad fd) (hm:mg "check_kinds" = some (.ref fad)):lX P w K mg base 3 "check_kinds" 2 dO:=by
 have sc:=zG;have nd:=sc.nd;refine yD (ps:=["program", "kinds"]) (N:=oZ) (k:=2) F hm (F.binds fun _ _ _ _ _ _ us hl=>match us,hl with|[_,_],_=>rfl) sc D_ (by decide) (by decide) fun cdv A outer s H E hr=>?_
 have hu:=G4 hr;exact iW (aDu rfl rfl (by trivial) (iG rfl) (aQ sc.nd rfl (by trivial)) (iW (aC3 (cF (oM hu) aA (bA aA aG) (by with_unfolding_all rfl)) (iW (fZ pj hK hr (by decide) (by rfl) (aC aA aM))) yW)))
theorem aCb:bO Z5 ["program"] (aH O4):=by refine ⟨rfl,rfl,rfl,?_,rfl,?_,?_⟩ <;> decide +kernel
theorem Z6 [KFrag] {P:Program} {w:World} {K:Frag} {mg:Str->Option Value} {base:Heap} {fad:Addr} {fd:FuncData} (hK:KFrag.K=K) (B:Bt mg) (pL:ZP P w K mg base 3 "see") (pM:lX P w K mg base 3 "check_kinds" 2 dO) (qu:lX P w K mg base 5 "check_rules" 2 dN) (qw:lX P w K mg base 3 "check_lacking" 1 d8) (F:Fun K "sound" "sound" O4 fad fd) (hm:mg "sound" = some (.ref fad)):lX P w K mg base 6 "sound" 1 gK:=by
 have sc:=aCb;have nd:=sc.nd;refine yD (ps:=["program"]) (N:=Z5) (k:=5) F hm (F.binds fun _ _ _ _ _ _ us hl=>match us,hl with|[_],_=>rfl) sc aGl (by decide) (by decide) fun cdv A outer s H E hr=>?_
 have hu:=G4 hr;exact cU (fY (dI (aG9 j5 BR j5 BR))) (cU (fY (JF PassesOwn.never rfl (eU (bA aA aG)) (iG rfl) (aQ sc.nd rfl (by trivial)) (bD (RN pL hr (by decide) (by rfl) rfl rfl (by trivial) aA)))) (cU (ZX (eU (bA aA aG)) (nQ _ (by decide)) (n8 rfl (bG (aQ sc.nd rfl (by trivial)) (bG (aQ sc.nd rfl (by trivial)) (bG (aQ sc.nd rfl (by trivial)) (jT))))) (cU (fY (RN pL hr (by decide) (by rfl) rfl rfl (by trivial) aA)) (iW (J3 (sV pM hr (by decide) (by rfl) (aC aA (aC (a_ nT (cQ (aC aA aM)) aA) aM))))))) (cU (ZX (eU (bA aA aG)) (nQ _ (by decide)) (n8 rfl (bG (aQ sc.nd rfl (by trivial)) (bG (aQ sc.nd rfl (by trivial)) (bG (aQ sc.nd rfl (by trivial)) (bG (aQ sc.nd rfl (by trivial)) (jT)))))) (cU (fY (RN pL hr (by decide) (by rfl) rfl rfl (by trivial) aA)) (iW (J3 (sV pM hr (by decide) (by rfl) (aC aA (aC (a_ nT (cQ (aC aA (aC aA aM))) aA) aM))))))) (cU (J3 (sV qu hr (by decide) (by rfl) (aC aA (aC aA aM)))) (cU (J3 (sV qw hr (by decide) (by rfl) (aC aA aM))) (iW (fY (gY aA))))))))
theorem yN:bO nH ["program", "first", "word"] (aH jU):=by refine ⟨rfl,rfl,rfl,?_,rfl,?_,?_⟩ <;> decide +kernel
theorem wQ [KFrag] {P:Program} {w:World} {K:Frag} {mg:Str->Option Value} {base:Heap} {fad:Addr} {fd:FuncData} (hK:KFrag.K=K) (B:Bt mg) (pC:oR P w K mg base 7 "_law_same" 2 (bJ 6)) (qx:lX P w K mg base 6 "sound" 1 gK) {uX:Addr} (vc:mg "MillError" = some (.ref uX)) {qy:Addr} (vd:mg "NoValue" = some (.ref qy)) {qz:Addr} (ve:mg "NoTerm" = some (.ref qz)) {qA:Addr} (vf:mg "NoRule" = some (.ref qA)) {qB:Addr} (vg:mg "NoPair" = some (.ref qB)) {qD:Addr} (vh:mg "NoNet" = some (.ref qD)) {qE:Addr} (vi:mg "NoName" = some (.ref qE)) {qF:Addr} (vj:mg "NoEnd" = some (.ref qF)) {qG:Addr} (vk:mg "BadRow" = some (.ref qG)) {qH:Addr} (vm:mg "Unfit" = some (.ref qH)) {qI:Addr} (vn:mg "Uneven" = some (.ref qI)) {qJ:Addr} (vo:mg "TwoRules" = some (.ref qJ)) {qK:Addr} (vp:mg "Twice" = some (.ref qK)) {qL:Addr} (vq:mg "Stuck" = some (.ref qL)) {qM:Addr} (vw:mg "Spent" = some (.ref qM)) (vx:mg "ValueError" = none) {rO:Addr} (vz:mg "BadKind" = some (.ref rO)) {rP:Addr} (vA:mg "Lacking" = some (.ref rP)) (y1:aC6 (fun c=>∃C,nsIn K mainGlobals c=some (some (.ref C))/\exmOne K (.ref C) (.ref uX)=some true) ["BadKind", "Lacking", "NoName", "Twice"]) (y2:aGg (fun c b=>∃C,nsIn K mainGlobals c=some (some (.ref C))/\XC K C/\kitAny K (.ref C) [.ref qG,.ref qF,.ref qE,.ref qD,.ref qB,.ref qA,.ref qz,.ref qy]=some b) [("BadKind",false),("Lacking",false),("NoName",true),("Twice",false)]) (y3:aGg (fun c b=>∃C,nsIn K mainGlobals c=some (some (.ref C))/\XC K C/\kitAny K (.ref C) [.ref qM,.ref qL,.ref qK,.ref qJ,.ref qI,.ref qH]=some b) [("BadKind",false),("Lacking",false),("NoName",false),("Twice",true)]) (y4:aGg (fun c b=>∃C,nsIn K mainGlobals c=some (some (.ref C))/\XC K C/\kitOne K (.ref C) (.type "ValueError")=some b) [("BadKind",true),("Lacking",true),("NoName",true),("Twice",true)]) (y5:aGg (fun c b=>∃C,nsIn K mainGlobals c=some (some (.ref C))/\XC K C/\kitOne K (.ref C) (.ref rO)=some b) [("BadKind",true),("Lacking",false),("NoName",false),("Twice",false)]) (y6:aGg (fun c b=>∃C,nsIn K mainGlobals c=some (some (.ref C))/\XC K C/\kitOne K (.ref C) (.ref rP)=some b) [("BadKind",false),("Lacking",true),("NoName",false),("Twice",false)]) (y7:aC6 (fun c=>∃C,nsIn K mainGlobals c=some (some (.ref C))/\XA K C "word") ["BadKind", "Lacking", "NoName", "Twice"]) (y8:aC6 (fun c=>∃C,nsIn K mainGlobals c=some (some (.ref C))/\XA K C "word") ["BadKind", "Lacking", "NoName", "Twice"]) (y9:aC6 (fun c=>∃C,nsIn K mainGlobals c=some (some (.ref C))/\XA K C "maker") ["BadKind", "Lacking", "NoName", "Twice"]) (y10:aC6 (fun c=>∃C,nsIn K mainGlobals c=some (some (.ref C))/\XA K C "taker") ["BadKind", "Lacking", "NoName", "Twice"]) (F:Fun K "_law_refused" "_law_refused" jU fad fd) (hm:mg "_law_refused" = some (.ref fad)):oR P w K mg base 8 "_law_refused" 3 dW:=by
 have sc:=yN;have nd:=sc.nd;refine JG (ps:=["program", "first", "word"]) (N:=nH) (k:=7) F hm (F.binds fun _ _ _ _ _ _ us hl=>match us,hl with|[_,_,_],_=>rfl) sc yX (by decide) (by decide) fun cdv A outer s H E hr=>?_
 have hu:=G4 hr;exact aJ (dI aIe) (aJ (aK1 (ic:=3) (ie:=4) hK rfl rfl qx hr (by decide) (by rfl) (aC aA aM) (by rfl) vc (mV y1) sc.nd rfl rfl rfl (by trivial) (.inl rfl) rfl rfl (by decide)) (aJ (lC (wF (Z1 (cs:=[qG,qF,qE,qD,qB,qA,qz,qy]) hK (sX y2) (show 8<=sizeLine from by decide) (by rfl) B.isi rfl (by trivial) (PA.imp (bI (eQ (v:=.ref qG) (by rfl) vk rfl) (bI (eQ (v:=.ref qF) (by rfl) vj rfl) (bI (eQ (v:=.ref qE) (by rfl) vi rfl) (bI (eQ (v:=.ref qD) (by rfl) vh rfl) (bI (eQ (v:=.ref qB) (by rfl) vg rfl) (bI (eQ (v:=.ref qA) (by rfl) vf rfl) (bI (eQ (v:=.ref qz) (by rfl) ve rfl) (bI (eQ (v:=.ref qy) (by rfl) vd rfl) (iJ))))))))) fun _ _ _ h=>h))) (bD (gY BR)) dX) (aJ (lC (PW.pt (XQ (wF (Z1 (cs:=[qM,qL,qK,qJ,qI,qH]) hK (sX y3) (show 6<=sizeLine from by decide) (by rfl) B.isi rfl (by trivial) (PA.imp (bI (eQ (v:=.ref qM) (by rfl) vw rfl) (bI (eQ (v:=.ref qL) (by rfl) vq rfl) (bI (eQ (v:=.ref qK) (by rfl) vp rfl) (bI (eQ (v:=.ref qJ) (by rfl) vo rfl) (bI (eQ (v:=.ref qI) (by rfl) vn rfl) (bI (eQ (v:=.ref qH) (by rfl) vm rfl) (iJ))))))) fun _ _ _ h=>h))) (IW (QV (wF (N_ (v:=.ty "ValueError") hK (sX y4) (fun u r=>r) (by rfl) B.isi rfl (by trivial) (V4 (by rfl) vx CW rfl) rfl rfl)))))) (bD (gY BR)) dX) (aJ (lC (PW.pt (XQ (cF (sI hu) (N_ (v:=.ref rO) hK (sX y5) (fun u r=>r) (by rfl) B.isi rfl (by trivial) (eQ (by rfl) vz rfl) rfl rfl) (QT (sI hu) aA j5 (cY _)) (cY _)) (IW (cF (sI hu) (N_ (v:=.ref rP) hK (sX y6) (fun u r=>r) (by rfl) B.isi rfl (by trivial) (eQ (by rfl) vA rfl) rfl rfl) (QT (wN hu) aA j5 (cY _)) (cY _))))) (bD (gY BR)) dX) (aJ (lC (cF (sI hu) aA j5 (cY _)) (bD (gY (aDc (Q5 .str (sW hK (mV y7) rfl (by trivial)) (by rfl) B.isi iU (by rfl) B.str YB) (aDb (QT (wN hu) (sW hK (mV y8) rfl (by trivial)) aA (cY _)))))) dX) (bD (gY (iT pC hr (by decide) (by rfl) (aC (cQ (aC (sW hK (mV y10) rfl (by trivial)) (aC (sW hK (mV y9) rfl (by trivial)) aM))) (aC (cQ (aC (bA aA aG) (aC (bA aA aG) aM))) aM))))))))))
theorem FQ:bO jQ ["deck", "heads", "wanted", "most"] (aH jO):=by refine ⟨rfl,rfl,rfl,?_,rfl,?_,?_⟩ <;> decide +kernel
theorem zH [KFrag] {P:Program} {w:World} {K:Frag} {mg:Str->Option Value} {base:Heap} {fad:Addr} {fd:FuncData} (hK:KFrag.K=K) (B:Bt mg) (pc:LR P w K mg base 1 "_law_next" 1 1 aP) (F:Fun K "_law_words" "_law_words" jO fad fd) (hm:mg "_law_words" = some (.ref fad)):LR P w K mg base 2 "_law_words" 4 1 iC:=by
 have sc:=FQ;have nd:=sc.nd;refine xX (ps:=["deck", "heads", "wanted", "most"]) (N:=jQ) (k:=1) 1 F hm (F.binds fun _ _ _ _ _ _ us hl=>match us,hl with|[_,_,_,_],_=>rfl) sc J9 (by decide) (by decide) fun cdv A outer s H E hr=>?_
 have hu:=G4 hr;exact aJ (dI (gU aM)) (aJ (dI (gU (aC (DG aA) aM))) (aJ (aJ2 PassesOwn.never (cF (sI hu) aA (gU aM) (cY _)) (aJ (aFx rfl rfl (by trivial) sc.nd rfl (by trivial) rfl) (aJ (dI (a_ XR (a_ XR (a_ XR aA (cJ (gW hK) (by rfl) B.len g_ (aC aA aM))) (cJ (gW hK) (by rfl) B.len g_ (aC aA aM))) aG)) (aJ (UT (ownN:=(["row"]:List Str)) (show cD jQ (aH jO) _ (["row"]:List Str) from by refine ⟨rfl,?_,?_,?_,?_,?_,?_⟩ <;> decide +kernel) (n:=10) (m:=1) rfl rfl rfl (eU aA) (gJ 10) (fun _=>aQ (show ((List.map (gF (["row"]:List Str)) jQ++(["row"]:List Str)):List Str).Nodup from by decide +kernel) rfl (by trivial)) (fun _=>PW.pt (XN (cF (wN hu) (bA aA aG) aA (cY _)) (NK (cF aM7 (cJ (gW hK) (by rfl) B.len g_ (aC (bA aA aG) aM)) aA (cY _))))) (fun _=>aA) (fun _=>rfl) rfl sc.nd rfl (by trivial) (Or.inl rfl) (by with_unfolding_all rfl)) (aJ (mR rfl sc.nd rfl (by trivial) (aJc (aIl hK hu) rfl rfl (by trivial) (JV b7 (dM pc hr (by decide) (by rfl) rfl rfl (by trivial) (jF)) (cJ (gW hK) (by rfl) B.len g_ (aC aA aM))) (fun _ _=>rfl))) (aJ (xO rfl rfl (by trivial) (bA aA aG)) (bD (aDl rfl rfl (by trivial) (ZL (by rfl) (by rfl) B.list (by rfl) B.reversed (bA aA aG)))))))))) (bD (RL rfl rfl (by trivial)))))
theorem FW:bO dF ["deck", "makers", "takers", "names"] (aH fG):=by refine ⟨rfl,rfl,rfl,?_,rfl,?_,?_⟩ <;> decide +kernel
theorem zJ [KFrag] {P:Program} {w:World} {K:Frag} {mg:Str->Option Value} {base:Heap} {fad:Addr} {fd:FuncData} (hK:KFrag.K=K) (B:Bt mg) (vB:LR P w K mg base 2 "_law_words" 4 1 iC) (pc:LR P w K mg base 1 "_law_next" 1 1 aP) (F:Fun K "_law_rules" "_law_rules" fG fad fd) (hm:mg "_law_rules" = some (.ref fad)):LR P w K mg base 3 "_law_rules" 4 1 cW:=by
 have sc:=FW;have nd:=sc.nd;refine xX (ps:=["deck", "makers", "takers", "names"]) (N:=dF) (k:=2) 1 F hm (F.binds fun _ _ _ _ _ _ us hl=>match us,hl with|[_,_,_,_],_=>rfl) sc KC (by decide) (by decide) fun cdv A outer s H E hr=>?_
 have hu:=G4 hr;exact aJ (dI (a_ cH aA (wW (ownN:=(["row"]:List Str)) (show cD dF (aH fG) _ (["row"]:List Str) from by refine ⟨rfl,?_,?_,?_,?_,?_,?_⟩ <;> decide +kernel) (n:=14) (m:=1) rfl rfl rfl (eU aA) (gJ 14) (fun _=>aQ (show ((List.map (gF (["row"]:List Str)) dF++(["row"]:List Str)):List Str).Nodup from by decide +kernel) rfl (by trivial)) (fun _=>cQ (aC (bA aA aG) (aC (bA aA aG) (aC (a_ nT (cQ (aC (bA aA aG) aM)) (bA aA aG)) aM)))) (fun _=>rfl)))) (aJ (dI (gU aM)) (aJ (xQ rfl PassesOwn.never rfl rfl (by trivial) (iG rfl) (aQ sc.nd rfl (by trivial)) (bD (xQ rfl PassesOwn.never rfl rfl (by trivial) (iG rfl) (aQ sc.nd rfl (by trivial)) (bD (lC (cF (wN hu) (bA aA aG) (bA aA aG) (cY _)) (aJ (dI (a_ nT (bA aA aG) (bA aA aG))) (aJ (dI (a_ cH aG (a_ b7 (cJ (gW hK) (by rfl) B.len g_ (aC aA aM)) aG))) (aJ (dI (wW (ownN:=(["j"]:List Str)) (show cD dF (aH fG) _ (["j"]:List Str) from by refine ⟨rfl,?_,?_,?_,?_,?_,?_⟩ <;> decide +kernel) (n:=14) (m:=1) rfl rfl rfl (mL (by rfl) B.range (aC (cJ (gW hK) (by rfl) B.len g_ (aC aA aM)) aM)) (gJ 14) (fun _=>aQ (show ((List.map (gF (["j"]:List Str)) dF++(["j"]:List Str)):List Str).Nodup from by decide +kernel) rfl (by trivial)) (fun _=>bA aA (a_ cH aG (a_ b7 (a_ cH (cJ (gW hK) (by rfl) B.len g_ (aC aA aM)) (a_ nR aA aA)) aG))) (fun _=>rfl))) (aJ (iR (ownN:=(["j"]:List Str)) (show cD dF (aH fG) _ (["j"]:List Str) from by refine ⟨rfl,?_,?_,?_,?_,?_,?_⟩ <;> decide +kernel) (n:=14) (m:=1) rfl rfl rfl (mL (by rfl) B.range (aC (cJ (gW hK) (by rfl) B.len g_ (aC aA aM)) aM)) (gJ 14) (fun _=>aQ (show ((List.map (gF (["j"]:List Str)) dF++(["j"]:List Str)):List Str).Nodup from by decide +kernel) rfl (by trivial)) (fun _=>cQ (aC (bA aA aA) (aC (bA aA aA) (aC (cQ aM) aM)))) (fun _=>rfl) rfl sc.nd rfl (by trivial) (Or.inl rfl) (by with_unfolding_all rfl)) (aJ (mR rfl sc.nd rfl (by trivial) (dM vB hr (by decide) (by rfl) rfl rfl (by trivial) (aJf (a_ cH aA aA) (aJe (bA aA aG) (aJe aG (jF)))))) (bD (xO rfl rfl (by trivial) (cQ (aC (bA aA aG) (aC (bA aA aG) (aC (fV jM (by rfl) B.tuple iV (aC aA aM)) (aC (fV jM (by rfl) B.tuple iV (aC aA aM)) aM)))))))))))) dX))))) (aJ (mR rfl sc.nd rfl (by trivial) (JV b7 (dM pc hr (by decide) (by rfl) rfl rfl (by trivial) (jF)) (cJ (gW hK) (by rfl) B.len g_ (aC aA aM)))) (bD (C_ (a_ cH (j9 hK aA (gH aA) (gG)) (j9 hK aA (gG) (gH aA))))))))
theorem aK6:bO aCa ["script"] (aH yZ):=by refine ⟨rfl,rfl,rfl,?_,rfl,?_,?_⟩ <;> decide +kernel
theorem aK7 [KFrag] {P:Program} {w:World} {K:Frag} {mg:Str->Option Value} {base:Heap} {fad:Addr} {fd:FuncData} (hK:KFrag.K=K) (B:Bt mg) (pc:LR P w K mg base 1 "_law_next" 1 1 aP) (vC:LR P w K mg base 2 "_law_names" 1 1 fD) (vD:LR P w K mg base 2 "_law_sig" 2 1 iZ) (vE:LR P w K mg base 3 "_law_rules" 4 1 cW) (vF:oR P w K mg base 1 "_law_first" 3 iB) (pC:oR P w K mg base 7 "_law_same" 2 (bJ 6)) (vG:oR P w K mg base 8 "_law_refused" 3 dW) (vH:oR P w K mg base 6 "sound" 1 gK) (pE:OD P w K mg base 1 "Lacking" ["taker", "maker"]) (y1:aC6 (fun c=>∃C,nsIn K mainGlobals c=some (some (.ref C))/\XA K C "maker") ["Lacking"]) (y2:aC6 (fun c=>∃C,nsIn K mainGlobals c=some (some (.ref C))/\XA K C "taker") ["Lacking"]) (F:Fun K "law" "law" yZ fad fd):o7 P w K mg base CX0 9 fad fd ["script"] (spD VG 1):=by
 have sc:=aK6;have nd:=sc.nd;refine aIq (ps:=["script"]) (N:=aCa) (k:=8) F sc o_law (by decide) (by decide) fun cdv A outer s H E hr=>?_
 have hu:=G4 hr;exact aJ (dI (aJh (gU (aC (j9 hK aA (gG) (gH aG)) (aC aG aM))))) (aJ (mR rfl sc.nd rfl (by trivial) (dM pc hr (by decide) (by rfl) rfl rfl (by trivial) (jF))) (aJ (mR rfl sc.nd rfl (by trivial) (dM vC hr (by decide) (by rfl) rfl rfl (by trivial) (jF))) (aJ (aJp (by decide) (dM vD hr (by decide) (by rfl) rfl rfl (by trivial) (RM rfl rfl (by trivial) (jF))) (aG5 rfl (bG (aQ sc.nd rfl (by trivial)) (bG (aQ sc.nd rfl (by trivial)) (bG (aQ sc.nd rfl (by trivial)) (jT)))))) (aJ (aC9 (cn := "row") (show cD aCa (aH yZ) _ (["row"]:List Str) from by refine ⟨rfl,?_,?_,?_,?_,?_,?_⟩ <;> decide +kernel) (n:=16) rfl rfl rfl (aK3 (dM vE hr (by decide) (by rfl) rfl rfl (by trivial) (RM rfl rfl (by trivial) (RM rfl rfl (by trivial) (RM rfl rfl (by trivial) (jF)))))) (fun _=>aQ (show ((List.map (gF (["row"]:List Str)) aCa++(["row"]:List Str)):List Str).Nodup from by decide +kernel) rfl (by trivial)) (fun _=>aG1 (sI hu) (JV b7 (dM pc hr (by decide) (by rfl) rfl rfl (by trivial) (jF)) aG) aG (cY _)) (fun _=>aMb aA) (fun _=>rfl) rfl sc.nd rfl (by trivial) (Or.inl rfl) (by with_unfolding_all rfl)) (aJ (dI (iT vF hr (by decide) (by rfl) (aC aA (aC aA (aC aA aM))))) (aJ (dI (aGh pE hK hr (by decide) rfl (by rfl) (aC (bA aA aG) (aC (bA aA aG) aM)))) (aJ (lC (QV (wF (iT pC hr (by decide) (by rfl) (aC (cQ (aC (sW hK (mV y2) rfl (by trivial)) (aC (sW hK (mV y1) rfl (by trivial)) aM))) (aC (cQ (aC (bA aA aG) (aC (bA aA aG) aM))) aM))))) (bD (gY BR)) dX) (aJ (dI j5) (aJ (lC (PW.pt (XN (cF (wN hu) (a_ b7 aA aG) aG (cY _)) (NK (cF (sI hu) aA (gU aM) (cY _))))) (aJ (aJ0 (bA aA (aIf aDd aG)) (nQ _ (by decide)) (n8 rfl (bG (aQ sc.nd rfl (by trivial)) (bG (aQ sc.nd rfl (by trivial)) (bG (aQ sc.nd rfl (by trivial)) (bG (aQ sc.nd rfl (by trivial)) (jT))))))) (aJ (dI (bA (gU (aC (DG (bA aA aG)) (aC (DG (bA (bA aA aG) aG)) (aC (DG (bA aA aG)) aM)))) (a_ b7 (a_ eZ aA aG) aG))) (bD (dI (a_ cH (j9 hK aA (gG) (gH (aIf aDd aG))) (gU (aC (DG (cQ (aC aA (aC aA (aC aA (aC (a_ nT aA (cQ (aC aA aM))) aM)))))) aM))))))) dX) (aJ (dI (cQ (aC (fV jM (by rfl) B.tuple iV (aC aA aM)) (aC (fV jM (by rfl) B.tuple iV (aC aA aM)) (aC (fV jM (by rfl) B.tuple iV (aC aA aM)) (aC (fV jM (by rfl) B.tuple iV (aC aA aM)) aM)))))) (aJ (lC (PW.pt (XQ (cF (sI hu) aA j5 (cY _)) (IW (cF (sI hu) aA (gU aM) (cY _))))) (bD (gY (iT vG hr (by decide) (by rfl) (aC aA (aC aA (aC aA aM)))))) dX) (bD (gY (iT pC hr (by decide) (by rfl) (aC (iT vH hr (by decide) (by rfl) (aC aA aM)) (aC aA aM))))))))))))))))
theorem Z7:bO (["self", "word"]:List Str) ["self", "word"] (aH lN):=by refine ⟨rfl,rfl,rfl,?_,rfl,?_,?_⟩ <;> decide +kernel
theorem VJ [KFrag] {P:Program} {w:World} {K:Frag} {mg:Str->Option Value} {base:Heap} {fad C M:Addr} {fd:FuncData} (F:Fun K "__init__" "NoName.__init__" lN fad fd) (x:XI K C fad) (m:mg "MillError" = some (.ref M)) (b1:specialIn K (.ref M) "__getattribute__" = some (some (.builtin "type.__getattribute__"))) (b2:readsIn K M (.type "type")=true) (b3:findCls K (.ref M) (.type "type") "__init__" = some (.val (.builtin "ValueError.__init__"))) (no:findIn K (.ref C) "word" = some none):o7 P w K mg base CX0 1 fad fd ["self", "word"] (lU C ["word"]):=
 have sc:=Z7
 DR (M:=M) F sc rfl rfl fun cdv A outer s H E hr=>jK (mG (DN x.cl (by rfl) m b1 b2 b3 (bI (bW rfl (by trivial)) (bI (bW rfl (by trivial)) iJ)))) (mF (DP x no (bW rfl (by trivial)) (bW rfl (by trivial))))
theorem VL:bO (["self", "word"]:List Str) ["self", "word"] (aH jG):=by refine ⟨rfl,rfl,rfl,?_,rfl,?_,?_⟩ <;> decide +kernel
theorem O8 [KFrag] {P:Program} {w:World} {K:Frag} {mg:Str->Option Value} {base:Heap} {fad C M:Addr} {fd:FuncData} (F:Fun K "__init__" "BadKind.__init__" jG fad fd) (x:XI K C fad) (m:mg "MillError" = some (.ref M)) (b1:specialIn K (.ref M) "__getattribute__" = some (some (.builtin "type.__getattribute__"))) (b2:readsIn K M (.type "type")=true) (b3:findCls K (.ref M) (.type "type") "__init__" = some (.val (.builtin "ValueError.__init__"))) (no:findIn K (.ref C) "word" = some none):o7 P w K mg base CX0 1 fad fd ["self", "word"] (lU C ["word"]):=
 have sc:=VL
 DR (M:=M) F sc rfl rfl fun cdv A outer s H E hr=>jK (mG (DN x.cl (by rfl) m b1 b2 b3 (bI (bW rfl (by trivial)) (bI (bW rfl (by trivial)) iJ)))) (mF (DP x no (bW rfl (by trivial)) (bW rfl (by trivial))))
theorem aCc:bO (["self", "word"]:List Str) ["self", "word"] (aH nW):=by refine ⟨rfl,rfl,rfl,?_,rfl,?_,?_⟩ <;> decide +kernel
theorem Z8 [KFrag] {P:Program} {w:World} {K:Frag} {mg:Str->Option Value} {base:Heap} {fad C M:Addr} {fd:FuncData} (F:Fun K "__init__" "Twice.__init__" nW fad fd) (x:XI K C fad) (m:mg "MillError" = some (.ref M)) (b1:specialIn K (.ref M) "__getattribute__" = some (some (.builtin "type.__getattribute__"))) (b2:readsIn K M (.type "type")=true) (b3:findCls K (.ref M) (.type "type") "__init__" = some (.val (.builtin "ValueError.__init__"))) (no:findIn K (.ref C) "word" = some none):o7 P w K mg base CX0 1 fad fd ["self", "word"] (lU C ["word"]):=
 have sc:=aCc
 DR (M:=M) F sc rfl rfl fun cdv A outer s H E hr=>jK (mG (DN x.cl (by rfl) m b1 b2 b3 (bI (bW rfl (by trivial)) (bI (bW rfl (by trivial)) iJ)))) (mF (DP x no (bW rfl (by trivial)) (bW rfl (by trivial))))
theorem VM:bO (["self", "taker", "maker"]:List Str) ["self", "taker", "maker"] (aH jH):=by refine ⟨rfl,rfl,rfl,?_,rfl,?_,?_⟩ <;> decide +kernel
theorem O9 [KFrag] {P:Program} {w:World} {K:Frag} {mg:Str->Option Value} {base:Heap} {fad C M:Addr} {fd:FuncData} (F:Fun K "__init__" "Lacking.__init__" jH fad fd) (x:XI K C fad) (m:mg "MillError" = some (.ref M)) (b1:specialIn K (.ref M) "__getattribute__" = some (some (.builtin "type.__getattribute__"))) (b2:readsIn K M (.type "type")=true) (b3:findCls K (.ref M) (.type "type") "__init__" = some (.val (.builtin "ValueError.__init__"))) (no:findIn K (.ref C) "taker" = some none) (no2:findIn K (.ref C) "maker" = some none):o7 P w K mg base CX0 1 fad fd ["self", "taker", "maker"] (lU C ["taker", "maker"]):=
 have sc:=VM
 aC8 (M:=M) F sc rfl rfl (by decide) fun cdv A outer s H E hr=>jK (mG (DN x.cl (by rfl) m b1 b2 b3 (bI (bW rfl (by trivial)) (bI (bW rfl (by trivial)) (bI (bW rfl (by trivial)) iJ))))) (jK (DP x no (bW rfl (by trivial)) (bW rfl (by trivial))) (mF (aGi x no2 (bW rfl (by trivial)) (bW rfl (by trivial)))))
noncomputable def AtN (K:Frag) (n:Str) (st:Stmt):Prop:=∃(f:Addr) (fd:FuncData),nsIn K mainGlobals n=some (some (.ref f))/\Fun K n n st f fd
theorem aMh {K:Frag} {n:Str} {st:Stmt} {f:Addr} {oc kV dc pm cd ct:Value} {od an:Option Addr} {sl:Array (Option Value)} (a:nsIn K mainGlobals n=some (some (.ref f))) (l:K.lookup f=some ⟨oc,od,.func (fnOf n n (jB st) (cZ st) (aH st) .none kV dc pm an cd ct),sl⟩) (c:codeIn K cd n=true) (k:keepIn K (.ref f)=true):AtN K n st:=⟨f,_,a,nD (st:=st) l c k⟩
theorem aK8 {l:OpenLaw} {w:World} {K:Frag} {h:Heap} {mg:Str->Option Value} {fa:Addr} (X:K.In h) (G:h.Ns mainGlobals mg) (hfa:mg "law" = some (.ref fa)) (a0:AtN K "_law_next" nU) (a1:AtN K "_law_names" h_) (a2:AtN K "_law_sig" iY) (a3:AtN K "_law_first" jN) (a4:AtN K "_law_same" lH) (a5:AtN K "heads_of" sZ) (a6:AtN K "head_of" yG) (a7:AtN K "walk_words" mX) (a8:AtN K "see" aGk) (a9:AtN K "known_names" lJ) (a10:AtN K "check_rules" gB) (a11:AtN K "check_lacking" d7) (a12:AtN K "check_kinds" lL) (a13:AtN K "sound" O4) (a14:AtN K "_law_refused" jU) (a15:AtN K "_law_words" jO) (a16:AtN K "_law_rules" fG)
  {f17:Addr} {oc17 kV17 dc17 pm17 cd17 ct17:Value} {od17 an17:Option Addr} {sl17:Array (Option Value)} (a17:nsIn K mainGlobals "law" = some (some (.ref f17))) (l17:K.lookup f17=some ⟨oc17,od17,.func (fnOf "law" "law" (jB yZ) (cZ yZ) (aH yZ) .none kV17 dc17 pm17 an17 cd17 ct17),sl17⟩) (c17:codeIn K cd17 "law" = true) (k17:keepIn K (.ref f17)=true) (rQ:nsIn K mainGlobals "len" = some none) (rR:nsIn K mainGlobals "min" = some none) (rS:nsIn K mainGlobals "max" = some none) (rT:nsIn K mainGlobals "list" = some none) (rV:nsIn K mainGlobals "tuple" = some none) (rW:nsIn K mainGlobals "sorted" = some none) (rX:nsIn K mainGlobals "range" = some none) (rY:nsIn K mainGlobals "isinstance" = some none) (rZ:nsIn K mainGlobals "int" = some none) (t6:nsIn K mainGlobals "bool" = some none) (t7:nsIn K mainGlobals "str" = some none) (t8:nsIn K mainGlobals "dict" = some none) (t9:nsIn K mainGlobals "all" = some none) (tf:nsIn K mainGlobals "enumerate" = some none) (tj:nsIn K mainGlobals "sum" = some none) (tm:nsIn K mainGlobals "zip" = some none) (tq:nsIn K mainGlobals "abs" = some none) (tu:nsIn K mainGlobals "reversed" = some none) {pz:Addr} (pB:nsIn K mainGlobals "MillError" = some (some (.ref pz))) {pN:Addr} (tB:nsIn K mainGlobals "NoValue" = some (some (.ref pN))) {pO:Addr} (tD:nsIn K mainGlobals "NoTerm" = some (some (.ref pO))) {pP:Addr} (tE:nsIn K mainGlobals "NoRule" = some (some (.ref pP))) {pQ:Addr} (tF:nsIn K mainGlobals "NoPair" = some (some (.ref pQ))) {pR:Addr} (tG:nsIn K mainGlobals "NoNet" = some (some (.ref pR))) {p0:Addr} (pd:nsIn K mainGlobals "NoName" = some (some (.ref p0))) {pS:Addr} (tH:nsIn K mainGlobals "NoEnd" = some (some (.ref pS))) {pT:Addr} (tI:nsIn K mainGlobals "BadRow" = some (some (.ref pT))) {pU:Addr} (tJ:nsIn K mainGlobals "Unfit" = some (some (.ref pU))) {pV:Addr} (tK:nsIn K mainGlobals "Uneven" = some (some (.ref pV))) {pW:Addr} (tL:nsIn K mainGlobals "TwoRules" = some (some (.ref pW))) {p7:Addr} (pf:nsIn K mainGlobals "Twice" = some (some (.ref p7))) {pX:Addr} (tM:nsIn K mainGlobals "Stuck" = some (some (.ref pX))) {pY:Addr} (tN:nsIn K mainGlobals "Spent" = some (some (.ref pY))) {p8:Addr} (pg:nsIn K mainGlobals "BadKind" = some (some (.ref p8))) {p9:Addr} (pb:nsIn K mainGlobals "Lacking" = some (some (.ref p9))) {pZ:Addr} {vI vJ vK vL uY vM:Value} {vN vO:Option Addr} {vP:Array (Option Value)} {qa:Addr} {vQ vR vS vT uZ vU:Value} {vV vW:Option Addr} {vX:Array (Option Value)} {qc:Addr} {vY vZ P4 P5 v6 P6:Value} {P7 P8:Option Addr} {P9:Array (Option Value)} {qe:Addr} {Pa Pb Pc Pd v7 Pe:Value} {Pf Pg:Option Addr} {Ph:Array (Option Value)} (tO:nsIn K mainGlobals "ValueError" = some none) (tP:exmOne K (.ref p8) (.ref pz)=some true) (tQ:exmOne K (.ref p9) (.ref pz)=some true) (tR:exmOne K (.ref p0) (.ref pz)=some true) (tT:exmOne K (.ref p7) (.ref pz)=some true) (tU:isClsIn K p8=true) (tV:findIn K (.ref p8) "__getattribute__" = some (some (.builtin "BaseException.__getattribute__"))) (tW:findIn K (.ref p8) "__getattr__" = some none) (tX:findIn K (.ref p8) "__class__" = some (some (.builtin "object.__class__"))) (tY:specialIn K (.builtin "object.__class__") "__get__" = some (some (.builtin "getset_descriptor.__get__"))) (u5:takesIn K (.builtin "object.__class__")=some true) (qf:mroIn K p8 (.type "object")=some true) (u7:mroIn K p8 (.type "BaseException")=some true) (u8:kitAny K (.ref p8) [.ref pT,.ref pS,.ref p0,.ref pR,.ref pQ,.ref pP,.ref pO,.ref pN]=some false) (u9:isClsIn K p9=true) (ua:findIn K (.ref p9) "__getattribute__" = some (some (.builtin "BaseException.__getattribute__"))) (ub:findIn K (.ref p9) "__getattr__" = some none) (uc:findIn K (.ref p9) "__class__" = some (some (.builtin "object.__class__"))) (ud:specialIn K (.builtin "object.__class__") "__get__" = some (some (.builtin "getset_descriptor.__get__"))) (ue:takesIn K (.builtin "object.__class__")=some true) (qg:mroIn K p9 (.type "object")=some true) (uf:mroIn K p9 (.type "BaseException")=some true) (ug:kitAny K (.ref p9) [.ref pT,.ref pS,.ref p0,.ref pR,.ref pQ,.ref pP,.ref pO,.ref pN]=some false) (uh:isClsIn K p0=true) (ui:findIn K (.ref p0) "__getattribute__" = some (some (.builtin "BaseException.__getattribute__"))) (uj:findIn K (.ref p0) "__getattr__" = some none) (uk:findIn K (.ref p0) "__class__" = some (some (.builtin "object.__class__"))) (ul:specialIn K (.builtin "object.__class__") "__get__" = some (some (.builtin "getset_descriptor.__get__"))) (um:takesIn K (.builtin "object.__class__")=some true) (qh:mroIn K p0 (.type "object")=some true) (uo:mroIn K p0 (.type "BaseException")=some true) (uq:kitAny K (.ref p0) [.ref pT,.ref pS,.ref p0,.ref pR,.ref pQ,.ref pP,.ref pO,.ref pN]=some true) (ur:isClsIn K p7=true) (ut:findIn K (.ref p7) "__getattribute__" = some (some (.builtin "BaseException.__getattribute__"))) (uv:findIn K (.ref p7) "__getattr__" = some none) (uw:findIn K (.ref p7) "__class__" = some (some (.builtin "object.__class__"))) (ux:specialIn K (.builtin "object.__class__") "__get__" = some (some (.builtin "getset_descriptor.__get__"))) (uy:takesIn K (.builtin "object.__class__")=some true) (qi:mroIn K p7 (.type "object")=some true) (uz:mroIn K p7 (.type "BaseException")=some true) (uA:kitAny K (.ref p7) [.ref pT,.ref pS,.ref p0,.ref pR,.ref pQ,.ref pP,.ref pO,.ref pN]=some false) (uB:kitAny K (.ref p8) [.ref pY,.ref pX,.ref p7,.ref pW,.ref pV,.ref pU]=some false) (uC:kitAny K (.ref p9) [.ref pY,.ref pX,.ref p7,.ref pW,.ref pV,.ref pU]=some false) (uD:kitAny K (.ref p0) [.ref pY,.ref pX,.ref p7,.ref pW,.ref pV,.ref pU]=some false) (uE:kitAny K (.ref p7) [.ref pY,.ref pX,.ref p7,.ref pW,.ref pV,.ref pU]=some true) (uF:kitOne K (.ref p8) (.type "ValueError")=some true) (uG:kitOne K (.ref p9) (.type "ValueError")=some true) (uH:kitOne K (.ref p0) (.type "ValueError")=some true) (uI:kitOne K (.ref p7) (.type "ValueError")=some true) (uJ:kitOne K (.ref p8) (.ref p8)=some true) (uK:kitOne K (.ref p9) (.ref p8)=some false) (uL:kitOne K (.ref p0) (.ref p8)=some false) (uM:kitOne K (.ref p7) (.ref p8)=some false) (uN:kitOne K (.ref p8) (.ref p9)=some false) (uO:kitOne K (.ref p9) (.ref p9)=some true) (uP:kitOne K (.ref p0) (.ref p9)=some false) (uQ:kitOne K (.ref p7) (.ref p9)=some false) (pF:hasDictIn K p8=true) (qj:findIn K (.ref p8) "word" = some none) (pA:hasDictIn K p9=true) (qN:findIn K (.ref p9) "word" = some none) (pG:hasDictIn K p0=true) (qk:findIn K (.ref p0) "word" = some none) (pH:hasDictIn K p7=true) (ql:findIn K (.ref p7) "word" = some none) (uR:findIn K (.ref p8) "maker" = some none) (qm:findIn K (.ref p9) "maker" = some none) (uS:findIn K (.ref p0) "maker" = some none) (uT:findIn K (.ref p7) "maker" = some none) (uU:findIn K (.ref p8) "taker" = some none) (qo:findIn K (.ref p9) "taker" = some none) (uV:findIn K (.ref p0) "taker" = some none) (uW:findIn K (.ref p7) "taker" = some none) (qO:exC K p0=true) (qP:findIn K (.ref p0) "__init__" = some (some (.ref pZ))) (qQ:isFn K (.ref pZ)=true) (qR:keepIn K (.ref p0)=true) (qS:findIn K (.ref p0) "__setattr__" = some (some (.builtin "object.__setattr__"))) (qT:K.lookup pZ=some ⟨vI,vN,.func (fnOf "__init__" "NoName.__init__" (jB lN) (cZ lN) (aH lN) .none vJ vK vL vO uY vM),vP⟩) (qU:codeIn K uY "NoName.__init__" = true) (qV:keepIn K (.ref pZ)=true) (pI:specialIn K (.ref pz) "__getattribute__" = some (some (.builtin "type.__getattribute__"))) (pJ:readsIn K pz (.type "type")=true) (pK:findCls K (.ref pz) (.type "type") "__init__" = some (.val (.builtin "ValueError.__init__"))) (qW:exC K p8=true) (qX:findIn K (.ref p8) "__init__" = some (some (.ref qa))) (qY:isFn K (.ref qa)=true) (qZ:keepIn K (.ref p8)=true) (r6:findIn K (.ref p8) "__setattr__" = some (some (.builtin "object.__setattr__"))) (r8:K.lookup qa=some ⟨vQ,vV,.func (fnOf "__init__" "BadKind.__init__" (jB jG) (cZ jG) (aH jG) .none vR vS vT vW uZ vU),vX⟩) (r9:codeIn K uZ "BadKind.__init__" = true) (rf:keepIn K (.ref qa)=true) (rg:exC K p7=true) (rh:findIn K (.ref p7) "__init__" = some (some (.ref qc))) (rj:isFn K (.ref qc)=true) (rq:keepIn K (.ref p7)=true) (rA:findIn K (.ref p7) "__setattr__" = some (some (.builtin "object.__setattr__"))) (rB:K.lookup qc=some ⟨vY,P7,.func (fnOf "__init__" "Twice.__init__" (jB nW) (cZ nW) (aH nW) .none vZ P4 P5 P8 v6 P6),P9⟩) (rC:codeIn K v6 "Twice.__init__" = true) (rD:keepIn K (.ref qc)=true) (rE:exC K p9=true) (rF:findIn K (.ref p9) "__init__" = some (some (.ref qe))) (rG:isFn K (.ref qe)=true) (rH:keepIn K (.ref p9)=true) (rJ:findIn K (.ref p9) "__setattr__" = some (some (.builtin "object.__setattr__"))) (rK:K.lookup qe=some ⟨Pa,Pf,.func (fnOf "__init__" "Lacking.__init__" (jB jH) (cZ jH) (aH jH) .none Pb Pc Pd Pg v7 Pe),Ph⟩) (rL:codeIn K v7 "Lacking.__init__" = true) (rM:keepIn K (.ref qe)=true) :
  ∃fd:FuncData,(∀(s:Shared) (v:Value),BindsTo s fd ⟨[v],[]⟩ [("script",v)])/\∀base:Heap,K.In base->base.Ns mainGlobals mg->o7 l.prog w K mg base CX0 9 fa fd ["script"] (@spD ⟨K⟩ VG 1):=by
 have e:=hfa.symm.trans (mg_of X G a17);cases e
 letI:KFrag:=⟨K⟩
 have pk:XC K p7:=⟨ur,ut,uv,uw,ux,uy,qi,uz⟩
 have po:XC K p0:=⟨uh,ui,uj,uk,ul,um,qh,uo⟩
 have pi:XC K p9:=⟨u9,ua,ub,uc,ud,ue,qg,uf⟩
 have pw:XC K p8:=⟨tU,tV,tW,tX,tY,u5,qf,u7⟩
 have Y:=fun {n:Str} {v:Value}=>mg_of (n:=n) (v:=v) X G
 have Z:=fun {n:Str}=>mg_none_of (n:=n) X G
 obtain ⟨f0,_,a0,F0⟩:=a0;obtain ⟨f1,_,a1,F1⟩:=a1;obtain ⟨f2,_,a2,F2⟩:=a2;obtain ⟨f3,_,a3,F3⟩:=a3;obtain ⟨f4,_,a4,F4⟩:=a4;obtain ⟨f5,_,a5,F5⟩:=a5;obtain ⟨f6,_,a6,F6⟩:=a6;obtain ⟨f7,_,a7,F7⟩:=a7;obtain ⟨f8,_,a8,F8⟩:=a8;obtain ⟨f9,_,a9,F9⟩:=a9;obtain ⟨f10,_,a10,F10⟩:=a10;obtain ⟨f11,_,a11,F11⟩:=a11;obtain ⟨f12,_,a12,F12⟩:=a12;obtain ⟨f13,_,a13,F13⟩:=a13;obtain ⟨f14,_,a14,F14⟩:=a14;obtain ⟨f15,_,a15,F15⟩:=a15;obtain ⟨f16,_,a16,F16⟩:=a16;have B:Bt mg:=⟨Z rQ,Z rR,Z rS,Z rT,Z rV,Z rW,Z rX,Z rY,Z rZ,Z t6,Z t7,Z t8,Z t9,Z tf,Z tj,Z tm,Z tq,Z tu⟩
 refine ⟨fnOf "law" "law" (jB yZ) (cZ yZ) (aH yZ) .none kV17 dc17 pm17 an17 cd17 ct17,fun s v=>.of_eq rfl,fun base _ _=>?_⟩;have qp:=EY (P:=l.prog) (w:=w) (base:=base) rfl B  F0 (Y a0);have Pi:=y_ (P:=l.prog) (w:=w) (base:=base) rfl B qp F1 (Y a1);have Pj:=KJ (P:=l.prog) (w:=w) (base:=base) rfl B qp F2 (Y a2);have Pk:=zA (P:=l.prog) (w:=w) (base:=base) rfl B  F3 (Y a3);have v8:=FN (P:=l.prog) (w:=w) (base:=base) rfl B  F4 (Y a4) 6;have Pl:=KQ (P:=l.prog) (w:=w) (base:=base) rfl B  F5 (Y a5);have pj:OD l.prog w K mg base 1 "NoName" ["word"]:=⟨p0,pZ,_,_,pd,Y pd,⟨qO,qP,qQ,qR,qS,qh⟩,VJ (nD (st:=lN) qT qU qV) ⟨qO,qP,qQ,qR,qS,qh⟩ (Y pB) pI pJ pK qk,(nD (st:=lN) qT qU qV).binds fun _ _ _ _ _ _ us hl=>match us,hl with|[_,_],_=>rfl,by decide⟩
 have qr:=O7 (P:=l.prog) (w:=w) (base:=base) rfl B  pj F6 (Y a6);have Ps:=qr.cal;have ph:OD l.prog w K mg base 1 "BadKind" ["word"]:=⟨p8,qa,_,_,pg,Y pg,⟨qW,qX,qY,qZ,r6,qf⟩,O8 (nD (st:=jG) r8 r9 rf) ⟨qW,qX,qY,qZ,r6,qf⟩ (Y pB) pI pJ pK qj,(nD (st:=jG) r8 r9 rf).binds fun _ _ _ _ _ _ us hl=>match us,hl with|[_,_],_=>rfl,by decide⟩
 have qt:=zB (P:=l.prog) (w:=w) (base:=base) rfl B  qr ph F7 (Y a7);have Pt:=qt.cal;have v9:=aGn (P:=l.prog) (w:=w) (base:=base) rfl B  F8 (Y a8);have Pm:=yK (P:=l.prog) (w:=w) (base:=base) rfl B v9 ph F9 (Y a9);have Pn:=Pm.cal;have rN:OD l.prog w K mg base 1 "Twice" ["word"]:=⟨p7,qc,_,_,pf,Y pf,⟨rg,rh,rj,rq,rA,qi⟩,Z8 (nD (st:=nW) rB rC rD) ⟨rg,rh,rj,rq,rA,qi⟩ (Y pB) pI pJ pK ql,(nD (st:=nW) rB rC rD).binds fun _ _ _ _ _ _ us hl=>match us,hl with|[_,_],_=>rfl,by decide⟩
 have qu:=yL (P:=l.prog) (w:=w) (base:=base) rfl B Pl Pn qt pj ph rN F10 (Y a10);have Pu:=qu.cal;have pE:OD l.prog w K mg base 1 "Lacking" ["taker", "maker"]:=⟨p9,qe,_,_,pb,Y pb,⟨rE,rF,rG,rH,rJ,qg⟩,O9 (nD (st:=jH) rK rL rM) ⟨rE,rF,rG,rH,rJ,qg⟩ (Y pB) pI pJ pK qo qm,(nD (st:=jH) rK rL rM).binds fun _ _ _ _ _ _ us hl=>match us,hl with|[_,_,_],_=>rfl,by decide⟩
 have qw:=t_ (P:=l.prog) (w:=w) (base:=base) rfl B  pE F11 (Y a11);have Pv:=qw.cal;have pM:=yM (P:=l.prog) (w:=w) (base:=base) rfl B  pj F12 (Y a12);have Pw:=pM.cal;have qx:=Z6 (P:=l.prog) (w:=w) (base:=base) rfl B v9 pM qu qw F13 (Y a13);have Po:=qx.cal;have Pp:=wQ (P:=l.prog) (w:=w) (base:=base) rfl B v8 qx (Y pB) (Y tB) (Y tD) (Y tE) (Y tF) (Y tG) (Y pd) (Y tH) (Y tI) (Y tJ) (Y tK) (Y tL) (Y pf) (Y tM) (Y tN) (mg_none_of X G tO) (Y pg) (Y pb) ⟨⟨_,pg,tP⟩,⟨_,pb,tQ⟩,⟨_,pd,tR⟩,⟨_,pf,tT⟩,trivial⟩ ⟨⟨_,pg,pw,u8⟩,⟨_,pb,pi,ug⟩,⟨_,pd,po,uq⟩,⟨_,pf,pk,uA⟩,trivial⟩ ⟨⟨_,pg,pw,uB⟩,⟨_,pb,pi,uC⟩,⟨_,pd,po,uD⟩,⟨_,pf,pk,uE⟩,trivial⟩ ⟨⟨_,pg,pw,uF⟩,⟨_,pb,pi,uG⟩,⟨_,pd,po,uH⟩,⟨_,pf,pk,uI⟩,trivial⟩ ⟨⟨_,pg,pw,uJ⟩,⟨_,pb,pi,uK⟩,⟨_,pd,po,uL⟩,⟨_,pf,pk,uM⟩,trivial⟩ ⟨⟨_,pg,pw,uN⟩,⟨_,pb,pi,uO⟩,⟨_,pd,po,uP⟩,⟨_,pf,pk,uQ⟩,trivial⟩ ⟨⟨_,pg,pw,pF,qj⟩,⟨_,pb,pi,pA,qN⟩,⟨_,pd,po,pG,qk⟩,⟨_,pf,pk,pH,ql⟩,trivial⟩ ⟨⟨_,pg,pw,pF,qj⟩,⟨_,pb,pi,pA,qN⟩,⟨_,pd,po,pG,qk⟩,⟨_,pf,pk,pH,ql⟩,trivial⟩ ⟨⟨_,pg,pw,pF,uR⟩,⟨_,pb,pi,pA,qm⟩,⟨_,pd,po,pG,uS⟩,⟨_,pf,pk,pH,uT⟩,trivial⟩ ⟨⟨_,pg,pw,pF,uU⟩,⟨_,pb,pi,pA,qo⟩,⟨_,pd,po,pG,uV⟩,⟨_,pf,pk,pH,uW⟩,trivial⟩ F14 (Y a14);have Pq:=zH (P:=l.prog) (w:=w) (base:=base) rfl B qp F15 (Y a15);have Pr:=zJ (P:=l.prog) (w:=w) (base:=base) rfl B Pq qp F16 (Y a16);exact aK7 rfl B qp Pi Pj Pr Pk v8 Pp Po pE ⟨⟨_,pb,pi,pA,qm⟩,trivial⟩ ⟨⟨_,pb,pi,pA,qo⟩,trivial⟩ (nD (st:=yZ) l17 c17 k17)
theorem walk {l:OpenLaw} {q:Program} {loose:List Str} {XP:(Str->Option Value)->Heap->Prop} {YP:World->Heap->Prop} {d:DefRec} {K:Params->Frag} (main:∀ns:List Int,ns.length<=63->VG [.scr (ns.map D.int)]=.ok (.bl true)) (hn:l.most=some 63) (hdf:d.params.defaults=[])
  (hY:∀(w:World) (h:Heap),YP w h->(K w.params).In h)
  (F:∀(w:World) (mg:Str->Option Value) (fa:Addr) (h:Heap),(K w.params).In h->h.Ns mainGlobals mg->mg d.name=some (.ref fa)->
   ∃fd:FuncData,(∀(s:Shared) (u:Value),BindsTo s fd ⟨[u],[]⟩ [("script",u)])/\∀base:Heap,(K w.params).In base->base.Ns mainGlobals mg->o7 l.prog w (K w.params) mg base CX0 9 fa fd ["script"] (@spD ⟨K w.params⟩ VG 1)) :
  WalkO q loose XP YP l.row.toRowW d [] (fun f vs=>PySem.call f vs):=
 L2.aF2 (n:=63) (k:=9) (x := "script") (CX:=fun _=>CX0) (sp:=fun w=>@spD ⟨K w.params⟩ VG 1) hn (by decide) hdf ⟨rfl,by decide,by decide⟩ hY F (fun w H a ns hl hO hS=>YC main hl hO hS) fun _ _ _ _ _ z=>z
end Lk49
end
section
namespace Lk49
open PySem L2 Mi
theorem mY {f:List D->Res D} {n i:Nat} {fs:FA} {ρ rest h h':List D} {r:D} (h1:fs ρ=.ok rest) (h2:LQ (ρ.getD i .uD)=some h) (h3:rest.length+1=n) (h4:ch1 f h rest=.ok (r,h')) (h5:D.aX h'=true) {ρ':List D} (he:ρ.set i (aBt (ρ.getD i .uD) h')=ρ'):bY f n i fs ρ=.ok (r,ρ'):=by
 subst he;unfold bY;rw [h1,Res.aN,h2];dsimp only;rw [if_pos (decide_eq_true h3),h4,Res.aN];dsimp only;rw [if_pos h5]
theorem iH {i:Nat} {f:FX} {ρ ρ':List D} {d:D} (h:f ρ=.ok (d,ρ')) {ρ2:List D} (he:ρ'.set i d=ρ2):fX false i f ρ=.ok (.nx ρ2):=by
 subst he;unfold fX;rw [h];rfl
theorem o5 {f g:FS} {ρ:List D} {d:D} (h:f ρ=.ok (.rt d)):aW f g ρ=.ok (.rt d):=by
 unfold aW;rw [h];rfl
theorem aGo {i:Nat} {fk fv:FE} {ρ xs:List D} {d:D} {k:Int} {j:Nat} (h1:fv ρ=.ok d) (h2:fk ρ=.ok (.int k)) (h3:LQ (ρ.getD i .uD)=some xs) (hp:d.pure=true) (hj:ixD xs.length k=some j) {ρ':List D} (he:ρ.set i (aBt (ρ.getD i .uD) (xs.set j d))=ρ'):Y0 i fk fv ρ=.ok (.nx ρ'):=by
 subst he;unfold Y0;rw [h1,Res.aN,h2,Res.aN,h3];dsimp only;rw [if_pos hp,hj]
theorem FZ {f:FE} {ρ:List D} {d:D} {k:Bool} (h:f ρ=.ok d) (hp:(k||d.pure)=true):H_ f k ρ=.ok (.rt (.tup (d::ρ))):=by
 unfold H_;rw [h,Res.aN,if_pos hp]
theorem RX {i:Nat} {ρ:List D} {d:D} (h:dH i ρ=.ok d) (hp:d.QL=true):zP i ρ=.ok (.rt (.tup (d::ρ))):=by
 unfold zP;rw [h,Res.aN,if_pos hp]
theorem aMi {f:FE} {ρ:List D} {d:D} (h:f ρ=.ok d) (hp:d.pure=true):xE f ρ=.ok (d,ρ):=by
 unfold xE;rw [h,Res.aN,if_pos hp]
theorem F_ {f:FE} {ρ:List D} {d:D} (h:f ρ=.ok d) (hp:d.pure=true):bPu f ρ=.ok d:=by
 unfold bPu;rw [h,Res.aN,if_pos hp]
theorem zW {f:D->D->Res D} {fa:FX} {fb:FE} {ρ ρ1:List D} {x y d:D} (h1:fa ρ=.ok (x,ρ1)) (hp:x.pure=true) (h2:fb ρ1=.ok y) (h3:f x y=.ok d) (hd:d.pure=true):x2L f fa fb ρ=.ok (d,ρ1):=by
 unfold x2L;rw [h1,Res.aN];dsimp only;rw [if_pos hp,h2,Res.aN,h3,Res.aN,if_pos hd]
theorem Z9 {f:D->D->Res D} {fa:FE} {fb:FX} {ρ ρ1:List D} {x y d:D} (h1:fa ρ=.ok x) (h2:fb ρ=.ok (y,ρ1)) (h3:f x y=.ok d) (hd:d.pure=true):x2R f fa fb ρ=.ok (d,ρ1):=by
 unfold x2R;rw [h1,Res.aN,h2,Res.aN];dsimp only;rw [h3,Res.aN,if_pos hd]
theorem aDw {f:FX} {ρ ρ1:List D} {b:Bool} (h:f ρ=.ok (.bl b,ρ1)):xTB f ρ=.ok (b,ρ1):=by
 unfold xTB;rw [h];rfl
theorem aK9 {c:FXT} {f g:FS} {ρ ρ1:List D} {k:Bool} {r:Res Fl} (h1:c ρ=.ok (k,ρ1)) (h2:(if k then f ρ1 else g ρ1)=r):aBu c f g ρ=r:=by
 unfold aBu;rw [h1];exact h2
theorem zX {k n m:Nat} {f:FS} {ds:List D} {d:D} {ρ:List D} (h:f (ds++List.replicate (m-n) .uD)=.ok (.rt (.tup (d::ρ)))):fnX k n m f ds=.ok (.tup (d::ρ.take k)):=by
 unfold fnX;rw [h];rfl
theorem u_ (a b:Int) (h:lO b=true):CQ (.int a) (.int b)=.ok (.int (a*b)):=by
 show aU .mul (.int a) (.int b)=_;exact aIy a b h
theorem Z_ (a:Int) (h1:-10000000000<=a) (h2:a<=10000000000):lO a=true:=by
 unfold lO;rw [Bool.and_eq_true,decide_eq_true_eq,decide_eq_true_eq];lia
theorem aKa (a b:Int):YD .le (.int a) (.int b)=.ok (.bl (decide (a<=b))):=rfl
theorem aDx (a b:Int):YD .lt (.int a) (.int b)=.ok (.bl (decide (a<b))):=rfl
theorem v_ (a b:Int):cC .eq (.int a) (.int b)=.ok (.bl (a==b)):=rfl
theorem O_ (a b:Int):cC .ne (.int a) (.int b)=.ok (.bl (!(a==b))):=rfl
theorem aA0 (ns:List Int) (i:Int) (h0:0<=i) (h1:i<ns.length):∃n,getD (.scr (ns.map D.int)) (.int i)=.ok (.int n):=by
 have hl:i.toNat<ns.length:=by lia
 refine ⟨ns[i.toNat],?_⟩;show Res.ofOpt ((ixD (ns.map D.int).length i).bind fun j=>(ns.map D.int)[j]?)=_;unfold ixD;rw [if_pos h0,List.length_map,if_pos h1];simp [hl]
def tx (cs:List Nat):Str:=⟨cs.toArray⟩
theorem wL (cs:List Nat):(tx cs).length=cs.length:=by
 show cs.toArray.size=_;simp
theorem RZ (a b:List Nat):tx a++tx b=tx (a++b):=by
 show (⟨a.toArray++b.toArray⟩:Str)=⟨(a++b).toArray⟩
 congr 1
 simp
theorem zY {a b:List Nat} (h:tx a=tx b):a=b:=by
 unfold tx at h;injection h with h
 have:=congrArg Array.toList h;simpa using this
def abc:Str := "abcdefghijklmnopqrstuvwxyz"
theorem aKb:∀i,i<26->abc.cps.toList[i]?=some (97+i):=by decide +kernel
theorem letter (i:Int) (h0:0<=i) (h1:i<26):getD (.str abc) (.int i)=.ok (.str (tx [97+i.toNat])):=by
 have hl:decide (abc.length<=lim)=true:=by decide +kernel
 have h26:abc.cps.toList.length=26:=by decide +kernel
 have hix:ixD abc.cps.toList.length i=some i.toNat:=by
  unfold ixD;rw [if_pos h0,h26,if_pos (by lia)]
 show (if decide (abc.length<=lim) then Res.ofOpt (((ixD abc.cps.toList.length i).bind fun j=>abc.cps.toList[j]?).map fun c=>D.str ⟨#[c]⟩) else .bad)=_;rw [hl,if_pos rfl,hix];simp only [Option.bind_some];rw [aKb _ (by lia)];rfl
def dk (cs:List Int) (n:Nat):List D:=[.scr (cs.map D.int),.int n]
theorem m_ (cs:List Int) (n:Nat):D.aX (dk cs n)=true:=by
 show ((D.scr (cs.map D.int)).pure&&_)=true;rw [D.pure,sU];rfl
theorem aGp (cs:List Int) (n:Nat) (hn:n<=100000):∃r:Int,∀b,aP [.cel b (dk cs n)]=.ok (.tup [.int r,.cel b (dk cs (n+1))]):=by
 have hl:mC [.scr (cs.map D.int)]=.ok (.int cs.length):=by
  show Res.ok (D.int ((cs.map D.int).length:Int))=_;rw [List.length_map]
 have pre:∀(b:Nat) (R:Res Fl) (g:FS),g [.cel b (dk cs (n+1)),.scr (cs.map D.int),.int n]=R->(aW (bV false 1 (b2 getD fC fM) false) (aW (bV false 2 (b2 getD fC dZ) false) (aW (Y0 0 dZ (b2 (aU .add) cO dZ)) g))) [.cel b (dk cs n),.uD,.uD]=R:=fun b R g hg=>by
  refine aK (ρ':=[.cel b (dk cs n),.scr (cs.map D.int),.uD]) (lF (i:=1) (aF (x:=.cel b (dk cs n)) (y:=.int 0) rfl rfl rfl) (sU cs)) ?_;refine aK (ρ':=[.cel b (dk cs n),.scr (cs.map D.int),.int n]) (lF (i:=2) (aF (x:=.cel b (dk cs n)) (y:=.int 1) rfl rfl rfl) rfl) ?_;exact aK (aGo (i:=0) (xs:=dk cs n) (k:=1) (j:=1) (d:=.int ((n+1:Nat):Int)) (aF (x:=.int n) (y:=.int 1) rfl rfl rfl) rfl rfl rfl rfl rfl) hg
 have h0:∀(b:Nat) (d:D) (ρ:List D),yE [.cel b (dk cs n),.uD,.uD]=.ok (.rt (.tup (d::.cel b (dk cs (n+1))::ρ)))->aP [.cel b (dk cs n)]=.ok (.tup [d,.cel b (dk cs (n+1))]):=fun b d ρ h=>zX (k:=1) (ρ:=.cel b (dk cs (n+1))::ρ) h
 by_cases h1:n<cs.length
 ·obtain ⟨r,hr⟩:=aA0 cs n (by lia) (by lia);refine ⟨r,fun b=>h0 b _ _ (pre b _ _ (o5 (LK (dC (aF rfl (bF (aD rfl rfl) hl) ((aDx _ _).trans (by rw [decide_eq_true (by lia)])))) (FZ (aF rfl rfl hr) rfl))))⟩
 ·have c1:∀b:Nat,(sIf (bTB (b2 (YD .lt) cO (aV mC (aB fK aO)))) (H_ (b2 getD fK cO) false) iQ) [.cel b (dk cs (n+1)),.scr (cs.map D.int),.int n]=.ok (.nx [.cel b (dk cs (n+1)),.scr (cs.map D.int),.int n]):=fun b=>sS (dC (aF rfl (bF (aD rfl rfl) hl) ((aDx _ _).trans (by rw [decide_eq_false (by lia)])))) rfl
  have hs:lO (n:Int)=true:=Z_ _ (by lia) (by lia);by_cases h2:cs.length=0
  ·refine ⟨(n:Int)*n*3+n,fun b=>h0 b _ _ (pre b _ _ (aK (c1 b) (o5 (LK (dC (aF (bF (aD rfl rfl) hl) rfl ((v_ _ _).trans (by rw [h2];rfl)))) (FZ (aF (aF (aF rfl rfl (u_ _ _ hs)) rfl (u_ _ _ rfl)) rfl (fW _ _)) rfl)))))⟩
  ·have hp:(0:Int)<cs.length:=by lia
   obtain ⟨r,hr⟩:=aA0 cs ((n:Int) % cs.length) (Int.emod_nonneg _ (by lia)) (Int.emod_lt_of_pos _ hp);refine ⟨r / 2+n*n,fun b=>h0 b _ _ (pre b _ _ (aK (c1 b) (aK (ρ':=[.cel b (dk cs (n+1)),.scr (cs.map D.int),.int n]) (sS (dC (aF (bF (aD rfl rfl) hl) rfl ((v_ _ _).trans ?_))) rfl) (FZ (aF (aF (aF rfl (aF rfl (bF (aD rfl rfl) hl) (b8 _ _ hp)) hr) rfl (fB _ _ (by decide) (by decide))) (aF rfl rfl (u_ _ _ hs)) (fW _ _)) rfl))))⟩;have:((cs.length:Int)==0)=false:=by simpa using h2
   rw [this]
theorem jJ (cs:List Int) (n:Nat) (hn:n<=100000):∃r:Int,ch1 aP (dk cs n) []=.ok (.int r,dk cs (n+1)):=by
 obtain ⟨r,h⟩:=aGp cs n hn;exact ⟨r,JT h⟩
theorem yO {cs:List Int} {n:Nat} {i:Nat} {ρ:List D} {r:Int} (e:ch1 aP (dk cs n) []=.ok (.int r,dk cs (n+1))) (h2:LQ (ρ.getD i .uD)=some (dk cs n)) {ρ':List D} (he:ρ.set i (aBt (ρ.getD i .uD) (dk cs (n+1)))=ρ'):bY aP 1 i aO ρ=.ok (.int r,ρ'):=
 mY (fs:=aO) (rest:=[]) (h:=dk cs n) (h':=dk cs (n+1)) rfl h2 rfl e (m_ cs (n+1)) he
end Lk49
end
section
namespace Lk49
open PySem L2 Mi
def one (c:Nat):Str:=⟨#[c]⟩
theorem KR:∀(cs:List Nat) (a:Array Nat),((cs.map one).foldl (fun acc p=>acc++("" : Str).cps++p.cps) a)=a++cs.toArray
 | [],a=>by simp
 | c::cs,a=>by
  rw [List.map_cons,List.foldl_cons,KR cs];apply Array.ext';simp [one,show (("" : Str).cps)=#[] from rfl]
theorem join_one (cs:List Nat):Txt.join ("" : Str) (cs.map one)=tx cs:=by
 unfold Txt.join Builtin.Str.glued tx;cases cs with
 | nil=>rfl
 | cons c cs=>
  rw [List.map_cons,List.drop_succ_cons,List.drop_zero,List.headD_cons,KR]
  congr 1
  apply Array.ext';simp [one]
theorem KY:∀cs:List Nat,xR (cs.map fun c=>D.str (one c))=some (cs.map one)
 | []=>rfl
 | c::cs=>by
  show (xR (cs.map fun c=>D.str (one c))).map (one c::·)=_;rw [KY cs];rfl
theorem aGq (cs:List Nat) (h:cs.length<=100):joinM (.str "") [.lst (cs.map fun c=>D.str (one c))]=.ok (.str (tx cs)):=by
 show (match xR (cs.map fun c=>D.str (one c)) with|some ts=>if JoinOk "" ts then Res.ok (D.str (Txt.join "" ts)) else .bad|none=>.bad)=_;rw [KY];show (if JoinOk "" (cs.map one) then Res.ok (D.str (Txt.join "" (cs.map one))) else .bad)=_;have hok:JoinOk "" (cs.map one)=true:=by
  unfold JoinOk;rw [StrLaws.joinFits (B:=1) (fun y hy=>by obtain ⟨c,_,rfl⟩:=List.mem_map.mp hy;exact Nat.le_refl _) (by rw [List.length_map,show (("" : Str).length)=0 from rfl];lia)];rfl
 rw [if_pos hok,join_one]
theorem aN6 {a b:FT} {ρ:List D} (h1:a ρ=.ok true):bOr a b ρ=.ok true:=by
 unfold bOr;rw [h1];rfl
theorem aDy {a b:FT} {ρ:List D} {r:Res Bool} (h1:a ρ=.ok false) (h2:b ρ=r):bOr a b ρ=r:=by
 unfold bOr;rw [h1];exact h2
theorem aMj {a b:FT} {ρ:List D} {x y:Bool} (h1:a ρ=.ok x) (h2:b ρ=.ok y):bOr a b ρ=.ok (x||y):=by
 cases x with
 | true=>exact aN6 h1
 | false=>exact aDy h1 h2
noncomputable def nb:FS:=(aW (bV false 11 (b2 (aU .mod) (b2 (aU .add) (b2 CQ fQ d_) fP) nA) true) (sIf (bTB (b2 (cC .eq) (b2 (aU .mod) cO j0) dZ)) (IK 9 (b2 CQ (b2 getD fK (b2 (aU .mod) (b2 (aU .add) fP (b2 (aU .mod) lV VP)) nA)) (b2 (aU .add) dZ (b2 (aU .fdiv) lV VP)))) (sIf (bTB (b2 (cC .eq) (b2 (aU .mod) cO j0) oK)) (aW (bV false 12 (b2 getD fK (b2 (aU .mod) (b2 (aU .add) fP (b2 (aU .mod) lV W6)) nA)) false) (aW (bV false 13 (b2 getD fK (b2 (aU .mod) (b2 (aU .add) fP (b2 (aU .fdiv) lV W6)) nA)) false) (IK 9 (b2 (aU .add) (b2 (aU .add) (b2 (aU .add) (m9 dY fL (eV lZ)) nP) T7) (m9 dY (eV lZ) fL))))) (IK 9 (b2 (aU .add) (b2 (aU .add) (m9 dY fL (eV lZ)) (b2 getD fK lV)) (m9 dY (eV lZ) fL))))))
theorem jW {a:FE} {ρ:List D} {i:Int} (h:a ρ=.ok (.int i)):eV a ρ=.ok (some i):=by
 unfold eV;rw [h];rfl
theorem PB {a:FE} {lo hi:List D->Res (Option Int)} {ρ:List D} {x:Str} {l h:Option Int} (h1:a ρ=.ok (.str x)) (h2:lo ρ=.ok l) (h3:hi ρ=.ok h) (hx:x.length<=1000):m9 a lo hi ρ=.ok (.str (Txt.slice x l h)):=by
 unfold m9;rw [h1,Res.aN,h2,Res.aN,h3,Res.aN];show (if decide (x.length<=lim) then Res.ok (D.str (Txt.slice x l h)) else .bad)=_;rw [if_pos (by rw [aY];exact decide_eq_true (by lia))]
theorem aA1 (x:Str):tx x.cps.toList=x:=rfl
theorem aGr (c:Nat) (n:Nat) (h:1<=n):Txt.mul (tx [c]) (n:Int)=tx (List.replicate n c):=by
 unfold Txt.mul;rw [if_neg (by lia)];split
 ·rename_i h1;have:n=1:=by
   simp [wL] at h1;lia
  subst this;rfl
 ·have:∀(m:Nat) (a:List Nat),(List.replicate m (tx [c]).cps).foldl (·++·) a.toArray=(a++List.replicate m c).toArray:=by
   intro m;induction m with
   | zero=>intro a;simp
   | succ m ih=>
    intro a;rw [List.replicate_succ,List.foldl_cons];have:a.toArray++(tx [c]).cps=(a++[c]).toArray:=by
     apply Array.ext';simp [tx]
    rw [this,ih,List.replicate_succ];simp
  have e:=this n [];rw [Int.toNat_natCast];show (⟨_⟩:Str)=⟨_⟩
  congr 1
theorem aCd (c:Nat) (n:Nat) (h:1<=n) (h2:n<=100):CQ (.str (tx [c])) (.int n)=.ok (.str (tx (List.replicate n c))):=by
 show (if decide (0<=(n:Int))&&decide ((n:Int)<=100000)&&decide ((tx [c]).length*(n:Int).toNat<=lim) then Res.ok (D.str (Txt.mul (tx [c]) n)) else .bad)=_;have e3:decide ((tx [c]).length*(n:Int).toNat<=lim)=true:=by
  rw [wL,aY];simp;lia
 rw [e3,decide_eq_true (by lia),decide_eq_true (by lia),aGr c n h];rfl
noncomputable abbrev ns (hD:D) (choice turn shift cell size:Int) (base:Str) (at_:Int) (NM:List D) (a b c d:D):List D:=[hD,.str abc,.int choice,.int turn,.int shift,.int cell,.int size,.str base,.int at_,.lst NM,a,b,c,d]
structure Nmf (nm:Nat->List Nat):Prop where
 inj:∀s t,s<26->t<26->nm s=nm t->s=t
 len:∀s,s<26->(nm s).length<=100
 pos:∀s,nm s≠[]
theorem aA2 (x:Int):∃s:Nat,s<26/\x % 26=s:=⟨(x % 26).toNat,by lia,by lia⟩
theorem aA3 {P Q A B:List Nat} (h:P++A++Q=P++B++Q):A=B:=by
 rw [List.append_assoc,List.append_assoc] at h;exact List.append_cancel_right (List.append_cancel_left h)
theorem aCe {choice turn shift cell size at_:Int} {base:Str} (hb:base.length<=10) (ht:lO turn=true) (hs0:0<=shift) (hs1:shift<26) :
  ∃nm:Nat->List Nat,Nmf nm/\∀(k:Int) (s:Nat),s<26->(k*turn+shift) % 26=s->∀(NM:List D) (b c d:D),NM.length<100->∃b' c' d',∀hD,nb (ns hD choice turn shift cell size base at_ NM (.int k) b c d)=.ok (.nx (ns hD choice turn shift cell size base at_ (NM++[.str (tx (nm s))]) (.int k) b' c' d')):=by
 have sp:∀(k:Int) (s:Nat) (hD:D) (NM:List D) (b c d:D),(k*turn+shift) % 26=s->bV false 11 (b2 (aU .mod) (b2 (aU .add) (b2 CQ fQ d_) fP) nA) true (ns hD choice turn shift cell size base at_ NM (.int k) b c d)=.ok (.nx (ns hD choice turn shift cell size base at_ NM (.int k) (.int s) c d)):=fun k s hD NM b c d e=>by
  rw [<-e];exact dB (aF (aF (aF (x:=.int k) (y:=.int turn) rfl rfl (u_ _ _ ht)) rfl (fW _ _)) rfl (b8 _ _ (by decide)))
 have cm:∀(ρ:List D) (j:Int),dH 2 ρ=.ok (.int choice)->bTB (b2 (cC .eq) (b2 (aU .mod) cO j0) (bC (.int j))) ρ=.ok (choice % 3==j):=fun ρ j h=>dC (aF (aF h rfl (b8 _ _ (by decide))) rfl (v_ _ _))
 have lt:∀(ρ:List D) (f:FE) (i:Int) ,dH 1 ρ=.ok (.str abc)->f ρ=.ok (.int i)->0<=i->i<26->b2 getD fK f ρ=.ok (.str (tx [97+i.toNat])):=fun ρ f i h1 h2 h3 h4=>aF h1 h2 (letter i h3 h4)
 obtain ⟨P,hP,lP⟩:∃P,Txt.slice base none (some at_)=tx P/\P.length<=10:=⟨_,(aA1 _).symm,Nat.le_trans (Txt.slice_le ..) hb⟩
 obtain ⟨Q,hQ,lQ⟩:∃P,Txt.slice base (some at_) none=tx P/\P.length<=10:=⟨_,(aA1 _).symm,Nat.le_trans (Txt.slice_le ..) hb⟩
 have ap:∀(a b:List Nat),a.length<=100->b.length<=100->aU .add (.str (tx a)) (.str (tx b))=.ok (.str (tx (a++b))):=fun a b h1 h2=>by
  rw [YK _ _ (by rw [wL,wL,aY];lia),RZ]
 have slP:∀ρ:List D,dH 7 ρ=.ok (.str base)->dH 8 ρ=.ok (.int at_)->m9 dY fL (eV lZ) ρ=.ok (.str (tx P)):=fun ρ g1 g2=>by
  rw [<-hP];exact PB g1 rfl (jW g2) (by lia)
 have slQ:∀ρ:List D,dH 7 ρ=.ok (.str base)->dH 8 ρ=.ok (.int at_)->m9 dY (eV lZ) fL ρ=.ok (.str (tx Q)):=fun ρ g1 g2=>by
  rw [<-hQ];exact PB g1 (jW g2) rfl (by lia)
 by_cases h1:choice % 3=1
 ·refine ⟨fun s=>List.replicate (1+s / 4) (97+((shift+((s:Int) % 4)) % 26).toNat),⟨fun s t hs ht e=>?_,fun s hs=>by rw [List.length_replicate];lia,fun s=>by simp [Nat.add_comm 1,List.replicate_succ]⟩,fun k s hs hk NM b c d hN=>⟨.int s,c,d,fun hD=>?_⟩⟩
  ·have e1:=congrArg List.length e;rw [List.length_replicate,List.length_replicate] at e1;have e2:=congrArg (fun l=>l.head?) e;simp only [Nat.add_comm 1,List.replicate_succ,List.head?_cons,Option.some.injEq] at e2;lia
  ·refine aK (sp k s hD NM b c d hk) (LK ((cm _ _ rfl).trans (by rw [h1];rfl)) ?_);refine xU (xs:=NM) (aF (lt _ _ _ rfl (aF (aF (x:=.int shift) rfl (aF (x:=.int s) rfl rfl (b8 _ _ (by decide))) (fW _ _)) rfl (b8 _ _ (by decide))) (by lia) (by lia)) (aF (y:=.int ((s:Int) / 4)) (x:=.int 1) rfl (aF (x:=.int s) rfl rfl (fB _ _ (by decide) (by decide))) (z:=.int ((1+s / 4:Nat):Int)) ?_) (aCd _ _ (by lia) (by lia))) rfl (by rw [aY];lia) rfl;rw [fW]
   congr 2
 ·by_cases h2:choice % 3=2
  ·refine ⟨fun s=>P++[97+((shift+((s:Int) % 6)) % 26).toNat,97+((shift+((s:Int) / 6)) % 26).toNat]++Q,⟨fun s t hs ht e=>?_,fun s hs=>by simp only [List.length_append,List.length_cons,List.length_nil];lia,fun s=>by simp⟩,fun k s hs hk NM b c d hN=>⟨.int s,.str (tx [97+((shift+((s:Int) % 6)) % 26).toNat]),.str (tx [97+((shift+((s:Int) / 6)) % 26).toNat]),fun hD=>?_⟩⟩
   ·have e1:=aA3 e;simp only [List.cons.injEq,and_true] at e1;lia
   ·refine aK (sp k s hD NM b c d hk) (sS ((cm _ _ rfl).trans (by rw [h2];rfl)) (LK ((cm _ _ rfl).trans (by rw [h2];rfl)) ?_));refine aK (lF (lt _ _ _ rfl (aF (aF (x:=.int shift) rfl (aF (x:=.int s) rfl rfl (b8 _ _ (by decide))) (fW _ _)) rfl (b8 _ _ (by decide))) (by lia) (by lia)) rfl) ?_;refine aK (lF (lt _ _ _ rfl (aF (aF (x:=.int shift) rfl (aF (x:=.int s) rfl rfl (fB _ _ (by decide) (by decide))) (fW _ _)) rfl (b8 _ _ (by decide))) (by lia) (by lia)) rfl) ?_;refine (xU (xs:=NM) (aF (aF (aF (slP _ rfl rfl) rfl (ap _ _ (by lia) (by simp))) rfl (ap _ _ (by simp only [List.length_append,List.length_singleton];lia) (by simp))) (slQ _ rfl rfl) (ap _ _ (by simp only [List.length_append,List.length_singleton];lia) (by lia))) rfl (by rw [aY];lia) rfl).trans ?_;simp only [List.append_assoc,List.cons_append,List.nil_append];rfl
  ·refine ⟨fun s=>P++[97+s]++Q,⟨fun s t hs ht e=>?_,fun s hs=>by simp only [List.length_append,List.length_cons,List.length_nil];lia,fun s=>by simp⟩,fun k s hs hk NM b c d hN=>⟨.int s,c,d,fun hD=>?_⟩⟩
   ·have e1:=aA3 e;simp only [List.cons.injEq,and_true] at e1;lia
   ·refine aK (sp k s hD NM b c d hk) (sS ((cm _ _ rfl).trans (by rw [beq_eq_false_iff_ne.mpr h1])) (sS ((cm _ _ rfl).trans (by rw [beq_eq_false_iff_ne.mpr h2])) ?_));refine (xU (xs:=NM) (aF (aF (slP _ rfl rfl) (lt _ _ s rfl rfl (by lia) (by lia)) (ap _ _ (by lia) (by simp))) (slQ _ rfl rfl) (ap _ _ (by simp only [List.length_append,List.length_singleton];lia) (by lia))) rfl (by rw [aY];lia) rfl).trans ?_;rw [Int.toNat_natCast];rfl
theorem zZ {choice turn shift cell size at_:Int} {base:Str} {nm:Nat->List Nat} (G:∀(k:Int) (s:Nat),s<26->(k*turn+shift) % 26=s->∀(NM:List D) (b c d:D),NM.length<100->∃b' c' d',∀hD,nb (ns hD choice turn shift cell size base at_ NM (.int k) b c d)=.ok (.nx (ns hD choice turn shift cell size base at_ (NM++[.str (tx (nm s))]) (.int k) b' c' d'))):∀(m j:Nat) (NM:List D) (a b c d:D),NM.length+m<100->∃a' b' c' d',∀hD,gQ (tg1 10) nb ((List.range' j m).map fun (k:Nat)=>D.int (0+(k:Int))) (ns hD choice turn shift cell size base at_ NM a b c d)=.ok (.nx (ns hD choice turn shift cell size base at_ (NM++(List.range' j m).map fun (k:Nat)=>D.str (tx (nm (((k:Int)*turn+shift) % 26).toNat))) a' b' c' d'))
 | 0,j,NM,a,b,c,d,_=>⟨a,b,c,d,fun hD=>by
  rw [List.range'_zero,List.map_nil,List.map_nil,List.append_nil];rfl⟩
 | m+1,j,NM,a,b,c,d,h=>by
  obtain ⟨s,hs,es⟩:=aA2 ((j:Int)*turn+shift);obtain ⟨b1,c1,d1,e1⟩:=G (0+(j:Int)) s hs (by rw [Int.zero_add];exact es) NM b c d (by lia);obtain ⟨a2,b2,c2,d2,e2⟩:=zZ G m (j+1) (NM++[.str (tx (nm s))]) (.int (0+(j:Int))) b1 c1 d1 (by rw [List.length_append,List.length_singleton];lia);refine ⟨a2,b2,c2,d2,fun hD=>?_⟩;rw [List.range'_succ,List.map_cons,List.map_cons,es,Int.toNat_natCast];refine bN (ρ1:=ns hD choice turn shift cell size base at_ NM (.int (0+(j:Int))) b c d) rfl (e1 hD) ?_;rw [e2 hD,List.append_assoc];rfl
theorem aGs (i:Int) (h0:0<=i) (h1:i<6):∃t:Int,getD (.lst [.int 1,.int 3,.int 5,.int 7,.int 9,.int 25]) (.int i)=.ok (.int t)/\(t=1\/t=3\/t=5\/t=7\/t=9\/t=25):=by
 have:i=0\/i=1\/i=2\/i=3\/i=4\/i=5:=by lia
 rcases this with h|h|h|h|h|h <;> subst h
 ·exact ⟨1,rfl,by decide⟩
 ·exact ⟨3,rfl,by decide⟩
 ·exact ⟨5,rfl,by decide⟩
 ·exact ⟨7,rfl,by decide⟩
 ·exact ⟨9,rfl,by decide⟩
 ·exact ⟨25,rfl,by decide⟩
theorem aCf {t s:Int} (ht:t=1\/t=3\/t=5\/t=7\/t=9\/t=25) {j k:Nat} (hj:j<26) (hk:k<26) (h:((j:Int)*t+s) % 26=((k:Int)*t+s) % 26):j=k:=by
 rcases ht with e|e|e|e|e|e <;> subst e <;> lia
end Lk49
end
section
namespace Lk49
open PySem L2 Mi
theorem KZ (n:Nat):∀N:List Str,D.cA n (N.map D.str)=true
 | []=>by rw [List.map_nil,D.cA]
 | x::N=>by
  rw [List.map_cons,D.cA,KZ n N];rw [D.bU] <;> simp
theorem GC (x:Str):(D.str x).bU bH=true:=by
 unfold bH;rw [D.bU] <;> simp
theorem K1:∀N:List Str,D.aX (N.map D.str)=true
 | []=>rfl
 | x::N=>by
  rw [List.map_cons,D.aX,K1 N];rfl
theorem aA4 (x:Str):∀N:List Str,(N.map D.str).any (fun y=>eqD y (.str x))=decide (x∈N)
 | []=>rfl
 | y::N=>by
  rw [List.map_cons,List.any_cons,aA4 x N];show ((y==x)||_)=_;by_cases h:y=x
  ·simp [h]
  ·have h2:¬x=y:=fun e=>h e.symm
   simp [h,h2]
theorem in_str (x:Str) (N:List Str):cC .isin (.str x) (.lst (N.map D.str))=.ok (.bl (decide (x∈N))):=by
 show (if (D.str x).bU bH&&D.cA bH (N.map D.str) then Res.ok (D.bl ((N.map D.str).any fun y=>eqD y (.str x))) else .bad)=_;rw [GC,KZ,aA4];rfl
theorem kJ {a:FE} {ρ:List D} {xs:List D} {fr:Bool} (h:a ρ=.ok (.lst xs)):bL a fr ρ=.ok (xs,fr):=by
 unfold bL;rw [h,Res.aN];show Res.ok (xs,fr||false)=_;rw [Bool.or_false]
theorem dD {a:FE} {ρ:List D} {xs:List D} {fr:Bool} (h:a ρ=.ok (.tup xs)):bL a fr ρ=.ok (xs,fr||D.aX xs):=by
 unfold bL;rw [h,Res.aN];show Res.ok (xs,fr||(D.tup xs).pure)=_;rw [D.pure]
theorem eY {α:Type} {n:Nat} {it:FI} {f:FE} {k kk:Bool} {ρ:List D} (d y:α->D) (xs:List α) (hρ:ρ.length=n) (h1:it ρ=.ok (xs.map d,kk)) (h2:xs.length<=100000) (h3:∀a∈xs,f (ρ++[d a])=.ok (y a)/\(k||(y a).pure)=true):cN n it nC eE f k ρ=.ok (.lst (xs.map y)):=by
 refine CT h1 (by rw [List.length_map,aY];lia) ?_;have:∀(xs:List α) (acc:List D),(∀a∈xs,f (ρ++[d a])=.ok (y a)/\(k||(y a).pure)=true)->k_ (p_ n nC eE f k ρ) acc (xs.map d)=.ok (acc++xs.map y):=by
  intro xs;induction xs with
  | nil=>intro acc _;simp [k_]
  | cons x xs ih=>
   intro acc h;rw [List.map_cons,k_,JM hρ (b:=true) rfl fun _=>h x (List.mem_cons_self ..)];show k_ _ (acc++[y x]) _=_;rw [ih _ fun a ha=>h a (List.mem_cons_of_mem _ ha),List.append_assoc];rfl
 exact (this xs [] h3).trans (by rw [List.nil_append])
theorem aGt {α:Type} {n:Nat} {it:FI} {c:FT} {f:FE} {k kk:Bool} {ρ:List D} (d y:α->D) (p:α->Bool) (xs:List α) (hρ:ρ.length=n) (h1:it ρ=.ok (xs.map d,kk)) (h2:xs.length<=100000) (hc:∀a∈xs,c (ρ++[d a])=.ok (p a)) (h3:∀a∈xs,p a=true->f (ρ++[d a])=.ok (y a)/\(k||(y a).pure)=true):cN n it nC c f k ρ=.ok (.lst ((xs.filter p).map y)):=by
 refine CT h1 (by rw [List.length_map,aY];lia) ?_;have:∀(xs:List α) (acc:List D),(∀a∈xs,c (ρ++[d a])=.ok (p a))->(∀a∈xs,p a=true->f (ρ++[d a])=.ok (y a)/\(k||(y a).pure)=true)->k_ (p_ n nC c f k ρ) acc (xs.map d)=.ok (acc++(xs.filter p).map y):=by
  intro xs;induction xs with
  | nil=>intro acc _ _;simp [k_]
  | cons x xs ih=>
   intro acc hc h;rw [List.map_cons,k_,JM hρ (hc x (List.mem_cons_self ..)) fun e=>h x (List.mem_cons_self ..) e];show k_ _ _ _=_;rw [ih _ (fun a ha=>hc a (List.mem_cons_of_mem _ ha)) fun a ha=>h a (List.mem_cons_of_mem _ ha)];by_cases hp:p x
   ·simp [hp]
   ·simp [hp]
 exact (this xs [] hc h3).trans (by rw [List.nil_append])
theorem aMk {f:D->List D->Res D} {o:FE} {a:FA} {ρ:List D} {x:D} {xs:List D} {r:Res D} (h1:o ρ=.ok x) (h2:a ρ=.ok xs) (h3:f x xs=r):bM f o a ρ=r:=by
 unfold bM;rw [h1,Res.aN,h2,Res.aN,h3]
theorem aMl (a b:List Nat) (h:tx a++("e" : Str)=tx b++("e" : Str)):a=b:=by
 have e:("e" : Str)=tx [101]:=rfl;rw [e,RZ,RZ] at h;exact List.append_cancel_right (zY h)
theorem aGu (x:Str):¬x++("e" : Str) = "copy"/\¬x++("e" : Str) = "drop"/\¬x++("e" : Str) = "":=by
 have e:("e" : Str)=tx [101]:=rfl;have c:("copy" : Str)=tx ([99,111,112]++[121]):=rfl;have d:("drop" : Str)=tx ([100,114,111]++[112]):=rfl;have z:("" : Str)=tx []:=rfl;rw [<-aA1 x,e,RZ,c,d,z];refine ⟨fun h=>?_,fun h=>?_,fun h=>?_⟩
 ·have:=(List.append_inj_right' (zY h) rfl)
  cases this
 ·have:=(List.append_inj_right' (zY h) rfl)
  cases this
 ·have:=zY h;simp at this
theorem aCg (cs:List Int) (n:Nat) (hn:n+3<=100000):∃N:List Str,N.length=26/\N.Nodup/\(¬("copy" : Str)∈N/\¬("drop" : Str)∈N/\¬("" : Str)∈N)/\∀b,fD [.cel b (dk cs n)]=.ok (.tup [.lst (N.map D.str),.cel b (dk cs (n+3))]):=by
 obtain ⟨choice,q1⟩:=jJ cs n (by lia);obtain ⟨cell,q2⟩:=jJ cs (n+1) (by lia);obtain ⟨raw,q3⟩:=jJ cs (n+2) (by lia);obtain ⟨turn,t1,t2⟩:=aGs (choice / 3 % 6) (by lia) (by lia)
 let shift:=choice / 18 % 26
 have hs0:0<=shift:=by show 0<=choice / 18 % 26;lia
 have hs1:shift<26:=by show choice / 18 % 26<26;lia
 let size:=cell % 8
 have hz0:0<=size:=by show 0<=cell % 8;lia
 have hz1:size<8:=by show cell % 8<8;lia
 let bcs:List Nat:=(List.range size.toNat).map fun (k:Nat)=>97+((cell / 8+(0+(k:Int))*(shift+cell / 40 % 5)) % 26).toNat
 have hbl:bcs.length<=10:=by show (List.map _ _).length<=10;rw [List.length_map,List.length_range];lia
 let at_:=raw % (size+1)
 let base:Str:=if choice % 3=2 then Txt.slice (tx bcs) none (some 6) else tx bcs
 have hbase:base.length<=10:=by
  show (if choice % 3=2 then Txt.slice (tx bcs) none (some 6) else tx bcs).length<=10;split
  ·exact Nat.le_trans (Txt.slice_le ..) (by rw [wL];exact hbl)
  ·rw [wL];exact hbl
 have hts:lO turn=true:=CV _ (by lia) (by lia);obtain ⟨nm,M,G⟩:=aCe (choice:=choice) (turn:=turn) (shift:=shift) (cell:=cell) (size:=size) (at_:=at_) hbase hts hs0 hs1;obtain ⟨a',b',c',d',L⟩:=zZ G 26 0 [] .uD .uD .uD .uD (by decide)
 let sp:Nat->Nat:=fun k=>(((k:Int)*turn+shift) % 26).toNat
 have spl:∀k,sp k<26:=fun k=>by show (((k:Int)*turn+shift) % 26).toNat<26;lia
 have spi:∀j k,j<26->k<26->sp j=sp k->j=k:=fun j k hj hk e=>aCf (s:=shift) t2 hj hk (by
  have e':(((j:Int)*turn+shift) % 26).toNat=(((k:Int)*turn+shift) % 26).toNat:=e;lia)
 have nod:∀g:List Nat->Str,(∀a b,g a=g b->a=b)->((List.range' 0 26).map fun k=>g (nm (sp k))).Nodup:=fun g hg=>by
  rw [List.nodup_iff_pairwise_ne,List.pairwise_map];refine List.Pairwise.imp_of_mem ?_ (List.nodup_iff_pairwise_ne.mp (List.nodup_range' (s:=0) (n:=26) (step:=1) (by decide)));intro j k hj hk hne e;rw [List.mem_range'_1] at hj hk;exact hne (spi j k (by lia) (by lia) (M.inj _ _ (spl j) (spl k) (hg _ _ e)))
 have pre:∀(b:Nat) (R:Res Fl) (g:FS),g (ns (.cel b (dk cs (n+3))) choice turn shift cell size base at_ (((List.range' 0 26).map fun k=>tx (nm (sp k))).map D.str) a' b' c' d')=R->(aW (bV false 1 (bC (.str "abcdefghijklmnopqrstuvwxyz")) true) (aW (fX false 2 (bY aP 1 0 aO)) (aW (bV false 3 (b2 getD (l_ (aB dZ (aB j0 (aB VN (aB (bC (.int 7)) (aB aLa (aB (bC (.int 25)) aO))))))) (b2 (aU .mod) (b2 (aU .fdiv) cO j0) W6)) false) (aW (bV false 4 (b2 (aU .mod) (b2 (aU .fdiv) cO yV) nA) true) (aW (fX false 5 (bY aP 1 0 aO)) (aW (bV false 6 (b2 (aU .mod) fO aIb) true) (aW (bV false 7 (bM joinM (bC (.str "")) (aB (cN 14 (jC (aB eN aO) iM) nC eE (b2 getD fK (b2 (aU .mod) (b2 (aU .add) (b2 (aU .fdiv) fO aIb) (b2 CQ jZ (b2 (aU .add) fP (b2 (aU .mod) (b2 (aU .fdiv) fO aF6) VN)))) nA)) false) aO)) true) (aW (fX false 8 (x2L (aU .mod) (bY aP 1 0 aO) (b2 (aU .add) eN dZ))) (aW (sIf (bTB (b2 (cC .eq) (b2 (aU .mod) cO j0) oK)) (bV false 7 (m9 dY fL (eV W6)) true) iQ) (aW (bV true 9 (l_ aO) true) (aW (yU (jC (aB nA aO) iM) (tg1 10) nb) g))))))))))) [.cel b (dk cs n),.uD,.uD,.uD,.uD,.uD,.uD,.uD,.uD,.uD,.uD,.uD,.uD,.uD]=R:=fun b R g hg=>by
  refine aK (ρ':=[.cel b (dk cs n),.str abc,.uD,.uD,.uD,.uD,.uD,.uD,.uD,.uD,.uD,.uD,.uD,.uD]) (dB (i:=1) rfl) ?_;refine aK (ρ':=[.cel b (dk cs (n+1)),.str abc,.int choice,.uD,.uD,.uD,.uD,.uD,.uD,.uD,.uD,.uD,.uD,.uD]) (iH (i:=2) (yO q1 rfl rfl) rfl) ?_;refine aK (ρ':=[.cel b (dk cs (n+1)),.str abc,.int choice,.int turn,.uD,.uD,.uD,.uD,.uD,.uD,.uD,.uD,.uD,.uD]) (lF (i:=3) (aF rfl (aF (aF rfl rfl (fB _ _ (by decide) (by decide))) rfl (b8 _ _ (by decide))) t1) rfl) ?_;refine aK (ρ':=[.cel b (dk cs (n+1)),.str abc,.int choice,.int turn,.int shift,.uD,.uD,.uD,.uD,.uD,.uD,.uD,.uD,.uD]) (dB (i:=4) (aF (aF rfl rfl (fB _ _ (by decide) (by decide))) rfl (b8 _ _ (by decide)))) ?_;refine aK (ρ':=[.cel b (dk cs (n+2)),.str abc,.int choice,.int turn,.int shift,.int cell,.uD,.uD,.uD,.uD,.uD,.uD,.uD,.uD]) (iH (i:=5) (yO q2 rfl rfl) rfl) ?_;refine aK (ρ':=[.cel b (dk cs (n+2)),.str abc,.int choice,.int turn,.int shift,.int cell,.int size,.uD,.uD,.uD,.uD,.uD,.uD,.uD]) (dB (i:=6) (aF rfl rfl (b8 _ _ (by decide)))) ?_;refine aK (ρ':=[.cel b (dk cs (n+2)),.str abc,.int choice,.int turn,.int shift,.int cell,.int size,.str (tx bcs),.uD,.uD,.uD,.uD,.uD,.uD]) (dB (i:=7) ?_) ?_
  ·have hc:=eY (n:=14) (it:=jC (aB eN aO) iM) (f:=b2 getD fK (b2 (aU .mod) (b2 (aU .add) (b2 (aU .fdiv) fO aIb) (b2 CQ jZ (b2 (aU .add) fP (b2 (aU .mod) (b2 (aU .fdiv) fO aF6) VN)))) nA)) (k:=false) (ρ:=[.cel b (dk cs (n+2)),.str abc,.int choice,.int turn,.int shift,.int cell,.int size,.uD,.uD,.uD,.uD,.uD,.uD,.uD]) (fun k:Nat=>D.int (0+(k:Int))) (fun k:Nat=>.str (one (97+((cell / 8+(0+(k:Int))*(shift+cell / 40 % 5)) % 26).toNat))) (List.range size.toNat) rfl (wG (n:=size) (aD rfl rfl) (by lia) (by lia)) (by rw [List.length_range];lia) (fun k _=>⟨aF (x:=.str abc) rfl (aF (aF (aF (x:=.int cell) rfl rfl (fB _ _ (by decide) (by decide))) (aF (x:=.int (0+(k:Int))) rfl (aF (x:=.int shift) rfl (aF (aF (x:=.int cell) rfl rfl (fB _ _ (by decide) (by decide))) rfl (b8 _ _ (by decide))) (fW _ _)) (u_ _ _ (CV _ (by lia) (by lia)))) (fW _ _)) rfl (b8 _ _ (by decide))) (letter _ (by lia) (by lia)),rfl⟩);have hj:=aGq bcs (by lia);rw [List.map_map] at hj;exact aMk rfl (aD hc rfl) hj
  refine aK (ρ':=[.cel b (dk cs (n+3)),.str abc,.int choice,.int turn,.int shift,.int cell,.int size,.str (tx bcs),.int at_,.uD,.uD,.uD,.uD,.uD]) (iH (i:=8) (zW (yO q3 rfl rfl) rfl (aF (x:=.int size) rfl rfl (fW _ _)) (b8 _ _ (by lia)) rfl) rfl) ?_;refine aK (ρ':=[.cel b (dk cs (n+3)),.str abc,.int choice,.int turn,.int shift,.int cell,.int size,.str base,.int at_,.uD,.uD,.uD,.uD,.uD]) ?_ ?_
  ·by_cases h2:choice % 3=2
   ·have eb:base=Txt.slice (tx bcs) none (some 6):=if_pos h2;rw [eb];exact LK (dC (aF (aF rfl rfl (b8 _ _ (by decide))) rfl ((v_ _ _).trans (by rw [h2];rfl)))) (dB (i:=7) (PB (x:=tx bcs) rfl rfl (jW rfl) (by rw [wL];lia)))
   ·have eb:base=tx bcs:=if_neg h2;rw [eb];exact sS (dC (aF (aF rfl rfl (b8 _ _ (by decide))) rfl ((v_ _ _).trans (by rw [beq_eq_false_iff_ne.mpr h2])))) rfl
  refine aK (ρ':=ns (.cel b (dk cs (n+3))) choice turn shift cell size base at_ [] .uD .uD .uD .uD) (e_ (i:=9) rfl rfl) ?_;refine aK (kE (wG (n:=26) (aD rfl rfl) (by decide) (by decide)) ?_) hg;have e:=L (.cel b (dk cs (n+3)));rw [List.nil_append] at e;rw [List.map_map];exact e
 generalize hN0:((List.range' 0 26).map fun k=>tx (nm (sp k)))=N0 at pre;have l0:N0.length=26:=by rw [<-hN0,List.length_map];rfl
 have n0:N0.Nodup:=hN0▸nod tx fun _ _ e=>zY e
 have z0:¬("" : Str)∈N0:=fun hx=>by
  rw [<-hN0,List.mem_map] at hx;obtain ⟨k,_,e⟩:=hx;exact M.pos _ (zY (e.trans (show ("" : Str)=tx [] from rfl)))
 have tl:∀x∈N0,x.length<=100:=fun x hx=>by
  rw [<-hN0,List.mem_map] at hx;obtain ⟨k,_,rfl⟩:=hx;rw [wL];exact M.len _ (spl k)
 have cond:∀(hD:D),(bOr (bTB (b2 inX (bC (.str "copy")) BL)) (bTB (b2 inX (bC (.str "drop")) BL))) (ns hD choice turn shift cell size base at_ (N0.map D.str) a' b' c' d')=.ok (decide (("copy" : Str)∈N0)||decide (("drop" : Str)∈N0)):=fun hD=>aMj (dC (aF rfl rfl (in_str _ _))) (dC (aF rfl rfl (in_str _ _)))
 have fin:∀(b:Nat) (N:List Str),(zP 9) (ns (.cel b (dk cs (n+3))) choice turn shift cell size base at_ (N.map D.str) a' b' c' d')=.ok (.rt (.tup (.lst (N.map D.str)::ns (.cel b (dk cs (n+3))) choice turn shift cell size base at_ (N.map D.str) a' b' c' d'))):=fun b N=>RX rfl rfl
 by_cases hc:(decide (("copy" : Str)∈N0)||decide (("drop" : Str)∈N0))=true
 ·refine ⟨N0.map fun x=>x++("e" : Str),by rw [List.length_map,l0],?_,⟨fun h=>?_,fun h=>?_,fun h=>?_⟩,fun b=>?_⟩
  ·rw [<-hN0,List.map_map];exact nod (fun a=>tx a++("e" : Str)) aMl
  ·obtain ⟨x,_,e⟩:=List.mem_map.mp h;exact (aGu x).1 e
  ·obtain ⟨x,_,e⟩:=List.mem_map.mp h;exact (aGu x).2.1 e
  ·obtain ⟨x,_,e⟩:=List.mem_map.mp h;exact (aGu x).2.2 e
  ·refine zX (k:=1) (ρ:=ns (.cel b (dk cs (n+3))) choice turn shift cell size base at_ ((N0.map fun x=>x++("e" : Str)).map D.str) a' b' c' d') (pre b _ _ (aK (LK ((cond _).trans (by rw [hc])) (e_ (i:=9) (d:=.lst ((N0.map fun x=>x++("e" : Str)).map D.str)) ?_ (K1 _))) (fin b _)));rw [List.map_map];exact eY (n:=14) D.str (fun x=>D.str (x++("e" : Str))) N0 rfl (kJ rfl) (by lia) (fun x hx=>⟨aF rfl rfl (YK _ _ (by have:=tl x hx;rw [aY];show x.length+1<=_;lia)),rfl⟩)
 ·refine ⟨N0,l0,n0,⟨fun h=>hc (by rw [decide_eq_true h];rfl),fun h=>hc (by rw [decide_eq_true h,Bool.or_true]),z0⟩,fun b=>?_⟩;exact zX (k:=1) (ρ:=ns (.cel b (dk cs (n+3))) choice turn shift cell size base at_ (N0.map D.str) a' b' c' d') (pre b _ _ (aK (sS ((cond _).trans (by rw [Bool.eq_false_iff.mpr hc])) rfl) (fin b _)))
theorem aCh (cs:List Int) (n:Nat) (hn:n+3<=100000):∃N:List Str,N.length=26/\N.Nodup/\(¬("copy" : Str)∈N/\¬("drop" : Str)∈N/\¬("" : Str)∈N)/\ch1 fD (dk cs n) []=.ok (.lst (N.map D.str),dk cs (n+3)):=by
 obtain ⟨N,h1,h2,h4,h3⟩:=aCg cs n hn;exact ⟨N,h1,h2,h4,JT h3⟩
end Lk49
end
section
namespace Lk49
open PySem L2 Mi
theorem aA5 (n d a:Nat):QJ n d (some (a:Int))=min a n:=by
 show (if (a:Int)<0 then (max ((a:Int)+(n:Int)) 0).toNat else (min (a:Int) (n:Int)).toNat)=_;rw [if_neg (by lia)];lia
theorem GD (n d:Nat):QJ n d none=d:=rfl
theorem aA6 {α:Type} (xs:List α) (a:Nat):cutD xs none (some (a:Int))=xs.take a:=by
 unfold cutD;rw [aA5,GD,List.drop_zero,Nat.sub_zero];by_cases h:a<=xs.length
 ·rw [Nat.min_eq_left h]
 ·rw [Nat.min_eq_right (by lia),List.take_of_length_le (Nat.le_refl _),List.take_of_length_le (by lia)]
theorem GF {α:Type} (xs:List α) (a:Nat):cutD xs (some (a:Int)) none=xs.drop a:=by
 unfold cutD;rw [aA5,GD];by_cases h:a<=xs.length
 ·rw [Nat.min_eq_left h,List.take_of_length_le (by rw [List.length_drop];exact Nat.le_refl _)]
 ·rw [Nat.min_eq_right (by lia),List.drop_eq_nil_of_le (Nat.le_refl _),List.drop_eq_nil_of_le (by lia),List.take_nil]
def sy (N:List Str) (i:Nat):D:=.str (N.getD i "")
theorem aKc (N:List Str) (h:N.length=26):N.map D.str=(List.range 26).map (sy N):=by
 apply List.ext_getElem
 ·simp [h]
 ·intro i h1 h2;rw [List.getElem_map,List.getElem_map,List.getElem_range];have h1':i<N.length:=by rw [List.length_map] at h1;exact h1
  show D.str (N[i]'h1')=D.str (N.getD i "");rw [List.getD_eq_getElem?_getD,List.getElem?_eq_getElem h1'];rfl
theorem GJ {N:List Str} (h:N.length=26) (hN:N.Nodup) {i j:Nat} (hi:i<26) (hj:j<26):eqD (sy N i) (sy N j)=decide (i=j):=by
 show ((N.getD i "")==(N.getD j ""))=_;have hi':i<N.length:=by lia
 have hj':j<N.length:=by lia
 rw [List.getD_eq_getElem?_getD,List.getD_eq_getElem?_getD,List.getElem?_eq_getElem hi',List.getElem?_eq_getElem hj'];show (N[i]==N[j])=_;by_cases e:i=j
 ·subst e;simp
 ·have:¬N[i]=N[j]:=fun g=>e ((List.getElem_inj hN).mp g)
  simp [e,this]
theorem dR (N:List Str):∀l:List Nat,D.aX (l.map (sy N))=true
 | []=>rfl
 | i::l=>by
  rw [List.map_cons,D.aX,dR N l];rfl
theorem o6 (N:List Str) (n:Nat):∀l:List Nat,D.cA n (l.map (sy N))=true
 | []=>by rw [List.map_nil,D.cA]
 | x::l=>by
  rw [List.map_cons,D.cA,o6 N n l];unfold sy;rw [D.bU] <;> simp
theorem wA (N:List Str) (i:Nat):(sy N i).bU bH=true:=GC _
theorem aA7 {N:List Str} (h:N.length=26) (hN:N.Nodup) {i:Nat} (hi:i<26):∀l:List Nat,(∀j∈l,j<26)->(l.map (sy N)).any (fun y=>eqD y (sy N i))=decide (i∈l)
 | [],_=>rfl
 | j::l,hl=>by
  rw [List.map_cons,List.any_cons,aA7 h hN hi l fun k hk=>hl k (List.mem_cons_of_mem _ hk),GJ h hN (hl j (List.mem_cons_self ..)) hi];by_cases e:j=i
  ·simp [e]
  ·have e2:¬i=j:=fun g=>e g.symm
   simp [e,e2]
theorem yP {α:Type} {f:α->D} {l:List α} {i:Nat} {a:α} {x:Int} (hx:x=i) (h:l[i]?=some a):getD (.lst (l.map f)) (.int x)=.ok (f a):=by
 subst hx;obtain ⟨hi,e⟩:=List.getElem?_eq_some_iff.mp h;show Res.ofOpt ((ixD (l.map f).length (i:Int)).bind fun j=>(l.map f)[j]?)=_;unfold ixD;rw [if_pos (by lia),List.length_map,if_pos (by lia)];simp [h]
theorem R3 {α:Type} {f:α->D} {l:List α} {i:Nat} {a:α} {x:Int} (hx:x=i) (h:l[i]?=some a):getD (.tup (l.map f)) (.int x)=.ok (f a):=yP hx h
theorem gC {f:Nat->D} {n i:Nat} {x:Int} (hx:x=i) (hi:i<n):getD (.lst ((List.range n).map f)) (.int x)=.ok (f i):=yP hx (by rw [List.getElem?_range hi])
abbrev Rw:=Nat×Nat×List Nat
abbrev Tk:=Nat×Nat×Nat×List Nat
noncomputable def rwD (N:List Str) (r:Rw):D:=.tup [sy N r.1,sy N r.2.1,.tup (r.2.2.map (sy N))]
noncomputable def tkD (N:List Str) (r:Tk):D:=.tup [sy N r.1,sy N r.2.1,sy N r.2.2.1,.tup (r.2.2.2.map (sy N))]
theorem dU (N:List Str) (r:Rw):(rwD N r).pure=true:=by
 show ((sy N r.1).pure&&((sy N r.2.1).pure&&((D.tup (r.2.2.map (sy N))).pure&&true)))=true;rw [D.pure,dR];rfl
theorem mZ (N:List Str) (r:Tk):(tkD N r).pure=true:=by
 show ((sy N r.1).pure&&((sy N r.2.1).pure&&((sy N r.2.2.1).pure&&((D.tup (r.2.2.2.map (sy N))).pure&&true))))=true;rw [D.pure,dR];rfl
theorem aZ {α:Type} {f:α->D} (h:∀a,(f a).pure=true):∀l:List α,D.aX (l.map f)=true
 | []=>rfl
 | x::l=>by
  rw [List.map_cons,D.aX,h,aZ h l];rfl
theorem wB {a:FE} {lo hi:List D->Res (Option Int)} {ρ xs:List D} {l h:Option Int} (h1:a ρ=.ok (.lst xs)) (h2:lo ρ=.ok l) (h3:hi ρ=.ok h) (hx:D.aX xs=true):m9 a lo hi ρ=.ok (.lst (cutD xs l h)):=by
 unfold m9;rw [h1,Res.aN,h2,Res.aN,h3,Res.aN];show (if D.aX xs then Res.ok (D.lst (cutD xs l h)) else .bad)=_;rw [if_pos hx]
theorem K3 {g:D->Res D} {f:FE} {ρ:List D} {x y:D} (h:f ρ=.ok x) (h2:g x=.ok y):b1 g f ρ=.ok y:=by
 unfold b1;rw [h];exact h2
structure Nms (N:List Str):Prop where
 len:N.length=26
 nd:N.Nodup
 nc:¬("copy" : Str)∈N
 nr:¬("drop" : Str)∈N
 ne:¬("" : Str)∈N
end Lk49
end
section
namespace Lk49
open PySem L2 Mi
noncomputable def mkb:FS:=(aW (fX false 7 (bY aP 1 0 aO)) (aW (bV false 8 (cN 12 (jC (aB (b2 (aU .mod) (b2 (aU .fdiv) dY j0) VP) aO) iM) nC eE (b2 getD fP (b2 (aU .mod) (b2 (aU .fdiv) dY (b2 getD (l_ (aB aB8 (aB (bC (.int 36)) (aB (bC (.int 108)) aO)))) nP)) d_)) false) true) (IK 5 (eX (aB (b2 getD fK (b2 (aU .add) (b2 (aU .add) j0 d_) eN)) (aB (b2 getD fP (b2 (aU .mod) dY d_)) (aB (aV eO (aB lZ aO)) aO)))))))
noncomputable def tkb:FS:=(aW (fX false 7 (bY aP 1 0 aO)) (aW (bV false 11 (cN 12 (jC (aB (b2 (aU .mod) (b2 (aU .fdiv) dY aLa) j0) aO) iM) nC eE (b2 getD fP (b2 (aU .mod) (b2 (aU .fdiv) dY (b2 getD (l_ (aB (bC (.int 27)) (aB (bC (.int 81)) aO))) nP)) d_)) false) true) (IK 10 (eX (aB (b2 getD fK (b2 (aU .add) aF7 eN)) (aB (b2 getD fP (b2 (aU .mod) dY d_)) (aB (b2 getD fP (b2 (aU .mod) (b2 (aU .fdiv) dY j0) d_)) (aB (aV eO (aB lV aO)) aO))))))))
def sg0:FS:=(fX false 2 (bY aP 1 0 aO))
def sg1:FS:=(bV false 3 (b2 (aU .add) dZ (b2 (aU .mod) cO j0)) true)
def sg2:FS:=(bV true 4 (m9 fK fL (eV d_)) true)
noncomputable def sg3:FS:=(bV true 5 (cN 12 (jC (aB d_ aO) iM) nC eE (eX (aB (b2 getD fK (b2 (aU .add) j0 nP)) (aB (b2 getD fP nP) (aB (eX aO) aO)))) false) true)
noncomputable def sg4:FS:=(yU (jC (aB (b2 (aU .mod) (b2 (aU .fdiv) cO j0) VP) aO) iM) (tg1 6) mkb)
noncomputable def sg5:FS:=(bV false 9 (b2 (aU .mod) (b2 (aU .fdiv) cO aB8) (aV mC (aB fO aO))) true)
def sg6:FS:=(bV true 10 (l_ aO) true)
noncomputable def sg7:FS:=(Y8 (aJj (x2R (aU .add) dZ (x2L (aU .mod) (bY aP 1 0 aO) j0))) (tg1 6) tkb)
noncomputable def sg8:FS:=(JX (aB (bOw 4) (aB (b2 (aU .add) (m9 fO (eV BL) fL) (m9 fO fL (eV BL))) (aB (bOw 10) aO))))
theorem aGv:sY=(aW sg0 (aW sg1 (aW sg2 (aW sg3 (aW sg4 (aW sg5 (aW sg6 (aW sg7 sg8)))))))):=rfl
noncomputable abbrev ss (hD:D) (N:List Str) (cell:Int) (m:Nat) (M:List Rw) (a b c d e f:D):List D:=[hD,.lst ((List.range 26).map (sy N)),.int cell,.int m,.lst ((List.range m).map (sy N)),.lst (M.map (rwD N)),a,b,c,d,e,f]
def mk0 (m:Nat):List Rw:=(List.range m).map fun k=>(3+k,k,[])
section
variable {cs:List Int} {N:List Str}
theorem aGw (f:Nat->D) (n a:Nat) (h:a<=n):cutD ((List.range n).map f) none (some (a:Int))=(List.range a).map f:=by
 rw [aA6,<-List.map_take,List.take_range,Nat.min_eq_left h]
theorem aKd {hD:D} {cell:Int} {m:Nat} (hm:m<=26) (a b c d e f g h:D):sg2 [hD,.lst ((List.range 26).map (sy N)),.int cell,.int m,a,b,c,d,e,f,g,h]=.ok (.nx [hD,.lst ((List.range 26).map (sy N)),.int cell,.int m,.lst ((List.range m).map (sy N)),b,c,d,e,f,g,h]):=
 e_ (i:=4) (d:=.lst ((List.range m).map (sy N))) (by rw [<-aGw (sy N) 26 m hm];exact wB rfl rfl (jW rfl) (dR ..)) (dR ..)
theorem aKe {hD:D} {cell:Int} {m:Nat} (hm:m<=3) (b c d e f g h:D):sg3 [hD,.lst ((List.range 26).map (sy N)),.int cell,.int m,.lst ((List.range m).map (sy N)),b,c,d,e,f,g,h]=.ok (.nx [hD,.lst ((List.range 26).map (sy N)),.int cell,.int m,.lst ((List.range m).map (sy N)),.lst ((mk0 m).map (rwD N)),c,d,e,f,g,h]):=by
 refine e_ (i:=5) (d:=.lst ((mk0 m).map (rwD N))) ?_ (aZ (dU N) _);unfold mk0;rw [List.map_map];refine eY (n:=12) (fun k:Nat=>D.int (0+(k:Int))) _ (List.range m) rfl (wG (n:=(m:Int)) (aD rfl rfl) (by lia) (by lia)) (by rw [List.length_range];lia) fun k hk=>?_
 rw [List.mem_range] at hk;exact ⟨cT (aD (aF rfl (aF rfl rfl (fW _ _)) (gC (i:=3+k) (by lia) (by lia))) (aD (aF rfl rfl (gC (i:=k) (by lia) hk)) (aD (cT (xs:=[]) rfl (by rw [aY];simp)) rfl))) (by rw [aY];simp),rfl⟩
end
def Gr (m:Nat) (r:Rw):Prop:=r.2.1<m/\(∀i∈r.2.2,i<m)/\r.2.2.length<=3
noncomputable def Gt (m:Nat) (t:Tk):Prop:=t.2.1<m/\t.2.2.1<m/\(∀i∈t.2.2.2,i<m)/\t.2.2.2.length<=2
noncomputable def w3:Nat->Int
 | 0=>12
 | 1=>36
 | _=>108
noncomputable def w2:Nat->Int
 | 0=>27
 | _=>81
theorem aKf {j:Nat} (h:j<3):getD (.lst [.int 12,.int 36,.int 108]) (.int (0+(j:Int)))=.ok (.int (w3 j)):=by
 have:j=0\/j=1\/j=2:=by lia
 rcases this with e|e|e <;> subst e <;> rfl
theorem aDz (j:Nat):0<w3 j/\w3 j<1073741824:=by
 unfold w3;split <;> decide
theorem aKg {j:Nat} (h:j<2):getD (.lst [.int 27,.int 81]) (.int (0+(j:Int)))=.ok (.int (w2 j)):=by
 have:j=0\/j=1:=by lia
 rcases this with e|e <;> subst e <;> rfl
theorem aE0 (j:Nat):0<w2 j/\w2 j<1073741824:=by
 unfold w2;split <;> decide
section
variable {cs:List Int} {N:List Str}
theorem kix {m:Nat} (h1:1<=m) (v:Int):∃i:Nat,i<m/\v % (m:Int)=i:=by
 have a:0<=v % (m:Int):=Int.emod_nonneg _ (by lia);have b:v % (m:Int)<m:=Int.emod_lt_of_pos _ (by lia);exact ⟨(v % (m:Int)).toNat,by lia,by lia⟩
theorem aKh {cell:Int} {m n j:Nat} {M:List Rw} (hn:n<=1000) (h1:1<=m) (hm:m<=3) (hj:j<3) (hM:M.length<100) (x o d e f:D) :
  ∃(r:Rw) (x' o':D),Gr m r/\r.1=3+m+j/\∀b,mkb (ss (.cel b (dk cs n)) N cell m M (.int (0+(j:Int))) o x d e f)=.ok (.nx (ss (.cel b (dk cs (n+1))) N cell m (M++[r]) (.int (0+(j:Int))) o' x' d e f)):=by
 obtain ⟨v,qv⟩:=jJ cs n (by lia);obtain ⟨k,k1,k2⟩:=kix h1 v
 let ix:Nat->Nat:=fun j=>((v / w3 j) % (m:Int)).toNat
 have ixm:∀j,ix j<m/\(v / w3 j) % (m:Int)=ix j:=fun j=>by
  obtain ⟨i,i1,i2⟩:=kix h1 (v / w3 j);have:ix j=i:=by show ((v / w3 j) % (m:Int)).toNat=i;lia
  exact ⟨by lia,by lia⟩
 let c:Nat:=(v / 3 % 4).toNat
 have hc:(c:Int)=v / 3 % 4:=by show (((v / 3 % 4).toNat:Nat):Int)=_;lia
 have c4:c<=3:=by lia
 let B:List Nat:=(List.range c).map ix
 have lB:B.length<=3:=by show ((List.range c).map ix).length<=3;rw [List.length_map,List.length_range];exact c4
 have mB:∀i∈B,i<m:=fun i hi=>by obtain ⟨a,_,rfl⟩:=List.mem_map.mp hi;exact (ixm a).1
 refine ⟨(3+m+j,k,B),.lst (B.map (sy N)),.int v,⟨k1,mB,lB⟩,rfl,fun b=>?_⟩;refine aK (ρ':=ss (.cel b (dk cs (n+1))) N cell m M (.int (0+(j:Int))) (.int v) x d e f) (iH (i:=7) (yO qv rfl rfl) rfl) ?_;refine aK (ρ':=ss (.cel b (dk cs (n+1))) N cell m M (.int (0+(j:Int))) (.int v) (.lst (B.map (sy N))) d e f) (dB (i:=8) ?_) ?_
 ·show _=Res.ok (D.lst (((List.range c).map ix).map (sy N)));rw [List.map_map];refine eY (n:=12) (fun k:Nat=>D.int (0+(k:Int))) (fun j=>sy N (ix j)) (List.range c) rfl (wG (n:=(c:Int)) (aD (aF (aF (x:=.int v) rfl rfl (fB _ _ (by decide) (by decide))) rfl ((b8 _ _ (by decide)).trans (by rw [hc]))) rfl) (by lia) (by lia)) (by rw [List.length_range];lia) fun a ha=>?_
  rw [List.mem_range] at ha;exact ⟨aF (x:=.lst ((List.range m).map (sy N))) rfl (aF (aF (x:=.int v) rfl (aF rfl rfl (aKf (by lia))) (fB _ _ (aDz a).1 (aDz a).2)) (y:=.int m) rfl (b8 _ _ (by lia))) (gC (ixm a).2 (ixm a).1),rfl⟩
 have hrow:∀ρ:List D,dH 1 ρ=.ok (.lst ((List.range 26).map (sy N)))->dH 3 ρ=.ok (.int m)->dH 4 ρ=.ok (.lst ((List.range m).map (sy N)))->dH 8 ρ=.ok (.lst (B.map (sy N)))->dH 6 ρ=.ok (.int (0+(j:Int)))->dH 7 ρ=.ok (.int v)->eX (aB (b2 getD fK (b2 (aU .add) (b2 (aU .add) j0 d_) eN)) (aB (b2 getD fP (b2 (aU .mod) dY d_)) (aB (aV eO (aB lZ aO)) aO))) ρ=.ok (rwD N (3+m+j,k,B)):=fun ρ g1 g3 g4 g7 g8 g9=>cT (aD (aF g1 (aF (aF rfl g3 (fW _ _)) g8 (fW _ _)) (gC (i:=3+m+j) (by lia) (by lia))) (aD (aF g4 (aF g9 g3 (b8 _ _ (by lia))) (gC k2 k1)) (aD (bF (aD g7 rfl) rfl) rfl))) (by rw [aY];simp)
 have ha:=xU (i:=5) (ρ:=ss (.cel b (dk cs (n+1))) N cell m M (.int (0+(j:Int))) (.int v) (.lst (B.map (sy N))) d e f) (xs:=M.map (rwD N)) (hrow _ rfl rfl rfl rfl rfl rfl) rfl (by rw [List.length_map,aY];lia) (dU ..);refine ha.trans ?_;unfold ss;rw [List.map_append];rfl
theorem aA8 {cell:Int} {m:Nat} (h1:1<=m) (hm:m<=3):∀(c j n:Nat) (M:List Rw) (x k o d e f:D),n+c<=1000->j+c<=3->M.length+c<100->
  ∃(E:List Rw) (x' k' o':D),(∀r∈E,Gr m r)/\E.map (·.1)=(List.range' (3+m+j) c)/\∀b,gQ (tg1 6) mkb ((List.range' j c).map fun (k:Nat)=>D.int (0+(k:Int))) (ss (.cel b (dk cs n)) N cell m M k o x d e f)=.ok (.nx (ss (.cel b (dk cs (n+c))) N cell m (M++E) k' o' x' d e f))
 | 0,j,n,M,x,k,o,d,e,f,_,_,_=>⟨[],x,k,o,fun _ h=>by simp at h,rfl,fun b=>by rw [List.append_nil];rfl⟩
 | c+1,j,n,M,x,k,o,d,e,f,g1,g2,g3=>by
  obtain ⟨r,x1,o1,r1,r2,r3⟩:=aKh (cs:=cs) (N:=N) (cell:=cell) (m:=m) (n:=n) (j:=j) (M:=M) (by lia) h1 hm (by lia) (by lia) x o d e f;obtain ⟨E,x2,k2,o2,e1,e2,e3⟩:=aA8 h1 hm c (j+1) (n+1) (M++[r]) x1 (.int (0+(j:Int))) o1 d e f (by lia) (by lia) (by rw [List.length_append,List.length_singleton];lia);refine ⟨r::E,x2,k2,o2,fun y hy=>?_,?_,fun b=>?_⟩
  ·rcases List.mem_cons.mp hy with h|h
   ·exact h▸r1
   ·exact e1 y h
  ·rw [List.map_cons,List.range'_succ,r2,e2];rfl
  ·rw [List.range'_succ,List.map_cons];refine bN (ρ1:=ss (.cel b (dk cs n)) N cell m M (.int (0+(j:Int))) o x d e f) rfl (r3 b) ?_;rw [e3 b,List.append_assoc,show n+1+c=n+(c+1) from by lia];rfl
theorem aKi {cell:Int} {m n j:Nat} {M:List Rw} {T:List Tk} (hn:n<=1000) (h1:1<=m) (hm:m<=3) (hj:j<3) (hT:T.length<100) (x o d f:D) :
  ∃(r:Tk) (o' f':D),Gt m r/\r.1=10+j/\∀b,tkb (ss (.cel b (dk cs n)) N cell m M (.int (0+(j:Int))) o x d (.lst (T.map (tkD N))) f)=.ok (.nx (ss (.cel b (dk cs (n+1))) N cell m M (.int (0+(j:Int))) o' x d (.lst ((T++[r]).map (tkD N))) f')):=by
 obtain ⟨v,qv⟩:=jJ cs n (by lia);obtain ⟨k,k1,k2⟩:=kix h1 v;obtain ⟨p,p1,p2⟩:=kix h1 (v / 3)
 let ix:Nat->Nat:=fun j=>((v / w2 j) % (m:Int)).toNat
 have ixm:∀j,ix j<m/\(v / w2 j) % (m:Int)=ix j:=fun j=>by
  obtain ⟨i,i1,i2⟩:=kix h1 (v / w2 j);have:ix j=i:=by show ((v / w2 j) % (m:Int)).toNat=i;lia
  exact ⟨by lia,by lia⟩
 let c:Nat:=(v / 9 % 3).toNat
 have hc:(c:Int)=v / 9 % 3:=by show (((v / 9 % 3).toNat:Nat):Int)=_;lia
 have c4:c<=2:=by lia
 let B:List Nat:=(List.range c).map ix
 have lB:B.length<=2:=by show ((List.range c).map ix).length<=2;rw [List.length_map,List.length_range];exact c4
 have mB:∀i∈B,i<m:=fun i hi=>by obtain ⟨a,_,rfl⟩:=List.mem_map.mp hi;exact (ixm a).1
 refine ⟨(10+j,k,p,B),.int v,.lst (B.map (sy N)),⟨k1,p1,mB,lB⟩,rfl,fun b=>?_⟩;refine aK (ρ':=ss (.cel b (dk cs (n+1))) N cell m M (.int (0+(j:Int))) (.int v) x d (.lst (T.map (tkD N))) f) (iH (i:=7) (yO qv rfl rfl) rfl) ?_;refine aK (ρ':=ss (.cel b (dk cs (n+1))) N cell m M (.int (0+(j:Int))) (.int v) x d (.lst (T.map (tkD N))) (.lst (B.map (sy N)))) (dB (i:=11) ?_) ?_
 ·show _=Res.ok (D.lst (((List.range c).map ix).map (sy N)));rw [List.map_map];refine eY (n:=12) (fun k:Nat=>D.int (0+(k:Int))) (fun j=>sy N (ix j)) (List.range c) rfl (wG (n:=(c:Int)) (aD (aF (aF (x:=.int v) rfl rfl (fB _ _ (by decide) (by decide))) rfl ((b8 _ _ (by decide)).trans (by rw [hc]))) rfl) (by lia) (by lia)) (by rw [List.length_range];lia) fun a ha=>?_
  rw [List.mem_range] at ha;exact ⟨aF (x:=.lst ((List.range m).map (sy N))) rfl (aF (aF (x:=.int v) rfl (aF rfl rfl (aKg (by lia))) (fB _ _ (aE0 a).1 (aE0 a).2)) (y:=.int m) rfl (b8 _ _ (by lia))) (gC (ixm a).2 (ixm a).1),rfl⟩
 have hrow:∀ρ:List D,dH 1 ρ=.ok (.lst ((List.range 26).map (sy N)))->dH 3 ρ=.ok (.int m)->dH 4 ρ=.ok (.lst ((List.range m).map (sy N)))->dH 11 ρ=.ok (.lst (B.map (sy N)))->dH 6 ρ=.ok (.int (0+(j:Int)))->dH 7 ρ=.ok (.int v)->eX (aB (b2 getD fK (b2 (aU .add) aF7 eN)) (aB (b2 getD fP (b2 (aU .mod) dY d_)) (aB (b2 getD fP (b2 (aU .mod) (b2 (aU .fdiv) dY j0) d_)) (aB (aV eO (aB lV aO)) aO)))) ρ=.ok (tkD N (10+j,k,p,B)):=fun ρ g1 g3 g4 g7 g8 g9=>cT (aD (aF g1 (aF rfl g8 (fW _ _)) (gC (i:=10+j) (by lia) (by lia))) (aD (aF g4 (aF g9 g3 (b8 _ _ (by lia))) (gC k2 k1)) (aD (aF g4 (aF (aF g9 rfl (fB _ _ (by decide) (by decide))) g3 (b8 _ _ (by lia))) (gC p2 p1)) (aD (bF (aD g7 rfl) rfl) rfl)))) (by rw [aY];simp)
 have ha:=xU (i:=10) (ρ:=ss (.cel b (dk cs (n+1))) N cell m M (.int (0+(j:Int))) (.int v) x d (.lst (T.map (tkD N))) (.lst (B.map (sy N)))) (xs:=T.map (tkD N)) (hrow _ rfl rfl rfl rfl rfl rfl) rfl (by rw [List.length_map,aY];lia) (mZ ..);refine ha.trans ?_;unfold ss;rw [List.map_append];rfl
theorem aA9 {cell:Int} {m:Nat} {M:List Rw} (h1:1<=m) (hm:m<=3):∀(c j n:Nat) (T:List Tk) (x k o d f:D),n+c<=1000->j+c<=3->T.length+c<100->
  ∃(E:List Tk) (k' o' f':D),(∀r∈E,Gt m r)/\E.map (·.1)=(List.range' (10+j) c)/\∀b,gQ (tg1 6) tkb ((List.range' j c).map fun (k:Nat)=>D.int (0+(k:Int))) (ss (.cel b (dk cs n)) N cell m M k o x d (.lst (T.map (tkD N))) f)=.ok (.nx (ss (.cel b (dk cs (n+c))) N cell m M k' o' x d (.lst ((T++E).map (tkD N))) f'))
 | 0,j,n,T,x,k,o,d,f,_,_,_=>⟨[],k,o,f,fun _ h=>by simp at h,rfl,fun b=>by rw [List.append_nil];rfl⟩
 | c+1,j,n,T,x,k,o,d,f,g1,g2,g3=>by
  obtain ⟨r,o1,f1,r1,r2,r3⟩:=aKi (cs:=cs) (N:=N) (cell:=cell) (m:=m) (n:=n) (j:=j) (M:=M) (T:=T) (by lia) h1 hm (by lia) (by lia) x o d f;obtain ⟨E,k2,o2,f2,e1,e2,e3⟩:=aA9 (M:=M) h1 hm c (j+1) (n+1) (T++[r]) x (.int (0+(j:Int))) o1 d f1 (by lia) (by lia) (by rw [List.length_append,List.length_singleton];lia);refine ⟨r::E,k2,o2,f2,fun y hy=>?_,?_,fun b=>?_⟩
  ·rcases List.mem_cons.mp hy with h|h
   ·exact h▸r1
   ·exact e1 y h
  ·rw [List.map_cons,List.range'_succ,r2,e2];rfl
  ·rw [List.range'_succ,List.map_cons];refine bN (ρ1:=ss (.cel b (dk cs n)) N cell m M (.int (0+(j:Int))) o x d (.lst (T.map (tkD N))) f) rfl (r3 b) ?_;rw [e3 b,List.append_assoc,show n+1+c=n+(c+1) from by lia];rfl
end
end Lk49
end
section
namespace Lk49
open PySem L2 Mi
structure Sig (m:Nat) (M:List Rw) (T:List Tk):Prop where
 m1:1<=m
 m3:m<=3
 mg:∀r∈M,Gr m r
 tg:∀t∈T,Gt m t
 mn:(M.map (·.1)).Nodup
 mi:∀r∈M,3<=r.1/\r.1<9
 tn:(T.map (·.1)).Nodup
 ti:∀t∈T,10<=t.1/\t.1<13
 tl:T.length<=3
 t1:1<=T.length
 ml:M.length<=6
 ba:∀k,k<m->∃r∈M,r.2.1=k/\r.2.2=[]
theorem aGx {f:FX} {ρ ρ':List D} {n:Int} (h:f ρ=.ok (.int n,ρ')) (h1:0<=n) (h2:n<=1000000):aJj f ρ=.ok ((List.range n.toNat).map fun (k:Nat)=>D.int (0+(k:Int)),ρ'):=by
 unfold aJj;rw [h,Res.aN];have:nO n=true:=by
  simp only [nO,Bool.and_eq_true,decide_eq_true_eq];lia
 simp only [iM,this,if_true];rfl
theorem aGy {it:List D->Res (List D×List D)} {t:D->List D->Res (List D)} {body:FS} {ρ ρ' xs:List D} {r:Res Fl} (h1:it ρ=.ok (xs,ρ')) (h2:gQ t body xs ρ'=r):Y8 it t body ρ=r:=by
 unfold Y8;rw [h1,Res.aN];exact h2
theorem aKj {i:Nat} {ρ:List D} {d:D} (h:dH i ρ=.ok d) (h2:d.QL=true):bOw i ρ=.ok d:=by
 unfold bOw;rw [h,Res.aN,if_pos h2]
theorem aCi {f:FA} {ρ ds:List D} (h:f ρ=.ok ds) (hl:ds.length<=100):JX f ρ=.ok (.rt (.tup (.lst ds::ρ))):=by
 unfold JX;rw [h,Res.aN,if_pos (by rw [aY];exact decide_eq_true (by lia))]
section
variable {N:List Str}
theorem aKk (cs:List Int) (n:Nat) (hn:n<=900):∃(m:Nat) (M:List Rw) (T:List Tk) (n':Nat),Sig m M T/\n'<=n+8/\∀b,iZ [.cel b (dk cs n),.lst ((List.range 26).map (sy N))]=.ok (.tup [.lst [.lst ((List.range m).map (sy N)),.lst (M.map (rwD N)),.lst (T.map (tkD N))],.cel b (dk cs n')]):=by
 obtain ⟨cell,q1⟩:=jJ cs n (by lia)
 let m:Nat:=(1+cell % 3).toNat
 have hm:(m:Int)=1+cell % 3:=by show (((1+cell % 3).toNat:Nat):Int)=_;lia
 have m1:1<=m:=by lia
 have m3:m<=3:=by lia
 let c:Nat:=(cell / 3 % 4).toNat
 have hc:(c:Int)=cell / 3 % 4:=by show (((cell / 3 % 4).toNat:Nat):Int)=_;lia
 have lm:(mk0 m).length=m:=by unfold mk0;rw [List.length_map,List.length_range]
 obtain ⟨E,x2,k2,o2,E1,E2,s6⟩:=aA8 (cs:=cs) (N:=N) (cell:=cell) (m:=m) m1 m3 c 0 (n+1) (mk0 m) .uD .uD .uD .uD .uD .uD (by lia) (by lia) (by lia);have lE:E.length=c:=by
  have:=congrArg List.length E2;rw [List.length_map,List.length_range'] at this;exact this
 generalize hM0:mk0 m++E=M0 at s6;have lM:M0.length=m+c:=by rw [<-hM0,List.length_append,lm,lE]
 obtain ⟨a,a1,a2⟩:=kix (m:=M0.length) (by lia) (cell / 12);obtain ⟨v,qv⟩:=jJ cs ((n+1)+c) (by lia)
 let t:Nat:=(1+v % 3).toNat
 have ht:(t:Int)=1+v % 3:=by show (((1+v % 3).toNat:Nat):Int)=_;lia
 have t13:1<=t/\t<=3:=by lia
 obtain ⟨T,k3,o3,f3,T1,T2,s9⟩:=aA9 (cs:=cs) (N:=N) (cell:=cell) (m:=m) (M:=M0) m1 m3 t 0 ((n+1)+c+1) [] x2 k2 o2 (.int a) .uD (by lia) (by lia) (by simp;lia);rw [List.nil_append] at s9;have lT:T.length=t:=by
  have:=congrArg List.length T2;rw [List.length_map,List.length_range'] at this;exact this
 have pm:(M0.drop a++M0.take a).Perm M0:=by
  have:=List.perm_append_comm (l₁:=M0.drop a) (l₂:=M0.take a);rwa [List.take_append_drop] at this
 have mem0:∀r,r∈M0->(∃k,k<m/\r=(3+k,k,[]))\/r∈E:=fun r hr=>by
  rw [<-hM0,List.mem_append] at hr;rcases hr with h|h
  ·unfold mk0 at h;obtain ⟨k,hk,rfl⟩:=List.mem_map.mp h;exact .inl ⟨k,List.mem_range.mp hk,rfl⟩
  ·exact .inr h
 have hE:∀r∈E,3+m<=r.1/\r.1<3+m+c:=fun r hr=>by
  have:=List.mem_map_of_mem (f:=(·.1)) hr;rw [E2,List.mem_range'_1] at this;exact this
 have nm:M0.map (·.1)=List.range' 3 (m+c):=by
  rw [<-hM0,List.map_append,E2];unfold mk0;rw [List.map_map,Nat.add_zero,List.range'_append_1.symm]
  congr 1
  rw [List.range'_eq_map_range];rfl
 refine ⟨m,M0.drop a++M0.take a,T,(n+1)+c+1+t,⟨m1,m3,fun r hr=>?_,T1,?_,fun r hr=>?_,?_,fun r hr=>?_,by lia,by lia,?_,fun k hk=>?_⟩,by lia,fun b=>?_⟩
 ·rcases mem0 r (pm.mem_iff.mp hr) with ⟨k,hk,rfl⟩|h
  ·exact ⟨hk,fun i hi=>by simp at hi,by simp⟩
  ·exact E1 r h
 ·rw [(pm.map _).nodup_iff,nm];exact List.nodup_range'
 ·rcases mem0 r (pm.mem_iff.mp hr) with ⟨k,hk,rfl⟩|h
  ·exact ⟨by show 3<=3+k;lia,by show 3+k<9;lia⟩
  ·have:=hE r h;lia
 ·rw [T2];exact List.nodup_range'
 ·have:=List.mem_map_of_mem (f:=(·.1)) hr;rw [T2,List.mem_range'_1] at this;lia
 ·rw [pm.length_eq];lia
 ·refine ⟨(3+k,k,[]),pm.mem_iff.mpr ?_,rfl,rfl⟩;rw [<-hM0,List.mem_append]
  left
  unfold mk0;exact List.mem_map.mpr ⟨k,List.mem_range.mpr hk,rfl⟩
 ·refine zX (k:=1) (ρ:=ss (.cel b (dk cs ((n+1)+c+1+t))) N cell m M0 k3 o3 x2 (.int a) (.lst (T.map (tkD N))) f3) ?_;show sY [.cel b (dk cs n),.lst ((List.range 26).map (sy N)),.uD,.uD,.uD,.uD,.uD,.uD,.uD,.uD,.uD,.uD]=_;rw [aGv];refine aK (ρ':=[.cel b (dk cs (n+1)),.lst ((List.range 26).map (sy N)),.int cell,.uD,.uD,.uD,.uD,.uD,.uD,.uD,.uD,.uD]) (iH (i:=2) (yO q1 rfl rfl) rfl) ?_;refine aK (ρ':=[.cel b (dk cs (n+1)),.lst ((List.range 26).map (sy N)),.int cell,.int m,.uD,.uD,.uD,.uD,.uD,.uD,.uD,.uD]) (dB (i:=3) (aF (x:=.int 1) rfl (aF (x:=.int cell) rfl rfl (b8 _ _ (by decide))) (by rw [fW,hm]))) ?_;refine aK (aKd (by lia) ..) (aK (aKe m3 ..) ?_);refine aK (kE (wG (n:=(c:Int)) (aD (aF (aF (x:=.int cell) rfl rfl (fB _ _ (by decide) (by decide))) rfl ((b8 _ _ (by decide)).trans (by rw [hc]))) rfl) (by lia) (by lia)) (by rw [Int.toNat_natCast,List.range_eq_range'];exact s6 b)) ?_;refine aK (ρ':=ss (.cel b (dk cs ((n+1)+c))) N cell m M0 k2 o2 x2 (.int a) .uD .uD) (dB (i:=9) (aF (aF (x:=.int cell) rfl rfl (fB _ _ (by decide) (by decide))) (y:=.int M0.length) (bF (aD rfl rfl) ?_) ((b8 _ _ (by lia)).trans (by rw [a2])))) ?_
  ·show Res.ok (D.int ((M0.map (rwD N)).length:Int))=_;rw [List.length_map]
  refine aK (ρ':=ss (.cel b (dk cs ((n+1)+c))) N cell m M0 k2 o2 x2 (.int a) (.lst []) .uD) (e_ (i:=10) rfl rfl) ?_;refine aK (aGy (aGx (n:=(t:Int)) (ρ':=ss (.cel b (dk cs ((n+1)+c+1))) N cell m M0 k2 o2 x2 (.int a) (.lst []) .uD) (Z9 (x:=.int 1) rfl (zW (yO qv rfl rfl) rfl rfl (b8 _ _ (by decide)) rfl) (by rw [fW,ht]) rfl) (by lia) (by lia)) (by rw [Int.toNat_natCast,List.range_eq_range'];exact s9 b)) ?_;refine aCi (aD (aKj rfl rfl) (aD ?_ (aD (aKj rfl rfl) rfl))) (by simp);rw [List.map_append];refine aF (x:=.lst ((M0.drop a).map (rwD N))) (y:=.lst ((M0.take a).map (rwD N))) ?_ ?_ (xV _ _ ?_ (aZ (dU N) _) (aZ (dU N) _))
  ·rw [List.map_drop,<-GF];exact wB rfl (jW rfl) rfl (aZ (dU N) _)
  ·rw [List.map_take,<-aA6];exact wB rfl rfl (jW rfl) (aZ (dU N) _)
  ·rw [List.length_map,List.length_map,List.length_drop,List.length_take,aY];lia
theorem aKl (cs:List Int) (n:Nat) (hn:n<=900):∃(m:Nat) (M:List Rw) (T:List Tk) (n':Nat),Sig m M T/\n'<=n+8/\ch1 iZ (dk cs n) [.lst ((List.range 26).map (sy N))]=.ok (.lst [.lst ((List.range m).map (sy N)),.lst (M.map (rwD N)),.lst (T.map (tkD N))],dk cs n'):=by
 obtain ⟨m,M,T,n',h1,h2,h3⟩:=aKk cs n hn;exact ⟨m,M,T,n',h1,h2,JT h3⟩
end
end Lk49
end
section
namespace Lk49
open PySem L2 Mi
theorem aCj {c:FT} {body:FS} {n:Nat} {ρ ρ':List D} {r:Res Fl} (h1:c ρ=.ok true) (h2:body ρ=.ok (.nx ρ')) (h3:V0 c body n ρ'=r):V0 c body (n+1) ρ=r:=by
 rw [V0,h1,Res.aN,if_pos rfl,h2];exact h3
theorem aGz {c:FT} {body:FS} {n:Nat} {ρ:List D} (h1:c ρ=.ok false):V0 c body (n+1) ρ=.ok (.nx ρ):=by
 rw [V0,h1];rfl
def wc:FT:=(bTB (b2 (cC .ne) fO (l_ aO)))
def wb0:FS:=(U0 5 6)
noncomputable def wb1:FS:=(bV false 7 (b2 (aU .sub) (b2 (aU .sub) (b2 (aU .sub) d_ (aV mC (aB fP aO))) (aV mC (aB fO aO))) dZ) true)
noncomputable def wb2:FS:=(bV false 8 (cN 10 (bL fK false) nC (W7 (bTB (b2 (cC .eq) (b2 getD fQ dZ) eN)) (bTB (b2 (YD .le) (aV mC (aB (b2 getD fQ oK) aO)) dY))) fQ false) true)
noncomputable def wb3:FS:=(fX false 9 (x2R getD lZ (x2L (aU .mod) (bY aP 1 0 aO) (aV mC (aB lZ aO)))))
def wb4:FS:=(IK 4 (b2 getD BL fM))
def wb5:FS:=(aFw 5 (b1 aDr (b2 getD BL oK)))
def wb:FS:=(aW wb0 (aW wb1 (aW wb2 (aW wb3 (aW wb4 wb5)))))
inductive Run (H:List Rw):List Nat->List Nat->Prop
 | nil:Run H [] []
 | step {r:Rw} {rest W:List Nat}:r∈H->Run H (r.2.2++rest) W->Run H (r.2.1::rest) (r.1::W)
theorem aH0 {i j:Nat} {ρ xs:List D} {x:D} (h:ρ.getD i .uD=.lst (xs++[x])) {ρ':List D} (he:(ρ.set i (.lst xs)).set j x=ρ'):U0 i j ρ=.ok (.nx ρ'):=by
 subst he;unfold U0;rw [h];dsimp only;rw [List.length_append,List.length_singleton,Nat.add_sub_cancel,List.getElem?_append_right (Nat.le_refl _),Nat.sub_self,List.dropLast_concat];rfl
theorem aE1 {i:Nat} {ρ:List D} {f:FE} {xs ys:List D} (h1:f ρ=.ok (.lst ys)) (h2:ρ.getD i .uD=.lst xs) (hl:xs.length+ys.length<=10000) (hp:D.aX ys=true):aFw i f ρ=.ok (.nx (ρ.set i (.lst (xs++ys)))):=by
 unfold aFw;rw [h1,Res.aN,h2];dsimp only;rw [if_pos (by rw [hp,aY,decide_eq_true (by lia)];rfl)]
theorem GK {α:Type} {N:List Str} (hN:N.length=26) (hd:N.Nodup) (nm:α->Nat) (g:α->D):∀(L:List α),(L.map nm).Nodup->(∀a∈L,nm a<26)->∀a∈L,cG (L.map fun a=>(sy N (nm a),g a)) (sy N (nm a))=some (g a)
 | [],_,_,a,ha=>by simp at ha
 | b::L,h1,h2,a,ha=>by
  rw [List.map_cons,cG,GJ hN hd (h2 b (List.mem_cons_self ..)) (h2 a ha)];rw [List.map_cons,List.nodup_cons] at h1;rcases List.mem_cons.mp ha with e|e
  ·subst e;rw [decide_eq_true rfl,if_pos rfl]
  ·have:¬nm b=nm a:=fun g=>h1.1 (g▸List.mem_map_of_mem (f:=nm) e)
   rw [decide_eq_false this,if_neg (by simp)];exact GK hN hd nm g L h1.2 (fun c hc=>h2 c (List.mem_cons_of_mem _ hc)) a e
section
variable {N:List Str} (hN:N.length=26) (hd:N.Nodup)
include hN hd
omit hN hd in
theorem iI {ρ:List D} {i:Nat} {r:Rw} (h:dH i ρ=.ok (rwD N r)):b2 getD (dH i) fM ρ=.ok (sy N r.1)/\b2 getD (dH i) dZ ρ=.ok (sy N r.2.1)/\b2 getD (dH i) oK ρ=.ok (.tup (r.2.2.map (sy N))):=⟨aF h rfl rfl,aF h rfl rfl,aF h rfl rfl⟩
theorem K4 {i j:Nat} (hi:i<26) (hj:j<26):cC .eq (sy N i) (sy N j)=.ok (.bl (decide (i=j))):=by
 show (if (sy N i).bU bH&&(sy N j).bU bH then Res.ok (D.bl (eqD (sy N i) (sy N j))) else .bad)=_;rw [wA,wA,GJ hN hd hi hj];rfl
theorem aAa {i j:Nat} (hi:i<26) (hj:j<26):cC .ne (sy N i) (sy N j)=.ok (.bl (!decide (i=j))):=by
 show (if (sy N i).bU bH&&(sy N j).bU bH then Res.ok (D.bl (!eqD (sy N i) (sy N j))) else .bad)=_;rw [wA,wA,GJ hN hd hi hj];rfl
theorem aCk {i:Nat} {l:List Nat} (hi:i<26) (hl:∀j∈l,j<26):cC .notin (sy N i) (.tup (l.map (sy N)))=.ok (.bl (!decide (i∈l))):=by
 show (if (sy N i).bU bH&&D.cA bH (l.map (sy N)) then Res.ok (D.bl (!(l.map (sy N)).any fun y=>eqD y (sy N i))) else .bad)=_;rw [wA,o6,aA7 hN hd hi l hl];rfl
omit hN hd in
omit hN hd in
theorem aH1 (l:List Nat):cC .ne (.lst (l.map (sy N))) (.lst [])=.ok (.bl (!l.isEmpty)):=by
 show (if D.cA 11 (l.map (sy N))&&D.cA 11 [] then Res.ok (D.bl (!G3 (l.map (sy N)) [])) else .bad)=_;rw [o6,D.cA];cases l <;> rfl
omit hN hd in
end
structure aLe (m:Nat) (H:List Rw):Prop where
 m3:m<=3
 hl:H.length<=100
 hg:∀r∈H,r.1<26/\r.2.1<26/\(∀i∈r.2.2,i<m)/\r.2.2.length<=3
 ba:∀k,k<m->∃r∈H,r.2.1=k/\r.2.2=[]
noncomputable abbrev wst (hD:D) (N:List Str) (H:List Rw) (w:D) (most:Nat) (W st:List Nat) (a b c d:D):List D:=[hD,.lst (H.map (rwD N)),w,.int most,.lst (W.map (sy N)),.lst (st.reverse.map (sy N)),a,b,c,d]
theorem aH2 {N:List Str} {cs:List Int} {n:Nat} {H:List Rw} {w:D} {most:Nat} {W rest:List Nat} {a b d:D} {S:List Rw} {v:Int} {i:Nat} {r:Rw} {z:Nat} (qv:ch1 aP (dk cs n) []=.ok (.int v,dk cs (n+1))) (lS:0<S.length) (i2:v % (S.length:Int)=i) (hi:S[i]?=some r):wb3 (wst (.cel z (dk cs n)) N H w most W rest a b (.lst (S.map (rwD N))) d)=.ok (.nx (wst (.cel z (dk cs (n+1))) N H w most W rest a b (.lst (S.map (rwD N))) (rwD N r))):=by
 have hl:∀ρ:List D,dH 8 ρ=.ok (.lst (S.map (rwD N)))->(aV mC (aB lZ aO)) ρ=.ok (.int S.length):=fun ρ h=>bF (aD h rfl) (by
  show Res.ok (D.int ((S.map (rwD N)).length:Int))=_;rw [List.length_map])
 exact iH (i:=9) (Z9 (x:=.lst (S.map (rwD N))) rfl (zW (yO qv rfl rfl) rfl (hl _ rfl) (b8 _ _ (by lia)) rfl) (yP i2 hi) (dU ..)) rfl
section
variable {N:List Str} (hN:N.length=26) (hd:N.Nodup)
include hN hd
theorem turn {cs:List Int} {n:Nat} {H:List Rw} {w:D} {most:Nat} {m:Nat} (P:aLe m H) {W rest:List Nat} {k:Nat} (hk:k<m) (hn:n<=10000) (hw:W.length+rest.length+1<=most) (hm:most<=100) (a b c d:D) :
  ∃r∈H,r.2.1=k/\W.length+1+(r.2.2.length+rest.length)<=most/\∃a' b' c' d':D,∀z,wb (wst (.cel z (dk cs n)) N H w most W (k::rest) a b c d)=.ok (.nx (wst (.cel z (dk cs (n+1))) N H w most (W++[r.1]) (r.2.2++rest) a' b' c' d')):=by
 have m3:=P.m3;obtain ⟨v,qv⟩:=jJ cs n (by lia)
 let room:Nat:=most-W.length-rest.length-1
 have hroom:(most:Int)-W.length-rest.length-1=(room:Int):=by show _=((most-W.length-rest.length-1:Nat):Int);lia
 obtain ⟨S,hS,neS⟩:∃S:List Rw,S=H.filter (fun r=>decide (r.2.1=k)&&decide ((r.2.2.length:Int)<=(room:Int)))/\S≠[]:=⟨_,rfl,by
  obtain ⟨r,hr,e1,e2⟩:=P.ba k hk;refine List.ne_nil_of_mem (List.mem_filter.mpr ⟨hr,?_⟩);rw [Bool.and_eq_true,decide_eq_true_eq,decide_eq_true_eq,e2];exact ⟨e1,by simp⟩⟩
 have sub1:∀r∈S,r∈H/\r.2.1=k/\r.2.2.length<=room:=fun r hr=>by
  rw [hS] at hr;have:=List.mem_filter.mp hr;have h2:=this.2;rw [Bool.and_eq_true,decide_eq_true_eq,decide_eq_true_eq] at h2;exact ⟨this.1,h2.1,by lia⟩
 have lS:0<S.length:=List.length_pos_iff.mpr neS;obtain ⟨i,i1,i2⟩:=kix (m:=S.length) (by lia) v;have hi:S[i]?=some S[i]:=List.getElem?_eq_getElem i1;obtain ⟨g1,g2,g3⟩:=sub1 _ (List.getElem_mem i1);generalize S[i]=r at g1 g2 g3 hi;obtain ⟨u0,u1,u2,u3⟩:=P.hg r g1;refine ⟨r,g1,g2,by show _<=_;have:r.2.2.length<=most-W.length-rest.length-1:=g3;lia,sy N k,.int room,.lst (S.map (rwD N)),rwD N r,fun z=>?_⟩;have t0:wb0 (wst (.cel z (dk cs n)) N H w most W (k::rest) a b c d)=.ok (.nx (wst (.cel z (dk cs n)) N H w most W rest (sy N k) b c d)):=aH0 (i:=5) (j:=6) (xs:=rest.reverse.map (sy N)) (x:=sy N k) (by
  show D.lst ((k::rest).reverse.map (sy N))=_;rw [List.reverse_cons,List.map_append];rfl) rfl
 have t1:wb1 (wst (.cel z (dk cs n)) N H w most W rest (sy N k) b c d)=.ok (.nx (wst (.cel z (dk cs n)) N H w most W rest (sy N k) (.int room) c d)):=by
  rw [<-hroom];refine dB (i:=7) (aF (aF (aF (x:=.int most) rfl (y:=.int W.length) (bF (aD rfl rfl) ?_) (YJ _ _)) (y:=.int rest.length) (bF (aD rfl rfl) ?_) (YJ _ _)) rfl (YJ _ _))
  ·show Res.ok (D.int ((W.map (sy N)).length:Int))=_;rw [List.length_map]
  ·show Res.ok (D.int ((rest.reverse.map (sy N)).length:Int))=_;rw [List.length_map,List.length_reverse]
 have t2:wb2 (wst (.cel z (dk cs n)) N H w most W rest (sy N k) (.int room) c d)=.ok (.nx (wst (.cel z (dk cs n)) N H w most W rest (sy N k) (.int room) (.lst (S.map (rwD N))) d)):=by
  rw [hS];refine dB (i:=8) (aGt (n:=10) (rwD N) (rwD N) _ H rfl (kJ rfl) (by have:=P.hl;lia) (fun r hr=>?_) fun r hr _=>⟨rfl,dU ..⟩);obtain ⟨v0,v1,v2,v3⟩:=P.hg r hr;have c1:∀ρ:List D,dH 10 ρ=.ok (rwD N r)->dH 6 ρ=.ok (sy N k)->(bTB (b2 (cC .eq) (b2 getD fQ dZ) eN)) ρ=.ok (decide (r.2.1=k)):=fun ρ e1 e2=>dC (aF (iI e1).2.1 e2 (K4 hN hd (by lia) (by lia)))
  have c2:∀ρ:List D,dH 10 ρ=.ok (rwD N r)->dH 7 ρ=.ok (.int room)->(bTB (b2 (YD .le) (aV mC (aB (b2 getD fQ oK) aO)) dY)) ρ=.ok (decide ((r.2.2.length:Int)<=(room:Int))):=fun ρ e1 e2=>dC (aF (bF (aD (iI e1).2.2 rfl) (by
   show Res.ok (D.int ((r.2.2.map (sy N)).length:Int))=_;rw [List.length_map])) e2 (aKa _ _))
  by_cases hrk:r.2.1=k
  ·refine (YG ((c1 _ rfl rfl).trans (by rw [decide_eq_true hrk])) (c2 _ rfl rfl)).trans ?_;rw [decide_eq_true hrk,Bool.true_and]
  ·refine (aFo ((c1 _ rfl rfl).trans (by rw [decide_eq_false hrk]))).trans ?_;rw [decide_eq_false hrk,Bool.false_and]
 have t3:wb3 (wst (.cel z (dk cs n)) N H w most W rest (sy N k) (.int room) (.lst (S.map (rwD N))) d)=.ok (.nx (wst (.cel z (dk cs (n+1))) N H w most W rest (sy N k) (.int room) (.lst (S.map (rwD N))) (rwD N r))):=aH2 qv lS i2 hi;have t4:wb4 (wst (.cel z (dk cs (n+1))) N H w most W rest (sy N k) (.int room) (.lst (S.map (rwD N))) (rwD N r))=.ok (.nx (wst (.cel z (dk cs (n+1))) N H w most (W++[r.1]) rest (sy N k) (.int room) (.lst (S.map (rwD N))) (rwD N r))):=by
  have ha:=xU (i:=4) (ρ:=wst (.cel z (dk cs (n+1))) N H w most W rest (sy N k) (.int room) (.lst (S.map (rwD N))) (rwD N r)) (xs:=W.map (sy N)) (iI (i:=9) (r:=r) rfl).1 rfl (by rw [List.length_map,aY];lia) rfl;refine ha.trans ?_;unfold wst;rw [List.map_append];rfl
 have t5:wb5 (wst (.cel z (dk cs (n+1))) N H w most (W++[r.1]) rest (sy N k) (.int room) (.lst (S.map (rwD N))) (rwD N r))=.ok (.nx (wst (.cel z (dk cs (n+1))) N H w most (W++[r.1]) (r.2.2++rest) (sy N k) (.int room) (.lst (S.map (rwD N))) (rwD N r))):=by
  have hx:=aE1 (i:=5) (ρ:=wst (.cel z (dk cs (n+1))) N H w most (W++[r.1]) rest (sy N k) (.int room) (.lst (S.map (rwD N))) (rwD N r)) (f:=b1 aDr (b2 getD BL oK)) (xs:=rest.reverse.map (sy N)) (ys:=r.2.2.reverse.map (sy N)) (K3 (iI (i:=9) (r:=r) rfl).2.2 (by
   show (if D.aX (r.2.2.map (sy N))&&decide ((r.2.2.map (sy N)).length<=lim) then Res.ok (D.lst (r.2.2.map (sy N)).reverse) else .bad)=_;rw [dR,List.length_map,aY,decide_eq_true (by lia),<-List.map_reverse];rfl)) rfl (by rw [List.length_map,List.length_reverse,List.length_map,List.length_reverse];lia) (dR ..)
  refine hx.trans ?_;have e7:((r.2.2++rest).reverse.map (sy N))=rest.reverse.map (sy N)++r.2.2.reverse.map (sy N):=by rw [List.reverse_append,List.map_append]
  unfold wst;rw [e7];rfl
 exact aK t0 (aK t1 (aK t2 (aK t3 (aK t4 t5))))
theorem aKm {cs:List Int} {H:List Rw} {w:D} {most:Nat} {m:Nat} (P:aLe m H) (hm:most<=100):∀(μ n fuel:Nat) (W st:List Nat) (a b c d:D),most-W.length=μ->μ<fuel->n+μ<=5000->W.length+st.length<=most->(∀k∈st,k<m)->
  ∃(V:List Nat) (n':Nat) (a' b' c' d':D),Run H st V/\V.length<=μ/\n'<=n+μ/\∀z,V0 wc wb fuel (wst (.cel z (dk cs n)) N H w most W st a b c d)=.ok (.nx (wst (.cel z (dk cs n')) N H w most (W++V) [] a' b' c' d'))
 | μ,n,0,W,st,a,b,c,d,h1,h2,_,_,_=>absurd h2 (Nat.not_lt_zero _)
 | μ,n,fuel+1,W,[],a,b,c,d,h1,h2,_,_,_=>⟨[],n,a,b,c,d,.nil,Nat.zero_le _,by lia,fun z=>by
   rw [List.append_nil];exact aGz (dC (aF rfl rfl (aH1 (N:=N) [])))⟩
 | 0,n,fuel+1,W,k::rest,a,b,c,d,h1,h2,_,h4,h5=>by
   rw [List.length_cons] at h4;lia
 | μ+1,n,fuel+1,W,k::rest,a,b,c,d,h1,h2,h3,h4,h5=>by
   have hk:=h5 k (List.mem_cons_self ..);have hrest:∀k∈rest,k<m:=fun j hj=>h5 j (List.mem_cons_of_mem _ hj)
   rw [List.length_cons] at h4;obtain ⟨r,r1,r2,r3,a',b',c',d',r4⟩:=turn hN hd (cs:=cs) (n:=n) (w:=w) (most:=most) P (W:=W) (rest:=rest) (k:=k) hk (by lia) (by lia) hm a b c d;have hp:=(P.hg r r1).2.2.1;obtain ⟨V,n',a2,b2,c2,d2,q1,q2,q3,q4⟩:=aKm P hm μ (n+1) fuel (W++[r.1]) (r.2.2++rest) a' b' c' d' (by rw [List.length_append,List.length_singleton];lia) (by lia) (by lia) (by rw [List.length_append,List.length_append,List.length_singleton];lia) (fun j hj=>by
    rcases List.mem_append.mp hj with h|h
    ·exact hp j h
    ·exact hrest j h)
   refine ⟨r.1::V,n',a2,b2,c2,d2,r2▸.step r1 q1,by rw [List.length_cons];lia,by lia,fun z=>?_⟩;refine aCj (dC (aF rfl rfl ((aH1 (N:=N) (k::rest).reverse).trans ?_))) (r4 z) ?_
   ·rw [List.reverse_cons];cases rest.reverse <;> rfl
   ·rw [q4 z,List.append_assoc];rfl
theorem aCl (cs:List Int) {n:Nat} {H:List Rw} {m:Nat} (P:aLe m H) {k most:Nat} (hk:k<m) (h1:1<=most) (hm:most<=100) (hn:n<=4000) :
  ∃(V:List Nat) (n':Nat),Run H [k] V/\V.length<=100/\n'<=n+100/\ch1 iC (dk cs n) [.lst (H.map (rwD N)),sy N k,.int most]=.ok (.lst (V.map (sy N)),dk cs n'):=by
 obtain ⟨V,n',a',b',c',d',g1,g2,g3,g4⟩:=aKm hN hd (cs:=cs) (w:=sy N k) (most:=most) P hm most n 1000 [] [k] .uD .uD .uD .uD (by simp) (by lia) (by lia) (by simpa using h1) (fun j hj=>by rw [List.mem_singleton] at hj;lia);refine ⟨V,n',g1,by lia,by lia,JT fun z=>zX (k:=1) (ρ:=wst (.cel z (dk cs n')) N H (sy N k) most V [] a' b' c' d') ?_⟩;refine aK (ρ':=[.cel z (dk cs n),.lst (H.map (rwD N)),sy N k,.int most,.lst [],.uD,.uD,.uD,.uD,.uD]) (e_ (i:=4) rfl rfl) ?_;refine aK (ρ':=wst (.cel z (dk cs n)) N H (sy N k) most [] [k] .uD .uD .uD .uD) (e_ (i:=5) rfl rfl) ?_;refine aK (g4 z) ?_;exact RX rfl rfl
end
end Lk49
end
section
namespace Lk49
open PySem L2 Mi
def rc:FT:=(bTB (b2 (cC .eq) (b2 getD dY dZ) (b2 getD eN oK)))
def rb0:FS:=(bV false 8 (b2 JQ (b2 getD dY oK) (b2 getD eN j0)) false)
noncomputable def rb1:FS:=(bV false 9 (b2 (aU .add) dZ (b2 (aU .mod) (aV mC (aB fO aO)) VP)) true)
noncomputable def rb2:FS:=(bV false 10 (cN 14 (jC (aB (aV mC (aB lZ aO)) aO) iM) nC eE (b2 getD d_ (b2 (aU .add) (bC (.int 13)) (b2 (aU .mod) (b2 (aU .add) (aV mC (aB fO aO)) (b2 CQ jZ BL)) VN))) false) true)
noncomputable def rb3:FS:=(bV false 11 (cN 14 (jC (aB (aV mC (aB lZ aO)) aO) iM) nC eE (eX (aB (b2 getD fQ jZ) (aB (b2 getD lZ jZ) (aB (eX aO) aO)))) false) true)
noncomputable def rb4:FS:=(fX false 12 (bY iC 4 0 (aB (b2 (aU .add) lV fP) (aB (bPu (b2 getD eN dZ)) (aB (bPu W6) aO)))))
noncomputable def rb5:FS:=(IK 5 (eX (aB (b2 getD eN fM) (aB (b2 getD dY fM) (aB (aV eO (aB fQ aO)) (aB (aV eO (aB nP aO)) aO))))))
def ri:FS:=sIf rc (aW rb0 (aW rb1 (aW rb2 (aW rb3 (aW rb4 rb5))))) iQ
def tw (N:List Str) (w:List Nat):D:=.tup (w.map (sy N))
theorem wC (N:List Str) (w:List Nat):(tw N w).pure=true:=by
 show (D.tup (w.map (sy N))).pure=true;rw [D.pure,dR]
abbrev Ru:=Nat×Nat×List Nat×List Nat
noncomputable def ruD (N:List Str) (u:Ru):D:=.tup [sy N u.1,sy N u.2.1,tw N u.2.2.1,tw N u.2.2.2]
theorem d9 (N:List Str) (u:Ru):(ruD N u).pure=true:=by
 show ((sy N u.1).pure&&((sy N u.2.1).pure&&((tw N u.2.2.1).pure&&((tw N u.2.2.2).pure&&true))))=true;rw [wC,wC];rfl
theorem aAb (N:List Str) (w:List Nat) (n:Nat):(tw N w).bU (n+1)=true:=by
 unfold tw;rw [D.bU,o6]
theorem R4 (N:List Str):∀R:List Ru,D.cA 11 (R.map (ruD N))=true
 | []=>by rw [List.map_nil,D.cA]
 | r::R=>by
  rw [List.map_cons,D.cA,R4 N R];unfold ruD;rw [D.bU,D.cA,D.cA,D.cA,D.cA,D.cA,aAb,aAb];unfold sy;rw [D.bU,D.bU] <;> simp
theorem kO {N:List Str} {ρ:List D} {i:Nat} {t:Tk} (h:dH i ρ=.ok (tkD N t)):b2 getD (dH i) fM ρ=.ok (sy N t.1)/\b2 getD (dH i) dZ ρ=.ok (sy N t.2.1)/\b2 getD (dH i) oK ρ=.ok (sy N t.2.2.1)/\b2 getD (dH i) j0 ρ=.ok (.tup (t.2.2.2.map (sy N))):=⟨aF h rfl rfl,aF h rfl rfl,aF h rfl rfl,aF h rfl rfl⟩
structure Mat (m:Nat) (M:List Rw) (T:List Tk) (Hd:List Rw):Prop where
 m3:m<=3
 ml:M.length<=10
 tl:T.length<=10
 hl:Hd.length<=50
 mg:∀r∈M,r.1<26/\r.2.1<26/\(∀i∈r.2.2,i<26)/\r.2.2.length<=3
 tg:∀t∈T,t.1<26/\t.2.1<m/\t.2.2.1<26/\(∀i∈t.2.2.2,i<26)/\t.2.2.2.length<=2
 hg:∀r∈Hd,r.1<26/\r.2.1<26/\(∀i∈r.2.2,i<m)/\r.2.2.length<=3
 ba:∀k,k<m->∃r∈Hd,r.2.1=k/\r.2.2=[]
noncomputable def kn (ow be:List Nat):List Rw:=(List.range be.length).map fun j=>(ow.getD j 0,be.getD j 0,[])
structure aN7 (M:List Rw) (T:List Tk) (Hd:List Rw) (t:Tk) (r:Rw) (u:Ru):Prop where
 n1:u.1=t.1
 n2:u.2.1=r.1
 ol:u.2.2.1.length=(r.2.2++t.2.2.2).length
 on:u.2.2.1.Nodup
 oi:∀i∈u.2.2.1,13<=i/\i<18
 rn:Run (kn u.2.2.1 (r.2.2++t.2.2.2)++Hd) [t.2.1] u.2.2.2
 wl:u.2.2.2.length<=100
def oi (e:Int) (s j:Nat):Nat:=13+((e+(0+(j:Int))*s) % 5).toNat
theorem aKn {e:Int} {s j k:Nat} (hs:1<=s/\s<=4) (hj:j<5) (hk:k<5) (h:oi e s j=oi e s k):j=k:=by
 unfold oi at h;have:s=1\/s=2\/s=3\/s=4:=by lia
 rcases this with g|g|g|g <;> subst g <;> try omega
theorem aKo (e:Int) (s j:Nat):13<=oi e s j/\oi e s j<18:=by
 unfold oi;lia
noncomputable abbrev rst (hD:D) (N:List Str) (M:List Rw) (T:List Tk) (Hd:List Rw) (R:List Ru) (t r a b c d e i:D):List D:=[hD,.lst (M.map (rwD N)),.lst (T.map (tkD N)),.lst ((List.range 26).map (sy N)),.lst (Hd.map (rwD N)),.lst (R.map (ruD N)),t,r,a,b,c,d,e,i]
section
variable {N:List Str} (hN:N.length=26) (hd:N.Nodup)
include hN hd
theorem aCm {cs:List Int} {n:Nat} {m:Nat} {M:List Rw} {T:List Tk} {Hd:List Rw} (G:Mat m M T Hd) {R:List Ru} {t:Tk} (ht:t∈T) {r:Rw} (hr:r∈M) (hk:r.2.1=t.2.2.1) (hn:n<=4000) (hR:R.length<=1000) (a b c d e i:D) :
  ∃(u:Ru) (n':Nat) (a' b' c' d' e':D),aN7 M T Hd t r u/\n'<=n+100/\∀z,ri (rst (.cel z (dk cs n)) N M T Hd R (tkD N t) (rwD N r) a b c d e i)=.ok (.nx (rst (.cel z (dk cs n')) N M T Hd (R++[u]) (tkD N t) (rwD N r) a' b' c' d' e' i)):=by
 obtain ⟨u1,u2,u3,u4⟩:=G.mg r hr;obtain ⟨v1,v2,v3,v4,v5⟩:=G.tg t ht;have m3:=G.m3;generalize hbe:r.2.2++t.2.2.2=be;have lbe:be.length<=5:=by rw [<-hbe,List.length_append];lia
 have mbe:∀x∈be,x<26:=fun x hx=>by
  rw [<-hbe,List.mem_append] at hx;rcases hx with h|h
  ·exact u3 x h
  ·exact v4 x h
 let s:Nat:=1+R.length % 4
 have hs:1<=s/\s<=4:=by show 1<=1+R.length % 4/\1+R.length % 4<=4;lia
 generalize hOw:(List.range be.length).map (oi (R.length:Int) s)=Ow;have lOw:Ow.length=be.length:=by rw [<-hOw,List.length_map,List.length_range]
 have mOw:∀x∈Ow,13<=x/\x<18:=fun x hx=>by
  rw [<-hOw] at hx;obtain ⟨j,_,rfl⟩:=List.mem_map.mp hx;exact aKo ..
 have nOw:Ow.Nodup:=by
  rw [<-hOw,List.nodup_iff_pairwise_ne,List.pairwise_map];refine List.Pairwise.imp_of_mem ?_ (List.nodup_iff_pairwise_ne.mp (List.nodup_range (n:=be.length)));intro j k hj hk hne e;rw [List.mem_range] at hj hk;exact hne (aKn hs (by lia) (by lia) e)
 have P:aLe m (kn Ow be++Hd):=by
  refine ⟨m3,?_,fun x hx=>?_,fun k hk=>?_⟩
  ·unfold kn;have:=G.hl;rw [List.length_append,List.length_map,List.length_range];lia
  ·rcases List.mem_append.mp hx with h|h
   ·unfold kn at h;obtain ⟨j,hj,rfl⟩:=List.mem_map.mp h;have hj:=List.mem_range.mp hj;refine ⟨?_,?_,fun i hi=>by simp at hi,by simp⟩
    ·show Ow.getD j 0<26;rw [List.getD_eq_getElem?_getD,List.getElem?_eq_getElem (by lia)];have:=mOw _ (List.getElem_mem (l:=Ow) (n:=j) (by lia));show Ow[j]<26;lia
    ·show be.getD j 0<26;rw [List.getD_eq_getElem?_getD,List.getElem?_eq_getElem (by lia)];exact mbe _ (List.getElem_mem (l:=be) (n:=j) (by lia))
   ·exact G.hg x h
  ·obtain ⟨r,hr,e⟩:=G.ba k hk;exact ⟨r,List.mem_append_right _ hr,e⟩
 obtain ⟨V,n',w1,w2,w3,w4⟩:=aCl hN hd cs (n:=n) P v2 (show 1<=6 by decide) (by decide) hn;refine ⟨(t.1,r.1,Ow,V),n',tw N be,.int s,.lst (Ow.map (sy N)),.lst ((kn Ow be).map (rwD N)),.lst (V.map (sy N)),⟨rfl,rfl,by rw [hbe];exact lOw,nOw,mOw,by rw [hbe];exact w1,w2⟩,w3,fun z=>?_⟩;have lnb:∀ρ:List D,dH 8 ρ=.ok (tw N be)->(aV mC (aB lZ aO)) ρ=.ok (.int be.length):=fun ρ g=>bF (aD g rfl) (by
  show Res.ok (D.int ((be.map (sy N)).length:Int))=_;rw [List.length_map])
 have lnr:∀ρ:List D,dH 5 ρ=.ok (.lst (R.map (ruD N)))->(aV mC (aB fO aO)) ρ=.ok (.int R.length):=fun ρ g=>bF (aD g rfl) (by
  show Res.ok (D.int ((R.map (ruD N)).length:Int))=_;rw [List.length_map])
 have hcnd:rc (rst (.cel z (dk cs n)) N M T Hd R (tkD N t) (rwD N r) a b c d e i)=.ok true:=(dC (aF (iI (i:=7) (r:=r) rfl).2.1 (kO (i:=6) (t:=t) rfl).2.2.1 (K4 hN hd u2 v3))).trans (by rw [decide_eq_true hk]);have s0:rb0 (rst (.cel z (dk cs n)) N M T Hd R (tkD N t) (rwD N r) a b c d e i)=.ok (.nx (rst (.cel z (dk cs n)) N M T Hd R (tkD N t) (rwD N r) (tw N be) b c d e i)):=by
  refine lF (i:=8) (d:=tw N be) (aF (iI (i:=7) (r:=r) rfl).2.2 (kO (i:=6) (t:=t) rfl).2.2.2 ?_) (wC ..);show (if decide ((r.2.2.map (sy N)).length+(t.2.2.2.map (sy N)).length<=lim) then Res.ok (D.tup (r.2.2.map (sy N)++t.2.2.2.map (sy N))) else .bad)=_;rw [List.length_map,List.length_map,aY,decide_eq_true (by lia),<-List.map_append,hbe];rfl
 have s1:rb1 (rst (.cel z (dk cs n)) N M T Hd R (tkD N t) (rwD N r) (tw N be) b c d e i)=.ok (.nx (rst (.cel z (dk cs n)) N M T Hd R (tkD N t) (rwD N r) (tw N be) (.int s) c d e i)):=by
  have es:((s:Nat):Int)=1+(R.length:Int) % 4:=by show ((1+R.length % 4:Nat):Int)=_;lia
  unfold rst;rw [es];exact dB (i:=9) (aF (x:=.int 1) rfl (aF (x:=.int R.length) (lnr _ rfl) rfl (b8 _ _ (by decide))) (fW _ _))
 have s2:rb2 (rst (.cel z (dk cs n)) N M T Hd R (tkD N t) (rwD N r) (tw N be) (.int s) c d e i)=.ok (.nx (rst (.cel z (dk cs n)) N M T Hd R (tkD N t) (rwD N r) (tw N be) (.int s) (.lst (Ow.map (sy N))) d e i)):=by
  refine dB (i:=10) ?_;rw [<-hOw,List.map_map];refine eY (n:=14) (fun k:Nat=>D.int (0+(k:Int))) _ (List.range be.length) rfl (wG (n:=(be.length:Int)) (aD (lnb _ rfl) rfl) (by lia) (by lia)) (by rw [List.length_range];lia) fun j hj=>?_
  have hj:=List.mem_range.mp hj;have ho:=aKo (R.length:Int) s j;exact ⟨aF rfl (aF rfl (aF (aF (lnr _ rfl) (aF (x:=.int (0+(j:Int))) (y:=.int s) rfl rfl (u_ _ _ (CV _ (by lia) (by lia)))) (fW _ _)) rfl (b8 _ _ (by decide))) (fW _ _)) (gC (i:=oi (R.length:Int) s j) (by unfold oi;lia) (by lia)),rfl⟩
 have s3:rb3 (rst (.cel z (dk cs n)) N M T Hd R (tkD N t) (rwD N r) (tw N be) (.int s) (.lst (Ow.map (sy N))) d e i)=.ok (.nx (rst (.cel z (dk cs n)) N M T Hd R (tkD N t) (rwD N r) (tw N be) (.int s) (.lst (Ow.map (sy N))) (.lst ((kn Ow be).map (rwD N))) e i)):=by
  refine dB (i:=11) ?_;unfold kn;rw [List.map_map];refine eY (n:=14) (fun k:Nat=>D.int (0+(k:Int))) _ (List.range be.length) rfl (wG (n:=(be.length:Int)) (aD (lnb _ rfl) rfl) (by lia) (by lia)) (by rw [List.length_range];lia) fun j hj=>?_
  have hj:=List.mem_range.mp hj;have e1:Ow[j]?=some (Ow.getD j 0):=by rw [List.getD_eq_getElem?_getD,List.getElem?_eq_getElem (by lia)];rfl
  have e2:be[j]?=some (be.getD j 0):=by rw [List.getD_eq_getElem?_getD,List.getElem?_eq_getElem hj];rfl
  exact ⟨cT (aD (aF rfl rfl (yP (by lia) e1)) (aD (aF (x:=tw N be) rfl rfl (R3 (by lia) e2)) (aD (cT (xs:=[]) rfl (by rw [aY];simp)) rfl))) (by rw [aY];simp),rfl⟩
 have hargs:(aB (b2 (aU .add) lV fP) (aB (bPu (b2 getD eN dZ)) (aB (bPu W6) aO))) (rst (.cel z (dk cs n)) N M T Hd R (tkD N t) (rwD N r) (tw N be) (.int s) (.lst (Ow.map (sy N))) (.lst ((kn Ow be).map (rwD N))) e i)=.ok [.lst ((kn Ow be++Hd).map (rwD N)),sy N t.2.1,.int ((6:Nat):Int)]:=by
  rw [List.map_append];refine aD (aF (x:=.lst ((kn Ow be).map (rwD N))) (y:=.lst (Hd.map (rwD N))) rfl rfl (xV _ _ ?_ (aZ (dU N) _) (aZ (dU N) _))) (aD (F_ (kO (i:=6) (t:=t) rfl).2.1 rfl) (aD (F_ rfl rfl) rfl));unfold kn;have:=G.hl;rw [List.length_map,List.length_map,List.length_map,List.length_range,aY];lia
 have s4:rb4 (rst (.cel z (dk cs n)) N M T Hd R (tkD N t) (rwD N r) (tw N be) (.int s) (.lst (Ow.map (sy N))) (.lst ((kn Ow be).map (rwD N))) e i)=.ok (.nx (rst (.cel z (dk cs n')) N M T Hd R (tkD N t) (rwD N r) (tw N be) (.int s) (.lst (Ow.map (sy N))) (.lst ((kn Ow be).map (rwD N))) (.lst (V.map (sy N))) i)):=iH (i:=12) (mY (i:=0) hargs rfl rfl w4 (m_ ..) rfl) rfl;have s5:=xU (i:=5) (f:=eX (aB (b2 getD eN fM) (aB (b2 getD dY fM) (aB (aV eO (aB fQ aO)) (aB (aV eO (aB nP aO)) aO))))) (ρ:=(rst (.cel z (dk cs n')) N M T Hd R (tkD N t) (rwD N r) (tw N be) (.int s) (.lst (Ow.map (sy N))) (.lst ((kn Ow be).map (rwD N))) (.lst (V.map (sy N))) i)) (xs:=R.map (ruD N)) (d:=ruD N (t.1,r.1,Ow,V)) (cT (aD (kO (i:=6) (t:=t) rfl).1 (aD (iI (i:=7) (r:=r) rfl).1 (aD (bF (aD rfl rfl) rfl) (aD (bF (aD rfl rfl) rfl) rfl)))) (by rw [aY];simp)) rfl (by rw [List.length_map,aY];lia) (d9 ..);refine LK hcnd (aK s0 (aK s1 (aK s2 (aK s3 (aK s4 (s5.trans ?_))))));unfold rst;rw [List.map_append];rfl
end
end Lk49
end
section
namespace Lk49
open PySem L2 Mi
noncomputable def prs (t:Tk) (L:List Rw):List (Nat×Nat):=(L.filter fun r=>decide (r.2.1=t.2.2.1)).map fun r=>(t.1,r.1)
def prT (T:List Tk) (M:List Rw):List (Nat×Nat):=T.flatMap fun t=>prs t M
def pq (u:Ru):Nat×Nat:=(u.1,u.2.1)
noncomputable def Good (M:List Rw) (T:List Tk) (Hd:List Rw) (u:Ru):Prop:=∃t∈T,∃r∈M,r.2.1=t.2.2.1/\aN7 M T Hd t r u
def tr (t:Tk):Rw:=(t.1,t.2.1,t.2.2.1::t.2.2.2)
section
variable {N:List Str} (hN:N.length=26) (hd:N.Nodup)
include hN hd
theorem PJ {cs:List Int} {m:Nat} {M:List Rw} {T:List Tk} {Hd:List Rw} (G:Mat m M T Hd) {t:Tk} (ht:t∈T) {i:D}:∀(L:List Rw),(∀r∈L,r∈M)->∀(n:Nat) (R:List Ru) (x a b c d e:D),n+100*L.length<=4000->R.length+L.length<=1000->
  ∃(E:List Ru) (n':Nat) (x' a' b' c' d' e':D),E.map pq=prs t L/\(∀u∈E,Good M T Hd u)/\E.length<=L.length/\n'<=n+100*L.length/\∀z,gQ (tg1 7) ri (L.map (rwD N)) (rst (.cel z (dk cs n)) N M T Hd R (tkD N t) x a b c d e i)=.ok (.nx (rst (.cel z (dk cs n')) N M T Hd (R++E) (tkD N t) x' a' b' c' d' e' i))
 | [],_,n,R,x,a,b,c,d,e,_,_=>⟨[],n,x,a,b,c,d,e,rfl,fun _ h=>by simp at h,by simp,by lia,fun z=>by rw [List.append_nil];rfl⟩
 | r::L,hL,n,R,x,a,b,c,d,e,h1,h2=>by
  rw [List.length_cons] at h1 h2;have hr:=hL r (List.mem_cons_self ..);by_cases hk:r.2.1=t.2.2.1
  ·obtain ⟨u,n1,a1,b1,c1,d1,e1,q1,q2,q3⟩:=aCm hN hd (cs:=cs) (n:=n) G (R:=R) ht hr hk (by lia) (by lia) a b c d e i;obtain ⟨E,n',x',a',b',c',d',e',p1,p2,p3,p4,p5⟩:=PJ G ht L (fun y hy=>hL y (List.mem_cons_of_mem _ hy)) n1 (R++[u]) (rwD N r) a1 b1 c1 d1 e1 (by lia) (by rw [List.length_append,List.length_singleton];lia);refine ⟨u::E,n',x',a',b',c',d',e',?_,fun y hy=>?_,by rw [List.length_cons,List.length_cons];lia,by rw [List.length_cons];lia,fun z=>?_⟩
   ·unfold prs at p1 ⊢;rw [List.filter_cons_of_pos (by simpa using hk),List.map_cons,List.map_cons,p1];unfold pq;rw [q1.n1,q1.n2]
   ·rcases List.mem_cons.mp hy with h|h
    ·exact h▸⟨t,ht,r,hr,hk,q1⟩
    ·exact p2 y h
   ·rw [List.map_cons];refine bN (ρ1:=rst (.cel z (dk cs n)) N M T Hd R (tkD N t) (rwD N r) a b c d e i) rfl (q3 z) ?_;rw [p5 z,List.append_assoc];rfl
  ·obtain ⟨E,n',x',a',b',c',d',e',p1,p2,p3,p4,p5⟩:=PJ G ht L (fun y hy=>hL y (List.mem_cons_of_mem _ hy)) n R (rwD N r) a b c d e (by lia) (by lia);refine ⟨E,n',x',a',b',c',d',e',?_,p2,by rw [List.length_cons];lia,by rw [List.length_cons];lia,fun z=>?_⟩
   ·unfold prs at p1 ⊢;rw [List.filter_cons_of_neg (by simpa using hk),p1]
   ·rw [List.map_cons];obtain ⟨u1,u2,_,_⟩:=G.mg r hr;obtain ⟨v1,v2,v3,_,_⟩:=G.tg t ht;refine bN (ρ1:=rst (.cel z (dk cs n)) N M T Hd R (tkD N t) (rwD N r) a b c d e i) rfl (sS ((dC (aF (iI (i:=7) (r:=r) rfl).2.1 (kO (i:=6) (t:=t) rfl).2.2.1 (K4 hN hd u2 v3))).trans (by rw [decide_eq_false hk])) rfl) (p5 z)
theorem aAc {cs:List Int} {m:Nat} {M:List Rw} {T:List Tk} {Hd:List Rw} (G:Mat m M T Hd) {i:D}:∀(L:List Tk),(∀r∈L,r∈T)->∀(n:Nat) (R:List Ru) (y x a b c d e:D),n+100*(M.length*L.length)<=4000->R.length+10*L.length<=900->
  ∃(E:List Ru) (n':Nat) (y' x' a' b' c' d' e':D),E.map pq=prT L M/\(∀u∈E,Good M T Hd u)/\E.length<=10*L.length/\n'<=n+100*(M.length*L.length)/\∀z,gQ (tg1 6) (iD 1 (tg1 7) ri) (L.map (tkD N)) (rst (.cel z (dk cs n)) N M T Hd R y x a b c d e i)=.ok (.nx (rst (.cel z (dk cs n')) N M T Hd (R++E) y' x' a' b' c' d' e' i))
 | [],_,n,R,y,x,a,b,c,d,e,_,_=>⟨[],n,y,x,a,b,c,d,e,rfl,fun _ h=>by simp at h,by simp,by simp,fun z=>by rw [List.append_nil];rfl⟩
 | t::L,hL,n,R,y,x,a,b,c,d,e,h1,h2=>by
  rw [List.length_cons] at h1 h2;have ml:=G.ml;rw [Nat.mul_add,Nat.mul_one] at h1;obtain ⟨E1,n1,x1,a1,b1,c1,d1,e1,q1,q2,q3,q4,q5⟩:=PJ hN hd (cs:=cs) G (hL t (List.mem_cons_self ..)) (i:=i) M (fun _ h=>h) n R x a b c d e (by lia) (by lia);obtain ⟨E,n',y',x',a',b',c',d',e',p1,p2,p3,p6,p5⟩:=aAc G L (fun y hy=>hL y (List.mem_cons_of_mem _ hy)) n1 (R++E1) (tkD N t) x1 a1 b1 c1 d1 e1 (by lia) (by rw [List.length_append];lia);refine ⟨E1++E,n',y',x',a',b',c',d',e',?_,fun y hy=>?_,by rw [List.length_append,List.length_cons];lia,by rw [List.length_cons,Nat.mul_add,Nat.mul_one];lia,fun z=>?_⟩
  ·unfold prT at p1 ⊢;rw [List.map_append,q1,p1,List.flatMap_cons]
  ·rcases List.mem_append.mp hy with h|h
   ·exact q2 y h
   ·exact p2 y h
  ·rw [List.map_cons];refine bN (ρ1:=rst (.cel z (dk cs n)) N M T Hd R (tkD N t) x a b c d e i) rfl (lG rfl rfl (q5 z)) ?_;rw [p5 z,List.append_assoc]
theorem aCn {M:List Rw} {T:List Tk} (hM:M.length<=100) (hT:T.length<=100) (hm:∀t∈T,t.2.2.2.length<=10) (hD nm x5 x6 x7 x8 x9 xa xb xc xd:D):bV false 4 (b2 (aU .add) fK (cN 14 (bL cO false) nC eE (eX (aB (b2 getD jZ fM) (aB (b2 getD jZ dZ) (aB (b2 JQ (eX (aB (b2 getD jZ oK) aO)) (b2 getD jZ j0)) aO)))) false)) true [hD,.lst (M.map (rwD N)),.lst (T.map (tkD N)),nm,.uD,x5,x6,x7,x8,x9,xa,xb,xc,xd]=.ok (.nx [hD,.lst (M.map (rwD N)),.lst (T.map (tkD N)),nm,.lst ((M++T.map tr).map (rwD N)),x5,x6,x7,x8,x9,xa,xb,xc,xd]):=by
 refine dB (i:=4) ?_;rw [List.map_append,List.map_map];refine aF (x:=.lst (M.map (rwD N))) rfl (eY (n:=14) (tkD N) (fun t=>rwD N (tr t)) T rfl (kJ rfl) (by lia) fun t ht=>?_) (xV _ _ (by rw [List.length_map,List.length_map,aY];lia) (aZ (dU N) _) ?_)
 ·refine ⟨cT (aD (kO (i:=14) (t:=t) rfl).1 (aD (kO (i:=14) (t:=t) rfl).2.1 (aD (aF (cT (aD (kO (i:=14) (t:=t) rfl).2.2.1 rfl) (by rw [aY];simp)) (kO (i:=14) (t:=t) rfl).2.2.2 (z:=.tup ((tr t).2.2.map (sy N))) ?_) rfl))) (by rw [aY];simp),dU ..⟩;show (if decide ([sy N t.2.2.1].length+(t.2.2.2.map (sy N)).length<=lim) then Res.ok (D.tup ([sy N t.2.2.1]++t.2.2.2.map (sy N))) else .bad)=_;have:=hm t ht;rw [List.length_map,aY,decide_eq_true (by simp;lia)];rfl
 ·exact aZ (fun t=>dU N (tr t)) T
theorem aCo (cs:List Int) {n m:Nat} {M:List Rw} {T:List Tk} (G:Mat m M T (M++T.map tr)) (hne:prT T M≠[]) (hn:n+100*(M.length*T.length)<=3900):∃(R:List Ru) (n':Nat),(R.map pq).Perm (prT T M)/\(∀u∈R,Good M T (M++T.map tr) u)/\R.length<=100/\n'<=n+100*(M.length*T.length)+1/\ch1 cW (dk cs n) [.lst (M.map (rwD N)),.lst (T.map (tkD N)),.lst ((List.range 26).map (sy N))]=.ok (.lst (R.map (ruD N)),dk cs n'):=by
 have tl:=G.tl;have ml:=G.ml;obtain ⟨R,n',y,x,a,b,c,d,e,p1,p2,p3,p6,p4⟩:=aAc hN hd (cs:=cs) G (i:=.uD) T (fun _ h=>h) n [] .uD .uD .uD .uD .uD .uD .uD (by lia) (by simp;lia);rw [List.nil_append] at p4;have rl:0<R.length:=by
  cases R with
  | nil=>exact absurd p1.symm hne
  | cons _ _=>simp
 obtain ⟨cell,q1⟩:=jJ cs n' (by lia);obtain ⟨at_,a1,a2⟩:∃k:Nat,cell % (R.length:Int)=k/\(k:Int)<R.length:=by
  have h1:0<=cell % (R.length:Int):=Int.emod_nonneg _ (by lia);have h2:cell % (R.length:Int)<R.length:=Int.emod_lt_of_pos _ (by lia);exact ⟨(cell % (R.length:Int)).toNat,by lia,by lia⟩
 have pm:(R.drop at_++R.take at_).Perm R:=by
  have:=List.perm_append_comm (l₁:=R.drop at_) (l₂:=R.take at_);rwa [List.take_append_drop] at this
 refine ⟨R.drop at_++R.take at_,n'+1,?_,fun u hu=>p2 u (pm.mem_iff.mp hu),by rw [pm.length_eq];lia,by lia,JT fun z=>zX (k:=1) (ρ:=rst (.cel z (dk cs (n'+1))) N M T (M++T.map tr) R y x a b c d e (.int at_)) ?_⟩
 ·rw [<-p1];exact pm.map _
 have s1:iD 2 (tg1 6) (iD 1 (tg1 7) ri) (rst (.cel z (dk cs n)) N M T (M++T.map tr) [] .uD .uD .uD .uD .uD .uD .uD .uD)=.ok (.nx (rst (.cel z (dk cs n')) N M T (M++T.map tr) R y x a b c d e .uD)):=lG rfl rfl (p4 z);show wJ [.cel z (dk cs n),.lst (M.map (rwD N)),.lst (T.map (tkD N)),.lst ((List.range 26).map (sy N)),.uD,.uD,.uD,.uD,.uD,.uD,.uD,.uD,.uD,.uD]=_;have hh:=aCn hN hd (M:=M) (T:=T) (by lia) (by lia) (fun t ht=>by have:=(G.tg t ht).2.2.2.2;lia) (.cel z (dk cs n)) (.lst ((List.range 26).map (sy N))) .uD .uD .uD .uD .uD .uD .uD .uD .uD;generalize hD4:(D.lst ((M++T.map tr).map (rwD N)))=D4 at hh;refine aK hh ?_;subst hD4;refine aK (ρ':=rst (.cel z (dk cs n)) N M T (M++T.map tr) [] .uD .uD .uD .uD .uD .uD .uD .uD) (e_ (i:=5) rfl rfl) ?_;refine aK s1 ?_;have hlen:(aV mC (aB fO aO)) (rst (.cel z (dk cs (n'+1))) N M T (M++T.map tr) R y x a b c d e .uD)=.ok (.int R.length):=bF (aD rfl rfl) (by
  show Res.ok (D.int ((R.map (ruD N)).length:Int))=_;rw [List.length_map])
 have s2:fX false 13 (x2L (aU .mod) (bY aP 1 0 aO) (aV mC (aB fO aO))) (rst (.cel z (dk cs n')) N M T (M++T.map tr) R y x a b c d e .uD)=.ok (.nx (rst (.cel z (dk cs (n'+1))) N M T (M++T.map tr) R y x a b c d e (.int at_))):=iH (i:=13) (zW (yO q1 rfl rfl) rfl hlen ((b8 _ _ (by lia)).trans (by rw [a1])) rfl) rfl;refine aK s2 ?_;refine FZ (aF (x:=.lst ((R.drop at_).map (ruD N))) (y:=.lst ((R.take at_).map (ruD N))) ?_ ?_ ((xV _ _ ?_ (aZ (d9 N) _) (aZ (d9 N) _)).trans (by rw [List.map_append]))) rfl
 ·rw [List.map_drop,<-GF];exact wB rfl (jW rfl) rfl (aZ (d9 N) _)
 ·rw [List.map_take,<-aA6];exact wB rfl rfl (jW rfl) (aZ (d9 N) _)
 ·rw [List.length_map,List.length_map,List.length_drop,List.length_take,aY];lia
end
end Lk49
end
section
namespace Lk49
open PySem L2 Mi
theorem call_v {n m:Nat} {f:FS} {ds:List D} {d:D} (h:f (ds++List.replicate (m-n) D.uD)=.ok (.rt d)):fnS n m f ds=.ok d:=by
 unfold fnS;rw [h];rfl
theorem z6 {a:FT} {ρ:List D} {b:Bool} (h:a ρ=.ok b):aAq a ρ=.ok (!b):=by
 unfold aAq;rw [h,Res.aN];rfl
theorem zK {a:FE} {ρ:List D} {b:Bool} (h:a ρ=.ok (.bl b)):bTr a ρ=.ok b:=by
 unfold bTr;rw [h,Res.aN];rfl
def hdV (N:List Str) (r:Rw):D:=.tup [sy N r.2.1,.tup (r.2.2.map (sy N))]
def hdD (N:List Str) (F:List Rw):List (D×D):=F.map fun r=>(sy N r.1,hdV N r)
theorem GP (N:List Str) (r:Rw):(hdV N r).pure=true:=by
 show ((sy N r.2.1).pure&&((D.tup (r.2.2.map (sy N))).pure&&true))=true;rw [D.pure,dR];rfl
section
variable {N:List Str} (hN:N.length=26) (hd:N.Nodup)
include hN hd
theorem yQ {α:Type} (nm:α->Nat) (g:α->D) {i:Nat} (hi:i<26) (v:D):∀(L:List α),(∀a∈L,nm a<26)->i∉L.map nm->putD (L.map fun a=>(sy N (nm a),g a)) (sy N i) v=(L.map fun a=>(sy N (nm a),g a))++[(sy N i,v)]
 | [],_,_=>rfl
 | a::L,h1,h2=>by
  rw [List.map_cons,List.mem_cons,not_or] at h2;rw [List.map_cons,putD,GJ hN hd (h1 a (List.mem_cons_self ..)) hi,decide_eq_false (fun g=>h2.1 g.symm),if_neg (by simp),yQ nm g hi v L (fun b hb=>h1 b (List.mem_cons_of_mem _ hb)) h2.2];rfl
omit hN hd in
theorem aE2 {α:Type} (nm:α->Nat) (g:α->D) (L:List α) (i:Nat):xJ (L.map fun a=>(sy N (nm a),g a)) (sy N i)=true:=by
 show (true&&(L.map fun a=>(sy N (nm a),g a)).all fun p=>isTup p.1==false)=true;rw [Bool.true_and,List.all_eq_true];intro y hy;obtain ⟨k,_,rfl⟩:=List.mem_map.mp hy;rfl
theorem R5 {pr e f g h:D} (e5:D):∀(M L:List Rw),((L++M).map (·.1)).Nodup->(∀r∈L++M,r.1<26)->L.length+M.length<=1000->∀(a b c:D),∃a' b' c',gQ (tgN [2,3,4]) (aB9 1 cO (eX (aB d_ (aB fP aO)))) (M.map (rwD N)) [pr,.dct (hdD N L),a,b,c,e5,f]=.ok (.nx [pr,.dct (hdD N (L++M)),a',b',c',e5,f])
 | [],L,_,_,_,a,b,c=>⟨a,b,c,by rw [List.append_nil];rfl⟩
 | r::M,L,h1,h2,h3,a,b,c=>by
  have hr:r.1<26:=h2 r (by simp);have hn:r.1∉L.map (·.1):=fun hm=>by
   rw [List.map_append,List.map_cons,List.nodup_append] at h1;exact h1.2.2 _ hm _ (List.mem_cons_self ..) rfl
  have e1:hdD N (L++[r])=putD (hdD N L) (sy N r.1) (hdV N r):=by
   unfold hdD;rw [yQ hN hd (fun r:Rw=>r.1) (hdV N) hr _ L (fun x hx=>h2 x (by simp [hx])) hn,List.map_append];rfl
  rw [List.length_cons] at h3;obtain ⟨a',b',c',q⟩:=R5 (pr:=pr) (e:=e) (f:=f) (g:=g) (h:=h) e5 M (L++[r]) (by rw [List.append_assoc];exact h1) (by rw [List.append_assoc];exact h2) (by rw [List.length_append,List.length_singleton];lia) (sy N r.1) (sy N r.2.1) (.tup (r.2.2.map (sy N)));refine ⟨a',b',c',?_⟩;rw [List.map_cons];rw [List.append_assoc] at q;refine bN (ρ1:=[pr,.dct (hdD N L),sy N r.1,sy N r.2.1,.tup (r.2.2.map (sy N)),e5,f]) rfl (YH (i:=1) (kvs:=hdD N L) (k:=sy N r.1) (d:=hdV N r) (cT (aD rfl (aD rfl rfl)) (by rw [aY];simp)) rfl rfl (by unfold hdD;rw [List.length_map,aY];lia) (aE2 ..) (GP ..)) ?_;rw [<-e1];exact q
theorem R6 {pr:D}:∀(T:List Tk) (L:List Rw),((L++T.map tr).map (·.1)).Nodup->(∀r∈L++T.map tr,r.1<26)->L.length+T.length<=1000->(∀t∈T,t.2.2.2.length<=10)->∀(a b c d e:D),∃a' b' c' d' e',gQ (tgN [2,3,5,6]) (aB9 1 cO (eX (aB d_ (aB (b2 JQ (eX (aB fO aO)) eN) aO)))) (T.map (tkD N)) [pr,.dct (hdD N L),a,b,c,d,e]=.ok (.nx [pr,.dct (hdD N (L++T.map tr)),a',b',c',d',e'])
 | [],L,_,_,_,_,a,b,c,d,e=>⟨a,b,c,d,e,by rw [show L++List.map tr []=L from List.append_nil L];rfl⟩
 | t::T,L,h1,h2,h3,h4,a,b,c,d,e=>by
  have hr:(tr t).1<26:=h2 (tr t) (by simp);have hn:(tr t).1∉L.map (·.1):=fun hm=>by
   rw [List.map_cons,List.map_append,List.map_cons,List.nodup_append] at h1;exact h1.2.2 _ hm _ (List.mem_cons_self ..) rfl
  have e1:hdD N (L++[tr t])=putD (hdD N L) (sy N (tr t).1) (hdV N (tr t)):=by
   unfold hdD;rw [yQ hN hd (fun r:Rw=>r.1) (hdV N) hr _ L (fun x hx=>h2 x (List.mem_append_left _ hx)) hn,List.map_append];rfl
  rw [List.length_cons] at h3;obtain ⟨a',b',c',d',e',q⟩:=R6 (pr:=pr) T (L++[tr t]) (by rw [List.append_assoc];exact h1) (by rw [List.append_assoc];exact h2) (by rw [List.length_append,List.length_singleton];lia) (fun x hx=>h4 x (List.mem_cons_of_mem _ hx)) (sy N t.1) (sy N t.2.1) c (sy N t.2.2.1) (.tup (t.2.2.2.map (sy N)));refine ⟨a',b',c',d',e',?_⟩;rw [List.map_cons];rw [List.append_assoc] at q;have hl:=h4 t (List.mem_cons_self ..);have had:JQ (.tup [sy N t.2.2.1]) (.tup (t.2.2.2.map (sy N)))=.ok (.tup ((tr t).2.2.map (sy N))):=by
   show (if decide ([sy N t.2.2.1].length+(t.2.2.2.map (sy N)).length<=lim) then Res.ok (D.tup ([sy N t.2.2.1]++t.2.2.2.map (sy N))) else .bad)=_;rw [List.length_map,aY,decide_eq_true (by simp;lia)];rfl
  refine bN (ρ1:=[pr,.dct (hdD N L),sy N t.1,sy N t.2.1,c,sy N t.2.2.1,.tup (t.2.2.2.map (sy N))]) rfl (YH (i:=1) (kvs:=hdD N L) (k:=sy N (tr t).1) (d:=hdV N (tr t)) (cT (aD rfl (aD (aF (cT (aD rfl rfl) (by rw [aY];simp)) rfl had) rfl)) (by rw [aY];simp)) rfl rfl (by unfold hdD;rw [List.length_map,aY];lia) (aE2 ..) (GP ..)) ?_;rw [<-e1];exact q
structure Hds (F:List Rw):Prop where
 nd:(F.map (·.1)).Nodup
 lt:∀r∈F,r.1<26/\r.2.1<26/\(∀i∈r.2.2,i<26)/\r.2.2.length<=10
 ln:F.length<=100
theorem aCp {M:List Rw} {T:List Tk} (F:Hds (M++T.map tr)) {P0 P3:D}:i_ [.tup [P0,.tup (M.map (rwD N)),.tup (T.map (tkD N)),P3]]=.ok (.dct (hdD N (M++T.map tr))):=by
 have hl:=F.ln;rw [List.length_append,List.length_map] at hl;obtain ⟨a,b,c,q1⟩:=R5 hN hd (pr:=.tup [P0,.tup (M.map (rwD N)),.tup (T.map (tkD N)),P3]) (e:=.uD) (f:=.uD) (g:=.uD) (h:=.uD) .uD M [] (by have:=F.nd;rw [List.map_append,List.nodup_append] at this;exact this.1) (fun r hr=>(F.lt r (List.mem_append_left _ hr)).1) (by simp;lia) .uD .uD .uD;obtain ⟨a2,b2',c2,d2,e2,q2⟩:=R6 hN hd (pr:=.tup [P0,.tup (M.map (rwD N)),.tup (T.map (tkD N)),P3]) T M F.nd (fun r hr=>(F.lt r hr).1) (by lia) (fun t ht=>by have:=(F.lt (tr t) (List.mem_append_right _ (List.mem_map_of_mem ht))).2.2.2;have e:(tr t).2.2.length=t.2.2.2.length+1:=rfl;lia) a b c .uD .uD;refine call_v ?_;refine aK (ρ':=[.tup [P0,.tup (M.map (rwD N)),.tup (T.map (tkD N)),P3],.dct [],.uD,.uD,.uD,.uD,.uD]) (e_ (i:=1) rfl rfl) ?_;refine aK (kE ((dD (aF rfl rfl rfl)).trans (by rw [aZ (dU N)];rfl)) q1) ?_;exact aK (kE ((dD (aF rfl rfl rfl)).trans (by rw [aZ (mZ N)];rfl)) q2) rfl
theorem K5 {F:List Rw} (hF:Hds F) {r:Rw} (hr:r∈F):getD (.dct (hdD N F)) (sy N r.1)=.ok (hdV N r):=by
 show (if true then Res.ofOpt (cG (hdD N F) (sy N r.1)) else .bad)=_;unfold hdD;rw [if_pos rfl,GK hN hd (fun r:Rw=>r.1) (hdV N) F hF.nd (fun a ha=>(hF.lt a ha).1) r hr];rfl
end
end Lk49
end
section
namespace Lk49
open PySem L2 Mi
noncomputable def kt:FXT:=(xTB (x2L (cC .ne) (x2L (aU .mod) (bY aP 1 1 aO) VP) dZ))
noncomputable abbrev ls (sc:D) (h:List D) (c2 c3 c4 c5 c6 c7 c8 c9 ca cb cc cd ce cf:D):List D:=[sc,.lst h,c2,c3,c4,c5,c6,c7,c8,c9,ca,cb,cc,cd,ce,cf]
section
variable {N:List Str} {cs:List Int} {sc c2 c3 c4 c5 c6 c7 c8 c9 ca cb cc cd ce cf:D}
theorem aMm {n:Nat} (x:D) (hn:n<=4000):∃b:Bool,kt (ls sc (dk cs n) c2 c3 c4 c5 c6 c7 c8 c9 ca cb cc cd ce cf++[x])=.ok (b,ls sc (dk cs (n+1)) c2 c3 c4 c5 c6 c7 c8 c9 ca cb cc cd ce cf++[x]):=by
 obtain ⟨v,qv⟩:=jJ cs n (by lia);exact ⟨!(v % 4==1),aDw (zW (zW (yO qv rfl rfl) rfl rfl (b8 _ _ (by decide)) rfl) rfl rfl (O_ _ _) rfl)⟩
theorem yR:∀(R:List Ru) (n:Nat) (acc:List Ru),n+R.length<=4000->∃(R':List Ru) (n':Nat),R'.Sublist R/\n'<=n+R.length/\aGj kt (xE W5) (acc.map (ruD N)) (R.map (ruD N)) (ls sc (dk cs n) c2 c3 c4 c5 c6 c7 c8 c9 ca cb cc cd ce cf)=.ok ((acc++R').map (ruD N),ls sc (dk cs n') c2 c3 c4 c5 c6 c7 c8 c9 ca cb cc cd ce cf)
 | [],n,acc,_=>⟨[],n,.refl _,by simp,by rw [List.append_nil];rfl⟩
 | u::R,n,acc,h=>by
  rw [List.length_cons] at h;obtain ⟨b,qb⟩:=aMm (sc:=sc) (cs:=cs) (c2:=c2) (c3:=c3) (c4:=c4) (c5:=c5) (c6:=c6) (c7:=c7) (c8:=c8) (c9:=c9) (ca:=ca) (cb:=cb) (cc:=cc) (cd:=cd) (ce:=ce) (cf:=cf) (n:=n) (ruD N u) (by lia);cases b
  ·obtain ⟨R',n',q1,q2,q3⟩:=yR R (n+1) acc (by lia);refine ⟨R',n',q1.cons u,by rw [List.length_cons];lia,?_⟩;rw [List.map_cons,aGj,qb,Res.aN];exact q3
  ·obtain ⟨R',n',q1,q2,q3⟩:=yR R (n+1) (acc++[u]) (by lia);refine ⟨u::R',n',q1.cons₂ u,by rw [List.length_cons];lia,?_⟩;rw [List.map_cons,aGj,qb,Res.aN];have hv:xE W5 (ls sc (dk cs (n+1)) c2 c3 c4 c5 c6 c7 c8 c9 ca cb cc cd ce cf++[ruD N u])=.ok (ruD N u,ls sc (dk cs (n+1)) c2 c3 c4 c5 c6 c7 c8 c9 ca cb cc cd ce cf++[ruD N u]):=aMi rfl (d9 ..);dsimp only;rw [if_pos rfl,hv,Res.aN,if_pos (d9 N u)];rw [List.map_append,List.append_assoc] at q3;exact q3
theorem aH3 {R:List Ru} {n n1:Nat} {fa:FA} {ds:List D} (h1:fa (ls sc (dk cs n) c2 c3 c4 c5 c6 c7 c8 c9 ca cb cc cd ce cf)=.ok ds) (hl:ds.length=3) (h2:ch1 cW (dk cs n) ds=.ok (.lst (R.map (ruD N)),dk cs n1)) (h3:n1+R.length<=4000) (h4:R.length<=1000) :
  ∃(R':List Ru) (n':Nat),R'.Sublist R/\n'<=n1+R.length/\zU (zT (bY cW 4 1 fa)) kt (xE W5) (ls sc (dk cs n) c2 c3 c4 c5 c6 c7 c8 c9 ca cb cc cd ce cf)=.ok (.lst (R'.map (ruD N)),ls sc (dk cs n') c2 c3 c4 c5 c6 c7 c8 c9 ca cb cc cd ce cf):=by
 obtain ⟨R',n',q1,q2,q3⟩:=yR (N:=N) (cs:=cs) (sc:=sc) (c2:=c2) (c3:=c3) (c4:=c4) (c5:=c5) (c6:=c6) (c7:=c7) (c8:=c8) (c9:=c9) (ca:=ca) (cb:=cb) (cc:=cc) (cd:=cd) (ce:=ce) (cf:=cf) R n1 [] h3;refine ⟨R',n',q1,q2,?_⟩;have hx:bY cW 4 1 fa (ls sc (dk cs n) c2 c3 c4 c5 c6 c7 c8 c9 ca cb cc cd ce cf)=.ok (.lst (R.map (ruD N)),ls sc (dk cs n1) c2 c3 c4 c5 c6 c7 c8 c9 ca cb cc cd ce cf):=mY (i:=1) h1 rfl (by lia) h2 (m_ ..) rfl;have hi:zT (bY cW 4 1 fa) (ls sc (dk cs n) c2 c3 c4 c5 c6 c7 c8 c9 ca cb cc cd ce cf)=.ok (R.map (ruD N),ls sc (dk cs n1) c2 c3 c4 c5 c6 c7 c8 c9 ca cb cc cd ce cf):=by
  unfold zT;rw [hx,Res.aN];rfl
 unfold zU;rw [hi,Res.aN];dsimp only;rw [if_pos (by rw [List.length_map,aY];exact decide_eq_true (by lia))];rw [List.map_nil,List.nil_append] at q3;rw [q3,Res.aN]
end
end Lk49
end
section
namespace Lk49
open PySem L2 Mi
def pD (N:List Str) (p:Nat×Nat):D:=.tup [sy N p.1,sy N p.2]
theorem aAd (N:List Str) (p:Nat×Nat) (n:Nat):(pD N p).bU (n+1)=true:=by
 unfold pD;rw [D.bU,D.cA,D.cA,D.cA];unfold sy;rw [D.bU,D.bU] <;> simp
theorem R7 (N:List Str) (n:Nat):∀L:List (Nat×Nat),D.cA (n+1) (L.map (pD N))=true
 | []=>by rw [List.map_nil,D.cA]
 | p::L=>by rw [List.map_cons,D.cA,aAd,R7 N n L];rfl
section
variable {N:List Str} (hN:N.length=26) (hd:N.Nodup)
include hN hd
theorem aKp {p q:Nat×Nat} (hp:p.1<26/\p.2<26) (hq:q.1<26/\q.2<26):eqD (pD N p) (pD N q)=decide (p=q):=by
 show (eqD (sy N p.1) (sy N q.1)&&(eqD (sy N p.2) (sy N q.2)&&true))=_;rw [GJ hN hd hp.1 hq.1,GJ hN hd hp.2 hq.2];obtain ⟨a,b⟩:=p;obtain ⟨c,d⟩:=q;simp [Prod.mk.injEq]
theorem aE3 {p:Nat×Nat} (hp:p.1<26/\p.2<26):∀L:List (Nat×Nat),(∀q∈L,q.1<26/\q.2<26)->(L.map (pD N)).any (fun y=>eqD y (pD N p))=decide (p∈L)
 | [],_=>by simp
 | q::L,h1=>by
  rw [List.map_cons,List.any_cons,aKp hN hd (h1 q (List.mem_cons_self ..)) hp,aE3 hp L (fun x hx=>h1 x (List.mem_cons_of_mem _ hx))];by_cases e:q=p
  ·subst e;simp
  ·rw [decide_eq_false e,Bool.false_or];by_cases g:p∈L
   ·simp [g]
   ·have:¬p=q:=fun z=>e z.symm
    simp [g,this]
theorem aE4 {p:Nat×Nat} (hp:p.1<26/\p.2<26) {L:List (Nat×Nat)} (hL:∀q∈L,q.1<26/\q.2<26):cC .notin (pD N p) (.lst (L.map (pD N)))=.ok (.bl (!decide (p∈L))):=by
 show (if (pD N p).bU 12&&D.cA 12 (L.map (pD N)) then Res.ok (D.bl (!(L.map (pD N)).any fun y=>eqD y (pD N p))) else .bad)=_;rw [aAd,R7,aE3 hN hd hp L hL];rfl
end
end Lk49
end
section
namespace Lk49
open PySem L2 Mi
theorem aAe {t:D->List D->Res (List D)} {body:FS} {x d:D} {xs ρ ρ1:List D} (h1:t x ρ=.ok ρ1) (h2:body ρ1=.ok (.rt d)):gQ t body (x::xs) ρ=.ok (.rt d):=by
 unfold gQ;rw [h1,Res.aN,h2,Res.aN]
theorem z7 {a:FA} {ρ:List D} {xs:List D} (h:a ρ=.ok xs) (hl:xs.length<=lim):l_ a ρ=.ok (.lst xs):=by
 unfold l_;rw [h,Res.aN,if_pos (decide_eq_true hl)];rfl
def lack (Q:List (Nat×Nat)):Nat×Nat->Bool:=fun p=>!decide (p∈Q)
noncomputable def fb:FS:=(sIf (W7 (bTB (b2 (cC .eq) (b2 getD fO dZ) (b2 getD fP oK))) (bTB (b2 (cC .notin) (eX (aB (b2 getD fP fM) (aB (b2 getD fO fM) aO))) d_))) (nZ (l_ (aB (bPu (b2 getD fP fM)) (aB (bPu (b2 getD fO fM)) aO))) true) iQ)
noncomputable abbrev fs (N:List Str) (M:List Rw) (T:List Tk) (r:D) (Q:List (Nat×Nat)) (a b:D):List D:=[.lst (M.map (rwD N)),.lst (T.map (tkD N)),r,.lst (Q.map (pD N)),a,b]
section
variable {N:List Str} (hN:N.length=26) (hd:N.Nodup)
include hN hd
theorem aN8 {M:List Rw} {T:List Tk} {r:D} {Q:List (Nat×Nat)} (hQ:∀q∈Q,q.1<26/\q.2<26) {t:Tk} (ht:t.1<26/\t.2.2.1<26):∀(L:List Rw),(∀x∈L,x.1<26/\x.2.1<26)->∀x:D,
  (∃p,(prs t L).find? (lack Q)=some p/\gQ (tg1 5) fb (L.map (rwD N)) (fs N M T r Q (tkD N t) x)=.ok (.rt (.lst [sy N p.1,sy N p.2])))\/((prs t L).find? (lack Q)=none/\∃x',gQ (tg1 5) fb (L.map (rwD N)) (fs N M T r Q (tkD N t) x)=.ok (.nx (fs N M T r Q (tkD N t) x')))
 | [],_,x=>.inr ⟨rfl,x,rfl⟩
 | y::L,hL,x=>by
  have hy:=hL y (List.mem_cons_self ..);have ih:=aN8 (M:=M) (T:=T) (r:=r) hQ ht L (fun z hz=>hL z (List.mem_cons_of_mem _ hz)) (rwD N y);have ce:bTB (b2 (cC .eq) (b2 getD fO dZ) (b2 getD fP oK)) (fs N M T r Q (tkD N t) (rwD N y))=.ok (decide (y.2.1=t.2.2.1)):=dC (aF (iI (i:=5) (r:=y) rfl).2.1 (kO (i:=4) (t:=t) rfl).2.2.1 (K4 hN hd hy.2 ht.2));have cn:bTB (b2 (cC .notin) (eX (aB (b2 getD fP fM) (aB (b2 getD fO fM) aO))) d_) (fs N M T r Q (tkD N t) (rwD N y))=.ok (lack Q (t.1,y.1)):=dC (aF (x:=pD N (t.1,y.1)) (cT (aD (kO (i:=4) (t:=t) rfl).1 (aD (iI (i:=5) (r:=y) rfl).1 rfl)) (by rw [aY];simp)) rfl (aE4 hN hd ⟨ht.1,hy.1⟩ hQ));have go:fb (fs N M T r Q (tkD N t) (rwD N y))=.ok (.nx (fs N M T r Q (tkD N t) (rwD N y)))->(prs t (y::L)).find? (lack Q)=(prs t L).find? (lack Q)->(∃p,(prs t (y::L)).find? (lack Q)=some p/\gQ (tg1 5) fb ((y::L).map (rwD N)) (fs N M T r Q (tkD N t) x)=.ok (.rt (.lst [sy N p.1,sy N p.2])))\/((prs t (y::L)).find? (lack Q)=none/\∃x',gQ (tg1 5) fb ((y::L).map (rwD N)) (fs N M T r Q (tkD N t) x)=.ok (.nx (fs N M T r Q (tkD N t) x'))):=by
   intro h1 h2;rw [h2,List.map_cons];rcases ih with ⟨p,g1,g2⟩|⟨g1,x',g2⟩
   ·exact .inl ⟨p,g1,bN (ρ1:=fs N M T r Q (tkD N t) (rwD N y)) rfl h1 g2⟩
   ·exact .inr ⟨g1,x',bN (ρ1:=fs N M T r Q (tkD N t) (rwD N y)) rfl h1 g2⟩
  by_cases hk:y.2.1=t.2.2.1
  ·have ep:prs t (y::L)=(t.1,y.1)::prs t L:=by
    unfold prs;rw [List.filter_cons_of_pos (by simpa using hk),List.map_cons]
   cases hl:lack Q (t.1,y.1)
   ·exact go (sS ((YG (ce.trans (by rw [decide_eq_true hk])) cn).trans (by rw [hl])) rfl) (by rw [ep,List.find?_cons_of_neg (by rw [hl];simp)])
   ·refine .inl ⟨(t.1,y.1),by rw [ep,List.find?_cons_of_pos hl],?_⟩;rw [List.map_cons];exact aAe (ρ1:=fs N M T r Q (tkD N t) (rwD N y)) rfl (LK ((YG (ce.trans (by rw [decide_eq_true hk])) cn).trans (by rw [hl])) (j_ (z7 (aD (F_ (kO (i:=4) (t:=t) rfl).1 rfl) (aD (F_ (iI (i:=5) (r:=y) rfl).1 rfl) rfl)) (by rw [aY];simp)) rfl))
  ·have ep:prs t (y::L)=prs t L:=by
    unfold prs;rw [List.filter_cons_of_neg (by simpa using hk)]
   exact go (sS (aFo (ce.trans (by rw [decide_eq_false hk]))) rfl) (by rw [ep])
theorem aKq {M:List Rw} {T:List Tk} {r:D} {Q:List (Nat×Nat)} (hQ:∀q∈Q,q.1<26/\q.2<26) (hM:∀x∈M,x.1<26/\x.2.1<26):∀(L:List Tk),(∀t∈L,t.1<26/\t.2.2.1<26)->∀a x:D,
  (∃p,(prT L M).find? (lack Q)=some p/\gQ (tg1 4) (iD 0 (tg1 5) fb) (L.map (tkD N)) (fs N M T r Q a x)=.ok (.rt (.lst [sy N p.1,sy N p.2])))\/((prT L M).find? (lack Q)=none/\∃a' x',gQ (tg1 4) (iD 0 (tg1 5) fb) (L.map (tkD N)) (fs N M T r Q a x)=.ok (.nx (fs N M T r Q a' x')))
 | [],_,a,x=>.inr ⟨rfl,a,x,rfl⟩
 | t::L,hL,a,x=>by
  have ep:prT (t::L) M=prs t M++prT L M:=by unfold prT;rw [List.flatMap_cons]
  rw [ep,List.find?_append,List.map_cons];rcases aN8 hN hd (M:=M) (T:=T) (r:=r) hQ (hL t (List.mem_cons_self ..)) M hM x with ⟨p,g1,g2⟩|⟨g1,x',g2⟩
  ·exact .inl ⟨p,by rw [g1];rfl,aAe (ρ1:=fs N M T r Q (tkD N t) x) rfl (lG rfl rfl g2)⟩
  ·rw [g1,Option.none_or];rcases aKq (T:=T) (r:=r) hQ hM L (fun z hz=>hL z (List.mem_cons_of_mem _ hz)) (tkD N t) x' with ⟨p,i1,i2⟩|⟨i1,a',x2,i2⟩
   ·exact .inl ⟨p,i1,bN (ρ1:=fs N M T r Q (tkD N t) x) rfl (lG rfl rfl g2) i2⟩
   ·exact .inr ⟨i1,a',x2,bN (ρ1:=fs N M T r Q (tkD N t) x) rfl (lG rfl rfl g2) i2⟩
end
end Lk49
end
section
namespace Lk49
open PySem L2 Mi
noncomputable def aCq (T:List Tk) (M:List Rw) (R:List Ru):Option (Nat×Nat):=(prT T M).find? (lack (R.map pq))
noncomputable def z8 (N:List Str):Option (Nat×Nat)->List D
 | none=>[]
 | some p=>[sy N p.1,sy N p.2]
section
variable {N:List Str} (hN:N.length=26) (hd:N.Nodup)
include hN hd
theorem aCr {M:List Rw} {T:List Tk} {R:List Ru} (hM:∀x∈M,x.1<26/\x.2.1<26) (hT:∀t∈T,t.1<26/\t.2.2.1<26) (hR:∀u∈R,u.1<26/\u.2.1<26) (hl:R.length<=1000):iB [.lst (M.map (rwD N)),.lst (T.map (tkD N)),.lst (R.map (ruD N))]=.ok (.lst (z8 N (aCq T M R))):=by
 have hQ:∀q∈R.map pq,q.1<26/\q.2<26:=fun q hq=>by
  obtain ⟨u,hu,rfl⟩:=List.mem_map.mp hq;exact hR u hu
 refine call_v ?_;show wH [.lst (M.map (rwD N)),.lst (T.map (tkD N)),.lst (R.map (ruD N)),.uD,.uD,.uD]=_;have s0:bV false 3 (cN 6 (bL cO false) nC eE (eX (aB (b2 getD eN fM) (aB (b2 getD eN dZ) aO))) false) true [.lst (M.map (rwD N)),.lst (T.map (tkD N)),.lst (R.map (ruD N)),.uD,.uD,.uD]=.ok (.nx (fs N M T (.lst (R.map (ruD N))) (R.map pq) .uD .uD)):=by
  refine dB (i:=3) ?_;rw [List.map_map];exact eY (n:=6) (ruD N) (fun u=>pD N (pq u)) R rfl (kJ rfl) (by lia) fun u hu=>⟨cT (aD (aF rfl rfl rfl) (aD (aF rfl rfl rfl) rfl)) (by rw [aY];simp),rfl⟩
 refine aK s0 ?_;unfold aCq;rcases aKq hN hd (M:=M) (T:=T) (r:=.lst (R.map (ruD N))) hQ hM T hT .uD .uD with ⟨p,g1,g2⟩|⟨g1,a',x',g2⟩
 ·rw [g1];exact o5 (lG rfl rfl g2)
 ·rw [g1];exact aK (lG rfl rfl g2) (j_ rfl rfl)
end
end Lk49
end
section
namespace Lk49
open PySem L2 Mi
theorem aE5 {N:List Str} {ρ:List D} {i:Nat} {u:Ru} (h:dH i ρ=.ok (ruD N u)):b2 getD (dH i) fM ρ=.ok (sy N u.1)/\b2 getD (dH i) dZ ρ=.ok (sy N u.2.1):=⟨aF h rfl rfl,aF h rfl rfl⟩
theorem aCs {n:Nat} {N:List Str} {it:FI} {c:FT} {f:FE} {kk:Bool} {ρ:List D} (y:Rw->D) (p:Rw->Bool) (xs:List Rw) (hρ:ρ.length=n) (h1:it ρ=.ok (xs.map (rwD N),kk)) (h2:xs.length<=100000) (hc:∀a∈xs,c (ρ++[sy N a.1,sy N a.2.1,.tup (a.2.2.map (sy N))])=.ok (p a)) (h3:∀a∈xs,p a=true->f (ρ++[sy N a.1,sy N a.2.1,.tup (a.2.2.map (sy N))])=.ok (y a)/\(y a).pure=true):cN n it (W8 3) c f false ρ=.ok (.lst ((xs.filter p).map y)):=by
 refine CT h1 (by rw [List.length_map,aY];lia) ?_;have:∀(xs:List Rw) (acc:List D),(∀a∈xs,c (ρ++[sy N a.1,sy N a.2.1,.tup (a.2.2.map (sy N))])=.ok (p a))->(∀a∈xs,p a=true->f (ρ++[sy N a.1,sy N a.2.1,.tup (a.2.2.map (sy N))])=.ok (y a)/\(y a).pure=true)->k_ (p_ n (W8 3) c f false ρ) acc (xs.map (rwD N))=.ok (acc++(xs.filter p).map y):=by
  intro xs;induction xs with
  | nil=>intro acc _ _;simp [k_]
  | cons x xs ih=>
   intro acc hc h;have e:p_ n (W8 3) c f false ρ acc (rwD N x)=.ok (if p x then acc++[y x] else acc):=by
    unfold p_;show (do let ok <- c (M7 n ρ++[sy N x.1,sy N x.2.1,.tup (x.2.2.map (sy N))]);_)=_;rw [JL hρ,hc x (List.mem_cons_self ..),Res.aN];cases hp:p x with
    | true=>
     obtain ⟨e1,e2⟩:=h x (List.mem_cons_self ..) hp;rw [if_pos rfl,e1,Res.aN,if_pos (by rw [e2];rfl),if_pos rfl];rfl
    | false=>
     rw [if_neg (by simp),if_neg (by simp)];rfl
   rw [List.map_cons,k_,e];show k_ _ _ _=_;rw [ih _ (fun a ha=>hc a (List.mem_cons_of_mem _ ha)) fun a ha=>h a (List.mem_cons_of_mem _ ha)];by_cases hp:p x
   ·simp [hp]
   ·simp [hp]
 exact (this xs [] hc h3).trans (by rw [List.nil_append])
noncomputable def prD (N:List Str) (K:List Nat) (M:List Rw) (T:List Tk) (R:List Ru):D:=.tup [tw N K,.tup (M.map (rwD N)),.tup (T.map (tkD N)),.tup (R.map (ruD N))]
theorem wX {t:D->List D->Res (List D)} {body:FS} {x:D} {xs ρ ρ1:List D} {c:Str} {as:List D} (h1:t x ρ=.ok ρ1) (h2:body ρ1=.err c as):gQ t body (x::xs) ρ=.err c as:=by
 unfold gQ;rw [h1,Res.aN,h2];rfl
theorem aKr {c f g u w:Str} {fa fb:FE} {ρ:List D} (h1:fa ρ=.ok (.str u)) (h2:fb ρ=.ok (.str w)):cL c [f,g] (noE (aB fa (aB fb aO))) ρ=.err c [.exc c [(f,u),(g,w)]]:=by
 unfold cL;have e:aB fa (aB fb aO) ρ=.ok [.str u,.str w]:=aD h1 (aD h2 rfl);rw [bR e,Res.aN];rfl
noncomputable def zl:FS:=(sIf (noE (bTB (b2 (cC .notin) (eX (aB cO (aB eN aO))) fK))) (cL "Lacking" ["taker", "maker"] (noE (aB cO (aB eN aO)))) iQ)
noncomputable abbrev lk (N:List Str) (p:Nat×Nat):List D:=[.exc "Lacking" [("taker",N.getD p.1 ""),("maker",N.getD p.2 "")]]
section
variable {N:List Str} (hN:N.length=26) (hd:N.Nodup)
include hN hd
theorem aN9 {Q:List (Nat×Nat)} (hQ:∀q∈Q,q.1<26/\q.2<26) {pr b c d:D} {i:Nat} (hi:i<26):∀(L:List Rw),(∀r∈L,r.1<26)->∀x:D,
  (∃p,(L.map fun r=>(i,r.1)).find? (lack Q)=some p/\gQ (noT (tg1 6)) zl (L.map fun r=>sy N r.1) [pr,.lst (Q.map (pD N)),sy N i,b,c,d,x]=.err "Lacking" (lk N p))\/((L.map fun r=>(i,r.1)).find? (lack Q)=none/\∃x',gQ (noT (tg1 6)) zl (L.map fun r=>sy N r.1) [pr,.lst (Q.map (pD N)),sy N i,b,c,d,x]=.ok (.nx [pr,.lst (Q.map (pD N)),sy N i,b,c,d,x']))
 | [],_,x=>.inr ⟨rfl,x,rfl⟩
 | r::L,hL,x=>by
  have hr:=hL r (List.mem_cons_self ..);have cn:noE (bTB (b2 (cC .notin) (eX (aB cO (aB eN aO))) fK)) [pr,.lst (Q.map (pD N)),sy N i,b,c,d,sy N r.1]=.ok (lack Q (i,r.1)):=bR (dC (aF (x:=pD N (i,r.1)) (cT (aD rfl (aD rfl rfl)) (by rw [aY];simp)) rfl (aE4 hN hd ⟨hi,hr⟩ hQ)));rw [List.map_cons,List.map_cons];cases hl:lack Q (i,r.1)
  ·rw [List.find?_cons_of_neg (by rw [hl];simp)];rcases aN9 hQ (pr:=pr) (b:=b) (c:=c) (d:=d) hi L (fun y hy=>hL y (List.mem_cons_of_mem _ hy)) (sy N r.1) with ⟨p,g1,g2⟩|⟨g1,x',g2⟩
   ·exact .inl ⟨p,g1,bN (ρ1:=[pr,.lst (Q.map (pD N)),sy N i,b,c,d,sy N r.1]) rfl (sS (cn.trans (by rw [hl])) rfl) g2⟩
   ·exact .inr ⟨g1,x',bN (ρ1:=[pr,.lst (Q.map (pD N)),sy N i,b,c,d,sy N r.1]) rfl (sS (cn.trans (by rw [hl])) rfl) g2⟩
  ·exact .inl ⟨(i,r.1),by rw [List.find?_cons_of_pos hl],wX (ρ1:=[pr,.lst (Q.map (pD N)),sy N i,b,c,d,sy N r.1]) rfl (LK (cn.trans (by rw [hl])) (aKr rfl rfl))⟩
end
end Lk49
end
section
namespace Lk49
open PySem L2 Mi
noncomputable def zi:FS:=(yU (noE (bL (cN 7 (bL (b2 getD fC dZ) false) (W8 3) (bTB (b2 (cC .eq) lZ fP)) dY false) true)) (noT (tg1 6)) zl)
section
variable {N:List Str} (hN:N.length=26) (hd:N.Nodup)
include hN hd
theorem l_out {K:List Nat} {M:List Rw} {T:List Tk} {R:List Ru} {Q:List (Nat×Nat)} (hQ:∀q∈Q,q.1<26/\q.2<26) (hM:∀r∈M,r.1<26/\r.2.1<26) (hMl:M.length<=100):∀(L:List Tk),(∀t∈L,t.1<26/\t.2.2.1<26)->∀a b c d x:D,
  (∃p,(prT L M).find? (lack Q)=some p/\gQ (noT (tgN [2,3,4,5])) zi (L.map (tkD N)) [prD N K M T R,.lst (Q.map (pD N)),a,b,c,d,x]=.err "Lacking" (lk N p))\/((prT L M).find? (lack Q)=none/\∃a' b' c' d' x',gQ (noT (tgN [2,3,4,5])) zi (L.map (tkD N)) [prD N K M T R,.lst (Q.map (pD N)),a,b,c,d,x]=.ok (.nx [prD N K M T R,.lst (Q.map (pD N)),a',b',c',d',x']))
 | [],_,a,b,c,d,x=>.inr ⟨rfl,a,b,c,d,x,rfl⟩
 | t::L,hL,a,b,c,d,x=>by
  have ht:=hL t (List.mem_cons_self ..);have ep:prT (t::L) M=prs t M++prT L M:=by unfold prT;rw [List.flatMap_cons]
  have it:noE (bL (cN 7 (bL (b2 getD fC dZ) false) (W8 3) (bTB (b2 (cC .eq) lZ fP)) dY false) true) [prD N K M T R,.lst (Q.map (pD N)),sy N t.1,sy N t.2.1,sy N t.2.2.1,.tup (t.2.2.2.map (sy N)),x]=.ok ((M.filter fun r=>decide (r.2.1=t.2.2.1)).map (fun r=>sy N r.1),true):=bR (kJ (aCs (n:=7) (N:=N) (fun r=>sy N r.1) (fun r=>decide (r.2.1=t.2.2.1)) M rfl (dD (aF rfl rfl rfl)) (by lia) (fun r hr=>dC (aF (x:=sy N r.2.1) (y:=sy N t.2.2.1) rfl rfl (K4 hN hd (hM r hr).2 ht.2))) (fun r hr _=>⟨rfl,rfl⟩)));rw [ep,List.find?_append,List.map_cons];unfold prs;rcases aN9 hN hd hQ (pr:=prD N K M T R) (b:=sy N t.2.1) (c:=sy N t.2.2.1) (d:=.tup (t.2.2.2.map (sy N))) ht.1 (M.filter fun r=>decide (r.2.1=t.2.2.1)) (fun r hr=>(hM r (List.mem_filter.mp hr).1).1) x with ⟨p,g1,g2⟩|⟨g1,x',g2⟩
  ·exact .inl ⟨p,by rw [g1];rfl,wX (ρ1:=[prD N K M T R,.lst (Q.map (pD N)),sy N t.1,sy N t.2.1,sy N t.2.2.1,.tup (t.2.2.2.map (sy N)),x]) rfl (kE it g2)⟩
  ·rw [g1,Option.none_or];rcases l_out hQ hM hMl L (fun z hz=>hL z (List.mem_cons_of_mem _ hz)) (sy N t.1) (sy N t.2.1) (sy N t.2.2.1) (.tup (t.2.2.2.map (sy N))) x' with ⟨p,i1,i2⟩|⟨i1,a',b',c',d',x2,i2⟩
   ·exact .inl ⟨p,i1,bN (ρ1:=[prD N K M T R,.lst (Q.map (pD N)),sy N t.1,sy N t.2.1,sy N t.2.2.1,.tup (t.2.2.2.map (sy N)),x]) rfl (kE it g2) i2⟩
   ·exact .inr ⟨i1,a',b',c',d',x2,bN (ρ1:=[prD N K M T R,.lst (Q.map (pD N)),sy N t.1,sy N t.2.1,sy N t.2.2.1,.tup (t.2.2.2.map (sy N)),x]) rfl (kE it g2) i2⟩
end
end Lk49
end
section
namespace Lk49
open PySem L2 Mi
theorem R8 {n m:Nat} {f:FS} {ds ρ':List D} (h:f (ds++List.replicate (m-n) D.uD)=.ok (.nx ρ')):fnS n m f ds=.ok .non:=by
 unfold fnS;rw [h];rfl
theorem K6 {n m:Nat} {f:FS} {ds:List D} {c:Str} {as:List D} (h:f (ds++List.replicate (m-n) D.uD)=.err c as):fnS n m f ds=.err c as:=by
 unfold fnS;rw [h];rfl
noncomputable def lkR (N:List Str):Option (Nat×Nat)->Res D
 | none=>.ok .non
 | some p=>.err "Lacking" (lk N p)
section
variable {N:List Str} (hN:N.length=26) (hd:N.Nodup)
include hN hd
theorem aH4 {K:List Nat} {M:List Rw} {T:List Tk} {R:List Ru} (hM:∀r∈M,r.1<26/\r.2.1<26) (hT:∀t∈T,t.1<26/\t.2.2.1<26) (hR:∀u∈R,u.1<26/\u.2.1<26) (hMl:M.length<=100) (hRl:R.length<=1000):d8 [prD N K M T R]=lkR N (aCq T M R):=by
 have hQ:∀q∈R.map pq,q.1<26/\q.2<26:=fun q hq=>by
  obtain ⟨u,hu,rfl⟩:=List.mem_map.mp hq;exact hR u hu
 have s0:noE (bV false 1 (cN 7 (bL (b2 getD fC j0) false) nC eE (eX (aB (b2 getD dY fM) (aB (b2 getD dY dZ) aO))) false) true) [prD N K M T R,.uD,.uD,.uD,.uD,.uD,.uD]=.ok (.nx [prD N K M T R,.lst ((R.map pq).map (pD N)),.uD,.uD,.uD,.uD,.uD]):=by
  refine bR (dB (i:=1) ?_);rw [List.map_map];exact eY (n:=7) (k:=false) (ruD N) (fun u=>pD N (pq u)) R rfl (dD (aF rfl rfl rfl)) (by lia) fun u hu=>⟨cT (aD (aE5 (i:=7) (u:=u) rfl).1 (aD (aE5 (i:=7) (u:=u) rfl).2 rfl)) (by rw [aY];simp),rfl⟩
 have it:noE (bL (b2 getD fC oK) false) [prD N K M T R,.lst ((R.map pq).map (pD N)),.uD,.uD,.uD,.uD,.uD]=.ok (T.map (tkD N),true):=bR ((dD (aF rfl rfl rfl)).trans (by rw [aZ (mZ N)];rfl));unfold aCq;rcases l_out hN hd (K:=K) (T:=T) (R:=R) hQ hM hMl T hT .uD .uD .uD .uD .uD with ⟨p,g1,g2⟩|⟨g1,a,b,c,d,x,g2⟩
 ·rw [g1];exact K6 (aK s0 (kE it g2))
 ·rw [g1];exact R8 (aK s0 (kE it g2))
end
end Lk49
end
section
namespace Lk49
open PySem L2 Mi
theorem same_str (n:Nat) (x:Str):bJ (n+1) [.str x,.str x]=.ok (.bl true):=by
 refine call_v ?_;refine o5 (LK (zK (K3 rfl rfl)) (j_ ?_ rfl));show (do let k <- asB (.bl true);if k then b2 (cC .eq) fC fK [.str x,.str x] else pure (.bl false))=_;rw [aIw,Res.aN,if_pos rfl];refine aF rfl rfl ?_;show (if (D.str x).bU bH&&(D.str x).bU bH then Res.ok (D.bl (x==x)) else .bad)=_;rw [GC];simp
theorem K7 {α:Type}:∀l:List α,xT (l.map fun _=>D.bl true)=some (l.map fun _=>true)
 | []=>rfl
 | a::l=>by
  rw [List.map_cons,xT,K7 l];rfl
theorem jR (n:Nat) (ds:List D) (hp:D.aX ds=true) (hl:ds.length<=1000) (h:∀d∈ds,bJ n [d,d]=.ok (.bl true)):bJ (n+1) [.tup ds,.tup ds]=.ok (.bl true):=by
 refine call_v ?_;refine aK (sS (zK (K3 rfl rfl)) rfl) (aK (sS (aDy (z6 (b:=true) (zK (K3 rfl rfl))) (dC (aF (x:=.int ds.length) (y:=.int ds.length) (bF (aD rfl rfl) rfl) (bF (aD rfl rfl) rfl) ((O_ _ _).trans (by simp))))) rfl) ?_);refine j_ (bF (aD (x:=.lst (ds.map fun _=>.bl true)) (CT (xs:=VR ds ds) (kk:=true) ?_ ?_ ?_) rfl) ?_) rfl
 ·unfold jC;rw [show aB fC (aB fK aO) ([D.tup ds,.tup ds]++List.replicate (2-2) .uD)=.ok [.tup ds,.tup ds] from rfl,Res.aN];show (if decide (ds.length=ds.length)&&D.aX ds&&D.aX ds then Res.ok (VR ds ds,true) else .bad)=_;rw [hp,decide_eq_true rfl];rfl
 ·have:∀l:List D,(VR l l).length=l.length:=fun l=>by
   induction l with
   | nil=>rfl
   | cons a l ih=>
    show (D.tup [a,a]::VR l l).length=_;rw [List.length_cons,List.length_cons,ih]
  rw [this,aY];lia
 ·have:∀(l:List D) (acc:List D),(∀d∈l,bJ n [d,d]=.ok (.bl true))->k_ (p_ 2 (W8 2) eE (aV (iK 2 (bJ n)) (aB cO (aB d_ aO))) true [.tup ds,.tup ds]) acc (VR l l)=.ok (acc++l.map fun _=>.bl true):=by
   intro l;induction l with
   | nil=>intro acc _;rw [List.map_nil,List.append_nil];rfl
   | cons a l ih=>
    intro acc hh;rw [show VR (a::l) (a::l)=D.tup [a,a]::VR l l from rfl,k_];have ha:dH 2 [.tup ds,.tup ds,a,a]=.ok a:=by
     have:=hh a (List.mem_cons_self ..);cases a <;> first|rfl|(exfalso;revert this;cases n <;> intro this <;> cases this)
    have ha3:dH 3 [.tup ds,.tup ds,a,a]=.ok a:=ha;have e:p_ 2 (W8 2) eE (aV (iK 2 (bJ n)) (aB cO (aB d_ aO))) true [.tup ds,.tup ds] acc (.tup [a,a])=.ok (acc++[.bl true]):=by
     unfold p_;show (do let y <- aV (iK 2 (bJ n)) (aB cO (aB d_ aO)) [.tup ds,.tup ds,a,a];if (true||y.pure) then pure (acc++[y]) else .bad)=_;have hc:aV (iK 2 (bJ n)) (aB cO (aB d_ aO)) [.tup ds,.tup ds,a,a]=.ok (.bl true):=bF (aD ha (aD (b:=aO) (xs:=[]) ha3 rfl)) ((dJ rfl).trans (hh a (List.mem_cons_self ..)));rw [hc];rfl
    rw [e];show k_ _ (acc++[.bl true]) _=_;rw [ih _ fun d hd=>hh d (List.mem_cons_of_mem _ hd),List.append_assoc];rfl
  exact (this ds [] h).trans (by rw [List.nil_append])
 ·show (match xT (ds.map fun _=>D.bl true) with|some bs=>Res.ok (D.bl (bs.all id))|none=>.bad)=_;rw [K7];show Res.ok (D.bl ((ds.map fun _=>true).all id))=_
  congr 2
  rw [List.all_eq_true];intro x hx;obtain ⟨_,_,rfl⟩:=List.mem_map.mp hx;rfl
theorem nY (N:List Str) (n:Nat) (w:List Nat) (hw:w.length<=1000):bJ (n+2) [tw N w,tw N w]=.ok (.bl true):=jR (n+1) _ (dR ..) (by rw [List.length_map];exact hw) fun d hd=>by
 obtain ⟨i,_,rfl⟩:=List.mem_map.mp hd;exact same_str n _
end Lk49
end
section
namespace Lk49
open PySem L2 Mi
theorem aCt {a:FE} {ρ xs:List D} (h1:a ρ=.ok (.tup xs)) (hx:D.aX xs=true) (hl:1<=xs.length):m9 a (eV dZ) fL ρ=.ok (.tup (xs.drop 1)):=by
 unfold m9;rw [h1,Res.aN,jW (i:=1) rfl,Res.aN];have e0:∀d:Nat,QJ xs.length d (some (1:Int))=1:=fun d=>by
  unfold QJ;dsimp only;rw [if_neg (by lia)];lia
 show (if !D.aX xs||decide (QJ xs.length 0 (some (1:Int))=0/\QJ xs.length xs.length none=xs.length) then Res.bad else Res.ok (D.tup (cutD xs (some (1:Int)) none)))=_;rw [hx,e0,decide_eq_false (by lia),if_neg (by simp)];rw [show ((1:Int))=((1:Nat):Int) from rfl,GF]
noncomputable def sn (N:List Str) (S:List Nat):List (D×D):=(.str "copy",.bl true)::(.str "drop",.bl true)::S.map fun i=>(sy N i,.bl true)
theorem aE6 (N:List Str) (S:List Nat) (i:Nat):xJ (sn N S) (sy N i)=true:=by
 show (true&&((D.str "copy",D.bl true)::(D.str "drop",D.bl true)::S.map fun i=>(sy N i,D.bl true)).all fun p=>isTup p.1==false)=true;rw [Bool.true_and,List.all_eq_true];intro y hy;rcases List.mem_cons.mp hy with h|h
 ·subst h;rfl
 ·rcases List.mem_cons.mp h with h|h
  ·subst h;rfl
  ·obtain ⟨k,_,rfl⟩:=List.mem_map.mp h;rfl
theorem aKs (N:List Str) (S:List Nat):(sn N S).length=S.length+2:=by
 unfold sn;simp
theorem aH5 (N:List Str) (S:List Nat):inner (.dct (sn N S))=true:=by
 show D.aX ((sn N S).map (·.2))=true;unfold sn;rw [List.map_cons,List.map_cons,List.map_map,D.aX,D.aX,aZ (fun _=>rfl)];rfl
section
variable {N:List Str} (H:Nms N)
include H
theorem aMn {i:Nat} (hi:i<26):eqD (.str "copy") (sy N i)=false/\eqD (.str "drop") (sy N i)=false:=by
 have hl:i<N.length:=by have:=H.len;lia
 have e:N.getD i "" = N[i]:=by rw [List.getD_eq_getElem?_getD,List.getElem?_eq_getElem hl];rfl
 have hm:N[i]∈N:=List.getElem_mem hl;refine ⟨?_,?_⟩
 ·show (("copy" : Str)==N.getD i "")=false;rw [e];exact beq_eq_false_iff_ne.mpr fun z=>H.nc (z▸hm)
 ·show (("drop" : Str)==N.getD i "")=false;rw [e];exact beq_eq_false_iff_ne.mpr fun z=>H.nr (z▸hm)
theorem K8 {α:Type} (nm:α->Nat) (g:α->D) {i:Nat} (hi:i<26):∀(L:List α),(∀a∈L,nm a<26)->i∉L.map nm->cG (L.map fun a=>(sy N (nm a),g a)) (sy N i)=none
 | [],_,_=>rfl
 | a::L,h1,h2=>by
  rw [List.map_cons,List.mem_cons,not_or] at h2;rw [List.map_cons,cG,GJ H.len H.nd (h1 a (List.mem_cons_self ..)) hi,decide_eq_false (fun g=>h2.1 g.symm),if_neg (by simp)];exact K8 nm g hi L (fun b hb=>h1 b (List.mem_cons_of_mem _ hb)) h2.2
theorem aKt {S:List Nat} (hS:∀i∈S,i<26) {i:Nat} (hi:i<26) (hn:i∉S):cG (sn N S) (sy N i)=none/\putD (sn N S) (sy N i) (.bl true)=sn N (S++[i]):=by
 obtain ⟨h1,h2⟩:=aMn H hi;unfold sn;refine ⟨?_,?_⟩
 ·rw [cG,h1,if_neg (by simp),cG,h2,if_neg (by simp)];exact K8 H (fun i=>i) (fun _=>.bl true) hi S hS (by rw [List.map_id'];exact hn)
 ·rw [putD,h1,if_neg (by simp),putD,h2,if_neg (by simp)];rw [yQ H.len H.nd (fun i:Nat=>i) (fun _=>.bl true) hi (.bl true) S hS (by rw [List.map_id'];exact hn),List.map_append];rfl
theorem R9 {S:List Nat} (hS:∀i∈S,i<26) (hl:S.length<=1000) {i:Nat} (hi:i<26) (hn:i∉S) {j:Nat} {f:FE} {ρ:List D} (hf:f ρ=.ok (sy N i)) (hρ:ρ.getD j .uD=.dct (sn N S)):ZM j f ρ=.ok (.nx (ρ.set j (.dct (sn N (S++[i]))))):=by
 obtain ⟨h1,h2⟩:=aKt H hS hi hn;unfold ZM;rw [hf,Res.aN,hρ];dsimp only;rw [if_pos,h2];rw [aE6,h1,aKs,aY,decide_eq_true (by lia)];rfl
theorem R_ {K l:List Nat} (hK:∀i∈K,i<26) (hl:∀i∈l,i∈K) {P1 P2 P3:D}:dO [.tup [tw N K,P1,P2,P3],tw N l]=.ok .non:=by
 have loop:∀(y:D) (l:List Nat) (x:D),(∀i∈l,i∈K)->∃x',gQ (noT (tg1 2)) (sIf (noE (bTB (b2 (cC .notin) cO (b2 getD fC fM)))) (cL "NoName" ["word"] (noE (aB cO aO))) iQ) (l.map (sy N)) [.tup [tw N K,P1,P2,P3],y,x]=.ok (.nx [.tup [tw N K,P1,P2,P3],y,x']):=by
  intro y l;induction l with
  | nil=>exact fun x _=>⟨x,rfl⟩
  | cons i l ih=>
   intro x hl;have hi:=hl i (List.mem_cons_self ..);obtain ⟨x',q⟩:=ih (sy N i) fun k hk=>hl k (List.mem_cons_of_mem _ hk)
   refine ⟨x',?_⟩;rw [List.map_cons];exact bN (ρ1:=[.tup [tw N K,P1,P2,P3],y,sy N i]) rfl (sS (bR (dC (aF rfl (aF rfl rfl (z:=tw N K) rfl) ((aCk H.len H.nd (hK i hi) hK).trans (by rw [decide_eq_true hi];rfl))))) rfl) q
 obtain ⟨x',q⟩:=loop (tw N l) l .uD hl;exact R8 (f:=oX) (ρ':=[.tup [tw N K,P1,P2,P3],tw N l,x']) (lG (xs:=l.map (sy N)) rfl rfl q)
end
end Lk49
end
section
namespace Lk49
open PySem L2 Mi
theorem GQ {f g:FS} {ρ:List D} {c:Str} {as:List D} (h:f ρ=.err c as):aW f g ρ=.err c as:=by
 unfold aW;rw [h];rfl
theorem GR {f:List D->Res D} {a:FA} {ρ ds:List D} {r:Res D} (h:a ρ=.ok ds) (h2:f ds=r):aV f a ρ=r:=by
 unfold aV;rw [h];exact h2
theorem aCu {c f w:Str} {fe:FE} {ρ:List D} (h:fe ρ=.ok (.str w)):cL c [f] (noE (aB fe aO)) ρ=.err c [.exc c [(f,w)]]:=by
 unfold cL;have e:aB fe aO ρ=.ok [.str w]:=aD h rfl;rw [bR e,Res.aN];rfl
theorem aMo {c:FT} {f g:FS} {ρ:List D} {r:Res Fl} (h:c ρ=.ok true) (h2:f ρ=r):sIf (noE c) f g ρ=r:=by
 unfold sIf;rw [bR h];exact h2
theorem PK {c:FT} {f g:FS} {ρ:List D} {r:Res Fl} (h:c ρ=.ok false) (h2:g ρ=r):sIf (noE c) f g ρ=r:=by
 unfold sIf;rw [bR h];exact h2
noncomputable def zb0:FS:=(sIf (noE (aAq (bTr fP))) (cL "BadKind" ["word"] (noE (aB fO aO))) iQ)
noncomputable def zb1:FS:=(bV false 6 (aV (iK 3 mW) (noE (aB fC (aB fO (aB d_ aO))))) true)
noncomputable def zb2:FS:=(aBu (noE (xTB (x2R (cC .ne) (bPu (b2 getD eN fM)) (NZ 4)))) (cL "BadKind" ["word"] (noE (aB fO aO))) iQ)
def zb3:FS:=(noE (aFw 4 (b1 aDr (b2 getD eN dZ))))
def zb:FS:=(aW zb0 (aW zb1 (aW zb2 zb3)))
theorem SJ:wI=(aW (noE (bV true 4 (l_ (aB (bPu cO) aO)) true)) (aW (iD 1 (noT (tg1 5)) zb) (sIf (noE (bTr fP)) (cL "BadKind" ["word"] (noE (aB (bC (.str "")) aO))) iQ))):=rfl
noncomputable def kdD (N:List Str) (K:List Rw):List (D×D):=K.map fun r=>(sy N r.1,sy N r.2.1)
structure Kns (F K:List Rw):Prop where
 hF:Hds F
 nd:(K.map (·.1)).Nodup
 lt:∀r∈K,r.1<26/\r.2.1<26/\r.2.2=[]/\r.1∉F.map (·.1)
 ln:K.length<=10
theorem aH6 {α:Type} {N:List Str} (nm:α->Nat) (g:α->D) (L:List α) (w:Str):xJ (L.map fun a=>(sy N (nm a),g a)) (.str w)=true:=by
 show (true&&(L.map fun a=>(sy N (nm a),g a)).all fun p=>isTup p.1==false)=true;rw [Bool.true_and,List.all_eq_true];intro y hy;obtain ⟨k,_,rfl⟩:=List.mem_map.mp hy;rfl
theorem PL {N:List Str} (L:List Rw) (g:Rw->D) (w:Str):inX (.str w) (.dct (L.map fun r=>(sy N r.1,g r)))=.ok (.bl (cG (L.map fun r=>(sy N r.1,g r)) (.str w)).isSome):=by
 show (if xJ (L.map fun r=>(sy N r.1,g r)) (.str w) then Res.ok (D.bl (cG (L.map fun r=>(sy N r.1,g r)) (.str w)).isSome) else .bad)=_;rw [aH6];rfl
section
variable {N:List Str} (hN:N.length=26) (hd:N.Nodup)
include hN hd
theorem aAf {α:Type} (nm:α->Nat) (g:α->D) {i:Nat} (hi:i<26):∀(L:List α),(∀a∈L,nm a<26)->i∉L.map nm->cG (L.map fun a=>(sy N (nm a),g a)) (sy N i)=none
 | [],_,_=>rfl
 | a::L,h1,h2=>by
  rw [List.map_cons,List.mem_cons,not_or] at h2;rw [List.map_cons,cG,GJ hN hd (h1 a (List.mem_cons_self ..)) hi,decide_eq_false (fun g=>h2.1 g.symm),if_neg (by simp)];exact aAf nm g hi L (fun b hb=>h1 b (List.mem_cons_of_mem _ hb)) h2.2
theorem aCv {F K:List Rw} (W:Kns F K) {r:Rw} (hr:r∈K++F):mW [.dct (hdD N F),sy N r.1,.dct (kdD N K)]=.ok (hdV N r):=by
 have hF:=W.hF;refine call_v ?_;rcases List.mem_append.mp hr with hk|hrF
 ·obtain ⟨o1,o3,hp,o2⟩:=W.lt r hk;have hno:cG (hdD N F) (sy N r.1)=none:=by
   unfold hdD;exact aAf hN hd (fun r:Rw=>r.1) (hdV N) o1 F (fun a ha=>(hF.lt a ha).1) o2
  have hyes:cG (kdD N K) (sy N r.1)=some (sy N r.2.1):=by
   unfold kdD;exact GK hN hd (fun r:Rw=>r.1) (fun r=>sy N r.2.1) K W.nd (fun a ha=>(W.lt a ha).1) r hk
  have hv:hdV N r=.tup [sy N r.2.1,.tup []]:=by
   unfold hdV;rw [hp];rfl
  rw [hv];refine aK (bR (sS (dC (aF rfl rfl ((PL F (hdV N) _).trans ?_))) rfl)) (o5 (bR (LK (dC (aF rfl rfl ((PL K (fun r=>sy N r.2.1) _).trans ?_))) (j_ (cT (aD (x:=sy N r.2.1) (aF rfl rfl ?_) (aD (cT (xs:=[]) rfl (by rw [aY];simp)) rfl)) (by rw [aY];simp)) rfl))))
  ·unfold hdD at hno;show Res.ok (D.bl (cG _ (sy N r.1)).isSome)=_;rw [hno];rfl
  ·unfold kdD at hyes;show Res.ok (D.bl (cG _ (sy N r.1)).isSome)=_;rw [hyes];rfl
  ·show (if true then Res.ofOpt (cG (kdD N K) (sy N r.1)) else .bad)=_;rw [if_pos rfl,hyes];rfl
 ·have hlk:cG (hdD N F) (sy N r.1)=some (hdV N r):=by
   unfold hdD;exact GK hN hd (fun r:Rw=>r.1) (hdV N) F hF.nd (fun a ha=>(hF.lt a ha).1) r hrF
  refine o5 (bR (LK (dC (aF rfl rfl ((PL F (hdV N) _).trans ?_))) (j_ (aF rfl rfl (K5 hN hd hF hrF)) (GP ..))));unfold hdD at hlk;show Res.ok (D.bl (cG _ (sy N r.1)).isSome)=_;rw [hlk];rfl
noncomputable abbrev zs (N:List Str) (F K:List Rw) (pa wd:D) (st:List Nat) (x y:D):List D:=[.dct (hdD N F),pa,wd,.dct (kdD N K),.lst (st.reverse.map (sy N)),x,y]
omit hN hd in
theorem aKu {F K:List Rw} {pa wd y:D} {w:Str}:zb (zs N F K pa wd [] (.str w) y)=.err "BadKind" [.exc "BadKind" [("word",w)]]:=
 GQ (aMo (z6 (b:=false) rfl) (aCu rfl))
omit hN hd in
theorem z0 {F K:List Rw} {pa wd x y:D} {k:Nat} {rest:List Nat}:zb0 (zs N F K pa wd (k::rest) x y)=.ok (.nx (zs N F K pa wd (k::rest) x y)):=by
 have ht:bTr fP (zs N F K pa wd (k::rest) x y)=.ok true:=by
  show aMz (.lst ((k::rest).reverse.map (sy N)))=_;rw [List.reverse_cons,List.map_append];cases rest.reverse.map (sy N) <;> rfl
 exact PK (z6 (b:=true) ht) rfl
omit hN hd in
theorem aO9 {F K:List Rw} {pa wd x y:D} {k:Nat} {rest:List Nat}:NZ 4 (zs N F K pa wd (k::rest) x y)=.ok (sy N k,zs N F K pa wd rest x y):=by
 unfold NZ;rw [show (zs N F K pa wd (k::rest) x y).getD 4 .uD=.lst (rest.reverse.map (sy N)++[sy N k]) from by
  show D.lst ((k::rest).reverse.map (sy N))=_;rw [List.reverse_cons,List.map_append];rfl]
 dsimp only;rw [List.length_append,List.length_singleton,Nat.add_sub_cancel,List.getElem?_append_right (Nat.le_refl _),Nat.sub_self,List.dropLast_concat];rfl
theorem aAg {F K:List Rw} (W:Kns F K) {r:Rw} (hr:r∈K++F):r.1<26/\r.2.1<26/\(∀i∈r.2.2,i<26)/\r.2.2.length<=10:=by
 rcases List.mem_append.mp hr with g|g
 ·obtain ⟨h1,h2,h3,_⟩:=W.lt r g;rw [h3];exact ⟨h1,h2,fun i hi=>by simp at hi,by simp⟩
 ·exact W.hF.lt r g
theorem z1 {F K:List Rw} (W:Kns F K) {pa wd y:D} {st:List Nat} {r:Rw} (hr:r∈K++F):zb1 (zs N F K pa wd st (sy N r.1) y)=.ok (.nx (zs N F K pa wd st (sy N r.1) (hdV N r))):=
 dB (i:=6) (bF (bR (aD rfl (aD rfl (aD rfl rfl)))) ((dJ rfl).trans (aCv hN hd W hr)))
theorem z2 {F K:List Rw} (W:Kns F K) {pa wd:D} {k:Nat} (hk:k<26) {rest:List Nat} {r:Rw} (hr:r∈K++F):(noE (xTB (x2R (cC .ne) (bPu (b2 getD eN fM)) (NZ 4)))) (zs N F K pa wd (k::rest) (sy N r.1) (hdV N r))=.ok (!decide (r.2.1=k),zs N F K pa wd rest (sy N r.1) (hdV N r)):=
 bR (aDw (Z9 (x:=sy N r.2.1) (F_ (aF rfl rfl rfl) rfl) aO9 (aAa hN hd (aAg hN hd W hr).2.1 hk) rfl))
theorem aMp {F K:List Rw} (W:Kns F K) {pa wd y:D} {rest:List Nat} (hl:rest.length<=5000) {r:Rw} (hr:r∈K++F):zb (zs N F K pa wd (r.2.1::rest) (sy N r.1) y)=.ok (.nx (zs N F K pa wd (r.2.2++rest) (sy N r.1) (hdV N r))):=by
 obtain ⟨l0,l1,l2,l3⟩:=aAg hN hd W hr;refine aK z0 (aK (z1 hN hd W hr) (aK (ρ':=zs N F K pa wd rest (sy N r.1) (hdV N r)) ?_ (bR ?_)))
 ·refine aK9 (z2 hN hd W l1 hr) ?_;rw [decide_eq_true rfl];rfl
 ·have hx:=aE1 (i:=4) (ρ:=zs N F K pa wd rest (sy N r.1) (hdV N r)) (f:=b1 aDr (b2 getD eN dZ)) (xs:=rest.reverse.map (sy N)) (ys:=r.2.2.reverse.map (sy N)) (K3 (aF rfl rfl (z:=.tup (r.2.2.map (sy N))) rfl) (by
   show (if D.aX (r.2.2.map (sy N))&&decide ((r.2.2.map (sy N)).length<=lim) then Res.ok (D.lst (r.2.2.map (sy N)).reverse) else .bad)=_;rw [dR,List.length_map,aY,decide_eq_true (by lia),<-List.map_reverse];rfl)) rfl (by rw [List.length_map,List.length_reverse,List.length_map,List.length_reverse];lia) (dR ..)
  refine hx.trans ?_;have e7:((r.2.2++rest).reverse.map (sy N))=rest.reverse.map (sy N)++r.2.2.reverse.map (sy N):=by rw [List.reverse_append,List.map_append]
  unfold zs;rw [e7];rfl
theorem SM {F K:List Rw} (Q:Kns F K) {pa wd:D} {st W:List Nat} (R:Run (K++F) st W):W.length*10+st.length<=5000->∀(x y:D) (X:List D),∃x' y',gQ (noT (tg1 5)) zb (W.map (sy N)++X) (zs N F K pa wd st x y)=gQ (noT (tg1 5)) zb X (zs N F K pa wd [] x' y'):=by
 induction R with
 | nil=>exact fun _ x y X=>⟨x,y,rfl⟩
 | @step r rest W hr R ih=>
  intro hl x y X;have l3:=(aAg hN hd Q hr).2.2.2;rw [List.length_cons,List.length_cons] at hl;obtain ⟨x',y',q⟩:=ih (by rw [List.length_append];lia) (sy N r.1) (hdV N r) X;refine ⟨x',y',?_⟩;rw [List.map_cons,List.cons_append];exact bN (ρ1:=zs N F K pa wd (r.2.1::rest) (sy N r.1) y) (bR rfl) (aMp hN hd Q (by lia) hr) q
theorem aCw {F K:List Rw} {k:Nat} {ws:List D} {c:Str} {as:List D} (h:gQ (noT (tg1 5)) zb ws (zs N F K (.tup ws) (sy N k) [k] .uD .uD)=.err c as):cV [.dct (hdD N F),.tup ws,sy N k,.dct (kdD N K)]=.err c as:=by
 refine K6 ?_;rw [SJ];refine aK (ρ':=zs N F K (.tup ws) (sy N k) [k] .uD .uD) (bR (e_ (i:=4) rfl rfl)) (GQ ?_);unfold iD;exact h
theorem aH7 {F K:List Rw} (Q:Kns F K) {k:Nat} {W:List Nat} (R:Run (K++F) [k] W) (hl:W.length<=400):cV [.dct (hdD N F),tw N W,sy N k,.dct (kdD N K)]=.ok .non:=by
 obtain ⟨x,y,q⟩:=SM hN hd Q (pa:=tw N W) (wd:=sy N k) R (by simp;lia) .uD .uD [];rw [List.append_nil] at q;refine R8 (ρ':=zs N F K (tw N W) (sy N k) [] x y) ?_;rw [SJ];refine aK (ρ':=zs N F K (tw N W) (sy N k) [k] .uD .uD) (bR (e_ (i:=4) rfl rfl)) (aK (ρ':=zs N F K (tw N W) (sy N k) [] x y) ?_ (PK rfl rfl));unfold iD;exact q
theorem aCx {F K:List Rw} (Q:Kns F K) {k i:Nat} {W:List Nat} (R:Run (K++F) [k] W) (hl:W.length<=400):cV [.dct (hdD N F),tw N (W++[i]),sy N k,.dct (kdD N K)]=.err "BadKind" [.exc "BadKind" [("word",N.getD i "")]]:=by
 obtain ⟨x,y,q⟩:=SM hN hd Q (pa:=tw N (W++[i])) (wd:=sy N k) R (by simp;lia) .uD .uD [sy N i];refine aCw hN hd ?_;have e:(W++[i]).map (sy N)=W.map (sy N)++[sy N i]:=by rw [List.map_append];rfl
 show gQ (noT (tg1 5)) zb ((W++[i]).map (sy N)) (zs N F K (tw N (W++[i])) (sy N k) [k] .uD .uD)=_;rw [e];refine q.trans (wX (ρ1:=zs N F K (tw N (W++[i])) (sy N k) [] (sy N i) y) (bR rfl) ?_);exact aKu
end
end Lk49
end
section
namespace Lk49
open PySem L2 Mi
theorem aH8 (o b:Nat) (ow be:List Nat):kn (o::ow) (b::be)=(o,b,[])::kn ow be:=by
 unfold kn;rw [List.length_cons,List.range_succ_eq_map,List.map_cons,List.map_map];rfl
theorem SN (N:List Str):∀l:List Nat,(l.map (sy N)).all mJ=true
 | []=>rfl
 | i::l=>by
  rw [List.map_cons,List.all_cons,SN N l];rfl
theorem GX {f:FE} {ρ:List D} {d:D} (h:f ρ=.ok d):jD f ρ=.ok (.nx ρ):=by
 unfold jD;rw [h];rfl
noncomputable def ad (N:List Str) (L:List (Nat×Nat)):List (D×D):=L.map fun p=>(pD N p,.bl true)
theorem SQ {ow be:List Nat} (h:ow.length=be.length):(kn ow be).map (·.1)=ow:=by
 unfold kn;rw [List.map_map];apply List.ext_getElem
 ·simp [h]
 ·intro i h1 h2;simp [List.getD_eq_getElem?_getD,h2]
section
variable {N:List Str} (H:Nms N)
include H
theorem aE7 {i:Nat} {l:List Nat} (hi:i<26) (hl:∀j∈l,j<26):cC .notin (sy N i) (.lst (l.map (sy N)))=.ok (.bl (!decide (i∈l))):=by
 show (if (sy N i).bU bH&&D.cA bH (l.map (sy N)) then Res.ok (D.bl (!(l.map (sy N)).any fun y=>eqD y (sy N i))) else .bad)=_;rw [wA,o6,aA7 H.len H.nd hi l hl];rfl
theorem aE8:∀(ow be:List Nat) (acc:List Rw),ow.length=be.length->(acc.map (·.1)++ow).Nodup->(∀i∈acc.map (·.1)++ow,i<26)->oV (ow.map (sy N)) (be.map (sy N)) (acc.map fun r=>(sy N r.1,sy N r.2.1))=(acc++kn ow be).map fun r=>(sy N r.1,sy N r.2.1)
 | [],[],acc,_,_,_=>by
  show acc.map _=(acc++kn [] []).map _;rw [show kn [] []=[] from rfl,List.append_nil]
 | [],b::be,acc,h,_,_=>by simp at h
 | o::ow,[],acc,h,_,_=>by simp at h
 | o::ow,b::be,acc,h,h2,h3=>by
  rw [List.map_cons,List.map_cons,oV,aH8];have hno:o∉acc.map (·.1):=fun hm=>by
   rw [List.nodup_append] at h2;exact h2.2.2 _ hm _ (List.mem_cons_self ..) rfl
  rw [yQ H.len H.nd (fun r:Rw=>r.1) (fun r=>sy N r.2.1) (h3 o (by simp)) _ acc (fun a ha=>h3 _ (List.mem_append_left _ (List.mem_map_of_mem (f:=(·.1)) ha))) hno];have e:(acc.map fun r:Rw=>(sy N r.1,sy N r.2.1))++[(sy N o,sy N b)]=(acc++[((o,b,[]):Rw)]).map fun r=>(sy N r.1,sy N r.2.1):=by rw [List.map_append];rfl
  rw [e,aE8 ow be (acc++[(o,b,[])]) (by simpa using h) (by rw [List.map_append,List.append_assoc];exact h2) (by rw [List.map_append,List.append_assoc];exact h3),List.append_assoc];rfl
theorem aCy {F:List Rw} (hF:Hds F) {t:Tk} (ht:tr t∈F) {r:Rw} (hr:r∈F) {ow S:List Nat} (hl:ow.length=(r.2.2++t.2.2.2).length) (hn:ow.Nodup) (ho:∀i∈ow,i<26/\i∉S) (hS:∀i∈S,i<26) (hSl:S.length<=500) :
  eF [.dct (hdD N F),sy N t.1,sy N r.1,tw N ow,.dct (sn N S)]=.ok (.dct (kdD N (kn ow (r.2.2++t.2.2.2)))):=by
 obtain ⟨a1,a2,a3,a4⟩:=hF.lt _ ht;obtain ⟨b1',b2',b3,b4⟩:=hF.lt _ hr;have a5:t.2.2.2.length+1<=10:=a4;have hol:ow.length<=20:=by rw [hl,List.length_append];lia
 have sees:∀(L D0:List Nat) (x:D),(D0++L).Nodup->(∀i∈D0++L,i<26/\i∉S)->D0.length+L.length<=100->∃x',gQ (tg1 7) (ZM 6 dY) (L.map (sy N)) [.dct (hdD N F),sy N t.1,sy N r.1,tw N ow,.dct (sn N S),tw N (r.2.2++t.2.2.2),.dct (sn N (S++D0)),x]=.ok (.nx [.dct (hdD N F),sy N t.1,sy N r.1,tw N ow,.dct (sn N S),tw N (r.2.2++t.2.2.2),.dct (sn N (S++(D0++L))),x']):=by
  intro L;induction L with
  | nil=>exact fun D0 x _ _ _=>⟨x,by rw [List.append_nil];rfl⟩
  | cons i L ih=>
   intro D0 x h1 h2 h3;rw [List.length_cons] at h3;obtain ⟨x',q⟩:=ih (D0++[i]) (sy N i) (by rw [List.append_assoc];exact h1) (by rw [List.append_assoc];exact h2) (by rw [List.length_append,List.length_singleton];lia);refine ⟨x',?_⟩;rw [List.append_assoc,<-List.append_assoc S] at q;have hi:=h2 i (by simp);have hiD:i∉D0:=fun hm=>by
    rw [List.nodup_append] at h1;exact h1.2.2 _ hm _ (List.mem_cons_self ..) rfl
   rw [List.map_cons];refine bN (ρ1:=[.dct (hdD N F),sy N t.1,sy N r.1,tw N ow,.dct (sn N S),tw N (r.2.2++t.2.2.2),.dct (sn N (S++D0)),sy N i]) rfl (R9 H (S:=S++D0) (fun k hk=>?_) (by rw [List.length_append];lia) hi.1 (fun hm=>?_) (j:=6) rfl rfl) q
   ·rcases List.mem_append.mp hk with g|g
    ·exact hS k g
    ·exact (h2 k (List.mem_append_left _ g)).1
   ·rcases List.mem_append.mp hm with g|g
    ·exact hi.2 g
    ·exact hiD g
 obtain ⟨x',q⟩:=sees ow [] .uD (by simpa using hn) (by simpa using ho) (by simp;lia);rw [List.append_nil,List.nil_append] at q;refine call_v ?_;refine aK (ρ':=[.dct (hdD N F),sy N t.1,sy N r.1,tw N ow,.dct (sn N S),tw N (r.2.2++t.2.2.2),.uD,.uD]) (bR (lF (i:=5) (d:=tw N (r.2.2++t.2.2.2)) (aF (aF (aF rfl rfl (K5 H.len H.nd hF hr)) rfl (z:=.tup (r.2.2.map (sy N))) rfl) (aCt (xs:=(tr t).2.2.map (sy N)) (aF (aF (x:=.dct (hdD N F)) (y:=sy N (tr t).1) rfl rfl (K5 H.len H.nd hF ht)) rfl rfl) (dR ..) (by rw [List.length_map];show 1<=(t.2.2.1::t.2.2.2).length;rw [List.length_cons];lia)) ?_) (wC ..))) ?_
 ·show (if decide ((r.2.2.map (sy N)).length+(t.2.2.2.map (sy N)).length<=lim) then Res.ok (D.tup (r.2.2.map (sy N)++t.2.2.2.map (sy N))) else .bad)=_;rw [List.length_map,List.length_map,aY,decide_eq_true (by lia),<-List.map_append];rfl
 refine aK (PK (dC (aF (x:=.int ow.length) (y:=.int (r.2.2++t.2.2.2).length) (bF (aD rfl rfl) ?_) (bF (aD rfl rfl) ?_) ((O_ _ _).trans (by rw [hl];simp)))) rfl) ?_
 ·show Res.ok (D.int ((ow.map (sy N)).length:Int))=_;rw [List.length_map]
 ·show Res.ok (D.int (((r.2.2++t.2.2.2).map (sy N)).length:Int))=_;rw [List.length_map]
 refine aK (ρ':=[.dct (hdD N F),sy N t.1,sy N r.1,tw N ow,.dct (sn N S),tw N (r.2.2++t.2.2.2),.dct (sn N S),.uD]) (bR (e_ (i:=6) (bF (aD rfl rfl) ?_) (aH5 N S))) ?_
 ·show (if (sn N S).all (fun p=>!isTup p.1)&&D.aX ((sn N S).map (·.2)) then Res.ok (D.dct (sn N S)) else .bad)=_;have hp:D.aX ((sn N S).map (·.2))=true:=aH5 N S;have ha:(sn N S).all (fun p=>!isTup p.1)=true:=by
   have:=aE6 N S 0;unfold xJ at this;rw [Bool.and_eq_true,List.all_eq_true] at this;rw [List.all_eq_true];intro y hy;have:=this.2 y hy;have e:(isTup y.1==false)=true:=this;cases hy2:isTup y.1
   ·rfl
   ·rw [hy2] at e;cases e
  rw [hp,ha];rfl
 refine aK (bR (lG (xs:=ow.map (sy N)) rfl rfl q)) ?_;refine bR (j_ (bF (aD rfl (aD rfl rfl)) ?_) rfl);show (if decide ((ow.map (sy N)).length<=1000)&&decide (((r.2.2++t.2.2.2).map (sy N)).length=(ow.map (sy N)).length)&&(ow.map (sy N)).all mJ&&D.aX ((r.2.2++t.2.2.2).map (sy N)) then Res.ok (D.dct (oV (ow.map (sy N)) ((r.2.2++t.2.2.2).map (sy N)) [])) else .bad)=_;have hz:=aE8 H ow (r.2.2++t.2.2.2) [] hl (by simpa using hn) (fun i hi=>(ho i (by simpa using hi)).1);rw [List.map_nil,List.nil_append] at hz;rw [hz,SN,dR,List.length_map,List.length_map,decide_eq_true (by lia),decide_eq_true hl.symm];rfl
theorem aE9 {q:Nat×Nat} (hq:q.1<26/\q.2<26):∀(L:List (Nat×Nat)),(∀p∈L,p.1<26/\p.2<26)->q∉L->cG (ad N L) (pD N q)=none/\putD (ad N L) (pD N q) (.bl true)=ad N (L++[q])
 | [],_,_=>⟨rfl,rfl⟩
 | p::L,h1,h2=>by
  rw [List.mem_cons,not_or] at h2;obtain ⟨i1,i2⟩:=aE9 hq L (fun x hx=>h1 x (List.mem_cons_of_mem _ hx)) h2.2;unfold ad at i1 i2 ⊢;rw [List.cons_append,List.map_cons,List.map_cons,cG,putD,aKp H.len H.nd (h1 p (List.mem_cons_self ..)) hq,decide_eq_false (fun g=>h2.1 g.symm),if_neg (by simp),if_neg (by simp),i2];exact ⟨i1,rfl⟩
omit H in
theorem aEa (L:List (Nat×Nat)) (q:Nat×Nat):xJ (ad N L) (pD N q)=true:=by
 show (true&&(ad N L).all fun p=>isTup p.1==true)=true;rw [Bool.true_and,List.all_eq_true];intro y hy;unfold ad at hy;obtain ⟨k,_,rfl⟩:=List.mem_map.mp hy;rfl
end
end Lk49
end
section
namespace Lk49
open PySem L2 Mi
noncomputable def cb0:FS:=(sIf (noE (bTB (b2 (cC .notin) eN fP))) (cL "NoName" ["word"] (noE (aB eN aO))) iQ)
noncomputable def cb1:FS:=(sIf (noE (bTB (b2 (cC .notin) dY d_))) (cL "NoName" ["word"] (noE (aB dY aO))) iQ)
noncomputable def cb2:FS:=(sIf (noE (bTB (b2 (cC .ne) (b2 getD (b2 getD cO dY) fM) (b2 getD (b2 getD (b2 getD cO eN) dZ) fM)))) (cL "BadKind" ["word"] (noE (aB dY aO))) iQ)
noncomputable def cb3:FS:=(sIf (noE (bTB (b2 inX (eX (aB eN (aB dY aO))) fO))) (cL "Twice" ["word"] (noE (aB eN aO))) iQ)
def cb4:FS:=(noE (aB9 5 (eX (aB eN (aB dY aO))) (bC (.bl true))))
noncomputable def cb5:FS:=(jD (aV (iK 4 cV) (noE (aB cO (aB BL (aB (b2 getD (b2 getD cO eN) fM) (aB (aV (iK 5 eF) (aB cO (aB eN (aB dY (aB lZ (aB fK aO)))))) aO)))))))
def cb:FS:=(aW cb0 (aW cb1 (aW cb2 (aW cb3 (aW cb4 cb5)))))
noncomputable abbrev cst (N:List Str) (S:List Nat) (M:List Rw) (T:List Tk) (P:D) (L0:List (Nat×Nat)) (a b c d:D):List D:=[P,.dct (sn N S),.dct (hdD N (M++T.map tr)),.lst ((M.map (·.1)).map (sy N)),.lst ((T.map (·.1)).map (sy N)),.dct (ad N L0),a,b,c,d]
theorem aKv {F:List Rw} (hF:Hds F) {ow be:List Nat} (hl:ow.length=be.length) (hn:ow.Nodup) (ho:∀i∈ow,i<26/\i∉F.map (·.1)) (hb:∀i∈be,i<26) (hl2:be.length<=10):Kns F (kn ow be):=by
 refine ⟨hF,by rw [SQ hl];exact hn,fun r hr=>?_,by unfold kn;rw [List.length_map,List.length_range];lia⟩;have hro:r.1∈ow:=by rw [<-SQ hl];exact List.mem_map_of_mem (f:=(·.1)) hr
 obtain ⟨o1,o2⟩:=ho _ hro;unfold kn at hr;obtain ⟨j,hj,rfl⟩:=List.mem_map.mp hr;have hj:=List.mem_range.mp hj;refine ⟨o1,?_,rfl,o2⟩;show be.getD j 0<26;rw [List.getD_eq_getElem?_getD,List.getElem?_eq_getElem hj];exact hb _ (List.getElem_mem hj)
structure Chk (S:List Nat) (M:List Rw) (T:List Tk):Prop where
 hF:Hds (M++T.map tr)
 l3:∀r∈M,r.2.2.length<=3
 l2:∀t∈T,t.2.2.2.length<=2
 hS:∀i∈S,i<26/\¬(13<=i/\i<18)
 sl:S.length<=500
 fn:∀r∈M++T.map tr,¬(13<=r.1/\r.1<18)
section
variable {N:List Str} (H:Nms N)
include H
theorem aEb {S:List Nat} {M:List Rw} {T:List Tk} (C:Chk S M T) {P:D} {L0:List (Nat×Nat)} (h2:∀p∈L0,p.1<26/\p.2<26) (h3:L0.length<=500) {u:Ru} (hu:Good M T (M++T.map tr) u) (hnew:pq u∉L0) {e:List Nat} {res:Res D} (hres:∀(K:List Rw) (k:Nat),Kns (M++T.map tr) K->Run (K++(M++T.map tr)) [k] u.2.2.2->cV [.dct (hdD N (M++T.map tr)),tw N (u.2.2.2++e),sy N k,.dct (kdD N K)]=res) :
  cb (cst N S M T P L0 (sy N u.1) (sy N u.2.1) (tw N u.2.2.1) (tw N (u.2.2.2++e)))=(do let _ <- res;.ok (.nx (cst N S M T P (L0++[pq u]) (sy N u.1) (sy N u.2.1) (tw N u.2.2.1) (tw N (u.2.2.2++e))))):=by
 have hF:=C.hF;have hM:∀i∈M.map (·.1),i<26:=fun i hi=>by obtain ⟨r,hr,rfl⟩:=List.mem_map.mp hi;exact (hF.lt r (List.mem_append_left _ hr)).1
 have hT:∀i∈T.map (·.1),i<26:=fun i hi=>by obtain ⟨t,ht,rfl⟩:=List.mem_map.mp hi;exact (hF.lt (tr t) (List.mem_append_right _ (List.mem_map_of_mem ht))).1
 obtain ⟨t,ht,r,hr,hk,Q⟩:=hu;have hrF:r∈M++T.map tr:=List.mem_append_left _ hr;have htF:tr t∈M++T.map tr:=List.mem_append_right _ (List.mem_map_of_mem ht);obtain ⟨f1,f2,f3,f4⟩:=hF.lt r hrF;obtain ⟨g1,g2,g3,g4⟩:=hF.lt _ htF;have hu1:u.1<26:=by rw [Q.n1];exact g1
 have hu2:u.2.1<26:=by rw [Q.n2];exact f1
 obtain ⟨k1,k2⟩:=aE9 H (q:=pq u) ⟨hu1,hu2⟩ L0 h2 hnew;have ht1:u.1∈T.map (·.1):=by rw [Q.n1];exact List.mem_map_of_mem (f:=(·.1)) ht
 have hr1:u.2.1∈M.map (·.1):=by rw [Q.n2];exact List.mem_map_of_mem (f:=(·.1)) hr
 have gT:getD (.dct (hdD N (M++T.map tr))) (sy N u.1)=.ok (hdV N (tr t)):=by rw [Q.n1];exact K5 H.len H.nd hF htF
 have gM:getD (.dct (hdD N (M++T.map tr))) (sy N u.2.1)=.ok (hdV N r):=by rw [Q.n2];exact K5 H.len H.nd hF hrF
 have oS:∀i∈u.2.2.1,i<26/\i∉S:=fun i hi=>by
  have h:=Q.oi i hi;exact ⟨by lia,fun hm=>(C.hS i hm).2 h⟩
 have oF:∀i∈u.2.2.1,i<26/\i∉(M++T.map tr).map (·.1):=fun i hi=>by
  have h:=Q.oi i hi;refine ⟨by lia,fun hm=>?_⟩;obtain ⟨x,hx,e⟩:=List.mem_map.mp hm;exact C.fn x hx (by rw [e];exact h)
 have a3:=C.l3 r hr;have a2:=C.l2 t ht;have kne:=aCy H hF htF hrF (ow:=u.2.2.1) (S:=S) Q.ol Q.on oS (fun i hi=>(C.hS i hi).1) C.sl;rw [<-Q.n1,<-Q.n2] at kne;have Kn:Kns (M++T.map tr) (kn u.2.2.1 (r.2.2++t.2.2.2)):=aKv hF Q.ol Q.on oF (fun i hi=>by
  rcases List.mem_append.mp hi with g|g
  ·exact f3 i g
  ·exact g3 i (List.mem_cons_of_mem _ g)) (by rw [List.length_append];lia)
 have wke:=hres _ _ Kn Q.rn;have s0:cb0 (cst N S M T P L0 (sy N u.1) (sy N u.2.1) (tw N u.2.2.1) (tw N (u.2.2.2++e)))=.ok (.nx (cst N S M T P L0 (sy N u.1) (sy N u.2.1) (tw N u.2.2.1) (tw N (u.2.2.2++e)))):=PK (dC (aF rfl rfl ((aE7 H hu1 hT).trans (by rw [decide_eq_true ht1];rfl)))) rfl;have s1:cb1 (cst N S M T P L0 (sy N u.1) (sy N u.2.1) (tw N u.2.2.1) (tw N (u.2.2.2++e)))=.ok (.nx (cst N S M T P L0 (sy N u.1) (sy N u.2.1) (tw N u.2.2.1) (tw N (u.2.2.2++e)))):=PK (dC (aF rfl rfl ((aE7 H hu2 hM).trans (by rw [decide_eq_true hr1];rfl)))) rfl;have s2:cb2 (cst N S M T P L0 (sy N u.1) (sy N u.2.1) (tw N u.2.2.1) (tw N (u.2.2.2++e)))=.ok (.nx (cst N S M T P L0 (sy N u.1) (sy N u.2.1) (tw N u.2.2.1) (tw N (u.2.2.2++e)))):=PK (dC (aF (x:=sy N r.2.1) (y:=sy N t.2.2.1) (aF (aF rfl rfl gM) rfl rfl) (aF (x:=.tup ((tr t).2.2.map (sy N))) (aF (aF rfl rfl gT) rfl rfl) rfl (R3 (i:=0) (l:=(tr t).2.2) rfl rfl)) ((aAa H.len H.nd f2 (hk▸f2)).trans (by rw [decide_eq_true hk];rfl)))) rfl;have s3:cb3 (cst N S M T P L0 (sy N u.1) (sy N u.2.1) (tw N u.2.2.1) (tw N (u.2.2.2++e)))=.ok (.nx (cst N S M T P L0 (sy N u.1) (sy N u.2.1) (tw N u.2.2.1) (tw N (u.2.2.2++e)))):=by
  refine PK (dC (aF (x:=pD N (pq u)) (y:=.dct (ad N L0)) (cT (aD rfl (aD rfl rfl)) (by rw [aY];simp)) rfl ?_)) rfl;show (if xJ (ad N L0) (pD N (pq u)) then Res.ok (D.bl (cG (ad N L0) (pD N (pq u))).isSome) else .bad)=_;rw [aEa,k1];rfl
 have s4:cb4 (cst N S M T P L0 (sy N u.1) (sy N u.2.1) (tw N u.2.2.1) (tw N (u.2.2.2++e)))=.ok (.nx (cst N S M T P (L0++[pq u]) (sy N u.1) (sy N u.2.1) (tw N u.2.2.1) (tw N (u.2.2.2++e)))):=by
  unfold cst;rw [<-k2];exact bR (YH (i:=5) (kvs:=ad N L0) (k:=pD N (pq u)) (d:=.bl true) rfl (cT (aD rfl (aD rfl rfl)) (by rw [aY];simp)) rfl (by unfold ad;rw [List.length_map,aY];lia) (aEa ..) rfl)
 have ec:aV (iK 4 cV) (noE (aB cO (aB BL (aB (b2 getD (b2 getD cO eN) fM) (aB (aV (iK 5 eF) (aB cO (aB eN (aB dY (aB lZ (aB fK aO)))))) aO))))) (cst N S M T P (L0++[pq u]) (sy N u.1) (sy N u.2.1) (tw N u.2.2.1) (tw N (u.2.2.2++e)))=res:=
  GR (bR (aD rfl (aD rfl (aD (aF (aF rfl rfl gT) rfl (z:=sy N t.2.1) rfl) (aD (bF (aD rfl (aD rfl (aD rfl (aD rfl (aD rfl rfl))))) ((dJ rfl).trans kne)) rfl))))) ((dJ rfl).trans wke)
 refine aK s0 (aK s1 (aK s2 (aK s3 (aK s4 ?_))));unfold cb5 jD;rw [ec]
end
end Lk49
end
section
namespace Lk49
open PySem L2 Mi
def spl (u:Ru) (i:Nat):Ru:=(u.1,u.2.1,u.2.2.1,u.2.2.2++[i])
def bk (N:List Str) (i:Nat):List D:=[.exc "BadKind" [("word",N.getD i "")]]
theorem aAh:lK=(aW (noE (bV false 2 (aV (iK 1 i_) (aB fC aO)) true)) (aW (noE (bV false 3 (cN 10 (bL (b2 getD fC dZ) false) nC eE (b2 getD fQ fM) false) true)) (aW (noE (bV false 4 (cN 10 (bL (b2 getD fC oK) false) nC eE (b2 getD fQ fM) false) true)) (aW (noE (bV true 5 (bC (.dct [])) true)) (yU (noE (bL (b2 getD fC j0) false)) (noT (tgN [6,7,8,9])) cb))))):=rfl
section
variable {N:List Str} (H:Nms N)
include H
theorem aAi {S:List Nat} {M:List Rw} {T:List Tk} (C:Chk S M T) {P:D} {X:List D}:∀(L:List Ru) (L0:List (Nat×Nat)),(∀u∈L,Good M T (M++T.map tr) u)->(L0++L.map pq).Nodup->(∀p∈L0,p.1<26/\p.2<26)->L0.length+L.length<=500->∀(a b c d:D),∃(a' b' c' d':D),(∀p∈L0++L.map pq,p.1<26/\p.2<26)/\gQ (noT (tgN [6,7,8,9])) cb (L.map (ruD N)++X) (cst N S M T P L0 a b c d)=gQ (noT (tgN [6,7,8,9])) cb X (cst N S M T P (L0++L.map pq) a' b' c' d')
 | [],L0,_,_,h2,_,a,b,c,d=>⟨a,b,c,d,by rw [List.map_nil,List.append_nil];exact h2,by rw [List.map_nil,List.map_nil,List.append_nil];rfl⟩
 | u::L,L0,hL,h1,h2,h3,a,b,c,d=>by
  rw [List.length_cons] at h3;have hu:=hL u (List.mem_cons_self ..);have hb:(pq u).1<26/\(pq u).2<26:=by
   obtain ⟨t,ht,r,hr,hk,Q⟩:=hu;have e1:(pq u).1=t.1:=Q.n1;have e2:(pq u).2=r.1:=Q.n2;rw [e1,e2];exact ⟨(C.hF.lt (tr t) (List.mem_append_right _ (List.mem_map_of_mem ht))).1,(C.hF.lt r (List.mem_append_left _ hr)).1⟩
  have hnew:pq u∉L0:=fun hm=>by
   rw [List.map_cons,List.nodup_append] at h1;exact h1.2.2 _ hm _ (List.mem_cons_self ..) rfl
  have wl:u.2.2.2.length<=400:=by
   obtain ⟨t,ht,r,hr,hk,Q⟩:=hu;have:=Q.wl;lia
  obtain ⟨a',b',c',d',q0,q⟩:=aAi C (P:=P) (X:=X) L (L0++[pq u]) (fun x hx=>hL x (List.mem_cons_of_mem _ hx)) (by rw [List.append_assoc];exact h1) (fun p hp=>by
   rcases List.mem_append.mp hp with g|g
   ·exact h2 p g
   ·rw [List.mem_singleton] at g;subst g;exact hb) (by rw [List.length_append,List.length_singleton];lia) (sy N u.1) (sy N u.2.1) (tw N u.2.2.1) (tw N u.2.2.2)
  rw [List.append_assoc] at q q0;refine ⟨a',b',c',d',q0,?_⟩;rw [List.map_cons,List.cons_append];have st:=aEb H C (P:=P) h2 (by lia) hu hnew (e:=[]) (res:=.ok .non) (fun K k Kn R=>by rw [List.append_nil];exact aH7 H.len H.nd Kn R wl);rw [List.append_nil] at st;exact bN (ρ1:=cst N S M T P L0 (sy N u.1) (sy N u.2.1) (tw N u.2.2.1) (tw N u.2.2.2)) rfl st q
theorem aKw {K:List Nat} {M:List Rw} {T:List Tk} {R:List Ru} {S:List Nat} (C:Chk S M T) {res:Res Fl} (h:gQ (noT (tgN [6,7,8,9])) cb (R.map (ruD N)) (cst N S M T (prD N K M T R) [] .uD .uD .uD .uD)=res):lK [prD N K M T R,.dct (sn N S),.uD,.uD,.uD,.uD,.uD,.uD,.uD,.uD]=res:=by
 have hF:=C.hF;have hln:=hF.ln;rw [List.length_append,List.length_map] at hln;rw [aAh];have s0:noE (bV false 2 (aV (iK 1 i_) (aB fC aO)) true) [prD N K M T R,.dct (sn N S),.uD,.uD,.uD,.uD,.uD,.uD,.uD,.uD]=.ok (.nx [prD N K M T R,.dct (sn N S),.dct (hdD N (M++T.map tr)),.uD,.uD,.uD,.uD,.uD,.uD,.uD]):=bR (dB (i:=2) (bF (aD rfl rfl) ((dJ rfl).trans (aCp H.len H.nd hF))));have s1:noE (bV false 3 (cN 10 (bL (b2 getD fC dZ) false) nC eE (b2 getD fQ fM) false) true) [prD N K M T R,.dct (sn N S),.dct (hdD N (M++T.map tr)),.uD,.uD,.uD,.uD,.uD,.uD,.uD]=.ok (.nx [prD N K M T R,.dct (sn N S),.dct (hdD N (M++T.map tr)),.lst ((M.map (·.1)).map (sy N)),.uD,.uD,.uD,.uD,.uD,.uD]):=by
  refine bR (dB (i:=3) ?_);rw [List.map_map];exact eY (n:=10) (k:=false) (rwD N) (fun r=>sy N r.1) M rfl (dD (aF rfl rfl rfl)) (by lia) fun r hr=>⟨(iI (i:=10) (r:=r) rfl).1,rfl⟩
 have s2:noE (bV false 4 (cN 10 (bL (b2 getD fC oK) false) nC eE (b2 getD fQ fM) false) true) [prD N K M T R,.dct (sn N S),.dct (hdD N (M++T.map tr)),.lst ((M.map (·.1)).map (sy N)),.uD,.uD,.uD,.uD,.uD,.uD]=.ok (.nx [prD N K M T R,.dct (sn N S),.dct (hdD N (M++T.map tr)),.lst ((M.map (·.1)).map (sy N)),.lst ((T.map (·.1)).map (sy N)),.uD,.uD,.uD,.uD,.uD]):=by
  refine bR (dB (i:=4) ?_);have e:(T.map (·.1)).map (sy N)=T.map (fun r=>sy N r.1):=by rw [List.map_map];rfl
  rw [e];exact eY (n:=10) (k:=false) (tkD N) (fun r=>sy N r.1) T rfl (dD (aF rfl rfl rfl)) (by lia) fun r hr=>⟨(kO (i:=10) (t:=r) rfl).1,rfl⟩
 have s3:noE (bV true 5 (bC (.dct [])) true) [prD N K M T R,.dct (sn N S),.dct (hdD N (M++T.map tr)),.lst ((M.map (·.1)).map (sy N)),.lst ((T.map (·.1)).map (sy N)),.uD,.uD,.uD,.uD,.uD]=.ok (.nx (cst N S M T (prD N K M T R) [] .uD .uD .uD .uD)):=bR (e_ (i:=5) rfl rfl);refine aK s0 (aK s1 (aK s2 (aK s3 ?_)));exact kE (bR ((dD (aF rfl rfl rfl)).trans (by rw [aZ (d9 N)];rfl))) h
theorem aCz {K:List Nat} {M:List Rw} {T:List Tk} {R:List Ru} {S:List Nat} (C:Chk S M T) (hR:∀u∈R,Good M T (M++T.map tr) u) (hn:(R.map pq).Nodup) (hRl:R.length<=400) :
  dN [prD N K M T R,.dct (sn N S)]=.ok .non:=by
 obtain ⟨a,b,c,d,_,q⟩:=aAi H C (P:=prD N K M T R) (X:=[]) R [] hR (by simpa using hn) (fun p hp=>by simp at hp) (by simp;lia) .uD .uD .uD .uD;rw [List.append_nil] at q;exact R8 (ρ':=cst N S M T (prD N K M T R) ([]++R.map pq) a b c d) (aKw H C q)
theorem aAj {K:List Nat} {M:List Rw} {T:List Tk} {R:List Ru} {u:Ru} {i:Nat} {S:List Nat} (C:Chk S M T) (hR:∀u∈R,Good M T (M++T.map tr) u) (hu:Good M T (M++T.map tr) u) (hn:((R++[u]).map pq).Nodup) (hRl:R.length<=400) :
  dN [prD N K M T (R++[spl u i]),.dct (sn N S)]=.err "BadKind" (bk N i):=by
 rw [List.map_append] at hn;have nd:=hn;rw [List.nodup_append] at nd;obtain ⟨a,b,c,d,q0,q⟩:=aAi H C (P:=prD N K M T (R++[spl u i])) (X:=[ruD N (spl u i)]) R [] hR (by simpa using nd.1) (fun p hp=>by simp at hp) (by simp;lia) .uD .uD .uD .uD;refine K6 (aKw H C ?_);rw [List.nil_append] at q q0;have e:(R++[spl u i]).map (ruD N)=R.map (ruD N)++[ruD N (spl u i)]:=by rw [List.map_append];rfl
 have wl:u.2.2.2.length<=400:=by
  obtain ⟨t,ht,r,hr,hk,Q⟩:=hu;have:=Q.wl;lia
 have st:=aEb H C (P:=prD N K M T (R++[spl u i])) q0 (by simp;lia) hu (fun hm=>nd.2.2 _ hm _ (List.mem_cons_self ..) rfl) (e:=[i]) (res:=.err "BadKind" (bk N i)) (fun K k Kn Rn=>aCx H.len H.nd Kn Rn wl);rw [e];exact q.trans (wX (ρ1:=cst N S M T (prD N K M T (R++[spl u i])) (R.map pq) (sy N u.1) (sy N u.2.1) (tw N u.2.2.1) (tw N (u.2.2.2++[i]))) rfl st)
end
end Lk49
end
section
namespace Lk49
open PySem L2 Mi
structure Snd (K:List Nat) (M:List Rw) (T:List Tk):Prop where
 nd:(K++M.map (·.1)++T.map (·.1)).Nodup
 lt:∀i∈K++M.map (·.1)++T.map (·.1),i<26/\¬(13<=i/\i<18)
 ln:K.length<=50/\M.length<=50/\T.length<=50
 hm:∀r∈M,r.2.1∈K/\(∀i∈r.2.2,i∈K)/\r.2.2.length<=3
 ht:∀t∈T,t.2.1∈K/\t.2.2.1∈K/\(∀i∈t.2.2.2,i∈K)/\t.2.2.2.length<=2
section
variable {N:List Str} (H:Nms N)
include H
theorem PN (a b:List Nat) (h:a.length+b.length<=1000):JQ (tw N a) (tw N b)=.ok (tw N (a++b)):=by
 show (if decide ((a.map (sy N)).length+(b.map (sy N)).length<=lim) then Res.ok (D.tup (a.map (sy N)++b.map (sy N))) else .bad)=_;rw [List.length_map,List.length_map,aY,decide_eq_true (by lia),<-List.map_append];rfl
theorem aNa {P:D} {b c d e:D}:∀(L S:List Nat),(S++L).Nodup->(∀i∈S++L,i<26)->S.length+L.length<=500->∀a:D,∃a',gQ (tg1 2) (ZM 1 cO) (L.map (sy N)) [P,.dct (sn N S),a,b,c,d,e]=.ok (.nx [P,.dct (sn N (S++L)),a',b,c,d,e])
 | [],S,_,_,_,a=>⟨a,by rw [List.append_nil];rfl⟩
 | i::L,S,h1,h2,h3,a=>by
  rw [List.length_cons] at h3;obtain ⟨a',q⟩:=aNa (P:=P) (b:=b) (c:=c) (d:=d) (e:=e) L (S++[i]) (by rw [List.append_assoc];exact h1) (by rw [List.append_assoc];exact h2) (by rw [List.length_append,List.length_singleton];lia) (sy N i);rw [List.append_assoc] at q;have hn:i∉S:=fun hm=>by
   rw [List.nodup_append] at h1;exact h1.2.2 _ hm _ (List.mem_cons_self ..) rfl
  refine ⟨a',?_⟩;rw [List.map_cons];exact bN (ρ1:=[P,.dct (sn N S),sy N i,b,c,d,e]) rfl (R9 H (fun k hk=>h2 k (List.mem_append_left _ hk)) (by lia) (h2 i (by simp)) hn (j:=1) rfl rfl) q
theorem aNb {K:List Nat} {P1 P2 P3:D} (hK:∀i∈K,i<26) {d e:D}:∀(L:List Rw) (S:List Nat),(S++L.map (·.1)).Nodup->(∀i∈S++L.map (·.1),i<26)->S.length+L.length<=500->(∀r∈L,r.2.1∈K/\(∀i∈r.2.2,i∈K)/\r.2.2.length<=3)->∀a b c:D,∃a' b' c',gQ (noT (tgN [2,3,4])) (aW (noE (ZM 1 cO)) (jD (aV (iK 2 dO) (noE (aB fC (aB (b2 JQ (eX (aB d_ aO)) fP) aO)))))) (L.map (rwD N)) [.tup [tw N K,P1,P2,P3],.dct (sn N S),a,b,c,d,e]=.ok (.nx [.tup [tw N K,P1,P2,P3],.dct (sn N (S++L.map (·.1))),a',b',c',d,e])
 | [],S,_,_,_,_,a,b,c=>⟨a,b,c,by rw [show S++List.map (fun x:Rw=>x.1) []=S from List.append_nil S];rfl⟩
 | r::L,S,h1,h2,h3,h4,a,b,c=>by
  rw [List.length_cons] at h3;rw [List.map_cons] at h1 h2;obtain ⟨k1,k2,k3⟩:=h4 r (List.mem_cons_self ..);obtain ⟨a',b',c',q⟩:=aNb (P1:=P1) (P2:=P2) (P3:=P3) hK (d:=d) (e:=e) L (S++[r.1]) (by rw [List.append_assoc];exact h1) (by rw [List.append_assoc];exact h2) (by rw [List.length_append,List.length_singleton];lia) (fun x hx=>h4 x (List.mem_cons_of_mem _ hx)) (sy N r.1) (sy N r.2.1) (tw N r.2.2);rw [List.append_assoc] at q;have hn:r.1∉S:=fun hm=>by
   rw [List.nodup_append] at h1;exact h1.2.2 _ hm _ (List.mem_cons_self ..) rfl
  refine ⟨a',b',c',?_⟩;rw [List.map_cons,List.map_cons];refine bN (ρ1:=[.tup [tw N K,P1,P2,P3],.dct (sn N S),sy N r.1,sy N r.2.1,tw N r.2.2,d,e]) rfl (aK (bR (R9 H (fun k hk=>h2 k (List.mem_append_left _ hk)) (by lia) (h2 r.1 (by simp)) hn (j:=1) rfl rfl)) (GX (bF (bR (aD rfl (aD (aF (x:=tw N [r.2.1]) (y:=tw N r.2.2) (cT (aD rfl rfl) (by rw [aY];simp)) rfl (PN H _ _ (by simp;lia))) rfl))) ((dJ rfl).trans (R_ H hK fun i hi=>?_))))) q;rcases List.mem_append.mp hi with g|g
  ·rw [List.mem_singleton] at g;subst g;exact k1
  ·exact k2 i g
theorem aNc {K:List Nat} {P1 P2 P3:D} (hK:∀i∈K,i<26):∀(L:List Tk) (S:List Nat),(S++L.map (·.1)).Nodup->(∀i∈S++L.map (·.1),i<26)->S.length+L.length<=500->(∀t∈L,t.2.1∈K/\t.2.2.1∈K/\(∀i∈t.2.2.2,i∈K)/\t.2.2.2.length<=2)->∀a b c d e:D,∃a' b' c' d' e',gQ (noT (tgN [2,3,5,6])) (aW (noE (ZM 1 cO)) (jD (aV (iK 2 dO) (noE (aB fC (aB (b2 JQ (eX (aB d_ (aB fO aO))) eN) aO)))))) (L.map (tkD N)) [.tup [tw N K,P1,P2,P3],.dct (sn N S),a,b,c,d,e]=.ok (.nx [.tup [tw N K,P1,P2,P3],.dct (sn N (S++L.map (·.1))),a',b',c',d',e'])
 | [],S,_,_,_,_,a,b,c,d,e=>⟨a,b,c,d,e,by rw [show S++List.map (fun x:Tk=>x.1) []=S from List.append_nil S];rfl⟩
 | t::L,S,h1,h2,h3,h4,a,b,c,d,e=>by
  rw [List.length_cons] at h3;rw [List.map_cons] at h1 h2;obtain ⟨k1,k2,k3,k4⟩:=h4 t (List.mem_cons_self ..);obtain ⟨a',b',c',d',e',q⟩:=aNc (P1:=P1) (P2:=P2) (P3:=P3) hK L (S++[t.1]) (by rw [List.append_assoc];exact h1) (by rw [List.append_assoc];exact h2) (by rw [List.length_append,List.length_singleton];lia) (fun x hx=>h4 x (List.mem_cons_of_mem _ hx)) (sy N t.1) (sy N t.2.1) c (sy N t.2.2.1) (tw N t.2.2.2);rw [List.append_assoc] at q;have hn:t.1∉S:=fun hm=>by
   rw [List.nodup_append] at h1;exact h1.2.2 _ hm _ (List.mem_cons_self ..) rfl
  refine ⟨a',b',c',d',e',?_⟩;rw [List.map_cons,List.map_cons];refine bN (ρ1:=[.tup [tw N K,P1,P2,P3],.dct (sn N S),sy N t.1,sy N t.2.1,c,sy N t.2.2.1,tw N t.2.2.2]) rfl (aK (bR (R9 H (fun k hk=>h2 k (List.mem_append_left _ hk)) (by lia) (h2 t.1 (by simp)) hn (j:=1) rfl rfl)) (GX (bF (bR (aD rfl (aD (aF (x:=tw N [t.2.1,t.2.2.1]) (y:=tw N t.2.2.2) (cT (aD rfl (aD rfl rfl)) (by rw [aY];simp)) rfl (PN H _ _ (by simp;lia))) rfl))) ((dJ rfl).trans (R_ H hK fun i hi=>?_))))) q;rcases List.mem_append.mp hi with g|g
  ·simp at g;rcases g with g|g <;> subst g
   ·exact k1
   ·exact k2
  ·exact k3 i g
theorem SX (K:List Nat) (M:List Rw) (T:List Tk) (R:List Ru):(prD N K M T R).pure=true:=by
 show ((tw N K).pure&&((D.tup (M.map (rwD N))).pure&&((D.tup (T.map (tkD N))).pure&&((D.tup (R.map (ruD N))).pure&&true))))=true;rw [wC,D.pure,D.pure,D.pure,aZ (dU N),aZ (mZ N),aZ (d9 N)];rfl
theorem aAk {K:List Nat} {M:List Rw} {T:List Tk} (W:Snd K M T):Chk (K++M.map (·.1)++T.map (·.1)) M T:=by
 obtain ⟨l1,l2,l3⟩:=W.ln;have lt26:∀i∈K++M.map (·.1)++T.map (·.1),i<26:=fun i hi=>(W.lt i hi).1
 have hK:∀i∈K,i<26:=fun i hi=>lt26 i (by simp [hi])
 have hM1:∀r∈M,r.1<26:=fun r hr=>lt26 _ (List.mem_append_left _ (List.mem_append_right _ (List.mem_map_of_mem (f:=(·.1)) hr)))
 have hT1:∀t∈T,t.1<26:=fun t ht=>lt26 _ (List.mem_append_right _ (List.mem_map_of_mem (f:=(·.1)) ht))
 have nd:=W.nd;have ndF:((M++T.map tr).map (·.1)).Nodup:=by
  have e:(M++T.map tr).map (·.1)=M.map (·.1)++T.map (·.1):=by rw [List.map_append,List.map_map];rfl
  rw [e];rw [List.append_assoc,List.nodup_append] at nd;exact nd.2.1
 refine ⟨⟨ndF,fun r hr=>?_,by rw [List.length_append,List.length_map];lia⟩,fun r hr=>(W.hm r hr).2.2,fun t ht=>(W.ht t ht).2.2.2,W.lt,by simp;lia,fun r hr=>?_⟩
 ·rcases List.mem_append.mp hr with g|g
  ·obtain ⟨a,b,c⟩:=W.hm r g;exact ⟨hM1 r g,hK _ a,fun i hi=>hK _ (b i hi),by lia⟩
  ·obtain ⟨t,ht,rfl⟩:=List.mem_map.mp g;obtain ⟨a,b,c,d⟩:=W.ht t ht;refine ⟨hT1 t ht,hK _ a,fun i hi=>?_,by show (t.2.2.1::t.2.2.2).length<=10;rw [List.length_cons];lia⟩;rcases List.mem_cons.mp hi with q|q
   ·exact q▸hK _ b
   ·exact hK _ (c i q)
 ·rcases List.mem_append.mp hr with g|g
  ·exact (W.lt _ (List.mem_append_left _ (List.mem_append_right _ (List.mem_map_of_mem (f:=(·.1)) g)))).2
  ·obtain ⟨t,ht,rfl⟩:=List.mem_map.mp g;exact (W.lt _ (List.mem_append_right _ (List.mem_map_of_mem (f:=(·.1)) ht))).2
theorem yS {K:List Nat} {M:List Rw} {T:List Tk} {R:List Ru} (W:Snd K M T) {res:Res Fl} (h:∀a b c d e:D,(aW (jD (aV (iK 2 dN) (noE (aB fC (aB fK aO))))) (aW (jD (aV (iK 1 d8) (noE (aB fC aO)))) (noE (nZ fC false)))) [prD N K M T R,.dct (sn N (K++M.map (·.1)++T.map (·.1))),a,b,c,d,e]=res):Z4 [prD N K M T R,.uD,.uD,.uD,.uD,.uD,.uD]=res:=by
 obtain ⟨l1,l2,l3⟩:=W.ln;have lt26:∀i∈K++M.map (·.1)++T.map (·.1),i<26:=fun i hi=>(W.lt i hi).1
 have hK:∀i∈K,i<26:=fun i hi=>lt26 i (by simp [hi])
 have nd:=W.nd;obtain ⟨a1,q1⟩:=aNa H (P:=prD N K M T R) (b:=.uD) (c:=.uD) (d:=.uD) (e:=.uD) K [] (by rw [List.append_assoc,List.nodup_append] at nd;simpa using nd.1) (by simpa using hK) (by simp;lia) .uD;obtain ⟨a2,b2,c2,q2⟩:=aNb H (K:=K) (P1:=.tup (M.map (rwD N))) (P2:=.tup (T.map (tkD N))) (P3:=.tup (R.map (ruD N))) hK (d:=.uD) (e:=.uD) M K (by rw [List.nodup_append] at nd;exact nd.1) (fun i hi=>lt26 i (List.mem_append_left _ hi)) (by lia) W.hm a1 .uD .uD;obtain ⟨a3,b3,c3,d3,e3,q3⟩:=aNc H (K:=K) (P1:=.tup (M.map (rwD N))) (P2:=.tup (T.map (tkD N))) (P3:=.tup (R.map (ruD N))) hK T (K++M.map (·.1)) nd lt26 (by simp;lia) W.ht a2 b2 c2 .uD .uD;rw [List.nil_append] at q1;refine aK (ρ':=[prD N K M T R,.dct (sn N []),.uD,.uD,.uD,.uD,.uD]) (bR (e_ (i:=1) (d:=.dct (sn N [])) rfl (aH5 N []))) ?_;refine aK (bR (kE ((dD (aF rfl rfl rfl)).trans (by rw [dR];rfl)) q1)) ?_;refine aK (kE (bR ((dD (aF rfl rfl rfl)).trans (by rw [aZ (dU N)];rfl))) q2) ?_;refine aK (kE (bR ((dD (aF rfl rfl rfl)).trans (by rw [aZ (mZ N)];rfl))) q3) ?_;exact h ..
omit H in
theorem S5 {f:FE} {ρ:List D} {c:Str} {as:List D} (h:f ρ=.err c as):jD f ρ=.err c as:=by
 unfold jD;rw [h];rfl
theorem aAl {K:List Nat} {M:List Rw} {T:List Tk} {R:List Ru} {u:Ru} {i:Nat} (W:Snd K M T) (hR:∀u∈R,Good M T (M++T.map tr) u) (hu:Good M T (M++T.map tr) u) (hn:((R++[u]).map pq).Nodup) (hRl:R.length<=400):gK [prD N K M T (R++[spl u i])]=.err "BadKind" (bk N i):=
 K6 (yS H W fun a b c d e=>GQ (S5 (GR (bR (aD rfl (aD rfl rfl))) ((dJ rfl).trans (aAj H (aAk H W) hR hu hn hRl)))))
noncomputable def sdR (N:List Str) (P:D):Option (Nat×Nat)->Res D
 | none=>.ok P
 | some p=>.err "Lacking" (lk N p)
theorem aD0 {K:List Nat} {M:List Rw} {T:List Tk} {R:List Ru} (W:Snd K M T) (hR:∀u∈R,Good M T (M++T.map tr) u) (hn:(R.map pq).Nodup) (hRl:R.length<=400):gK [prD N K M T R]=sdR N (prD N K M T R) (aCq T M R):=by
 have C:=aAk H W;obtain ⟨l1,l2,l3⟩:=W.ln;have hM:∀r∈M,r.1<26/\r.2.1<26:=fun r hr=>by
  have:=C.hF.lt r (List.mem_append_left _ hr);exact ⟨this.1,this.2.1⟩
 have hT:∀t∈T,t.1<26/\t.2.2.1<26:=fun t ht=>by
  have:=C.hF.lt (tr t) (List.mem_append_right _ (List.mem_map_of_mem ht));exact ⟨this.1,this.2.2.1 _ (List.mem_cons_self ..)⟩
 have hR2:∀u∈R,u.1<26/\u.2.1<26:=fun u hu=>by
  obtain ⟨t,ht,r,hr,_,Q⟩:=hR u hu;rw [Q.n1,Q.n2];exact ⟨(hT t ht).1,(hM r hr).1⟩
 have lq:=aH4 H.len H.nd (K:=K) hM hT hR2 (by lia) (by lia);have s1:∀a b c d e:D,jD (aV (iK 2 dN) (noE (aB fC (aB fK aO)))) [prD N K M T R,.dct (sn N (K++M.map (·.1)++T.map (·.1))),a,b,c,d,e]=.ok (.nx [prD N K M T R,.dct (sn N (K++M.map (·.1)++T.map (·.1))),a,b,c,d,e]):=fun a b c d e=>GX (bF (bR (aD rfl (aD rfl rfl))) ((dJ rfl).trans (aCz H C hR hn hRl)))
 cases hf:aCq T M R with
 | none=>
  rw [hf] at lq;exact call_v (yS H W fun a b c d e=>aK (s1 a b c d e) (aK (GX (bF (bR (aD rfl rfl)) ((dJ rfl).trans lq))) (bR (j_ rfl (SX H K M T R)))))
 | some p=>
  rw [hf] at lq;exact K6 (yS H W fun a b c d e=>aK (s1 a b c d e) (GQ (S5 (GR (bR (aD rfl rfl)) ((dJ rfl).trans lq)))))
end
end Lk49
end
section
namespace Lk49
open PySem L2 Mi
theorem aKx {a b:FE} {ρ:List D} {r:Res D} (h1:a ρ=.ok (.bl true)) (h2:b ρ=r):T_ a b ρ=r:=by
 unfold T_;rw [h1];exact h2
theorem PP (a b:Str):cC .eq (.str a) (.str b)=.ok (.bl (a==b)):=rfl
theorem wD (a b:Str):cC .ne (.str a) (.str b)=.ok (.bl (!(a==b))):=rfl
theorem GZ (a b:Bool):cC .ne (.bl a) (.bl b)=.ok (.bl (!(a==b))):=rfl
theorem nJ {t:List (Str×Bool)} {c:Str} {b:Bool} {fs:List (Str×Str)} {x y z w:D} (h:t.lookup c=some b):N7 t 3 [x,y,z,.exc c fs,w]=.ok (.bl b):=by
 show (match t.lookup c with|some b=>Res.ok (D.bl b)|none=>.bad)=_;rw [h]
theorem S6 {cs:List Str} {f c u:Str} {fs:List (Str×Str)} {x y z w:D} (h1:cs.contains c=true) (h2:fs.lookup f=some u):mU cs f 3 [x,y,z,.exc c fs,w]=.ok (.str u):=by
 show (if cs.contains c then (match fs.lookup f with|some t=>Res.ok (D.str t)|none=>.bad) else .bad)=_;rw [h1,h2];rfl
noncomputable def rf2:FS:=(sIf (bTr (N7 [("BadKind",false),("Lacking",false),("NoName",true),("Twice",false)] 3)) (nZ (bC (.bl false)) true) iQ)
noncomputable def rf3:FS:=(sIf (bOr (bTr (N7 [("BadKind",false),("Lacking",false),("NoName",false),("Twice",true)] 3)) (aAq (bTr (N7 [("BadKind",true),("Lacking",true),("NoName",true),("Twice",true)] 3)))) (nZ (bC (.bl false)) true) iQ)
noncomputable def rf4:FS:=(sIf (bOr (bTB (b2 (cC .ne) (N7 [("BadKind",true),("Lacking",false),("NoName",false),("Twice",false)] 3) (b2 (cC .ne) cO (bC (.str ""))))) (bTB (b2 (cC .ne) (N7 [("BadKind",false),("Lacking",true),("NoName",false),("Twice",false)] 3) (b2 (cC .eq) cO (bC (.str "")))))) (nZ (bC (.bl false)) true) iQ)
noncomputable def rf5:FS:=(sIf (bTB (b2 (cC .ne) cO (bC (.str "")))) (nZ (T_ (b1 (UG .str) (mU ["BadKind", "Lacking", "NoName", "Twice"] "word" 3)) (b2 (cC .eq) (mU ["BadKind", "Lacking", "NoName", "Twice"] "word" 3) cO)) true) iQ)
noncomputable def rf6:FS:=(nZ (aV (iK 2 (bJ 6)) (aB (eX (aB (mU ["BadKind", "Lacking", "NoName", "Twice"] "taker" 3) (aB (mU ["BadKind", "Lacking", "NoName", "Twice"] "maker" 3) aO))) (aB (eX (aB (b2 getD fK fM) (aB (b2 getD fK dZ) aO))) aO))) true)
theorem aKy:jV=(aW (bV false 3 (bC .non) true) (aW (aJz gK 1 (aB fC aO) ["BadKind", "Lacking", "NoName", "Twice"] 3 4) (aW rf2 (aW rf3 (aW rf4 (aW rf5 rf6)))))):=rfl
theorem aEc {P F:D} {w c:Str} {fs:List (Str×Str)} {res:Res Fl} (hP:dH 0 [P,F,.str w,.non,.uD]=.ok P) (hv:gK [P]=.err c [.exc c fs]) (hc:c = "BadKind"\/c = "Lacking") (h:(aW rf2 (aW rf3 (aW rf4 (aW rf5 rf6)))) [P,F,.str w,.exc c fs,.uD]=res):jV [P,F,.str w,.uD,.uD]=res:=by
 rw [aKy];have s0:bV false 3 (bC .non) true [P,F,.str w,.uD,.uD]=.ok (.nx [P,F,.str w,.non,.uD]):=dB (i:=3) rfl;have s1:aJz gK 1 (aB fC aO) ["BadKind", "Lacking", "NoName", "Twice"] 3 4 [P,F,.str w,.non,.uD]=.ok (.nx [P,F,.str w,.exc c fs,.uD]):=by
  have ha:aB fC aO [P,F,.str w,.non,.uD]=.ok [P]:=aD hP rfl;unfold aJz;rw [ha,Res.aN,dJ (n:=1) (ds:=[P]) rfl,hv];rcases hc with rfl|rfl <;> rfl
 exact aK s0 (aK s1 h)
theorem PQ {P F:D} {w:Str} (hP:∀r,dH 0 (P::r)=.ok P) (hw:(w == "")=false) (hv:gK [P]=.err "BadKind" [.exc "BadKind" [("word",w)]]):dW [P,F,.str w]=.ok (.bl true):=by
 refine call_v (aEc (hP _) hv (.inl rfl) ?_);have s2:rf2 [P,F,.str w,.exc "BadKind" [("word",w)],.uD]=.ok (.nx [P,F,.str w,.exc "BadKind" [("word",w)],.uD]):=sS (zK (nJ rfl)) rfl;have s3:rf3 [P,F,.str w,.exc "BadKind" [("word",w)],.uD]=.ok (.nx [P,F,.str w,.exc "BadKind" [("word",w)],.uD]):=sS (aDy (zK (nJ rfl)) (z6 (b:=true) (zK (nJ rfl)))) rfl;have s4:rf4 [P,F,.str w,.exc "BadKind" [("word",w)],.uD]=.ok (.nx [P,F,.str w,.exc "BadKind" [("word",w)],.uD]):=sS (aDy (dC (k:=false) (aF (nJ (b:=true) rfl) (aF rfl rfl (wD w "")) ((GZ _ _).trans (by rw [hw];rfl)))) (dC (k:=false) (aF (nJ (b:=false) rfl) (aF rfl rfl (PP w "")) ((GZ _ _).trans (by rw [hw];rfl))))) rfl;refine aK s2 (aK s3 (aK s4 (o5 (LK (dC (k:=true) (aF rfl rfl ((wD w "").trans (by rw [hw];rfl)))) (j_ (aKx (K3 (S6 (u:=w) rfl rfl) rfl) (aF (S6 (u:=w) rfl rfl) rfl ((PP w w).trans (by rw [beq_self_eq_true])))) rfl)))))
theorem K9 {N:List Str} {P:D} {p:Nat×Nat} (hP:∀r,dH 0 (P::r)=.ok P) (hv:gK [P]=.err "Lacking" (lk N p)):dW [P,.lst [sy N p.1,sy N p.2],.str ""]=.ok (.bl true):=by
 refine call_v (aEc (hP _) hv (.inr rfl) ?_);generalize hfs:[(("taker" : Str),N.getD p.1 ""),("maker",N.getD p.2 "")]=fs;have l1:fs.lookup ("taker" : Str)=some (N.getD p.1 ""):=by rw [<-hfs];rfl
 have l2:fs.lookup ("maker" : Str)=some (N.getD p.2 ""):=by rw [<-hfs];rfl
 have s2:rf2 [P,.lst [sy N p.1,sy N p.2],.str "",.exc "Lacking" fs,.uD]=.ok (.nx [P,.lst [sy N p.1,sy N p.2],.str "",.exc "Lacking" fs,.uD]):=sS (zK (nJ rfl)) rfl;have s3:rf3 [P,.lst [sy N p.1,sy N p.2],.str "",.exc "Lacking" fs,.uD]=.ok (.nx [P,.lst [sy N p.1,sy N p.2],.str "",.exc "Lacking" fs,.uD]):=sS (aDy (zK (nJ rfl)) (z6 (b:=true) (zK (nJ rfl)))) rfl;have s4:rf4 [P,.lst [sy N p.1,sy N p.2],.str "",.exc "Lacking" fs,.uD]=.ok (.nx [P,.lst [sy N p.1,sy N p.2],.str "",.exc "Lacking" fs,.uD]):=sS (aDy (dC (k:=false) (aF (nJ (b:=false) rfl) (aF rfl rfl (wD "" "")) ((GZ _ _).trans rfl))) (dC (k:=false) (aF (nJ (b:=true) rfl) (aF rfl rfl (PP "" "")) ((GZ _ _).trans rfl)))) rfl;have s5:rf5 [P,.lst [sy N p.1,sy N p.2],.str "",.exc "Lacking" fs,.uD]=.ok (.nx [P,.lst [sy N p.1,sy N p.2],.str "",.exc "Lacking" fs,.uD]):=sS (dC (k:=false) (aF rfl rfl (wD "" ""))) rfl;refine aK s2 (aK s3 (aK s4 (aK s5 (j_ (bF (xs:=[tw N [p.1,p.2],tw N [p.1,p.2]]) (aD (cT (aD (x:=sy N p.1) (S6 rfl l1) (aD (x:=sy N p.2) (S6 rfl l2) rfl)) (by rw [aY];simp)) (aD (cT (aD (x:=sy N p.1) (aF rfl rfl rfl) (aD (x:=sy N p.2) (aF rfl rfl rfl) rfl)) (by rw [aY];simp)) rfl)) ((dJ rfl).trans (nY N 4 [p.1,p.2] (by simp)))) rfl))))
end Lk49
end
section
namespace Lk49
open PySem L2 Mi
theorem aAm {t:Tk} {L:List Rw} {p:Nat×Nat} (h:p∈prs t L):p.1=t.1:=by
 unfold prs at h;obtain ⟨r,_,rfl⟩:=List.mem_map.mp h;rfl
theorem aAn (t:Tk) {M:List Rw} (h:(M.map (·.1)).Nodup):(prs t M).Nodup:=by
 unfold prs;rw [List.nodup_iff_pairwise_ne,List.pairwise_map];rw [List.nodup_iff_pairwise_ne,List.pairwise_map] at h;refine List.Pairwise.imp ?_ (h.sublist List.filter_sublist);intro a b hne e;exact hne (congrArg Prod.snd e)
theorem K_ {M:List Rw} (h:(M.map (·.1)).Nodup):∀(T:List Tk),(T.map (·.1)).Nodup->(prT T M).Nodup
 | [],_=>List.nodup_nil
 | t::T,hT=>by
  rw [List.map_cons,List.nodup_cons] at hT;unfold prT;rw [List.flatMap_cons,List.nodup_append];refine ⟨aAn t h,K_ h T hT.2,fun a ha b hb e=>?_⟩;subst e;obtain ⟨t',ht',hp⟩:=List.mem_flatMap.mp hb;have:=(aAm ha).symm.trans (aAm hp);exact hT.1 (this▸List.mem_map_of_mem (f:=(·.1)) ht')
theorem aH9 (N:List Str) {K:List Nat} {M:List Rw} {T:List Tk} {R:List Ru} (hK:K.length<=1000) (hM:M.length<=1000/\∀r∈M,r.2.2.length<=1000) (hT:T.length<=1000/\∀t∈T,t.2.2.2.length<=1000) (hR:R.length<=1000/\∀u∈R,u.2.2.1.length<=1000/\u.2.2.2.length<=1000):bJ 6 [prD N K M T R,prD N K M T R]=.ok (.bl true):=by
 refine jR 5 _ ?_ (by simp) fun d hd=>?_
 ·show ((tw N K).pure&&((D.tup (M.map (rwD N))).pure&&((D.tup (T.map (tkD N))).pure&&((D.tup (R.map (ruD N))).pure&&true))))=true;rw [wC,D.pure,D.pure,D.pure,aZ (dU N),aZ (mZ N),aZ (d9 N)];rfl
 ·simp only [List.mem_cons,List.not_mem_nil,or_false] at hd;rcases hd with rfl|rfl|rfl|rfl
  ·exact nY N 3 K hK
  ·refine jR 4 _ (aZ (dU N) _) (by rw [List.length_map];exact hM.1) fun d hd=>?_
   obtain ⟨r,hr,rfl⟩:=List.mem_map.mp hd;refine jR 3 _ (dU N r) (by simp) fun d hd=>?_
   simp only [List.mem_cons,List.not_mem_nil,or_false] at hd;rcases hd with rfl|rfl|rfl
   ·exact same_str 2 _
   ·exact same_str 2 _
   ·exact nY N 1 _ (hM.2 r hr)
  ·refine jR 4 _ (aZ (mZ N) _) (by rw [List.length_map];exact hT.1) fun d hd=>?_
   obtain ⟨r,hr,rfl⟩:=List.mem_map.mp hd;refine jR 3 _ (mZ N r) (by simp) fun d hd=>?_
   simp only [List.mem_cons,List.not_mem_nil,or_false] at hd;rcases hd with rfl|rfl|rfl|rfl
   ·exact same_str 2 _
   ·exact same_str 2 _
   ·exact same_str 2 _
   ·exact nY N 1 _ (hT.2 r hr)
  ·refine jR 4 _ (aZ (d9 N) _) (by rw [List.length_map];exact hR.1) fun d hd=>?_
   obtain ⟨r,hr,rfl⟩:=List.mem_map.mp hd;refine jR 3 _ (d9 N r) (by simp) fun d hd=>?_
   simp only [List.mem_cons,List.not_mem_nil,or_false] at hd;rcases hd with rfl|rfl|rfl|rfl
   ·exact same_str 2 _
   ·exact same_str 2 _
   ·exact nY N 1 _ (hR.2 r hr).1
   ·exact nY N 1 _ (hR.2 r hr).2
theorem aOa (ns:List Int):(ns.map D.int).all isI=true:=by
 rw [List.all_eq_true];intro x hx;obtain ⟨i,_,rfl⟩:=List.mem_map.mp hx;rfl
theorem aHa {f:FX} {ρ ρ1 xs:List D} {is:List Nat} (h:f ρ=.ok (.lst xs,ρ1)) (hl:xs.length=is.length) {ρ':List D} (he:M8 is xs ρ1=ρ'):Y9 f is ρ=.ok (.nx ρ'):=by
 subst he;unfold Y9;rw [h,Res.aN];dsimp only;rw [if_pos (decide_eq_true hl)]
noncomputable def lw0:FS:=(bV true 1 (aLd (l_ (aB (m9 fC fL (eV QK)) (aB fM aO)))) true)
theorem aKz (ns:List Int) (r:List D):∃cs:List Int,lw0 (.scr (ns.map D.int)::.uD::r)=.ok (.nx (.scr (ns.map D.int)::.lst (dk cs 0)::r)):=by
 refine ⟨cutD ns none (some 120),e_ (i:=1) (d:=.lst (dk (cutD ns none (some 120)) 0)) ?_ (m_ _ _)⟩;have h1:m9 fC fL (eV QK) (.scr (ns.map D.int)::.uD::r)=.ok (.lst ((cutD ns none (some 120)).map D.int)):=by
  rw [<-aFp];show (if D.aX (ns.map D.int) then Res.ok (D.lst (cutD (ns.map D.int) none (some 120))) else .bad)=_;rw [sU];rfl
 have h2:l_ (aB (m9 fC fL (eV QK)) (aB fM aO)) (.scr (ns.map D.int)::.uD::r)=.ok (.lst [.lst ((cutD ns none (some 120)).map D.int),.int 0]):=z7 (aD h1 rfl) (by rw [aY];simp);unfold aLd;rw [h2,Res.aN];show (do let r <- aFy [.lst ((cutD ns none (some 120)).map D.int),.int 0];Res.ok (D.lst r))=_;have h3:aFy [.lst ((cutD ns none (some 120)).map D.int),.int 0]=.ok (dk (cutD ns none (some 120)) 0):=by
  show (if ((cutD ns none (some 120)).map D.int).all isI&&D.aX [.int 0] then Res.ok (D.scr ((cutD ns none (some 120)).map D.int)::[.int 0]) else .bad)=_;rw [aOa];rfl
 rw [h3];rfl
theorem aD1 {α:Type} (f:α->D) (L:List α) (x:α):getD (.lst ((L++[x]).map f)) (.int (-1))=.ok (f x):=by
 show Res.ofOpt ((ixD ((L++[x]).map f).length (-1)).bind fun j=>((L++[x]).map f)[j]?)=_;have e:ixD ((L++[x]).map f).length (-1)=some L.length:=by
  unfold ixD;rw [List.length_map,List.length_append,List.length_singleton,if_neg (by lia),if_pos (by lia)]
  congr 1
  lia
 rw [e];show Res.ofOpt (((L++[x]).map f)[L.length]?)=_;rw [List.getElem?_map,List.getElem?_append_right (Nat.le_refl _),Nat.sub_self];rfl
theorem aD2 {α:Type} (L:List α) (x:α):cutD (L++[x]) none (some (-1))=L:=by
 unfold cutD;have e:QJ (L++[x]).length (L++[x]).length (some (-1))=L.length:=by
  unfold QJ;dsimp only;rw [if_pos (by lia),List.length_append,List.length_singleton];lia
 rw [e,GD,List.drop_zero,Nat.sub_zero,List.take_left]
theorem aMq (N:List Str) (R:List Ru):cC .ne (.lst (R.map (ruD N))) (.lst [])=.ok (.bl (!R.isEmpty)):=by
 show (if D.cA 11 (R.map (ruD N))&&D.cA 11 [] then Res.ok (D.bl (!G3 (R.map (ruD N)) [])) else .bad)=_;rw [R4,D.cA];cases R <;> rfl
theorem aL0 (N:List Str) (p:Option (Nat×Nat)):cC .ne (.lst (z8 N p)) (.lst [])=.ok (.bl p.isSome):=by
 cases p with
 | none=>
  show (if D.cA 11 []&&D.cA 11 [] then Res.ok (D.bl (!G3 [] [])) else .bad)=_;rw [D.cA];rfl
 | some p=>
  have:z8 N (some p)=[p.1,p.2].map (sy N):=rfl;rw [this,aH1];rfl
section
variable {m:Nat} {M:List Rw} {T:List Tk} (S:Sig m M T)
include S
theorem aEd:Mat m M T (M++T.map tr):=by
 have m3:=S.m3;have ml:=S.ml;have tl:=S.tl;refine ⟨m3,by lia,by lia,by rw [List.length_append,List.length_map];lia,fun r hr=>?_,fun t ht=>?_,fun r hr=>?_,fun k hk=>?_⟩
 ·obtain ⟨g1,g2,g3⟩:=S.mg r hr;have:=S.mi r hr;exact ⟨by lia,by lia,fun i hi=>by have:=g2 i hi;lia,g3⟩
 ·obtain ⟨g1,g2,g3,g4⟩:=S.tg t ht;have:=S.ti t ht;exact ⟨by lia,g1,by lia,fun i hi=>by have:=g3 i hi;lia,g4⟩
 ·rcases List.mem_append.mp hr with g|g
  ·obtain ⟨g1,g2,g3⟩:=S.mg r g;have:=S.mi r g;exact ⟨by lia,by lia,g2,g3⟩
  ·obtain ⟨t,ht,rfl⟩:=List.mem_map.mp g;obtain ⟨g1,g2,g3,g4⟩:=S.tg t ht;have:=S.ti t ht;refine ⟨by show t.1<26;lia,by show t.2.1<26;lia,fun i hi=>?_,by show (t.2.2.1::t.2.2.2).length<=3;rw [List.length_cons];lia⟩;rcases List.mem_cons.mp hi with e|e
   ·exact e▸g2
   ·exact g3 i e
 ·obtain ⟨r,hr,h⟩:=S.ba k hk;exact ⟨r,List.mem_append_left _ hr,h⟩
theorem aEe:Snd (List.range m) M T:=by
 have m3:=S.m3;have ml:=S.ml;have tl:=S.tl;refine ⟨?_,fun i hi=>?_,⟨by rw [List.length_range];lia,by lia,by lia⟩,fun r hr=>?_,fun t ht=>?_⟩
 ·rw [List.nodup_append,List.nodup_append];refine ⟨⟨List.nodup_range,S.mn,fun a ha b hb e=>?_⟩,S.tn,fun a ha b hb e=>?_⟩
  ·obtain ⟨r,hr,rfl⟩:=List.mem_map.mp hb;have h1:=S.mi r hr;have h2:=List.mem_range.mp ha;have e:a=r.1:=e;lia
  ·obtain ⟨t,ht,rfl⟩:=List.mem_map.mp hb;have h1:=S.ti t ht;have e:a=t.1:=e;rcases List.mem_append.mp ha with g|g
   ·have h2:=List.mem_range.mp g;lia
   ·obtain ⟨r,hr,rfl⟩:=List.mem_map.mp g;have h2:=S.mi r hr;have e:r.1=t.1:=e;lia
 ·rcases List.mem_append.mp hi with g|g
  ·rcases List.mem_append.mp g with g|g
   ·have:=List.mem_range.mp g;lia
   ·obtain ⟨r,hr,rfl⟩:=List.mem_map.mp g;have h2:=S.mi r hr;show r.1<26/\¬(13<=r.1/\r.1<18);lia
  ·obtain ⟨t,ht,rfl⟩:=List.mem_map.mp g;have h1:=S.ti t ht;show t.1<26/\¬(13<=t.1/\t.1<18);lia
 ·obtain ⟨g1,g2,g3⟩:=S.mg r hr;exact ⟨List.mem_range.mpr g1,fun i hi=>List.mem_range.mpr (g2 i hi),g3⟩
 ·obtain ⟨g1,g2,g3,g4⟩:=S.tg t ht;exact ⟨List.mem_range.mpr g1,List.mem_range.mpr g2,fun i hi=>List.mem_range.mpr (g3 i hi),g4⟩
theorem aL1:prT T M≠[]:=by
 have t1:=S.t1;obtain ⟨t,ht⟩:∃t,t∈T:=⟨T[0]'(by lia),List.getElem_mem _⟩
 obtain ⟨r,hr,h,_⟩:=S.ba _ (S.tg t ht).2.1;intro e;have:(t.1,r.1)∈prT T M:=List.mem_flatMap.mpr ⟨t,ht,List.mem_map.mpr ⟨r,List.mem_filter.mpr ⟨hr,by simpa using h⟩,rfl⟩⟩;rw [e] at this;cases this
end
end Lk49
end
section
namespace Lk49
open PySem L2 Mi
def lw1:FS:=(fX false 2 (bY aP 1 1 aO))
def lw2:FS:=(fX false 3 (bY fD 1 1 aO))
def lw3:FS:=(Y9 (bY iZ 2 1 (aB d_ aO)) [4,5,6])
noncomputable def lw4:FS:=(fX false 7 (zU (zT (bY cW 4 1 (aB fO (aB eN (aB d_ aO))))) kt (xE W5)))
noncomputable def lw5:FS:=(bV false 8 (aV (iK 3 iB) (aB fO (aB eN (aB dY aO)))) true)
noncomputable def lw6:FS:=(bV false 9 (aJy "Lacking" ["taker", "maker"] (aB (b2 getD d_ yV) (aB (b2 getD d_ T9) aO))) true)
noncomputable def lw7:FS:=(sIf (aAq (bTr (aV (iK 2 (bJ 6)) (aB (eX (aB (mU ["Lacking"] "taker" 9) (aB (mU ["Lacking"] "maker" 9) aO))) (aB (eX (aB (b2 getD d_ yV) (aB (b2 getD d_ T9) aO))) aO))))) (nZ (bC (.bl false)) true) iQ)
def lw8:FS:=(bV false 10 (bC (.str "")) true)
def aMr:FS:=(aIz (b2 getD dY (b1 aF8 dZ)) (tgN [11,12,13,14]))
noncomputable def aMs:FS:=(bV false 10 (b2 getD (l_ (aB (bPu (b2 getD d_ yV)) (aB (bPu (b2 getD (b2 getD fO fM) fM)) (aB (bPu (b2 getD fP fM)) aO)))) (b2 (aU .mod) (b2 (aU .fdiv) cO VN) j0)) false)
noncomputable def aMt:FS:=(bV false 7 (b2 (aU .add) (m9 dY fL (eV (b1 aF8 dZ))) (l_ (aB (bPu (eX (aB lV (aB nP (aB T7 (aB (b2 JQ jZ (eX (aB fQ aO))) aO)))))) aO))) true)
noncomputable def lc9:FT:=(W7 (bTB (b2 (cC .eq) (b2 (aU .mod) cO VN) dZ)) (bTB (b2 (cC .ne) dY (l_ aO))))
def lw9:FS:=(sIf lc9 (aW aMr (aW aMs aMt)) iQ)
noncomputable def aL2:FS:=(bV false 15 (eX (aB (aV eO (aB fP aO)) (aB (aV eO (aB fO aO)) (aB (aV eO (aB eN aO)) (aB (aV eO (aB dY aO)) aO))))) false)
noncomputable def aLf:FS:=(sIf (bOr (bTB (b2 (cC .ne) fQ (bC (.str "")))) (bTB (b2 (cC .ne) lZ (l_ aO)))) (nZ (aV (iK 3 dW) (aB T8 (aB lZ (aB fQ aO)))) true) iQ)
noncomputable def aLg:FS:=(nZ (aV (iK 2 (bJ 6)) (aB (aV (iK 1 gK) (aB T8 aO)) (aB T8 aO))) true)
theorem aL3:aGm=(aW lw0 (aW lw1 (aW lw2 (aW lw3 (aW lw4 (aW lw5 (aW lw6 (aW lw7 (aW lw8 (aW lw9 (aW aL2 (aW aLf aLg)))))))))))):=rfl
noncomputable abbrev lt (sc:D) (h:List D) (cell:Int) (N:List Str) (m:Nat) (M:List Rw) (T:List Tk) (R:List Ru) (c8 c9 ca cb cc cd ce cf:D):List D:=ls sc h (.int cell) (.lst ((List.range 26).map (sy N))) (.lst ((List.range m).map (sy N))) (.lst (M.map (rwD N))) (.lst (T.map (tkD N))) (.lst (R.map (ruD N))) c8 c9 ca cb cc cd ce cf
theorem aL4 {f:FE} {t:D->List D->Res (List D)} {ρ ρ':List D} {d:D} (h:f ρ=.ok d) (hp:d.pure=true) (h2:t d ρ=.ok ρ'):aIz f t ρ=.ok (.nx ρ'):=by
 unfold aIz;rw [h,Res.aN,if_pos hp,h2];rfl
theorem three {N:List Str} {a b c:Nat} (x:Int) (ha:a<26) (hb:b<26) (hc:c<26):∃i:Nat,i<26/\getD (.lst [sy N a,sy N b,sy N c]) (.int (x % 3))=.ok (sy N i):=by
 have:x % 3=0\/x % 3=1\/x % 3=2:=by lia
 rcases this with h|h|h <;> rw [h]
 ·exact ⟨a,ha,rfl⟩
 ·exact ⟨b,hb,rfl⟩
 ·exact ⟨c,hc,rfl⟩
section
variable {N:List Str} (H:Nms N) {m:Nat} {M:List Rw} {T:List Tk} (S:Sig m M T) {sc:D} {h:List D} {cell:Int}
include H S
theorem aAo {R:List Ru} (c8 c9 ca cb cc cd ce cf:D):aL2 (lt sc h cell N m M T R c8 c9 ca cb cc cd ce cf)=.ok (.nx (lt sc h cell N m M T R c8 c9 ca cb cc cd ce (prD N (List.range m) M T R))):=
 lF (i:=15) (d:=prD N (List.range m) M T R) (cT (aD (bF (aD rfl rfl) rfl) (aD (bF (aD rfl rfl) rfl) (aD (bF (aD rfl rfl) rfl) (aD (bF (aD rfl rfl) rfl) rfl)))) (by rw [aY];simp)) (SX H ..)
theorem aL5 {R:List Ru} {u:Ru} (hl:R.length<=400) (hw:u.2.2.2.length<=400) (c8 c9:D):∃(i:Nat),i<26/\(aW aMr (aW aMs aMt)) (lt sc h cell N m M T (R++[u]) c8 c9 (.str "") .uD .uD .uD .uD .uD)=.ok (.nx (lt sc h cell N m M T (R++[spl u i]) c8 c9 (sy N i) (sy N u.1) (sy N u.2.1) (tw N u.2.2.1) (tw N u.2.2.2) .uD)):=by
 obtain ⟨r0,hr0⟩:∃r0,M[0]?=some r0:=by
  obtain ⟨r,hr,_⟩:=S.ba 0 S.m1;exact ⟨_,List.getElem?_eq_getElem (List.length_pos_of_mem hr)⟩
 have hrm:r0∈M:=List.mem_of_getElem? hr0;have hi:=S.mi r0 hrm;have m1:=S.m1;obtain ⟨i,i1,i2⟩:=three (N:=N) (a:=18) (b:=r0.1) (c:=0) (cell / 5) (by decide) (by lia) (by decide);refine ⟨i,i1,?_⟩;have s0:aMr (lt sc h cell N m M T (R++[u]) c8 c9 (.str "") .uD .uD .uD .uD .uD)=.ok (.nx (lt sc h cell N m M T (R++[u]) c8 c9 (.str "") (sy N u.1) (sy N u.2.1) (tw N u.2.2.1) (tw N u.2.2.2) .uD)):=aL4 (aF rfl (K3 rfl rfl) (aD1 (ruD N) R u)) (d9 N u) rfl;have s1:aMs (lt sc h cell N m M T (R++[u]) c8 c9 (.str "") (sy N u.1) (sy N u.2.1) (tw N u.2.2.1) (tw N u.2.2.2) .uD)=.ok (.nx (lt sc h cell N m M T (R++[u]) c8 c9 (sy N i) (sy N u.1) (sy N u.2.1) (tw N u.2.2.1) (tw N u.2.2.2) .uD)):=lF (i:=10) (aF (z7 (aD (F_ (aF rfl rfl (gC (i:=18) rfl (by decide))) rfl) (aD (F_ (aF (aF rfl rfl (yP (i:=0) rfl hr0)) rfl rfl) rfl) (aD (F_ (aF rfl rfl (gC (i:=0) rfl (by lia))) rfl) rfl))) (by rw [aY];simp)) (aF (aF rfl rfl (fB cell 5 (by decide) (by decide))) rfl (b8 _ 3 (by decide))) i2) rfl;have e:(R++[spl u i]).map (ruD N)=R.map (ruD N)++[ruD N (spl u i)]:=by rw [List.map_append];rfl
 have s2:aMt (lt sc h cell N m M T (R++[u]) c8 c9 (sy N i) (sy N u.1) (sy N u.2.1) (tw N u.2.2.1) (tw N u.2.2.2) .uD)=.ok (.nx (lt sc h cell N m M T (R++[spl u i]) c8 c9 (sy N i) (sy N u.1) (sy N u.2.1) (tw N u.2.2.1) (tw N u.2.2.2) .uD)):=by
  unfold lt;rw [e];refine dB (i:=7) (aF (x:=.lst (R.map (ruD N))) (y:=.lst [ruD N (spl u i)]) ?_ (z7 (aD (F_ (cT (aD rfl (aD rfl (aD rfl (aD (x:=tw N (u.2.2.2++[i])) (aF (x:=tw N u.2.2.2) (y:=tw N [i]) rfl (cT (aD rfl rfl) (by rw [aY];simp)) (PN H _ _ (by simp;lia))) rfl)))) (by rw [aY];simp)) (d9 N (spl u i))) rfl) (by rw [aY];simp)) (xV _ _ ?_ (aZ (d9 N) _) (aZ (d9 N) [spl u i])))
  ·have hx:=wB (a:=dH 7) (lo:=fL) (hi:=eV (b1 aF8 dZ)) (ρ:=lt sc h cell N m M T (R++[u]) c8 c9 (sy N i) (sy N u.1) (sy N u.2.1) (tw N u.2.2.1) (tw N u.2.2.2) .uD) (xs:=(R++[u]).map (ruD N)) (l:=none) (h:=some (-1)) rfl rfl (jW (K3 rfl rfl)) (aZ (d9 N) _);refine hx.trans ?_;have e2:(R++[u]).map (ruD N)=R.map (ruD N)++[ruD N u]:=by rw [List.map_append];rfl
   rw [e2,aD2]
  ·rw [List.length_map,List.length_singleton,aY];lia
 exact aK s0 (aK s1 s2)
theorem aHb {R:List Ru} {u:Ru} {i:Nat} (hi:i<26) (hR:∀u∈R,Good M T (M++T.map tr) u) (hu:Good M T (M++T.map tr) u) (hn:((R++[u]).map pq).Nodup) (hRl:R.length<=400) (c9 cb cc cd ce cf:D) (Fs:List D):(aW aL2 (aW aLf aLg)) (lt sc h cell N m M T (R++[spl u i]) (.lst Fs) c9 (sy N i) cb cc cd ce cf)=.ok (.rt (.bl true)):=by
 have W:=aEe S;have hw:(N.getD i "" == "")=false:=by
  refine beq_eq_false_iff_ne.mpr fun z=>H.ne ?_
  have hl:i<N.length:=by have:=H.len;lia
  have e:N.getD i "" = N[i]:=by rw [List.getD_eq_getElem?_getD,List.getElem?_eq_getElem hl];rfl
  rw [<-z,e];exact List.getElem_mem hl
 have rb:=PQ (P:=prD N (List.range m) M T (R++[spl u i])) (F:=.lst Fs) (w:=N.getD i "") (fun _=>rfl) hw (aAl H W hR hu hn hRl);refine aK (aAo H S ..) (o5 (LK (aN6 (dC (k:=true) (aF rfl rfl ((wD (N.getD i "") "").trans (by rw [hw];rfl))))) (j_ (bF (aD rfl (aD rfl (aD rfl rfl))) ((dJ rfl).trans rb)) rfl)))
theorem aL6 {R:List Ru} (hR:∀u∈R,Good M T (M++T.map tr) u) (hn:(R.map pq).Nodup) (hRl:R.length<=400) (c9 cb cc cd ce cf:D):(aW aL2 (aW aLf aLg)) (lt sc h cell N m M T R (.lst (z8 N (aCq T M R))) c9 (.str "") cb cc cd ce cf)=.ok (.rt (.bl true)):=by
 have W:=aEe S;have m3:=S.m3;have ml:=S.ml;have tl:=S.tl;have so:=aD0 H W hR hn hRl;refine aK (aAo H S ..) ?_;have c1:∀x:D,(bTB (b2 (cC .ne) fQ (bC (.str "")))) (lt sc h cell N m M T R x c9 (.str "") cb cc cd ce (prD N (List.range m) M T R))=.ok false:=fun x=>dC (k:=false) (aF rfl rfl (wD "" ""))
 have c2:∀p,(bTB (b2 (cC .ne) lZ (l_ aO))) (lt sc h cell N m M T R (.lst (z8 N p)) c9 (.str "") cb cc cd ce (prD N (List.range m) M T R))=.ok p.isSome:=fun p=>dC (aF rfl (z7 (xs:=[]) rfl (by rw [aY];simp)) (aL0 N p))
 cases hf:aCq T M R with
 | none=>
  rw [hf] at so;have z1:=aH9 N (K:=List.range m) (M:=M) (T:=T) (R:=R) (by rw [List.length_range];lia) ⟨by lia,fun r hr=>by have:=(W.hm r hr).2.2;lia⟩ ⟨by lia,fun t ht=>by have:=(W.ht t ht).2.2.2;lia⟩ ⟨by lia,fun u hu=>by
   obtain ⟨t,ht,r,hr,_,Q⟩:=hR u hu;have h1:=(W.hm r hr).2.2;have h2:=(W.ht t ht).2.2.2;have h3:=Q.ol;rw [List.length_append] at h3;have h4:=Q.wl;exact ⟨by lia,by lia⟩⟩
  exact aK (sS (aDy (c1 _) (c2 none)) rfl) (j_ (bF (aD (bF (aD rfl rfl) ((dJ rfl).trans so)) (aD rfl rfl)) ((dJ rfl).trans z1)) rfl)
 | some p=>
  rw [hf] at so;have rb:=K9 (N:=N) (P:=prD N (List.range m) M T R) (p:=p) (fun _=>rfl) so;exact o5 (LK (aDy (c1 _) (c2 (some p))) (j_ (bF (aD rfl (aD rfl (aD rfl rfl))) ((dJ rfl).trans rb)) rfl))
end
end Lk49
end
section
namespace Lk49
open PySem L2 Mi
set_option maxHeartbeats 1000000 in
theorem main:∀ns:List Int,ns.length<=63->VG [.scr (ns.map D.int)]=.ok (.bl true):=fun ns _=>by
 obtain ⟨cs,e0⟩:=aKz ns [.uD,.uD,.uD,.uD,.uD,.uD,.uD,.uD,.uD,.uD,.uD,.uD,.uD,.uD];obtain ⟨cell,q1⟩:=jJ cs 0 (by lia);obtain ⟨N,a1,a2,a3,q2⟩:=aCh cs 1 (by lia);have H:Nms N:=⟨a1,a2,a3.1,a3.2.1,a3.2.2⟩
 rw [aKc N H.len] at q2;obtain ⟨m,M,T,n1,S,hn1,q3⟩:=aKl (N:=N) cs 4 (by lia);have m1:=S.m1;have m3:=S.m3;have ml:=S.ml;have tl:=S.tl;have hmul:M.length*T.length<=18:=Nat.mul_le_mul ml tl;obtain ⟨R0,n2,r1,r2,r3,r4,q4⟩:=aCo H.len H.nd cs (n:=n1) (aEd S) (aL1 S) (by lia);have nd0:(R0.map pq).Nodup:=r1.nodup_iff.mpr (K_ S.mn T S.tn);obtain ⟨sc,hsc⟩:∃sc:D,.scr (ns.map D.int)=sc:=⟨_,rfl⟩
 rw [hsc] at e0 ⊢;have hargs:(aB fO (aB eN (aB d_ aO))) (ls sc (dk cs n1) (.int cell) (.lst ((List.range 26).map (sy N))) (.lst ((List.range m).map (sy N))) (.lst (M.map (rwD N))) (.lst (T.map (tkD N))) .uD .uD .uD .uD .uD .uD .uD .uD .uD)=.ok [.lst (M.map (rwD N)),.lst (T.map (tkD N)),.lst ((List.range 26).map (sy N))]:=rfl;obtain ⟨R,n3,k1,k2,q5⟩:=aH3 (N:=N) hargs rfl q4 (by lia) (by lia);have good:∀u∈R,Good M T (M++T.map tr) u:=fun u hu=>r2 u (k1.subset hu)
 have nd:(R.map pq).Nodup:=nd0.sublist (k1.map pq);have Rl:R.length<=100:=Nat.le_trans k1.length_le r3;have G:=aEd S;have hM:∀r∈M,r.1<26/\r.2.1<26:=fun r hr=>⟨(G.mg r hr).1,(G.mg r hr).2.1⟩
 have hT:∀t∈T,t.1<26/\t.2.2.1<26:=fun t ht=>⟨(G.tg t ht).1,(G.tg t ht).2.2.1⟩
 have q6:=aCr H.len H.nd (R:=R) hM hT (fun u hu=>by
  obtain ⟨t,ht,r,hr,_,Q⟩:=good u hu;rw [Q.n1,Q.n2];exact ⟨(hT t ht).1,(hM r hr).1⟩) (by lia)
 obtain ⟨fp,hfp⟩:∃fp,aCq T M R=fp:=⟨_,rfl⟩
 rw [hfp] at q6;have s1:lw1 [sc,.lst (dk cs 0),.uD,.uD,.uD,.uD,.uD,.uD,.uD,.uD,.uD,.uD,.uD,.uD,.uD,.uD]=.ok (.nx [sc,.lst (dk cs 1),.int cell,.uD,.uD,.uD,.uD,.uD,.uD,.uD,.uD,.uD,.uD,.uD,.uD,.uD]):=iH (i:=2) (yO q1 rfl rfl) rfl;have s2:lw2 [sc,.lst (dk cs 1),.int cell,.uD,.uD,.uD,.uD,.uD,.uD,.uD,.uD,.uD,.uD,.uD,.uD,.uD]=.ok (.nx [sc,.lst (dk cs 4),.int cell,.lst ((List.range 26).map (sy N)),.uD,.uD,.uD,.uD,.uD,.uD,.uD,.uD,.uD,.uD,.uD,.uD]):=iH (i:=3) (mY (fs:=aO) (i:=1) (rest:=[]) rfl rfl rfl q2 (m_ ..) rfl) rfl;have s3:lw3 [sc,.lst (dk cs 4),.int cell,.lst ((List.range 26).map (sy N)),.uD,.uD,.uD,.uD,.uD,.uD,.uD,.uD,.uD,.uD,.uD,.uD]=.ok (.nx (ls sc (dk cs n1) (.int cell) (.lst ((List.range 26).map (sy N))) (.lst ((List.range m).map (sy N))) (.lst (M.map (rwD N))) (.lst (T.map (tkD N))) .uD .uD .uD .uD .uD .uD .uD .uD .uD)):=aHa (mY (i:=1) (fs:=aB d_ aO) (rest:=[.lst ((List.range 26).map (sy N))]) (aD rfl rfl) rfl rfl q3 (m_ ..) rfl) rfl rfl;have s4:lw4 (ls sc (dk cs n1) (.int cell) (.lst ((List.range 26).map (sy N))) (.lst ((List.range m).map (sy N))) (.lst (M.map (rwD N))) (.lst (T.map (tkD N))) .uD .uD .uD .uD .uD .uD .uD .uD .uD)=.ok (.nx (lt sc (dk cs n3) cell N m M T R .uD .uD .uD .uD .uD .uD .uD .uD)):=iH (i:=7) q5 rfl;have s5:lw5 (lt sc (dk cs n3) cell N m M T R .uD .uD .uD .uD .uD .uD .uD .uD)=.ok (.nx (lt sc (dk cs n3) cell N m M T R (.lst (z8 N fp)) .uD .uD .uD .uD .uD .uD .uD)):=dB (i:=8) (bF (aD rfl (aD rfl (aD rfl rfl))) ((dJ rfl).trans q6));obtain ⟨xe,hxe⟩:∃xe:D,.exc "Lacking" [("taker",N.getD 18 ""),("maker",N.getD 19 "")]=xe:=⟨_,rfl⟩
 have g18:∀ρ:List D,dH 3 ρ=.ok (.lst ((List.range 26).map (sy N)))->b2 getD d_ yV ρ=.ok (sy N 18):=fun ρ g=>aF g rfl (gC (i:=18) rfl (by decide))
 have g19:∀ρ:List D,dH 3 ρ=.ok (.lst ((List.range 26).map (sy N)))->b2 getD d_ T9 ρ=.ok (sy N 19):=fun ρ g=>aF g rfl (gC (i:=19) rfl (by decide))
 have s6:lw6 (lt sc (dk cs n3) cell N m M T R (.lst (z8 N fp)) .uD .uD .uD .uD .uD .uD .uD)=.ok (.nx (lt sc (dk cs n3) cell N m M T R (.lst (z8 N fp)) xe .uD .uD .uD .uD .uD .uD)):=by
  refine dB (i:=9) ?_;have ha:(aB (b2 getD d_ yV) (aB (b2 getD d_ T9) aO)) (lt sc (dk cs n3) cell N m M T R (.lst (z8 N fp)) .uD .uD .uD .uD .uD .uD .uD)=.ok [sy N 18,sy N 19]:=aD (g18 _ rfl) (aD (g19 _ rfl) rfl);unfold aJy;rw [ha,<-hxe];rfl
 have at1:mU ["Lacking"] "taker" 9 (lt sc (dk cs n3) cell N m M T R (.lst (z8 N fp)) xe .uD .uD .uD .uD .uD .uD)=.ok (sy N 18):=by rw [<-hxe];rfl
 have at2:mU ["Lacking"] "maker" 9 (lt sc (dk cs n3) cell N m M T R (.lst (z8 N fp)) xe .uD .uD .uD .uD .uD .uD)=.ok (sy N 19):=by rw [<-hxe];rfl
 have s7:lw7 (lt sc (dk cs n3) cell N m M T R (.lst (z8 N fp)) xe .uD .uD .uD .uD .uD .uD)=.ok (.nx (lt sc (dk cs n3) cell N m M T R (.lst (z8 N fp)) xe .uD .uD .uD .uD .uD .uD)):=sS (z6 (b:=true) (zK (bF (xs:=[tw N [18,19],tw N [18,19]]) (aD (cT (aD at1 (aD at2 rfl)) (by rw [aY];simp)) (aD (cT (aD (g18 _ rfl) (aD (g19 _ rfl) rfl)) (by rw [aY];simp)) rfl)) ((dJ rfl).trans (nY N 4 [18,19] (by simp)))))) rfl;have s8:lw8 (lt sc (dk cs n3) cell N m M T R (.lst (z8 N fp)) xe .uD .uD .uD .uD .uD .uD)=.ok (.nx (lt sc (dk cs n3) cell N m M T R (.lst (z8 N fp)) xe (.str "") .uD .uD .uD .uD .uD)):=dB (i:=10) rfl;refine call_v ?_;show aGm [sc,.uD,.uD,.uD,.uD,.uD,.uD,.uD,.uD,.uD,.uD,.uD,.uD,.uD,.uD,.uD]=_;rw [aL3];refine aK e0 (aK s1 (aK s2 (aK s3 (aK s4 (aK s5 (aK s6 (aK s7 (aK s8 ?_))))))));have hc1:(bTB (b2 (cC .eq) (b2 (aU .mod) cO VN) dZ)) (lt sc (dk cs n3) cell N m M T R (.lst (z8 N fp)) xe (.str "") .uD .uD .uD .uD .uD)=.ok (cell % 5==1):=dC (aF (aF rfl rfl (b8 cell 5 (by decide))) rfl (v_ _ _));have hc2:(bTB (b2 (cC .ne) dY (l_ aO))) (lt sc (dk cs n3) cell N m M T R (.lst (z8 N fp)) xe (.str "") .uD .uD .uD .uD .uD)=.ok (!R.isEmpty):=dC (aF rfl (z7 (xs:=[]) rfl (by rw [aY];simp)) (aMq N R));have fin:(aW aL2 (aW aLf aLg)) (lt sc (dk cs n3) cell N m M T R (.lst (z8 N fp)) xe (.str "") .uD .uD .uD .uD .uD)=.ok (.rt (.bl true)):=by
  rw [<-hfp];exact aL6 H S good nd (by lia) ..
 cases hb:(cell % 5==1)
 ·exact aK (sS (aFo (hc1.trans (by rw [hb]))) rfl) fin
 ·rcases List.eq_nil_or_concat R with hr|⟨R1,u,hr⟩
  ·exact aK (sS ((YG (hc1.trans (by rw [hb])) hc2).trans (by rw [hr];rfl)) rfl) fin
  ·rw [List.concat_eq_append] at hr;subst hr;have gu:=good u (by simp);have wl:u.2.2.2.length<=400:=by
    obtain ⟨t,ht,r,hr,hk,Q⟩:=gu;have:=Q.wl;lia
   rw [List.length_append,List.length_singleton] at Rl;obtain ⟨i,i1,q9⟩:=aL5 H S (sc:=sc) (h:=dk cs n3) (cell:=cell) (R:=R1) (u:=u) (by lia) wl (.lst (z8 N fp)) xe;have hcc:lc9 (lt sc (dk cs n3) cell N m M T (R1++[u]) (.lst (z8 N fp)) xe (.str "") .uD .uD .uD .uD .uD)=.ok true:=(YG (hc1.trans (by rw [hb])) hc2).trans (by cases R1 <;> rfl);exact aK (LK hcc q9) (aHb H S i1 (fun x hx=>good x (List.mem_append_left _ hx)) gu nd (by lia) ..)
end Lk49
end
section
open PySem PySem.W PyProof.Rows
def PySem.W.Fast.tw1954946768896969787 : Unit:=()
def PySem.W.Fast.tw13951367128995819538 : Unit:=()
def PySem.W.Fast.tw4295302480579239333 : Unit:=()
def PySem.W.Fast.tw1168712086458122200 : Unit:=()
def PySem.W.Fast.tw16998979207026796704 : Unit:=()
def PySem.W.Fast.tw12676127646532368788 : Unit:=()
def PySem.W.Fast.tw382110907217640573 : Unit:=()
def PySem.W.Fast.tw18411570966450258145 : Unit:=()
def PySem.W.Fast.tw394255636204072231 : Unit:=()
def PySem.W.Fast.tw9391506517069700740 : Unit:=()
def PySem.W.Fast.tw17663203917651810330 : Unit:=()
def PySem.W.Fast.tw10081646245814043987 : Unit:=()
def PySem.W.Fast.tw10642444304114252954 : Unit:=()
def PySem.W.Fast.tw13689969667003639496 : Unit:=()
def PySem.W.Fast.tw7219530762347903154 : Unit:=()
def PySem.W.Fast.tw4610660900298691363 : Unit:=()
def PySem.W.Fast.tw5583155092616482946 : Unit:=()
def PySem.W.Fast.tw16837732539101119350 : Unit:=()
def PySem.W.Fast.tw9300038259787450150 : Unit:=()
def PySem.W.Fast.tw9579765888289501044 : Unit:=()
def PySem.W.Fast.tw12204504619212811028 : Unit:=()
def PySem.W.Fast.tw4299967736069661758 : Unit:=()
def PySem.W.Fast.tw12364209121328578653 : Unit:=()
def PySem.W.Fast.tw17491841069298154333 : Unit:=()
def PySem.W.Fast.tw2997294481143174010 : Unit:=()
def PySem.W.Fast.tw1908070211160669578 : Unit:=()
def PySem.W.Fast.tw2644329968592487102 : Unit:=()
def PySem.W.Fast.tw11523331491071758294 : Unit:=()
def PySem.W.Fast.tw16787077659612563373 : Unit:=()
def PySem.W.Fast.tw17260385877939897087 : Unit:=()
def PySem.W.Fast.tw1100106421574890494 : Unit:=()
def PySem.W.Fast.tw18364116799309666653 : Unit:=()
def PySem.W.Fast.tw13170089442896865888 : Unit:=()
def PySem.W.Fast.tw9175018588421804973 : Unit:=()
def PySem.W.Fast.tw15285066160038482549 : Unit:=()
def PySem.W.Fast.tw10769391670839387416 : Unit:=()
def PySem.W.Fast.tw2956323268551332333 : Unit:=()
def PySem.W.Fast.tw11077485014580591785 : Unit:=()
def PySem.W.Fast.tw6086626892057519204 : Unit:=()
def PySem.W.Fast.tw7372785281742008189 : Unit:=()
def PySem.W.Fast.tw6116367531731037563 : Unit:=()
def PySem.W.Fast.tw4589768410255914004 : Unit:=()
def PySem.W.Fast.tw3454849772629448908 : Unit:=()
def PySem.W.Fast.tw16502131180540003351 : Unit:=()
def PySem.W.Fast.tw6520331109533477924 : Unit:=()
set_option maxRecDepth 100000 in
set_option maxHeartbeats 0 in
theorem PySem.Challenge.cw_hookmill_k49_lacking_holds : PySem.Challenge.rw_hookmill_k49_lacking.Holds := by
 w_on;o_law;k_head;(case hw=>w_witness2)
 k_fill
 refine Lk49.walk (l:=PySem.Challenge.rw_hookmill_k49_lacking) Lk49.main rfl rfl (fun w h Y=>PySem.W.kIn_of Y) ?F
 case F=>
  intro w mg fa h KX G hmg
  refine' Lk49.aK8 KX G hmg ?a0 ?a1 ?a2 ?a3 ?a4 ?a5 ?a6 ?a7 ?a8 ?a9 ?a10 ?a11 ?a12 ?a13 ?a14 ?a15 ?a16 ?a17 ?l17 ?c17 ?k17 ?rQ ?rR ?rS ?rT ?rV ?rW ?rX ?rY ?rZ ?t6 ?t7 ?t8 ?t9 ?tf ?tj ?tm ?tq ?tu ?pB ?tB ?tD ?tE ?tF ?tG ?pd ?tH ?tI ?tJ ?tK ?tL ?pf ?tM ?tN ?pg ?pb ?tO ?tP ?tQ ?tR ?tT ?tU ?tV ?tW ?tX ?tY ?u5 ?qf ?u7 ?u8 ?u9 ?ua ?ub ?uc ?ud ?ue ?qg ?uf ?ug ?uh ?ui ?uj ?uk ?ul ?um ?qh ?uo ?uq ?ur ?ut ?uv ?uw ?ux ?uy ?qi ?uz ?uA ?uB ?uC ?uD ?uE ?uF ?uG ?uH ?uI ?uJ ?uK ?uL ?uM ?uN ?uO ?uP ?uQ ?pF ?qj ?pA ?qN ?pG ?qk ?pH ?ql ?uR ?qm ?uS ?uT ?uU ?qo ?uV ?uW ?qO ?qP ?qQ ?qR ?qS ?qT ?qU ?qV ?pI ?pJ ?pK ?qW ?qX ?qY ?qZ ?r6 ?r8 ?r9 ?rf ?rg ?rh ?rj ?rq ?rA ?rB ?rC ?rD ?rE ?rF ?rG ?rH ?rJ ?rK ?rL ?rM
  (case a0|a1|a2|a3|a4|a5|a6|a7|a8|a9|a10|a11|a12|a13|a14|a15|a16=>refine' Lk49.aMh ?a ?b ?c ?d;(case a=>k_is);(case b=>k_is);(case c=>k_is);case d=>k_is)
  (case a17|l17|c17|k17|rQ|rR|rS|rT|rV|rW|rX|rY|rZ|t6|t7|t8|t9|tf|tj|tm|tq|tu|pB|tB|tD|tE|tF|tG|pd|tH|tI|tJ|tK|tL|pf|tM|tN|pg|pb|tO|tU|tV|tW|tX|tY|u5|qf|u7|u9|ua|ub|uc|ud|ue|qg|uf|uh|ui|uj|uk|ul|um|qh|uo|ur|ut|uv|uw|ux|uy|qi|uz|pF|qj|pA|qN|pG|qk|pH|ql|uR|qm|uS|uT|uU|qo|uV|uW|qP|qQ|qR|qS|qT|qU|qV|pI|pJ|pK|qX|qY|qZ|r6|r8|r9|rf|rh|rj|rq|rA|rB|rC|rD|rF|rG|rH|rJ|rK|rL|rM=>k_is)
  (case tP=>kts_exm)
  (case tQ=>kts_exm)
  (case tR=>kts_exm)
  (case tT=>kts_exm)
  (case u8=>kit_is)
  (case ug=>kit_is)
  (case uq=>kit_is)
  (case uA=>kit_is)
  (case uB=>kit_is)
  (case uC=>kit_is)
  (case uD=>kit_is)
  (case uE=>kit_is)
  (case uF=>kit_is)
  (case uG=>kit_is)
  (case uH=>kit_is)
  (case uI=>kit_is)
  (case uJ=>kit_is)
  (case uK=>kit_is)
  (case uL=>kit_is)
  (case uM=>kit_is)
  (case uN=>kit_is)
  (case uO=>kit_is)
  (case uP=>kit_is)
  (case uQ=>kit_is)
  (case qO=>kernel_rfl)
  (case qW=>kernel_rfl)
  (case rg=>kernel_rfl)
  (case rE=>kernel_rfl)
end
