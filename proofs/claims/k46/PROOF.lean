import PyProof.Rows.All
import Wide.All
import OpenK.AllK
import Wide.FinOn
import PyProof.EqAt
import PyProof.EqKinds
import PyProof.TupleCall
import Lean
import PyProof.Rows.SortRuns
import PySem.Syntax
import PyProof.NeKinds
import PyProof.WalkInts
import KE.KDictList
import PyProof.CompUse
import PyProof.StrWalks
import PyProof.EnumMake
import PyProof.EnumFor
import PyProof.StrCalls2
import PyProof.StrBlock2
import PyProof.StrBlockI
import PyProof.SliceStr2
import PyProof.ConsumeWalk
import PyProof.StrLawsJoin
import KE.KTryMore
import KE.KTryDeep
import OpenK.KOwn
import PyProof.ExcClass3
import KE.KIsAll
import PyProof.ExcArgsOwn
import PyProof.NsDelKeeps
import PyProof.ListRange
import PyProof.DictWalks
import KE.KEqDict
import PyProof.Rows.TupAdd
import PyProof.DictIter
import PyProof.AttrMissHeap
import PyProof.ZipIter
import PyProof.TupleIter
import PyProof.WalksMore
import PyProof.FactsAll.zip
import KE.KDictOf
import PyProof.Conv_int
import PyProof.Conv_int_bool
import PyProof.StrBlockL
import PyProof.MakeMany
import PyProof.MeetsStr2
import PyProof.CallRoads3
import PyProof.Rows.TupIn
import KE.KRevIter
import PyProof.StationsW
import OpenK.KCls
import PyProof.InstStoreFacts
import PyProof.StrLawsTight
import PySem.Challenge.RW_hookmill_k46_terms
set_option Elab.async false
set_option maxRecDepth 100000
set_option maxHeartbeats 4000000
noncomputable section
set_option linter.all false
set_option autoImplicit false
set_option genSizeOfSpec false
set_option genInjectivity true
abbrev nDb (x:PySem.Str):Prop := (x==("__debug__" : PySem.Str))=false
abbrev nCd (x:PySem.Str):Prop := (x==("__classdict__" : PySem.Str))=false
section
namespace L2
open PySem PySem.Spec PyProof.Rows
abbrev Key:=Sum Int Str
noncomputable def KR:Key->Value->Bool
 | .inl k,v=>Value.isInt k v
 | .inr x,v=>Value.isStrOf x v
noncomputable def aKj (w:World):Key->Int
 | .inl k=>hashInt k
 | .inr x=>hashStr w x
theorem c7:∀{k:Key} {v:Value},KR k v=true->(∃i t,k=Sum.inl i/\v=Value.int i t)\/(∃x t,k=Sum.inr x/\v=Value.str x t)
 | .inl i,v,h=>by
  obtain ⟨t,e⟩:=Value.isInt_shape (k:=i) (v:=v) h;exact .inl ⟨i,t,rfl,e⟩
 | .inr x,v,h=>by
  obtain ⟨t,e⟩:=Value.isStrOf_shape (x:=x) (v:=v) h;exact .inr ⟨x,t,rfl,e⟩
theorem OJ (i:Int) (t:Tok):KR (.inl i) (.int i t)=true:=by simp [KR,Value.isInt]
theorem O1 (x:Str) (t:Tok):KR (.inr x) (.str x t)=true:=by simp [KR,Value.isStrOf]
theorem aEf (a b:Int):decide ((Sum.inl a:Key)=Sum.inl b)=(a==b):=by
 by_cases e:a=b
 ·subst e;simp
 ·have h:¬(Sum.inl a:Key)=Sum.inl b:=fun q=>e (Sum.inl.inj q)
  rw [decide_eq_false h];exact (beq_eq_false_iff_ne.mpr e).symm
theorem aEg (a b:Str):decide ((Sum.inr a:Key)=Sum.inr b)=decide (a=b):=by
 by_cases e:a=b
 ·subst e;simp
 ·have h:¬(Sum.inr a:Key)=Sum.inr b:=fun q=>e (Sum.inr.inj q)
  rw [decide_eq_false h,decide_eq_false e]
theorem aEh (a:Int) (b:Str):decide ((Sum.inl a:Key)=Sum.inr b)=false:=decide_eq_false (fun q=>nomatch q)
theorem aEi (a:Str) (b:Int):decide ((Sum.inr a:Key)=Sum.inl b)=false:=decide_eq_false (fun q=>nomatch q)
noncomputable def fJ (prog:Program) (w:World):PySem.KeyKind prog w Key where
 is:=KR
 hash:=aKj w
 inj:=fun v a b ha hb=>by
  rcases c7 ha with ⟨i,t,rfl,rfl⟩|⟨x,t,rfl,rfl⟩
  ·rcases c7 hb with ⟨j,u,rfl,e⟩|⟨y,u,rfl,e⟩
   ·injection e with e1 _;rw [e1]
   ·exact nomatch e
  ·rcases c7 hb with ⟨j,u,rfl,e⟩|⟨y,u,rfl,e⟩
   ·exact nomatch e
   ·injection e with e1 _;rw [e1]
 byValue:=fun k v h=>by
  rcases c7 h with ⟨i,t,rfl,rfl⟩|⟨x,t,rfl,rfl⟩ <;> rfl
 pyHash:=fun hv h=>by
  rcases c7 hv with ⟨i,t,rfl,rfl⟩|⟨x,t,rfl,rfl⟩
  ·exact wpAny_pyHash_int h
  ·exact wpAny_pyHash_str h
 eqBool:=fun hu hv h=>by
  rcases c7 hu with ⟨i,t,rfl,rfl⟩|⟨x,t,rfl,rfl⟩
  ·rcases c7 hv with ⟨j,u,rfl,rfl⟩|⟨y,u,rfl,rfl⟩
   ·rw [aEf] at h;exact wpAny_eqBool_int h
   ·rw [aEh] at h;exact SeqAt.EqAt.int_str i t y u _ _ _ _ h
  ·rcases c7 hv with ⟨j,u,rfl,rfl⟩|⟨y,u,rfl,rfl⟩
   ·rw [aEi] at h;exact SeqAt.EqAt.str_int x t j u _ _ _ _ h
   ·rw [aEg] at h;exact wpAny_eqBool_str h
 «strs»:=fun k x t v h=>by
  rcases c7 h with ⟨i,u,rfl,e⟩|⟨y,u,rfl,e⟩
  ·exact nomatch e
  ·injection e with e1 _
   subst e1;cases v <;> rfl
theorem z_ (prog:Program) (w:World) (i:Int) (t:Tok):(fJ prog w).is (.inl i) (.int i t)=true:=OJ i t
theorem A_ (prog:Program) (w:World) (x:Str) (t:Tok):(fJ prog w).is (.inr x) (.str x t)=true:=O1 x t
end L2
namespace L2
open PySem PySem.Spec PyProof.Rows
inductive V where
 | non|bl (b:Bool)|int (i:Int)|str (x:Str)|byt (b:Array UInt8)|flt (b:UInt64)|ref (a:Addr)|ty (n:String)
 deriving DecidableEq
noncomputable def RelV:V->Value->Prop
 | .non,u=>u=Value.none
 | .bl b,u=>u=Value.bool b
 | .int i,u=>∃t,u=Value.int i t
 | .str x,u=>∃t,u=Value.str x t
 | .byt b,u=>∃t,u=Value.bytes b t
 | .flt b,u=>∃t,u=Value.float b t
 | .ref a,u=>u=Value.ref a
 | .ty n,u=>u=Value.type n
abbrev Vals:List V->List Value->Prop:=Paired RelV
theorem Vals.length {xs:List V} {us:List Value} (r:Vals xs us):xs.length=us.length:=Paired.length r
theorem Vals.get:∀{xs:List V} {us:List Value} {i:Nat} {x:V},Vals xs us->xs[i]?=some x->∃u,us[i]?=some u/\RelV x u
 | _,_,_,_,.nil,e=>by simp at e
 | _,_,0,_,.cons r _,e=>by simp at e;subst e;exact ⟨_,rfl,r⟩
 | _,_,i+1,x,.cons _ t,e=>by
  obtain ⟨u,h1,h2⟩:=Vals.get (i:=i) (x:=x) t (by simpa using e);exact ⟨u,by simpa using h1,h2⟩
theorem Vals.set {x:V} {u:Value} (r:RelV x u):∀{xs:List V} {us:List Value} (i:Nat),Vals xs us->Vals (xs.set i x) (us.set i u)
 | _,_,_,.nil=>.nil
 | _,_,0,.cons _ t=>.cons r t
 | _,_,i+1,.cons q t=>.cons q (Vals.set r i t)
theorem Vals.append:∀{xs ys:List V} {us ws:List Value},Vals xs us->Vals ys ws->Vals (xs++ys) (us++ws)
 | _,_,_,_,.nil,s=>s
 | _,_,_,_,.cons r t,s=>.cons r (Vals.append t s)
theorem Vals.take:∀{xs:List V} {us:List Value} (n:Nat),Vals xs us->Vals (xs.take n) (us.take n)
 | _,_,0,_=>.nil
 | _,_,_+1,.nil=>.nil
 | _,_,n+1,.cons r t=>.cons r (Vals.take n t)
theorem Vals.drop:∀{xs:List V} {us:List Value} (n:Nat),Vals xs us->Vals (xs.drop n) (us.drop n)
 | _,_,0,r=>r
 | _,_,_+1,.nil=>.nil
 | _,_,n+1,.cons _ t=>Vals.drop n t
noncomputable def WF:Option V->Option Value->Prop
 | some v,some u=>RelV v u
 | none,none=>True
 | _,_=>False
noncomputable def KV {κ:Type}:List (κ×V)->List (κ×Value)->Prop:=Paired fun (p:κ×V) (q:κ×Value)=>p.1=q.1/\RelV p.2 q.2
noncomputable def kV:Key->V
 | .inl i=>.int i
 | .inr x=>.str x
inductive HO where
 | lst (xs:List V)
 | tup (xs:List V)
 | dK (kvs:List (Key×V))|dT (kvs:List (List Key×V))
 | set (S:Int->Bool) (n:Nat)
 | ins (C dx:Addr) (fs:List (Str×V))
 | own (x:Addr)
 | xd (fs:List (Str×V))
 | met (f x:Addr)
 | rng (lo hi:Int)
 | frz (o:Obj) (u:HO)
 | tbl (ps:Array Value)
 | ext (φ:Heap->Prop)
abbrev Hp:=Addr->Option HO
def upd (H:Hp) (a:Addr) (o:HO):Hp:=fun b=>if b=a then some o else H b
theorem aL {H:Hp} {a:Addr} {o:HO}:upd H a o a=some o:=by unfold upd;rw [if_pos rfl]
theorem bB {H:Hp} {a b:Addr} {o:HO} (h:b≠a):upd H a o b=H b:=by unfold upd;rw [if_neg h]
theorem BJ {H:Hp} {a:Addr} {o u:HO}:upd (upd H a o) a u=upd H a u:=by
 funext b;unfold upd;split <;> rfl
theorem aBe {H:Hp} {a b:Addr} {o u:HO} (h:H a=some o) (h':H b=some u) (d:o≠u):a≠b:=by
 intro e;subst e;rw [h] at h';exact d (Option.some.inj h')
theorem b_ {H:Hp} {a b:Addr} {o:HO} (h:H a=some o) (h':H b=none):a≠b:=by
 intro e;subst e;rw [h] at h';cases h'
noncomputable def j6 (h:Heap) (a:Addr) (its:Array Value):Prop:=∃o,h.get? a=some o/\o.cls=.type "tuple"/\∃n,(o.data,o.dict)=(Data.seq its n,none)
theorem j6.tup {h:Heap} {a:Addr} {its:Array Value} (t:j6 h a its):IsTup h a its:=let ⟨o,e,c,n,d⟩:=t;⟨o,e,c,n,congrArg (·.1) d⟩
theorem j6.bare {h:Heap} {a:Addr} {its:Array Value} (t:j6 h a its):∃o,h.get? a=some o/\o.dict=none:=let ⟨o,e,_,_,d⟩:=t;⟨o,e,congrArg (·.2) d⟩
theorem j6.new (h:Heap) (items:Array Value):j6 (h.push {cls:=.type "tuple",data:=.seq items}) h.objs.size items:=⟨_,Heap.get?_push_size _ rfl,rfl,_,rfl⟩
section
variable (P:Program) (w:World)
noncomputable def gJ (H:Hp) (h:Heap) (a:Addr):HO->Prop
 | .lst xs=>xs.length<=sizeLine/\∃(its:List Value) (n:Nat),Vals xs its/\h.get? a=some {cls:=.type "list",data:=.seq its.toArray n}
 | .tup xs=>xs.length<=sizeLine/\∃its:List Value,Vals xs its/\j6 h a its.toArray
 | .dK kvs=>kvs.length<=sizeLine/\(a==sysModules)=false/\∃vs,KV kvs vs/\h.DictOf (fJ P w) a vs
 | .dT kvs=>kvs.length<=sizeLine/\(a==sysModules)=false/\∃xs:List (List Key×Addr×Value),
   Paired (fun (p:List Key×V) (q:List Key×Addr×Value)=>p.1=q.1/\H q.2.1=some (.tup (p.1.map kV))/\RelV p.2 q.2.2) kvs xs/\
   ∃o es ep,h.get? a=some o/\o.ExactDict/\o.data=.dict es ep/\es.toList=xs.map (entryOfKey (tupleKind (fJ P w)))/\(xs.map (·.1)).Nodup
 | .set S n=>h.SetOf (intKind P w) a S n
 | .ins C dx fs=>H dx=some (.own a)/\fs.length<=1000/\dx≠a/\h.get? a=some (PySem.W.instObj C dx)/\
   ∃mA,h.Ns1 dx mA/\(∀f,WF (fs.lookup f) (mA f))/\PySem.Within mA (fs.map (·.1))
 | .own _=>∃o,h.get? a=some o
 | .xd fs=>∃mA,h.Ns1 a mA/\∀f,WF (fs.lookup f) (mA f)
 | .rng lo hi=>∃t u v,h.get? a=some {cls:=.type "range",data:=.fields #[.int lo t,.int hi u,.int 1 v]}
 | .frz o u=>h.get? a=some o/\gJ H h a u
 | .tbl ps=>h.get? a=some {cls:=.none,data:=.fields ps}
 | .met f x=>h.get? a=some (PySem.W.methodObj (.ref f) (.ref x))
 | .ext φ=>φ h/\(∃o,h.get? a=some o)/\∀h1 h2:Heap,φ h1->(∀o,h1.get? a=some o->h2.get? a=some o)->φ h2
def HOk (H:Hp) (h:Heap):Prop:=∀a o,H a=some o->gJ P w H h a o
end
section
variable {P:Program} {w:World} {H H':Hp} {h h':Heap} {a:Addr} {o:HO}
theorem gJ.lt (x:gJ P w H h a o):a<h.objs.size:=by
 cases o with
 | lst xs=>obtain ⟨_,_,_,_,e⟩:=x;exact Heap.lt_size e
 | tup xs=>obtain ⟨_,_,_,p⟩:=x;exact p.tup.lt
 | dK kvs=>obtain ⟨_,_,_,_,o,_,_,e,_⟩:=x;exact Heap.lt_size e
 | dT kvs=>obtain ⟨_,_,_,_,o,_,_,e,_⟩:=x;exact Heap.lt_size e
 | set S n=>obtain ⟨o,_,_,_,e,_⟩:=x;exact Heap.lt_size e
 | ins C dx fs=>obtain ⟨_,_,_,e,_⟩:=x;exact Heap.lt_size e
 | own y=>obtain ⟨_,e⟩:=x;exact Heap.lt_size e
 | xd fs=>obtain ⟨_,⟨_,_,_,e,_⟩,_⟩:=x;exact Heap.lt_size e
 | rng lo hi=>obtain ⟨_,_,_,e⟩:=x;exact Heap.lt_size e
 | frz ob u=>obtain ⟨e,_⟩:=x;exact Heap.lt_size e
 | tbl ps=>exact Heap.lt_size (show h.get? a=some _ from x)
 | met f y=>exact Heap.lt_size (show h.get? a=some _ from x)
 | ext φ=>obtain ⟨_,⟨_,e⟩,_⟩:=x;exact Heap.lt_size e
theorem Paired.aIf {α β:Type} {F G:α->β->Prop}:∀{l₁:List α} {l₂:List β},Paired F l₁ l₂->(∀a b,F a b->G a b)->Paired G l₁ l₂
 | _,_,.nil,_=>.nil
 | _,_,.cons r t,f=>.cons (f _ _ r) (Paired.aIf t f)
theorem gJ.stay (x:gJ P w H h a o) (k:∀b u,(b=a\/H b=some (.own a))->h.get? b=some u->h'.get? b=some u)
  (ho:∀b,H b=some (.own a)->H' b=some (.own a)) (ht:∀b xs,H b=some (.tup xs)->H' b=some (.tup xs)):gJ P w H' h' a o:=by
 induction o with
 | lst xs=>obtain ⟨z,its,n,r,e⟩:=x;exact ⟨z,its,n,r,k _ _ (.inl rfl) e⟩
 | tup xs=>obtain ⟨z,its,r,ob,e,c⟩:=x;exact ⟨z,its,r,ob,k _ _ (.inl rfl) e,c⟩
 | dK kvs=>obtain ⟨z,y,vs,r,ob,es,ep,e,c⟩:=x;exact ⟨z,y,vs,r,ob,es,ep,k _ _ (.inl rfl) e,c⟩
 | dT kvs=>
  obtain ⟨z,y,xs,r,ob,es,ep,e,c⟩:=x;exact ⟨z,y,xs,Paired.aIf r fun p q z=>⟨z.1,ht _ _ z.2.1,z.2.2⟩,ob,es,ep,k _ _ (.inl rfl) e,c⟩
 | set S n=>obtain ⟨ob,es,ep,t,e,c⟩:=x;exact ⟨ob,es,ep,t,k _ _ (.inl rfl) e,c⟩
 | ins C dx fs=>
  obtain ⟨d,z,ne,e,mA,⟨od,es,ep,e2,c⟩,r⟩:=x;exact ⟨ho _ d,z,ne,k _ _ (.inl rfl) e,mA,⟨od,es,ep,k _ _ (.inr d) e2,c⟩,r⟩
 | own y=>obtain ⟨ob,e⟩:=x;exact ⟨ob,k _ _ (.inl rfl) e⟩
 | xd fs=>obtain ⟨mA,⟨od,es,ep,e,c⟩,r⟩:=x;exact ⟨mA,⟨od,es,ep,k _ _ (.inl rfl) e,c⟩,r⟩
 | rng lo hi=>obtain ⟨t,u,v,e⟩:=x;exact ⟨t,u,v,k _ _ (.inl rfl) e⟩
 | frz ob u ih=>obtain ⟨e,q⟩:=x;exact ⟨k _ _ (.inl rfl) e,ih q⟩
 | tbl ps=>
  have e:h.get? a=some {cls:=.none,data:=.fields ps}:=x;show h'.get? a=some {cls:=.none,data:=.fields ps};exact k a _ (.inl rfl) e
 | met f y=>
  have e:h.get? a=some (PySem.W.methodObj (.ref f) (.ref y)):=x;show h'.get? a=some (PySem.W.methodObj (.ref f) (.ref y));exact k a _ (.inl rfl) e
 | ext φ=>obtain ⟨p,⟨o,e⟩,st⟩:=x;exact ⟨st _ _ p fun o q=>k _ _ (.inl rfl) q,⟨o,k _ _ (.inl rfl) e⟩,st⟩
theorem HOk.lt (x:HOk P w H h) (e:H a=some o):a<h.objs.size:=(x a o e).lt
theorem HOk.fresh (x:HOk P w H h) (e:h.objs.size<=a):H a=none:=by
 cases q:H a with
 | none=>rfl
 | some u=>exact absurd (Nat.lt_of_lt_of_le (x.lt q) e) (Nat.lt_irrefl _)
theorem HOk.kept (x:HOk P w H h) (k:∀b u,h.get? b=some u->h'.get? b=some u):HOk P w H h':=fun a o e=>
 (x a o e).stay (fun b u _ q=>k b u q) (fun _ q=>q) fun _ _ q=>q
theorem HOk.laid (x:HOk P w H h) (k:∀b u,h.get? b=some u->h'.get? b=some u) (hp:h.objs.size<=a) (new:gJ P w (upd H a o) h' a o):HOk P w (upd H a o) h':=fun b u e=>by
 have hn:=x.fresh hp;by_cases hb:b=a
 ·subst hb;rw [aL] at e;cases e;exact new
 ·rw [bB hb] at e;exact (x b u e).stay (fun c v _ q=>k c v q) (fun c q=>by rw [bB (b_ q hn)];exact q) fun c xs q=>by rw [bB (b_ q hn)];exact q
end
def Rd (H:Hp) (a:Addr) (u:HO):Prop:=H a=some u\/∃o,H a=some (.frz o u)
theorem Rd.ok {P:Program} {w:World} {H:Hp} {h:Heap} {a:Addr} {u:HO} (r:Rd H a u) (x:HOk P w H h):gJ P w H h a u:=by
 rcases r with r|⟨o,r⟩
 ·exact x a u r
 ·obtain ⟨_,q⟩:=x a _ r;exact q
noncomputable def Mut:Option HO->Prop
 | some (.lst _)=>True
 | some (.dK _)=>True
 | some (.dT _)=>True
 | some (.set _ _)=>True
 | some (.ins _ _ _)=>True
 | some (.ext _)=>True
 | _=>False
section
variable {P:Program} {w:World} {H:Hp} {h h':Heap} {x e:Addr} {o':HO}
theorem HOk.write (ok:HOk P w H h) (mu:Mut (H x)) (he:e=x\/H e=some (.own x)) (k:∀b u,b≠e->h.get? b=some u->h'.get? b=some u) (heo:∃u,h'.get? e=some u)
  (new:gJ P w (upd H x o') h' x o'):HOk P w (upd H x o') h':=fun b u q=>by
 have nown:∀c y,H c=some (.own y)->c≠x:=fun c y r z=>by subst z;rw [r] at mu;exact mu
 have ntup:∀c xs,H c=some (.tup xs)->c≠x:=fun c xs r z=>by subst z;rw [r] at mu;exact mu
 by_cases hb:b=x
 ·subst hb;rw [aL] at q;cases q;exact new
 ·rw [bB hb] at q;by_cases hbe:b=e
  ·have q':H b=some (.own x):=by
    rcases he with z|z
    ·exact absurd (hbe.trans z) hb
    ·rw [hbe];exact z
   rw [q] at q';cases q';obtain ⟨v,hv⟩:=heo;exact ⟨v,by rw [hbe];exact hv⟩
  ·refine (ok b u q).stay (fun c v hc r=>k c v ?_ r) (fun c r=>by rw [bB (nown c b r)];exact r) fun c xs r=>by rw [bB (ntup c xs r)];exact r
   rcases hc with rfl|hc
   ·exact hbe
   ·rintro rfl;rcases he with z|z
    ·exact nown c b hc z
    ·rw [hc] at z;cases z;exact hb rfl
end
structure Un (fs ex:List Addr) (H H':Hp) (h h':Heap):Prop where
 keep:∀b o,h.get? b=some o->H b=none->b∉fs->b∉ex->h'.get? b=some o
 slot:∀b o,h.get? b=some o->H b=none->b∈fs->b∉ex->∃sl,h'.get? b=some {o with slots:=sl}
 free:∀b o,h.get? b=some o->H b=none->b∉ex->H' b=none
 there:∀b o,h.get? b=some o->b∉ex->∃o',h'.get? b=some o'
 tups:∀b xs,H b=some (.tup xs)->H' b=some (.tup xs)
 frzs:∀b o u,H b=some (.frz o u)->H' b=some (.frz o u)
 tbls:∀b ps,H b=some (.tbl ps)->∃more,H' b=some (.tbl (ps++more))
section
variable {fs fs' ex ex':List Addr} {H H1 H2:Hp} {h h1 h2 h':Heap} {a x e:Addr} {o:HO}
theorem Un.any (u:Un fs ex H H1 h h1) {b:Addr} {ob:Obj} (q:h.get? b=some ob) (n:H b=none) (hx:b∉ex):∃sl,h1.get? b=some {ob with slots:=sl}:=by
 by_cases hb:b∈fs
 ·exact u.slot b ob q n hb hx
 ·exact ⟨ob.slots,u.keep b ob q n hb hx⟩
theorem Un.kept (k:∀b u,h.get? b=some u->h'.get? b=some u):Un fs ex H H h h':=
 ⟨fun b ob q _ _ _=>k b ob q,fun b ob q _ _ _=>⟨ob.slots,k b ob q⟩,fun _ _ _ n _=>n,fun b ob q _=>⟨ob,k b ob q⟩,fun _ _ q=>q,fun _ _ _ q=>q,fun _ ps q=>⟨#[],by rw [q];simp⟩⟩
theorem Un.refl:Un fs ex H H h h:=Un.kept fun _ _ q=>q
theorem Un.laid (k:∀b u,h.get? b=some u->h'.get? b=some u) (hp:h.objs.size<=a) (hn:H a=none):Un fs ex H (upd H a o) h h' where
 keep:=fun b u q _ _ _=>k b u q
 slot:=fun b u q _ _ _=>⟨u.slots,k b u q⟩
 free:=fun b u q n _=>by rw [bB (Nat.ne_of_lt (Nat.lt_of_lt_of_le (Heap.lt_size q) hp))];exact n
 there:=fun b u q _=>⟨u,k b u q⟩
 tups:=fun b xs q=>by rw [bB (b_ q hn)];exact q
 frzs:=fun b u xs q=>by rw [bB (b_ q hn)];exact q
 tbls:=fun b ps q=>⟨#[],by rw [bB (b_ q hn),q];simp⟩
theorem Un.write (mu:Mut (H x)) (he:e=x\/H e=some (.own x)) (k:∀b u,b≠e->h.get? b=some u->h'.get? b=some u) (heo:∃u,h'.get? e=some u):Un fs ex H (upd H x o) h h':=by
 have hx:∀b,H b=none->b≠x:=fun b n z=>by subst z;rw [n] at mu;exact mu
 have hb:∀b,H b=none->b≠e:=fun b n z=>by
  subst z;rcases he with r|r
  ·exact hx b n r
  ·rw [n] at r;cases r
 have hm:∀b u,H b=some u->¬Mut (some u)->b≠x:=fun b u q nm z=>by subst z;rw [q] at mu;exact nm mu
 refine ⟨fun b u q n _ _=>k b u (hb b n) q,fun b u q n _ _=>⟨u.slots,k b u (hb b n) q⟩,fun b u q n _=>by rw [bB (hx b n)];exact n,fun b u q _=>?_,
  fun b xs q=>by rw [bB (hm b _ q fun z=>z)];exact q,fun b u xs q=>by rw [bB (hm b _ q fun z=>z)];exact q,fun b ps q=>⟨#[],by rw [bB (hm b _ q fun z=>z),q];simp⟩⟩
 by_cases hbe:b=e
 ·subst hbe;exact heo
 ·exact ⟨u,k b u hbe q⟩
end
noncomputable def trk (h:Heap) (H:Hp):List Addr:=(List.range h.objs.size).filter fun a=>(H a).isSome
def WL (h:Heap) (H:Hp):Heap:=PySem.W.hideAll h (trk h H)
theorem O2 (h:Heap) (H:Hp):(WL h H).objs.size=h.objs.size:=PySem.W.hideAll_size _ _
theorem WM {h:Heap} {H:Hp} {b:Addr} {o:Obj} (e:h.get? b=some o) (n:H b=none):(WL h H).get? b=some o:=
 PySem.W.hideAll_get _ e fun hm=>by
  have q:(H b).isSome=true:=(List.mem_filter.mp hm).2;rw [n] at q;simp at q
theorem aBf {h:Heap} {H:Hp} {b:Addr} {o:Obj} (e:(WL h H).get? b=some o):h.get? b=some o/\H b=none:=by
 have e':h.get? b=some o:=PySem.W.of_hideAll (trk h H) e;refine ⟨e',?_⟩;cases q:H b with
 | none=>rfl
 | some x=>
  have hm:b∈trk h H:=List.mem_filter.mpr ⟨List.mem_range.mpr (Heap.lt_size e'),by simp [q]⟩;have z:(WL h H).get? b=none:=PySem.W.hideAll_none (trk h H) hm;rw [z] at e;cases e
end L2
namespace L2
open PySem PySem.Spec PyProof.Rows
structure Mod (K:PySem.W.Frag) (mg:Str->Option Value) (base:Heap):Prop where
 kin:K.In base
 glob:base.Ns mainGlobals mg
 blt:∃mb,base.Ns builtinsNs mb/\∀x:Str,x ≠ "__name__"->mb x=bootBuiltins x
 nolimit:base.NoLimit
/-- the context: a def's body (or a comprehension's block) running. base: fixed through the whole law; s₀, H₀: the entry; outer: the frames whose slots others may change (a def's callers); stack: all frames that run;
   ex: iterators that were made ahead of the entry and are walked here (a comprehension's); fn: the names whose cells were made at the entry (a def: all; a comprehension's block: its own); calm: not within an except suite; pn: pins that every state bears; xe: what is wanted of an exception that leaves the code -/
structure Cx where
 prog:Program
 w:World
 K:PySem.W.Frag
 mg:Str->Option Value
 base:Heap
 A:Around
 N:List Str
 s₀:Shared
 H₀:Hp
 env:Env
 outer:List Env
 stack:List Env
 ex:List Addr
 fn:Str->Bool
 calm:Bool
 pn:List (Addr×Obj)
 xe:Value->Shared->Prop
def frs (l:List Env):List Addr:=l.filterMap (·.frame)
abbrev Cx.fs (X:Cx):List Addr:=frs X.outer
noncomputable def Vis (sc:Scope) (x:Str):Prop:=sc.names.lookup x=some .local\/sc.names.lookup x=some .cell\/sc.names.lookup x=some .free
noncomputable def Loc (sc:Scope) (x:Str):Prop:=sc.names.lookup x=some .local\/sc.names.lookup x=some .cell
noncomputable def Look (env:Env) (h:Heap) (m:Str->Option Value) (x:Str) (u:Value):Prop:=
 (env.kindOf x=some .local/\m x=some u)\/((env.kindOf x=some .cell\/env.kindOf x=some .free)/\∃c,env.cells.lookup x=some c/\h.IsCell c (some u))
structure Cx.Ok (X:Cx):Prop where
 mod:Mod X.K X.mg X.base
 kind:X.env.scope.kind=.function
 glob:X.env.globals=mainGlobals
 blt:X.env.builtins=builtinsNs
 above:X.s₀.heap.objs.size<=X.env.locals
 inj:∀x y c,X.env.cells.lookup x=some c->X.env.cells.lookup y=some c->x=y
 has:∀x,(X.env.kindOf x=some .cell\/X.env.kindOf x=some .free)->∃c,X.env.cells.lookup x=some c
 cab:∀x c,X.fn x=true->X.env.cells.lookup x=some c->X.s₀.heap.objs.size<=c
 hd:X.calm=true->X.A.handled=none
 frames:X.A.frames=some X.stack
 stk:X.stack=X.outer\/(X.stack=X.env::X.outer/\X.env.frame=some X.env.locals)
 exf:∀b∈X.ex,b≠X.env.locals/\∀x c,X.env.cells.lookup x=some c->c≠b
 bs:∀b o,X.base.get? b=some o->X.s₀.heap.get? b=some o/\X.H₀ b=none
 bsz:X.base.objs.size<=X.s₀.heap.objs.size
 noex:∀b o,X.base.get? b=some o->b∉X.ex
 exfs:∀b∈X.ex,b∉X.fs
 KY:X.s₀.heap.FunFrames X.base X.outer
 frf:∀b∈X.fs,X.H₀ b=none
structure Inv (X:Cx) (pins:List (Addr×Obj)) (σ:List (Option V)) (H:Hp) (s:Shared):Prop where
 ok:X.Ok
 os:s.os=X.s₀.os
 bare:AllBare s.gens
 base:Un X.fs X.ex X.H₀ H X.s₀.heap s.heap
 loc:∃m,s.heap.Ns X.env.locals m/\∀(i:Nat) (x:Str) (v:V),X.N[i]?=some x->σ[i]?=some (some v)->Vis X.env.scope x->∃u,RelV v u/\Look X.env s.heap m x u
 cell:∀x c,X.env.cells.lookup x=some c->∃v,s.heap.IsCell c v
 free:H X.env.locals=none
 freeC:∀x c,X.env.cells.lookup x=some c->H c=none
 pin:∀p∈X.pn++pins,s.heap.get? p.1=some p.2/\H p.1=none/\p.1≠X.env.locals/\p.1∉X.fs/\∀v,p.2.data≠.cell v
 hok:HOk X.prog X.w H s.heap
 len:σ.length=X.N.length
section
variable {X:Cx} {pins:List (Addr×Obj)} {σ:List (Option V)} {H H':Hp} {s:Shared} {h':Heap}
theorem Cx.Ok.aKk (ok:X.Ok) {b:Addr} {o:Obj} (e:X.base.get? b=some o):b∉X.fs:=fun hb=>by
 have:=(ok.KY.mem hb).1;rw [e] at this;cases this
theorem Inv.bs (I:Inv X pins σ H s):∀b o,X.base.get? b=some o->s.heap.get? b=some o/\H b=none:=fun b o e=>
 ⟨I.base.keep b o (I.ok.bs b o e).1 (I.ok.bs b o e).2 (I.ok.aKk e) (I.ok.noex b o e),I.base.free b o (I.ok.bs b o e).1 (I.ok.bs b o e).2 (I.ok.noex b o e)⟩
theorem Inv.bk (I:Inv X pins σ H s):∀b o,X.base.get? b=some o->s.heap.get? b=some o:=fun b o e=>(I.bs b o e).1
theorem Inv.mod (I:Inv X pins σ H s):Mod X.K X.mg X.base:=I.ok.mod
theorem Inv.kIn (I:Inv X pins σ H s):X.K.In s.heap:=I.ok.mod.kin.keeps I.bk
theorem Inv.lt (I:Inv X pins σ H s):X.env.locals<s.heap.objs.size:=let ⟨_,hn,_⟩:=I.loc;hn.lt
theorem Inv.sz (I:Inv X pins σ H s):X.s₀.heap.objs.size<=s.heap.objs.size:=Nat.le_trans I.ok.above (Nat.le_of_lt I.lt)
theorem Inv.aJy (I:Inv X pins σ H s) {a:Addr} (h:s.heap.objs.size<=a):a∉X.fs:=fun hb=>by
 obtain ⟨_,o,ho,_⟩:=I.ok.KY.mem hb;exact absurd (Nat.lt_of_lt_of_le (Heap.lt_size ho) (Nat.le_trans I.sz h)) (Nat.lt_irrefl _)
theorem Inv.cne (I:Inv X pins σ H s):∀x c,X.env.cells.lookup x=some c->c≠X.env.locals:=fun x c e z=>by
 obtain ⟨v,o,ho,hd⟩:=I.cell x c e;obtain ⟨m,⟨o',es,ep,ho',hd',_⟩,_⟩:=I.loc;rw [z,ho'] at ho;cases ho;rw [hd'] at hd;cases hd
theorem Inv.KY (I:Inv X pins σ H s):s.heap.FunFrames X.base X.outer:=by
 have all:∀(l:List Env),(∀b∈frs l,b∈X.fs)->X.s₀.heap.FunFrames X.base l->s.heap.FunFrames X.base l:=by
  intro l;induction l with
  | nil=>intro _ _;trivial
  | cons env r ih=>
   intro hs hl;obtain ⟨hk,⟨L,o,hf,hn,ho,hd⟩,hr⟩:=hl;have hL:L∈X.fs:=hs L (by unfold frs;rw [List.filterMap_cons,hf];exact List.mem_cons_self);obtain ⟨sl,e⟩:=I.base.slot L o ho (I.ok.frf L hL) hL fun z=>I.ok.exfs L z hL
   exact ⟨hk,⟨L,_,hf,hn,e,hd⟩,ih (fun b hb=>hs b (by unfold frs;rw [List.filterMap_cons,hf];exact List.mem_cons_of_mem _ hb)) hr⟩
 exact all X.outer (fun _ hb=>hb) I.ok.KY
theorem Inv.stack (I:Inv X pins σ H s):s.heap.FunFrames X.base X.stack:=by
 rcases I.ok.stk with e|⟨e,hf⟩
 ·rw [e];exact I.KY
 ·rw [e];obtain ⟨m,hn,_⟩:=I.loc;refine .cons (by rw [I.ok.kind];decide) hf hn ?_ I.KY;exact Heap.get?_none_of_le (Nat.le_trans I.ok.bsz I.ok.above)
theorem Inv.GX (I:Inv X pins σ H s):∀b∈frs X.stack,b∈X.env.locals::X.fs:=fun b hb=>by
 rcases I.ok.stk with e|⟨e,hf⟩
 ·rw [e] at hb;exact List.mem_cons_of_mem _ hb
 ·rw [e] at hb;unfold frs at hb;rw [List.filterMap_cons,hf] at hb;exact hb
theorem Inv.vI (I:Inv X pins σ H s):∀b∈frs X.stack,H b=none:=fun b hb=>by
 rcases List.mem_cons.mp (I.GX b hb) with e|hb
 ·rw [e];exact I.free
 ·obtain ⟨_,o,ho,_⟩:=I.ok.KY.mem hb;exact I.base.free b o ho (I.ok.frf b hb) fun z=>I.ok.exfs b z hb
theorem Inv.step {g':Array GenState} {t':Nat} {d':Drawn} {ch:List Addr} (I:Inv X pins σ H s)
  (hch:∀b∈ch,(b∈X.ex\/X.s₀.heap.objs.size<=b)/\b≠X.env.locals/\(∀x c,X.env.cells.lookup x=some c->c≠b)/\∀p∈X.pn++pins,p.1≠b)
  (keep:∀b o,b≠X.env.locals->b∉X.fs->b∉ch->s.heap.get? b=some o->H b=none->h'.get? b=some o)
  (slot:∀b o,b≠X.env.locals->b∈X.fs->b∉ch->s.heap.get? b=some o->H b=none->∃sl,h'.get? b=some {o with slots:=sl}) (free:∀b o,b∉ch->s.heap.get? b=some o->H b=none->H' b=none)
  (there:∀b o,b∉ch->s.heap.get? b=some o->∃o',h'.get? b=some o')
  (tups:∀b xs,H b=some (.tup xs)->H' b=some (.tup xs)) (frzs:∀b o u,H b=some (.frz o u)->H' b=some (.frz o u)) (tbls:∀b ps,H b=some (.tbl ps)->∃more,H' b=some (.tbl (ps++more)))
  (ns:∀m,s.heap.Ns X.env.locals m->h'.Ns X.env.locals m) (hok:HOk X.prog X.w H' h') (hg:AllBare g') :
  Inv X pins σ H' {s with heap:=h',gens:=g',drawn:=d',toks:=t'}:=by
 have neL:∀b o,X.s₀.heap.get? b=some o->b≠X.env.locals:=fun b o e=>Nat.ne_of_lt (Nat.lt_of_lt_of_le (Heap.lt_size e) I.ok.above)
 have neC:∀b o,X.s₀.heap.get? b=some o->b∉X.ex->b∉ch:=fun b o e hx hb=>by
  rcases (hch b hb).1 with z|z
  ·exact hx z
  ·exact absurd (Nat.lt_of_lt_of_le (Heap.lt_size e) z) (Nat.lt_irrefl _)
 have cellK:∀x c,X.env.cells.lookup x=some c->∀v,s.heap.IsCell c v->h'.IsCell c v:=fun x c e v ⟨o,ho,hd⟩=>by
  have nch:c∉ch:=fun z=>(hch c z).2.2.1 x c e rfl
  by_cases hc:c∈X.fs
  ·obtain ⟨sl,q⟩:=slot c o (I.cne x c e) hc nch ho (I.freeC x c e);exact ⟨_,q,hd⟩
  ·exact ⟨o,keep c o (I.cne x c e) hc nch ho (I.freeC x c e),hd⟩
 refine ⟨I.ok,I.os,hg,⟨fun b o e n hb hx=>?_,fun b o e n hb hx=>?_,fun b o e n hx=>?_,fun b o e hx=>?_,fun b xs e=>tups b xs (I.base.tups b xs e),fun b o xs e=>frzs b o xs (I.base.frzs b o xs e),fun b ps e=>?_⟩,?_,fun x c e=>?_,?_,fun x c e=>?_,fun p hp=>?_,hok,I.len⟩
 ·exact keep b o (neL b o e) hb (neC b o e hx) (I.base.keep b o e n hb hx) (I.base.free b o e n hx)
 ·obtain ⟨sl,e1⟩:=I.base.slot b o e n hb hx;obtain ⟨sl',e2⟩:=slot b _ (neL b o e) hb (neC b o e hx) e1 (I.base.free b o e n hx);exact ⟨sl',e2⟩
 ·obtain ⟨o',e1⟩:=I.base.there b o e hx;exact free b o' (neC b o e hx) e1 (I.base.free b o e n hx)
 ·obtain ⟨o',e1⟩:=I.base.there b o e hx;exact there b o' (neC b o e hx) e1
 ·obtain ⟨m1,e1⟩:=I.base.tbls b ps e;obtain ⟨m2,e2⟩:=tbls b _ e1;exact ⟨m1++m2,by rw [e2,Array.append_assoc]⟩
 ·obtain ⟨m,hn,hl⟩:=I.loc;refine ⟨m,ns m hn,fun i x v e1 e2 e3=>?_⟩;obtain ⟨u,r,l⟩:=hl i x v e1 e2 e3;refine ⟨u,r,?_⟩;rcases l with l|⟨k,c,e,z⟩
  ·exact .inl l
  ·exact .inr ⟨k,c,e,cellK x c e _ z⟩
 ·obtain ⟨v,z⟩:=I.cell x c e;exact ⟨v,cellK x c e v z⟩
 ·obtain ⟨m,⟨o,_,_,ho,_⟩,_⟩:=I.loc;exact free _ o (fun z=>(hch _ z).2.1 rfl) ho I.free
 ·obtain ⟨v,o,ho,hd⟩:=I.cell x c e;exact free c o (fun z=>(hch c z).2.2.1 x c e rfl) ho (I.freeC x c e)
 ·obtain ⟨e,n,ne,nf,d⟩:=I.pin p hp;have nch:p.1∉ch:=fun z=>(hch p.1 z).2.2.2 p hp rfl
  exact ⟨keep p.1 p.2 ne nf nch e n,free p.1 p.2 nch e n,ne,nf,d⟩
theorem Inv.un {t':Nat} (I:Inv X pins σ H s) (u:Un X.fs [] H H' s.heap h') (hok:HOk X.prog X.w H' h'):Inv X pins σ H' {s with heap:=h',toks:=t'}:=by
 obtain ⟨m,⟨o,es,ep,ho,r⟩,_⟩:=id I.loc;obtain ⟨sl,hL⟩:=u.any ho I.free (by simp);exact I.step (g':=s.gens) (d':=s.drawn) (ch:=[]) (fun _ z=>nomatch z) (fun b o _ hb _ e n=>u.keep b o e n hb (by simp)) (fun b o _ hb _ e n=>u.slot b o e n hb (by simp)) (fun b o _ e n=>u.free b o e n (by simp)) (fun b o _ e=>u.there b o e (by simp)) u.tups u.frzs u.tbls (fun m' hm=>by
  obtain ⟨o',es',ep',ho',r'⟩:=hm;rw [ho] at ho';cases ho';exact ⟨_,es',ep',hL,r'⟩) hok I.bare
theorem Inv.call {g':Array GenState} {t':Nat} {d':Drawn} {ch:List Addr} (I:Inv X pins σ H s) (u:Un (frs X.stack) ch H H' s.heap h') (hok:HOk X.prog X.w H' h') (hg:AllBare g')
  (hch:∀b∈ch,(b∈X.ex\/X.s₀.heap.objs.size<=b)/\b≠X.env.locals/\(∀x c,X.env.cells.lookup x=some c->c≠b)/\∀p∈X.pn++pins,p.1≠b) :
  Inv X pins σ H' {s with heap:=h',gens:=g',drawn:=d',toks:=t'}:=by
 obtain ⟨m,⟨o,es,ep,ho,r⟩,_⟩:=id I.loc;obtain ⟨sl,hL⟩:=u.any ho I.free fun z=>(hch _ z).2.1 rfl
 exact I.step (ch:=ch) hch (fun b o hL hb hc e n=>u.keep b o e n (fun z=>(List.mem_cons.mp (I.GX b z)).elim hL hb) hc) (fun b o _ _ hc e n=>u.any e n hc) (fun b o hc e n=>u.free b o e n hc) (fun b o hc e=>u.there b o e hc) u.tups u.frzs u.tbls (fun m' hm=>by
  obtain ⟨o',es',ep',ho',r'⟩:=hm;rw [ho] at ho';cases ho';exact ⟨_,es',ep',hL,r'⟩) hok hg
theorem Inv.turned {t':Nat} {it:Addr} (I:Inv X pins σ H s) (k:∀b o,b≠it->s.heap.get? b=some o->h'.get? b=some o) (hn:H it=none) (hL:it≠X.env.locals)
  (h1:it∈X.ex\/X.s₀.heap.objs.size<=it) (h2:∀x c,X.env.cells.lookup x=some c->c≠it) (h3:∀p∈X.pn++pins,p.1≠it):Inv X pins σ H {s with heap:=h',toks:=t'}:=by
 have nit:∀b u,H b=some u->b≠it:=fun b u e z=>by rw [z,hn] at e;cases e
 refine I.step (g':=s.gens) (d':=s.drawn) (ch:=[it]) (fun b hb=>?_) (fun b o _ _ hc e _=>k b o (fun z=>hc (by simp [z])) e) (fun b o _ _ hc e _=>⟨o.slots,k b o (fun z=>hc (by simp [z])) e⟩) (fun _ _ _ _ n=>n)
  (fun b o hc e=>⟨o,k b o (fun z=>hc (by simp [z])) e⟩) (fun _ _ e=>e) (fun _ _ _ e=>e) (fun b ps e=>⟨#[],by rw [e];simp⟩) (fun m hm=>?_) (fun b u e=>?_) I.bare
 ·have e:b=it:=by simpa using hb
  subst e;exact ⟨h1,hL,h2,h3⟩
 ·obtain ⟨o,es,ep,ho,r⟩:=hm;exact ⟨o,es,ep,k _ o (Ne.symm hL) ho,r⟩
 ·refine (I.hok b u e).stay (fun c v hc q=>k c v ?_ q) (fun _ q=>q) fun _ _ q=>q
  rcases hc with z|z
  ·rw [z];exact nit b u e
  ·exact nit c _ z
theorem Inv.tok (I:Inv X pins σ H s) (t:Nat):Inv X pins σ H {s with toks:=t}:=I.un (h':=s.heap) (t':=t) Un.refl I.hok
theorem Inv.kept {t':Nat} (I:Inv X pins σ H s) (k:∀b u,s.heap.get? b=some u->h'.get? b=some u):Inv X pins σ H {s with heap:=h',toks:=t'}:=I.un (Un.kept k) (I.hok.kept k)
theorem Inv.laid {a:Addr} {o:HO} {t':Nat} (I:Inv X pins σ H s) (k:∀b u,s.heap.get? b=some u->h'.get? b=some u) (hp:s.heap.objs.size<=a) (new:gJ X.prog X.w (upd H a o) h' a o) :
  Inv X pins σ (upd H a o) {s with heap:=h',toks:=t'}:=I.un (Un.laid k hp (I.hok.fresh hp)) (I.hok.laid k hp new)
theorem Inv.write {x e:Addr} {o:HO} {t':Nat} (I:Inv X pins σ H s) (mu:Mut (H x)) (he:e=x\/H e=some (.own x)) (k:∀b u,b≠e->s.heap.get? b=some u->h'.get? b=some u) (heo:∃u,h'.get? e=some u)
  (new:gJ X.prog X.w (upd H x o) h' x o):Inv X pins σ (upd H x o) {s with heap:=h',toks:=t'}:=I.un (Un.write mu he k heo) (I.hok.write mu he k heo new)
theorem Inv.weak {σ':List (Option V)} (I:Inv X pins σ H s) (hl:σ'.length=σ.length) (w:∀(i:Nat) v,σ'[i]?=some (some v)->σ[i]?=some (some v)):Inv X pins σ' H s:=
 ⟨I.ok,I.os,I.bare,I.base,let ⟨m,hn,hl'⟩:=I.loc;⟨m,hn,fun i x v e1 e2 e3=>hl' i x v e1 (w i v e2) e3⟩,I.cell,I.free,I.freeC,I.pin,I.hok,hl.trans I.len⟩
theorem Inv.BK {pins':List (Addr×Obj)} (I:Inv X pins σ H s) (h:∀p∈pins',s.heap.get? p.1=some p.2/\H p.1=none/\p.1≠X.env.locals/\p.1∉X.fs/\∀v,p.2.data≠.cell v):Inv X pins' σ H s:=
 ⟨I.ok,I.os,I.bare,I.base,I.loc,I.cell,I.free,I.freeC,fun p hp=>(List.mem_append.mp hp).elim (fun z=>I.pin p (List.mem_append_left _ z)) (h p),I.hok,I.len⟩
theorem vJ {N:List Str} (hN:N.Nodup) {i j:Nat} {x:Str} (a:N[i]?=some x) (b:N[j]?=some x):i=j:=by
 obtain ⟨h1,e1⟩:=List.getElem?_eq_some_iff.mp a;obtain ⟨h2,e2⟩:=List.getElem?_eq_some_iff.mp b;exact (List.getElem_inj hN).mp (e1.trans e2.symm)
theorem xK {M:Model} {A:Around} {E:Value->Shared->Prop} {i:Nat} {x:Str} {v:V} {u:Value} {Q:Unit->Shared->Prop} (I:Inv X pins σ H s) (hN:X.N.Nodup) (hi:X.N[i]?=some x) (hx:Loc X.env.scope x) (r:RelV v u)
  (h:∀s',Inv X pins (σ.set i (some v)) H s'->(∃a,Heap.SameBut a s.heap s'.heap/\(a=X.env.locals\/X.env.cells.lookup x=some a))->Q () s') (hf:X.fn x=true\/X.env.scope.names.lookup x=some .local:=by first|exact .inl rfl|exact .inr rfl|assumption):wpAny M A (storeName X.env x u) Q E s:=by
 obtain ⟨m,hn,hl⟩:=id I.loc;have hcls:(X.env.scope.kind==.class||(X.env.scope.kind==.module&&X.env.locals != X.env.globals))=false:=by rw [I.ok.kind];rfl
 have hiσ:i<σ.length:=by rw [I.len];exact (List.getElem?_eq_some_iff.mp hi).1
 have cne:=I.cne;have tracked:∀{a:Addr} {h':Heap},(∃o,s.heap.get? a=some o/\H a=none)->Heap.SameBut a s.heap h'->HOk X.prog X.w H h':=fun {a h'} ha hs b ob e=>by
  obtain ⟨_,_,hfree⟩:=ha;refine (I.hok b ob e).stay (fun c w' hc q=>(hs.2 c ?_).trans q) (fun _ q=>q) fun _ _ q=>q
  rintro rfl;rcases hc with rfl|hc
  ·rw [hfree] at e;cases e
  ·rw [hfree] at hc;cases hc
 rcases hx with hk|hk
 ·refine wpAny_storeName_local hk hn (fun h' hn' hs=>?_) hcls;obtain ⟨oL,_,_,hoL,_⟩:=id hn;refine h _ ⟨I.ok,I.os,I.bare,⟨fun b o e n hb hx=>?_,fun b o e n hb hx=>?_,I.base.free,fun b o e hx=>?_,I.base.tups,I.base.frzs,I.base.tbls⟩,⟨_,hn',fun j y v' e1 e2 e3=>?_⟩,fun y c e=>?_,I.free,I.freeC,fun p hp=>?_,tracked ⟨oL,hoL,I.free⟩ hs,by simpa using I.len⟩ ⟨_,hs,.inl rfl⟩
  ·exact (hs.2 b (Nat.ne_of_lt (Nat.lt_of_lt_of_le (Heap.lt_size e) I.ok.above))).trans (I.base.keep b o e n hb hx)
  ·obtain ⟨sl,e1⟩:=I.base.slot b o e n hb hx;exact ⟨sl,(hs.2 b (Nat.ne_of_lt (Nat.lt_of_lt_of_le (Heap.lt_size e) I.ok.above))).trans e1⟩
  ·obtain ⟨o',e1⟩:=I.base.there b o e hx;exact ⟨o',(hs.2 b (Nat.ne_of_lt (Nat.lt_of_lt_of_le (Heap.lt_size e) I.ok.above))).trans e1⟩
  ·by_cases hj:j=i
   ·subst hj;rw [hi] at e1;cases e1;rw [List.getElem?_set_self hiσ] at e2;cases e2;exact ⟨u,r,.inl ⟨hk,by simp⟩⟩
   ·rw [List.getElem?_set_ne (Ne.symm hj)] at e2;obtain ⟨u',r',q⟩:=hl j y v' e1 e2 e3;refine ⟨u',r',?_⟩;rcases q with ⟨k,e⟩|⟨k,c,e,z⟩
    ·refine .inl ⟨k,?_⟩;have:y≠x:=fun e=>hj (vJ hN e1 (e▸hi))
     simp [this,e]
    ·exact .inr ⟨k,c,e,z.sameBut hs (cne y c e)⟩
  ·obtain ⟨w',z⟩:=I.cell y c e;exact ⟨w',z.sameBut hs (cne y c e)⟩
  ·obtain ⟨e,n,ne,nf,d⟩:=I.pin p hp;exact ⟨(hs.2 p.1 ne).trans e,n,ne,nf,d⟩
 ·have hfn:X.fn x=true:=by
   rcases hf with z|z
   ·exact z
   ·rw [z] at hk;cases hk
  obtain ⟨c,hc⟩:=I.ok.has x (.inl hk);obtain ⟨w',z⟩:=I.cell x c hc;refine wpAny_storeName_cell I.ok.kind hk hc z (fun h' hc' hs=>?_);obtain ⟨oc,hoc,hocd⟩:=id z;refine h {s with heap:=h'} ⟨I.ok,I.os,I.bare,⟨fun b o e n hb hx=>?_,fun b o e n hb hx=>?_,I.base.free,fun b o e hx=>?_,I.base.tups,I.base.frzs,I.base.tbls⟩,⟨m,hn.sameBut hs (Ne.symm (cne x c hc)),fun j y v' e1 e2 e3=>?_⟩,fun y c' e=>?_,I.free,I.freeC,fun p hp=>?_,tracked ⟨oc,hoc,I.freeC x c hc⟩ hs,by simpa using I.len⟩ ⟨c,hs,.inr hc⟩
  ·exact (hs.2 b (Nat.ne_of_lt (Nat.lt_of_lt_of_le (Heap.lt_size e) (I.ok.cab x c hfn hc)))).trans (I.base.keep b o e n hb hx)
  ·obtain ⟨sl,e1⟩:=I.base.slot b o e n hb hx;exact ⟨sl,(hs.2 b (Nat.ne_of_lt (Nat.lt_of_lt_of_le (Heap.lt_size e) (I.ok.cab x c hfn hc)))).trans e1⟩
  ·obtain ⟨o',e1⟩:=I.base.there b o e hx;exact ⟨o',(hs.2 b (Nat.ne_of_lt (Nat.lt_of_lt_of_le (Heap.lt_size e) (I.ok.cab x c hfn hc)))).trans e1⟩
  ·by_cases hj:j=i
   ·subst hj;rw [hi] at e1;cases e1;rw [List.getElem?_set_self hiσ] at e2;cases e2;exact ⟨u,r,.inr ⟨.inl hk,c,hc,hc'⟩⟩
   ·rw [List.getElem?_set_ne (Ne.symm hj)] at e2;obtain ⟨u',r',q⟩:=hl j y v' e1 e2 e3;refine ⟨u',r',?_⟩;rcases q with q|⟨k,c',e,z'⟩
    ·exact .inl q
    ·refine .inr ⟨k,c',e,z'.sameBut hs ?_⟩;rintro rfl;exact hj (vJ hN e1 (I.ok.inj _ _ _ e hc▸hi))
  ·by_cases hcc:c'=c
   ·subst hcc;exact ⟨_,hc'⟩
   ·obtain ⟨w2,z2⟩:=I.cell y c' e;exact ⟨w2,z2.sameBut hs hcc⟩
  ·obtain ⟨e,n,ne,nf,d⟩:=I.pin p hp;refine ⟨(hs.2 p.1 ?_).trans e,n,ne,nf,d⟩;intro q;rw [q,hoc] at e;have q':oc=p.2:=Option.some.inj e;exact d w' (by rw [<-q'];exact hocd)
theorem GZ {M:Model} {A:Around} {E:Value->Shared->Prop} {i:Nat} {x:Str} {v:V} {u:Value} {Q:Unit->Shared->Prop} (I:Inv X pins σ H s) (hN:X.N.Nodup) (hi:X.N[i]?=some x) (hx:Loc X.env.scope x) (r:RelV v u)
  (h:∀s',Inv X pins (σ.set i (some v)) H s'->Q () s') (hf:X.fn x=true\/X.env.scope.names.lookup x=some .local:=by first|exact .inl rfl|exact .inr rfl|assumption):wpAny M A (storeName X.env x u) Q E s:=
 xK I hN hi hx r (fun s' I' _=>h s' I') hf
theorem Inv.call' {s':Shared} {ch:List Addr} (I:Inv X pins σ H s) (ho:s'.os=s.os) (u:Un (frs X.stack) ch H H' s.heap s'.heap) (hok:HOk X.prog X.w H' s'.heap) (hg:AllBare s'.gens)
  (hch:∀b∈ch,(b∈X.ex\/X.s₀.heap.objs.size<=b)/\b≠X.env.locals/\(∀x c,X.env.cells.lookup x=some c->c≠b)/\∀p∈X.pn++pins,p.1≠b):Inv X pins σ H' s':=by
 obtain ⟨h',g',d',t',o'⟩:=s';have e:o'=s.os:=ho;subst e;exact I.call (g':=g') (t':=t') (d':=d') u hok hg hch
end
abbrev XK:=Value->Option Addr->Hp->Prop
abbrev St:=List (Option V)
abbrev VK:=V->Hp->Prop
abbrev TE:=St->Hp->VK->Prop
abbrev TT:=St->Hp->(Bool->Hp->Prop)->Prop
abbrev TA:=St->Hp->(List V->Hp->Prop)->Prop
structure Ends where
 nx:St->Hp->Prop
 rt:VK
 bk:St->Hp->Prop:=fun _ _=>False
 ct:St->Hp->Prop:=fun _ _=>False
abbrev TS:=Ends->St->Hp->Prop
noncomputable def EP (X:Cx) (pins:List (Addr×Obj)) (σ:St) (Q:VK) (u:Value) (s':Shared):Prop:=∃v H',Inv X pins σ H' s'/\RelV v u/\Q v H'
noncomputable def TP (X:Cx) (pins:List (Addr×Obj)) (σ:St) (Q:Bool->Hp->Prop) (b:Bool) (s':Shared):Prop:=∃H',Inv X pins σ H' s'/\Q b H'
noncomputable def AP (X:Cx) (pins:List (Addr×Obj)) (σ:St) (Q:List V->Hp->Prop) (us:List Value) (s':Shared):Prop:=∃vs H',Inv X pins σ H' s'/\Vals vs us/\Q vs H'
noncomputable def SP (X:Cx) (pins:List (Addr×Obj)) (D:Ends) (f:Flow) (s':Shared):Prop:=
 match f with
 | .next=>∃σ' H',Inv X pins σ' H' s'/\D.nx σ' H'
 | .brk=>∃σ' H',Inv X pins σ' H' s'/\D.bk σ' H'
 | .cont=>∃σ' H',Inv X pins σ' H' s'/\D.ct σ' H'
 | .ret u=>∃v σ' H',Inv X pins σ' H' s'/\RelV v u/\D.rt v H'
noncomputable def PE (X:Cx) (e:Expr) (t:TE):Prop:=
 ∀(pins:List (Addr×Obj)) (s:Shared) (σ:St) (H:Hp) (Q:VK),Inv X pins σ H s->t σ H Q->wpAny (model X.prog X.w) X.A (eval e X.env) (EP X pins σ Q) X.xe s
noncomputable def PT (X:Cx) (e:Expr) (t:TT):Prop:=
 ∀(pins:List (Addr×Obj)) (s:Shared) (σ:St) (H:Hp) (Q:Bool->Hp->Prop),Inv X pins σ H s->t σ H Q->wpAny (model X.prog X.w) X.A (isTrue e X.env (eval e X.env)) (TP X pins σ Q) X.xe s
noncomputable def PW (X:Cx) (e:Expr) (t:TT):Prop:=
 ∀(whole:Sem Value) (pins:List (Addr×Obj)) (s:Shared) (σ:St) (H:Hp) (Q:Bool->Hp->Prop),Inv X pins σ H s->t σ H Q->wpAny (model X.prog X.w) X.A (isTrue e X.env whole) (TP X pins σ Q) X.xe s
theorem PW.pt {X:Cx} {e:Expr} {t:TT} (h:PW X e t):PT X e t:=h _
noncomputable def PA (X:Cx) (es:List Expr) (t:TA):Prop:=
 ∀(pos:Pos) (pins:List (Addr×Obj)) (s:Shared) (σ:St) (H:Hp) (Q:List V->Hp->Prop),Inv X pins σ H s->t σ H Q->wpAny (model X.prog X.w) X.A (spliced (backTo pos (starEach es X.env))) (AP X pins σ Q) X.xe s
noncomputable def PS (X:Cx) (st:Stmt) (t:TS):Prop:=
 ∀(pins:List (Addr×Obj)) (s:Shared) (σ:St) (H:Hp) (D:Ends),Inv X pins σ H s->t D σ H->wpAny (model X.prog X.w) X.A (exec st X.env) (SP X pins D) X.xe s
noncomputable def PSs (X:Cx) (st:List Stmt) (t:TS):Prop:=
 ∀(pins:List (Addr×Obj)) (s:Shared) (σ:St) (H:Hp) (D:Ends),Inv X pins σ H s->t D σ H->wpAny (model X.prog X.w) X.A (execs st X.env) (SP X pins D) X.xe s
theorem thn {α:Type} {t:Sem α} {Q Q':α->Shared->Prop} {M:Model} {A:Around} {E:Value->Shared->Prop} {s:Shared} (h:wpAny M A t Q E s) (hQ:∀a s,Q a s->Q' a s):wpAny M A t Q' E s:=wpAny_mono h hQ fun _ _ x=>x
end L2
namespace L2
open PySem PySem.Spec PyProof.Rows
section
variable {X:Cx}
def Z7 (i:Nat):TE:=fun σ H Q=>∃v,σ[i]?=some (some v)/\Q v H
def tC (v:V):TE:=fun _ H Q=>Q v H
theorem cU {i:Nat} {x:Str} {pos:Pos} (hN:X.N[i]?=some x) (hv:Vis X.env.scope x) (hd:nDb x:=by decide) (hcd:nCd x:=by decide):PE X (.Name x pos) (Z7 i):=by
 intro pins s σ H Q I h;obtain ⟨v,e,h⟩:=h;obtain ⟨m,hn,hl⟩:=I.loc;obtain ⟨u,r,l⟩:=hl i x v hN e hv;have fin:EP X pins σ Q u s:=⟨v,H,I,r,h⟩
 rcases l with ⟨hk,hm⟩|⟨hk,c,hc,hcell⟩
 ·exact wpAny_Name (wpAny_loadName_local I.ok.kind hk hn hm fin) hd
 ·rcases hk with hk|hk
  ·exact wpAny_Name (wpAny_loadName_cell I.ok.kind hk hc hcell fin) hd
  ·exact wpAny_Name (wpAny_loadName_free I.ok.kind hk hc hcell fin hcd) hd
theorem aEj {i j pos}:PE X (.Constant (.int i) j pos) (tC (.int i)):=fun _ _ _ H _ I h=>wpAny_Constant_int ⟨.int i,H,I.tok _,⟨_,rfl⟩,h⟩
theorem aIg {b j pos}:PE X (.Constant (.bool b) j pos) (tC (.bl b)):=fun _ _ _ H _ I h=>Constant_bool ⟨.bl b,H,I,rfl,h⟩
theorem aEk {j pos}:PE X (.Constant .none j pos) (tC .non):=fun _ _ _ H _ I h=>Constant_none ⟨.non,H,I,rfl,h⟩
theorem Z8 {x j pos}:PE X (.Constant (.str x) j pos) (tC (.str x)):=fun _ _ _ H _ I h=>Calls.Constant_str ⟨.str x,H,I.tok _,⟨_,rfl⟩,h⟩
def Gl (X:Cx) (x:Str):Prop:=X.env.kindOf x=some .globalImplicit
theorem nQ {E:Value->Shared->Prop} {pins:List (Addr×Obj)} {s:Shared} {σ:St} {H:Hp} {x:Str} {u:Value} {pos:Pos} {Q:Value->Shared->Prop} (I:Inv X pins σ H s) (hg:Gl X x) (hm:X.mg x=some u) (h:Q u s)
  (hd:nDb x:=by decide):wpAny (model X.prog X.w) X.A (eval (.Name x pos) X.env) Q E s:=
 Calls.Name_function_global I.ok.kind hg (Calls.loadGlobal_global (by rw [I.ok.glob];exact I.mod.glob.keeps I.bk) hm h) hd
theorem uP {E:Value->Shared->Prop} {pins:List (Addr×Obj)} {s:Shared} {σ:St} {H:Hp} {x:Str} {u:Value} {pos:Pos} {Q:Value->Shared->Prop} (I:Inv X pins σ H s) (hg:Gl X x) (hm:X.mg x=none) (hv:bootBuiltins x=some u) (h:Q u s)
  (hn:x ≠ "__name__":=by decide) (hd:nDb x:=by decide):wpAny (model X.prog X.w) X.A (eval (.Name x pos) X.env) Q E s:=by
 obtain ⟨mb,h1,h2⟩:=I.mod.blt;exact Calls.Name_function_global I.ok.kind hg (Calls.loadGlobal_builtin (by rw [I.ok.glob];exact I.mod.glob.keeps I.bk) hm (by rw [I.ok.blt];exact h1.keeps I.bk) ((h2 x hn).trans hv) h) hd
theorem eZ {x:Str} {v:V} {u:Value} {pos:Pos} (hg:Gl X x) (hm:X.mg x=some u) (r:RelV v u) (hd:nDb x:=by decide):PE X (.Name x pos) (tC v):=
 fun _ _ _ H _ I h=>nQ I hg hm ⟨v,H,I,r,h⟩ hd
theorem O3 {x:Str} {v:V} {u:Value} {pos:Pos} (hg:Gl X x) (hm:X.mg x=none) (hv:bootBuiltins x=some u) (r:RelV v u) (hn:x ≠ "__name__":=by decide) (hd:nDb x:=by decide):PE X (.Name x pos) (tC v):=
 fun _ _ _ H _ I h=>uP I hg hm hv ⟨v,H,I,r,h⟩ hn hd
variable {a b:Expr} {ta tb:TE} {pos:Pos}
variable {tA tB':TT} {rest:List Expr}
noncomputable def aKl (t u:TT):TT:=fun σ H Q=>t σ H fun c H1=>if c=true then u σ H1 Q else Q false H1
noncomputable def tOr (t u:TT):TT:=fun σ H Q=>t σ H fun c H1=>if c=true then Q true H1 else u σ H1 Q
def aKm (t:TT):TT:=fun σ H Q=>t σ H fun c H1=>Q (!c) H1
theorem aBg (ha:PT X a tA):PW X (.BoolOp .And [a] pos) tA:=by
 intro wh pins s σ H Q I h;refine isTrue_and (thn (ha pins s σ H Q I h) fun c s1 e=>?_);cases c with
 | true=>exact isTrue_and_nil e
 | false=>exact e
theorem aEm (ha:PT X a tA):PW X (.BoolOp .Or [a] pos) tA:=by
 intro wh pins s σ H Q I h;refine isTrue_or (thn (ha pins s σ H Q I h) fun c s1 e=>?_);cases c with
 | false=>exact isTrue_or_nil e
 | true=>exact e
theorem aEn (ha:PT X a tA) (hb:PW X (.BoolOp .And (b::rest) pos) tB'):PW X (.BoolOp .And (a::b::rest) pos) (aKl tA tB'):=by
 intro wh pins s σ H Q I h;refine isTrue_and (thn (ha pins s σ H _ I h) fun c s1 ⟨H1,I1,q1⟩=>?_);cases c with
 | true=>exact hb wh pins s1 σ H1 Q I1 q1
 | false=>exact ⟨H1,I1,q1⟩
theorem aIh (ha:PT X a tA) (hb:PW X (.BoolOp .Or (b::rest) pos) tB'):PW X (.BoolOp .Or (a::b::rest) pos) (tOr tA tB'):=by
 intro wh pins s σ H Q I h;refine isTrue_or (thn (ha pins s σ H _ I h) fun c s1 ⟨H1,I1,q1⟩=>?_);cases c with
 | true=>exact ⟨H1,I1,q1⟩
 | false=>exact hb wh pins s1 σ H1 Q I1 q1
theorem aEo (ha:PT X a tA):PT X (.UnaryOp .Not a pos) (aKm tA):=by
 intro pins s σ H Q I h;exact isTrue_not (ha pins s σ H (fun c H1=>Q (!c) H1) I h)
noncomputable def aIi (ta tb:TE):TE:=fun σ H Q=>ta σ H fun x H1=>∃c,x=.bl c/\if c=true then tb σ H1 Q else Q (.bl false) H1
noncomputable def aKn (ta tb:TE):TE:=fun σ H Q=>ta σ H fun x H1=>∃c,x=.bl c/\if c=true then Q (.bl true) H1 else tb σ H1 Q
theorem aEp {op} {t:TE} (h:PE X a t):PE X (.BoolOp op [a] pos) t:=fun pins s σ H Q I hw=>BoolOp_one (h pins s σ H Q I hw)
theorem aEq (ha:PE X a ta) (hb:PE X (.BoolOp .And (b::rest) pos) tb):PE X (.BoolOp .And (a::b::rest) pos) (aIi ta tb):=by
 intro pins s σ H Q I h;refine BoolOp_and (thn (ha pins s σ H _ I h) fun v s1 ⟨x,H1,I1,r1,q1⟩=>?_);obtain ⟨c,rfl,q1⟩:=q1;cases r1;refine wpAny_truthy_bool ?_;cases c with
 | true=>exact hb pins s1 σ H1 Q I1 q1
 | false=>exact ⟨.bl false,H1,I1,rfl,q1⟩
theorem aIj (ha:PE X a ta) (hb:PE X (.BoolOp .Or (b::rest) pos) tb):PE X (.BoolOp .Or (a::b::rest) pos) (aKn ta tb):=by
 intro pins s σ H Q I h;refine BoolOp_or (thn (ha pins s σ H _ I h) fun v s1 ⟨x,H1,I1,r1,q1⟩=>?_);obtain ⟨c,rfl,q1⟩:=q1;cases r1;refine wpAny_truthy_bool ?_;cases c with
 | false=>exact hb pins s1 σ H1 Q I1 q1
 | true=>exact ⟨.bl true,H1,I1,rfl,q1⟩
end
end L2
namespace L2
open PySem PySem.Spec PyProof.Rows
noncomputable def SqL (K:PySem.W.Frag) (H:Hp) (a:Addr) (xs:List V):Prop:=
 Rd H a (.lst xs)\/
  ∃(o:Obj) (its:Array Value) (n:Nat),K.lookup a=some o/\o.cls=.type "list"/\o.dict=none/\o.data=.seq its n/\its.size<=sizeLine/\Vals xs its.toList
noncomputable def SqT (K:PySem.W.Frag) (H:Hp) (a:Addr) (xs:List V):Prop:=
 Rd H a (.tup xs)\/
  ∃(o:Obj) (its:Array Value) (n:Nat),K.lookup a=some o/\o.cls=.type "tuple"/\o.data=.seq its n/\its.size<=sizeLine/\Vals xs its.toList
noncomputable def aKo:Value->Option V
 | .none=>some .non
 | .bool b=>some (.bl b)
 | .int i _=>some (.int i)
 | .str x _=>some (.str x)
 | .bytes b _=>some (.byt b)
 | .float b _=>some (.flt b)
 | .ref a=>some (.ref a)
 | .type n=>some (.ty n)
 | _=>none
theorem RelV.abs {x:V} {u:Value} (r:RelV x u):aKo u=some x:=by
 cases x with
 | non=>cases r;rfl
 | bl _=>cases r;rfl
 | int _=>obtain ⟨t,rfl⟩:=r;rfl
 | str _=>obtain ⟨t,rfl⟩:=r;rfl
 | byt _=>obtain ⟨t,rfl⟩:=r;rfl
 | flt _=>obtain ⟨t,rfl⟩:=r;rfl
 | ref _=>cases r;rfl
 | ty _=>cases r;rfl
theorem RelV.inj {x y:V} {u:Value} (r:RelV x u) (q:RelV y u):x=y:=Option.some.inj (r.abs.symm.trans q.abs)
theorem Vals.inj:∀{xs ys:List V} {us:List Value},Vals xs us->Vals ys us->xs=ys
 | _,_,_,.nil,.nil=>rfl
 | _,_,_,.cons r t,.cons r' t'=>by rw [r.inj r',Vals.inj t t']
section
variable {X:Cx} {pins:List (Addr×Obj)} {σ:St} {H:Hp} {s:Shared} {a:Addr} {xs ys:List V}
theorem SqL.of {K:PySem.W.Frag} (h:H a=some (.lst xs)):SqL K H a xs:=.inl (.inl h)
theorem SqT.of {K:PySem.W.Frag} (h:H a=some (.tup xs)):SqT K H a xs:=.inl (.inl h)
theorem Inv.list (I:Inv X pins σ H s) (h:SqL X.K H a xs):∃its:List Value,Vals xs its/\PlainL s.heap a its.toArray/\xs.length<=sizeLine:=by
 rcases h with h|⟨o,its,n,hk,hc,hd,hs,hz,r⟩
 ·obtain ⟨z,its,n,r,e⟩:=h.ok I.hok;exact ⟨its,r,⟨_,n,e,rfl,rfl,rfl⟩,z⟩
 ·refine ⟨its.toList,r,⟨o,n,I.kIn a o hk,hc,hd,by simpa using hs⟩,?_⟩;have e:=r.length;simp only [Array.length_toList] at e;lia
theorem Inv.tuple (I:Inv X pins σ H s) (h:SqT X.K H a xs):∃its:List Value,Vals xs its/\IsTup s.heap a its.toArray/\xs.length<=sizeLine:=by
 rcases h with h|⟨o,its,n,hk,hc,hs,hz,r⟩
 ·obtain ⟨z,its,r,p⟩:=h.ok I.hok;exact ⟨its,r,p.tup,z⟩
 ·refine ⟨its.toList,r,⟨o,I.kIn a o hk,hc,n,by simpa using hs⟩,?_⟩;have e:=r.length;simp only [Array.length_toList] at e;lia
theorem Inv.WN (I:Inv X pins σ H s) (h:SqL X.K H a xs) (h':SqL X.K H a ys):xs=ys:=by
 obtain ⟨its,r,⟨o,n,e,_,_,d⟩,_⟩:=I.list h;obtain ⟨its',r',⟨o',n',e',_,_,d'⟩,_⟩:=I.list h';rw [e] at e';cases e';rw [d] at d';injection d' with d1 _
 have:its=its':=by simpa using congrArg Array.toList d1
 subst this;exact r.inj r'
theorem Inv.O4 (I:Inv X pins σ H s) (h:SqT X.K H a xs) (h':SqT X.K H a ys):xs=ys:=by
 obtain ⟨its,r,⟨o,e,_,n,d⟩,_⟩:=I.tuple h;obtain ⟨its',r',⟨o',e',_,n',d'⟩,_⟩:=I.tuple h';rw [e] at e';cases e';rw [d] at d';injection d' with d1 _
 have:its=its':=by simpa using congrArg Array.toList d1
 subst this;exact r.inj r'
end
abbrev Cx.wish (X:Cx) (E:Value->Shared->Prop):Cx:={X with xe:=E}
abbrev Cx.nox (X:Cx):Cx:=X.wish fun _ _=>False
theorem Cx.Ok.wish {X:Cx} (ok:X.Ok) (E:Value->Shared->Prop):(X.wish E).Ok:=
 ⟨ok.mod,ok.kind,ok.glob,ok.blt,ok.above,ok.inj,ok.has,ok.cab,ok.hd,ok.frames,ok.stk,ok.exf,ok.bs,ok.bsz,ok.noex,ok.exfs,ok.KY,ok.frf⟩
theorem Cx.Ok.lY {X:Cx} {E:Value->Shared->Prop} (ok:(X.wish E).Ok):X.Ok:=
 ⟨ok.mod,ok.kind,ok.glob,ok.blt,ok.above,ok.inj,ok.has,ok.cab,ok.hd,ok.frames,ok.stk,ok.exf,ok.bs,ok.bsz,ok.noex,ok.exfs,ok.KY,ok.frf⟩
section
variable {X:Cx} {pins:List (Addr×Obj)} {σ:St} {H:Hp} {s:Shared} {E:Value->Shared->Prop}
theorem Inv.wish (I:Inv X pins σ H s) (E:Value->Shared->Prop):Inv (X.wish E) pins σ H s:=⟨I.ok.wish E,I.os,I.bare,I.base,I.loc,I.cell,I.free,I.freeC,I.pin,I.hok,I.len⟩
theorem Inv.lY (I:Inv (X.wish E) pins σ H s):Inv X pins σ H s:=⟨I.ok.lY,I.os,I.bare,I.base,I.loc,I.cell,I.free,I.freeC,I.pin,I.hok,I.len⟩
theorem SP.lY {D:Ends} {f:Flow} {s':Shared} (h:SP (X.wish E) pins D f s'):SP X pins D f s':=by
 cases f with
 | next=>obtain ⟨σ',H',I,q⟩:=h;exact ⟨σ',H',I.lY,q⟩
 | brk=>obtain ⟨σ',H',I,q⟩:=h;exact ⟨σ',H',I.lY,q⟩
 | cont=>obtain ⟨σ',H',I,q⟩:=h;exact ⟨σ',H',I.lY,q⟩
 | ret u=>obtain ⟨v,σ',H',I,r,q⟩:=h;exact ⟨v,σ',H',I.lY,r,q⟩
theorem PSs.nox {st:List Stmt} {t:TS} (h:PSs X.nox st t):PSs X st t:=fun pins s σ H D I hw=>
 wpAny_mono (h pins s σ H D (I.wish _) hw) (fun _ _ q=>q.lY) fun _ _ z=>False.elim z
end
section
variable {X:Cx} {st:Stmt} {rest:List Stmt} {t u:TS} {e:Expr} {te:TE} {pos:Pos}
def aIk:TS:=fun D σ H=>D.nx σ H
def Z9 (t u:TS):TS:=fun D σ H=>t {D with nx:=u D} σ H
theorem aBh:PSs X [] aIk:=fun _ _ σ H _ I h=>wpAny_execs_nil ⟨σ,H,I,h⟩
theorem kY (h1:PS X st t) (h2:PSs X rest u):PSs X (st::rest) (Z9 t u):=by
 intro pins s σ H D I h;refine wpAny_execs_cons (thn (h1 pins s σ H {D with nx:=u D} I h) fun f s1 q=>?_);cases f with
 | next=>
  obtain ⟨σ',H',I',q⟩:=q;exact h2 pins s1 σ' H' D I' q
 | ret v=>exact q
 | brk=>exact q
 | cont=>exact q
theorem nR (h1:PS X st t):PSs X [st] t:=by
 intro pins s σ H D I h;refine wpAny_execs_cons (thn (h1 pins s σ H D I h) fun f s1 q=>?_);cases f with
 | next=>exact wpAny_execs_nil q
 | ret v=>exact q
 | brk=>exact q
 | cont=>exact q
theorem Inv.quiet {pins:List (Addr×Obj)} {σ:St} {H:Hp} {s:Shared} (I:Inv X pins σ H s):interactive X.env=false:=by simp [interactive,I.ok.kind]
def aEr (te:TE):TS:=fun D σ H=>te σ H fun _ H1=>D.nx σ H1
theorem pJ (he:PE X e te) (hs:swapsWith e none pos.line X.env=pure false:=by rfl):PS X (.Expr e pos) (aEr te):=by
 intro pins s σ H D I h;exact wpAny_Expr_any (thn (he pins s σ H _ I h) fun v s1 ⟨x,H1,I1,r1,q1⟩=>⟨σ,H1,I1,q1⟩) I.quiet hs
def aIl (te:TE):TS:=fun D σ H=>te σ H D.rt
theorem uQ (he:PE X e te):PS X (.Return (some e) pos) (aIl te):=by
 intro pins s σ H D I h;exact wpAny_Return_some (thn (he pins s σ H _ I h) fun v s1 ⟨x,H1,I1,r1,q1⟩=>⟨x,σ,H1,I1,r1,q1⟩)
noncomputable def aKp (c:TT) (t u:TS):TS:=fun D σ H=>c σ H fun b H1=>if b=true then t D σ H1 else u D σ H1
theorem aBi {c:Expr} {a b:List Stmt} {tc:TT} (hc:PT X c tc) (ha:PSs X a t) (hb:PSs X b u):PS X (.If c a b pos) (aKp tc t u):=by
 intro pins s σ H D I h;refine wpAny_If (thn (hc pins s σ H _ I h) fun d s1 ⟨H1,I1,q1⟩=>?_);cases d with
 | true=>exact ha pins s1 σ H1 D I1 q1
 | false=>exact hb pins s1 σ H1 D I1 q1
end
abbrev TG:=V->St->Hp->(St->Hp->Prop)->Prop
abbrev TGs:=List V->St->Hp->(St->Hp->Prop)->Prop
noncomputable def PG (X:Cx) (target:Expr) (t:TG):Prop:=
 ∀(pins:List (Addr×Obj)) (s:Shared) (σ:St) (H:Hp) (v:V) (u:Value) (Q:St->Hp->Prop),Inv X pins σ H s->RelV v u->t v σ H Q->
  wpAny (model X.prog X.w) X.A (assign target X.env u) (fun _ s'=>∃σ' H',Inv X pins σ' H' s'/\Q σ' H') X.xe s
noncomputable def PGs (X:Cx) (ts:List Expr) (t:TGs):Prop:=
 ∀(pins:List (Addr×Obj)) (s:Shared) (σ:St) (H:Hp) (vs:List V) (us:List Value) (Q:St->Hp->Prop),Inv X pins σ H s->Vals vs us->t vs σ H Q->
  wpAny (model X.prog X.w) X.A (assignInOrder ((assignEach ts X.env).map (·.2)) us) (fun _ s'=>∃σ' H',Inv X pins σ' H' s'/\Q σ' H') X.xe s
abbrev aKq:=V->V->V->Hp->(Hp->Prop)->Prop
noncomputable def aKr (X:Cx) (t:aKq):Prop:=
 ∀(pins:List (Addr×Obj)) (s:Shared) (σ:St) (H:Hp) (o i v:V) (ov iv u:Value) (Q:Hp->Prop),Inv X pins σ H s->RelV o ov->RelV i iv->RelV v u->t o i v H Q->
  wpAny (model X.prog X.w) X.A (setItem ov iv u) (fun _ s'=>∃H',Inv X pins σ H' s'/\Q H') X.xe s
section
variable {X:Cx} {pos:Pos}
def rJ (i:Nat):TG:=fun v σ H Q=>Q (σ.set i (some v)) H
theorem bK {i:Nat} {x:Str} (hN:X.N.Nodup) (hi:X.N[i]?=some x) (hx:Loc X.env.scope x) (hf:X.fn x=true\/X.env.scope.names.lookup x=some .local:=by first|exact .inl rfl|exact .inr rfl|assumption):PG X (.Name x pos) (rJ i):=by
 intro pins s σ H v u Q I r h;exact wpAny_assign_Name (GZ I hN hi hx r (fun s' I'=>⟨_,H,I',h⟩) hf)
def aJz:TGs:=fun vs σ H Q=>vs=[]/\Q σ H
noncomputable def aEs (t:TG) (u:TGs):TGs:=fun vs σ H Q=>∃v r,vs=v::r/\t v σ H fun σ' H'=>u r σ' H' Q
theorem rK:PGs X [] aJz:=by
 intro pins s σ H vs us Q I r h;obtain ⟨e,h⟩:=h;subst e;cases r;exact assignInOrder_nil ⟨σ,H,I,h⟩
theorem dR {e:Expr} {es:List Expr} {t:TG} {u:TGs} (h1:PG X e t) (h2:PGs X es u)
  (hs:(assignEach (e::es) X.env).map (·.2)=assign e X.env::(assignEach es X.env).map (·.2):=by rfl):PGs X (e::es) (aEs t u):=by
 intro pins s σ H vs us Q I r h;obtain ⟨v,vr,e1,h⟩:=h;subst e1;cases r with
 | cons r rr=>
  rw [hs];refine assignInOrder_cons (thn (h1 pins s σ H _ _ _ I r h) fun _ s1 ⟨σ1,H1,I1,q1⟩=>?_);exact h2 pins s1 σ1 H1 _ _ Q I1 rr q1
noncomputable def aK0 (K:PySem.W.Frag) (n:Nat) (t:TGs):TG:=fun v σ H Q=>∃a xs,v=.ref a/\SqT K H a xs/\xs.length=n/\t xs σ H Q
theorem Z_ {es:List Expr} {k:Nat} {t:TGs} {n:Nat} (hc:X.calm=true) (h:PGs X es t)
  (hn:(assignEach es X.env).length=n:=by rfl) (hst:(assignEach es X.env).findIdx? (·.1)=none:=by rfl):PG X (.Tuple es k pos) (aK0 X.K n t):=by
 intro pins s σ H v u Q I r hw;obtain ⟨a,xs,e1,hq,hl,hw⟩:=hw;subst e1;cases r;obtain ⟨its,rv,ht,hz⟩:=I.tuple hq;refine assign_Tuple_tuple (I.ok.hd hc) ht (by simp [hn,<-hl,rv.length]) hst fun h' hx=>?_
 have I1:Inv X pins σ H {s with heap:=h'}:=I.kept (t':=s.toks) fun b o e=>hx b o (Nat.ne_of_lt (Heap.lt_size e)) e
 exact h pins _ σ H xs _ Q I1 (by simpa using rv) hw
def aBj (te:TE) (g:TG):TS:=fun D σ H=>te σ H fun x H1=>g x σ H1 D.nx
theorem aA0 {tg e:Expr} {te:TE} {g:TG} (he:PE X e te) (hg:PG X tg g) (hs:swapsWithSole [tg] e pos.line X.env=pure false:=by rfl) (hw:swappedStores [tg] e X.env=pure none:=by rfl)
  (h1:(assignEach [tg] X.env).map (·.2)=[assign tg X.env]:=by rfl):PS X (.Assign [tg] e pos) (aBj te g):=by
 intro pins s σ H D I h;refine wpAny_Assign_stores (thn (he pins s σ H _ I h) fun v s1 ⟨x,H1,I1,r1,q1⟩=>?_) hs hw;rw [h1];exact thn (hg pins s1 σ H1 x v _ I1 r1 q1) fun _ s2 q=>q
theorem uR {i:Nat} {x:Str} {e:Expr} {te:TE} {pos':Pos} (hN:X.N.Nodup) (hi:X.N[i]?=some x) (hx:Loc X.env.scope x) (he:PE X e te) (hs:swapsWith e (some (.Name x pos')) pos.line X.env=pure false:=by rfl) (hf:X.fn x=true\/X.env.scope.names.lookup x=some .local:=by first|exact .inl rfl|exact .inr rfl|assumption) :
  PS X (.Assign [.Name x pos'] e pos) (aBj te (rJ i)):=by
 intro pins s σ H D I h;refine wpAny_Assign_Name (thn (he pins s σ H _ I h) fun v s1 ⟨y,H1,I1,r1,q1⟩=>?_) hs;exact GZ I1 hN hi hx r1 (fun s2 I2=>⟨_,H1,I2,q1⟩) hf
end
section
variable {X:Cx} {pos:Pos}
noncomputable def aEt (c:TT) (tb:TS):TS:=fun D σ H=>∃W:Nat->St->Hp->Prop,(∃m,W m σ H)/\∀m σ H,W m σ H->
 c σ H fun b H1=>if b=true then ∃N:St->Hp->Prop,(∀σ' H',N σ' H'->∃m',m'<m/\W m' σ' H')/\tb {D with nx:=N,ct:=N,bk:=D.nx} σ H1 else D.nx σ H1
theorem WP {c:Expr} {body:List Stmt} {tc:TT} {tb:TS} (hp:PassesOwn (model X.prog X.w) X.A X.env X.xe) (hc:PT X c tc) (hb:PSs X body tb):PS X (.While c body [] pos) (aEt tc tb):=by
 intro pins s σ H D I h;obtain ⟨W,⟨m0,w0⟩,turn⟩:=h;refine wpAny_While (codeAny_whileLoop (fun n s'=>∃σ' H',Inv X pins σ' H' s'/\W n σ' H') ?_ m0 ⟨σ,H,I,w0⟩);rintro n s1 ⟨σ1,H1,I1,w1⟩;refine wpAny_passesOwn hp (thn (hc pins s1 σ1 H1 _ I1 (turn n σ1 H1 w1)) fun b s2 ⟨H2,I2,q2⟩=>?_);cases b with
 | true=>
  obtain ⟨N,hN,q2⟩:=q2;rw [if_pos rfl];refine wpAny_passesOwn hp (thn (hb pins s2 σ1 H2 _ I2 q2) fun f s3 q3=>?_);cases f with
  | next=>
   obtain ⟨σ3,H3,I3,n3⟩:=q3;obtain ⟨m',hm,w3⟩:=hN σ3 H3 n3;exact ⟨m',hm,σ3,H3,I3,w3⟩
  | cont=>
   obtain ⟨σ3,H3,I3,n3⟩:=q3;obtain ⟨m',hm,w3⟩:=hN σ3 H3 n3;exact ⟨m',hm,σ3,H3,I3,w3⟩
  | brk=>exact q3
  | ret v=>exact q3
 | false=>
  rw [if_neg Bool.false_ne_true];exact wpAny_execs_nil ⟨σ1,H2,I2,q2⟩
end
structure It where
 go:Nat->Hp->Prop
 yld:Nat->Hp->V->Hp->Prop
 stop:Nat->Hp->Prop
noncomputable def O5 (X:Cx) (pins:List (Addr×Obj)) (H:Hp) (b:Addr):Prop:=
 H b=none/\b≠X.env.locals/\b∉X.fs/\(b∈X.ex\/X.s₀.heap.objs.size<=b)/\(∀x c,X.env.cells.lookup x=some c->c≠b)/\∀p∈X.pn++pins,p.1≠b
theorem Inv.aHx {X:Cx} {pins:List (Addr×Obj)} {σ:St} {H H':Hp} {s:Shared} {b:Addr} (I:Inv X pins σ H s) (hb:s.heap.objs.size<=b) (hn:H' b=none):O5 X pins H' b:=by
 refine ⟨hn,Nat.ne_of_gt (Nat.lt_of_lt_of_le I.lt hb),I.aJy hb,.inr (Nat.le_trans I.sz hb),fun x c e z=>?_,fun p hp z=>?_⟩
 ·obtain ⟨v,q⟩:=I.cell x c e;exact absurd (Nat.lt_of_lt_of_le q.lt (by rw [z];exact hb)) (Nat.lt_irrefl _)
 ·exact absurd (Nat.lt_of_lt_of_le (Heap.lt_size (I.pin p hp).1) (by rw [z];exact hb)) (Nat.lt_irrefl _)
structure Turn (P:Program) (w:World) (K:PySem.W.Frag) (tg:Expr) (J:It) (fp:List Addr) (it:Addr) (tn:Nat->Heap->Prop):Prop where
 mem:it∈fp
 obj:∀i h,tn i h->∀b∈fp,∃o,h.get? b=some o/\∀v,o.data≠.cell v
 keep:∀i h h',tn i h->(∀b∈fp,∀o,h.get? b=some o->h'.get? b=some o)->tn i h'
 item:∀(X:Cx),X.prog=P->X.w=w->X.K=K->X.calm=true->∀(i:Nat) (pins:List (Addr×Obj)) (s:Shared) (σ:St) (H:Hp) (E:Value->Shared->Prop),Inv X pins σ H s->(∀b∈fp,O5 X pins H b)->tn i s.heap->J.go i H->
  wpAny (model P w) X.A (pyNext (.ref it)) (fun r s1=>∃u,r=some u/\
   wpAny (model P w) X.A (letOwnedTupleGo tg (.ref it) u) (fun _ s2=>∃x H',Inv X pins σ H' s2/\RelV x u/\J.yld i H x H'/\tn (i+1) s2.heap/\∀b∈fp,H' b=none) E s1) E s
 done:∀(X:Cx),X.prog=P->X.w=w->X.K=K->X.calm=true->∀(i:Nat) (pins:List (Addr×Obj)) (s:Shared) (σ:St) (H:Hp) (E:Value->Shared->Prop),Inv X pins σ H s->(∀b∈fp,O5 X pins H b)->tn i s.heap->J.stop i H->
  wpAny (model P w) X.A (pyNext (.ref it)) (fun r s1=>r=none/\Inv X pins σ H s1) E s
 self:∀(A:Around) (i:Nat) (s:Shared) (Q:Value->Shared->Prop) (E:Value->Shared->Prop),tn i s.heap->Q (.ref it) s->wpAny (model P w) A (pyIter (.ref it)) Q E s
abbrev TI:=St->Hp->(It->Hp->Prop)->Prop
noncomputable def PIE (X:Cx) (pins:List (Addr×Obj)) (σ:St) (tg:Expr) (R:It->Hp->Prop) (itv:Value) (s2:Shared):Prop:=
 ∃(it:Addr) (fp:List Addr) (tn:Nat->Heap->Prop) (J:It) (H':Hp),itv=.ref it/\Inv X pins σ H' s2/\Turn X.prog X.w X.K tg J fp it tn/\tn 0 s2.heap/\(∀b∈fp,O5 X pins H' b)/\R J H'
noncomputable def PI (X:Cx) (tg iter:Expr) (wi:TI):Prop:=
 ∀(pins:List (Addr×Obj)) (s:Shared) (σ:St) (H:Hp) (R:It->Hp->Prop),Inv X pins σ H s->wi σ H R->
  wpAny (model X.prog X.w) X.A (eval iter X.env) (fun v s1=>wpAny (model X.prog X.w) X.A (pyIter v) (PIE X pins σ tg R) X.xe s1) X.xe s
theorem WQ {M:Model} {A:Around} {E:Value -> Shared -> Prop} {s:Shared} {tg:Expr} {it:Addr} {u:Value} {o:Obj} {n:String} {vs:Array Value} {Q:Unit -> Shared -> Prop} (ho:s.heap.get? it=some o) (hc:o.cls=.type n) (hd:o.data=.fields vs)
    (hn:["enumerate", "zip", "dict_itemiterator", "dict_reverseitemiterator", "odict_iterator", "itertools.zip_longest", "itertools.pairwise"].contains n=false) (hQ:Q () s):wpAny M A (letOwnedTupleGo tg (.ref it) u) Q E s := by
  unfold letOwnedTupleGo;cases tg <;> first
    | exact wpAny_pure hQ
    | (cases u <;> first
        | exact wpAny_pure hQ
        | (refine wpAny_bind (wpAny_load ho ?_)
           rw [hc, hd];show wpAny M A (if (["enumerate", "zip", "dict_itemiterator", "dict_reverseitemiterator", "odict_iterator", "itertools.zip_longest", "itertools.pairwise"].contains n&&vs[0]?==some (rawInt _))=true then _ else _) Q E s;rw [if_neg (by intro h; rw [hn, Bool.false_and] at h; cases h)];exact wpAny_pure hQ))
noncomputable def Itl (K:PySem.W.Frag) (a:Addr):It:=
 ⟨fun i H=>∃xs x,SqL K H a xs/\xs[i]?=some x,fun i H x H'=>H'=H/\∀xs,SqL K H a xs->xs[i]?=some x,fun i H=>∃xs,SqL K H a xs/\xs.length<=i⟩
noncomputable def Itt (K:PySem.W.Frag) (a:Addr):It:=
 ⟨fun i H=>∃xs x,SqT K H a xs/\xs[i]?=some x,fun i H x H'=>H'=H/\∀xs,SqT K H a xs->xs[i]?=some x,fun i H=>∃xs,SqT K H a xs/\xs.length<=i⟩
noncomputable def Itr (lo:Int) (n:Nat):It:=⟨fun i _=>i<n,fun i H x H'=>H'=H/\x=.int (lo+i),fun i _=>n<=i⟩
theorem O6 {P:Program} {w:World} {K:PySem.W.Frag} {tg:Expr} (a it:Addr):Turn P w K tg (Itl K a) [it] it (fun i h=>h.IsListIter it a i) where
 mem:=by simp
 obj:=fun i h st b hb=>by
  have e:b=it:=by simpa using hb
  subst e;obtain ⟨o,e,c,d⟩:=st;exact ⟨o,e,fun v z=>by rw [d] at z;cases z⟩
 keep:=fun i h h' st k=>st.at fun o e=>k it (by simp) o e
 item:=by
  intro X hP hw hK hc i pins s σ H E I hf st hg;subst hP hw hK;obtain ⟨xs,x,hq,hx⟩:=hg;obtain ⟨its,rv,p,hz⟩:=I.list hq;obtain ⟨u,hu,ru⟩:=rv.get hx;obtain ⟨f0,f1,f2,f3,f4,f5⟩:=hf it (by simp);refine wpAny_pyNext_list_item st p.isList (x:=u) (by simpa using hu) fun h' st' sb=>?_
  have I1:Inv X pins σ H {s with heap:=h'}:=I.turned (t':=s.toks) (fun b o hb e=>(sb.2 b hb).trans e) f0 f1 f3 f4 f5;obtain ⟨o,e,c,d⟩:=id st';exact ⟨u,rfl,WQ (s:={s with heap:=h'}) e c d (by decide) ⟨x,H,I1,ru,⟨rfl,fun ys hy=>by rw [I.WN hy hq];exact hx⟩,st',fun b hb=>(hf b hb).1⟩⟩
 done:=by
  intro X hP hw hK hc i pins s σ H E I hf st hg;subst hP hw hK;obtain ⟨xs,hq,hx⟩:=hg;obtain ⟨its,rv,p,hz⟩:=I.list hq;obtain ⟨f0,f1,f2,f3,f4,f5⟩:=hf it (by simp);have hl:=rv.length;exact wpAny_pyNext_list_end (I.ok.hd hc) st p.isList (by simp;lia) fun h' eb=>⟨rfl,I.turned (t':=s.toks) (fun b o hb e=>eb b o hb e) f0 f1 f3 f4 f5⟩
 self:=fun _ _ _ _ _ st h=>wpAny_pyIter_listiter st h
theorem KZ {P:Program} {w:World} {K:PySem.W.Frag} {tg:Expr} (a it:Addr):Turn P w K tg (Itt K a) [it] it (fun i h=>h.IsTupleIter it a i) where
 mem:=by simp
 obj:=fun i h st b hb=>by
  have e:b=it:=by simpa using hb
  subst e;obtain ⟨o,e,c,d⟩:=st;exact ⟨o,e,fun v z=>by rw [d] at z;cases z⟩
 keep:=fun i h h' st k=>st.at fun o e=>k it (by simp) o e
 item:=by
  intro X hP hw hK hc i pins s σ H E I hf st hg;subst hP hw hK;obtain ⟨xs,x,hq,hx⟩:=hg;obtain ⟨its,rv,p,hz⟩:=I.tuple hq;obtain ⟨u,hu,ru⟩:=rv.get hx;obtain ⟨f0,f1,f2,f3,f4,f5⟩:=hf it (by simp);refine wpAny_pyNext_tuple_item st (show s.heap.IsTuple a its.toArray from p) (x:=u) (by simpa using hu) fun h' st' sb=>?_
  have I1:Inv X pins σ H {s with heap:=h'}:=I.turned (t':=s.toks) (fun b o hb e=>(sb.2 b hb).trans e) f0 f1 f3 f4 f5;obtain ⟨o,e,c,d⟩:=id st';exact ⟨u,rfl,WQ (s:={s with heap:=h'}) e c d (by decide) ⟨x,H,I1,ru,⟨rfl,fun ys hy=>by rw [I.O4 hy hq];exact hx⟩,st',fun b hb=>(hf b hb).1⟩⟩
 done:=by
  intro X hP hw hK hc i pins s σ H E I hf st hg;subst hP hw hK;obtain ⟨xs,hq,hx⟩:=hg;obtain ⟨its,rv,p,hz⟩:=I.tuple hq;obtain ⟨f0,f1,f2,f3,f4,f5⟩:=hf it (by simp);have hl:=rv.length;exact wpAny_pyNext_tuple_end (I.ok.hd hc) st (show s.heap.IsTuple a its.toArray from p) (by simp;lia) fun h' eb=>⟨rfl,I.turned (t':=s.toks) (fun b o hb e=>eb b o hb e) f0 f1 f3 f4 f5⟩
 self:=fun _ _ _ _ _ st h=>wpAny_pyIter_tupleiter st h
theorem K1 {P:Program} {w:World} {K:PySem.W.Frag} {tg:Expr} (it:Addr) (lo:Int) (n:Nat):Turn P w K tg (Itr lo n) [it] it (fun i h=>IsRangeIter h it (lo+(i:Nat)*1) ((n:Int)-(i:Nat)) 1) where
 mem:=by simp
 obj:=fun i h st b hb=>by
  have e:b=it:=by simpa using hb
  subst e;exact ⟨_,st,fun v z=>by
   have z':Data.fields _=Data.cell v:=z;cases z'⟩
 keep:=fun i h h' st k=>k it (by simp) _ st
 item:=by
  intro X hP hw hK hc i pins s σ H E I hf st hg;subst hP hw hK;obtain ⟨f0,f1,f2,f3,f4,f5⟩:=hf it (by simp);have W:=Walks.range (prog:=X.prog) (w:=X.w) (I.ok.hd hc) it lo 1 n;refine W.item i s _ _ hg st fun v h' tk hv st' kk=>?_
  obtain ⟨t,rfl⟩:=hv;have I1:Inv X pins σ H {s with heap:=h',toks:=tk}:=I.turned (fun b o hb e=>kk b o (by simpa using hb) e) f0 f1 f3 f4 f5;refine ⟨_,rfl,WQ (s:={s with heap:=h',toks:=tk}) (n := "range_iterator") st' rfl rfl (by decide) ⟨.int (lo+i),H,I1,⟨t,?_⟩,⟨rfl,rfl⟩,st',fun b hb=>(hf b hb).1⟩⟩;rw [Int.mul_one]
 done:=by
  intro X hP hw hK hc i pins s σ H E I hf st hg;subst hP hw hK;obtain ⟨f0,f1,f2,f3,f4,f5⟩:=hf it (by simp);exact wpAny_pyNext_range_end (I.ok.hd hc) st (by have:n<=i:=hg;lia) fun h' eb=>⟨rfl,I.turned (t':=s.toks) (fun b o hb e=>eb b o hb e) f0 f1 f3 f4 f5⟩
 self:=fun _ _ _ _ _ st h=>wpAny_pyIter_rangeiter st h
end L2
namespace L2
open PySem PySem.Spec PyProof.Rows
section
variable {X:Cx} {tg:Expr}
theorem WR {pins:List (Addr×Obj)} {σ:St} {H:Hp} {s:Shared} {R:It->Hp->Prop} {E:Value->Shared->Prop} {lo hi:Int} {t u v:Tok} {tk:Nat} (I:Inv X pins σ H s) (h1:-(2 ^ 62)<=lo) (h2:lo<2 ^ 62) (h3:-(2 ^ 62)<=hi) (h4:hi<2 ^ 62)
  (q:R (Itr lo (hi-lo).toNat) H):wpAny (model X.prog X.w) X.A (pyIter (.ref s.heap.objs.size)) (PIE X pins σ tg R) E {s with heap:=s.heap.push {cls:=.type "range",data:=.fields #[.int lo t,.int hi u,.int 1 v]},toks:=tk}:=by
 refine wpAny_pyIter_range (IsRange.new ..) (small_one h1 h2 h3 h4) ?_;have I1:Inv X pins σ H {s with heap:=s.heap.push {cls:=.type "range",data:=.fields #[.int lo t,.int hi u,.int 1 v]},toks:=tk}:=I.kept fun b o e=>Heap.get?_push_of_some _ e
 refine ⟨(s.heap.push {cls:=.type "range",data:=.fields #[.int lo t,.int hi u,.int 1 v]}).objs.size,[(s.heap.push {cls:=.type "range",data:=.fields #[.int lo t,.int hi u,.int 1 v]}).objs.size],_,_,H,rfl,
  I1.kept (t':=tk) fun b o e=>Heap.get?_push_of_some _ e,K1 _ lo (hi-lo).toNat,?_,fun b hb=>?_,q⟩
 ·have e1:lo+((0:Nat):Int)*1=lo:=by simp
  have e2:(((hi-lo).toNat:Nat):Int)-((0:Nat):Int)=Builtin.Range.rangeSize lo hi 1:=by rw [rangeSize_one];split <;> lia
  show IsRangeIter _ _ (lo+((0:Nat):Int)*1) ((((hi-lo).toNat:Nat):Int)-((0:Nat):Int)) 1;rw [e1,e2];exact Heap.get?_push_size _ rfl
 ·have e:b=(s.heap.push {cls:=.type "range",data:=.fields #[.int lo t,.int hi u,.int 1 v]}).objs.size:=by simpa using hb
  subst e;exact I1.aHx (Nat.le_refl _) (I1.hok.fresh (Nat.le_refl _))
noncomputable def aIm (ta:TA):TI:=fun σ H R=>ta σ H fun vs H1=>∃j:Int,vs=[.int j]/\-(2 ^ 62)<=j/\j<2 ^ 62/\R (Itr 0 j.toNat) H1
theorem xM {a:Expr} {ta:TA} {p pos:Pos} (hg:Gl X "range") (hm:X.mg "range" = none) (ha:PA X [a] ta) (hs:starEach [a] X.env=[(false,eval a X.env)]:=by rfl):PI X tg (.Call (.Name "range" p) [a] [] pos) (aIm ta):=by
 intro pins s σ H R I h;refine Call_ (uP I hg hm boot_range (PyProof.Rows.callWith_type1 (thn (ha pos pins s σ H _ I h) fun us s1 ⟨vs,H1,I1,r1,q1⟩=>?_) hs rfl));obtain ⟨j,e,q1,q2,q⟩:=q1;subst e;cases r1 with
 | cons r rr=>
  cases rr;obtain ⟨t,rfl⟩:=r;exact call_range_1 (WR I1 (by lia) (by lia) q1 q2 (by simpa using q))
noncomputable def aKs (wi:TI) (g:TG) (tb:TS):TS:=fun D σ H=>wi σ H fun J H1=>∃W:Nat->Nat->St->Hp->Prop,(∃m,W 0 m σ H1)/\∀i m σ H,W i m σ H->
 (J.stop i H/\D.nx σ H)\/(J.go i H/\∃N:St->Hp->Prop,(∀σ' H',N σ' H'->∃m',m'<m/\W (i+1) m' σ' H')/\∀x H',J.yld i H x H'->g x σ H' fun σ2 H2=>tb {D with nx:=N,ct:=N,bk:=D.nx} σ2 H2)
noncomputable def rM (fp:List Addr) (h:Heap):List (Addr×Obj):=fp.filterMap fun b=>(h.get? b).map fun o=>(b,o)
theorem mW {fp:List Addr} {h:Heap} {b:Addr} {o:Obj} (hb:b∈fp) (e:h.get? b=some o):(b,o)∈rM fp h:=List.mem_filterMap.mpr ⟨b,hb,by rw [e];rfl⟩
theorem O7 {fp:List Addr} {h:Heap} {p:Addr×Obj} (hp:p∈rM fp h):p.1∈fp/\h.get? p.1=some p.2:=by
 obtain ⟨b,hb,e⟩:=List.mem_filterMap.mp hp;cases q:h.get? b with
 | none=>rw [q] at e;cases e
 | some o=>
  rw [q] at e;have e':(b,o)=p:=Option.some.inj e;subst e';exact ⟨hb,q⟩
theorem Inv.pinned {pins:List (Addr×Obj)} {σ:St} {H:Hp} {s:Shared} {fp:List Addr} (I:Inv X pins σ H s) (hf:∀b∈fp,O5 X pins H b) (ho:∀b∈fp,∃o,s.heap.get? b=some o/\∀v,o.data≠.cell v):Inv X (pins++rM fp s.heap) σ H s:=
 I.BK fun p hp=>(List.mem_append.mp hp).elim (fun z=>I.pin p (List.mem_append_right _ z)) fun z=>by
  obtain ⟨hb,e⟩:=O7 z;obtain ⟨f0,f1,f2,_⟩:=hf p.1 hb;obtain ⟨o,e',d⟩:=ho p.1 hb;rw [e] at e';cases e';exact ⟨e,f0,f1,f2,d⟩
theorem Inv.oO {pins pl:List (Addr×Obj)} {σ:St} {H:Hp} {s:Shared} (I:Inv X (pins++pl) σ H s):Inv X pins σ H s:=I.BK fun p hp=>I.pin p (List.mem_append_right _ (List.mem_append_left _ hp))
theorem G3 {iter:Expr} {body:List Stmt} {wi:TI} {g:TG} {tb:TS} {pos:Pos} (hp:PassesOwn (model X.prog X.w) X.A X.env X.xe) (hc:X.calm=true) (hi:PI X tg iter wi) (hg:PG X tg g) (hb:PSs X body tb)
  (hs:∀x,foldedSetIterable iter X.env x=pure x:=by intro _;rfl):PS X (.For tg iter body [] pos) (aKs wi g tb):=by
 intro pins s σ H D I h;refine wpAny_For (thn (hi pins s σ H _ I h) fun v s1 h1=>thn h1 fun itv s2 h2=>?_) hs;obtain ⟨it,fp,tn,J,H2,e,I2,T,st2,f2,W,⟨m0,w0⟩,turn⟩:=h2;subst e
 -- what stays true of the iterator's objects through the loop
 have stat:∀{H':Hp},(∀b∈fp,H' b=none)->∀b∈fp,O5 X pins H' b:=fun hn b hb=>⟨hn b hb,(f2 b hb).2⟩
 refine codeAny_forLoop_any (fun n s'=>∃i σ' H',Inv X pins σ' H' s'/\tn i s'.heap/\(∀b∈fp,H' b=none)/\W i n σ' H') ?_ m0 ⟨0,σ,H2,I2,st2,fun b hb=>(f2 b hb).1,w0⟩;rintro n s3 ⟨i,σ3,H3,I3,st3,fr3,w3⟩;rcases turn i n σ3 H3 w3 with ⟨stop,qn⟩|⟨go,N,hN,step⟩
 ·refine wpAny_passesOwn hp (thn (T.done X rfl rfl rfl hc i pins s3 σ3 H3 X.xe I3 (stat fr3) st3 stop) fun r s4 ⟨hr,I4⟩=>?_);subst hr;exact wpAny_execs_nil ⟨σ3,H3,I4,qn⟩
 ·refine wpAny_passesOwn hp (thn (T.item X rfl rfl rfl hc i pins s3 σ3 H3 X.xe I3 (stat fr3) st3 go) fun r s4 ⟨u,hr,h4⟩=>?_);subst hr;refine wpAny_passesOwn hp (thn h4 fun _ s5 ⟨x,H5,I5,r5,y5,st5,fr5⟩=>?_);have I5':=I5.pinned (stat fr5) (T.obj _ _ st5);refine wpAny_passesOwn hp (thn (hg _ s5 σ3 H5 x u _ I5' r5 (step x H5 y5)) fun _ s6 ⟨σ6,H6,I6,q6⟩=>?_);refine wpAny_passesOwn hp (thn (hb _ s6 σ6 H6 _ I6 q6) fun f s7 q7=>?_);have again:∀{σ7:St} {H7:Hp},Inv X (pins++rM fp s5.heap) σ7 H7 s7->N σ7 H7->∃m,m<n/\∃i σ' H',Inv X pins σ' H' s7/\tn i s7.heap/\(∀b∈fp,H' b=none)/\W i m σ' H':=fun {σ7 H7} I7 n7=>by
   obtain ⟨m',hm,w7⟩:=hN σ7 H7 n7;refine ⟨m',hm,i+1,σ7,H7,I7.oO,T.keep _ _ _ st5 fun b hb o e=>(I7.pin (b,o) (List.mem_append_right _ (List.mem_append_right _ (mW hb e)))).1,fun b hb=>?_,w7⟩;obtain ⟨o,e,d⟩:=T.obj _ _ st5 b hb;exact (I7.pin (b,o) (List.mem_append_right _ (List.mem_append_right _ (mW hb e)))).2.1
  cases f with
  | next=>obtain ⟨σ7,H7,I7,n7⟩:=q7;exact again I7 n7
  | cont=>obtain ⟨σ7,H7,I7,n7⟩:=q7;exact again I7 n7
  | brk=>obtain ⟨σ7,H7,I7,q7⟩:=q7;exact ⟨σ7,H7,I7.oO,q7⟩
  | ret v=>obtain ⟨x7,σ7,H7,I7,r7,q7⟩:=q7;exact ⟨x7,σ7,H7,I7.oO,r7,q7⟩
end
end L2
namespace L2
open PySem PySem.Spec PyProof.Rows
abbrev R2:=V->V->Hp->VK->Prop
noncomputable def OpR (X:Cx) (f:Value->Value->Sem Value) (r:R2):Prop:=
 ∀(pins:List (Addr×Obj)) (s:Shared) (σ:St) (H:Hp) (x y:V) (v u:Value) (Q:VK),Inv X pins σ H s->RelV x v->RelV y u->r x y H Q->
  wpAny (model X.prog X.w) X.A (f v u) (EP X pins σ Q) X.xe s
noncomputable def UnR (X:Cx) (f:Value->Sem Value) (r:V->Hp->VK->Prop):Prop:=
 ∀(pins:List (Addr×Obj)) (s:Shared) (σ:St) (H:Hp) (x:V) (v:Value) (Q:VK),Inv X pins σ H s->RelV x v->r x H Q->
  wpAny (model X.prog X.w) X.A (f v) (EP X pins σ Q) X.xe s
noncomputable def nT (X:Cx) (f:Value) (r:List V->Hp->VK->Prop):Prop:=
 ∀(pins:List (Addr×Obj)) (s:Shared) (σ:St) (H:Hp) (xs:List V) (us:List Value) (Q:VK),Inv X pins σ H s->Vals xs us->r xs H Q->
  wpAny (model X.prog X.w) X.A (call f us) (EP X pins σ Q) X.xe s
noncomputable def aKt (X:Cx) (r:V->Hp->(Bool->Hp->Prop)->Prop):Prop:=
 ∀(pins:List (Addr×Obj)) (s:Shared) (σ:St) (H:Hp) (x:V) (v:Value) (Q:Bool->Hp->Prop),Inv X pins σ H s->RelV x v->r x H Q->
  wpAny (model X.prog X.w) X.A (truthy v) (TP X pins σ Q) X.xe s
noncomputable def tOp (r:R2) (ta tb:TE):TE:=fun σ H Q=>ta σ H fun x H1=>tb σ H1 fun y H2=>r x y H2 Q
def tUn (r:V->Hp->VK->Prop) (ta:TE):TE:=fun σ H Q=>ta σ H fun x H1=>r x H1 Q
noncomputable def rI (C:Int->Int->Prop) (g:Int->Int->V):R2:=fun x y H Q=>∃i j,x=.int i/\y=.int j/\C i j/\Q (g i j) H
noncomputable def rI0 (g:Int->Int->V):R2:=fun x y H Q=>∃i j,x=.int i/\y=.int j/\Q (g i j) H
def rU (g:Int->V):V->Hp->VK->Prop:=fun x H Q=>∃i,x=.int i/\Q (g i) H
section
variable {X:Cx} {a b c:Expr} {ta tb tc:TE} {pos:Pos}
theorem aIn (ha:PE X a ta) (hb:PE X b tb) {pins:List (Addr×Obj)} {s:Shared} {σ:St} {H:Hp} {R:V->V->Hp->Prop} (I:Inv X pins σ H s)
  (h:ta σ H fun x H1=>tb σ H1 fun y H2=>R x y H2) {Q:Value->Shared->Prop} {f:Value->Value->Sem Value}
  (hf:∀v u s2 x y H2,Inv X pins σ H2 s2->RelV x v->RelV y u->R x y H2->wpAny (model X.prog X.w) X.A (f v u) Q X.xe s2) :
  wpAny (model X.prog X.w) X.A (eval a X.env) (fun v s₁=>wpAny (model X.prog X.w) X.A (eval b X.env) (fun u s₂=>wpAny (model X.prog X.w) X.A (f v u) Q X.xe s₂) X.xe s₁) X.xe s:=by
 refine thn (ha pins s σ H _ I h) fun v s1 ⟨x,H1,I1,r1,q1⟩=>?_
 refine thn (hb pins s1 σ H1 _ I1 q1) fun u s2 ⟨y,H2,I2,r2,q2⟩=>?_
 exact hf v u s2 x y H2 I2 r1 r2 q2
theorem aEu {op:Operator} {r:R2} (ho:OpR X (binaryOp op) r) (ha:PE X a ta) (hb:PE X b tb):PE X (.BinOp a op b pos) (tOp r ta tb):=by
 intro pins s σ H Q I h;exact wpAny_BinOp (aIn ha hb I h fun v u s2 x y H2 I2 rx ry q=>ho pins s2 σ H2 x y v u Q I2 rx ry q)
theorem aIo {op:UnaryOp} {r:V->Hp->VK->Prop} (ho:UnR X (unaryOp op) r) (ha:PE X a ta):PE X (.UnaryOp op a pos) (tUn r ta):=by
 intro pins s σ H Q I h;exact UnaryOp_ (thn (ha pins s σ H _ I h) fun v s1 ⟨x,H1,I1,r1,q1⟩=>ho pins s1 σ H1 x v Q I1 r1 q1)
theorem opI {f:Value->Value->Sem Value} {C:Int->Int->Prop} {g:Int->Int->Int}
  (rule:∀(i j:Int) (t u:Tok) (s:Shared) (Q:Value->Shared->Prop) (E:Value->Shared->Prop),C i j->Q (.int (g i j) s.toks) {s with toks:=s.toks+1}->wpAny (model X.prog X.w) X.A (f (.int i t) (.int j u)) Q E s) :
  OpR X f (rI C fun i j=>.int (g i j)):=by
 intro pins s σ H x y v u Q I rx ry h;obtain ⟨i,j,rfl,rfl,hc,q⟩:=h;obtain ⟨t,rfl⟩:=rx;obtain ⟨t',rfl⟩:=ry;exact rule i j t t' s _ _ hc ⟨.int (g i j),H,I.tok _,⟨_,rfl⟩,q⟩
theorem aK1 {f:Value->Value->Sem Value} {g:Int->Int->Int}
  (rule:∀(i j:Int) (t u:Tok) (s:Shared) (Q:Value->Shared->Prop) (E:Value->Shared->Prop),Q (.int (g i j) s.toks) {s with toks:=s.toks+1}->wpAny (model X.prog X.w) X.A (f (.int i t) (.int j u)) Q E s) :
  OpR X f (rI0 fun i j=>.int (g i j)):=by
 intro pins s σ H x y v u Q I rx ry h;obtain ⟨i,j,rfl,rfl,q⟩:=h;obtain ⟨t,rfl⟩:=rx;obtain ⟨t',rfl⟩:=ry;exact rule i j t t' s _ _ ⟨.int (g i j),H,I.tok _,⟨_,rfl⟩,q⟩
def aKu (i j:Int):Prop:=0<j/\j<1073741824
def aIp (i j:Int):Prop:=(-(2 ^ 64)<i/\i<2 ^ 64)\/(-(2 ^ 64)<j/\j<2 ^ 64)
theorem aIp.ok {i j:Int} (h:aIp i j):IntMulOk i j:=by
 rcases h with ⟨h1,h2⟩|⟨h1,h2⟩
 ·exact .of_left (intBits_le_64 h1 h2)
 ·exact .of_right (intBits_le_64 h1 h2)
theorem aEv:OpR X (binaryOp .Add) (rI0 fun i j=>.int (i+j)):=aK1 fun _ _ _ _ _ _ _ q=>add_int q
theorem aEw:OpR X (binaryOp .Sub) (rI0 fun i j=>.int (i-j)):=aK1 fun _ _ _ _ _ _ _ q=>sub_int q
theorem aEx:OpR X (binaryOp .Mult) (rI aIp fun i j=>.int (i*j)):=opI fun _ _ _ _ _ _ _ hc q=>mul_int q hc.ok
theorem aBk:OpR X (binaryOp .FloorDiv) (rI aKu fun i j=>.int (i / j)):=opI fun i j _ _ _ _ _ hc q=>by
 have h1:(0:Int)<j:=hc.1;have h2:j<1073741824:=hc.2;exact floordiv_int (by lia) (by rw [Int.fdiv_eq_ediv_of_nonneg i (by lia)];exact q) (.inl (PyProof.noPylong_small (by lia)))
theorem aEy:OpR X (binaryOp .Mod) (rI (fun _ j=>0<j) fun i j=>.int (i % j)):=opI fun i j _ _ _ _ _ hc q=>by
 have h1:(0:Int)<j:=hc;exact mod_int' (by lia) (by rw [Int.fmod_eq_emod_of_nonneg i (by lia)];exact q)
theorem unI {f:Value->Sem Value} {g:Int->Int}
  (rule:∀(i:Int) (t:Tok) (s:Shared) (Q:Value->Shared->Prop) (E:Value->Shared->Prop),Q (.int (g i) s.toks) {s with toks:=s.toks+1}->wpAny (model X.prog X.w) X.A (f (.int i t)) Q E s) :
  UnR X f (rU fun i=>.int (g i)):=by
 intro pins s σ H x v Q I rx h;obtain ⟨i,rfl,q⟩:=h;obtain ⟨t,rfl⟩:=rx;exact rule i t s _ _ ⟨.int (g i),H,I.tok _,⟨_,rfl⟩,q⟩
theorem aEz:UnR X (unaryOp .USub) (rU fun i=>.int (-i)):=unI fun _ _ _ _ _ q=>neg_int q
end
section
variable {X:Cx} {a b c:Expr} {ta tb tc:TE} {pos:Pos}
theorem aF0 {pins:List (Addr×Obj)} {σ:St} {H:Hp} {s:Shared} {Q:VK} {k k':Bool} (I:Inv X pins σ H s) (q:Q (.bl k) H) (e:k=k'):EP X pins σ Q (.bool k') s:=by
 subst e;exact ⟨.bl k,H,I,rfl,q⟩
theorem O8:OpR X (compareOp .In) (fun x y H Q=>∃i j,x=.str i/\y=.str j/\Q (.bl (!(Builtin.Str.occurrences j i 0 j.length 1).isEmpty)) H):=by
 intro pins s σ H x y v u Q I rx ry h;obtain ⟨i,j,rfl,rfl,q⟩:=h;obtain ⟨t,rfl⟩:=rx;obtain ⟨t',rfl⟩:=ry;exact in_str (aF0 I q rfl)
theorem bN (b:Expr) {op:CmpOp} (h:op≠.In:=by decide) (h2:op≠.NotIn:=by decide):behindInMarks op b=false:=by
 have e1:(op==CmpOp.In)=false:=by cases op <;> first|rfl|exact absurd rfl h
 have e2:(op==CmpOp.NotIn)=false:=by cases op <;> first|rfl|exact absurd rfl h2
 cases b <;> simp [behindInMarks,e1,e2]
theorem aBl {op:CmpOp} {r:R2} (ho:OpR X (compareOp op) r) (ha:PE X a ta) (hb:PE X b tb) (hm:behindInMarks op b=false):PE X (.Compare a [op] [b] pos) (tOp r ta tb):=by
 intro pins s σ H Q I h;exact wpAny_Compare1 (aIn ha hb I h fun v u s2 x y H2 I2 rx ry q=>ho pins s2 σ H2 x y v u Q I2 rx ry q) hm
def aIq (t:TE):TT:=fun σ H Q=>t σ H fun x H'=>∃k,x=.bl k/\Q k H'
theorem O9 {op:CmpOp} {r:R2} (ho:OpR X (compareOp op) r) (ha:PE X a ta) (hb:PE X b tb) (hm:behindInMarks op b=false):PT X (.Compare a [op] [b] pos) (aIq (tOp r ta tb)):=by
 intro pins s σ H Q I h;refine wpAny_isTrue_Compare1 (thn (ha pins s σ H _ I h) fun v s1 ⟨x,H1,I1,r1,q1⟩=>thn (hb pins s1 σ H1 _ I1 q1) fun u s2 ⟨y,H2,I2,r2,q2⟩=>
  thn (ho pins s2 σ H2 x y v u _ I2 r1 r2 q2) fun c s3 ⟨z,H3,I3,r3,k,e,q3⟩=>?_) hm
 subst e;cases r3;exact wpAny_truthy_bool ⟨H3,I3,q3⟩
noncomputable def aA1 (r r':R2) (ta tb tc:TE):TE:=fun σ H Q=>ta σ H fun x H1=>tb σ H1 fun y H2=>r x y H2 fun z H3=>∃k,z=.bl k/\
 (if k=true then tc σ H3 fun w' H4=>r' y w' H4 Q else Q (.bl false) H3)
theorem WT {op op':CmpOp} {r r':R2} (ho:OpR X (compareOp op) r) (ho':OpR X (compareOp op') r') (ha:PE X a ta) (hb:PE X b tb) (hc:PE X c tc)
  (hm:lastMarks [op,op'] [b,c]=false:=by with_unfolding_all rfl):PE X (.Compare a [op,op'] [b,c] pos) (aA1 r r' ta tb tc):=by
 intro pins s σ H Q I h;refine Compare_chain (thn (ha pins s σ H _ I h) fun v s1 ⟨x,H1,I1,r1,q1⟩=>chain_link (thn (hb pins s1 σ H1 _ I1 q1) fun u s2 ⟨y,H2,I2,r2,q2⟩=>
  thn (ho pins s2 σ H2 x y v u _ I2 r1 r2 q2) fun d s3 ⟨z,H3,I3,r3,k,e,q3⟩=>?_)) hm
 subst e;cases r3;refine wpAny_truthy_bool ?_;cases k with
 | false=>exact ite_ff ⟨.bl false,H3,I3,rfl,q3⟩
 | true=>exact ite_tt (chain_last (thn (hc pins s3 σ H3 _ I3 q3) fun w' s4 ⟨z',H4,I4,r4,q4⟩=>ho' pins s4 σ H4 y z' u w' Q I4 r2 r4 q4))
noncomputable def aIr (K:PySem.W.Frag) (x:V) (H:Hp) (k:Bool):Prop:=
 match x with
 | .non=>k=false
 | .bl b=>k=b
 | .int i=>k=(i != 0)
 | .str y=>y.length<=sizeLine/\k=((y.length:Int) != 0)
 | .byt y=>y.size<=sizeLine/\k=((y.size:Int) != 0)
 | .ref p=>(∃xs,SqL K H p xs/\k=!xs.isEmpty)\/(∃xs,SqT K H p xs/\k=!xs.isEmpty)\/∃kvs,H p=some (.dK kvs)/\k=!kvs.isEmpty
 | _=>False
theorem K3 {κ:Type} {kvs:List (κ×V)} {vs:List (κ×Value)} (r:KV kvs vs):(!vs.isEmpty)=!kvs.isEmpty:=by
 cases r <;> rfl
theorem uT {xs:List V} {its:List Value} (r:Vals xs its):(!its.toArray.isEmpty)=!xs.isEmpty:=by
 cases r <;> simp
theorem rN:(sizeLine:Nat)<2 ^ 63:=by rw [sizeLine_eq];decide
theorem aF1:aKt X (fun x H Q=>∃k,aIr X.K x H k/\Q k H):=by
 intro pins s σ H x v Q I rx h;obtain ⟨k,e,q⟩:=h;have hl:=rN;have hs:sizeLine=16777216:=sizeLine_eq;cases x with
 | non=>
  cases rx;have e':k=false:=e;subst e';exact truthy_none ⟨H,I,q⟩
 | bl b=>
  cases rx;have e':k=b:=e;subst e';exact wpAny_truthy_bool ⟨H,I,q⟩
 | int i=>
  obtain ⟨t,rfl⟩:=rx;have e':k=(i != 0):=e;subst e';exact PySem.P.truthy_int ⟨H,I,q⟩
 | str y=>
  obtain ⟨t,rfl⟩:=rx;obtain ⟨hy,e'⟩:y.length<=sizeLine/\k=((y.length:Int) != 0):=e;subst e';exact PySem.P.truthy_str (by lia) ⟨H,I.tok _,q⟩
 | byt y=>
  obtain ⟨t,rfl⟩:=rx;obtain ⟨hy,e'⟩:y.size<=sizeLine/\k=((y.size:Int) != 0):=e;subst e';exact PySem.W.truthy_bytes (by lia) ⟨H,I.tok _,q⟩
 | ref p=>
  cases rx;have e':(∃xs,SqL X.K H p xs/\k=!xs.isEmpty)\/(∃xs,SqT X.K H p xs/\k=!xs.isEmpty)\/∃kvs,H p=some (.dK kvs)/\k=!kvs.isEmpty:=e;rcases e' with ⟨xs,hx,e'⟩|⟨xs,hx,e'⟩|⟨kvs,hx,e'⟩
  ·subst e';obtain ⟨its,r,pl,hz⟩:=I.list hx;have hlen:=r.length;exact wpAny_truthy_list pl.isList (by simp only [List.size_toArray];lia) ⟨H,I.tok _,by rw [uT r];exact q⟩
  ·subst e';obtain ⟨its,r,pl,hz⟩:=I.tuple hx;have hlen:=r.length;exact truthy_tuple pl (by simp only [List.size_toArray];lia) ⟨H,I.tok _,by rw [uT r];exact q⟩
  ·subst e';obtain ⟨hz,hS,vs,r,m⟩:kvs.length<=sizeLine/\(p==sysModules)=false/\∃vs,KV kvs vs/\s.heap.DictOf (fJ X.prog X.w) p vs:=I.hok p _ hx;have hlen:kvs.length=vs.length:=Paired.length r;exact wpAny_truthy_dict hS m (by lia) ⟨H,I.tok _,by rw [K3 r];exact q⟩
 | _=>exact (show False from e).elim
theorem WW (ha:PE X a ta) (he:∀whole,isTrue a X.env whole=(do let v <- whole;standAt a.pos;holding [v] (truthy v))) :
  PT X a (fun σ H Q=>ta σ H fun x H'=>∃k,aIr X.K x H' k/\Q k H'):=by
 intro pins s σ H Q I h;exact isTrue_plain (thn (ha pins s σ H _ I h) fun v s1 ⟨x,H1,I1,r1,q1⟩=>aF1 pins s1 σ H1 x v Q I1 r1 q1) (he _)
theorem K4:OpR X (binaryOp .Add) (fun x y H Q=>∃i j,x=.str i/\y=.str j/\i.length+j.length<=sizeLine/\Q (.str (i++j)) H):=by
 intro pins s σ H x y v u Q I rx ry h;obtain ⟨i,j,rfl,rfl,hz,q⟩:=h;obtain ⟨t,rfl⟩:=rx;obtain ⟨t',rfl⟩:=ry;exact add_str (fun t' tk=>⟨.str (i++j),H,I.tok _,⟨_,rfl⟩,q⟩) hz
theorem vals1 {x:V} {us:List Value} (r:Vals [x] us):∃u,us=[u]/\RelV x u:=by
 cases r with
 | cons r1 r2=>cases r2;exact ⟨_,rfl,r1⟩
end
end L2
namespace L2
open PySem PySem.Spec PyProof.Rows
theorem O_ {h:Heap} {dx:Addr} {mA:Str->Option Value} (n:h.Ns1 dx mA):∃od,h.get? dx=some od/\∀name,PySem.W.lookIn name od=some (mA name):=by
 obtain ⟨o,es,ep,ho,hd,hk,_,hm⟩:=n;refine ⟨o,ho,fun name=>?_⟩;have e:=hm name;unfold nsFind findBy at e;rw [<-Array.find?_toList] at e;unfold PySem.W.lookIn;rw [hd];dsimp only;split
 ·rename_i y q;rw [q] at e;exact congrArg some e
 ·rename_i q;rw [q] at e;have a:es.toList.any (·.refKey)=false:=by
   rw [List.any_eq_false];intro y hy;obtain ⟨z,t,hkey⟩:=hk y (Array.mem_toList_iff.mp hy);simp [DictEntry.refKey,hkey]
  have a':¬es.toList.any (·.refKey)=true:=by rw [a];exact Bool.false_ne_true
  rw [if_neg a'];exact congrArg some e
section
variable {prog:Program} {w:World} {A:Around} {E:Value->Shared->Prop} {s:Shared} {K:PySem.W.Frag} {x dx C f:Addr} {mA:Str->Option Value} {name:Str} {v:Value}
end
theorem WF.some_of {v:V} {o:Option Value} (r:WF (some v) o):∃u,o=some u/\RelV v u:=by
 cases o with
 | none=>exact (show False from r).elim
 | some u=>exact ⟨u,rfl,r⟩
section
variable {P:Program} {w:World} {H H':Hp} {h h':Heap} {a C dx:Addr} {fs fs':List (Str×V)}
end
section
variable {X:Cx} {pins:List (Addr×Obj)} {σ:St} {H:Hp} {s:Shared} {a C dx:Addr} {fs:List (Str×V)} {f:Str} {v:V} {A:Around} {E:Value->Shared->Prop}
theorem aBm {prog:Program} {w:World} {env:Env} {e:Expr} {f:Str} {pos:Pos} {s:Shared} {Q:Value->Shared->Prop} (hb:attributeBase e f env (eval e env)=eval e env)
  (h:wpAny (model prog w) A (eval e env) (fun o s₁=>wpAny (model prog w) A (getAttr o f true) Q E s₁) E s):wpAny (model prog w) A (eval (.Attribute e f pos) env) Q E s:=
 Attribute_any_ h (by rw [arm_eval_Attribute,hb])
end
section
variable {X:Cx} {o e value:Expr} {f:Str} {pos pos' tpos:Pos} {ta tv:TE}
end
section
variable {X:Cx} {pins:List (Addr×Obj)} {σ:St} {H:Hp} {s:Shared} {A:Around} {E:Value->Shared->Prop} {Q:Value->Shared->Prop} {c:Value} {b:Bool}
end
end L2
namespace L2
open PySem PySem.Spec PyProof.Rows
structure j5 (k:Nat) (A:Around):Prop where
 hd:A.handled=none
 dp:A.depth+3*k+5<recursionLimit
 un:A.units+16*k+200<cLine
theorem j5.mono {j k:Nat} {A:Around} (r:j5 k A) (h:j<=k):j5 j A:=⟨r.hd,by have:=r.dp;lia,by have:=r.un;lia⟩
theorem j5.deeper {k:Nat} {A:Around} (r:j5 (k+1) A) (env:Env):j5 k (A.deeper env):=
 ⟨r.hd,by have:=r.dp;show A.depth+1+3*k+5<_;lia,by have:=r.un;show A.units+3+16*k+200<_;lia⟩
theorem K5 {A:Around} {C:Addr} {us:List Value} {kw:List (Str×Value)}:(A.under (.builtin "type.__call__" ⟨.ref C::us,kw⟩)).depth=A.depth+1:=by
 first|rfl|simp [Around.under,Code.weight,Code.isCreation,Code.isGuard,Code.isCaller,Code.frames,Code.isFrame,guardIds]
theorem K6 {A:Around} {C:Addr} {us:List Value} {kw:List (Str×Value)}:(A.under (.builtin "type.__call__" ⟨.ref C::us,kw⟩)).units=A.units+1:=by
 first|rfl|simp [Around.under,Code.cUnits,Code.frames,Code.isFrame]
theorem j5.make {k:Nat} {A:Around} (r:j5 (k+1) A) (C:Addr) (us:List Value) (kw:List (Str×Value)):j5 k (A.under (.builtin "type.__call__" ⟨.ref C::us,kw⟩)):=
 ⟨r.hd,by have:=r.dp;rw [K5];lia,by have:=r.un;rw [K6];lia⟩
theorem j5.depth {k:Nat} {A:Around} (r:j5 k A):A.depth<recursionLimit:=by have:=r.dp;lia
theorem j5.units {k:Nat} {A:Around} (r:j5 k A):A.units+64<cLine:=by have:=r.un;lia
def aK2:TA:=fun _ H Q=>Q [] H
noncomputable def aBn (ta:TE) (tr:TA):TA:=fun σ H Q=>ta σ H fun x H1=>tr σ H1 fun xs H2=>Q (x::xs) H2
section
variable {X:Cx} {e:Expr} {es:List Expr} {te:TE} {t:TA} {pos:Pos}
theorem iQ:PA X [] aK2:=fun _ _ _ _ H Q I h=>Calls.spliced_nil ⟨[],H,I,.nil,h⟩
theorem bG (ha:PE X e te) (hr:PA X es t) (hs:starEach (e::es) X.env=(false,eval e X.env)::starEach es X.env:=by rfl):PA X (e::es) (aBn te t):=by
 intro pos pins s σ H Q I h;rw [hs];show wpAny _ _ (spliced ((false,eval e X.env)::backTo pos (starEach es X.env))) _ _ s;refine Calls.spliced_cons (thn (ha pins s σ H _ I h) fun u s1 ⟨x,H1,I1,r1,q1⟩=>?_);exact thn (hr pos pins s1 σ H1 _ I1 q1) fun us s2 ⟨xs,H2,I2,r2,q2⟩=>⟨x::xs,H2,I2,.cons r1 r2,q2⟩
noncomputable def aKv (t:TA):TE:=fun σ H Q=>t σ H fun xs H1=>xs.length<=sizeLine/\∀p,H1 p=none->Q (.ref p) (upd H1 p (.tup xs))
noncomputable def aKw (t:TA):TE:=fun σ H Q=>t σ H fun xs H1=>xs.length<=sizeLine/\∀p,H1 p=none->Q (.ref p) (upd H1 p (.lst xs))
theorem aA2 {x1} (h:PA X es t):PE X (.Tuple es x1 pos) (aKv t):=by
 intro pins s σ H Q I hq;refine wpAny_Tuple_spliced (thn (h pos pins s σ H _ I hq) fun us s1 ⟨xs,H1,I1,r,z,q⟩=>⟨by rw [<-r.length];exact z,?_⟩);have hf:H1 s1.heap.objs.size=none:=I1.hok.fresh (Nat.le_refl _);refine ⟨.ref s1.heap.objs.size,upd H1 s1.heap.objs.size (.tup xs),I1.laid (t':=s1.toks) (fun b u e=>Heap.get?_push_of_some _ e) (Nat.le_refl _) ?_,rfl,q _ hf⟩;exact ⟨z,us,r,⟨_,Heap.get?_push_size _ rfl,rfl,_,rfl⟩⟩
theorem aA3 (h:PA X es t):PE X (.List es pos) (aKw t):=by
 intro pins s σ H Q I hq;refine wpAny_List_spliced (thn (h pos pins s σ H _ I hq) fun us s1 ⟨xs,H1,I1,r,z,q⟩=>⟨by rw [<-r.length];exact z,?_⟩);have hf:H1 s1.heap.objs.size=none:=I1.hok.fresh (Nat.le_refl _);refine ⟨.ref s1.heap.objs.size,upd H1 s1.heap.objs.size (.lst xs),I1.laid (t':=s1.toks) (fun b u e=>Heap.get?_push_of_some _ e) (Nat.le_refl _) ?_,rfl,q _ hf⟩;exact ⟨z,us,0,r,Heap.get?_push_size _ rfl⟩
end
abbrev Sp:=List V->Hp->VK->XK->Prop
abbrev CXT:=List Env->Hp->Shared->XK->Value->Shared->Prop
structure aBo (P:Program) (w:World) (K:PySem.W.Frag) (mg:Str->Option Value) (base:Heap) (A:Around) (outer:List Env) (s:Shared) (H:Hp):Prop where
 frames:A.frames=some outer
 mod:Mod K mg base
 bs:∀b o,base.get? b=some o->s.heap.get? b=some o/\H b=none
 bsz:base.objs.size<=s.heap.objs.size
 KY:s.heap.FunFrames base outer
 frf:∀b∈frs outer,H b=none
 hok:HOk P w H s.heap
 bare:AllBare s.gens
noncomputable def CE (outer:List Env) (P:Program) (w:World) (H:Hp) (s:Shared) (Q:VK) (u:Value) (s':Shared):Prop:=
 ∃v H',s'.os=s.os/\AllBare s'.gens/\Un (frs outer) [] H H' s.heap s'.heap/\HOk P w H' s'.heap/\RelV v u/\Q v H'
noncomputable def CR (CX:CXT) (outer:List Env) (P:Program) (w:World) (H:Hp) (s:Shared) (Q:VK) (E:XK) (r:Result) (s':Shared):Prop:=
 match r with
 | .ok (.ret u)=>CE outer P w H s Q u s'
 | .ok _=>False
 | .error e=>CX outer H s E e s'
structure qW (P:Program) (w:World) (K:PySem.W.Frag) (mg:Str->Option Value) (base:Heap) (CX:CXT) (k:Nat) (f:Addr) (fd:FuncData) (ps:List Str) (sp:Sp):Prop where
 len:∀vs H Q E,sp vs H Q E->vs.length=ps.length
 run:∀(A:Around) (outer:List Env) (s:Shared) (H:Hp) (args:Args) (us:List Value) (vs:List V) (Q:VK) (E:XK),j5 k A->aBo P w K mg base A outer s H->BindsTo s fd args (ps.zip us)->Vals vs us->sp vs H Q E->
  codeAny (model P w) A (.call (.ref f) args) (CR CX outer P w H s Q E) s
theorem aBo.make {P:Program} {w:World} {K:PySem.W.Frag} {mg:Str->Option Value} {base:Heap} {A:Around} {outer:List Env} {s:Shared} {H:Hp} (e:aBo P w K mg base A outer s H) (C:Addr) (us:List Value) (kw:List (Str×Value)) :
  aBo P w K mg base (A.under (.builtin "type.__call__" ⟨.ref C::us,kw⟩)) outer s H:=⟨by first|exact e.frames|(simpa [Around.under,Code.envs,Code.isFrame,pushEnvs] using e.frames),e.mod,e.bs,e.bsz,e.KY,e.frf,e.hok,e.bare⟩
section
variable {X:Cx} {pins:List (Addr×Obj)} {σ:St} {H:Hp} {s s':Shared}
theorem Inv.env0 (I:Inv X pins σ H s):aBo X.prog X.w X.K X.mg X.base X.A X.stack s H:=
 ⟨I.ok.frames,I.ok.mod,I.bs,Nat.le_trans I.ok.bsz I.sz,I.stack,I.vI,I.hok,I.bare⟩
theorem Inv.after {Q:VK} {u:Value} (I:Inv X pins σ H s) (h:CE X.stack X.prog X.w H s Q u s'):EP X pins σ Q u s':=by
 obtain ⟨v,H',os,bare,un,hok,r,q⟩:=h;obtain ⟨hh,g,d,t,os'⟩:=s';obtain rfl:os'=s.os:=os;exact ⟨v,H',I.call (h':=hh) (g':=g) (d':=d) (t':=t) (ch:=[]) un hok bare (fun b z=>absurd z (by simp)),r,q⟩
end
noncomputable def aIs (sp:Sp) (dvs:List V) (E:XK) (t:TA):TE:=fun σ H Q=>t σ H fun vs H1=>sp (vs++dvs) H1 Q E
noncomputable def Binds (K:PySem.W.Frag) (fd:FuncData) (ps:List Str) (ds:List Value):Prop:=
 ∀(s:Shared) (us:List Value),K.In s.heap->(us++ds).length=ps.length->BindsTo s fd ⟨us,[]⟩ (ps.zip (us++ds))
theorem Binds.all {K:PySem.W.Frag} {fd:FuncData} {ps:List Str} (h:∀us:List Value,us.length=ps.length->bindArgs fd ⟨us,[]⟩=pure (ps.zip us)):Binds K fd ps []:=fun s us _ hl=>by
 rw [List.append_nil] at hl ⊢;exact .of_eq (h us hl)
noncomputable def G4 (CX:CXT) (X:Cx) (E:XK):Prop:=∀(pins:List (Addr×Obj)) (σ:St) (H:Hp) (s:Shared) (e:Value) (s':Shared),Inv X pins σ H s->CX X.stack H s E e s'->X.xe e s'
section
variable {X:Cx} {CX:CXT} {k:Nat} {f C:Addr} {fd:FuncData} {ps:List Str} {sp:Sp} {dvs:List V} {ds:List Value} {E:XK} {x m:Str} {p pos apos:Pos} {e o:Expr} {es:List Expr} {ta:TE} {t:TA}
theorem aF2 {pins:List (Addr×Obj)} {σ:St} {H:Hp} {s:Shared} {Q:VK} {us:List Value} {vs:List V} (F:qW X.prog X.w X.K X.mg X.base CX k f fd ps sp) (hr:j5 k X.A) (hb:Binds X.K fd ps ds) (hd:Vals dvs ds) (hx:G4 CX X E)
  (I:Inv X pins σ H s) (r:Vals vs us) (h:sp (vs++dvs) H Q E):wpAny (model X.prog X.w) X.A (call (.ref f) us) (EP X pins σ Q) X.xe s:=by
 have r2:Vals (vs++dvs) (us++ds):=r.append hd;have hl:(us++ds).length=ps.length:=by rw [<-r2.length];exact F.len _ _ _ _ h
 refine wpAny_call (codeAny_mono (F.run X.A X.stack s H ⟨us,[]⟩ (us++ds) (vs++dvs) Q E hr I.env0 (hb s us I.kIn hl) r2 h) fun r s' hq=>?_);cases r with
 | error e=>exact hx pins σ H s e s' I hq
 | ok fl=>
  cases fl with
  | ret u=>exact I.after hq
  | next=>exact False.elim hq
  | brk=>exact False.elim hq
  | cont=>exact False.elim hq
theorem pK (F:qW X.prog X.w X.K X.mg X.base CX k f fd ps sp) (hr:j5 k X.A) (hg:Gl X x) (hm:X.mg x=some (.ref f)) (hk:PySem.W.keepIn X.K (.ref f)=true) (hb:Binds X.K fd ps ds) (hd:Vals dvs ds) (hx:G4 CX X E)
  (ha:PA X (e::es) t) (hdb:nDb x:=by decide) (he:starEach (e::es) X.env=(false,eval e X.env)::starEach es X.env:=by rfl) (hpl:(backTo pos (starEach es X.env)).any (·.1)=false:=by rfl) :
  PE X (.Call (.Name x p) (e::es) [] pos) (aIs sp dvs E t):=by
 intro pins s σ H Q I h;refine wpAny_Call_Name_kw (nQ I hg hm ?_ hdb);refine PySem.W.callWith_K (h₀:=X.base) I.ok.mod.kin hk (thn (ha pos pins s σ H _ I h) fun us s1 ⟨vs,H1,I1,r,q⟩=>⟨I1.kIn,?_⟩) he hpl;exact aF2 F hr hb hd hx I1 r q
end
section
variable {X:Cx} {CX:CXT} {k:Nat} {f C:Addr} {fd:FuncData} {ps ks:List Str} {sp:Sp} {E:XK} {x m:Str} {p pos apos kpos:Pos} {e o:Expr} {es:List Expr} {kws:List Keyword} {te ta:TE} {t tk:TA} {nm:Option Str}
variable {g:List Value->List Value->List Value} {gV:List V->List V->List V}
end
structure bT (N P:List Str) (sc:Scope):Prop where
 kind:sc.kind=.function
 co:sc.isCoroutine=false
 gen:sc.isGenerator=false
 nd:N.Nodup
 pre:N.take P.length=P
 par:∀x∈P,sc.names.lookup x=some .local\/sc.names.lookup x=some .cell
 nofree:∀y∈sc.names,y.2≠.free
theorem xN {kindOf:Str->Option NameKind} {x:Str}:∀{binds:List (Str×Value)} {m:Str->Option Value},(∀v,(x,v)∉binds)->bindL kindOf binds m x=m x
 | [],_,_=>rfl
 | (n,v)::r,m,h=>by
  unfold bindL;rw [xN fun w hw=>h w (List.mem_cons_of_mem _ hw)];split
  ·have:x≠n:=by rintro rfl;exact h v List.mem_cons_self
   simp [this]
  ·rfl
theorem xO {kindOf:Str->Option NameKind} {x:Str}:∀{binds:List (Str×Value)} {m:Str->Option Value},(∀v,(x,v)∉binds)->bindC kindOf binds m x=m x
 | [],_,_=>rfl
 | (n,v)::r,m,h=>by
  unfold bindC;rw [xO fun w hw=>h w (List.mem_cons_of_mem _ hw)];split
  ·rfl
  ·have:x≠n:=by rintro rfl;exact h v List.mem_cons_self
   simp [this]
theorem xP {kindOf:Str->Option NameKind} {x:Str} {v:Value}:∀{P:List Str} {vs:List Value} {i:Nat} {m:Str->Option Value},P.Nodup->P[i]?=some x->vs[i]?=some v->kindOf x=some .local->
  bindL kindOf (P.zip vs) m x=some v
 | [],_,_,_,_,h,_,_=>by simp at h
 | _::_,[],_,_,_,_,h,_=>by simp at h
 | p::P,w::vs,0,m,nd,h1,h2,hk=>by
  simp at h1 h2;subst h1;subst h2;show bindL kindOf ((p,w)::P.zip vs) m p=_;unfold bindL;rw [xN fun v hv=>(List.nodup_cons.mp nd).1 (List.of_mem_zip hv).1,if_pos hk];simp
 | p::P,w::vs,i+1,m,nd,h1,h2,hk=>by
  show bindL kindOf ((p,w)::P.zip vs) m x=_;unfold bindL;exact xP (i:=i) (List.nodup_cons.mp nd).2 (by simpa using h1) (by simpa using h2) hk
theorem xQ {kindOf:Str->Option NameKind} {x:Str} {v:Value}:∀{P:List Str} {vs:List Value} {i:Nat} {m:Str->Option Value},P.Nodup->P[i]?=some x->vs[i]?=some v->kindOf x≠some .local->
  bindC kindOf (P.zip vs) m x=some v
 | [],_,_,_,_,h,_,_=>by simp at h
 | _::_,[],_,_,_,_,h,_=>by simp at h
 | p::P,w::vs,0,m,nd,h1,h2,hk=>by
  simp at h1 h2;subst h1;subst h2;show bindC kindOf ((p,w)::P.zip vs) m p=_;unfold bindC;rw [xO fun v hv=>(List.nodup_cons.mp nd).1 (List.of_mem_zip hv).1,if_neg hk];simp
 | p::P,w::vs,i+1,m,nd,h1,h2,hk=>by
  show bindC kindOf ((p,w)::P.zip vs) m x=_;unfold bindC;exact xQ (i:=i) (List.nodup_cons.mp nd).2 (by simpa using h1) (by simpa using h2) hk
noncomputable def start (N:List Str) (vs:List V):St:=vs.map some++List.replicate (N.length-vs.length) none
noncomputable def k_ (CX:CXT) (P:Program) (w:World) (K:PySem.W.Frag) (mg:Str->Option Value) (base:Heap) (N:List Str) (qual:Str) (scope:Scope) (f:Addr) (cd:Value) (A:Around) (outer:List Env) (s:Shared) (H:Hp) (E:XK):Cx where
 prog:=P
 w:=w
 K:=K
 mg:=mg
 base:=base
 A:=A.deeper (envOfC qual scope s.heap.objs.size f cd)
 N:=N
 s₀:=s
 H₀:=H
 env:=envOfC qual scope s.heap.objs.size f cd
 outer:=outer
 stack:=envOfC qual scope s.heap.objs.size f cd::outer
 ex:=[]
 calm:=true
 fn:=fun _=>true
 pn:=[]
 xe:=fun e s'=>wpAny (model P w) (A.deeper (envOfC qual scope s.heap.objs.size f cd)) (leaving (envOfC qual scope s.heap.objs.size f cd) e) (fun _ s''=>CX outer H s E e s'') (fun e' s''=>CX outer H s E e' s'') s'
theorem G5 {sc:Scope} {n:Nat} {x:Str} (h:sc.names.lookup x=some .cell):∃c,(cellsFrom n sc.names []).lookup x=some c:=by
 have q:=PySem.W.cellsFrom_some sc.names n [] (.inl h);exact Option.isSome_iff_exists.mp q
theorem PB {CX:CXT} {P:Program} {w:World} {K:PySem.W.Frag} {mg:Str->Option Value} {base:Heap} {N ps:List Str} {qual:Str} {scope:Scope} {f:Addr} {cd:Value} {A:Around} {outer:List Env} {s s1:Shared} {H:Hp} {E:XK} {us:List Value} {vs:List V}
  (S:bT N ps scope) (hd:A.handled=none) (e0:aBo P w K mg base A outer s H) (hl:vs.length=ps.length) (r:Vals vs us)
  (x:InCallC s s.heap.objs.size (bindL (envOfC qual scope s.heap.objs.size f cd).kindOf (ps.zip us) fun _=>none) (cellsFrom (s.heap.objs.size+1) scope.names []) (bindC (envOfC qual scope s.heap.objs.size f cd).kindOf (ps.zip us) fun _=>none) s1) :
  Inv (k_ CX P w K mg base N qual scope f cd A outer s H E) [] (start N vs) H s1:=by
 have hpl:ps.length<=N.length:=by have:=congrArg List.length S.pre;rw [List.length_take] at this;lia
 obtain ⟨h1,tk,rfl,hk⟩:=x.done;have noA:∀b:Addr,b∉(k_ CX P w K mg base N qual scope f cd A outer s H E).ex:=fun b z=>absurd (show b∈([]:List Addr) from z) (by simp)
 refine ⟨⟨e0.mod,S.kind,rfl,rfl,Nat.le_refl _,fun y z c h1 h2=>?_,fun y hy=>?_,fun y c _ h=>?_,fun _=>hd,Around.frames_deeper e0.frames,.inr ⟨rfl,rfl⟩,fun b z=>absurd z (noA b),e0.bs,e0.bsz,fun b _ _=>noA b,fun b z=>absurd z (noA b),e0.KY,e0.frf⟩,
  rfl,e0.bare,Un.kept hk,⟨_,x.toInCall.ns,fun i y v h1 h2 h3=>?_⟩,fun y c h=>⟨_,x.cell y c h⟩,e0.hok.fresh (Nat.le_refl _),fun y c h=>?_,fun p hp=>absurd (show p∈([]:List (Addr×Obj)) from hp) (by simp),e0.hok.kept hk,?_⟩
 ·exact name_of_addr x.apart (PySem.mem_of_lookup h1) (PySem.mem_of_lookup h2)
 ·have hy:scope.names.lookup y=some .cell\/scope.names.lookup y=some .free:=hy;rcases hy with hy|hy
  ·exact G5 hy
  ·exact absurd rfl (S.nofree _ (PySem.mem_of_lookup hy))
 ·exact Nat.le_of_lt (x.above y c (PySem.mem_of_lookup h))
 ·have hi:i<vs.length:=by
   unfold start at h2;by_cases hi:i<vs.length
   ·exact hi
   ·rw [List.getElem?_append_right (by simpa using hi)] at h2;rw [List.getElem?_replicate] at h2;split at h2 <;> cases h2
  have ha:vs[i]?=some v:=by
   unfold start at h2;rw [List.getElem?_append_left (by simpa using hi),List.getElem?_map] at h2;cases e:vs[i]? with
   | none=>rw [e] at h2;cases h2
   | some a=>rw [e] at h2;cases h2;rfl
  obtain ⟨u,hu,rv⟩:=r.get ha;have hp:ps[i]?=some y:=by
   rw [<-S.pre,List.getElem?_take_of_lt (by lia)];exact h1
  have ndP:ps.Nodup:=by rw [<-S.pre];exact S.nd.sublist (List.take_sublist _ _)
  refine ⟨u,rv,?_⟩;rcases S.par y (List.mem_of_getElem? hp) with k|k
  ·exact .inl ⟨k,xP ndP hp hu k⟩
  ·obtain ⟨c,e⟩:=G5 (n:=s.heap.objs.size+1) k;refine .inr ⟨.inl k,c,e,?_⟩;have q:=x.cell y c e;rw [xQ ndP hp hu (by show scope.names.lookup y≠_;rw [k];decide)] at q;exact q
 ·exact e0.hok.fresh (Nat.le_of_lt (x.above y c (PySem.mem_of_lookup h)))
 ·unfold start;show _=N.length;rw [List.length_append,List.length_map,List.length_replicate];lia
theorem aF3 {CX:CXT} {P:Program} {w:World} {K:PySem.W.Frag} {mg:Str->Option Value} {base:Heap} {k:Nat} {f:Addr} {name qual:Str} {params:Arguments} {body:List Stmt} {scope:Scope} {dV kV doc pm cdv ct oc:Value} {an od:Option Addr}
  {osl:Array (Option Value)} {N ps:List Str} {sp:Sp} (lk:K.lookup f=some ⟨oc,od,.func (PySem.W.fnOf name qual params body scope dV kV doc pm an cdv ct),osl⟩) (hcd:PySem.W.codeIn K cdv qual=true) (S:bT N ps scope)
  (len:∀vs H Q E,sp vs H Q E->vs.length=ps.length)
  (hbody:∀(A:Around) (outer:List Env) (s:Shared) (H:Hp) (vs:List V) (Q:VK) (E:XK),j5 k (A.deeper (envOfC qual scope s.heap.objs.size f cdv))->sp vs H Q E->
   ∃t,PSs (k_ CX P w K mg base N qual scope f cdv A outer s H E) body t/\t {nx:=fun _ H'=>Q .non H',rt:=Q} (start N vs) H) :
  qW P w K mg base CX (k+1) f (PySem.W.fnOf name qual params body scope dV kV doc pm an cdv ct) ps sp:=by
 refine ⟨len,fun A outer s H args us vs Q E hr e0 hb r hsp=>?_⟩;have hl:=len _ _ _ _ hsp;have KX:K.In s.heap:=e0.mod.kin.keeps fun b o e=>(e0.bs b o e).1
 have lim:s.heap.NoLimit:=e0.mod.nolimit.keeps fun b o e=>(e0.bs b o e).1
 have hkind:∀y∈ps.zip us,scope.names.lookup y.1=some .local\/(scope.names.lookup y.1=some .cell/\((cellsFrom (s.heap.objs.size+1) scope.names []).lookup y.1).isSome=true):=fun ⟨n,v⟩ hy=>by
  rcases S.par n (List.of_mem_zip hy).1 with q|q
  ·exact .inl q
  ·exact .inr ⟨q,PySem.W.cellsFrom_some _ _ _ (.inl q)⟩
 refine codeAny_call_function hr.depth (KX _ _ lk) rfl S.co S.gen rfl (PySem.W.codeRec_of KX hcd) (hb _ _ _ _ ?_);refine wpAny_newFunctionEnv_cells S.kind hkind fun env he s1 x=>?_
 subst he;refine ⟨lim.keeps x.toInCall.keep,codeAny_func ?_⟩;obtain ⟨t,ht,hq⟩:=hbody A outer s H vs Q E (hr.deeper _) hsp;have I:Inv (k_ CX P w K mg base N qual scope f cdv A outer s H E) [] (start N vs) H s1:=PB S hr.hd e0 hl r x;refine wpAny_mono (ht [] s1 (start N vs) H _ I hq) (fun fl s' hs=>?_) fun e s' hs=>hs
 have fin:∀{σ':St} {H':Hp} {v:V} {u:Value},Inv (k_ CX P w K mg base N qual scope f cdv A outer s H E) [] σ' H' s'->RelV v u->Q v H'->CE outer P w H s Q u s':=
  fun {σ' H' v u} J rv q=>⟨v,H',J.os,J.bare,J.base,J.hok,rv,q⟩
 cases fl with
 | ret u=>
  obtain ⟨v,σ',H',J,rv,q⟩:=hs;exact fin J rv q
 | next=>
  obtain ⟨σ',H',J,q⟩:=hs;exact fin (v:=V.non) (u:=Value.none) J rfl q
 | brk=>
  obtain ⟨_,_,_,q⟩:=hs;exact False.elim q
 | cont=>
  obtain ⟨_,_,_,q⟩:=hs;exact False.elim q
end L2
namespace L2
open PySem PySem.Spec PyProof.Rows
section
variable {X:Cx} {x:Str} {p pos:Pos} {e:Expr} {es:List Expr} {t:TA} {id T:String} {r:List V->Hp->VK->Prop}
noncomputable def tCB (r:List V->Hp->VK->Prop) (t:TA):TE:=fun σ H Q=>t σ H fun vs H1=>r vs H1 Q
theorem rB (hc:nT X (.builtin id) r) (hg:Gl X x) (hm:X.mg x=none) (hv:bootBuiltins x=some (.builtin id)) (ha:PA X (e::es) t) (hn:x ≠ "__name__":=by decide) (hdb:nDb x:=by decide)
  (he:starEach (e::es) X.env=(false,eval e X.env)::starEach es X.env:=by rfl) (hpl:(backTo pos (starEach es X.env)).any (·.1)=false:=by rfl):PE X (.Call (.Name x p) (e::es) [] pos) (tCB r t):=by
 intro pins s σ H Q I h;refine wpAny_Call_Name_kw (uP I hg hm hv ?_ hn hdb);exact PyProof.Rows.callWith_builtin1 (thn (ha pos pins s σ H _ I h) fun us s1 ⟨vs,H1,I1,r1,q1⟩=>hc pins s1 σ H1 vs us Q I1 r1 q1) he hpl
theorem PJ (hc:nT X (.type T) r) (hg:Gl X x) (hm:X.mg x=none) (hv:bootBuiltins x=some (.type T)) (ha:PA X (e::es) t) (hn:x ≠ "__name__":=by decide) (hdb:nDb x:=by decide)
  (he:starEach (e::es) X.env=(false,eval e X.env)::starEach es X.env:=by rfl) (hpl:(backTo pos (starEach es X.env)).any (·.1)=false:=by rfl):PE X (.Call (.Name x p) (e::es) [] pos) (tCB r t):=by
 intro pins s σ H Q I h;refine wpAny_Call_Name_kw (uP I hg hm hv ?_ hn hdb);exact PyProof.Rows.callWith_type1 (thn (ha pos pins s σ H _ I h) fun us s1 ⟨vs,H1,I1,r1,q1⟩=>hc pins s1 σ H1 vs us Q I1 r1 q1) he hpl
end
end L2
namespace HT
open PySem PyProof.Rows
section
open PySem.SeqAt
open PySem.AutoSeq1 (wpAny_loadPart')
open PySem.MeetsSeq PySem.MeetsSeq2 PySem.MeetsSeq3
end
section
variable {prog:Program} {w:World} {A:Around} {E:Value->Shared->Prop} {s:Shared}
theorem aBp {t b:Addr} {vs ws:List Value} {Q:Value->Shared->Prop} (ht:IsTup s.heap t vs.toArray) (hb:IsTup s.heap b ws.toArray) (hv:vs≠[])
  (h1:ws=[]->Q (.ref t) s) (h2:ws≠[]->Q (.ref s.heap.objs.size) {s with heap:=s.heap.push {cls:=.type "tuple",data:=.seq (vs++ws).toArray}})
  (hsz:vs.length+ws.length<=sizeLine):wpAny (model prog w) A (binaryOp .Add (.ref t) (.ref b)) Q E s:=by
 obtain ⟨⟨cls,dd,data,sl⟩,ho,hc,n,hd⟩:=id ht;obtain ⟨⟨cls2,dd2,data2,sl2⟩,ho2,hc2,n2,hd2⟩:=id hb;simp only at hc hd hc2 hd2;subst hc hd hc2 hd2;have e:vs.toArray++ws.toArray=(vs++ws).toArray:=by simp
 by_cases hw:ws=[]
 ·exact concat_meets ⟨_,ho,rfl⟩ ⟨_,ho2,rfl⟩ noFill_tuple_add seq_tuple_add PySem.F.slot_tuple_add PySem.F.entry_tuple_add (PySem.F.args_tuple_add_2 _ _)
   (tuple_addW1 t b vs.toArray ws.toArray n n2 dd dd2 sl sl2 (by simpa using hv) (by simp [hw])) ⟨ho,ho2,h1 hw⟩
 ·refine concat_meets ⟨_,ho,rfl⟩ ⟨_,ho2,rfl⟩ noFill_tuple_add seq_tuple_add PySem.F.slot_tuple_add PySem.F.entry_tuple_add (PySem.F.args_tuple_add_2 _ _)
   (tuple_addW2 t b vs.toArray ws.toArray n n2 dd dd2 sl sl2 (by simpa using hv) (by simpa using hw) (by rw [List.size_toArray,List.size_toArray];exact hsz)) ⟨ho,ho2,?_⟩
  rw [e];exact h2 hw
noncomputable def sIx (n d:Nat):Option Int->Nat
 | none=>d
 | some v=>if v<0 then (v+(n:Int)).toNat else min v.toNat n
theorem aF4 (n d:Nat) (hd:d<=n) (o:Option Int):sIx n d o<=n:=by
 cases o with
 | none=>exact hd
 | some v=>
  show (if v<0 then (v+(n:Int)).toNat else min v.toNat n)<=n;by_cases hv:v<0
  ·rw [if_pos hv];lia
  ·rw [if_neg hv];exact Nat.min_le_right _ _
theorem PK (v:Int) (n d:Nat):(if v<0 then max (v+(n:Int)) 0 else min v (n:Int))=((sIx n d (some v):Nat):Int):=by
 show (if v<0 then max (v+(n:Int)) 0 else min v (n:Int))=(((if v<0 then (v+(n:Int)).toNat else min v.toNat n):Nat):Int);by_cases hv:v<0
 ·simp only [if_pos hv];lia
 ·simp only [if_neg hv];lia
theorem K7 (lo hi:Option Int) (n:Nat):Builtin.Slice.sliceAdjust lo hi 1 (n:Int)=(((sIx n 0 lo:Nat):Int),((sIx n n hi:Nat):Int)):=by
 have h1:¬((1:Int)<0):=by lia
 unfold Builtin.Slice.sliceAdjust;simp only [h1,if_false];refine Prod.ext ?_ ?_
 ·cases lo with
  | none=>rfl
  | some v=>exact PK v n 0
 ·cases hi with
  | none=>rfl
  | some v=>exact PK v n n
theorem K8 (i j:Nat):Builtin.Slice.slicePlaces (i:Int) (j:Int) 1=j-i:=by
 unfold Builtin.Slice.slicePlaces;have h1:(1:Int) > 0:=by lia
 simp only [h1,if_true,Int.ediv_one];split <;> lia
theorem uU {v:Value} {o:Option Int} {Q:Option Int->Shared->Prop} (p:IsPart v o) (h:Q o s):wpAny (model prog w) A (Builtin.Slice.slicePartIndex v) Q E s:=by
 cases p with
 | none=>exact slicePart_none h
 | int i t=>exact slicePart_int h
theorem qX {sl:Addr} {vl vu:Value} {lo hi:Option Int} {n:Nat} {Q:Int×Int×Nat->Shared->Prop} (hs:s.heap.IsSliceOf sl vl vu .none) (pl:IsPart vl lo) (pu:IsPart vu hi)
  (h:Q (((sIx n 0 lo:Nat):Int),1,sIx n n hi-sIx n 0 lo) s):wpAny (model prog w) A (Builtin.Slice.sliceApplied (.ref sl) (pure (n:Int))) Q E s:=by
 obtain ⟨os,hos,hcs,hds⟩:=id hs;unfold Builtin.Slice.sliceApplied Builtin.Slice.sliceFields;refine wpAny_bind (wpAny_bind (wpAny_field hos hds (x:=vl) rfl (wpAny_bind (wpAny_field hos hds (x:=vu) rfl (wpAny_bind (wpAny_field hos hds (x:=.none) rfl (wpAny_pure ?_)))))));refine wpAny_bind (slicePart_none ?_);show wpAny _ _ (if ((1:Int)==0)=true then _ else _) _ _ s;rw [if_neg (by decide)];refine wpAny_bind (uU pl (wpAny_bind (uU pu (wpAny_bind (wpAny_pure ?_)))));show wpAny _ _ (match Builtin.Slice.sliceAdjust lo hi 1 (n:Int) with|(lo,hi)=>pure (lo,(1:Int),Builtin.Slice.slicePlaces lo hi 1)) _ _ s;rw [K7 lo hi n];show wpAny _ _ (pure (((sIx n 0 lo:Nat):Int),(1:Int),Builtin.Slice.slicePlaces ((sIx n 0 lo:Nat):Int) ((sIx n n hi:Nat):Int) 1)) _ _ s;rw [K8];exact wpAny_pure h
theorem WX (xs:Array Value) (i k:Nat):((List.range k).filterMap fun (m:Nat)=>xs[((i:Int)+(m:Int)*1).toNat]?).toArray=((xs.toList.drop i).take k).toArray:=by
 have e:(fun (m:Nat)=>xs[((i:Int)+(m:Int)*1).toNat]?)=fun m=>xs[i+m]?:=by
  funext m
  have:((i:Int)+(m:Int)*1).toNat=i+m:=by lia
  rw [this]
 rw [e];have:=pick_run xs i k;rw [List.filterMap_map] at this;have e2:((fun x=>xs[x]?) ∘ fun x=>i+x)=fun m=>xs[i+m]?:=rfl
 rw [e2] at this;rw [this]
theorem pL {t sl:Addr} {items:Array Value} {vl vu:Value} {lo hi:Option Int} {Q:Value->Shared->Prop} (ht:IsTup s.heap t items) (hs:s.heap.IsSliceOf sl vl vu .none) (pl:IsPart vl lo) (pu:IsPart vu hi)
  (hw:¬(sIx items.size 0 lo=0/\sIx items.size items.size hi=items.size))
  (h:Q (.ref s.heap.objs.size) {s with heap:=s.heap.push {cls:=.type "tuple",data:=.seq ((items.toList.drop (sIx items.size 0 lo)).take (sIx items.size items.size hi-sIx items.size 0 lo)).toArray}})
  (hsz:items.size<=sizeLine):wpAny (model prog w) A (getItem (.ref t) (.ref sl)) Q E s:=by
 have htake:sizeOk (.seq ((items.toList.drop (sIx items.size 0 lo)).take (sIx items.size items.size hi-sIx items.size 0 lo)).toArray):=by
  show ((items.toList.drop (sIx items.size 0 lo)).take (sIx items.size items.size hi-sIx items.size 0 lo)).toArray.size<=sizeLine;rw [List.size_toArray,List.length_take,List.length_drop,Array.length_toList];lia
 have hj:sIx items.size items.size hi<=items.size:=aF4 _ _ (Nat.le_refl _) hi;obtain ⟨os,hos,hcs,hds⟩:=id hs;have hTs:s.TypeIs (.ref sl) "slice":=⟨os,hos,hcs⟩
 unfold getItem
 try with_reducible refine wpAny_holding ?_
 first|refine wpAny_bind (wpAny_pure ?_)|skip
 refine wpAny_bind (wpAny_sequenceKey ht.typeIs (by decide) ?_);refine wpAny_bind (wpAny_callSpecial?_slot (name:=Str.ofString "__getitem__") ht.typeIs PyProof.Rows.slot_tuple_getitem
  (wpAny_call_entry PyProof.Rows.slot_tuple_getitem ht.typeIs entry_tuple_getitem ?_ (args_tuple_getitem _ _)))
 show wpAny _ _ (Builtin.Tuple.tupleItemsOf (.ref t) >>= _) _ _ s;refine wpAny_bind (tupleItemsOf_ ht ?_);refine wpAny_bind (wpAny_typeOf hTs ?_);rw [if_pos (by decide)];refine wpAny_bind (qX hs pl pu ?_);have hno:¬((((sIx items.size 0 lo:Nat):Int)==0&&(1:Int)==1&&(sIx items.size items.size hi-sIx items.size 0 lo)==items.size)=true):=by
  intro q;rw [Bool.and_eq_true,Bool.and_eq_true] at q;have q1:((sIx items.size 0 lo:Nat):Int)=0:=eq_of_beq q.1.1;have q2:sIx items.size items.size hi-sIx items.size 0 lo=items.size:=eq_of_beq q.2;exact hw ⟨by lia,by lia⟩
 show wpAny _ _ (if (((sIx items.size 0 lo:Nat):Int)==0&&(1:Int)==1&&(sIx items.size items.size hi-sIx items.size 0 lo)==items.size)=true then _ else _) _ _ s;rw [if_neg hno,WX]
 first
  | exact wpAny_bind (m:=Builtin.Tuple.tupleExact _) (wpAny_newObj_type (wpAny_pure ⟨_,rfl,wpAny_pure h⟩) htake)
  | exact wpAny_bind (m:=Builtin.Tuple.tupleExact _) (wpAny_newObj_type (wpAny_bind (wpAny_pure (wpAny_pure ⟨_,rfl,wpAny_pure h⟩))) htake)
  | exact wpAny_bind (wpAny_bind (m:=Builtin.Tuple.tupleExact _) (wpAny_newObj_type (wpAny_pure (wpAny_pure ⟨_,rfl,wpAny_pure h⟩)) htake))
  | exact wpAny_bind (wpAny_bind (m:=Builtin.Tuple.tupleExact _) (wpAny_newObj_type (wpAny_pure ⟨_,rfl,wpAny_pure h⟩) htake))
end
end HT
namespace L2
open PySem PySem.Spec PyProof.Rows
abbrev TO:=St->Hp->(Option Int->Hp->Prop)->Prop
noncomputable def PO (X:Cx) (e:Option Expr) (t:TO):Prop:=
 ∀(pins:List (Addr×Obj)) (s:Shared) (σ:St) (H:Hp) (Q:Option Int->Hp->Prop),Inv X pins σ H s->t σ H Q->
  wpAny (model X.prog X.w) X.A (evalPart e X.env) (fun u s'=>∃o H',Inv X pins σ H' s'/\IsPart u o/\Q o H') X.xe s
def aBq:TO:=fun _ H Q=>Q none H
def aIt (t:TE):TO:=fun σ H Q=>t σ H fun x H1=>∃i,x=.int i/\Q (some i) H1
section
variable {X:Cx} {e:Expr} {te:TE} {lo hi:Option Expr} {tl th:TO} {pos p2:Pos}
theorem aBr:PO X none aBq:=by
 intro pins s σ H Q I h;rw [evalPart_none];exact wpAny_pure ⟨none,H,I,.none,h⟩
theorem aBs (h:PE X e te):PO X (some e) (aIt te):=by
 intro pins s σ H Q I hw;rw [evalPart_some];refine thn (h pins s σ H _ I hw) fun u s1 ⟨x,H1,I1,r1,q1⟩=>?_
 obtain ⟨i,rfl,q⟩:=q1;obtain ⟨t,rfl⟩:=r1;exact ⟨some i,H1,I1,.int i t,q⟩
noncomputable def SlR (X:Cx) (r:V->Option Int->Option Int->Hp->VK->Prop):Prop:=
 ∀(pins:List (Addr×Obj)) (s:Shared) (σ:St) (H:Hp) (x:V) (v vl vu:Value) (lo hi:Option Int) (sl:Addr) (Q:VK),Inv X pins σ H s->RelV x v->s.heap.IsSliceOf sl vl vu .none->IsPart vl lo->IsPart vu hi->r x lo hi H Q->
  ∃T id,typeLookup (.type T) "__getitem__" = pure (some (.builtin id))/\s.TypeIs v T/\wpAny (model X.prog X.w) X.A (getItem v (.ref sl)) (EP X pins σ Q) X.xe s
noncomputable def tSl (r:V->Option Int->Option Int->Hp->VK->Prop) (te:TE) (tl th:TO):TE:=fun σ H Q=>te σ H fun x H1=>tl σ H1 fun l H2=>th σ H2 fun u H3=>r x l u H3 Q
theorem WY {r:V->Option Int->Option Int->Hp->VK->Prop} (hr:SlR X r) (he:PE X e te) (hl:PO X lo tl) (hu:PO X hi th):PE X (.Subscript e (.Slice lo hi none p2) pos) (tSl r te tl th):=by
 intro pins s σ H Q I h;refine Subscript_ (thn (he pins s σ H _ I h) fun v s1 ⟨x,H1,I1,r1,q1⟩=>?_);refine wpAny_Slice (thn (hl pins s1 σ H1 _ I1 q1) fun vl s2 ⟨l,H2,I2,pl,q2⟩=>thn (hu pins s2 σ H2 _ I2 q2) fun vu s3 ⟨u,H3,I3,pu,q3⟩=>?_);rw [evalPart_none];refine wpAny_pure ?_;have I4:Inv X pins σ H3 {s3 with heap:=s3.heap.push {cls:=.type "slice",data:=.fields #[vl,vu,.none]}}:=I3.kept (t':=s3.toks) fun b ob q=>Heap.get?_push_of_some _ q
 obtain ⟨T,id,hT,ht,hg⟩:=hr pins {s3 with heap:=s3.heap.push {cls:=.type "slice",data:=.fields #[vl,vu,.none]}} σ H3 x v vl vu l u s3.heap.objs.size Q I4 r1 (Heap.IsSliceOf.new ..) pl pu q3;show wpAny (model X.prog X.w) X.A (subscriptTail e (.Slice lo hi none p2) v (.ref s3.heap.objs.size)) (EP X pins σ Q) X.xe {s3 with heap:=s3.heap.push {cls:=.type "slice",data:=.fields #[vl,vu,.none]}};exact tail_any (ops:=[.ref s3.heap.objs.size,v]) ht hT hg (by with_unfolding_all rfl)
noncomputable def PL (xs:List V) (lo hi:Option Int):List V:=(xs.drop (HT.sIx xs.length 0 lo)).take (HT.sIx xs.length xs.length hi-HT.sIx xs.length 0 lo)
theorem rO (xs:List V) (lo hi:Option Int):(PL xs lo hi).length<=xs.length:=by
 unfold PL;rw [List.length_take,List.length_drop];lia
noncomputable def aKx (K:PySem.W.Frag):V->Option Int->Option Int->Hp->VK->Prop:=fun x lo hi H Q=>∃a xs,x=.ref a/\SqT K H a xs/\
 ¬(HT.sIx xs.length 0 lo=0/\HT.sIx xs.length xs.length hi=xs.length)/\∀p,H p=none->Q (.ref p) (upd H p (.tup (PL xs lo hi)))
theorem aF5:SlR X (aKx X.K):=by
 intro pins s σ H x v vl vu lo hi sl Q I rx hs pl pu h;obtain ⟨a,xs,rfl,hx,hw,q⟩:=h;cases rx;obtain ⟨its,r,ht,hz⟩:=I.tuple hx;have hlen:its.toArray.size=xs.length:=by rw [List.size_toArray];exact r.length.symm
 refine ⟨"tuple",_,PyProof.Rows.slot_tuple_getitem.lookup,ht.typeIs,?_⟩;refine HT.pL ht hs pl pu (by rw [hlen];exact hw) ?_ (by rw [hlen];exact hz);rw [hlen];refine ⟨.ref s.heap.objs.size,_,I.laid (t':=s.toks) (o:=.tup (PL xs lo hi)) (fun b ob q=>Heap.get?_push_of_some _ q) (Nat.le_refl _) ?_,rfl,q _ (I.hok.fresh (Nat.le_refl _))⟩;exact ⟨Nat.le_trans (rO xs lo hi) hz,_,(r.drop (HT.sIx xs.length 0 lo)).take (HT.sIx xs.length xs.length hi-HT.sIx xs.length 0 lo),j6.new _ _⟩
noncomputable def aIu (K:PySem.W.Frag):R2:=fun x y H Q=>∃a b xs ys,x=.ref a/\y=.ref b/\SqT K H a xs/\SqT K H b ys/\xs≠[]/\xs.length+ys.length<=sizeLine/\
 (ys=[]->Q (.ref a) H)/\(ys≠[]->∀p,H p=none->Q (.ref p) (upd H p (.tup (xs++ys))))
theorem Vals.rP {xs:List V} {us:List Value} (r:Vals xs us):us=[]↔xs=[]:=by
 cases r with
 | nil=>simp
 | cons _ _=>simp
theorem aBt:OpR X (binaryOp .Add) (aIu X.K):=by
 intro pins s σ H x y v u Q I rx ry h;obtain ⟨a,b,xs,ys,rfl,rfl,ha,hb,hx,hz,q1,q2⟩:=h;cases rx;cases ry;obtain ⟨its,r1,p1,_⟩:=I.tuple ha;obtain ⟨its2,r2,p2,_⟩:=I.tuple hb;refine HT.aBp p1 p2 (fun z=>hx (r1.rP.mp z)) (fun z=>⟨.ref a,H,I,rfl,q1 (r2.rP.mp z)⟩) (fun z=>?_) (by rw [<-r1.length,<-r2.length];exact hz);refine ⟨.ref s.heap.objs.size,_,I.laid (t':=s.toks) (o:=.tup (xs++ys)) (fun b ob q=>Heap.get?_push_of_some _ q) (Nat.le_refl _) ?_,rfl,q2 (fun w=>z (r2.rP.mpr w)) _ (I.hok.fresh (Nat.le_refl _))⟩;exact ⟨by rw [List.length_append];exact hz,_,r1.append r2,j6.new _ _⟩
end
end L2
namespace L2
open PySem PySem.Spec PyProof.Rows
noncomputable def ixN (n:Nat) (i:Int):Option Nat:=if 0<=i then (if i<n then some i.toNat else none) else if -(n:Int)<=i then some (i+n).toNat else none
noncomputable def atI {α:Type} (xs:List α) (i:Int):Option α:=(ixN xs.length i).bind fun j=>xs[j]?
theorem PN {n:Nat} {i:Int} {j:Nat} (h:ixN n i=some j):seqIndex? i n=some j/\j<n/\-(n:Int)<=i/\i<n:=by
 unfold ixN at h;by_cases h0:0<=i
 ·rw [if_pos h0] at h;by_cases h1:i<n
  ·rw [if_pos h1] at h;have e:i.toNat=j:=Option.some.inj h;exact ⟨by rw [seqIndex_of h0 h1,e],by lia,by lia,h1⟩
  ·rw [if_neg h1] at h;cases h
 ·rw [if_neg h0] at h;by_cases h1:-(n:Int)<=i
  ·rw [if_pos h1] at h;have e:(i+n).toNat=j:=Option.some.inj h;exact ⟨by rw [seqIndex_neg (by lia) h1,e],by lia,h1,by lia⟩
  ·rw [if_neg h1] at h;cases h
theorem BL {α:Type} {xs:List α} {i:Int} {v:α} (h:atI xs i=some v):∃j,seqIndex? i xs.length=some j/\xs[j]?=some v/\j<xs.length/\-(xs.length:Int)<=i/\i<xs.length:=by
 unfold atI at h;cases e:ixN xs.length i with
 | none=>rw [e] at h;cases h
 | some j=>
  rw [e] at h;obtain ⟨h1,h2,h3,h4⟩:=PN e;exact ⟨j,h1,h,h2,h3,h4⟩
noncomputable def rQ (b:Expr):Prop:=∀o i,subscripted b false o i=operate [o,i] (getItem o i)
noncomputable def IxR (X:Cx) (r:R2):Prop:=
 ∀(value slice:Expr) (pins:List (Addr×Obj)) (s:Shared) (σ:St) (H:Hp) (x y:V) (v u:Value) (Q:VK),Inv X pins σ H s->RelV x v->RelV y u->r x y H Q->
  subscripted slice false v u=operate [v,u] (getItem v u)->wpAny (model X.prog X.w) X.A (subscriptTail value slice v u) (EP X pins σ Q) X.xe s
noncomputable def MtR (X:Cx) (id:String) (r:V->List V->Hp->VK->Prop):Prop:=
 ∀(pins:List (Addr×Obj)) (s:Shared) (σ:St) (H:Hp) (x:V) (xs:List V) (v:Value) (us:List Value) (Q:VK),Inv X pins σ H s->RelV x v->Vals xs us->r x xs H Q->
  wpAny (model X.prog X.w) X.A (call (.builtin id) (v::us)) (EP X pins σ Q) X.xe s
section
variable {X:Cx} {a b:Expr} {ta tb:TE} {pos:Pos}
theorem aBu {r:R2} (hr:IxR X r) (ha:PE X a ta) (hb:PE X b tb) (hs:rQ b):PE X (.Subscript a b pos) (tOp r ta tb):=by
 intro pins s σ H Q I h;exact Subscript_ (aIn ha hb I h fun v u s2 x y H2 I2 rx ry q=>hr a b pins s2 σ H2 x y v u Q I2 rx ry q (hs _ _))
noncomputable def aKy (K:PySem.W.Frag):R2:=fun x y H Q=>∃p xs i v,x=.ref p/\y=.int i/\SqL K H p xs/\atI xs i=some v/\Q v H
noncomputable def aKz (K:PySem.W.Frag):R2:=fun x y H Q=>∃p xs i v,x=.ref p/\y=.int i/\SqT K H p xs/\atI xs i=some v/\Q v H
noncomputable def aL0:R2:=fun x y H Q=>∃z i c,x=.str z/\y=.int i/\z.length<=sizeLine/\atI z.cps.toList i=some c/\Q (.str ⟨#[c]⟩) H
theorem BP:IxR X (aKy X.K):=by
 intro value slice pins s σ H x y v u Q I rx ry h hs;obtain ⟨p,xs,i,z,rfl,rfl,hq,he,q⟩:=h;cases rx;obtain ⟨t,rfl⟩:=ry;obtain ⟨its,r,pl,hz⟩:=I.list hq;obtain ⟨j,h1,h2,h3,h4,h5⟩:=BL he;obtain ⟨w,ew,rw'⟩:=r.get h2;have hl:=r.length;have hn:=rN;have fin:EP X pins σ Q w s:=⟨z,H,I,rw',q⟩
 by_cases h0:0<=i
 ·have hj:i.toNat=j:=by
   rw [seqIndex_of h0 h5] at h1;exact Option.some.inj h1
  exact item_listR pl.isList h0 (by lia) (by rw [hj];simpa using ew) fin hs
 ·have hj:(i+(its.toArray.size:Int)).toNat=j:=by
   rw [seqIndex_neg (by lia) h4] at h1;rw [List.size_toArray,<-hl];exact Option.some.inj h1
  exact subscriptTail_builtinR (x:=w) pl.isList.typeIs slot_list_getitem.lookup
   (wpAny_getItem_list_neg (Q:=fun r s'=>r=w/\EP X pins σ Q r s') pl.isList (by lia) (by rw [List.size_toArray] <;> lia) (by lia) (by rw [hj];simpa using ew) ⟨rfl,fin⟩) hs
theorem aF6:IxR X (aKz X.K):=by
 intro value slice pins s σ H x y v u Q I rx ry h hs;obtain ⟨p,xs,i,z,rfl,rfl,hq,he,q⟩:=h;cases rx;obtain ⟨t,rfl⟩:=ry;obtain ⟨its,r,pl,hz⟩:=I.tuple hq;obtain ⟨j,h1,h2,h3,h4,h5⟩:=BL he;obtain ⟨w,ew,rw'⟩:=r.get h2;have hl:=r.length;have hn:=rN;have fin:EP X pins σ Q w s:=⟨z,H,I,rw',q⟩
 exact subscriptTail_builtinR (x:=w) pl.typeIs slot_tuple_getitem.lookup
  (getItem_tuple (j:=j) (Q:=fun r s'=>r=w/\EP X pins σ Q r s') pl (by lia) (by lia) (by rw [List.size_toArray,<-hl];exact h1) (by simpa using ew) ⟨rfl,fin⟩) hs
theorem aF7:IxR X aL0:=by
 intro value slice pins s σ H x y v u Q I rx ry h hs;obtain ⟨z,i,c,rfl,rfl,hz,he,q⟩:=h;obtain ⟨t,rfl⟩:=rx;obtain ⟨t',rfl⟩:=ry;obtain ⟨j,h1,h2,h3,h4,h5⟩:=BL he;have hl:z.cps.toList.length=z.length:=by simp [Str.length]
 rw [hl] at h1 h4 h5;have hn:=rN;exact tail_any (typeIs_str s z t) slot_str_getitem.lookup (getItem_str (c:=c) (by
  have e1:decide (i < -(2 ^ 63:Int))=false:=decide_eq_false (by lia);have e2:decide (i >= 2 ^ 63)=false:=decide_eq_false (by lia);rw [e1,e2,Bool.or_false]) (by rw [h1];simpa using h2) ⟨.str ⟨#[c]⟩,H,I.tok _,⟨_,rfl⟩,q⟩) hs
theorem K9 (its:List Value) (n j:Nat) (u:Value):Obj.mapSeq (·.setIfInBounds j u) {cls:=.type "list",data:=.seq its.toArray n}={cls:=.type "list",data:=.seq (its.set j u).toArray n}:=by
 simp [Obj.mapSeq]
theorem Inv.lst {pins:List (Addr×Obj)} {σ:St} {H:Hp} {s:Shared} {p:Addr} {xs:List V} (I:Inv X pins σ H s) (h:H p=some (.lst xs)) :
  ∃(its:List Value) (n:Nat),Vals xs its/\s.heap.get? p=some {cls:=.type "list",data:=.seq its.toArray n}/\xs.length<=sizeLine:=by
 obtain ⟨z,its,n,r,e⟩:=I.hok p _ h;exact ⟨its,n,r,e,z⟩
theorem Inv.aF8 {pins:List (Addr×Obj)} {σ:St} {H:Hp} {s:Shared} {p:Addr} {xs ys:List V} {its its':List Value} {n n':Nat} {f:Obj->Obj} (I:Inv X pins σ H s) (h:H p=some (.lst xs))
  (ho:s.heap.get? p=some {cls:=.type "list",data:=.seq its.toArray n}) (hf:f {cls:=.type "list",data:=.seq its.toArray n}={cls:=.type "list",data:=.seq its'.toArray n'}) (r:Vals ys its') (hz:ys.length<=sizeLine) (t:Nat) :
  Inv X pins σ (upd H p (.lst ys)) {s with heap:=s.heap.update p f,toks:=t}:=by
 have e:(s.heap.update p f).get? p=some {cls:=.type "list",data:=.seq its'.toArray n'}:=by
  rw [Heap.get?_update_self f ho (by rw [hf] <;> rfl),hf]
 refine I.write (x:=p) (e:=p) (by rw [h];trivial) (.inl rfl) (fun b u hb q=>(Heap.get?_update_other _ _ (Ne.symm hb)).trans q) ⟨_,e⟩ ?_;exact ⟨hz,its',n',r,e⟩
noncomputable def aIv:V->V->V->Hp->(Hp->Prop)->Prop:=fun o i v H Q=>∃p xs k j,o=.ref p/\i=.int k/\H p=some (.lst xs)/\ixN xs.length k=some j/\Q (upd H p (.lst (xs.set j v)))
theorem set_list:aKr X aIv:=by
 intro pins s σ H o i v ov iv u Q I ro ri rv h;obtain ⟨p,xs,k,j,rfl,rfl,hp,hj,q⟩:=h;cases ro;obtain ⟨t,rfl⟩:=ri;obtain ⟨its,n,r,ho,hz⟩:=I.lst hp;obtain ⟨h1,h2,h3,h4⟩:=PN hj;have hl:=r.length;have hn:=rN;have I':Inv X pins σ (upd H p (.lst (xs.set j v))) {s with heap:=s.heap.update p (Obj.mapSeq (·.setIfInBounds j u))}:=
  I.aF8 hp ho (K9 its n j u) (r.set rv j) (by rw [List.length_set];exact hz) s.toks
 by_cases h0:0<=k
 ·have hk:k.toNat=j:=by
   rw [seqIndex_of h0 h4] at h1;exact Option.some.inj h1
  exact PySem.W.ki_setAt ho h0 (by lia) (by rw [List.size_toArray,<-hl];exact h4) (by rw [hk];exact ⟨_,I',q⟩)
 ·have hk:(k+(its.toArray.size:Int)).toNat=j:=by
   rw [seqIndex_neg (by lia) h3] at h1;rw [List.size_toArray,<-hl];exact Option.some.inj h1
  exact PySem.W.ki_setBack ho (by lia) (by rw [List.size_toArray,<-hl];exact h3) (by lia) (by rw [hk];exact ⟨_,I',q⟩)
theorem xR (lo hi:Option Int) (n:Nat):(sliceBounds lo hi none n).1=((HT.sIx n 0 lo:Nat):Int)/\(sliceBounds lo hi none n).2.1=((HT.sIx n n hi:Nat):Int)/\(sliceBounds lo hi none n).2.2=1:=by
 refine ⟨?_,?_,rfl⟩
 ·cases lo with
  | none=>simp [sliceBounds,HT.sIx]
  | some i=>
   simp only [sliceBounds,HT.sIx,Option.getD_none,show (1:Int) > 0 by decide,if_true];by_cases h:i<0
   ·simp only [h,if_true] <;> lia
   ·simp only [h,if_false] <;> lia
 ·cases hi with
  | none=>simp [sliceBounds,HT.sIx]
  | some i=>
   simp only [sliceBounds,HT.sIx,Option.getD_none,show (1:Int) > 0 by decide,if_true];by_cases h:i<0
   ·simp only [h,if_true] <;> lia
   ·simp only [h,if_false] <;> lia
theorem vK (its:List Value) (lo hi:Option Int):slicePick its.toArray lo hi none=((its.drop (HT.sIx its.length 0 lo)).take (HT.sIx its.length its.length hi-HT.sIx its.length 0 lo)).toArray:=by
 obtain ⟨h1,h2,h3⟩:=xR lo hi its.toArray.size;unfold slicePick;rw [h1,h2,h3];simp only [sliceRange_one,pick_run,List.size_toArray] <;> rfl
noncomputable def aL1 (K:PySem.W.Frag):V->Option Int->Option Int->Hp->VK->Prop:=fun x lo hi H Q=>∃a xs,x=.ref a/\SqL K H a xs/\∀p,H p=none->Q (.ref p) (upd H p (.lst (PL xs lo hi)))
theorem PP:SlR X (aL1 X.K):=by
 intro pins s σ H x v vl vu lo hi sl Q I rx hs pl pu h;obtain ⟨a,xs,rfl,hx,q⟩:=h;cases rx;obtain ⟨its,r,ht,hz⟩:=I.list hx;have hlen:=r.length;refine ⟨"list",_,slot_list_getitem.lookup,ht.isList.typeIs,?_⟩;refine wpAny_getItem_list_slice ht.isList hs pl pu .none (by simp) ?_ (by rw [List.size_toArray] <;> lia);rw [vK,<-hlen];refine ⟨.ref s.heap.objs.size,_,I.laid (t':=s.toks) (o:=.lst (PL xs lo hi)) (fun b ob q=>Heap.get?_push_of_some _ q) (Nat.le_refl _) ?_,rfl,q _ (I.hok.fresh (Nat.le_refl _))⟩;exact ⟨Nat.le_trans (rO xs lo hi) hz,_,0,(r.drop (HT.sIx xs.length 0 lo)).take (HT.sIx xs.length xs.length hi-HT.sIx xs.length 0 lo),Heap.get?_push_size _ rfl⟩
theorem jM:nT X (.builtin "len") (fun xs H Q=>∃p ys,xs=[.ref p]/\(SqL X.K H p ys\/SqT X.K H p ys)/\Q (.int ys.length) H):=by
 intro pins s σ H xs us Q I r h;obtain ⟨p,ys,rfl,hq,q⟩:=h;obtain ⟨u,rfl,rx⟩:=vals1 r;cases rx;have hn:=rN;rcases hq with hq|hq
 ·obtain ⟨its,r',pl,hz⟩:=I.list hq;have hlen:=r'.length;exact Calls.call_len_list pl.isList (by simp only [List.size_toArray] <;> lia) ⟨.int ys.length,H,I.tok _,⟨s.toks+1,by rw [List.size_toArray,hlen]⟩,q⟩
 ·obtain ⟨its,r',pl,hz⟩:=I.tuple hq;have hlen:=r'.length;exact len_tuple pl (by simp only [List.size_toArray] <;> lia) ⟨.int ys.length,H,I.tok _,⟨s.toks+1,by rw [List.size_toArray,hlen]⟩,q⟩
theorem xT:nT X (.builtin "len") (fun xs H Q=>∃z,xs=[.str z]/\z.length<=sizeLine/\Q (.int z.length) H):=by
 intro pins s σ H xs us Q I r h;obtain ⟨z,rfl,hz,q⟩:=h;obtain ⟨u,rfl,t,rfl⟩:=vals1 r;have hn:=rN;exact len_str (by lia) ⟨.int z.length,H,I.tok _,⟨_,rfl⟩,q⟩
theorem qI:nT X (.type "list") (fun xs H Q=>∃p ys,xs=[.ref p]/\(SqL X.K H p ys\/SqT X.K H p ys)/\∀l,H l=none->Q (.ref l) (upd H l (.lst ys))):=by
 intro pins s σ H xs us Q I r h;obtain ⟨p,ys,rfl,hq,q⟩:=h;obtain ⟨u,rfl,rx⟩:=vals1 r;cases rx;have fin:∀(its:List Value),Vals ys its->ys.length<=sizeLine->∀(h':Heap) (c':Nat),(∀b o',s.heap.get? b=some o'->h'.get? b=some o')->
   h'.get? s.heap.objs.size=some {cls:=.type "list",dict:=none,data:=.seq its.toArray c',slots:=#[]}->EP X pins σ Q (.ref s.heap.objs.size) {s with heap:=h'}:=fun its r' hz h' c' kp e=>
  ⟨.ref s.heap.objs.size,_,I.laid (t':=s.toks) kp (Nat.le_refl _) (show gJ X.prog X.w _ h' _ (.lst ys) from ⟨hz,its,c',r',e⟩),rfl,q _ (I.hok.fresh (Nat.le_refl _))⟩
 rcases hq with hq|hq
 ·obtain ⟨its,r',pl,hz⟩:=I.list hq;have hlen:=r'.length;obtain ⟨o,ho,hc,n,hd⟩:=pl.isList;exact call_list_seq p (.inl rfl) ho hc hd (fun h' c' kp e=>fin its r' hz h' c' kp e) (by simp only [List.size_toArray] <;> lia)
 ·obtain ⟨its,r',pl,hz⟩:=I.tuple hq;have hlen:=r'.length;obtain ⟨o,ho,hc,n,hd⟩:=pl;exact call_list_seq p (.inr rfl) ho hc hd (fun h' c' kp e=>fin its r' hz h' c' kp e) (by simp only [List.size_toArray] <;> lia)
theorem oR:nT X (.type "tuple") (fun xs H Q=>∃p ys,xs=[.ref p]/\((SqL X.K H p ys/\∀l,H l=none->Q (.ref l) (upd H l (.tup ys)))\/(SqT X.K H p ys/\Q (.ref p) H))):=by
 intro pins s σ H xs us Q I r h;obtain ⟨p,ys,rfl,h⟩:=h;obtain ⟨u,rfl,rx⟩:=vals1 r;cases rx;rcases h with ⟨hq,q⟩|⟨hq,q⟩
 ·obtain ⟨its,r',pl,hz⟩:=I.list hq;have hlen:=r'.length;refine call_tuple_list pl.isList (fun h' kp=>?_) (by simp only [List.size_toArray] <;> lia);have I1:Inv X pins σ H {s with heap:=h'}:=I.kept (t':=s.toks) kp;have I2:Inv X pins σ (upd H h'.objs.size (.tup ys)) {s with heap:=h'.push {cls:=.type "tuple",data:=.seq its.toArray}}:=
   I1.laid (t':=s.toks) (fun b o e=>Heap.get?_push_of_some _ e) (Nat.le_refl _) (show gJ X.prog X.w _ _ _ (.tup ys) from ⟨hz,its,r',j6.new _ _⟩)
  exact ⟨.ref h'.objs.size,_,I2,rfl,q _ (I1.hok.fresh (Nat.le_refl _))⟩
 ·obtain ⟨its,r',pl,hz⟩:=I.tuple hq;exact call_tuple_same pl ⟨.ref p,H,I,rfl,q⟩
noncomputable def tyV (K:PySem.W.Frag) (T:String) (x:V) (H:Hp):Prop:=match x with
 | .str _=>T = "str"
 | .int _=>T = "int"
 | .ref p=>(T = "list"/\∃xs,SqL K H p xs)\/(T = "tuple"/\((∃o,K.lookup p=some o/\o.cls=.type "tuple"/\o.dict=none)\/∃xs,H p=some (.tup xs)))\/
   (T = "dict"/\((∃kvs,H p=some (.dK kvs))\/∃kvs,H p=some (.dT kvs)))\/(T = "set"/\∃S n,H p=some (.set S n))
 | _=>False
theorem aA4 {pins:List (Addr×Obj)} {σ:St} {H:Hp} {s:Shared} {T:String} {x:V} {v:Value} (I:Inv X pins σ H s) (r:RelV x v) (ty:tyV X.K T x H) :
  s.TypeIs v T/\∀a,v=.ref a->∃ob,s.heap.get? a=some ob/\ob.dict=none:=by
 cases x with
 | str z=>
  obtain ⟨t,rfl⟩:=r;cases (show T = "str" from ty);exact ⟨typeIs_str s z t,fun _ e=>nomatch e⟩
 | int i=>
  obtain ⟨t,rfl⟩:=r;cases (show T = "int" from ty);exact ⟨typeIs_int s i t,fun _ e=>nomatch e⟩
 | ref p=>
  cases r;rcases ty with ⟨rfl,xs,hq⟩|⟨rfl,⟨o,hk,hc,hd⟩|⟨xs,hk⟩⟩|⟨rfl,hk⟩|⟨rfl,S,n,hk⟩
  ·obtain ⟨its,_,pl,_⟩:=I.list hq;refine ⟨pl.isList.typeIs,fun a e=>?_⟩;cases e;obtain ⟨o,n,e,c,hd,_⟩:=pl;exact ⟨o,e,hd⟩
  ·refine ⟨⟨o,I.kIn p o hk,hc⟩,fun a e=>?_⟩;cases e;exact ⟨o,I.kIn _ o hk,hd⟩
  ·obtain ⟨_,its,_,pl⟩:=I.hok p _ hk;refine ⟨(j6.tup pl).typeIs,fun a e=>?_⟩;cases e;exact j6.bare pl
  ·have z:∃o,s.heap.get? p=some o/\o.ExactDict:=by
    rcases hk with ⟨kvs,hk⟩|⟨kvs,hk⟩
    ·obtain ⟨_,_,_,_,o,_,_,e,ex,_⟩:=I.hok p _ hk;exact ⟨o,e,ex⟩
    ·obtain ⟨_,_,_,_,o,_,_,e,ex,_⟩:=I.hok p _ hk;exact ⟨o,e,ex⟩
   obtain ⟨o,e,ex⟩:=z;refine ⟨⟨o,e,ex.1⟩,fun a e2=>?_⟩;cases e2;exact ⟨o,e,ex.2.1⟩
  ·obtain ⟨o,_,_,_,e,ex,_⟩:=I.hok p _ hk;refine ⟨⟨o,e,ex.1⟩,fun a e2=>?_⟩;cases e2;exact ⟨o,e,ex.2.1⟩
 | _=>exact False.elim ty
noncomputable def aL2 (K:PySem.W.Frag) (T:String) (r:V->List V->Hp->VK->Prop) (to:TE):TE:=fun σ H Q=>to σ H fun x H1=>tyV K T x H1/\r x [] H1 Q
noncomputable def tBM (K:PySem.W.Frag) (T:String) (r:V->List V->Hp->VK->Prop) (to:TE) (t:TA):TE:=fun σ H Q=>to σ H fun x H1=>tyV K T x H1/\t σ H1 fun xs H2=>r x xs H2 Q
variable {o e:Expr} {es:List Expr} {to:TE} {t:TA} {name:Str} {apos cpos:Pos} {T id:String} {r:V->List V->Hp->VK->Prop}
theorem aA5 (pa:PlainAttrs T) (slot:Slot T name id) (hty:typeOf (.builtin id)=pure (.type "method_descriptor")) (hm:MtR X id r) (ho:PE X o to)
  (hbase:attributeBase o name X.env (eval o X.env)=eval o X.env:=by rfl) (hline:(apos.endLine==cpos.line)=true:=by rfl):PE X (.Call (.Attribute o name apos) [] [] cpos) (aL2 X.K T r to):=by
 intro pins s σ H Q I h;refine wpAny_Call_method0_late hbase hline (thn (ho pins s σ H _ I h) fun v s1 ⟨x,H1,I1,r1,ty,q1⟩=>?_);obtain ⟨h1,h2⟩:=aA4 I1 r1 ty;exact ⟨T,id,pa,slot,hty,h1,h2,Calls.callWith_builtin rfl (PySem.evalArgs_none (hm pins s1 σ H1 x [] v [] Q I1 r1 .nil q1))⟩
theorem W0 (pa:PlainAttrs T) (slot:Slot T name id) (hty:typeOf (.builtin id)=pure (.type "method_descriptor")) (hm:MtR X id r) (ho:PE X o to) (ha:PA X (e::es) t)
  (hbase:attributeBase o name X.env (eval o X.env)=eval o X.env:=by rfl)
  (hfew:((backTo cpos (starEach (e::es) X.env)).all (fun x=>!x.1)&&(backToKw cpos (keywordEach [] X.env)).all (fun x=>x.1.isSome)
   && decide ((e::es).length+([]:List Keyword).length+(if ([]:List Keyword).isEmpty then 0 else 1)<30))=true:=by rfl)
  (hline:(apos.endLine==cpos.line)=true:=by rfl) (hs:starEach (e::es) X.env=(false,eval e X.env)::starEach es X.env:=by rfl) (hplain:(backTo cpos (starEach es X.env)).any (·.1)=false:=by rfl) :
  PE X (.Call (.Attribute o name apos) (e::es) [] cpos) (tBM X.K T r to t):=by
 intro pins s σ H Q I h;refine wpAny_Call_method_late hbase hfew hline rfl (thn (ho pins s σ H _ I h) fun v s1 ⟨x,H1,I1,r1,ty,q1⟩=>?_);obtain ⟨h1,h2⟩:=aA4 I1 r1 ty;refine ⟨T,id,pa,slot,hty,h1,h2,?_⟩;have hA:=ha cpos pins s1 σ H1 _ I1 q1;rw [hs] at hA ⊢;refine Calls.callWith_builtin (by show (false||(backTo cpos (starEach es X.env)).any (·.1))=false;rw [hplain] <;> rfl) (Calls.evalArgs_plain ?_);exact thn hA fun us s2 ⟨vs,H2,I2,r2,q2⟩=>hm pins s2 σ H2 x vs v us Q I2 r1 r2 q2
end
end L2
namespace L2
open PySem PySem.Spec PyProof.Rows
noncomputable def MtM (X:Cx) (id:String) (r:V->List V->Hp->VK->Prop):Prop:=
 ∀(pins:List (Addr×Obj)) (s:Shared) (σ:St) (H:Hp) (x:V) (xs:List V) (v:Value) (us:List Value) (Q:VK),Inv X pins σ H s->RelV x v->Vals xs us->r x xs H Q->
  wpAny (model X.prog X.w) X.A (call (.builtin id) (v::us)) (EP X pins σ Q) X.xe s
theorem Vals.one:∀{x:V} {us:List Value},Vals [x] us->∃u,us=[u]/\RelV x u
 | _,_,.cons r .nil=>⟨_,rfl,r⟩
theorem Vals.zero:∀{us:List Value},Vals [] us->us=[]
 | _,.nil=>rfl
theorem Vals.dropLast {xs:List V} {us:List Value} (h:Vals xs us):Vals xs.dropLast us.dropLast:=by
 induction h with
 | nil=>exact .nil
 | cons r t ih=>
  cases t with
  | nil=>exact .nil
  | cons q t'=>exact .cons r ih
theorem K_ {α:Type} (l:List α):l.eraseIdx (l.length-1)=l.dropLast:=by
 induction l with
 | nil=>rfl
 | cons a r ih=>
  cases r with
  | nil=>rfl
  | cons b r=>
   have e:(a::b::r).length-1=((b::r).length-1)+1:=by
    have h1:(a::b::r).length=r.length+2:=rfl;have h2:(b::r).length=r.length+1:=rfl;lia
   rw [e,List.eraseIdx_cons_succ,ih]
   all_goals rfl
section
variable {X:Cx} {pins:List (Addr×Obj)} {σ:St} {H:Hp} {s:Shared} {l b:Addr} {xs ys zs:List V}
theorem Inv.aHy {its its':List Value} {n:Nat} {f:Array Value->Array Value} {t':Nat} (I:Inv X pins σ H s) (hH:H l=some (.lst xs))
  (e:s.heap.get? l=some {cls:=.type "list",data:=.seq its.toArray n}) (hf:f its.toArray=its'.toArray) (hv:Vals ys its') (hz:ys.length<=sizeLine) :
  Inv X pins σ (upd H l (.lst ys)) {s with heap:=s.heap.update l (Obj.mapSeq f),toks:=t'}:=by
 have q:=PySem.IsL.update e f;rw [hf] at q;refine I.write (x:=l) (e:=l) (by rw [hH];exact trivial) (.inl rfl) (fun b' u hb hu=>(Heap.get?_update_other s.heap (Obj.mapSeq f) (Ne.symm hb)).trans hu) ⟨_,q⟩ ?_;exact ⟨hz,its',_,hv,q⟩
theorem Inv.aK3 {its:List Value} {t':Nat} (I:Inv X pins σ H s) (hv:Vals ys its) (hz:ys.length<=sizeLine) :
  Inv X pins σ (upd H s.heap.objs.size (.lst ys)) {s with heap:=s.heap.push {cls:=.type "list",data:=.seq its.toArray},toks:=t'}:=
 I.laid (fun _ _ q=>Heap.get?_push_of_some _ q) (Nat.le_refl _) ⟨hz,its,0,hv,Heap.get?_push_size _ rfl⟩
theorem Inv.fresh (I:Inv X pins σ H s):H s.heap.objs.size=none:=I.hok.fresh (Nat.le_refl _)
theorem Inv.aF9 (I:Inv X pins σ H s) (hH:H l=some (.lst xs)):xs.length<=sizeLine/\∃(its:List Value) (n:Nat),Vals xs its/\xs.length=its.length/\s.heap.get? l=some {cls:=.type "list",data:=.seq its.toArray n}:=by
 obtain ⟨z,its,n,r,e⟩:=I.hok l _ hH;exact ⟨z,its,n,r,r.length,e⟩
theorem W2 {n:Nat} (h:n<=sizeLine):Builtin.List.listTooLong n=false:=by
 unfold Builtin.List.listTooLong;exact decide_eq_false (by lia)
end
section
variable {X:Cx}
noncomputable def aBv:V->List V->Hp->VK->Prop:=fun x vs H Q=>∃l xs y,x=.ref l/\vs=[y]/\H l=some (.lst xs)/\xs.length<sizeLine/\Q .non (upd H l (.lst (xs++[y])))
theorem xU:MtM X "list.append" aBv:=by
 intro pins s σ H x vs v us Q I rx rv h;obtain ⟨l,xs,y,rfl,rfl,hH,hz,q⟩:=h;cases rx;obtain ⟨u,rfl,ru⟩:=rv.one;obtain ⟨z,its,n,r,hl,e⟩:=I.aF9 hH;refine call_meets F.slot_list_append ⟨_,e,rfl⟩ F.entry_list_append (F.args_list_append_2 _ _) (PySem.list_append l its.toArray n u (by rw [List.size_toArray];lia)) ⟨e,?_⟩;refine ⟨.non,_,I.aHy (its':=its++[u]) hH e (by simp) (r.append (.cons ru .nil)) ?_,rfl,q⟩;rw [List.length_append,List.length_singleton];lia
noncomputable def aBw:V->List V->Hp->VK->Prop:=fun x vs H Q=>∃l b xs zs,x=.ref l/\vs=[.ref b]/\H l=some (.lst xs)/\H b=some (.lst zs)/\xs.length+zs.length<=sizeLine/\Q .non (upd H l (.lst (xs++zs)))
theorem PQ:MtM X "list.extend" aBw:=by
 intro pins s σ H x vs v us Q I rx rv h;obtain ⟨l,b,xs,zs,rfl,rfl,hH,hB,hz,q⟩:=h;cases rx;obtain ⟨u,rfl,ru⟩:=rv.one;cases ru;obtain ⟨z,its,n,r,hl,e⟩:=I.aF9 hH;obtain ⟨z2,its2,n2,r2,hl2,e2⟩:=I.aF9 hB;have hsz:its.toArray.size+its2.toArray.size<=sizeLine:=by rw [List.size_toArray,List.size_toArray];lia
 have hlong:¬(!its.toArray.isEmpty&&Builtin.List.listTooLong (its.toArray.size+its2.toArray.size))=true:=by
  rw [W2 hsz,Bool.and_false];exact Bool.false_ne_true
 refine call_meets F.slot_list_extend ⟨_,e,rfl⟩ F.entry_list_extend (F.args_list_extend_2 _ _)
  (AutoSeq1.list_extend_list_list_0 l its.toArray n b its2.toArray n2 hlong (by rw [List.size_toArray];lia) (by lia)) ⟨e,e2,?_⟩
 refine ⟨.non,_,I.aHy (its':=its++its2) hH e (by simp) (r.append r2) ?_,rfl,q⟩;rw [List.length_append];lia
noncomputable def aL3:V->List V->Hp->VK->Prop:=fun x vs H Q=>∃l xs y,x=.ref l/\vs=[]/\H l=some (.lst xs)/\xs[xs.length-1]?=some y/\Q y (upd H l (.lst xs.dropLast))
theorem aA6:MtM X "list.pop" aL3:=by
 intro pins s σ H x vs v us Q I rx rv h;obtain ⟨l,xs,y,rfl,rfl,hH,hy,q⟩:=h;cases rx;have hus:=rv.zero;subst hus;obtain ⟨z,its,n,r,hl,e⟩:=I.aF9 hH;obtain ⟨u,hu,ru⟩:=r.get hy;have hy':its.toArray[its.toArray.size-1]?=some u:=by
  show its.toArray[its.length-1]?=some u;rw [<-Array.getElem?_toList,<-hl];exact hu
 refine call_meets F.slot_list_pop ⟨_,e,rfl⟩ F.entry_list_pop (F.args_list_pop_1 _) (MeetsSeq.list_pop_last l its.toArray n u hy' (by rw [List.size_toArray];lia)) ⟨e,?_⟩;refine ⟨y,_,I.aHy (its':=its.dropLast) hH e ?_ r.dropLast ?_,ru,q⟩
 ·show its.toArray.eraseIdxIfInBounds (its.toArray.size-1)=its.dropLast.toArray;rw [List.size_toArray,List.eraseIdxIfInBounds_toArray,K_]
 ·rw [List.length_dropLast];lia
end
section
variable {prog:Program} {w:World} {A:Around} {E:Value->Shared->Prop} {s:Shared}
end
section
variable {X:Cx}
end
end L2
namespace L2
open PySem PySem.Spec PyProof.Rows
section
variable {κ:Type} [DecidableEq κ]
noncomputable def uV (kvs:List (κ×V)) (k:κ):Option V:=(kvs.find? fun kv=>decide (kv.1=k)).map (·.2)
noncomputable def putK (kvs:List (κ×V)) (k:κ) (v:V):List (κ×V):=
 if (kvs.any fun kv=>decide (kv.1=k))=true then kvs.map (fun kv=>if kv.1=k then (kv.1,v) else kv) else kvs++[(k,v)]
theorem oU {p:κ×V} {r:List (κ×V)} {k:κ} (e:p.1=k):uV (p::r) k=some p.2:=by simp [uV,List.find?_cons,e]
theorem oV {p:κ×V} {r:List (κ×V)} {k:κ} (e:¬p.1=k):uV (p::r) k=uV r k:=by simp [uV,List.find?_cons,e]
theorem oW (k:κ):∀kvs:List (κ×V),(kvs.any fun kv=>decide (kv.1=k))=(uV kvs k).isSome
 | []=>rfl
 | p::r=>by
  rw [List.any_cons];by_cases e:p.1=k
  ·simp only [oU e,decide_eq_true e,Bool.true_or,Option.isSome_some]
  ·rw [oV e,decide_eq_false e,Bool.false_or];exact oW k r
theorem rR (kvs:List (κ×V)) (k:κ) (v:V):(putK kvs k v).length<=kvs.length+1:=by
 unfold putK;split
 ·rw [List.length_map];lia
 ·rw [List.length_append,List.length_cons,List.length_nil];lia
theorem W3 {kvs:List (κ×V)} {k:κ} (v:V) (h:uV kvs k=none):putK kvs k v=kvs++[(k,v)]:=by
 unfold putK;rw [oW,h];exact if_neg (by decide)
theorem WF.lZ {o:Option V} {u:Option Value} (r:WF o u):o.isSome=u.isSome:=by
 cases o with
 | none=>cases u with
  | none=>rfl
  | some _=>exact (show False from r).elim
 | some _=>cases u with
  | none=>exact (show False from r).elim
  | some _=>rfl
theorem KV.val {kvs:List (κ×V)} {vs:List (κ×Value)} (r:KV kvs vs) (k:κ):WF (uV kvs k) (valueAt vs k):=by
 unfold KV at r;induction r with
 | nil=>exact True.intro
 | @cons p q ps qs h t ih=>
  obtain ⟨h1,h2⟩:=h;by_cases e:p.1=k
  ·have e':q.1=k:=h1.symm.trans e;have b:valueAt (q::qs) k=some q.2:=by simp [valueAt,List.find?_cons,e']
   rw [oU e,b];exact h2
  ·have e':¬q.1=k:=fun z=>e (h1.trans z)
   have b:valueAt (q::qs) k=valueAt qs k:=by simp [valueAt,List.find?_cons,e']
   rw [oV e,b];exact ih
theorem KV.any {kvs:List (κ×V)} {vs:List (κ×Value)} (r:KV kvs vs) (k:κ):(kvs.any fun kv=>decide (kv.1=k))=vs.any fun kv=>decide (kv.1=k):=by
 unfold KV at r;induction r with
 | nil=>rfl
 | cons h t ih=>rw [List.any_cons,List.any_cons,ih,h.1]
theorem KV.repl {kvs:List (κ×V)} {vs:List (κ×Value)} (r:KV kvs vs) (k:κ) {y:V} {u:Value} (ry:RelV y u) :
  KV (kvs.map fun kv=>if kv.1=k then (kv.1,y) else kv) (vs.map fun kv=>if kv.1=k then (kv.1,u) else kv):=by
 unfold KV at r ⊢;induction r with
 | nil=>exact .nil
 | @cons p q ps qs h t ih=>
  rw [List.map_cons,List.map_cons];refine .cons ?_ ih;obtain ⟨h1,h2⟩:=h;by_cases e:p.1=k
  ·rw [if_pos e,if_pos (h1.symm.trans e)];exact ⟨h1,ry⟩
  ·rw [if_neg e,if_neg (fun z=>e (h1.trans z))];exact ⟨h1,h2⟩
theorem KV.put {kvs:List (κ×V)} {vs:List (κ×Value)} (r:KV kvs vs) (k:κ) {y:V} {u:Value} (ry:RelV y u):KV (putK kvs k y) (stored vs k u):=by
 unfold putK stored;rw [r.any k];by_cases e:(vs.any fun kv=>decide (kv.1=k))=true
 ·rw [if_pos e,if_pos e];exact r.repl k ry
 ·rw [if_neg e,if_neg e];exact Paired.snoc r ⟨rfl,ry⟩
theorem KV.length {kvs:List (κ×V)} {vs:List (κ×Value)} (r:KV kvs vs):kvs.length=vs.length:=Paired.length r
end
theorem PX {P:Program} {w:World} {k:Key} {u:Value} (r:RelV (kV k) u):(fJ P w).is k u=true:=by
 cases k with
 | inl i=>obtain ⟨t,e⟩:=(show ∃t,u=Value.int i t from r);subst e;exact z_ P w i t
 | inr x=>obtain ⟨t,e⟩:=(show ∃t,u=Value.str x t from r);subst e;exact A_ P w x t
theorem xV {P:Program} {w:World}:∀{ks:List Key} {us:List Value},Vals (ks.map kV) us->ItemsAre (fJ P w) ks us
 | [],_,r=>by rw [List.map_nil] at r;cases r;exact .nil
 | k::ks,_,r=>by
  rw [List.map_cons] at r;cases r with
  | cons h t=>exact .cons (PX h) (xV t)
noncomputable abbrev KT (H:Hp):List (List Key×V)->List (List Key×Addr×Value)->Prop:=Paired fun p q=>p.1=q.1/\H q.2.1=some (.tup (p.1.map kV))/\RelV p.2 q.2.2
theorem KT.val {H:Hp} {kvs:List (List Key×V)} {xs:List (List Key×Addr×Value)} (r:KT H kvs xs) (k:List Key):WF (uV kvs k) ((atKey xs k).map (·.2)):=by
 induction r with
 | nil=>exact True.intro
 | @cons p q ps qs h t ih=>
  obtain ⟨h1,_,h2⟩:=h;by_cases e:p.1=k
  ·have e':q.1=k:=h1.symm.trans e;have b:atKey (q::qs) k=some q.2:=by simp [atKey,List.find?_cons,e']
   rw [oU e,b];exact h2
  ·have e':¬q.1=k:=fun z=>e (h1.trans z)
   have b:atKey (q::qs) k=atKey qs k:=by simp [atKey,List.find?_cons,e']
   rw [oV e,b];exact ih
theorem KT.repl {H:Hp} {kvs:List (List Key×V)} {xs:List (List Key×Addr×Value)} (r:KT H kvs xs) (k:List Key) {y:V} {u:Value} (ry:RelV y u) :
  KT H (kvs.map fun kv=>if kv.1=k then (kv.1,y) else kv) (xs.map (putAt k u)):=by
 induction r with
 | nil=>exact .nil
 | @cons p q ps qs h t ih=>
  rw [List.map_cons,List.map_cons];refine .cons ?_ ih;obtain ⟨h1,h2,h3⟩:=h;unfold putAt;by_cases e:p.1=k
  ·rw [if_pos e,if_pos (h1.symm.trans e)];exact ⟨h1,h2,ry⟩
  ·rw [if_neg e,if_neg (fun z=>e (h1.trans z))];exact ⟨h1,h2,h3⟩
theorem KT.put {H:Hp} {kvs:List (List Key×V)} {xs:List (List Key×Addr×Value)} (r:KT H kvs xs) (k:List Key) {b:Addr} {y:V} {u:Value} (hb:H b=some (.tup (k.map kV))) (ry:RelV y u) :
  KT H (putK kvs k y) (storedH xs k b u):=by
 have e:(kvs.any fun kv=>decide (kv.1=k))=(atKey xs k).isSome:=by
  rw [oW,(r.val k).lZ,Option.isSome_map]
 unfold putK storedH;rw [e];by_cases q:(atKey xs k).isSome=true
 ·rw [if_pos q,if_pos q];exact r.repl k ry
 ·rw [if_neg q,if_neg q];exact Paired.snoc r ⟨rfl,hb,ry⟩
theorem KT.keeps {H H':Hp} {kvs:List (List Key×V)} {xs:List (List Key×Addr×Value)} (r:KT H kvs xs) (ht:∀b ys,H b=some (.tup ys)->H' b=some (.tup ys)):KT H' kvs xs:=
 Paired.aIf r fun _ _ z=>⟨z.1,ht _ _ z.2.1,z.2.2⟩
section
variable {P:Program} {w:World} {H:Hp} {h:Heap} {a:Addr}
theorem aFa {u:HO} (ok:HOk P w H h) (e:Rd H a u):gJ P w H h a u:=e.ok ok
theorem P_ {kvs:List (Key×V)} (ok:HOk P w H h) (e:Rd H a (.dK kvs)):kvs.length<=sizeLine/\(a==sysModules)=false/\∃vs,KV kvs vs/\h.DictOf (fJ P w) a vs:=
 show gJ P w H h a (.dK kvs) from aFa ok e
theorem W4 {kvs:List (Key×V)} (ok:HOk P w H h) (e:H a=some (.dK kvs)):kvs.length<=sizeLine/\(a==sysModules)=false/\∃vs,KV kvs vs/\h.DictOf (fJ P w) a vs:=P_ ok (.inl e)
theorem xW {ks:List Key} (ok:HOk P w H h) (e:H a=some (.tup (ks.map kV))):(tupleKind (fJ P w)).is h ks a:=by
 obtain ⟨_,its,r,o,h1,h2,n,h3⟩:=(show gJ P w H h a (.tup (ks.map kV)) from ok a _ e)
 exact ⟨o,its.toArray,n,h1,h2,congrArg (·.1) h3,by simpa using xV r⟩
theorem QB {kvs:List (List Key×V)} (ok:HOk P w H h) (e:Rd H a (.dT kvs)):kvs.length<=sizeLine/\(a==sysModules)=false/\
  ∃xs,KT H kvs xs/\h.DictOfH (tupleKind (fJ P w)) a xs:=by
 obtain ⟨z,y,xs,r,o,es,ep,h1,h2,h3,h4,h5⟩:=(show gJ P w H h a (.dT kvs) from aFa ok e)
 refine ⟨z,y,xs,r,o,es,ep,h1,h2,h3,h4,fun x hx=>?_,h5⟩;have all:∀{l:List (List Key×V)} {m:List (List Key×Addr×Value)},KT H l m->∀x∈m,(tupleKind (fJ P w)).is h x.1 x.2.1:=by
  intro l m q;induction q with
  | nil=>intro x hx;exact nomatch hx
  | @cons p q ps qs hq t ih=>
   intro x hx;rcases List.mem_cons.mp hx with e|hx
   ·subst e;exact xW ok (by rw [<-hq.1];exact hq.2.1)
   ·exact ih x hx
 exact all r x hx
theorem aBx {kvs:List (List Key×V)} (ok:HOk P w H h) (e:H a=some (.dT kvs)):kvs.length<=sizeLine/\(a==sysModules)=false/\
  ∃xs,KT H kvs xs/\h.DictOfH (tupleKind (fJ P w)) a xs:=QB ok (.inl e)
end
noncomputable def QC (H:Hp) (a:Addr) (y:V) (r:Option V):Prop:=
 (∃kvs k,Rd H a (.dK kvs)/\y=kV k/\r=uV kvs k)\/∃kvs k b,Rd H a (.dT kvs)/\y=.ref b/\H b=some (.tup (k.map kV))/\r=uV kvs k
noncomputable def aA7 (H:Hp) (a:Addr) (y v:V) (H':Hp):Prop:=
 (∃kvs k,H a=some (.dK kvs)/\y=kV k/\kvs.length<sizeLine/\H'=upd H a (.dK (putK kvs k v)))\/
 ∃kvs k b,H a=some (.dT kvs)/\y=.ref b/\H b=some (.tup (k.map kV))/\kvs.length<sizeLine/\H'=upd H a (.dT (putK kvs k v))
theorem QC.k {H:Hp} {a:Addr} {kvs:List (Key×V)} {k:Key} (e:H a=some (.dK kvs)):QC H a (kV k) (uV kvs k):=.inl ⟨kvs,k,.inl e,rfl,rfl⟩
theorem QC.t {H:Hp} {a b:Addr} {kvs:List (List Key×V)} {k:List Key} (e:H a=some (.dT kvs)) (eb:H b=some (.tup (k.map kV))):QC H a (.ref b) (uV kvs k):=.inr ⟨kvs,k,b,.inl e,rfl,eb,rfl⟩
theorem aA7.k {H:Hp} {a:Addr} {kvs:List (Key×V)} {k:Key} {v:V} (e:H a=some (.dK kvs)) (hl:kvs.length<sizeLine):aA7 H a (kV k) v (upd H a (.dK (putK kvs k v))):=.inl ⟨kvs,k,e,rfl,hl,rfl⟩
theorem aA7.t {H:Hp} {a b:Addr} {kvs:List (List Key×V)} {k:List Key} {v:V} (e:H a=some (.dT kvs)) (eb:H b=some (.tup (k.map kV))) (hl:kvs.length<sizeLine) :
  aA7 H a (.ref b) v (upd H a (.dT (putK kvs k v))):=.inr ⟨kvs,k,b,e,rfl,eb,hl,rfl⟩
section
variable {X:Cx} {pins:List (Addr×Obj)} {σ:St} {H:Hp} {s:Shared} {a:Addr} {y v:V} {u r:Value} {o:Option V} {A:Around} {E:Value->Shared->Prop}
theorem Inv.big (I:Inv X pins σ H s):sysModules<s.heap.objs.size:=by
 have h:mainGlobals<s.heap.objs.size:=(I.mod.glob.keeps I.bk).lt;exact Nat.lt_trans (by decide) h
theorem QD {Q:Value->Shared->Prop} (hu:A.units+1<cLine) (I:Inv X pins σ H s) (g:QC H a y (some v)) (ry:RelV y u) (h:∀w' s',Inv X pins σ H s'->RelV v w'->Q w' s') :
  wpAny (model X.prog X.w) A (getItem (.ref a) u) Q E s:=by
 rcases g with ⟨kvs,k,e,ey,l⟩|⟨kvs,k,b,e,ey,eb,l⟩
 ·subst ey;obtain ⟨z,hd,vs,rel,dd⟩:=P_ I.hok e;obtain ⟨w',hw,rw'⟩:=WF.some_of (v:=v) (o:=valueAt vs k) (by rw [l];exact rel.val k);exact wpAny_getItem_of (PX ry) dd.mapOf hw (h w' _ (I.tok _) rw')
 ·subst ey;cases (show u=Value.ref b from ry);obtain ⟨z,hd,xs,rel,dd⟩:=QB I.hok e;obtain ⟨w',hw,rw'⟩:=WF.some_of (v:=v) (o:=(atKey xs k).map (·.2)) (by rw [l];exact rel.val k);obtain ⟨p,hp,hp2⟩:=Option.map_eq_some_iff.mp hw;refine wpAny_getItem_heap (tupleKind_room_in1 hu) (xW I.hok eb) dd hp ?_;rw [hp2];exact h w' _ (I.tok _) rw'
theorem aL4 {Q:Value->Shared->Prop} (hu:A.units+1<cLine) (I:Inv X pins σ H s) (g:QC H a y o) (ry:RelV y u) (h:∀s',Inv X pins σ H s'->Q (.bool o.isSome) s') :
  wpAny (model X.prog X.w) A (compareOp .In u (.ref a)) Q E s:=by
 rcases g with ⟨kvs,k,e,ey,l⟩|⟨kvs,k,b,e,ey,eb,l⟩
 ·subst ey;obtain ⟨z,hd,vs,rel,dd⟩:=P_ I.hok e;refine wpAny_in_of (PX ry) hd dd.mapOf ?_;rw [<-(rel.val k).lZ,<-l];exact h _ (I.tok _)
 ·subst ey;cases (show u=Value.ref b from ry);obtain ⟨z,hd,xs,rel,dd⟩:=QB I.hok e;refine wpAny_in_heap (tupleKind_room_in1 hu) (xW I.hok eb) hd dd ?_;have q:=(rel.val k).lZ;rw [Option.isSome_map] at q;rw [<-q,<-l];exact h _ (I.tok _)
theorem aBy {Q:Value->Shared->Prop} (hu:A.units+1<cLine) (I:Inv X pins σ H s) (g:QC H a y o) (ry:RelV y u) (h:∀s',Inv X pins σ H s'->Q (.bool (!o.isSome)) s') :
  wpAny (model X.prog X.w) A (compareOp .NotIn u (.ref a)) Q E s:=by
 rcases g with ⟨kvs,k,e,ey,l⟩|⟨kvs,k,b,e,ey,eb,l⟩
 ·subst ey;obtain ⟨z,hd,vs,rel,dd⟩:=P_ I.hok e;refine wpAny_notIn_of (PX ry) hd dd.mapOf ?_;rw [<-(rel.val k).lZ,<-l];exact h _ (I.tok _)
 ·subst ey;cases (show u=Value.ref b from ry);obtain ⟨z,hd,xs,rel,dd⟩:=QB I.hok e;refine wpAny_notIn_heap (tupleKind_room_in1 hu) (xW I.hok eb) hd dd ?_;have q:=(rel.val k).lZ;rw [Option.isSome_map] at q;rw [<-q,<-l];exact h _ (I.tok _)
theorem QF {h':Heap} {t':Nat} {ob:HO} (I:Inv X pins σ H s) (mu:Mut (H a)) (hs:Heap.SameBut a s.heap h') (he:∃q,h'.get? a=some q) (new:gJ X.prog X.w (upd H a ob) h' a ob) :
  Inv X pins σ (upd H a ob) {s with heap:=h',toks:=t'}:=
 I.write (x:=a) (e:=a) mu (.inl rfl) (fun b q hb z=>(hs.2 b hb).trans z) he new
theorem aFb {P:Program} {w:World} {H':Hp} {h':Heap} {kvs:List (Key×V)} {vs:List (Key×Value)} (z:kvs.length<=sizeLine) (hd:(a==sysModules)=false) (rel:KV kvs vs) (dd:h'.DictOf (fJ P w) a vs) :
  gJ P w H' h' a (.dK kvs):=⟨z,hd,vs,rel,dd⟩
theorem QG {H':Hp} {Q:Unit->Shared->Prop} (hu:A.units+1<cLine) (I:Inv X pins σ H s) (g:aA7 H a y v H') (ry:RelV y u) (rv:RelV v r) (h:∀s',Inv X pins σ H' s'->Q () s') :
  wpAny (model X.prog X.w) A (setItem (.ref a) u r) Q E s:=by
 rcases g with ⟨kvs,k,e,ey,l,eH⟩|⟨kvs,k,b,e,ey,eb,l,eH⟩
 ·subst ey eH;obtain ⟨z,hd,vs,rel,dd⟩:=W4 I.hok e;have hz:vs.length<=sizeLine:=by rw [<-rel.length];exact z
  have hl:(putK kvs k v).length<=sizeLine:=by have:=rR kvs k v;lia
  refine wpAny_setItem_pairs (hsz:=hz) (PX ry) dd fun h' dd' hs=>h _ ?_
  have he:∃q,h'.get? a=some q:=let ⟨q,_,_,hq,_⟩:=dd';⟨q,hq⟩
  exact QF I (by rw [e];exact True.intro) hs he (aFb hl hd (rel.put k rv) dd')
 ·subst ey eH;cases (show u=Value.ref b from ry);obtain ⟨z,hd,xs,rel,dd⟩:=aBx I.hok e;have hz:xs.length<=sizeLine:=by rw [<-Paired.length rel];exact z
  have hl:(putK kvs k v).length<=sizeLine:=by have:=rR kvs k v;lia
  refine wpAny_setItem_heap (hsz:=hz) (tupleKind_room_in1 hu) (xW I.hok eb) dd fun h' dd' hs=>h _ ?_
  obtain ⟨q,es,ep,hq,h2,h3,h4,_,h5⟩:=dd';refine QF I (by rw [e];exact True.intro) hs ⟨q,hq⟩ ⟨hl,hd,_,(rel.put k eb rv).keeps fun c ys ec=>?_,q,es,ep,hq,h2,h3,h4,h5⟩;rw [bB (aBe ec e (fun z=>nomatch z))];exact ec
end
section
variable {X:Cx} {pins:List (Addr×Obj)} {σ:St} {H:Hp} {s:Shared} {a:Addr} {kvs:List (Key×V)} {k:Key} {u:Value} {A:Around} {E:Value->Shared->Prop}
end
theorem BR {X:Cx} {pins:List (Addr×Obj)} {σ:St} {H:Hp} {s:Shared} {a:Addr} {y:V} {o:Option V} (I:Inv X pins σ H s) (g:QC H a y o):s.TypeIs (.ref a) "dict":=by
 rcases g with ⟨kvs,k,e,_,_⟩|⟨kvs,k,b,e,_,_,_⟩
 ·obtain ⟨_,_,vs,_,dd⟩:=P_ I.hok e;exact dd.typeIs
 ·obtain ⟨_,_,xs,_,dd⟩:=QB I.hok e;exact dd.typeIs
section
variable {X:Cx} {o i e value:Expr} {pos pos' tpos:Pos} {td ty tv:TE}
end
theorem W5 {P:Program} {w:World} {H:Hp} (h:Heap) (hb:sysModules<h.objs.size):gJ P w H (h.push {cls:=.type "dict",data:=.dict #[]}) h.objs.size (.dK []):=
 ⟨Nat.zero_le _,beq_eq_false_iff_ne.mpr (Ne.symm (Nat.ne_of_lt hb)),[],.nil,Heap.DictOf.new h⟩
def aFc:TE:=fun _ H Q=>∀p,H p=none->Q (.ref p) (upd H p (.dK []))
section
variable {X:Cx} {pos:Pos}
theorem W6:PE X (.Dict [] [] pos) aFc:=fun pins s σ H Q I h=>
 wpAny_Dict_empty ⟨.ref s.heap.objs.size,_,I.laid (a:=s.heap.objs.size) (o:=.dK []) (t':=s.toks) (fun _ _ q=>Heap.get?_push_of_some _ q) (Nat.le_refl _) (W5 s.heap I.big),rfl,h _ (I.hok.fresh (Nat.le_refl _))⟩
end
section
variable {X:Cx} {pins:List (Addr×Obj)} {σ:St} {H:Hp} {s:Shared} {a:Addr} {y d:V} {u r:Value} {o:Option V} {A:Around} {E:Value->Shared->Prop}
end
section
variable {X:Cx} {o e f:Expr} {apos cpos:Pos} {td ty tx:TE}
end
section
variable {X:Cx} {pins:List (Addr×Obj)} {σ:St} {H:Hp} {s:Shared} {a:Addr} {kvs:List (Key×V)} {A:Around} {E:Value->Shared->Prop}
end
section
variable {X:Cx} {pins:List (Addr×Obj)} {σ:St} {H:Hp} {s:Shared} {a:Addr} {y:V} {u:Value} {A:Around} {E:Value->Shared->Prop}
end
end L2
namespace Att
open PySem PySem.W PySem.Calls PyProof.Rows
theorem rT {P:Params} {h:Heap}:∀(ns:List Int) (vs:List Value),WellAll P h vs (ns.map WData.int)->IntsAre vs ns:=by
 intro ns;induction ns with
 | nil=>
  intro vs w;rw [List.map_nil] at w;cases w;exact .nil
 | cons n ns ih=>
  intro vs w;rw [List.map_cons] at w;cases w with
  | cons a b=>
   cases a;exact .cons _ _ (ih _ b)
theorem QH {l:OpenLaw} {n:Nat} (hn:l.most=some n) {P:Params} {h:Heap} {args:List WData} {vals:List Value}
  (hpre:l.row.toRowW.claim.pre args=true) (hwl:WellAll P h vals args) :
  ∃a vs ns,vals=[Value.ref a]/\args=[WData.list (ns.map WData.int)]/\h.get? a=some {cls:=.type "list",data:=.seq vs.toArray}/\IntsAre vs ns/\ns.length<=n:=by
 have hsh:WShape.hasAll [] args [.list .int]=true:=(pre_splitW hpre).1;have hc:l.pre.holds [] {args:=args}=true:=(pre_splitW hpre).2;obtain ⟨d,r,rfl,h1,h2⟩:=hasAllW_cons hsh;obtain rfl:=hasAllW_nil h2;obtain ⟨xs,rfl,h3⟩:=hasW_list h1;obtain ⟨ns,rfl⟩:=items_int h3;have hlen:ns.length<=n:=by
  unfold OpenLaw.pre at hc;have h4:(WTm.not (.lt (.lit (.int (n:Int))) (.len (.arg 0)))).holds [] {args:=[.list (ns.map .int)]}=true:=by
   have h4:=(holds_andW hc).1;rw [hn] at h4;exact h4
  have h5:=condW_of h4 (w_not (w_lt w_lit (w_len_list (w_arg rfl))));rw [List.length_map] at h5;refine Nat.le_of_not_lt fun q=>?_
  have q':(n:Int)<((ns.length:Nat):Int):=by lia
  first
   | (rw [decide_eq_true q'] at h5;exact absurd h5 (by decide))
   | (simp at h5;lia)
 cases hwl with
 | cons w1 w2=>
  cases w2;cases w1 with
  | list ho hall=>exact ⟨_,_,ns,rfl,rfl,ho,rT ns _ hall,hlen⟩
theorem QJ (l:OpenLaw) (args:List WData):l.row.toRowW.claim.post args (.bool true) args=true:=
 postW_of (r:=l.row.toRowW) (X:=(true==true))
  (show WShape.has [] (.bool true) .bool=true by first|rfl|decide|simp [WShape.has,WShape.arms,WShape.armsAll])
  (show (WTm.eq .res (.lit (.bool true))).value [] {args:=args,res:=some (.bool true),after:=args}=some (.bool (true==true)) from w_eq_bool (w_res rfl) w_lit) rfl
theorem BV {l:OpenLaw} {n:Nat} {q:Program} {loose:List Str} {XP:(Str->Option Value)->Heap->Prop} {YP:World->Heap->Prop} {d:DefRec}
  (hn:l.most=some n) (hdf:d.params.defaults=[])
  (call:∀(w:World) (s₀ s₁:Shared) (mg mb:Str->Option Value) (fa:Addr) (o:Obj) (pm cd doc:Value) (a:Addr) (vs:List Value) (ns:List Int),
   Ground q loose [] XP w s₀ mg mb s₁.heap->YP w s₁.heap->
   s₁.heap.get? fa=some o->o.data=.func (docDef d.name d.params d.body d.scope pm cd doc)->s₁.heap.CodeRec cd d.name->mg d.name=some (.ref fa)->
   s₁.heap.get? a=some {cls:=.type "list",data:=.seq vs.toArray}->IntsAre vs ns->ns.length<=n->s₁.gens=#[]->
   codeAny (model l.prog w) callerA (.call (.ref fa) ⟨[.ref a],[]⟩) (fun r s'=>r=.ok (.ret (.bool true))/\OldK s₁.heap s'.heap/\s'.os=s₁.os/\AllBare s'.gens) s₁) :
  WalkO q loose XP YP l.row.toRowW d [] (fun f vs=>PySem.call f vs):=by
 intro w s₀ s₁ mg mb G Y fa o pm cd doc dV kV ho hd hcd hD hmg hg args vals as hpre hlay hrd hwl hlo;obtain rfl:dV=.none:=Dflts.none hD hdf;obtain rfl:kV=.none:=Dflts.noKw hD;obtain ⟨a,vs,ns,rfl,rfl,hobj,hints,hlen⟩:=QH hn hpre hwl;refine enter_call (codeAny_mono (call w s₀ s₁ mg mb fa o pm cd doc a vs ns G Y ho (fd_plain hd) hcd hmg hobj hints hlen hg) fun r s' hq=>?_);obtain ⟨rfl,h2,h3,h4⟩:=hq;exact ⟨.inl ⟨.bool true,.bool true,[],rfl,fun _=>rfl,.bool true,QJ l _,fun _=>⟨List.Pairwise.nil,fun _ hm=>(nomatch hm)⟩⟩,h2,h3,h4⟩
section
variable {prog:Program} {w:World} {A:Around} {E:Value->Shared->Prop} {s:Shared} {K:Frag}
end
end Att
namespace L2
open PySem PySem.Spec PyProof.Rows
theorem xX:∀{vs:List Value} {ns:List Int},IntsAre vs ns->Vals (ns.map V.int) vs
 | _,_,.nil=>.nil
 | _,_,.cons n t h=>.cons ⟨t,rfl⟩ (xX h)
def Only (H:Hp):Prop:=∀b,H b=none\/∃o xs,H b=some (.frz o (.lst xs))
theorem W7 {P:Program} {w:World} {K:PySem.W.Frag} {mg mb:Str->Option Value} {CX:CXT} {k:Nat} {fa a:Addr} {fd:FuncData} {x:Str} {sp:Sp} {s₁:Shared} {vs:List Value} {ns:List Int}
  (KX:K.In s₁.heap) (hns:s₁.heap.Ns mainGlobals mg) (hb:s₁.heap.Ns builtinsNs mb) (hbb:∀x:Str,x ≠ "__name__"->mb x=bootBuiltins x) (hlim:s₁.heap.NoLimit) (hg:s₁.gens=#[])
  (ha:s₁.heap.get? a=some {cls:=.type "list",data:=.seq vs.toArray}) (hi:IntsAre vs ns) (hl:ns.length<=sizeLine) (hr:j5 k callerA)
  (F:∀base:Heap,K.In base->base.Ns mainGlobals mg->qW P w K mg base CX k fa fd [x] sp) (hbind:∀(s:Shared) (u:Value),BindsTo s fd ⟨[u],[]⟩ [(x,u)])
  (hsp:∀H:Hp,Only H->SqL K H a (ns.map V.int)->sp [.ref a] H (fun v _=>v=.bl true) fun _ _ _=>False)
  (hCX:∀H e s',CX [] H s₁ (fun _ _ _=>False) e s'->False) :
  codeAny (model P w) callerA (.call (.ref fa) ⟨[.ref a],[]⟩) (fun r s'=>r=.ok (.ret (.bool true))/\OldK s₁.heap s'.heap/\s'.os=s₁.os/\AllBare s'.gens) s₁:=by
 have rv:=xX hi;have lenV:=hi.length
 -- from an abstract heap in which nothing but the script may be tracked
 have core:∀H:Hp,Only H->SqL K H a (ns.map V.int)->HOk P w H s₁.heap->(∀b,H b≠none->b=a)->(H a≠none->K.lookup a=none)->
   codeAny (model P w) callerA (.call (.ref fa) ⟨[.ref a],[]⟩) (fun r s'=>r=.ok (.ret (.bool true))/\OldK s₁.heap s'.heap/\s'.os=s₁.os/\AllBare s'.gens) s₁:=by
  intro H hO hS hok hA hK;have base_of:∀{b:Addr} {o:Obj},s₁.heap.get? b=some o->H b=none->(WL s₁.heap H).get? b=some o:=fun e n=>WM e n
  have noA:∀{b:Addr} {o:Obj} {es:Array DictEntry} {ep:Nat},s₁.heap.get? b=some o->o.data=.dict es ep->H b=none:=fun {b o es ep} e d=>by
   cases q:H b with
   | none=>rfl
   | some u=>
    have e':b=a:=hA b (by rw [q];simp);subst e';rw [ha] at e;cases e;have d':Data.seq vs.toArray _=Data.dict es ep:=d;cases d'
  have nsK:∀{b:Addr} {m:Str->Option Value},s₁.heap.Ns b m->(WL s₁.heap H).Ns b m:=fun {b m} ⟨o,es,ep,e,d,r⟩=>⟨o,es,ep,base_of e (noA e d),d,r⟩
  have hKb:K.In (WL s₁.heap H):=fun b o e=>base_of (KX b o e) (by
   cases q:H b with
   | none=>rfl
   | some u=>
    have e':b=a:=hA b (by rw [q];simp);subst e';rw [hK (by rw [q];simp)] at e;cases e)
  have hM:Mod K mg (WL s₁.heap H):=⟨hKb,nsK hns,⟨mb,nsK hb,hbb⟩,let ⟨mc,h1,h2⟩:=hlim;⟨mc,nsK h1,h2⟩⟩
  have e0:aBo P w K mg (WL s₁.heap H) callerA [] s₁ H:=⟨rfl,hM,fun b o e=>aBf e,Nat.le_of_eq (O2 _ _),trivial,fun b hb=>absurd (show b∈([]:List Addr) from hb) (by simp),hok,.of_eq hg⟩
  refine codeAny_mono ((F _ hKb (nsK hns)).run callerA [] s₁ H ⟨[.ref a],[]⟩ [.ref a] [.ref a] _ _ hr e0 (hbind s₁ (.ref a)) (.cons rfl .nil) (hsp H hO hS)) fun r s' h=>?_
  cases r with
  | error e=>exact (hCX H e s' h).elim
  | ok fl=>
   cases fl with
   | next=>exact False.elim h
   | brk=>exact False.elim h
   | cont=>exact False.elim h
   | ret u=>
    obtain ⟨v,H',os,bare,un,hok',r',q⟩:=h;have q':v=.bl true:=q;subst q';obtain rfl:u=Value.bool true:=r';refine ⟨rfl,OldK.of_keep fun b o e=>?_,os,bare⟩;cases q:H b with
    | none=>exact un.keep b o e q (by intro z;exact absurd (show b∈([]:List Addr) from z) (by simp)) (by simp)
    | some u=>
     rcases hO b with z|⟨ob,xs,z⟩
     ·rw [q] at z;cases z
     ·have z2:=un.frzs b ob _ z;obtain ⟨e1,_⟩:=hok b _ z;obtain ⟨e2,_⟩:=hok' b _ z2;rw [e] at e1;cases e1;exact e2
 cases hk:K.lookup a with
 | some o=>
  -- the script is one of the module's own objects
  have e:=KX a o hk;rw [ha] at e;cases e;refine core (fun _=>none) (fun _=>.inl rfl) (.inr ⟨_,vs.toArray,_,hk,rfl,rfl,rfl,by rw [List.size_toArray,lenV];exact hl,by simpa using rv⟩) (fun b u z=>by have z':(none:Option HO)=some u:=z;cases z') (fun b z=>absurd rfl z) fun z=>absurd rfl z
 | none=>
  refine core (fun b=>if b=a then some (.frz {cls:=.type "list",data:=.seq vs.toArray} (.lst (ns.map V.int))) else none) (fun b=>?_) (.inl (.inr ⟨{cls:=.type "list",data:=.seq vs.toArray},if_pos rfl⟩)) (fun b u z=>?_) (fun b z=>?_) fun _=>hk
  ·by_cases hb:b=a
   ·exact .inr ⟨_,_,if_pos hb⟩
   ·exact .inl (if_neg hb)
  ·by_cases hb:b=a
   ·have z':=(if_pos hb).symm.trans z;cases z';subst hb;exact ⟨ha,by rw [List.length_map];exact hl,vs,_,rv,ha⟩
   ·have z':=(if_neg hb).symm.trans z;cases z'
  ·by_cases hb:b=a
   ·exact hb
   ·exact absurd (if_neg hb) z
end L2
namespace L2
open PySem PySem.Spec PyProof.Rows
theorem aBz {l:PySem.W.OpenLaw} {n k:Nat} {q:Program} {loose:List Str} {XP:(Str->Option Value)->Heap->Prop} {YP:World->Heap->Prop} {d:DefRec} {K:Params->PySem.W.Frag} {CX:World->CXT} {sp:World->Sp} {x:Str}
  (hn:l.most=some n) (hn2:n<=sizeLine) (hdf:d.params.defaults=[]) (hr:j5 k callerA)
  (hY:∀(w:World) (h:Heap),YP w h->(K w.params).In h)
  (F:∀(w:World) (mg:Str->Option Value) (fa:Addr) (h:Heap),(K w.params).In h->h.Ns mainGlobals mg->mg d.name=some (.ref fa)->
   ∃fd:FuncData,(∀(s:Shared) (u:Value),BindsTo s fd ⟨[u],[]⟩ [(x,u)])/\
    ∀base:Heap,(K w.params).In base->base.Ns mainGlobals mg->qW l.prog w (K w.params) mg base (CX w) k fa fd [x] (sp w))
  (hsp:∀(w:World) (H:Hp) (a:Addr) (ns:List Int),ns.length<=n->Only H->SqL (K w.params) H a (ns.map V.int)->sp w [.ref a] H (fun v _=>v=.bl true) fun _ _ _=>False)
  (hCX:∀(w:World) (H:Hp) (s:Shared) (e:Value) (s':Shared),CX w [] H s (fun _ _ _=>False) e s'->False) :
  PySem.W.WalkO q loose XP YP l.row.toRowW d [] (fun f vs=>PySem.call f vs):=by
 refine Att.BV hn hdf fun w s₀ s₁ mg mb fa o pm cd doc a vs ns G Y ho hd hcd hmg hobj hints hlen hg=>?_
 have KX:=hY w _ Y;obtain ⟨fd,hb,hF⟩:=F w mg fa _ KX G.T.g hmg;exact W7 KX G.T.g G.T.b G.T.builtins G.T.nolimit hg hobj hints (Nat.le_trans hlen hn2) hr hF hb (fun H hO hS=>hsp w H a ns hlen hO hS) fun H e s'=>hCX w H s₁ e s'
end L2
namespace L2
open PySem PySem.Spec PyProof.Rows
noncomputable def lC (s:Stmt):Arguments:=match s with
 | .FunctionDef _ a _ _ _ _ _ _ _ _=>a
 | _=>{posonlyargs:=[],args:=[],vararg:=none,kwonlyargs:=[],kw_defaults:=[],kwarg:=none,defaults:=[]}
noncomputable def d9 (s:Stmt):List Stmt:=match s with
 | .FunctionDef _ _ b _ _ _ _ _ _ _=>b
 | _=>[]
noncomputable def aM (s:Stmt):Scope:=match s with
 | .FunctionDef _ _ _ _ _ _ sc _ _ _=>sc
 | _=>{kind:=.function,names:=[],isGenerator:=false,isCoroutine:=false}
abbrev CX0:CXT:=fun _ _ _ _ _ _=>False
abbrev E0:XK:=fun _ _ _=>False
theorem W8 {X:Cx}:G4 CX0 X E0:=fun _ _ _ _ _ _ _ h=>h.elim
structure Fun (K:PySem.W.Frag) (x qual:Str) (st:Stmt) (f:Addr) (fd:FuncData):Prop where
 ex:∃(oc:Value) (od:Option Addr) (kV doc pm:Value) (an:Option Addr) (cdv ct:Value) (osl:Array (Option Value)),
  fd=PySem.W.fnOf x qual (lC st) (d9 st) (aM st) .none kV doc pm an cdv ct/\K.lookup f=some ⟨oc,od,.func fd,osl⟩/\PySem.W.codeIn K cdv qual=true
 kp:PySem.W.keepIn K (.ref f)=true
section
variable {P:Program} {w:World} {K:PySem.W.Frag} {mg:Str->Option Value} {base:Heap}
theorem Fun.ok {x qual:Str} {st:Stmt} {f:Addr} {fd:FuncData} {N ps:List Str} {k:Nat} {sp:Sp} (F:Fun K x qual st f fd) (S:bT N ps (aM st)) (len:∀vs H Q E,sp vs H Q E->vs.length=ps.length)
  (hbody:∀(cdv:Value) (A:Around) (outer:List Env) (s:Shared) (H:Hp) (vs:List V) (Q:VK) (E:XK),j5 k (A.deeper (envOfC qual (aM st) s.heap.objs.size f cdv))->sp vs H Q E->
   ∃t,PSs (k_ CX0 P w K mg base N qual (aM st) f cdv A outer s H E).nox (d9 st) t/\t {nx:=fun _ H'=>Q .non H',rt:=Q} (start N vs) H):qW P w K mg base CX0 (k+1) f fd ps sp:=by
 obtain ⟨oc,od,kV,doc,pm,an,cdv,ct,osl,rfl,lk,hcd⟩:=F.ex;refine aF3 lk hcd S len fun A outer s H vs Q E hr hsp=>?_
 obtain ⟨t,h,q⟩:=hbody cdv A outer s H vs Q E hr hsp;exact ⟨t,h.nox,q⟩
theorem Fun.binds {x qual:Str} {st:Stmt} {f:Addr} {fd:FuncData} {ps:List Str} (F:Fun K x qual st f fd)
  (h:∀(kV doc pm:Value) (an:Option Addr) (cdv ct:Value) (us:List Value),us.length=ps.length->bindArgs (PySem.W.fnOf x qual (lC st) (d9 st) (aM st) .none kV doc pm an cdv ct) ⟨us,[]⟩=pure (ps.zip us)):Binds K fd ps []:=by
 obtain ⟨oc,od,kV,doc,pm,an,cdv,ct,osl,rfl,lk,hcd⟩:=F.ex;exact .all (h kV doc pm an cdv ct)
theorem uW {x qual:Str} {st:Stmt} {f:Addr} {oc:Value} {od an:Option Addr} {osl:Array (Option Value)} {kV doc pm cdv ct:Value} (l:K.lookup f=some ⟨oc,od,.func (PySem.W.fnOf x qual (lC st) (d9 st) (aM st) .none kV doc pm an cdv ct),osl⟩)
  (c:PySem.W.codeIn K cdv qual=true) (k:PySem.W.keepIn K (.ref f)=true):Fun K x qual st f (PySem.W.fnOf x qual (lC st) (d9 st) (aM st) .none kV doc pm an cdv ct):=⟨⟨oc,od,kV,doc,pm,an,cdv,ct,osl,rfl,l,c⟩,k⟩
end
section
variable {X:Cx}
end
def cJ (H H':Hp):Prop:=∀b o,H b=some o->H' b=some o
theorem cJ.refl (H:Hp):cJ H H:=fun _ _ h=>h
theorem cJ.trans {H H1 H2:Hp} (a:cJ H H1) (b:cJ H1 H2):cJ H H2:=fun c o h=>b c o (a c o h)
theorem cJ.free {H H':Hp} (e:cJ H H') {l:Addr} (h:H' l=Option.none):H l=Option.none:=by
 cases q:H l with
 | none=>rfl
 | some o=>
  rw [e l o q] at h;cases h
section
variable {X:Cx}
end
section
variable {κ:Type} [DecidableEq κ]
theorem W9 {kvs:List (κ×V)} {k:κ} (h:uV kvs k=none):¬k∈kvs.map (·.1):=by
 intro m;obtain ⟨p,hp,e⟩:=List.mem_map.mp m;have q:(kvs.any fun kv=>decide (kv.1=k))=true:=List.any_eq_true.mpr ⟨p,hp,decide_eq_true e⟩;rw [oW,h] at q;exact absurd q (by simp)
theorem QK:∀{l:List κ} {k:κ},l.Nodup->¬k∈l->(l++[k]).Nodup
 | [],k,_,_=>by simp
 | a::r,k,h,hk=>by
  obtain ⟨h1,h2⟩:=List.nodup_cons.mp h;show (a::(r++[k])).Nodup;refine List.nodup_cons.mpr ⟨fun m=>?_,QK h2 fun m=>hk (List.mem_cons.mpr (Or.inr m))⟩;rcases List.mem_append.mp m with q|q
  ·exact h1 q
  ·exact hk (List.mem_cons.mpr (Or.inl (List.mem_singleton.mp q).symm))
theorem aC0 {kvs:List (κ×V)} {k:κ} (v:V) (hn:(kvs.map (·.1)).Nodup) (h:uV kvs k=none):((putK kvs k v).map (·.1)).Nodup:=by
 rw [W3 v h,List.map_append];exact QK hn (W9 h)
end
end L2
end
section
namespace TS
open PySem PyProof.Rows
end TS
end
section
namespace TS
open PySem PyProof.Rows
section
variable {prog:Program} {w:World} {A:Around} {E:Value->Shared->Prop} {s:Shared}
end
end TS
end
section
namespace TS
open PySem PyProof.Rows
section
variable {prog:Program} {w:World} {A:Around} {E:Value->Shared->Prop} {s:Shared} {kd:SortKind} {U:Keyed->Prop} {blt:Keyed->Keyed->Bool}
end
section
variable (blt:Keyed->Keyed->Bool)
variable {blt}
variable {a b out:Array Keyed} {ia ib:Nat}
end
end TS
end
section
namespace TS
open PySem PyProof.Rows
section
variable {prog:Program} {w:World} {A:Around} {E:Value->Shared->Prop} {s:Shared} {kd:SortKind} {U:Keyed->Prop} {blt:Keyed->Keyed->Bool}
end
end TS
end
section
namespace TS
open PySem PyProof.Rows
section
variable {blt:Keyed->Keyed->Bool}
variable {a b out:Array Keyed} {na nb:Nat}
variable {U:Keyed->Prop}
end
section
variable {prog:Program} {w:World} {A:Around} {E:Value->Shared->Prop} {s:Shared} {kd:SortKind} {U:Keyed->Prop} {blt:Keyed->Keyed->Bool}
end
end TS
end
section
namespace TS
open PySem PyProof.Rows
section
variable {blt:Keyed->Keyed->Bool} {U:Keyed->Prop}
end
section
variable {prog:Program} {w:World} {A:Around} {E:Value->Shared->Prop} {s:Shared} {kd:SortKind} {U:Keyed->Prop} {blt:Keyed->Keyed->Bool}
end
end TS
end
section
namespace TS
open PySem PyProof.Rows
section
variable {blt:Keyed->Keyed->Bool} {U:Keyed->Prop}
end
section
variable {prog:Program} {w:World} {A:Around} {E:Value->Shared->Prop} {s:Shared} {kd:SortKind} {U:Keyed->Prop} {blt:Keyed->Keyed->Bool}
end
end TS
end
section
namespace TS
open PySem PyProof.Rows
section
variable {blt:Keyed->Keyed->Bool} {U:Keyed->Prop}
end
section
variable {prog:Program} {w:World} {A:Around} {E:Value->Shared->Prop} {s:Shared} {kd:SortKind} {U:Keyed->Prop} {blt:Keyed->Keyed->Bool}
end
section
variable {blt:Keyed->Keyed->Bool} {U:Keyed->Prop}
end
end TS
end
section
namespace TS
open PySem PyProof.Rows
section
variable {prog:Program} {w:World} {A:Around} {E:Value->Shared->Prop} {s:Shared} {kd:SortKind} {U:Keyed->Prop} {blt:Keyed->Keyed->Bool}
end
end TS
end
section
namespace Mi
open PySem
inductive D where
 | uD|non|bl (b:Bool)|int (i:Int)|str (x:Str)
 | tup (xs:List D)|lst (xs:List D)|dct (kvs:List (D×D))|scr (xs:List D)|fdc (kvs:List (D×D))|cel (a:Nat) (xs:List D)|exc (c:Str) (fs:List (Str×Str))
 deriving Inhabited
mutual
noncomputable def D.pure:D->Bool
 | .tup xs=>D.aW xs
 | .lst _=>false
 | .dct _=>false
 | .uD=>false
 | .scr xs=>D.aW xs
 | .fdc _=>false
 | .cel _ _=>false
 | .exc _ _=>false
 | _=>true
noncomputable def D.aW:List D->Bool
 | []=>true
 | x::xs=>x.pure&&D.aW xs
end
mutual
noncomputable def eqD:D->D->Bool
 | .non,.non=>true
 | .bl a,.bl b=>a==b
 | .int a,.int b=>a==b
 | .bl a,.int b=>(if a then (1:Int) else 0)==b
 | .int a,.bl b=>a==(if b then (1:Int) else 0)
 | .str a,.str b=>a==b
 | .tup xs,.tup ys=>xY xs ys
 | .lst xs,.lst ys=>xY xs ys
 | _,_=>false
noncomputable def xY:List D->List D->Bool
 | [],[]=>true
 | x::xs,y::ys=>eqD x y&&xY xs ys
 | _,_=>false
end
mutual
noncomputable def D.b8:Nat->D->Bool
 | n+1,.tup xs=>D.cW n xs
 | n+1,.lst xs=>D.cW n xs
 | 0,.tup _=>false
 | 0,.lst _=>false
 | _,.dct _=>false
 | _,.uD=>false
 | _,.scr _=>false
 | _,.fdc _=>false
 | _,.cel _ _=>false
 | _,.exc _ _=>false
 | _,_=>true
noncomputable def D.cW:Nat->List D->Bool
 | _,[]=>true
 | n,x::xs=>D.b8 n x&&D.cW n xs
end
inductive xZ where|lt|le|gt|ge
 deriving DecidableEq
noncomputable def xZ.int:xZ->Int->Int->Bool
 | .lt,a,b=>decide (a<b)|.le,a,b=>decide (a<=b)|.gt,a,b=>decide (b<a)|.ge,a,b=>decide (b<=a)
noncomputable def xZ.nat:xZ->Nat->Nat->Bool
 | .lt,a,b=>decide (a<b)|.le,a,b=>decide (a<=b)|.gt,a,b=>decide (b<a)|.ge,a,b=>decide (b<=a)
def W_ (a b:Str):Bool:=decide (a.cps.toList<b.cps.toList)
noncomputable def xZ.str:xZ->Str->Str->Bool
 | .lt,a,b=>W_ a b|.le,a,b=>!W_ b a|.gt,a,b=>W_ b a|.ge,a,b=>!W_ a b
mutual
noncomputable def aK4 (o:xZ):D->D->Option Bool
 | .int a,.int b=>some (o.int a b)
 | .str a,.str b=>some (o.str a b)
 | .tup xs,.tup ys=>aFd o xs ys
 | _,_=>none
noncomputable def aFd (o:xZ):List D->List D->Option Bool
 | [],ys=>some (o.nat 0 ys.length)
 | x::xs,[]=>some (o.nat (x::xs).length 0)
 | x::xs,y::ys=>if eqD x y then aFd o xs ys else aK4 o x y
end
inductive Res (α:Type) where
 | ok (a:α)|err (c:Str) (as:List D)|bad
noncomputable def Res.bind {α β:Type}:Res α->(α->Res β)->Res β
 | .ok a,f=>f a
 | .err c as,_=>.err c as
 | .bad,_=>.bad
noncomputable instance:Monad Res where
 pure:=.ok
 bind:=Res.bind
@[simp] theorem Res.aK {α β:Type} (a:α) (f:α->Res β):((Res.ok a) >>= f)=f a:=rfl
@[simp] theorem Res.aHz {α β:Type} (c:Str) (as:List D) (f:α->Res β):((Res.err c as:Res α) >>= f)=.err c as:=rfl
@[simp] theorem Res.aI0 {α β:Type} (f:α->Res β):((Res.bad:Res α) >>= f)=.bad:=rfl
@[simp] theorem Res.pure_eq {α:Type} (a:α):(pure a:Res α)=.ok a:=rfl
theorem Res.aC1 {α β:Type} {m:Res α} {f:α->Res β} {b:β} (h:(m >>= f)=.ok b):∃a,m=.ok a/\f a=.ok b:=by
 cases m with
 | ok a=>exact ⟨a,rfl,h⟩
 | err c as=>cases h
 | bad=>cases h
noncomputable def Res.ofOpt {α:Type}:Option α->Res α
 | some a=>.ok a
 | none=>.bad
@[simp] theorem Res.aEc {α:Type} (a:α):Res.ofOpt (some a)=.ok a:=rfl
theorem Res.lD {α:Type} {o:Option α} {a:α} (h:Res.ofOpt o=.ok a):o=some a:=by
 cases o with
 | none=>cases h
 | some b=>cases h;rfl
def lim:Nat:=1000000
inductive Bop where|add|sub|mul|fdiv|mod|pow
 deriving DecidableEq
inductive Cop where|eq|ne|ord (o:xZ)|isin|notin|isN|notN
 deriving DecidableEq
def lN (i:Int):Bool:=decide (-(2 ^ 64)<i)&&decide (i<2 ^ 64)
noncomputable def aO:Bop->D->D->Res D
 | .add,.int a,.int b=>.ok (.int (a+b))
 | .sub,.int a,.int b=>.ok (.int (a-b))
 | .mul,.int a,.int b=>if lN a||lN b then .ok (.int (a*b)) else .bad
 | .fdiv,.int a,.int b=>if decide (0<b)&&decide (b<1073741824) then .ok (.int (a / b)) else .bad
 | .mod,.int a,.int b=>if decide (0<b) then .ok (.int (a % b)) else .bad
 | .pow,.int a,.int b=>if decide (0<=b)&&decide (b<=1000000)&&decide (a.natAbs<2 ^ 64) then .ok (.int (a ^ b.toNat)) else .bad
 | .add,.str a,.str b=>if decide (a.length+b.length<=lim) then .ok (.str (a++b)) else .bad
 | .add,.lst a,.lst b=>if decide (a.length+b.length<=lim)&&D.aW a&&D.aW b then .ok (.lst (a++b)) else .bad
 | _,_,_=>.bad
noncomputable def aIw:D->Res Bool
 | .non=>.ok false
 | .bl b=>.ok b
 | .int i=>.ok (i != 0)
 | .str x=>if decide (x.length<=lim) then .ok ((x.length:Int) != 0) else .bad
 | .tup xs=>.ok (!xs.isEmpty)
 | .lst xs=>.ok (!xs.isEmpty)
 | .dct kvs=>.ok (!kvs.isEmpty)
 | .uD=>.bad
 | .fdc _=>.bad
 | .cel _ _=>.bad
 | .exc _ _=>.bad
 | .scr xs=>.ok (!xs.isEmpty)
noncomputable def vL:D->Bool
 | .int _=>true
 | .str _=>true
 | _=>false
noncomputable def keyOk:D->Bool
 | .int _=>true
 | .str _=>true
 | .tup xs=>xs.all vL
 | _=>false
noncomputable def isTup:D->Bool
 | .tup _=>true
 | _=>false
noncomputable def dU:List (D×D)->D->Option D
 | [],_=>none
 | (k,v)::r,q=>if eqD k q then some v else dU r q
noncomputable def putD:List (D×D)->D->D->List (D×D)
 | [],q,w=>[(q,w)]
 | (k,v)::r,q,w=>if eqD k q then (k,w)::r else (k,v)::putD r q w
noncomputable def LC (kvs:List (D×D)) (k:D):Bool:=keyOk k&&kvs.all (fun p=>isTup p.1==isTup k)
def aZ:Nat:=12
noncomputable def cC:Cop->D->D->Res D
 | .eq,a,b=>if a.b8 aZ&&b.b8 aZ then .ok (.bl (eqD a b)) else .bad
 | .ne,a,b=>if a.b8 aZ&&b.b8 aZ then .ok (.bl (!eqD a b)) else .bad
 | .ord o,a,b=>if a.b8 aZ&&b.b8 aZ then (match aK4 o a b with|some k=>.ok (.bl k)|none=>.bad) else .bad
 | .isin,a,.tup ys=>if a.b8 aZ&&D.cW aZ ys then .ok (.bl (ys.any fun y=>eqD y a)) else .bad
 | .isin,a,.lst ys=>if a.b8 aZ&&D.cW aZ ys then .ok (.bl (ys.any fun y=>eqD y a)) else .bad
 | .isin,a,.dct kvs=>if LC kvs a then .ok (.bl (dU kvs a).isSome) else .bad
 | .notin,a,.tup ys=>if a.b8 aZ&&D.cW aZ ys then .ok (.bl (!(ys.any fun y=>eqD y a))) else .bad
 | .notin,a,.lst ys=>if a.b8 aZ&&D.cW aZ ys then .ok (.bl (!(ys.any fun y=>eqD y a))) else .bad
 | .notin,a,.dct kvs=>if LC kvs a then .ok (.bl (!(dU kvs a).isSome)) else .bad
 | .isN,.scr _,.non=>.bad
 | .notN,.scr _,.non=>.bad
 | .isN,.fdc _,.non=>.bad
 | .notN,.fdc _,.non=>.bad
 | .isN,.cel _ _,.non=>.bad
 | .notN,.cel _ _,.non=>.bad
 | .isN,.non,.non=>.ok (.bl true)
 | .isN,a,.non=>.ok (.bl false)
 | .notN,.non,.non=>.ok (.bl false)
 | .notN,a,.non=>.ok (.bl true)
 | _,_,_=>.bad
noncomputable def ixD (n:Nat) (i:Int):Option Nat:=if 0<=i then (if i<n then some i.toNat else none) else if -(n:Int)<=i then some (i+n).toNat else none
noncomputable def getD (d i:D):Res D:=
 match d,i with
 | .tup xs,.int i=>Res.ofOpt ((ixD xs.length i).bind fun j=>xs[j]?)
 | .lst xs,.int i=>Res.ofOpt ((ixD xs.length i).bind fun j=>xs[j]?)
 | .scr xs,.int i=>Res.ofOpt ((ixD xs.length i).bind fun j=>xs[j]?)
 | .cel _ xs,.int i=>Res.ofOpt ((ixD xs.length i).bind fun j=>xs[j]?)
 | .str x,.int i=>if decide (x.length<=lim) then Res.ofOpt (((ixD x.cps.toList.length i).bind fun j=>x.cps.toList[j]?).map fun c=>D.str ⟨#[c]⟩) else .bad
 | .dct kvs,k=>if keyOk k then Res.ofOpt (dU kvs k) else .bad
 | .fdc kvs,k=>if keyOk k then Res.ofOpt (dU kvs k) else .bad
 | _,_=>.bad
noncomputable def aA8 (n d:Nat):Option Int->Nat
 | none=>d
 | some v=>if v<0 then (max (v+(n:Int)) 0).toNat else (min v (n:Int)).toNat
noncomputable def cutD {α:Type} (xs:List α) (lo hi:Option Int):List α:=(xs.drop (aA8 xs.length 0 lo)).take (aA8 xs.length xs.length hi-aA8 xs.length 0 lo)
inductive Ty where|int|str|bool|list|tuple|dict
 deriving DecidableEq
noncomputable def QL:Ty->D->Res Bool
 | _,.uD=>.bad
 | _,.scr _=>.bad
 | _,.fdc _=>.bad
 | _,.cel _ _=>.bad
 | _,.exc _ _=>.bad
 | .int,.int _=>.ok true
 | .int,.bl _=>.ok true
 | .bool,.bl _=>.ok true
 | .str,.str _=>.ok true
 | .tuple,.tup _=>.ok true
 | .list,.lst _=>.ok true
 | .dict,.dct _=>.ok true
 | _,_=>.ok false
def nU (i:Int):Bool:=decide (-(2 ^ 62)<=i)&&decide (i<2 ^ 62)
noncomputable def asB:D->Res Bool
 | .bl b=>.ok b
 | _=>.bad
noncomputable def asI:D->Res Int
 | .int i=>.ok i
 | _=>.bad
inductive Fl where
 | nx (ρ:List D)|rt (d:D)|bk (ρ:List D)|ct (ρ:List D)
noncomputable def aL5:Fl->Res D
 | .rt d=>.ok d
 | .nx _=>.ok .non
 | _=>.bad
abbrev FE:=List D->Res D
abbrev FT:=List D->Res Bool
abbrev FA:=List D->Res (List D)
def cL (i:Nat):FE:=fun ρ=>match ρ.getD i .uD with|.uD=>.bad|d=>.ok d
def bC (d:D):FE:=fun _=>.ok d
abbrev dN:FE := cL 1
abbrev cN:FE := cL 2
abbrev gB:FE := cL 0
abbrev dH:FE := cL 3
abbrev gD:FE := cL 12
abbrev dB:FE := cL 4
abbrev gG:FE := cL 7
abbrev gF:FE := cL 6
abbrev j7:FE := cL 8
abbrev gC:FE := cL 5
abbrev jR:FE := cL 11
abbrev pM:FE := cL 9
abbrev l_:FE := cL 13
abbrev jK:FE := cL 10
abbrev x_:FE := cL 14
abbrev yC:FE := cL 19
abbrev oX:FE := cL 16
abbrev rC:FE := bC (.int 4)
abbrev eX:FE := bC (.int 1)
abbrev gK:FE := bC (.int 3)
abbrev gY:FE := bC (.int 0)
abbrev m7:FE := bC (.int 2)
abbrev yD:FE := bC (.int 12)
abbrev XF:FE := bC (.int 9)
abbrev aC2:FE := bC (.int 10)
abbrev LK:FE := bC (.int 13)
abbrev QM:FE := bC (.int 8)
abbrev BW:FE := bC (.int 60)
abbrev aFe:FE := bC (.int 5)
abbrev aI1:FE := bC (.int 7)
abbrev G6:FE := bC (.int 6)
abbrev XH:FE := bC (.int 18)
abbrev m8:FE := bC (.int 26)
abbrev aC3:FE := bC (.int 40)
abbrev aC4:FE := bC (.int 68)
abbrev G7:FE := bC (.int 120)
def b2 (f:D->D->Res D) (a b:FE):FE:=fun ρ=>do let x <- a ρ;let y <- b ρ;f x y
def b1 (f:D->Res D) (a:FE):FE:=fun ρ=>do let x <- a ρ;f x
def bTB (a:FE):FT:=fun ρ=>do let x <- a ρ;asB x
def z8 (a:FT):FT:=fun ρ=>do let x <- a ρ;pure (!x)
def z9 (a b:FT):FT:=fun ρ=>do let x <- a ρ;if x then b ρ else pure false
def bOr (a b:FT):FT:=fun ρ=>do let x <- a ρ;if x then pure true else b ρ
noncomputable def uE (a b:FE):FE:=fun ρ=>do let x <- a ρ;let k <- asB x;if k then b ρ else pure (.bl false)
noncomputable def aC5 (a b:FE):FE:=fun ρ=>do let x <- a ρ;let k <- asB x;if k then pure (.bl true) else b ρ
noncomputable def bCh (f g:D->D->Res D) (a b c:FE):FE:=fun ρ=>do let x <- a ρ;let y <- b ρ;let z <- f x y;let k <- asB z;if k then (do let u <- c ρ;g y u) else pure (.bl false)
def aP:FA:=fun _=>.ok []
def aB (a:FE) (b:FA):FA:=fun ρ=>do let x <- a ρ;let xs <- b ρ;pure (x::xs)
noncomputable def lO (a:FA):FE:=fun ρ=>do let xs <- a ρ;if decide (xs.length<=lim) then pure (.tup xs) else .bad
noncomputable def iI (a:FA):FE:=fun ρ=>do let xs <- a ρ;if decide (xs.length<=lim) then pure (.lst xs) else .bad
def aU (f:List D->Res D) (a:FA):FE:=fun ρ=>do let xs <- a ρ;f xs
noncomputable def bM (f:D->List D->Res D) (o:FE) (a:FA):FE:=fun ρ=>do let x <- o ρ;let xs <- a ρ;f x xs
noncomputable def cD (a:FE):List D->Res (Option Int):=fun ρ=>do let x <- a ρ;let i <- asI x;pure (some i)
def cP:List D->Res (Option Int):=fun _=>.ok none
noncomputable def aIx:D->Res Bool
 | .dct _=>.bad
 | .scr _=>.bad
 | .fdc _=>.bad
 | d=>aIw d
def bTr (a:FE):FT:=fun ρ=>do let x <- a ρ;aIx x
noncomputable def aI2:D->Res D
 | .int i=>.ok (.int (-i))
 | _=>.bad
noncomputable def aI3:D->Option Int->Option Int->Res D
 | .lst xs,lo,hi=>if D.aW xs then .ok (.lst (cutD xs lo hi)) else .bad
 | .scr xs,lo,hi=>if D.aW xs then .ok (.lst (cutD xs lo hi)) else .bad
 | .tup xs,lo,hi=>if !D.aW xs||decide (aA8 xs.length 0 lo=0/\aA8 xs.length xs.length hi=xs.length) then .bad else .ok (.tup (cutD xs lo hi))
 | _,_,_=>.bad
noncomputable def eY:List D->Res D
 | [.tup xs]=>.ok (.int xs.length)
 | [.lst xs]=>.ok (.int xs.length)
 | [.scr xs]=>.ok (.int xs.length)
 | [.cel _ xs]=>.ok (.int xs.length)
 | [.str x]=>if decide (x.length<=lim) then .ok (.int x.length) else .bad
 | _=>.bad
def aFf (kvs:List (D×D)):List D:=kvs.map (·.1)
noncomputable def XJ:List D->Res D
 | [.tup xs]=>if D.aW xs then .ok (.lst xs) else .bad
 | [.lst xs]=>if D.aW xs then .ok (.lst xs) else .bad
 | [.dct kvs]=>if kvs.all (fun p=>!isTup p.1) then .ok (.lst (aFf kvs)) else .bad
 | _=>.bad
noncomputable def g_:List D->Res D
 | [.tup xs]=>.ok (.tup xs)
 | [.lst xs]=>.ok (.tup xs)
 | _=>.bad
noncomputable def Ty.nm:Ty->String
 | .int => "int" | .str => "str" | .bool => "bool" | .list => "list" | .tuple => "tuple" | .dict => "dict"
def vM (t:Ty) (d:D):Res D:=do let k <- QL t d;pure (.bl k)
noncomputable def iH (n:Nat) (f:List D->Res D):List D->Res D:=fun ds=>if decide (ds.length=n) then f ds else .bad
abbrev FI:=List D->Res (List D×Bool)
noncomputable def nA:D->Res (List D)
 | .lst xs=>.ok xs
 | .tup xs=>.ok xs
 | _=>.bad
noncomputable def jL:List D->Res (List D×Bool)
 | [.int n]=>if nU n then .ok ((List.range n.toNat).map fun (k:Nat)=>D.int (0+(k:Int)),true) else .bad
 | _=>.bad
noncomputable def lX (f:FA) (g:List D->Res (List D×Bool)):FI:=fun ρ=>do let xs <- f ρ;g xs
def G8 (n:Nat) (ρ:List D):List D:=(List.range n).map fun i=>ρ.getD i .uD
def oM:D->Res (List D):=fun d=>.ok [d]
noncomputable def rW (n:Nat) (t:D->Res (List D)) (c:FT) (f:FE) (k:Bool) (ρ:List D) (acc:List D) (x:D):Res (List D):=do
 let bs <- t x
 let ok <- c (G8 n ρ++bs)
 if ok then (do
  let y <- f (G8 n ρ++bs)
  if k||y.pure then pure (acc++[y]) else .bad)
 else pure acc
noncomputable def jE (g:List D->D->Res (List D)):List D->List D->Res (List D)
 | acc,[]=>.ok acc
 | acc,x::xs=>do let a <- g acc x;jE g a xs
noncomputable def e_ (n:Nat) (it:FI) (t:D->Res (List D)) (c:FT) (f:FE) (k:Bool):FE:=fun ρ=>do
 let xs <- it ρ
 if decide (xs.1.length<=lim) then (do
  let ys <- jE (rW n t c f k ρ) [] xs.1
  pure (.lst ys)) else .bad
def h_:FT:=fun _=>.ok true
abbrev FS:=List D->Res Fl
noncomputable def D.G9:D->Bool
 | .cel _ _=>false
 | _=>true
noncomputable def inner:D->Bool
 | .lst xs=>D.aW xs
 | .dct kvs=>D.aW (kvs.map (·.2))
 | .cel _ xs=>D.aW xs
 | _=>false
def fH:FS:=fun ρ=>.ok (.nx ρ)
noncomputable def aQ (f g:FS):FS:=fun ρ=>do
 let r <- f ρ
 match r with
 | .nx ρ'=>g ρ'
 | r=>.ok r
noncomputable def bD (o:Bool) (i:Nat) (f:FE) (k:Bool):FS:=fun ρ=>do
 let d <- f ρ
 if (if o then k&&inner d else k||d.pure) then .ok (.nx (ρ.set i d)) else .bad
noncomputable def sAl (i j:Nat):FS:=fun ρ=>do
 let d <- cL j ρ
 .ok (.nx (ρ.set i d))
noncomputable def sIf (c:FT) (f g:FS):FS:=fun ρ=>do
 let k <- c ρ
 if k then f ρ else g ρ
noncomputable def j8 (f:FE) (k:Bool):FS:=fun ρ=>do
 let d <- f ρ
 if k||d.pure then .ok (.rt d) else .bad
noncomputable def aFg (i:Nat):FS:=fun ρ=>do
 let d <- cL i ρ
 .ok (.rt d)
def rtX:Nat:=1000000
noncomputable def BX (f:FE) (k:Bool):FS:=fun ρ=>do
 let d <- f ρ
 if k||d.pure then .ok (.rt (.tup (d::ρ))) else .bad
noncomputable def yE (i:Nat):FS:=fun ρ=>do
 let d <- cL i ρ
 if d.G9 then .ok (.rt (.tup (d::ρ))) else .bad
noncomputable def pN (f:FE):FS:=fun ρ=>do
 let _ <- f ρ
 .ok (.nx ρ)
noncomputable def uF (i:Nat) (f:FE):FS:=fun ρ=>do
 let d <- f ρ
 match ρ.getD i .uD with
 | .lst xs=>if decide (xs.length<lim)&&d.pure then .ok (.nx (ρ.set i (.lst (xs++[d])))) else .bad
 | _=>.bad
noncomputable def aFh (i:Nat) (f:FE) (g:FE):FS:=fun ρ=>do
 let j <- f ρ
 let d <- g ρ
 match ρ.getD i .uD,j with
 | .lst xs,.int j=>if decide (xs.length<lim)&&d.pure&&decide (0<=j)&&decide (j<=xs.length) then .ok (.nx (ρ.set i (.lst (xs.take j.toNat++d::xs.drop j.toNat)))) else .bad
 | _,_=>.bad
noncomputable def aC6 (i:Nat) (f:FE) (g:FE):FS:=fun ρ=>do
 let d <- g ρ
 let k <- f ρ
 match ρ.getD i .uD with
 | .dct kvs=>if decide (kvs.length<lim)&&LC kvs k&&d.pure then .ok (.nx (ρ.set i (.dct (putD kvs k d)))) else .bad
 | _=>.bad
def tg1 (i:Nat):D->List D->Res (List D):=fun d ρ=>.ok (ρ.set i d)
noncomputable def vN:List Nat->List D->List D->List D
 | i::is,d::ds,ρ=>vN is ds (ρ.set i d)
 | _,_,ρ=>ρ
noncomputable def tgN (is:List Nat):D->List D->Res (List D)
 | .tup ds,ρ=>if decide (ds.length=is.length) then .ok (vN is ds ρ) else .bad
 | _,_=>.bad
noncomputable def nC (t:D->List D->Res (List D)) (body:FS):List D->List D->Res Fl
 | [],ρ=>.ok (.nx ρ)
 | x::xs,ρ=>do
  let ρ1 <- t x ρ
  let r <- body ρ1
  match r with
  | .nx ρ'=>nC t body xs ρ'
  | .ct ρ'=>nC t body xs ρ'
  | .bk ρ'=>.ok (.nx ρ')
  | .rt d=>.ok (.rt d)
noncomputable def QR (it:FI) (t:D->List D->Res (List D)) (body:FS):FS:=fun ρ=>do
 let xs <- it ρ
 if xs.2 then nC t body xs.1 ρ else .bad
noncomputable def mD (i:Nat) (t:D->List D->Res (List D)) (body:FS):FS:=fun ρ=>do
 let d <- cL i ρ
 let xs <- nA d
 nC t body xs ρ
noncomputable def fnS (n m:Nat) (f:FS):List D->Res D:=fun ds=>do
 let r <- f (ds++List.replicate (m-n) .uD)
 aL5 r
end Mi
end
section
namespace Mi
open PySem L2
class KFrag where
 K:PySem.W.Frag
variable [KFrag]
noncomputable def aC7 (H:Hp) (a:Addr) (xs:List V):Prop:=(∃o,H a=some (.frz o (.lst xs)))\/
 ∃(o:Obj) (its:Array Value) (n:Nat),KFrag.K.lookup a=some o/\o.cls=.type "list"/\o.dict=none/\o.data=.seq its n/\its.size<=sizeLine/\Vals xs its.toList
theorem aC7.sq {H:Hp} {a:Addr} {xs:List V} {K:PySem.W.Frag} (h:aC7 H a xs) (hK:KFrag.K=K):SqL K H a xs:=by
 subst hK;rcases h with ⟨o,h⟩|h
 ·exact .inl (.inr ⟨o,h⟩)
 ·exact .inr h
noncomputable def kD:Key->D
 | .inl i=>.int i
 | .inr x=>.str x
noncomputable def LQ:HO->Bool
 | .lst _=>true
 | .dK _=>true
 | .dT _=>true
 | _=>false
noncomputable def XO (a C:Addr) (dx:Option Addr) (h:Heap):Prop:=∃o,h.get? a=some o/\o.cls=.ref C/\o.dict=dx/\∃vs,o.data=.fields vs
noncomputable def XD (dx:Addr) (fs:List (Str×Str)) (h:Heap):Prop:=∃mA,h.Ns1 dx mA/\PySem.Within mA (fs.map (·.1))/\∀f,match fs.lookup f with
 | some t=>∃tk,mA f=some (.str t tk)
 | none=>mA f=none
noncomputable def XDs (H:Hp) (fs:List (Str×Str)):Option Addr->Prop
 | none=>fs=[]
 | some d=>H d=some (.ext (XD d fs))
mutual
inductive Rep (P:Addr->Prop) (H:Hp):V->D->Prop
 | non:Rep P H .non .non
 | bl (b:Bool):Rep P H (.bl b) (.bl b)
 | int (i:Int):Rep P H (.int i) (.int i)
 | str (x:Str):Rep P H (.str x) (.str x)
 | tup {a:Addr} {xs:List V} {ds:List D}:H a=some (.tup xs)->bR P H xs ds->Rep P H (.ref a) (.tup ds)
 | lst {a:Addr} {xs:List V} {ds:List D}:H a=some (.lst xs)->P a->bR P H xs ds->Rep P H (.ref a) (.lst ds)
 | cel {a:Addr} {xs:List V} {ds:List D}:H a=some (.lst xs)->P a->bR P H xs ds->Rep P H (.ref a) (.cel a ds)
 | frz {a:Addr} {xs:List V} {ds:List D}:aC7 H a xs->bR P H xs ds->Rep P H (.ref a) (.scr ds)
 | dK {a:Addr} {kvs:List (Key×V)} {ds:List (D×D)}:H a=some (.dK kvs)->P a->oY P H kvs ds->(kvs.map (·.1)).Nodup->Rep P H (.ref a) (.dct ds)
 | dT {a:Addr} {kvs:List (List Key×V)} {ds:List (D×D)}:H a=some (.dT kvs)->P a->pO P H kvs ds->(kvs.map (·.1)).Nodup->Rep P H (.ref a) (.dct ds)
 | fdK {a:Addr} {o:Obj} {kvs:List (Key×V)} {ds:List (D×D)}:H a=some (.frz o (.dK kvs))->oY P H kvs ds->(kvs.map (·.1)).Nodup->Rep P H (.ref a) (.fdc ds)
 | fdT {a:Addr} {o:Obj} {kvs:List (List Key×V)} {ds:List (D×D)}:H a=some (.frz o (.dT kvs))->pO P H kvs ds->(kvs.map (·.1)).Nodup->Rep P H (.ref a) (.fdc ds)
 | exc {a C:Addr} {dx:Option Addr} {c:Str} {fs:List (Str×Str)}:PySem.W.nsIn KFrag.K mainGlobals c=some (some (.ref C))->H a=some (.ext (XO a C dx))->XDs H fs dx->Rep P H (.ref a) (.exc c fs)
inductive bR (P:Addr->Prop) (H:Hp):List V->List D->Prop
 | nil:bR P H [] []
 | cons {v:V} {d:D} {vs:List V} {ds:List D}:Rep P H v d->bR P H vs ds->bR P H (v::vs) (d::ds)
inductive oY (P:Addr->Prop) (H:Hp):List (Key×V)->List (D×D)->Prop
 | nil:oY P H [] []
 | cons {k:Key} {v:V} {d:D} {r:List (Key×V)} {ds:List (D×D)}:Rep P H v d->oY P H r ds->oY P H ((k,v)::r) ((kD k,d)::ds)
inductive pO (P:Addr->Prop) (H:Hp):List (List Key×V)->List (D×D)->Prop
 | nil:pO P H [] []
 | cons {k:List Key} {v:V} {d:D} {r:List (List Key×V)} {ds:List (D×D)}:Rep P H v d->pO P H r ds->pO P H ((k,v)::r) ((.tup (k.map kD),d)::ds)
end
noncomputable def WK (P:Addr->Prop) (H H':Hp):Prop:=∀a o,H a=some o->(P a\/LQ o=false)->H' a=some o
theorem WK.same {P:Addr->Prop} {H H':Hp} (h:cJ H H'):WK P H H':=fun a o e _=>h a o e
mutual
theorem Rep.keep {P P':Addr->Prop} {H H':Hp} (k:WK P H H') (m:∀a,P a->P' a):∀{v:V} {d:D},Rep P H v d->Rep P' H' v d
 | _,_,.non=>.non
 | _,_,.bl b=>.bl b
 | _,_,.int i=>.int i
 | _,_,.str x=>.str x
 | _,_,.tup e r=>.tup (k _ _ e (.inr rfl)) (bR.keep k m r)
 | _,_,.lst e p r=>.lst (k _ _ e (.inl p)) (m _ p) (bR.keep k m r)
 | _,_,.cel e p r=>.cel (k _ _ e (.inl p)) (m _ p) (bR.keep k m r)
 | _,_,.frz e r=>.frz (e.imp (fun ⟨o,e⟩=>⟨o,k _ _ e (.inr rfl)⟩) id) (bR.keep k m r)
 | _,_,.dK e p r n=>.dK (k _ _ e (.inl p)) (m _ p) (oY.keep k m r) n
 | _,_,.dT e p r n=>.dT (k _ _ e (.inl p)) (m _ p) (pO.keep k m r) n
 | _,_,.fdK e r n=>.fdK (k _ _ e (.inr rfl)) (oY.keep k m r) n
 | _,_,.fdT e r n=>.fdT (k _ _ e (.inr rfl)) (pO.keep k m r) n
 | _,_,.exc (dx:=dx) n e q=>.exc n (k _ _ e (.inr rfl)) (match dx,q with|none,q=>q|some _,q=>k _ _ q (.inr rfl))
theorem bR.keep {P P':Addr->Prop} {H H':Hp} (k:WK P H H') (m:∀a,P a->P' a):∀{v:List V} {d:List D},bR P H v d->bR P' H' v d
 | _,_,.nil=>.nil
 | _,_,.cons r t=>.cons (Rep.keep k m r) (bR.keep k m t)
theorem oY.keep {P P':Addr->Prop} {H H':Hp} (k:WK P H H') (m:∀a,P a->P' a):∀{v:List (Key×V)} {d:List (D×D)},oY P H v d->oY P' H' v d
 | _,_,.nil=>.nil
 | _,_,.cons r t=>.cons (Rep.keep k m r) (oY.keep k m t)
theorem pO.keep {P P':Addr->Prop} {H H':Hp} (k:WK P H H') (m:∀a,P a->P' a):∀{v:List (List Key×V)} {d:List (D×D)},pO P H v d->pO P' H' v d
 | _,_,.nil=>.nil
 | _,_,.cons r t=>.cons (Rep.keep k m r) (pO.keep k m t)
end
theorem Rep.mono {P P':Addr->Prop} {H:Hp} {v:V} {d:D} (r:Rep P H v d) (m:∀a,P a->P' a):Rep P' H v d:=r.keep (fun _ _ e _=>e) m
theorem bR.mono {P P':Addr->Prop} {H:Hp} {v:List V} {d:List D} (r:bR P H v d) (m:∀a,P a->P' a):bR P' H v d:=r.keep (fun _ _ e _=>e) m
theorem Rep.same {P:Addr->Prop} {H H':Hp} {v:V} {d:D} (r:Rep P H v d) (s:cJ H H'):Rep P H' v d:=r.keep (.same s) fun _ h=>h
theorem bR.same {P:Addr->Prop} {H H':Hp} {v:List V} {d:List D} (r:bR P H v d) (s:cJ H H'):bR P H' v d:=r.keep (.same s) fun _ h=>h
mutual
theorem Rep.bL {P P':Addr->Prop} {H:Hp}:∀{v:V} {d:D},Rep P H v d->d.pure=true->Rep P' H v d
 | _,_,.non,_=>.non
 | _,_,.bl b,_=>.bl b
 | _,_,.int i,_=>.int i
 | _,_,.str x,_=>.str x
 | _,_,.tup e r,h=>.tup e (bR.bL r (by rw [D.pure] at h;exact h))
 | _,_,.lst _ _ _,h=>by rw [D.pure] at h;cases h
 | _,_,.cel _ _ _,h=>by rw [D.pure] at h;cases h
 | _,_,.frz e r,h=>.frz e (bR.bL r (by rw [D.pure] at h;exact h))
 | _,_,.dK _ _ _ _,h=>by rw [D.pure] at h;cases h
 | _,_,.dT _ _ _ _,h=>by rw [D.pure] at h;cases h
 | _,_,.fdK _ _ _,h=>by rw [D.pure] at h;cases h
 | _,_,.fdT _ _ _,h=>by rw [D.pure] at h;cases h
 | _,_,.exc _ _ _,h=>by rw [D.pure] at h;cases h
theorem bR.bL {P P':Addr->Prop} {H:Hp}:∀{v:List V} {d:List D},bR P H v d->D.aW d=true->bR P' H v d
 | _,_,.nil,_=>.nil
 | _,_,.cons r t,h=>by
  rw [D.aW,Bool.and_eq_true] at h;exact .cons (Rep.bL r h.1) (bR.bL t h.2)
end
theorem bR.length {P:Addr->Prop} {H:Hp}:∀{v:List V} {d:List D},bR P H v d->v.length=d.length
 | _,_,.nil=>rfl
 | _,_,.cons _ t=>by rw [List.length_cons,List.length_cons,bR.length t]
theorem bR.get {P:Addr->Prop} {H:Hp}:∀{vs:List V} {ds:List D} {i:Nat} {d:D},bR P H vs ds->ds[i]?=some d->∃v,vs[i]?=some v/\Rep P H v d
 | _,_,_,_,.nil,e=>by simp at e
 | _,_,0,_,.cons r _,e=>by simp at e;subst e;exact ⟨_,rfl,r⟩
 | _,_,i+1,d,.cons _ t,e=>by
  obtain ⟨v,h1,h2⟩:=bR.get (i:=i) (d:=d) t (by simpa using e);exact ⟨v,by simpa using h1,h2⟩
theorem bR.at {P:Addr->Prop} {H:Hp}:∀{vs:List V} {ds:List D} {i:Nat} {v:V},bR P H vs ds->vs[i]?=some v->∃d,ds[i]?=some d/\Rep P H v d
 | _,_,_,_,.nil,e=>by simp at e
 | _,_,0,_,.cons r _,e=>by simp at e;subst e;exact ⟨_,rfl,r⟩
 | _,_,i+1,d,.cons _ t,e=>by
  obtain ⟨v,h1,h2⟩:=bR.at (i:=i) (v:=d) t (by simpa using e);exact ⟨v,by simpa using h1,h2⟩
theorem bR.append {P:Addr->Prop} {H:Hp}:∀{vs ws:List V} {ds es:List D},bR P H vs ds->bR P H ws es->bR P H (vs++ws) (ds++es)
 | _,_,_,_,.nil,s=>s
 | _,_,_,_,.cons r t,s=>.cons r (bR.append t s)
theorem bR.take {P:Addr->Prop} {H:Hp}:∀{vs:List V} {ds:List D} (n:Nat),bR P H vs ds->bR P H (vs.take n) (ds.take n)
 | _,_,0,_=>.nil
 | _,_,_+1,.nil=>.nil
 | _,_,n+1,.cons r t=>.cons r (bR.take n t)
theorem bR.drop {P:Addr->Prop} {H:Hp}:∀{vs:List V} {ds:List D} (n:Nat),bR P H vs ds->bR P H (vs.drop n) (ds.drop n)
 | _,_,0,r=>r
 | _,_,_+1,.nil=>.nil
 | _,_,n+1,.cons _ t=>bR.drop n t
theorem bR.set {P:Addr->Prop} {H:Hp} {v:V} {d:D} (r:Rep P H v d):∀{vs:List V} {ds:List D} (n:Nat),bR P H vs ds->bR P H (vs.set n v) (ds.set n d)
 | _,_,_,.nil=>.nil
 | _,_,0,.cons _ t=>.cons r t
 | _,_,n+1,.cons q t=>.cons q (bR.set r n t)
theorem bR.snoc {P:Addr->Prop} {H:Hp} {vs:List V} {ds:List D} {v:V} {d:D} (t:bR P H vs ds) (r:Rep P H v d):bR P H (vs++[v]) (ds++[d]):=t.append (.cons r .nil)
theorem Rep.uD {P:Addr->Prop} {H:Hp} {v:V}:¬Rep P H v .uD:=fun h=>by cases h
abbrev All:Addr->Prop:=fun _=>True
abbrev New (H:Hp):Addr->Prop:=fun a=>H a=none
theorem Rep.all {P:Addr->Prop} {H:Hp} {v:V} {d:D} (r:Rep P H v d):Rep All H v d:=r.mono fun _ _=>trivial
theorem bR.all {P:Addr->Prop} {H:Hp} {v:List V} {d:List D} (r:bR P H v d):bR All H v d:=r.mono fun _ _=>trivial
theorem cJ.new {H H':Hp} (s:cJ H H'):∀a,New H' a->New H a:=fun a h=>s.free h
theorem cJ.upd {H:Hp} {a:Addr} {o:HO} (h:H a=none):cJ H (upd H a o):=fun b u e=>by rw [bB (b_ e h)];exact e
noncomputable def ER (H:Hp) (σ:St) (ρ:List D):Prop:=∀i,ρ.getD i .uD≠.uD->∃v,σ[i]?=some (some v)/\Rep All H v (ρ.getD i .uD)
theorem ER.same {H H':Hp} {σ:St} {ρ:List D} (e:ER H σ ρ) (s:cJ H H'):ER H' σ ρ:=fun i h=>by
 obtain ⟨v,h1,h2⟩:=e i h;exact ⟨v,h1,h2.same s⟩
section
variable (cf:Nat->List D->Res D) (ff:Nat->Bool)
end
theorem PE.imp {X:Cx} {e:PySem.Expr} {t t':TE} (h:PE X e t) (i:∀σ H Q,t' σ H Q->t σ H Q):PE X e t':=fun pins s σ H Q I q=>h pins s σ H Q I (i σ H Q q)
theorem PT.imp {X:Cx} {e:PySem.Expr} {t t':TT} (h:PT X e t) (i:∀σ H Q,t' σ H Q->t σ H Q):PT X e t':=fun pins s σ H Q I q=>h pins s σ H Q I (i σ H Q q)
theorem PA.imp {X:Cx} {e:List PySem.Expr} {t t':TA} (h:PA X e t) (i:∀σ H Q,t' σ H Q->t σ H Q):PA X e t':=fun pos pins s σ H Q I q=>h pos pins s σ H Q I (i σ H Q q)
end Mi
end
section
namespace L2
open PySem PySem.Spec PyProof.Rows
noncomputable def j9 (own:List Str) (x:Str):Str:=if own.contains x then x++(" " : Str) else x
noncomputable def clF (env:Env):List (Str×NameKind)->List (Str×Addr)->List (Str×Addr)
 | [],acc=>acc
 | (n,k)::r,acc=>clF env r (if k==.free then (n,(env.cells.lookup n).getD 0)::acc else acc)
theorem pP {env:Env}:∀(names:List (Str×NameKind)) (acc:List (Str×Addr)),(∀y∈names,y.2=.free->∃c,env.cells.lookup y.1=some c)->
  (forIn names acc fun x cs=>(match x with
   | (name,kind)=>if (kind==.free)=true then cellOf env name >>= fun c=>pure (ForInStep.yield ((name,c)::cs)) else pure (ForInStep.yield cs):Sem (ForInStep (List (Str×Addr)))))=(pure (clF env names acc):Sem _)
 | [],acc,_=>by rw [List.forIn_nil];rfl
 | (n,k)::r,acc,h=>by
  rw [List.forIn_cons];by_cases hk:(k==.free)=true
  ·have hk':k=.free:=by simpa using hk
   obtain ⟨c,e⟩:=h (n,k) (List.mem_cons_self ..) hk';have e':cellOf env n=pure c:=by
    unfold cellOf;have e2:env.cells.lookup n=some c:=e;rw [e2]
   dsimp only;rw [if_pos hk,e',pure_bind,pure_bind];dsimp only;rw [pP r _ fun y hy=>h y (List.mem_cons_of_mem _ hy)];have e2:env.cells.lookup n=some c:=e;simp only [clF,hk,if_true,e2,Option.getD_some]
  ·dsimp only;rw [if_neg hk,pure_bind];dsimp only;rw [pP r _ fun y hy=>h y (List.mem_cons_of_mem _ hy)];simp only [clF,hk,Bool.false_eq_true,if_false]
theorem LR {env:Env} {scope:Scope} (h:∀y∈scope.names,y.2=.free->∃c,env.cells.lookup y.1=some c):closureFor scope env=pure (clF env scope.names []):=by
 unfold closureFor;have:=pP (env:=env) scope.names [] h;simp only [bind_pure] at *;exact this
theorem BZ {env:Env}:∀{names:List (Str×NameKind)} {acc:List (Str×Addr)} {x:Str} {c:Addr},(∀y∈names,y.2=.free->∃c,env.cells.lookup y.1=some c)->(∀x c,acc.lookup x=some c->env.cells.lookup x=some c)->
  (clF env names acc).lookup x=some c->env.cells.lookup x=some c
 | [],acc,x,c,_,h,e=>h x c e
 | (n,k)::r,acc,x,c,q,h,e=>by
  unfold clF at e;refine BZ (fun y hy=>q y (List.mem_cons_of_mem _ hy)) (fun y d hy=>?_) e;by_cases hk:(k==.free)=true
  ·rw [if_pos hk,List.lookup_cons] at hy;obtain ⟨c',e'⟩:=q (n,k) (List.mem_cons_self ..) (by simpa using hk);have e2:env.cells.lookup n=some c':=e';cases hyn:y==n with
   | true=>
    rw [hyn] at hy;have:y=n:=by simpa using hyn
    subst this;rw [e2] at hy;simp only [Option.getD_some] at hy;rw [e2];exact hy
   | false=>rw [hyn] at hy;exact h y d hy
  ·rw [if_neg hk] at hy;exact h y d hy
theorem QS {env:Env}:∀{names:List (Str×NameKind)} {acc:List (Str×Addr)} {x:Str},(∃c,acc.lookup x=some c)->∃c,(clF env names acc).lookup x=some c
 | [],_,_,h=>h
 | (n,k)::r,acc,x,⟨c,h⟩=>by
  unfold clF;refine QS ?_;by_cases hk:(k==.free)=true
  ·rw [if_pos hk,List.lookup_cons];cases x==n with
   | true=>exact ⟨_,rfl⟩
   | false=>exact ⟨c,h⟩
  ·rw [if_neg hk];exact ⟨c,h⟩
theorem B_ {env:Env}:∀{names:List (Str×NameKind)} {acc:List (Str×Addr)} {x:Str},(x,NameKind.free)∈names->∃c,(clF env names acc).lookup x=some c
 | (n,k)::r,acc,x,h=>by
  unfold clF;rcases List.mem_cons.mp h with e|h
  ·cases e;refine QS ?_;rw [if_pos (by decide),List.lookup_cons];simp
  ·exact B_ h
structure eE (N:List Str) (sc scope:Scope) (own:List Str):Prop where
 kind:scope.kind=.function
 nocell:∀y∈scope.names,y.2≠.cell
 names:∀y∈scope.names,y.2=.local->scope.names.lookup y.1=some .local
 free:∀y∈scope.names,y.2=.free->sc.names.lookup y.1=some .cell\/sc.names.lookup y.1=some .free
 ownl:∀x∈own,scope.names.lookup x=some .local
 hid:∀x∈own,scope.names.lookup (x++(" " : Str))=none
 loc:∀y∈scope.names,y.2=.local->y.1∈own\/y.1∉N
structure eN (X X':Cx) (scope:Scope) (own:List Str):Prop where
 prog:X'.prog=X.prog
 w:X'.w=X.w
 K:X'.K=X.K
 mg:X'.mg=X.mg
 base:X'.base=X.base
 A:X'.A=X.A
 N:X'.N=X.N.map (j9 own)++own
 scope:X'.env.scope=relabel scope X.env
 calm:X'.calm=X.calm
 xe:X'.xe=fun _ _=>False
noncomputable def G_ (X:Cx) (scope:Scope) (cl:List (Str×Addr)) (C:Addr) (own:List Str) (s₂:Shared) (H₂:Hp) (fp:List Addr):Cx:=
 {X with N:=X.N.map (j9 own)++own,s₀:=s₂,H₀:=H₂,env:=compEnvC scope cl C X.env,outer:=X.stack,stack:=X.stack,ex:=fp,fn:=fun _=>false,pn:=[],xe:=fun _ _=>False}
theorem QT {X:Cx} {scope:Scope} {cl:List (Str×Addr)} {C:Addr} {own:List Str} {s₂:Shared} {H₂:Hp} {fp:List Addr}:eN X (G_ X scope cl C own s₂ H₂ fp) scope own:=
 ⟨rfl,rfl,rfl,rfl,rfl,rfl,rfl,rfl,rfl,rfl⟩
noncomputable def Ext (σ σ2:St):Prop:=σ2.length=σ.length/\∀(i:Nat) v,σ[i]?=some (some v)->σ2[i]?=some (some v)
noncomputable def L_ (wi:TI) (g:TG) (tc:TT) (te:TE) (m:Nat):TE:=fun σ H Q=>wi σ H fun J H1=>∀p,H1 p=none->
 ∃W:Nat->Nat->List V->Hp->Prop,(∃n,W 0 n [] (upd H1 p (.lst [])))/\∀i n ys H,W i n ys H->H p=some (.lst ys)/\((J.stop i H/\Q (.ref p) H)\/(J.go i H/\ys.length<sizeLine/\
  ∀x H2,J.yld i H x H2->g x (σ++List.replicate m none) H2 fun σ2 H3=>Ext (σ++List.replicate m none) σ2/\tc σ2 H3 fun b H4=>if b=true then te σ2 H4 fun y H5=>H5 p=some (.lst ys)/\∃n',n'<n/\W (i+1) n' (ys++[y]) (upd H5 p (.lst (ys++[y])))
   else ∃n',n'<n/\W (i+1) n' ys H4))
section
variable {X:Cx} {scope:Scope} {own:List Str}
theorem Inv.comp {pins:List (Addr×Obj)} {σ:St} {H2:Hp} {s2:Shared} {fp:List Addr} {h1:Heap} {t1:Nat} (I:Inv X pins σ H2 s2) (S:eE X.N X.env.scope scope own) (hf:∀b∈fp,O5 X pins H2 b)
  (hfx:∀b∈fp,b<s2.heap.objs.size) (hns:h1.Ns (s2.heap.objs.size+1) (fun _=>none))
  (hk:∀b o,s2.heap.get? b=some o->h1.get? b=some o) (hacc:h1.get? s2.heap.objs.size=some {cls:=.type "list",data:=.seq #[]}) :
  Inv (G_ X scope (clF X.env scope.names []) (s2.heap.objs.size+1) own s2 H2 fp) [] (σ++List.replicate own.length none) (upd H2 s2.heap.objs.size (.lst [])) {s2 with heap:=h1,toks:=t1}:=by
 have hD:H2 s2.heap.objs.size=none:=I.hok.fresh (Nat.le_refl _);have hC:H2 (s2.heap.objs.size+1)=none:=I.hok.fresh (Nat.le_succ _);have cells:∀y∈scope.names,y.2=.free->∃c,X.env.cells.lookup y.1=some c:=fun y hy hk=>I.ok.has y.1 (S.free y hy hk)
 have sub:∀x c,(clF X.env scope.names []).lookup x=some c->X.env.cells.lookup x=some c:=fun x c e=>BZ cells (fun _ _ h=>by simp at h) e
 have relk:∀x,(relabel scope X.env).names.lookup x=some .cell\/(relabel scope X.env).names.lookup x=some .free->(x,NameKind.free)∈scope.names:=by
  intro x hx;have go:∀(l:List (Str×NameKind)),(∀y∈l,y.2≠.cell)->((l.map fun (n,k)=>if (k==NameKind.free&&X.env.scope.kind==.function&&X.env.kindOf n==some .cell) then (n,NameKind.cell) else (n,k)).lookup x=some .cell\/(l.map fun (n,k)=>if (k==NameKind.free&&X.env.scope.kind==.function&&X.env.kindOf n==some .cell) then (n,NameKind.cell) else (n,k)).lookup x=some .free)->(x,NameKind.free)∈l:=by
   intro l;induction l with
   | nil=>intro _ h;rcases h with h|h <;> simp at h
   | cons p l ih=>
    obtain ⟨n,k⟩:=p;intro nc h;rw [List.map_cons] at h;dsimp only at h;by_cases hc:(k==NameKind.free&&X.env.scope.kind==.function&&X.env.kindOf n==some .cell)=true
    ·rw [if_pos hc] at h;rw [List.lookup_cons] at h;cases e:x==n with
     | true=>
      have:x=n:=by simpa using e
      subst this;simp only [Bool.and_eq_true] at hc;have:k=.free:=by simpa using hc.1.1
      subst this;exact List.mem_cons_self ..
     | false=>
      rw [e] at h;exact List.mem_cons_of_mem _ (ih (fun y hy=>nc y (List.mem_cons_of_mem _ hy)) h)
    ·rw [if_neg hc] at h;rw [List.lookup_cons] at h;cases e:x==n with
     | true=>
      have:x=n:=by simpa using e
      subst this;rw [e] at h;dsimp only at h;rcases h with h|h
      ·exact absurd (Option.some.inj h) (nc (x,k) (List.mem_cons_self ..))
      ·have:=Option.some.inj h;subst this;exact List.mem_cons_self ..
     | false=>
      rw [e] at h;exact List.mem_cons_of_mem _ (ih (fun y hy=>nc y (List.mem_cons_of_mem _ hy)) h)
  exact go scope.names S.nocell hx
 have hne:s2.heap.objs.size≠s2.heap.objs.size+1:=Nat.ne_of_lt (Nat.lt_succ_self _);have hlt:∀b o,s2.heap.get? b=some o->b<s2.heap.objs.size:=fun b o e=>Heap.lt_size e
 have hstk:∀b∈frs X.stack,b<s2.heap.objs.size:=fun b hb=>by
  obtain ⟨_,o,ho,_⟩:=I.stack.mem hb;exact hlt b o ho
 refine ⟨⟨I.mod,?_,I.ok.glob,I.ok.blt,Nat.le_succ _,fun x y c e1 e2=>I.ok.inj x y c (sub x c e1) (sub y c e2),fun x hx=>?_,fun _ _ h=>(by cases h),I.ok.hd,I.ok.frames,.inl rfl,fun b hb=>?_,fun b o e=>I.bs b o e,?_,fun b o e hb=>?_,fun b hb hz=>?_,I.stack,I.vI⟩,
  rfl,I.bare,Un.laid hk (Nat.le_refl _) hD,?_,fun x c e=>?_,?_,fun x c e=>?_,fun p hp=>(by simp [G_] at hp),?_,?_⟩
 ·exact S.kind
 ·have hx':(relabel scope X.env).names.lookup x=some .cell\/(relabel scope X.env).names.lookup x=some .free:=hx;exact B_ (relk x hx')
 ·refine ⟨Nat.ne_of_lt (Nat.lt_succ_of_lt (hfx b hb)),fun x c e z=>?_⟩;exact (hf b hb).2.2.2.2.1 x c (sub x c e) z
 ·exact Nat.le_trans I.ok.bsz I.sz
 ·rcases (hf b hb).2.2.2.1 with z|z
  ·exact I.ok.noex b o e z
  ·exact absurd (Nat.lt_of_lt_of_le (Heap.lt_size e) (Nat.le_trans I.ok.bsz z)) (Nat.lt_irrefl _)
 ·rcases List.mem_cons.mp (I.GX b hz) with z'|z'
  ·exact (hf b hb).2.1 z'
  ·exact (hf b hb).2.2.1 z'
 ·refine ⟨_,hns,fun i x v e1 e2 e3=>?_⟩;have hi:i<σ.length:=by
   rcases Nat.lt_or_ge i σ.length with h|h
   ·exact h
   ·rw [List.getElem?_append_right h,List.getElem?_replicate] at e2;split at e2 <;> cases e2
  rw [List.getElem?_append_left hi] at e2;have hiN:i<X.N.length:=by rw [<-I.len];exact hi
  have e1':(X.N.map (j9 own))[i]?=some x:=by
   have:(X.N.map (j9 own)++own)[i]?=some x:=e1;rwa [List.getElem?_append_left (by rw [List.length_map];exact hiN)] at this
  rw [List.getElem?_map] at e1';obtain ⟨y,hy,ey⟩:=Option.map_eq_some_iff.mp e1';have hyN:y∈X.N:=List.mem_of_getElem? hy;have e3':(relabel scope X.env).names.lookup x=some .local\/(relabel scope X.env).names.lookup x=some .cell\/(relabel scope X.env).names.lookup x=some .free:=e3;have keys:∀z k,(relabel scope X.env).names.lookup z=some k->∃k',scope.names.lookup z=some k'/\(k=.local->k'=.local):=by
   intro z k;show (scope.names.map fun (n,k)=>if (k==NameKind.free&&X.env.scope.kind==.function&&X.env.kindOf n==some .cell) then (n,NameKind.cell) else (n,k)).lookup z=some k->_;generalize scope.names=l;induction l with
   | nil=>intro h;simp at h
   | cons p l ih=>
    obtain ⟨n,k0⟩:=p;intro h;rw [List.map_cons] at h;dsimp only at h;by_cases hc:(k0==NameKind.free&&X.env.scope.kind==.function&&X.env.kindOf n==some .cell)=true
    ·rw [if_pos hc,List.lookup_cons] at h;rw [List.lookup_cons];cases e:z==n with
     | true=>
      rw [e] at h;dsimp only at h;cases h;exact ⟨k0,rfl,fun q=>by cases q⟩
     | false=>rw [e] at h;exact ih h
    ·rw [if_neg hc,List.lookup_cons] at h;rw [List.lookup_cons];cases e:z==n with
     | true=>
      rw [e] at h;dsimp only at h;cases h;exact ⟨_,rfl,fun q=>q⟩
     | false=>rw [e] at h;exact ih h
  by_cases hown:own.contains y=true
  ·exfalso;have ex:x=y++(" " : Str):=by rw [<-ey];unfold j9;rw [if_pos hown]
   have hn:=S.hid y (by simpa using hown);rw [<-ex] at hn;rcases e3' with q|q|q
   all_goals
    obtain ⟨k',hk',_⟩:=keys _ _ q;rw [hn] at hk';cases hk'
  ·have ex:x=y:=by rw [<-ey];unfold j9;rw [if_neg hown]
   subst ex;rcases e3' with q|q
   ·exfalso;obtain ⟨k',hk',hl⟩:=keys _ _ q;have:=hl rfl;subst this;rcases S.loc _ (PySem.mem_of_lookup hk') rfl with z|z
    ·exact hown (by simpa using z)
    ·exact z hyN
   ·have hfr:=relk x q;have hv:=S.free _ hfr rfl;obtain ⟨m,_,hl⟩:=I.loc;obtain ⟨u,ru,lk⟩:=hl i x v hy e2 (.inr hv);refine ⟨u,ru,.inr ⟨q,?_⟩⟩;rcases lk with ⟨z,_⟩|⟨_,c,hc,o,ho,hd⟩
    ·have z':X.env.scope.names.lookup x=some .local:=z;rcases hv with hv|hv <;> (rw [z'] at hv;cases hv)
    ·obtain ⟨c',hc'⟩:=B_ (env:=X.env) (acc:=[]) hfr;have:=sub x c' hc';rw [hc] at this;cases this;exact ⟨c,hc',o,hk c o ho,hd⟩
 ·obtain ⟨v,z⟩:=I.cell x c (sub x c e);obtain ⟨o,ho,hd⟩:=z;exact ⟨v,o,hk c o ho,hd⟩
 ·show upd H2 _ _ (s2.heap.objs.size+1)=none;rw [bB (Ne.symm hne)];exact hC
 ·obtain ⟨v,o,ho,_⟩:=I.cell x c (sub x c e);show upd H2 _ _ c=none;rw [bB (Nat.ne_of_lt (hlt c o ho))];exact I.freeC x c (sub x c e)
 ·exact I.hok.laid hk (Nat.le_refl _) ⟨Nat.zero_le _,[],0,.nil,hacc⟩
 ·show (σ++List.replicate own.length none).length=(X.N.map (j9 own)++own).length;rw [List.length_append,List.length_append,List.length_replicate,List.length_map,I.len]
end
section
variable {X:Cx} {scope:Scope} {own:List Str}
noncomputable def cI (X':Cx) (σ:St) (fp:List Addr) (tn:Nat->Heap->Prop) (W:Nat->Nat->List V->Hp->Prop) (n:Nat) (s:Shared):Prop:=∃i ys H',Inv X' [] σ H' s/\tn i s.heap/\(∀b∈fp,H' b=none)/\W i n ys H'
noncomputable abbrev cE (X X':Cx) (use:Option (Value->Sem Unit)) (QQ:Value->Shared->Prop) (p:Addr):Value->Shared->Prop:=notedBy (model X.prog X.w) X.A X'.env fun e s'=>compPost (model X.prog X.w) X.A X.xe use QQ (.ref p) (p+1) (.error e) s'
noncomputable def cB (X':Cx) (σ:St) (fp:List Addr) (tn:Nat->Heap->Prop) (W:Nat->Nat->List V->Hp->Prop) (n i:Nat) (h:Heap):Prop:=∀{ys':List V} {H9:Hp} {s9:Shared} {σ9:St},Ext σ σ9->Inv X' ([]++rM fp h) σ9 H9 s9->(∃n',n'<n/\W (i+1) n' ys' H9)->∃m,m<n/\cI X' σ fp tn W m s9
theorem QV {elt iter tg:Expr} {ifs:List Expr} {wi:TI} {g:TG} {tc:TT} {te:TE} {pos ps:Pos} {use:Option (Value->Sem Unit)} {QQ:Value->Shared->Prop} {pins:List (Addr×Obj)} {s:Shared} {σ:St} {H:Hp} {R:VK} (S:eE X.N X.env.scope scope own) (hcalm:X.calm=true) (hi:PI X tg iter wi)
  (hg:∀X',eN X X' scope own->PG X' tg g) (hc:(ifs=[]/\tc=fun _ H Q=>Q true H)\/∃c,ifs=[c]/\∀X',eN X X' scope own->PT X' c tc) (he:∀X',eN X X' scope own->PE X' elt te)
  (hs:∀x,foldedSetIterable iter X.env x=pure x) (I:Inv X pins σ H s) (h:L_ wi g tc te own.length σ H R)
  (last:∀{p C:Addr} {H5:Hp} {s6:Shared} {m6:Str->Option Value},Inv X pins σ H5 s6->O5 X pins H5 C->s6.heap.Ns C m6->R (.ref p) H5->compPost (model X.prog X.w) X.A X.xe use QQ (.ref p) C (.ok .next) s6) :
  wpAny (model X.prog X.w) X.A (comprehension (.ListComp elt [⟨tg,iter,ifs,0⟩] scope pos) scope X.env ps (newList []) false (eval iter X.env) use) QQ X.xe s:=by
 have cells:∀y∈scope.names,y.2=.free->∃c,X.env.cells.lookup y.1=some c:=fun y hy hk=>I.ok.has y.1 (S.free y hy hk)
 refine wpAny_comprehension_free rfl hs (LR cells) S.kind S.names (thn (hi pins s σ H _ I h) fun xv s1 h1=>thn h1 fun itv s2 h2=>?_);obtain ⟨it,fp,tn,J,H2,e,I2,T,st2,f2,hW⟩:=h2;subst e;have hD:H2 s2.heap.objs.size=none:=I2.hok.fresh (Nat.le_refl _);obtain ⟨W,⟨n0,w0⟩,turn⟩:=hW _ hD;have hfx:∀b∈fp,b<s2.heap.objs.size:=fun b hb=>by
  obtain ⟨o,ho,_⟩:=T.obj 0 _ st2 b hb;exact Heap.lt_size ho
 refine wpAny_newObj_type (wpAny_newFunctionEnv S.nocell (by intro y hy;simp at hy) (fun h₁ hns₁ hsb₁=>?_) S.kind);dsimp only at hns₁ hsb₁ ⊢;have hC:(s2.heap.push {cls:=.type "list",dict:=none,data:=.seq ([]:List Value).toArray}).objs.size=s2.heap.objs.size+1:=Heap.size_push ..;have hne:s2.heap.objs.size≠s2.heap.objs.size+1:=Nat.ne_of_lt (Nat.lt_succ_self _);rw [hC] at hns₁ hsb₁ ⊢;have old:∀b o,s2.heap.get? b=some o->h₁.get? b=some o:=fun b o e=>hsb₁.extBut b o (Nat.ne_of_lt (Nat.lt_succ_of_lt (Heap.lt_size e))) (Heap.get?_push_of_some _ (Heap.get?_push_of_some _ e))
 have hacc:h₁.get? s2.heap.objs.size=some {cls:=.type "list",data:=.seq #[]}:=hsb₁.extBut _ _ hne (Heap.get?_push_of_some _ (Heap.get?_push_size _ rfl));have I4:=Inv.comp (t1:=s2.toks+([]:List (Str×Value)).length) I2 S f2 hfx hns₁ old hacc;generalize hX':G_ X scope (clF X.env scope.names []) (s2.heap.objs.size+1) own s2 H2 fp=X' at I4;have cc:eN X X' scope own:=by rw [<-hX'];exact QT
 have eenv:X'.env=compEnvC scope (clF X.env scope.names []) (s2.heap.objs.size+1) X.env:=by rw [<-hX'];rfl
 have eA:X'.A=X.A:=cc.A;have ep:X'.prog=X.prog:=cc.prog;have ew:X'.w=X.w:=cc.w;have efs:X'.fs=frs X.stack:=by rw [<-hX'];rfl
 have eex:X'.ex=fp:=by rw [<-hX'];rfl
 have es0:X'.s₀=s2:=by rw [<-hX'];rfl
 have eH0:X'.H₀=H2:=by rw [<-hX'];rfl
 have epn:X'.pn=[]:=by rw [<-hX'];rfl
 have eK:X'.K=X.K:=cc.K;have exe:=cc.xe;have ecalm:X'.calm=true:=cc.calm.trans hcalm
 -- the iterator's records within the block
 have fpok:∀{H':Hp},(∀b∈fp,H' b=none)->∀b∈fp,O5 X' [] H' b:=fun {H'} hn b hb=>by
  obtain ⟨_,f1,f3,_,f5,_⟩:=f2 b hb;refine ⟨hn b hb,?_,?_,.inl (by rw [eex];exact hb),fun x c e=>?_,fun p hp=>by rw [epn] at hp;simp at hp⟩
  ·rw [eenv];exact Nat.ne_of_lt (Nat.lt_succ_of_lt (hfx b hb))
  ·rw [efs];intro z;rcases List.mem_cons.mp (I2.GX b z) with z|z
   ·exact f1 z
   ·exact f3 z
  ·rw [eenv] at e;exact f5 x c (BZ cells (fun _ _ h=>by simp at h) e)
 have st4:tn 0 h₁:=T.keep _ _ _ st2 fun b _ o e=>old b o e
 have fr4:∀b∈fp,(upd H2 s2.heap.objs.size (.lst [])) b=none:=fun b hb=>by rw [bB (Nat.ne_of_lt (hfx b hb))];exact (f2 b hb).1
 have loop:∀s4:Shared,s4={s2 with heap:=h₁,toks:=s2.toks+([]:List (Str×Value)).length}->
   codeAny (model X.prog X.w) X.A (.compLoop (.ListComp elt [⟨tg,iter,ifs,0⟩] scope pos) 0 (.ref it) (.ref s2.heap.objs.size) X'.env)
    (compPost (model X.prog X.w) X.A X.xe use QQ (.ref s2.heap.objs.size) (s2.heap.objs.size+1)) s4:=by
  rintro s4 rfl;have put:∀(n i:Nat) (ys:List V) (s7:Shared) (σ8:St) (H8:Hp) (s8:Shared),cB X' (σ++List.replicate own.length none) fp tn W n i s7.heap->Inv X' ([]++rM fp s7.heap) σ8 H8 s8->Ext (σ++List.replicate own.length none) σ8->ys.length<sizeLine->(te σ8 H8 fun y H5=>H5 s2.heap.objs.size=some (.lst ys)/\∃n',n'<n/\W (i+1) n' (ys++[y]) (upd H5 s2.heap.objs.size (.lst (ys++[y]))))->
    wpAny (model X.prog X.w) X.A (eval elt X'.env) (fun x s₄=>wpAny (model X.prog X.w) X.A (call (.builtin "list.append") [.ref s2.heap.objs.size,x]) (fun _ s₅=>∃m,m<n/\cI X' (σ++List.replicate own.length none) fp tn W m s₅) (cE X X' use QQ s2.heap.objs.size) s₄) (cE X X' use QQ s2.heap.objs.size) s8:=by
   intro n i ys s7 σ8 H8 s8 back I8 ext8 hlen q8;have he':=he X' cc _ s8 _ H8 _ I8 q8;rw [ep,ew,eA,exe] at he';refine wpAny_mono he' (fun yv s10 ⟨y,H10,I10,r10,p10,q10⟩=>?_) fun _ _ z=>False.elim z
   have hm:=xU (X:=X') _ s10 σ8 H10 (.ref s2.heap.objs.size) [y] (.ref s2.heap.objs.size) [yv] (fun _ H11=>∃n',n'<n/\W (i+1) n' (ys++[y]) H11) I10 rfl (.cons r10 .nil) ⟨s2.heap.objs.size,ys,y,rfl,rfl,p10,hlen,q10⟩;rw [ep,ew,eA,exe] at hm;exact wpAny_mono hm (fun _ s11 ⟨_,H11,I11,_,q11⟩=>back ext8 I11 q11) fun _ _ z=>False.elim z
  have key:∀(PO:Nat->Shared->Prop),(∀(n i:Nat) (ys:List V) (s7:Shared) (σ8:St) (H8:Hp) (s8:Shared),cB X' (σ++List.replicate own.length none) fp tn W n i s7.heap->Inv X' ([]++rM fp s7.heap) σ8 H8 s8->Ext (σ++List.replicate own.length none) σ8->ys.length<sizeLine->(tc σ8 H8 fun b H4=>if b=true then te σ8 H4 fun y H5=>H5 s2.heap.objs.size=some (.lst ys)/\∃n',n'<n/\W (i+1) n' (ys++[y]) (upd H5 s2.heap.objs.size (.lst (ys++[y]))) else ∃n',n'<n/\W (i+1) n' ys H4)->PO n s8)->
    ∀n s5,(cI X' (σ++List.replicate own.length none) fp tn W n s5)->wpAny (model X.prog X.w) X.A (pyNext (.ref it)) (fun r s₁=>match r with
     | none=>compPost (model X.prog X.w) X.A X.xe use QQ (.ref s2.heap.objs.size) (s2.heap.objs.size+1) (.ok .next) s₁
     | some v=>wpAny (model X.prog X.w) X.A (letOwnedTupleGo tg (.ref it) v) (fun _ s₀=>wpAny (model X.prog X.w) X.A (assign tg X'.env v) (fun _ s₂=>PO n s₂) (cE X X' use QQ s2.heap.objs.size) s₀) (cE X X' use QQ s2.heap.objs.size) s₁) (cE X X' use QQ s2.heap.objs.size) s5:=by
   intro PO hPO;rintro n s5 ⟨i,ys,H5,I5,st5,fr5,w5⟩;obtain ⟨hacc5,tr⟩:=turn i n ys H5 w5;rcases tr with ⟨stop,q⟩|⟨go,hlen,step⟩
   ·have done:=T.done X' ep ew eK ecalm i [] s5 _ H5 (cE X X' use QQ s2.heap.objs.size) I5 (fpok fr5) st5 stop;rw [eA] at done;refine thn done fun r s6 ⟨hr,I6⟩=>?_
    subst hr;obtain ⟨m6,hn6,_⟩:=id I6.loc;rw [eenv] at hn6;have u6:Un (frs X.stack) fp H2 H5 s2.heap s6.heap:=by
     have:=I6.base;rw [efs,eex,eH0,es0] at this;exact this
    have hCn:H5 (s2.heap.objs.size+1)=none:=by
     have:=I6.free;rw [eenv] at this;exact this
    have hok6:HOk X.prog X.w H5 s6.heap:=by
     have:=I6.hok;rw [ep,ew] at this;exact this
    have hos:s6.os=s2.os:=by have:=I6.os;rw [es0] at this;exact this
    obtain ⟨hh,gg,dd,tt,oo⟩:=s6;obtain rfl:oo=s2.os:=hos;have fin:=Inv.call (h':=hh) (g':=gg) (d':=dd) (t':=tt) (ch:=fp) I2 u6 hok6 I6.bare fun b hb=>⟨(f2 b hb).2.2.2.1,(f2 b hb).2.1,(f2 b hb).2.2.2.2.1,(f2 b hb).2.2.2.2.2⟩
    refine last fin ⟨hCn,Nat.ne_of_gt (Nat.lt_succ_of_lt I2.lt),I2.aJy (Nat.le_succ _),.inr (Nat.le_trans I2.sz (Nat.le_succ _)),fun x c e z=>?_,fun p hp z=>?_⟩ hn6 q
    ·obtain ⟨v,qq⟩:=I2.cell x c e;exact absurd (Nat.lt_succ_of_lt qq.lt) (by rw [z];exact Nat.lt_irrefl _)
    ·exact absurd (Nat.lt_succ_of_lt (Heap.lt_size (I2.pin p hp).1)) (by rw [z];exact Nat.lt_irrefl _)
   ·have item:=T.item X' ep ew eK ecalm i [] s5 _ H5 (cE X X' use QQ s2.heap.objs.size) I5 (fpok fr5) st5 go;rw [eA] at item;refine thn item fun r s6 ⟨u,hr,h6⟩=>?_
    subst hr;refine thn h6 fun _ s7 ⟨x,H7,I7,r7,y7,st7,fr7⟩=>?_
    have I7':=I7.pinned (fpok fr7) (T.obj _ _ st7);have hg':=hg X' cc _ s7 _ H7 x u _ I7' r7 (step x H7 y7);rw [ep,ew,eA,exe] at hg';refine wpAny_mono hg' (fun _ s8 ⟨σ8,H8,I8,ext8,q8⟩=>?_) fun _ _ z=>False.elim z
    have back:cB X' (σ++List.replicate own.length none) fp tn W n i s7.heap:=by
     rintro ys' H9 s9 σ9 ex9 I9 ⟨n',hn',w9⟩;refine ⟨n',hn',i+1,ys',H9,(I9.weak ex9.1.symm ex9.2).oO,T.keep _ _ _ st7 fun b hb o e=>(I9.pin (b,o) (List.mem_append_right _ (List.mem_append_right _ (mW hb e)))).1,fun b hb=>?_,w9⟩;obtain ⟨o,e,d⟩:=T.obj _ _ st7 b hb;exact (I9.pin (b,o) (List.mem_append_right _ (List.mem_append_right _ (mW hb e)))).2.1
    exact hPO n i ys s7 σ8 H8 s8 back I8 ext8 hlen q8
  rcases hc with ⟨rfl,rfl⟩|⟨c,rfl,hc⟩
  ·refine PySem.W.kcp_loop _ (key _ fun n i ys s7 σ8 H8 s8 back I8 ext8 hlen q8=>?_) n0 ⟨0,[],_,I4,st4,fr4,w0⟩;simp only [if_true] at q8;exact put n i ys s7 σ8 H8 s8 back I8 ext8 hlen q8
  ·refine PySem.W.kct_loop _ (key _ fun n i ys s7 σ8 H8 s8 back I8 ext8 hlen q8=>?_) n0 ⟨0,[],_,I4,st4,fr4,w0⟩;have hc':=hc X' cc _ s8 _ H8 _ I8 q8;rw [ep,ew,eA,exe] at hc';refine wpAny_mono hc' (fun b s9 ⟨H9,I9,q9⟩=>?_) fun _ _ z=>False.elim z
   cases b with
   | false=>
    simp only [Bool.false_eq_true,if_false] at q9 ⊢;exact back ext8 I9 q9
   | true=>
    simp only [if_true] at q9 ⊢;exact put n i ys s7 σ8 H9 s9 back I9 ext8 hlen q9
 have l4:=loop _ rfl;rw [eenv] at l4;exact codeAny_compStart_list l4 (T.self X.A 0 _ _ _ st4 l4)
theorem XM {pins:List (Addr×Obj)} {σ:St} {Q:VK} {p C:Addr} {H5:Hp} {s6:Shared} {m6:Str->Option Value} (f:Inv X pins σ H5 s6) (k:O5 X pins H5 C) (n:s6.heap.Ns C m6) (q:Q (.ref p) H5):compPost (model X.prog X.w) X.A X.xe none (EP X pins σ Q) (.ref p) C (.ok .next) s6:=
 ⟨m6,n,fun h' sb=>⟨.ref p,H5,Inv.turned (t':=s6.toks) f (fun b o hb e=>sb.extBut b o hb e) k.1 k.2.1 k.2.2.2.1 k.2.2.2.2.1 k.2.2.2.2.2,rfl,q⟩⟩
theorem XN {elt iter tg:Expr} {wi:TI} {g:TG} {te:TE} {pos:Pos} (S:eE X.N X.env.scope scope own) (hcalm:X.calm=true) (hi:PI X tg iter wi)
  (hg:∀X',eN X X' scope own->PG X' tg g) (he:∀X',eN X X' scope own->PE X' elt te)
  (hs:∀x,foldedSetIterable iter X.env x=pure x):PE X (.ListComp elt [⟨tg,iter,[],0⟩] scope pos) (L_ wi g (fun _ H Q=>Q true H) te own.length):=by
 intro pins s σ H Q I h;rw [eval_ListComp];exact QV S hcalm hi hg (.inl ⟨rfl,rfl⟩) he hs I h XM
end
end L2
end
section
namespace Mi
open PySem L2 PySem.SeqAt
variable [KFrag]
theorem nD {X:Cx} {pins:List (Addr×Obj)} {σ:St} {H:Hp} {s:Shared} {a:Addr} {xs:List V} (I:Inv X pins σ H s) (e:H a=some (.tup xs)):∃its:List Value,Vals xs its/\s.heap.IsTuple a its.toArray:=by
 obtain ⟨_,its,r,p⟩:xs.length<=sizeLine/\∃its:List Value,Vals xs its/\j6 s.heap a its.toArray:=I.hok a _ e;exact ⟨its,r,p.tup⟩
theorem lR {X:Cx} {pins:List (Addr×Obj)} {σ:St} {H:Hp} {s:Shared} {a:Addr} {xs:List V} (I:Inv X pins σ H s) (e:SqL X.K H a xs):∃its:List Value,Vals xs its/\s.heap.IsList a its.toArray:=by
 obtain ⟨its,r,p,_⟩:=I.list e;exact ⟨its,r,p.isList⟩
theorem Rep.gM {P:Addr->Prop} {H:Hp} {K:PySem.W.Frag} {v:V} {ds:List D} (r:Rep P H v (.lst ds)):∃a xs,v=.ref a/\SqL K H a xs/\bR P H xs ds:=by
 cases r with
 | lst e p r=>exact ⟨_,_,rfl,.inl (.inl e),r⟩
theorem Rep.iV {P:Addr->Prop} {H:Hp} {v:V} {ds:List D} (r:Rep P H v (.tup ds)):∃a xs,v=.ref a/\H a=some (.tup xs)/\bR P H xs ds:=by
 cases r with
 | tup e r=>exact ⟨_,_,rfl,e,r⟩
mutual
theorem vO:∀(n:Nat) (d:D),d.b8 n=true->eqD d d=true
 | _,.non,_=>rfl
 | _,.bl b,_=>by simp [eqD]
 | _,.int i,_=>by simp [eqD]
 | _,.str x,_=>by simp [eqD]
 | n+1,.tup xs,h=>by rw [D.b8] at h;rw [eqD];exact rY n xs h
 | n+1,.lst xs,h=>by rw [D.b8] at h;rw [eqD];exact rY n xs h
 | 0,.tup xs,h=>by simp [D.b8] at h
 | 0,.lst xs,h=>by simp [D.b8] at h
 | n,.dct _,h=>by cases n <;> simp [D.b8] at h
 | n,.uD,h=>by cases n <;> simp [D.b8] at h
 | n,.scr _,h=>by cases n <;> simp [D.b8] at h
 | n,.fdc _,h=>by cases n <;> simp [D.b8] at h
 | n,.exc _ _,h=>by cases n <;> simp [D.b8] at h
 | n,.cel _ _,h=>by cases n <;> simp [D.b8] at h
theorem rY:∀(n:Nat) (ds:List D),D.cW n ds=true->xY ds ds=true
 | _,[],_=>rfl
 | n,d::ds,h=>by
  rw [D.cW,Bool.and_eq_true] at h;rw [xY,vO n d h.1,rY n ds h.2];rfl
end
mutual
theorem Rep.inj {P P':Addr->Prop} {H:Hp}:∀(n:Nat) {v:V} {d e:D},d.b8 n=true->e.b8 n=true->Rep P H v d->Rep P' H v e->d=e
 | _,_,_,_,_,_,.non,.non=>rfl
 | _,_,_,_,_,_,.bl _,.bl _=>rfl
 | _,_,_,_,_,_,.int _,.int _=>rfl
 | _,_,_,_,_,_,.str _,.str _=>rfl
 | n+1,_,.tup ds,_,h,h',.tup e1 r1,q=>by
  cases q with
  | tup e2 r2=>
   rw [e1] at e2;cases e2;rw [D.b8] at h h';rw [bR.inj n h h' r1 r2]
  | lst e2 _ _=>rw [e1] at e2;cases e2
  | frz e2 _=>simp [D.b8] at h'
  | fdK e2 _ _=>simp [D.b8] at h'
  | cel e2 _ _=>simp [D.b8] at h'
  | fdT e2 _ _=>simp [D.b8] at h'
  | exc _ _ _=>simp [D.b8] at h'
  | dK e2 _ _ _=>rw [e1] at e2;cases e2
  | dT e2 _ _ _=>rw [e1] at e2;cases e2
 | n+1,_,.lst ds,_,h,h',.lst e1 p r1,q=>by
  cases q with
  | tup e2 r2=>rw [e1] at e2;cases e2
  | lst e2 _ r2=>
   rw [e1] at e2;cases e2;rw [D.b8] at h h';rw [bR.inj n h h' r1 r2]
  | frz e2 _=>simp [D.b8] at h'
  | fdK e2 _ _=>simp [D.b8] at h'
  | cel e2 _ _=>simp [D.b8] at h'
  | fdT e2 _ _=>simp [D.b8] at h'
  | exc _ _ _=>simp [D.b8] at h'
  | dK e2 _ _ _=>rw [e1] at e2;cases e2
  | dT e2 _ _ _=>rw [e1] at e2;cases e2
 | 0,_,.tup ds,_,h,_,_,_=>by simp [D.b8] at h
 | 0,_,.lst ds,_,h,_,_,_=>by simp [D.b8] at h
 | n,_,.dct _,_,h,_,_,_=>by cases n <;> simp [D.b8] at h
 | n,_,.scr _,_,h,_,_,_=>by cases n <;> simp [D.b8] at h
 | n,_,.fdc _,_,h,_,_,_=>by cases n <;> simp [D.b8] at h
 | n,_,.exc _ _,_,h,_,_,_=>by cases n <;> simp [D.b8] at h
 | n,_,.cel _ _,_,h,_,_,_=>by cases n <;> simp [D.b8] at h
theorem bR.inj {P P':Addr->Prop} {H:Hp}:∀(n:Nat) {v:List V} {d e:List D},D.cW n d=true->D.cW n e=true->bR P H v d->bR P' H v e->d=e
 | _,_,_,_,_,_,.nil,.nil=>rfl
 | n,_,_,_,h,h',.cons r t,.cons r' t'=>by
  rw [D.cW,Bool.and_eq_true] at h h';rw [Rep.inj n h.1 h'.1 r r',bR.inj n h.2 h'.2 t t']
end
theorem pQ:∀(xs ys:List D),xY xs ys=((List.range (min xs.length ys.length)).all (fun j=>eqD (xs.getD j .non) (ys.getD j .non))&&xs.length==ys.length)
 | [],[]=>by simp [xY]
 | [],y::ys=>by simp [xY]
 | x::xs,[]=>by simp [xY]
 | x::xs,y::ys=>by
  have e:min (x::xs).length (y::ys).length=min xs.length ys.length+1:=by simp only [List.length_cons];lia
  rw [xY,pQ xs ys,e,List.range_succ_eq_map,List.all_cons,List.all_map,Bool.and_assoc]
  congr 1
  simp [Function.comp_def]
theorem j_ {n:Nat}:∀{ds:List D} {j:Nat},D.cW n ds=true->j<ds.length->(ds.getD j .non).b8 n=true
 | [],j,_,h=>by simp at h
 | d::ds,0,h,_=>by rw [D.cW,Bool.and_eq_true] at h;exact h.1
 | d::ds,j+1,h,hj=>by
  rw [D.cW,Bool.and_eq_true] at h;simpa using j_ (ds:=ds) (j:=j) h.2 (by simpa using hj)
theorem bR.getD {P:Addr->Prop} {H:Hp} {vs:List V} {ds:List D} {j:Nat} (r:bR P H vs ds) (hj:j<ds.length):∃v,vs[j]?=some v/\Rep P H v (ds.getD j .non):=by
 obtain ⟨v,h1,h2⟩:=r.get (i:=j) (d:=ds.getD j .non) (by simp [hj]);exact ⟨v,h1,h2⟩
section
variable {X:Cx} {pins:List (Addr×Obj)} {σ:St} {H:Hp} {s:Shared}
theorem QW (I:Inv X pins σ H s):∀(n:Nat) (A:Around) {x y:V} {a b:D} {u v:Value},A.units+n<cLine->a.b8 n=true->b.b8 n=true->Rep All H x a->Rep All H y b->RelV x u->RelV y v->
  RcAt A s u v (eqD a b)/\RcNeAt A s u v (!eqD a b)/\EqAt A s u v (eqD a b):=by
 intro n;induction n with
 | zero=>
  intro A x y a b u v hu ha hb rx ry ru rv;cases rx with
  | non=>
   cases ru;cases ry with
   | non=>cases rv;exact ⟨RcAt.none_none,RcNeAt.none_none,EqAt.same _⟩
   | bl _=>cases rv;exact ⟨RcAt.none_bool _,RcNeAt.none_bool _,EqAt.none_bool _⟩
   | int _=>obtain ⟨t,rfl⟩:=rv;exact ⟨RcAt.none_int _ _,RcNeAt.none_int _ _,EqAt.none_int _ _⟩
   | str _=>obtain ⟨t,rfl⟩:=rv;exact ⟨RcAt.none_str _ _,RcNeAt.none_str _ _,EqAt.none_str _ _⟩
   | _=>simp [D.b8] at hb
  | bl _=>
   cases ru;cases ry with
   | non=>cases rv;exact ⟨RcAt.bool_none _,RcNeAt.bool_none _,EqAt.bool_none _⟩
   | bl _=>cases rv;exact ⟨RcAt.bool_bool _ _,RcNeAt.bool_bool _ _,EqAt.bool_bool _ _⟩
   | int _=>obtain ⟨t,rfl⟩:=rv;exact ⟨RcAt.bool_int _ _ _,RcNeAt.bool_int _ _ _,EqAt.bool_int _ _ _⟩
   | str _=>obtain ⟨t,rfl⟩:=rv;exact ⟨RcAt.bool_str _ _ _,RcNeAt.bool_str _ _ _,EqAt.bool_str _ _ _⟩
   | _=>simp [D.b8] at hb
  | int _=>
   obtain ⟨t,rfl⟩:=ru;cases ry with
   | non=>cases rv;exact ⟨RcAt.int_none _ _,RcNeAt.int_none _ _,EqAt.int_none _ _⟩
   | bl _=>cases rv;exact ⟨RcAt.int_bool _ _ _,RcNeAt.int_bool _ _ _,EqAt.int_bool _ _ _⟩
   | int _=>obtain ⟨t',rfl⟩:=rv;exact ⟨RcAt.int_int _ _ _ _,RcNeAt.int_int _ _ _ _,EqAt.int_int _ _ _ _⟩
   | str _=>obtain ⟨t',rfl⟩:=rv;exact ⟨RcAt.int_str _ _ _ _,RcNeAt.int_str _ _ _ _,EqAt.int_str _ _ _ _⟩
   | _=>simp [D.b8] at hb
  | str _=>
   obtain ⟨t,rfl⟩:=ru;cases ry with
   | non=>cases rv;exact ⟨RcAt.str_none _ _,RcNeAt.str_none _ _,EqAt.str_none _ _⟩
   | bl _=>cases rv;exact ⟨RcAt.str_bool _ _ _,RcNeAt.str_bool _ _ _,EqAt.str_bool _ _ _⟩
   | int _=>obtain ⟨t',rfl⟩:=rv;exact ⟨RcAt.str_int _ _ _ _,RcNeAt.str_int _ _ _ _,EqAt.str_int _ _ _ _⟩
   | str _=>obtain ⟨t',rfl⟩:=rv;exact ⟨RcAt.str_str _ _ _ _,RcNeAt.str_str _ _ _ _,EqAt.str_str _ _ _ _⟩
   | _=>simp [D.b8] at hb
  | _=>simp [D.b8] at ha
 | succ n ih=>
  intro A x y a b u v hu ha hb rx ry ru rv;have hu0:A.units<cLine:=by lia
  have hu1:A.in1.units+n<cLine:=by show A.units+1+n<cLine;lia
  cases a with
  | uD=>exact absurd rx Rep.uD
  | dct _=>simp [D.b8] at ha
  | scr _=>simp [D.b8] at ha
  | fdc _=>simp [D.b8] at ha
  | exc _ _=>simp [D.b8] at ha
  | cel _ _=>simp [D.b8] at ha
  | non=>
   cases rx;cases ru;cases b with
   | uD=>exact absurd ry Rep.uD
   | dct _=>simp [D.b8] at hb
   | scr _=>simp [D.b8] at hb
   | fdc _=>simp [D.b8] at hb
   | exc _ _=>simp [D.b8] at hb
   | cel _ _=>simp [D.b8] at hb
   | non=>cases ry;cases rv;exact ⟨RcAt.none_none,RcNeAt.none_none,EqAt.same _⟩
   | bl _=>cases ry;cases rv;exact ⟨RcAt.none_bool _,RcNeAt.none_bool _,EqAt.none_bool _⟩
   | int _=>cases ry;obtain ⟨t2,rfl⟩:=rv;exact ⟨RcAt.none_int _ _,RcNeAt.none_int _ _,EqAt.none_int _ _⟩
   | str _=>cases ry;obtain ⟨t2,rfl⟩:=rv;exact ⟨RcAt.none_str _ _,RcNeAt.none_str _ _,EqAt.none_str _ _⟩
   | tup es=>
    obtain ⟨q,ys,rfl,e2,r2⟩:=ry.iV;cases rv;obtain ⟨its2,vr2,h2⟩:=nD I e2;exact ⟨RcAt.none_tuple h2 hu0,RcNeAt.none_tuple h2 hu0,EqAt.none_tuple h2 hu0⟩
   | lst es=>
    obtain ⟨q,ys,rfl,e2,r2⟩:=ry.gM (K:=X.K);cases rv;obtain ⟨its2,vr2,h2⟩:=lR I e2;exact ⟨RcAt.none_list h2 hu0,RcNeAt.none_list h2 hu0,EqAt.none_list h2 hu0⟩
  | bl _=>
   cases rx;cases ru;cases b with
   | uD=>exact absurd ry Rep.uD
   | dct _=>simp [D.b8] at hb
   | scr _=>simp [D.b8] at hb
   | fdc _=>simp [D.b8] at hb
   | exc _ _=>simp [D.b8] at hb
   | cel _ _=>simp [D.b8] at hb
   | non=>cases ry;cases rv;exact ⟨RcAt.bool_none _,RcNeAt.bool_none _,EqAt.bool_none _⟩
   | bl _=>cases ry;cases rv;exact ⟨RcAt.bool_bool _ _,RcNeAt.bool_bool _ _,EqAt.bool_bool _ _⟩
   | int _=>cases ry;obtain ⟨t2,rfl⟩:=rv;exact ⟨RcAt.bool_int _ _ _,RcNeAt.bool_int _ _ _,EqAt.bool_int _ _ _⟩
   | str _=>cases ry;obtain ⟨t2,rfl⟩:=rv;exact ⟨RcAt.bool_str _ _ _,RcNeAt.bool_str _ _ _,EqAt.bool_str _ _ _⟩
   | tup es=>
    obtain ⟨q,ys,rfl,e2,r2⟩:=ry.iV;cases rv;obtain ⟨its2,vr2,h2⟩:=nD I e2;exact ⟨RcAt.bool_tuple _ h2 hu0,RcNeAt.bool_tuple _ h2 hu0,EqAt.bool_tuple _ h2 hu0⟩
   | lst es=>
    obtain ⟨q,ys,rfl,e2,r2⟩:=ry.gM (K:=X.K);cases rv;obtain ⟨its2,vr2,h2⟩:=lR I e2;exact ⟨RcAt.bool_list _ h2 hu0,RcNeAt.bool_list _ h2 hu0,EqAt.bool_list _ h2 hu0⟩
  | int _=>
   cases rx;obtain ⟨t1,rfl⟩:=ru;cases b with
   | uD=>exact absurd ry Rep.uD
   | dct _=>simp [D.b8] at hb
   | scr _=>simp [D.b8] at hb
   | fdc _=>simp [D.b8] at hb
   | exc _ _=>simp [D.b8] at hb
   | cel _ _=>simp [D.b8] at hb
   | non=>cases ry;cases rv;exact ⟨RcAt.int_none _ _,RcNeAt.int_none _ _,EqAt.int_none _ _⟩
   | bl _=>cases ry;cases rv;exact ⟨RcAt.int_bool _ _ _,RcNeAt.int_bool _ _ _,EqAt.int_bool _ _ _⟩
   | int _=>cases ry;obtain ⟨t2,rfl⟩:=rv;exact ⟨RcAt.int_int _ _ _ _,RcNeAt.int_int _ _ _ _,EqAt.int_int _ _ _ _⟩
   | str _=>cases ry;obtain ⟨t2,rfl⟩:=rv;exact ⟨RcAt.int_str _ _ _ _,RcNeAt.int_str _ _ _ _,EqAt.int_str _ _ _ _⟩
   | tup es=>
    obtain ⟨q,ys,rfl,e2,r2⟩:=ry.iV;cases rv;obtain ⟨its2,vr2,h2⟩:=nD I e2;exact ⟨RcAt.int_tuple _ _ h2 hu0,RcNeAt.int_tuple _ _ h2 hu0,EqAt.int_tuple _ _ h2 hu0⟩
   | lst es=>
    obtain ⟨q,ys,rfl,e2,r2⟩:=ry.gM (K:=X.K);cases rv;obtain ⟨its2,vr2,h2⟩:=lR I e2;exact ⟨RcAt.int_list _ _ h2 hu0,RcNeAt.int_list _ _ h2 hu0,EqAt.int_list _ _ h2 hu0⟩
  | str _=>
   cases rx;obtain ⟨t1,rfl⟩:=ru;cases b with
   | uD=>exact absurd ry Rep.uD
   | dct _=>simp [D.b8] at hb
   | scr _=>simp [D.b8] at hb
   | fdc _=>simp [D.b8] at hb
   | exc _ _=>simp [D.b8] at hb
   | cel _ _=>simp [D.b8] at hb
   | non=>cases ry;cases rv;exact ⟨RcAt.str_none _ _,RcNeAt.str_none _ _,EqAt.str_none _ _⟩
   | bl _=>cases ry;cases rv;exact ⟨RcAt.str_bool _ _ _,RcNeAt.str_bool _ _ _,EqAt.str_bool _ _ _⟩
   | int _=>cases ry;obtain ⟨t2,rfl⟩:=rv;exact ⟨RcAt.str_int _ _ _ _,RcNeAt.str_int _ _ _ _,EqAt.str_int _ _ _ _⟩
   | str _=>cases ry;obtain ⟨t2,rfl⟩:=rv;exact ⟨RcAt.str_str _ _ _ _,RcNeAt.str_str _ _ _ _,EqAt.str_str _ _ _ _⟩
   | tup es=>
    obtain ⟨q,ys,rfl,e2,r2⟩:=ry.iV;cases rv;obtain ⟨its2,vr2,h2⟩:=nD I e2;exact ⟨RcAt.str_tuple _ _ h2 hu0,RcNeAt.str_tuple _ _ h2 hu0,EqAt.str_tuple _ _ h2 hu0⟩
   | lst es=>
    obtain ⟨q,ys,rfl,e2,r2⟩:=ry.gM (K:=X.K);cases rv;obtain ⟨its2,vr2,h2⟩:=lR I e2;exact ⟨RcAt.str_list _ _ h2 hu0,RcNeAt.str_list _ _ h2 hu0,EqAt.str_list _ _ h2 hu0⟩
  | tup ds=>
   obtain ⟨p,xs,rfl,e1,r1⟩:=rx.iV;cases ru;obtain ⟨its1,vr1,h1⟩:=nD I e1;rw [D.b8] at ha;cases b with
   | uD=>exact absurd ry Rep.uD
   | dct _=>simp [D.b8] at hb
   | scr _=>simp [D.b8] at hb
   | fdc _=>simp [D.b8] at hb
   | exc _ _=>simp [D.b8] at hb
   | cel _ _=>simp [D.b8] at hb
   | non=>cases ry;cases rv;exact ⟨RcAt.tuple_none h1 hu0,RcNeAt.tuple_none h1 hu0,EqAt.tuple_none h1 hu0⟩
   | bl _=>cases ry;cases rv;exact ⟨RcAt.tuple_bool _ h1 hu0,RcNeAt.tuple_bool _ h1 hu0,EqAt.tuple_bool _ h1 hu0⟩
   | int _=>cases ry;obtain ⟨t2,rfl⟩:=rv;exact ⟨RcAt.tuple_int _ _ h1 hu0,RcNeAt.tuple_int _ _ h1 hu0,EqAt.tuple_int _ _ h1 hu0⟩
   | str _=>cases ry;obtain ⟨t2,rfl⟩:=rv;exact ⟨RcAt.tuple_str _ _ h1 hu0,RcNeAt.tuple_str _ _ h1 hu0,EqAt.tuple_str _ _ h1 hu0⟩
   | tup es=>
    obtain ⟨q,ys,rfl,e2,r2⟩:=ry.iV;cases rv;obtain ⟨its2,vr2,h2⟩:=nD I e2;rw [D.b8] at hb;have z1:its1.toArray.size=ds.length:=by rw [List.size_toArray,<-vr1.length,r1.length]
    have z2:its2.toArray.size=es.length:=by rw [List.size_toArray,<-vr2.length,r2.length]
    have he:∀j (g1:j<its1.toArray.size) (g2:j<its2.toArray.size),EqAt A.in1 s its1.toArray[j] its2.toArray[j] (eqD (ds.getD j .non) (es.getD j .non)):=fun j g1 g2=>by
     obtain ⟨v1,w1,rr1⟩:=r1.getD (j:=j) (by lia);obtain ⟨v2,w2,rr2⟩:=r2.getD (j:=j) (by lia);obtain ⟨u1,k1,l1⟩:=vr1.get w1;obtain ⟨u2,k2,l2⟩:=vr2.get w2;have m1:its1.toArray[j]=u1:=by
      rw [List.getElem?_eq_getElem (by simpa using g1)] at k1;simpa using Option.some.inj k1
     have m2:its2.toArray[j]=u2:=by
      rw [List.getElem?_eq_getElem (by simpa using g2)] at k2;simpa using Option.some.inj k2
     rw [m1,m2];exact (ih A.in1 hu1 (j_ ha (by lia)) (j_ hb (by lia)) rr1 rr2 l1 l2).2.2
    have ee:eqD (.tup ds) (.tup es)=((List.range (min its1.toArray.size its2.toArray.size)).all (fun j=>eqD (ds.getD j .non) (es.getD j .non))&&its1.toArray.size==its2.toArray.size):=by
     rw [eqD,pQ,z1,z2]
    have r0:=RcAt.tuples h1 h2 hu0 he;have r0':=RcNeAt.tuples h1 h2 hu0 he;rw [<-ee] at r0 r0';refine ⟨r0,r0',?_⟩;by_cases hpq:p=q
    ·subst hpq;have hab:(D.tup ds)=(.tup es):=Rep.inj (n+1) (by rw [D.b8];exact ha) (by rw [D.b8];exact hb) rx ry;rw [<-hab,vO (n+1) _ (by rw [D.b8];exact ha)];exact EqAt.same _
    ·exact EqAt.of_refs hpq r0
   | lst es=>
    obtain ⟨q,ys,rfl,e2,r2⟩:=ry.gM (K:=X.K);cases rv;obtain ⟨its2,vr2,h2⟩:=lR I e2;exact ⟨RcAt.tuple_list h1 h2 hu0,RcNeAt.tuple_list h1 h2 hu0,EqAt.tuple_list h1 h2 hu0⟩
  | lst ds=>
   obtain ⟨p,xs,rfl,e1,r1⟩:=rx.gM (K:=X.K);cases ru;obtain ⟨its1,vr1,h1⟩:=lR I e1;rw [D.b8] at ha;cases b with
   | uD=>exact absurd ry Rep.uD
   | dct _=>simp [D.b8] at hb
   | scr _=>simp [D.b8] at hb
   | fdc _=>simp [D.b8] at hb
   | exc _ _=>simp [D.b8] at hb
   | cel _ _=>simp [D.b8] at hb
   | non=>cases ry;cases rv;exact ⟨RcAt.list_none h1 hu0,RcNeAt.list_none h1 hu0,EqAt.list_none h1 hu0⟩
   | bl _=>cases ry;cases rv;exact ⟨RcAt.list_bool _ h1 hu0,RcNeAt.list_bool _ h1 hu0,EqAt.list_bool _ h1 hu0⟩
   | int _=>cases ry;obtain ⟨t2,rfl⟩:=rv;exact ⟨RcAt.list_int _ _ h1 hu0,RcNeAt.list_int _ _ h1 hu0,EqAt.list_int _ _ h1 hu0⟩
   | str _=>cases ry;obtain ⟨t2,rfl⟩:=rv;exact ⟨RcAt.list_str _ _ h1 hu0,RcNeAt.list_str _ _ h1 hu0,EqAt.list_str _ _ h1 hu0⟩
   | tup es=>
    obtain ⟨q,ys,rfl,e2,r2⟩:=ry.iV;cases rv;obtain ⟨its2,vr2,h2⟩:=nD I e2;exact ⟨RcAt.list_tuple h1 h2 hu0,RcNeAt.list_tuple h1 h2 hu0,EqAt.list_tuple h1 h2 hu0⟩
   | lst es=>
    obtain ⟨q,ys,rfl,e2,r2⟩:=ry.gM (K:=X.K);cases rv;obtain ⟨its2,vr2,h2⟩:=lR I e2;rw [D.b8] at hb;have z1:its1.toArray.size=ds.length:=by rw [List.size_toArray,<-vr1.length,r1.length]
    have z2:its2.toArray.size=es.length:=by rw [List.size_toArray,<-vr2.length,r2.length]
    have he:∀j (g1:j<its1.toArray.size) (g2:j<its2.toArray.size),EqAt A.in1 s its1.toArray[j] its2.toArray[j] (eqD (ds.getD j .non) (es.getD j .non)):=fun j g1 g2=>by
     obtain ⟨v1,w1,rr1⟩:=r1.getD (j:=j) (by lia);obtain ⟨v2,w2,rr2⟩:=r2.getD (j:=j) (by lia);obtain ⟨u1,k1,l1⟩:=vr1.get w1;obtain ⟨u2,k2,l2⟩:=vr2.get w2;have m1:its1.toArray[j]=u1:=by
      rw [List.getElem?_eq_getElem (by simpa using g1)] at k1;simpa using Option.some.inj k1
     have m2:its2.toArray[j]=u2:=by
      rw [List.getElem?_eq_getElem (by simpa using g2)] at k2;simpa using Option.some.inj k2
     rw [m1,m2];exact (ih A.in1 hu1 (j_ ha (by lia)) (j_ hb (by lia)) rr1 rr2 l1 l2).2.2
    have r00:RcAt A s (.ref p) (.ref q) (eqD (.lst ds) (.lst es))/\RcNeAt A s (.ref p) (.ref q) (!eqD (.lst ds) (.lst es)):=by
     rw [eqD,pQ];by_cases hz:ds.length=es.length
     ·have r0:=RcAt.lists h1 h2 (by lia) hu0 he;have r0':=RcNeAt.lists h1 h2 (by lia) hu0 he;rw [z1] at r0 r0';rw [show min ds.length es.length=ds.length by lia,show (ds.length==es.length)=true by simpa using hz,Bool.and_true];exact ⟨r0,r0'⟩
     ·have hz':(its1.toArray.size != its2.toArray.size)=true:=by rw [z1,z2];simpa using hz
      rw [show (ds.length==es.length)=false by simpa using hz,Bool.and_false];exact ⟨RcAt.lists_lengths h1 h2 hz' hu0,RcNeAt.lists_lengths h1 h2 hz' hu0⟩
    obtain ⟨r0,r0'⟩:=r00;refine ⟨r0,r0',?_⟩;by_cases hpq:p=q
    ·subst hpq;have hab:(D.lst ds)=(.lst es):=Rep.inj (n+1) (by rw [D.b8];exact ha) (by rw [D.b8];exact hb) rx ry;rw [<-hab,vO (n+1) _ (by rw [D.b8];exact ha)];exact EqAt.same _
    ·exact EqAt.of_refs hpq r0
end
end Mi
end
section
namespace Mi
open PySem L2 PySem.SeqAt
open PySem.AutoSeq1 (wpAny_loadPart')
open PySem.MeetsSeq PySem.MeetsSeq2 PySem.MeetsSeq3
variable [KFrag]
section
variable {X:Cx} {pins:List (Addr×Obj)} {σ:St} {H:Hp} {s:Shared}
end
end Mi
end
section
namespace TS
open PySem PyProof.Rows
end TS
end
section
namespace Mi
open PySem L2 PySem.SeqAt
open PyProof.Rows (Keyed lt' keyLt' oneLt' SortKind SortSt kindOf tuples' oneType' pairsOf wpS wpS_bind wpS_pure wpS_get wpS_lift keyKind')
variable [KFrag]
section
variable {X:Cx} {pins:List (Addr×Obj)} {σ:L2.St} {H:Hp} {s:Shared}
end
end Mi
end
section
namespace Mi
open PySem L2 PySem.SeqAt PySem.Spec PyProof.Rows
variable [KFrag]
noncomputable def kR (H:Hp) (d:D) (fr:Bool) (Q:VK):Prop:=∀v H',cJ H H'->Rep All H' v d->(fr=true->Rep (New H) H' v d)->Q v H'
def gE (f:FE) (fr:Bool):TE:=fun σ H Q=>∃ρ d,ER H σ ρ/\f ρ=.ok d/\kR H d fr Q
def gT (f:FT):TT:=fun σ H Q=>∃ρ b,ER H σ ρ/\f ρ=.ok b/\∀H',cJ H H'->Q b H'
noncomputable def gA (f:FA) (fr:Bool):TA:=fun σ H Q=>∃ρ ds,ER H σ ρ/\f ρ=.ok ds/\∀vs H',cJ H H'->bR All H' vs ds->(fr=true->bR (New H) H' vs ds)->Q vs H'
theorem kR.self {H:Hp} {d:D} {fr:Bool} {Q:VK} {v:V} (q:kR H d fr Q) (r:Rep All H v d) (r2:fr=true->Rep (New H) H v d):Q v H:=q v H (cJ.refl H) r r2
theorem kR.imp {H H':Hp} {d:D} {fr fr':Bool} {Q:VK} (q:kR H d fr Q) (s:cJ H H') (h:fr=true->fr'=true):kR H' d fr' Q:=fun v H2 s2 r n=>q v H2 (s.trans s2) r fun hf=>(n (h hf)).mono (cJ.new s)
theorem kR.int {H:Hp} {i:Int} {fr:Bool} {Q:VK} (q:kR H (.int i) fr Q):Q (.int i) H:=q.self (.int i) fun _=>.int i
theorem kR.bl {H:Hp} {i:Bool} {fr:Bool} {Q:VK} (q:kR H (.bl i) fr Q):Q (.bl i) H:=q.self (.bl i) fun _=>.bl i
theorem kR.str {H:Hp} {i:Str} {fr:Bool} {Q:VK} (q:kR H (.str i) fr Q):Q (.str i) H:=q.self (.str i) fun _=>.str i
theorem kR.non {H:Hp} {fr:Bool} {Q:VK} (q:kR H .non fr Q):Q .non H:=q.self .non fun _=>.non
noncomputable def r2 (f:D->D->Res D) (fr:Bool):R2:=fun x y H Q=>∃a b d,Rep All H x a/\Rep All H y b/\f a b=.ok d/\kR H d fr Q
noncomputable def r1 (f:D->Res D) (fr:Bool):V->Hp->VK->Prop:=fun x H Q=>∃a d,Rep All H x a/\f a=.ok d/\kR H d fr Q
noncomputable def rs (f:List D->Res D) (fr:Bool):List V->Hp->VK->Prop:=fun xs H Q=>∃ds d,bR All H xs ds/\f ds=.ok d/\kR H d fr Q
noncomputable def rm (f:D->List D->Res D) (fr:Bool):V->List V->Hp->VK->Prop:=fun x xs H Q=>∃a ds d,Rep All H x a/\bR All H xs ds/\f a ds=.ok d/\kR H d fr Q
theorem aY {α β:Type} {m:Res α} {f:α->Res β} {b:β} (h:(do let x <- m;f x)=.ok b):∃a,m=.ok a/\f a=.ok b:=Res.aC1 h
section
variable {X:Cx} {a b c e:Expr} {pos:Pos} {fa fb fc fe:FE} {ra rb rc re:Bool} {ga gb gc:FT}
theorem ER.var {H:Hp} {σ:L2.St} {ρ:List D} {i:Nat} {d:D} (E:ER H σ ρ) (h:cL i ρ=.ok d):∃v,σ[i]?=some (some v)/\Rep All H v d/\ρ.getD i .uD=d:=by
 have:ρ.getD i .uD=d/\d≠.uD:=by
  unfold cL at h;split at h
  ·cases h
  ·cases h;refine ⟨rfl,fun z=>?_⟩;rename_i q;exact q z
 obtain ⟨e1,e2⟩:=this;obtain ⟨v,h1,h2⟩:=E i (by rw [e1];exact e2);exact ⟨v,h1,by rw [e1] at h2;exact h2,e1⟩
theorem aA {i:Nat} {x:Str} (hN:X.N[i]?=some x:=by exact rfl) (hv:Vis X.env.scope x:=by trivial) (hd:nDb x:=by decide) (hcd:nCd x:=by decide):PE X (.Name x pos) (gE (cL i) false):=
 PE.imp (cU hN hv hd hcd) fun σ H Q ⟨ρ,d,E,h,q⟩=>by
  obtain ⟨v,h1,h2,_⟩:=E.var h;exact ⟨v,h1,q.self h2 (fun z=>by cases z)⟩
theorem aH {i j}:PE X (.Constant (.int i) j pos) (gE (bC (.int i)) true):=PE.imp aEj fun σ H Q ⟨ρ,d,E,h,q⟩=>by cases h;exact q.int
theorem MF {i j}:PE X (.Constant (.bool i) j pos) (gE (bC (.bl i)) true):=PE.imp aIg fun σ H Q ⟨ρ,d,E,h,q⟩=>by cases h;exact q.bl
theorem cX {i j}:PE X (.Constant (.str i) j pos) (gE (bC (.str i)) true):=PE.imp Z8 fun σ H Q ⟨ρ,d,E,h,q⟩=>by cases h;exact q.str
theorem aFi {j}:PE X (.Constant .none j pos) (gE (bC .non) true):=PE.imp aEk fun σ H Q ⟨ρ,d,E,h,q⟩=>by cases h;exact q.non
theorem two {f:D->D->Res D} {fr:Bool} {σ:L2.St} {H:Hp} {Q:VK} (h:gE (b2 f fa fb) fr σ H Q):tOp (r2 f fr) (gE fa ra) (gE fb rb) σ H Q:=by
 obtain ⟨ρ,d,E,h,q⟩:=h;obtain ⟨x,h1,h⟩:=aY h;obtain ⟨y,h2,h⟩:=aY h;refine ⟨ρ,x,E,h1,fun v H1 s1 rp1 _=>⟨ρ,y,E.same s1,h2,fun u H2 s2 rp2 _=>⟨x,y,d,rp1.same s2,rp2,h,q.imp (s1.trans s2) id⟩⟩⟩
theorem aV {o:Operator} {f:D->D->Res D} {fr:Bool} (ho:OpR X (binaryOp o) (r2 f fr)) (ha:PE X a (gE fa ra)) (hb:PE X b (gE fb rb)):PE X (.BinOp a o b pos) (gE (b2 f fa fb) fr):=PE.imp (aEu ho ha hb) fun _ _ _=>two
theorem rZ {o:CmpOp} {f:D->D->Res D} {fr:Bool} (ho:OpR X (compareOp o) (r2 f fr)) (ha:PE X a (gE fa ra)) (hb:PE X b (gE fb rb)) (hm:behindInMarks o b=false):PE X (.Compare a [o] [b] pos) (gE (b2 f fa fb) fr):=PE.imp (aBl ho ha hb hm) fun _ _ _=>two
theorem bY {o:CmpOp} {f:D->D->Res D} {fr:Bool} (ho:OpR X (compareOp o) (r2 f fr)) (ha:PE X a (gE fa ra)) (hb:PE X b (gE fb rb)) (hm:behindInMarks o b=false):PT X (.Compare a [o] [b] pos) (gT (bTB (b2 f fa fb))):=
 PT.imp (O9 ho ha hb hm) fun σ H Q ⟨ρ,k,E,h,q⟩=>by
  obtain ⟨d,h1,h2⟩:=aY h;refine two ⟨ρ,d,E,h1,fun v H' s r _=>?_⟩;cases d <;> simp only [asB] at h2 <;> cases h2
  cases r;exact ⟨_,rfl,q H' s⟩
theorem aIy {o:UnaryOp} {f:D->Res D} {fr:Bool} (ho:UnR X (unaryOp o) (r1 f fr)) (ha:PE X a (gE fa ra)):PE X (.UnaryOp o a pos) (gE (b1 f fa) fr):=
 PE.imp (aIo ho ha) fun σ H Q ⟨ρ,d,E,h,q⟩=>by
  obtain ⟨x,h1,h⟩:=aY h;exact ⟨ρ,x,E,h1,fun v H1 s1 rp1 _=>⟨x,d,rp1,h,q.imp s1 id⟩⟩
theorem aIz {f:D->D->Res D} {fr:Bool} (ho:IxR X (r2 f fr)) (ha:PE X a (gE fa ra)) (hb:PE X b (gE fb rb)) (hs:rQ b):PE X (.Subscript a b pos) (gE (b2 f fa fb) fr):=PE.imp (aBu ho ha hb hs) fun _ _ _=>two
theorem aL6 {H:Hp} {v:V} {d:D} {k:Bool} (r:Rep All H v d) (h:aIw d=.ok k) (hd:∀kvs,d≠.dct kvs) (hs:∀xs,d≠.scr xs):aIr X.K v H k:=by
 cases r with
 | non=>cases h;rfl
 | bl b=>cases h;rfl
 | int i=>cases h;rfl
 | str x=>
  simp only [aIw] at h;split at h
  ·rename_i hl;cases h;exact ⟨Nat.le_trans (of_decide_eq_true hl) (by rw [sizeLine_eq];decide),rfl⟩
  ·cases h
 | tup e rr=>cases h;exact .inr (.inl ⟨_,.of e,by cases rr <;> rfl⟩)
 | lst e p rr=>cases h;exact .inl ⟨_,.of e,by cases rr <;> rfl⟩
 | frz e rr=>exact absurd rfl (hs _)
 | dK e p rr n=>exact absurd rfl (hd _)
 | dT e p rr n=>exact absurd rfl (hd _)
 | fdK e rr n=>cases h
 | fdT e rr n=>cases h
 | exc n e q=>cases h
 | cel e p rr=>cases h
theorem nF (ha:PE X a (gE fa ra)) (he:∀whole,isTrue a X.env whole=(do let v <- whole;standAt a.pos;holding [v] (truthy v)):=by intro _;rfl):PT X a (gT (bTr fa)):=
 PT.imp (WW ha he) fun σ H Q ⟨ρ,k,E,h,q⟩=>by
  obtain ⟨d,h1,h2⟩:=aY h;refine ⟨ρ,d,E,h1,fun v H' s r _=>⟨k,aL6 r ?_ ?_ ?_,q H' s⟩⟩
  ·cases d <;> first|exact h2|cases h2
  ·rintro kvs rfl;cases h2
  ·rintro kvs rfl;cases h2
theorem uX (ha:PT X a (gT ga)):PT X (.UnaryOp .Not a pos) (gT (z8 ga)):=PT.imp (aEo ha) fun σ H Q ⟨ρ,k,E,h,q⟩=>by
  obtain ⟨d,h1,h2⟩:=aY h;cases h2;exact ⟨ρ,d,E,h1,fun H' s=>q H' s⟩
theorem HB {op} (ha:PE X a (gE fa ra)):PE X (.BoolOp op [a] pos) (gE fa ra):=aEp ha
theorem HF {d:D} {k:Bool} (h:asB d=.ok k):d=.bl k:=by cases d <;> simp only [asB] at h <;> cases h;rfl
theorem aFj {d:D} {k:Int} (h:asI d=.ok k):d=.int k:=by cases d <;> simp only [asI] at h <;> cases h;rfl
theorem QX {rest:List Expr} (ha:PE X a (gE fa ra)) (hb:PE X (.BoolOp .And (b::rest) pos) (gE fb rb)):PE X (.BoolOp .And (a::b::rest) pos) (gE (uE fa fb) rb):=PE.imp (aEq ha hb) fun σ H Q ⟨ρ,k,E,h,q⟩=>by
  obtain ⟨d,h1,h⟩:=aY h;obtain ⟨z,h2,h3⟩:=aY h;cases HF h2;refine ⟨ρ,_,E,h1,fun v H' s r _=>?_⟩;cases r;refine ⟨_,rfl,?_⟩;cases z with
  | true=>rw [if_pos rfl];rw [if_pos rfl] at h3;exact ⟨ρ,k,E.same s,h3,q.imp s id⟩
  | false=>rw [if_neg (by simp)];rw [if_neg (by simp)] at h3;cases h3;exact (q.imp s id).bl
theorem aJ0 {rest:List Expr} (ha:PE X a (gE fa ra)) (hb:PE X (.BoolOp .Or (b::rest) pos) (gE fb rb)):PE X (.BoolOp .Or (a::b::rest) pos) (gE (aC5 fa fb) rb):=PE.imp (aIj ha hb) fun σ H Q ⟨ρ,k,E,h,q⟩=>by
  obtain ⟨d,h1,h⟩:=aY h;obtain ⟨z,h2,h3⟩:=aY h;cases HF h2;refine ⟨ρ,_,E,h1,fun v H' s r _=>?_⟩;cases r;refine ⟨_,rfl,?_⟩;cases z with
  | true=>rw [if_pos rfl];rw [if_pos rfl] at h3;cases h3;exact (q.imp s id).bl
  | false=>rw [if_neg (by simp)];rw [if_neg (by simp)] at h3;exact ⟨ρ,k,E.same s,h3,q.imp s id⟩
theorem aN:PA X [] (gA aP true):=PA.imp iQ fun σ H Q ⟨ρ,ds,E,h,q⟩=>by cases h;exact q [] H (cJ.refl H) .nil fun _=>.nil
theorem aC {es:List Expr} {f:FA} {r:Bool} (he:PE X e (gE fe re)) (hes:PA X es (gA f r)) (hs:starEach (e::es) X.env=(false,eval e X.env)::starEach es X.env:=by rfl):PA X (e::es) (gA (aB fe f) (re&&r)):=PA.imp (bG he hes hs) fun σ H Q ⟨ρ,ds,E,h,q⟩=>by
  obtain ⟨x,h1,h⟩:=aY h;obtain ⟨xs,h2,h⟩:=aY h;cases h;refine ⟨ρ,x,E,h1,fun v H1 s1 r1 n1=>⟨ρ,xs,E.same s1,h2,fun vs H2 s2 r2 n2=>q _ _ (s1.trans s2) (.cons (r1.same s2) r2) fun hf=>?_⟩⟩;obtain ⟨f1,f2⟩:=(Bool.and_eq_true _ _▸hf:re=true/\r=true)
  exact .cons ((n1 f1).same s2) ((n2 f2).mono (cJ.new s1))
theorem iR {es:List Expr} {f:FA} {r:Bool} {x1} (h:PA X es (gA f r)):PE X (.Tuple es x1 pos) (gE (lO f) r):=PE.imp (aA2 h) fun σ H Q ⟨ρ,d,E,h,q⟩=>by
  obtain ⟨xs,h1,h⟩:=aY h;split at h
  ·rename_i hl;cases h;refine ⟨ρ,xs,E,h1,fun vs H1 s1 r1 n1=>⟨?_,fun p hp=>?_⟩⟩
   ·rw [r1.length];exact Nat.le_trans (of_decide_eq_true hl) (by rw [sizeLine_eq];decide)
   ·have sp:cJ H1 (upd H1 p (.tup vs)):=cJ.upd hp;exact q _ _ (s1.trans sp) (.tup aL (r1.same sp)) fun hf=>.tup aL ((n1 hf).same sp)
  ·cases h
theorem eF {es:List Expr} {f:FA} {r:Bool} (h:PA X es (gA f r)):PE X (.List es pos) (gE (iI f) r):=PE.imp (aA3 h) fun σ H Q ⟨ρ,d,E,h,q⟩=>by
  obtain ⟨xs,h1,h⟩:=aY h;split at h
  ·rename_i hl;cases h;refine ⟨ρ,xs,E,h1,fun vs H1 s1 r1 n1=>⟨?_,fun p hp=>?_⟩⟩
   ·rw [r1.length];exact Nat.le_trans (of_decide_eq_true hl) (by rw [sizeLine_eq];decide)
   ·have sp:cJ H1 (upd H1 p (.lst vs)):=cJ.upd hp;exact q _ _ (s1.trans sp) (.lst aL trivial (r1.same sp)) fun hf=>.lst aL (s1.free hp) ((n1 hf).same sp)
  ·cases h
theorem vP:PE X (.Dict [] [] pos) (gE (bC (.dct [])) true):=PE.imp W6 fun σ H Q ⟨ρ,d,E,h,q⟩=>by
  cases h;exact fun p hp=>q _ _ (cJ.upd hp) (.dK aL trivial .nil List.nodup_nil) fun _=>.dK aL hp .nil List.nodup_nil
end
section
variable {X:Cx} {a b c e:Expr} {pos:Pos} {fa fb fc fe:FE} {ra rb rc re:Bool} {ga gb gc:FT}
theorem lF {n:Nat} (h:decide (n<=lim)=true):n<=sizeLine:=Nat.le_trans (of_decide_eq_true h) (by rw [sizeLine_eq];decide)
theorem aA9 {n:Nat} (h:decide (n<lim)=true):n<sizeLine:=Nat.lt_of_lt_of_le (of_decide_eq_true h) (by rw [sizeLine_eq];decide)
theorem Rep.aFk {P:Addr->Prop} {H:Hp} {v:V} {ds:List D} (r:Rep P H v (.lst ds)):∃a xs,v=.ref a/\Rd H a (.lst xs)/\bR P H xs ds:=by
 cases r with
 | lst e p rr=>exact ⟨_,_,rfl,.inl e,rr⟩
theorem PW.imp {X:Cx} {e:PySem.Expr} {t t':TT} (h:PW X e t) (i:∀σ H Q,t' σ H Q->t σ H Q):PW X e t':=fun wh pins s σ H Q I q=>h wh pins s σ H Q I (i σ H Q q)
theorem sE (ha:PT X a (gT ga)):PW X (.BoolOp .And [a] pos) (gT ga):=aBg ha
theorem qJ (ha:PT X a (gT ga)):PW X (.BoolOp .Or [a] pos) (gT ga):=aEm ha
theorem uY {rest:List Expr} (ha:PT X a (gT ga)) (hb:PW X (.BoolOp .And (b::rest) pos) (gT gb)):PW X (.BoolOp .And (a::b::rest) pos) (gT (z9 ga gb)):=PW.imp (aEn ha hb) fun σ H Q ⟨ρ,k,E,h,q⟩=>by
 obtain ⟨z,h1,h3⟩:=aY h;refine ⟨ρ,z,E,h1,fun H' s=>?_⟩;cases z with
 | true=>rw [if_pos rfl];rw [if_pos rfl] at h3;exact ⟨ρ,k,E.same s,h3,fun H2 s2=>q H2 (s.trans s2)⟩
 | false=>rw [if_neg (by simp)];rw [if_neg (by simp)] at h3;cases h3;exact q H' s
theorem yF {rest:List Expr} (ha:PT X a (gT ga)) (hb:PW X (.BoolOp .Or (b::rest) pos) (gT gb)):PW X (.BoolOp .Or (a::b::rest) pos) (gT (bOr ga gb)):=PW.imp (aIh ha hb) fun σ H Q ⟨ρ,k,E,h,q⟩=>by
 obtain ⟨z,h1,h3⟩:=aY h;refine ⟨ρ,z,E,h1,fun H' s=>?_⟩;cases z with
 | true=>rw [if_pos rfl];rw [if_pos rfl] at h3;cases h3;exact q H' s
 | false=>rw [if_neg (by simp)];rw [if_neg (by simp)] at h3;exact ⟨ρ,k,E.same s,h3,fun H2 s2=>q H2 (s.trans s2)⟩
theorem aFl {f g:D->D->Res D} {r r':Bool} {σ:L2.St} {H:Hp} {Q:VK} (h:gE (bCh f g fa fb fc) r' σ H Q):aA1 (r2 f r) (r2 g r') (gE fa ra) (gE fb rb) (gE fc rc) σ H Q:=by
 obtain ⟨ρ,d,E,h,q⟩:=h;obtain ⟨x,h1,h⟩:=aY h;obtain ⟨y,h2,h⟩:=aY h;obtain ⟨z,h3,h⟩:=aY h;obtain ⟨k,h4,h7⟩:=aY h;refine ⟨ρ,x,E,h1,fun v H1 s1 rp1 _=>⟨ρ,y,E.same s1,h2,fun u H2 s2 rp2 _=>⟨x,y,z,rp1.same s2,rp2,h3,fun t H3 s3 rp3 _=>?_⟩⟩⟩;have e:=HF h4;subst e;cases rp3;refine ⟨k,rfl,?_⟩;have s13:=(s1.trans s2).trans s3;cases k with
 | true=>
  rw [if_pos rfl];rw [if_pos rfl] at h7;obtain ⟨w,h5,h6⟩:=aY h7;exact ⟨ρ,w,E.same s13,h5,fun t H4 s4 rp4 _=>⟨y,w,d,(rp2.same s3).same s4,rp4,h6,q.imp (s13.trans s4) id⟩⟩
 | false=>
  rw [if_neg (by simp)];rw [if_neg (by simp)] at h7;cases h7;exact (q.imp s13 id).bl
theorem HH {o o':CmpOp} {f g:D->D->Res D} {r r':Bool} (ho:OpR X (compareOp o) (r2 f r)) (ho':OpR X (compareOp o') (r2 g r')) (ha:PE X a (gE fa ra)) (hb:PE X b (gE fb rb)) (hc:PE X c (gE fc rc))
  (hm:lastMarks [o,o'] [b,c]=false:=by with_unfolding_all rfl):PE X (.Compare a [o,o'] [b,c] pos) (gE (bCh f g fa fb fc) r'):=PE.imp (WT ho ho' ha hb hc hm) fun _ _ _=>aFl
theorem bI:OpR X (binaryOp .Add) (r2 (aO .add) true):=by
 intro pins s σ H x y v u Q I rx ry h;obtain ⟨a,b,d,p,q,e,k⟩:=h;cases p with
 | int i=>
  cases q with
  | int j=>cases e;exact aEv pins s σ H _ _ v u Q I rx ry ⟨i,j,rfl,rfl,k.int⟩
  | _=>simp [aO] at e
 | str i=>
  cases q with
  | str j=>
   simp only [aO] at e;split at e
   ·rename_i hl;cases e;exact K4 pins s σ H _ _ v u Q I rx ry ⟨i,j,rfl,rfl,lF hl,k.str⟩
   ·cases e
  | _=>simp [aO] at e
 | non=>simp [aO] at e
 | bl _=>simp [aO] at e
 | tup _ _=>simp [aO] at e
 | dK _ _ _ _=>simp [aO] at e
 | dT _ _ _ _=>simp [aO] at e
 | fdK _ _ _=>simp [aO] at e
 | fdT _ _ _=>simp [aO] at e
 | exc _ _ _=>simp [aO] at e
 | cel _ _ _=>simp [aO] at e
 | @lst a1 xs ds e1 p1 r1=>
  have hR:Rep All H (.ref a1) (.lst ds):=.lst e1 p1 r1;cases b with
  | lst es=>
   simp only [aO] at e;split at e
   ·rename_i hl;cases e;rw [Bool.and_eq_true,Bool.and_eq_true] at hl;obtain ⟨⟨hl,hp1⟩,hp2⟩:=hl;obtain ⟨l1,xs1,e1',rd1,rr1⟩:=hR.aFk;obtain ⟨l2,xs2,rfl,rd2,rr2⟩:=q.aFk;cases e1';cases rx;cases ry;obtain ⟨z,its,n,vr1,ee1⟩:=rd1.ok I.hok;obtain ⟨z2,its2,n2,vr2,ee2⟩:=rd2.ok I.hok;have hz:xs1.length+xs2.length<=sizeLine:=by rw [rr1.length,rr2.length];exact lF hl
    have t1:=vr1.length;have t2:=vr2.length;refine PySem.P.add_list ee1 ee2 ?_ (by rw [List.size_toArray,List.size_toArray];lia);have ea:its.toArray++its2.toArray=(its++its2).toArray:=by simp
    rw [ea];refine ⟨.ref _,_,I.aK3 (t':=s.toks) (vr1.append vr2) (by rw [List.length_append];lia),rfl,?_⟩;have sp:cJ H (upd H s.heap.objs.size (.lst (xs1++xs2))):=cJ.upd I.fresh;exact k _ _ sp (.lst aL trivial ((rr1.append rr2).same sp)) fun _=>.lst aL I.fresh (((rr1.bL hp1).append (rr2.bL hp2)).same sp)
   ·cases e
  | _=>simp [aO] at e
 | frz _ _=>simp [aO] at e
theorem CG {f:Value->Value->Sem Value} {C:Int->Int->Prop} {g:Int->Int->V} {op:D->D->Res D} (h:OpR X f (rI C g))
  (hi:∀i j d,op (.int i) (.int j)=.ok d->C i j/\∃k,d=.int k/\g i j=.int k) (hn:∀a b d,op a b=.ok d->(∃i,a=.int i)/\∃j,b=.int j):OpR X f (r2 op true):=by
 intro pins s σ H x y v u Q I rx ry ⟨a,b,d,p,q,e,k⟩;obtain ⟨⟨i,rfl⟩,⟨j,rfl⟩⟩:=hn a b d e;cases p;cases q;obtain ⟨hc,m,rfl,hm⟩:=hi i j d e;exact h pins s σ H _ _ v u Q I rx ry ⟨i,j,rfl,rfl,hc,by rw [hm];exact k.int⟩
theorem yG:OpR X (binaryOp .Sub) (r2 (aO .sub) true):=by
 intro pins s σ H x y v u Q I rx ry ⟨a,b,d,p,q,e,k⟩;cases a <;> cases b <;> simp [aO] at e
 cases p;cases q;subst e;exact aEw pins s σ H _ _ v u Q I rx ry ⟨_,_,rfl,rfl,k.int⟩
theorem aFm:OpR X (binaryOp .Mult) (r2 (aO .mul) true):=by
 refine CG aEx (fun i j d e=>?_) fun a b d e=>?_
 ·simp only [aO] at e;split at e
  ·rename_i hl;cases e;refine ⟨?_,_,rfl,rfl⟩;simp only [lN,Bool.or_eq_true,Bool.and_eq_true,decide_eq_true_eq] at hl;exact hl
  ·cases e
 ·cases a <;> cases b <;> first|exact ⟨⟨_,rfl⟩,_,rfl⟩|simp [aO] at e
theorem cQ:OpR X (binaryOp .FloorDiv) (r2 (aO .fdiv) true):=by
 refine CG aBk (fun i j d e=>?_) fun a b d e=>?_
 ·simp only [aO] at e;split at e
  ·rename_i hl;cases e;refine ⟨?_,_,rfl,rfl⟩;simp only [Bool.and_eq_true,decide_eq_true_eq] at hl;exact hl
  ·cases e
 ·cases a <;> cases b <;> first|exact ⟨⟨_,rfl⟩,_,rfl⟩|simp [aO] at e
theorem bU:OpR X (binaryOp .Mod) (r2 (aO .mod) true):=by
 refine CG aEy (fun i j d e=>?_) fun a b d e=>?_
 ·simp only [aO] at e;split at e
  ·rename_i hl;cases e;refine ⟨?_,_,rfl,rfl⟩;simp only [Bool.and_eq_true,decide_eq_true_eq] at hl;exact hl
  ·cases e
 ·cases a <;> cases b <;> first|exact ⟨⟨_,rfl⟩,_,rfl⟩|simp [aO] at e
theorem aFn:UnR X (unaryOp .USub) (r1 aI2 true):=by
 intro pins s σ H x v Q I rx ⟨a,d,p,e,k⟩;cases a <;> simp [aI2] at e
 subst e;cases p;exact aEz pins s σ H _ v Q I rx ⟨_,rfl,k.int⟩
theorem iJ (hu:X.A.units+20<cLine):OpR X (compareOp .Eq) (r2 (cC .eq) true):=by
 intro pins s σ H x y v u Q I rx ry ⟨a,b,d,p,q,e,k⟩;simp only [cC] at e;split at e
 ·rename_i hl;cases e;rw [Bool.and_eq_true] at hl;exact (QW I aZ X.A (by have:aZ=12:=rfl;lia) hl.1 hl.2 p q rx ry).1 X.prog X.w X.xe _ ⟨.bl _,H,I,rfl,k.bl⟩
 ·cases e
theorem uG (hu:X.A.units+20<cLine):OpR X (compareOp .NotEq) (r2 (cC .ne) true):=by
 intro pins s σ H x y v u Q I rx ry ⟨a,b,d,p,q,e,k⟩;simp only [cC] at e;split at e
 ·rename_i hl;cases e;rw [Bool.and_eq_true] at hl;exact (QW I aZ X.A (by have:aZ=12:=rfl;lia) hl.1 hl.2 p q rx ry).2.1 X.prog X.w X.xe _ ⟨.bl _,H,I,rfl,k.bl⟩
 ·cases e
end
theorem XQ (k q:Key):eqD (kD k) (kD q)=decide (k=q):=by
 cases k <;> cases q <;> simp [kD,eqD,Bool.beq_eq_decide_eq]
theorem aAa:∀(k q:List Key),xY (k.map kD) (q.map kD)=decide (k=q)
 | [],[]=>by simp [xY]
 | [],_::_=>by simp [xY]
 | _::_,[]=>by simp [xY]
 | a::k,b::q=>by
  rw [List.map_cons,List.map_cons,xY,XQ,aAa k q];by_cases h:a=b <;> by_cases h':k=q <;> simp [h,h']
theorem aC8 (k q:List Key):eqD (.tup (k.map kD)) (.tup (q.map kD))=decide (k=q):=by rw [eqD,aAa]
theorem aC9 {P:Addr->Prop} {H:Hp} {k:Key}:∀{kvs:List (Key×V)} {ds:List (D×D)},oY P H kvs ds->(∃v d,uV kvs k=some v/\dU ds (kD k)=some d/\Rep P H v d)\/(uV kvs k=none/\dU ds (kD k)=none)
 | _,_,.nil=>.inr ⟨rfl,rfl⟩
 | _,_,.cons (k:=k') r t=>by
  by_cases h:k'=k
  ·subst h;exact .inl ⟨_,_,oU rfl,by rw [dU,XQ,if_pos (by simp)],r⟩
  ·rw [dU,XQ,if_neg (by simpa using h),oV (p:=(k',_)) h];exact aC9 t
theorem aCa {P:Addr->Prop} {H:Hp} {k:List Key}:∀{kvs:List (List Key×V)} {ds:List (D×D)},pO P H kvs ds->(∃v d,uV kvs k=some v/\dU ds (.tup (k.map kD))=some d/\Rep P H v d)\/(uV kvs k=none/\dU ds (.tup (k.map kD))=none)
 | _,_,.nil=>.inr ⟨rfl,rfl⟩
 | _,_,.cons (k:=k') r t=>by
  by_cases h:k'=k
  ·subst h;exact .inl ⟨_,_,oU rfl,by rw [dU,aC8,if_pos (by simp)],r⟩
  ·rw [dU,aC8,if_neg (by simpa using h),oV (p:=(k',_)) h];exact aCa t
theorem vQ {H:Hp} {v:V} {d:D} (h:vL d=true) (r:Rep All H v d):∃k,v=kV k/\d=kD k:=by
 cases r <;> simp [vL] at h
 ·exact ⟨.inl _,rfl,rfl⟩
 ·exact ⟨.inr _,rfl,rfl⟩
theorem flat_keys {H:Hp}:∀{vs:List V} {ds:List D},ds.all vL=true->bR All H vs ds->∃ks:List Key,vs=ks.map kV/\ds=ks.map kD
 | _,_,_,.nil=>⟨[],rfl,rfl⟩
 | _,_,h,.cons r t=>by
  rw [List.all_cons,Bool.and_eq_true] at h;obtain ⟨k,rfl,rfl⟩:=vQ h.1 r;obtain ⟨ks,rfl,rfl⟩:=flat_keys h.2 t;exact ⟨k::ks,rfl,rfl⟩
theorem kE {H:Hp} {y:V} {k:D} (h:keyOk k=true) (r:Rep All H y k):(∃q,y=kV q/\k=kD q)\/∃(b:Addr) (ks:List Key),y=.ref b/\H b=some (.tup (ks.map kV))/\k=.tup (ks.map kD):=by
 cases k <;> simp [keyOk] at h
 ·exact .inl (vQ rfl r)
 ·exact .inl (vQ rfl r)
 ·obtain ⟨a,xs,rfl,e,rr⟩:=r.iV;obtain ⟨ks,rfl,rfl⟩:=flat_keys (List.all_eq_true.mpr h) rr;exact .inr ⟨a,ks,rfl,e,rfl⟩
theorem mX (k:Key):isTup (kD k)=false:=by cases k <;> rfl
section
variable {X:Cx} {pins:List (Addr×Obj)} {σ:L2.St} {H:Hp} {s:Shared} {a:Addr}
theorem vR {o o':HO} (e:H a=some o):upd (upd H a o') a o=H:=by
 rw [BJ]
 funext b
 by_cases h:b=a
 ·subst h;rw [aL,e]
 ·rw [bB h]
theorem mY (I:Inv X pins σ H s) (e:H a=some (.dK [])):Inv X pins σ (upd H a (.dT [])) s:=by
 obtain ⟨z,hd,vs,rel,o,es,ep,h1,h2,h3,h4,h5,h6⟩:=W4 I.hok e;cases rel;refine I.write (t':=s.toks) (x:=a) (e:=a) (h':=s.heap) (by rw [e];trivial) (.inl rfl) (fun _ _ _ q=>q) ⟨o,h1⟩ ?_;refine ⟨Nat.zero_le _,hd,[],.nil,o,es,ep,h1,h2,h3,?_,List.nodup_nil⟩;cases h5':es.toList with
 | nil=>rfl
 | cons _ _=>rw [h5'] at h5;cases h5
theorem mZ (I:Inv X pins σ H s) (e:H a=some (.dT [])):Inv X pins σ (upd H a (.dK [])) s:=by
 obtain ⟨z,hd,vs,rel,o,es,ep,h1,h2,h3,h4,h5,h6⟩:=aBx I.hok e;cases rel;refine I.write (t':=s.toks) (x:=a) (e:=a) (h':=s.heap) (by rw [e];trivial) (.inl rfl) (fun _ _ _ q=>q) ⟨o,h1⟩ ?_;have h0:es.toList=[]:=h4;refine ⟨Nat.zero_le _,hd,[],.nil,o,es,ep,h1,h2,h3,?_,?_,List.nodup_nil⟩
 ·intro x hx;have:x∈es.toList:=by simpa using hx
  rw [h0] at this;cases this
 ·rw [h0];exact .nil
theorem HJ {P:Addr->Prop}:∀{kvs:List (Key×V)} {ds:List (D×D)},oY P H kvs ds->∀p∈ds,isTup p.1=false
 | _,_,.nil,_,h=>by cases h
 | _,_,.cons r t,p,h=>by
  rcases List.mem_cons.mp h with rfl|h
  ·exact mX _
  ·exact HJ t p h
theorem HN {P:Addr->Prop}:∀{kvs:List (List Key×V)} {ds:List (D×D)},pO P H kvs ds->∀p∈ds,isTup p.1=true
 | _,_,.nil,_,h=>by cases h
 | _,_,.cons r t,p,h=>by
  rcases List.mem_cons.mp h with rfl|h
  ·rfl
  ·exact HN t p h
theorem aCb {x y:V} {ds:List (D×D)} {k:D} (I:Inv X pins σ H s) (rd:Rep All H x (.dct ds)) (rk:Rep All H y k) (hk:LC ds k=true) :
  ∃H1 a o,x=.ref a/\Inv X pins σ H1 s/\(∀s',Inv X pins σ H1 s'->Inv X pins σ H s')/\QC H1 a y o/\((o=none/\dU ds k=none)\/∃v d,o=some v/\dU ds k=some d/\Rep All H v d):=by
 unfold LC at hk;rw [Bool.and_eq_true] at hk;obtain ⟨h1,h2⟩:=hk;cases rd with
 | @dK a kvs ds e _ r n=>
  rcases kE h1 rk with ⟨q,rfl,rfl⟩|⟨b,ks,rfl,eb,rfl⟩
  ·refine ⟨H,a,_,rfl,I,fun _ h=>h,.k e,?_⟩;rcases aC9 (k:=q) r with ⟨v,d,g1,g2,g3⟩|⟨g1,g2⟩
   ·exact .inr ⟨v,d,g1,g2,g3⟩
   ·exact .inl ⟨g1,g2⟩
  ·cases r with
   | nil=>
    have e2:=vR (o':=.dT []) e;refine ⟨upd H a (.dT []),a,none,rfl,mY I e,fun s' I'=>?_,.t (k:=ks) aL (by rw [bB (aBe eb e (by intro z;cases z))];exact eb),.inl ⟨rfl,rfl⟩⟩;have:=mZ I' aL;rwa [e2] at this
   | cons r t=>
    rw [List.all_cons,mX] at h2;simp [isTup] at h2
 | @dT a kvs ds e _ r n=>
  rcases kE h1 rk with ⟨q,rfl,rfl⟩|⟨b,ks,rfl,eb,rfl⟩
  ·cases r with
   | nil=>
    have e2:=vR (o':=.dK []) e;refine ⟨upd H a (.dK []),a,none,rfl,mZ I e,fun s' I'=>?_,.k (k:=q) aL,.inl ⟨rfl,rfl⟩⟩;have:=mY I' aL;rwa [e2] at this
   | cons r t=>
    rw [List.all_cons,mX] at h2;simp [isTup] at h2
  ·refine ⟨H,a,_,rfl,I,fun _ h=>h,.t e eb,?_⟩;rcases aCa (k:=ks) r with ⟨v,d,g1,g2,g3⟩|⟨g1,g2⟩
   ·exact .inr ⟨v,d,g1,g2,g3⟩
   ·exact .inl ⟨g1,g2⟩
theorem XR {x:V} {ds:List (D×D)} {k d:D} (rd:Rep All H x (.dct ds)) (hk:keyOk k=true) (h:dU ds k=some d):LC ds k=true:=by
 have one:∀{ds:List (D×D)},dU ds k=some d->∃p∈ds,eqD p.1 k=true:=by
  intro ds;induction ds with
  | nil=>intro h;cases h
  | cons p ds ih=>
   intro h;obtain ⟨p1,p2⟩:=p;rw [dU] at h;by_cases hq:eqD p1 k=true
   ·exact ⟨_,List.mem_cons_self ..,hq⟩
   ·rw [if_neg hq] at h;obtain ⟨p,hp,e⟩:=ih h;exact ⟨p,List.mem_cons_of_mem _ hp,e⟩
 obtain ⟨p,hp,he⟩:=one h;unfold LC;rw [hk,Bool.true_and,List.all_eq_true];intro q hq;have same:isTup p.1=isTup k:=by
  obtain ⟨p1,p2⟩:=p;cases p1 <;> cases k <;> simp [eqD,keyOk,isTup] at he hk ⊢
 cases rd with
 | dK e _ r n=>rw [HJ r q hq,<-same,HJ r p hp];rfl
 | dT e _ r n=>rw [HN r q hq,<-same,HN r p hp];rfl
end
section
variable {X:Cx} {a b c e:Expr} {pos:Pos} {fa fb fc fe:FE} {ra rb rc re:Bool} {ga gb gc:FT}
noncomputable def vU (H:Hp) (u:Value):D:=by
 classical
 exact if h:∃d,d.b8 aZ=true/\∃v,RelV v u/\Rep All H v d then Classical.choose h else .non
theorem vV {H:Hp} {u:Value} {v:V} {d:D} (hq:d.b8 aZ=true) (rv:RelV v u) (r:Rep All H v d):vU H u=d:=by
 unfold vU;have h:∃d,d.b8 aZ=true/\∃v,RelV v u/\Rep All H v d:=⟨d,hq,v,rv,r⟩
 rw [dif_pos h];obtain ⟨h2,v',rv',r'⟩:=Classical.choose_spec h;have:=rv'.inj rv;subst this;exact Rep.inj aZ h2 hq r' r
theorem sG {H:Hp} {a:D}:∀{xs:List V} {ds:List D} {its:List Value},D.cW aZ ds=true->bR All H xs ds->Vals xs its->(its.any fun u=>eqD (vU H u) a)=ds.any fun y=>eqD y a
 | _,_,_,_,.nil,.nil=>rfl
 | _,_,_,h,.cons r t,.cons v vt=>by
  rw [D.cW,Bool.and_eq_true] at h;rw [List.any_cons,List.any_cons,vV h.1 v r,sG h.2 t vt]
theorem sI {pins:List (Addr×Obj)} {σ:L2.St} {H:Hp} {s:Shared} (I:Inv X pins σ H s) (hu:X.A.units+20<cLine) {a:D} {x:V} {v:Value} (ha:a.b8 aZ=true) (rx:Rep All H x a) (rv:RelV x v)
  {xs:List V} {ds:List D} {its:List Value} (h:D.cW aZ ds=true) (r:bR All H xs ds) (vr:Vals xs its) (u:Value) (hm:u∈its):EqAt X.A.in1 s u v (eqD (vU H u) a):=by
 obtain ⟨j,hj,e⟩:=List.getElem_of_mem hm;have hj':j<ds.length:=by rw [<-r.length,vr.length];exact hj
 obtain ⟨w,h1,h2⟩:=r.get (i:=j) (d:=ds[j]) (by simp [hj']);obtain ⟨u',h3,h4⟩:=vr.get h1;rw [List.getElem?_eq_getElem hj,e] at h3;cases h3;have hd:ds[j].b8 aZ=true:=by
  have:=j_ (j:=j) h hj';rwa [List.getD_eq_getElem?_getD,List.getElem?_eq_getElem hj'] at this
 rw [vV hd h4 h2];exact (QW I aZ X.A.in1 (by show X.A.units+1+12<cLine;lia) hd ha h2 rx h4 rv).2.2
theorem aJ1 (hu:X.A.units+20<cLine):OpR X (compareOp .In) (r2 (cC .isin) true):=by
 intro pins s σ H x y v u Q I rx ry ⟨a,b,d,p,q,e,k⟩;cases b with
 | tup ys=>
  simp only [cC] at e;split at e
  ·rename_i hl;cases e;rw [Bool.and_eq_true] at hl;obtain ⟨l,xs,rfl,ee,rr⟩:=q.iV;cases ry;obtain ⟨its,vr,pl⟩:=nD I ee;refine in_tupleAt (fun u=>eqD (vU H u) a) pl (fun w hw=>sI I hu hl.1 p rx hl.2 rr vr w (by simpa using hw)) ⟨.bl _,H,I,rfl,?_⟩;rw [show its.toArray.any (fun u=>eqD (vU H u) a)=its.any (fun u=>eqD (vU H u) a) by simp,sG hl.2 rr vr];exact k.bl
  ·cases e
 | lst ys=>
  simp only [cC] at e;split at e
  ·rename_i hl;cases e;rw [Bool.and_eq_true] at hl;obtain ⟨l,xs,rfl,ee,rr⟩:=q.gM (K:=X.K);cases ry;obtain ⟨its,vr,pl⟩:=lR I ee;refine in_listAt (fun u=>eqD (vU H u) a) pl (fun w hw=>sI I hu hl.1 p rx hl.2 rr vr w (by simpa using hw)) ⟨.bl _,H,I,rfl,?_⟩;rw [show its.toArray.any (fun u=>eqD (vU H u) a)=its.any (fun u=>eqD (vU H u) a) by simp,sG hl.2 rr vr];exact k.bl
  ·cases e
 | dct kvs=>
  simp only [cC] at e;split at e
  ·rename_i hl;cases e;obtain ⟨H1,a1,o,rfl,I1,bk,g,hc⟩:=aCb I q p hl;cases ry;refine aL4 (by lia) I1 g rx fun s' I'=>⟨.bl _,H,bk s' I',rfl,?_⟩
   rcases hc with ⟨rfl,h2⟩|⟨w,dd,rfl,h2,_⟩
   ·rw [h2] at k;exact k.bl
   ·rw [h2] at k;exact k.bl
  ·cases e
 | _=>simp [cC] at e
theorem XS (hu:X.A.units+20<cLine):OpR X (compareOp .NotIn) (r2 (cC .notin) true):=by
 intro pins s σ H x y v u Q I rx ry ⟨a,b,d,p,q,e,k⟩;cases b with
 | tup ys=>
  simp only [cC] at e;split at e
  ·rename_i hl;cases e;rw [Bool.and_eq_true] at hl;obtain ⟨l,xs,rfl,ee,rr⟩:=q.iV;cases ry;obtain ⟨its,vr,pl⟩:=nD I ee;refine notIn_tupleAt (fun u=>eqD (vU H u) a) pl (fun w hw=>sI I hu hl.1 p rx hl.2 rr vr w (by simpa using hw)) ⟨.bl _,H,I,rfl,?_⟩;rw [show its.toArray.any (fun u=>eqD (vU H u) a)=its.any (fun u=>eqD (vU H u) a) by simp,sG hl.2 rr vr];exact k.bl
  ·cases e
 | lst ys=>
  simp only [cC] at e;split at e
  ·rename_i hl;cases e;rw [Bool.and_eq_true] at hl;obtain ⟨l,xs,rfl,ee,rr⟩:=q.gM (K:=X.K);cases ry;obtain ⟨its,vr,pl⟩:=lR I ee;refine notIn_listAt (fun u=>eqD (vU H u) a) pl (fun w hw=>sI I hu hl.1 p rx hl.2 rr vr w (by simpa using hw)) ⟨.bl _,H,I,rfl,?_⟩;rw [show its.toArray.any (fun u=>eqD (vU H u) a)=its.any (fun u=>eqD (vU H u) a) by simp,sG hl.2 rr vr];exact k.bl
  ·cases e
 | dct kvs=>
  simp only [cC] at e;split at e
  ·rename_i hl;cases e;obtain ⟨H1,a1,o,rfl,I1,bk,g,hc⟩:=aCb I q p hl;cases ry;refine aBy (by lia) I1 g rx fun s' I'=>⟨.bl _,H,bk s' I',rfl,?_⟩
   rcases hc with ⟨rfl,h2⟩|⟨w,dd,rfl,h2,_⟩
   ·rw [h2] at k;exact k.bl
   ·rw [h2] at k;exact k.bl
  ·cases e
 | _=>simp [cC] at e
theorem aFo {α:Type} (xs:List α) (i:Int):L2.atI xs i=(ixD xs.length i).bind fun j=>xs[j]?:=rfl
theorem bR.atI {P:Addr->Prop} {H:Hp} {xs:List V} {ds:List D} {i:Int} {d:D} (r:bR P H xs ds) (h:((ixD ds.length i).bind fun j=>ds[j]?)=some d):∃v,L2.atI xs i=some v/\Rep P H v d:=by
 rw [aFo,r.length];cases hi:ixD ds.length i with
 | none=>rw [hi] at h;cases h
 | some j=>
  rw [hi] at h;obtain ⟨v,h1,h2⟩:=r.get h;exact ⟨v,h1,h2⟩
theorem yH {X:Cx} {value slice:Expr} {pins:List (Addr×Obj)} {s:Shared} {σ:L2.St} {H:Hp} {a:Addr} {y v':V} {u:Value} {Q:VK} (hu:X.A.units+20<cLine) (I:Inv X pins σ H s) (g:QC H a y (some v')) (ry:RelV y u) {H':Hp}
  (hs:subscripted slice false (.ref a) u=operate [.ref a,u] (getItem (.ref a) u)) (bk:∀s',Inv X pins σ H s'->Inv X pins σ H' s') (q:Q v' H') :
  wpAny (model X.prog X.w) X.A (subscriptTail value slice (.ref a) u) (EP X pins σ Q) X.xe s:=by
 have hT:=BR I g;unfold subscriptTail;refine wpAny_bind ?_;rw [getitemInPython_of_ne hT.not_modules];refine wpAny_bind (wpAny_specialOf hT PySem.F.slot_dict_getitem.lookup ?_);have fin:wpAny (model X.prog X.w) X.A (subscripted slice false (.ref a) u) (fun r s₃=>wpAny (model X.prog X.w) X.A (letTemporaryGo value (.ref a) r >>= fun _=>pure r) (EP X pins σ Q) X.xe s₃) X.xe s:=by
  rw [hs];exact wpAny_operating (QD (by lia) I g ry fun w' s3 I3 rw'=>wpAny_bind (wpAny_letTemporaryGo (wpAny_pure ⟨v',H',bk s3 I3,rw',q⟩)))
 first
  | exact wpAny_pure (wpAny_bind fin)
  | exact wpAny_bind (wpAny_pure (wpAny_bind fin))
  | exact wpAny_bind fin
theorem HQ {k d:D}:∀{ds:List (D×D)},keyOk k=true->dU ds k=some d->∃p∈ds,isTup p.1=isTup k
 | [],_,h=>by cases h
 | (p1,p2)::ds,hk,h=>by
  rw [dU] at h;by_cases hq:eqD p1 k=true
  ·refine ⟨_,List.mem_cons_self ..,?_⟩;cases p1 <;> cases k <;> simp [eqD,keyOk,isTup] at hq hk ⊢
  ·rw [if_neg hq] at h;obtain ⟨p,hp,e⟩:=HQ hk h;exact ⟨p,List.mem_cons_of_mem _ hp,e⟩
theorem aJ2 {H:Hp} {x y:V} {ds:List (D×D)} {k d:D} (rd:Rep All H x (.fdc ds)) (rk:Rep All H y k) (hk:keyOk k=true) (h:dU ds k=some d):∃a v,x=.ref a/\QC H a y (some v)/\Rep All H v d:=by
 obtain ⟨p,hp,et⟩:=HQ hk h;cases rd with
 | @fdK a o kvs ds e r n=>
  rcases kE hk rk with ⟨q,rfl,rfl⟩|⟨b,ks,rfl,eb,rfl⟩
  ·rcases aC9 (k:=q) r with ⟨v,d',g1,g2,g3⟩|⟨g1,g2⟩
   ·rw [g2] at h;cases h;exact ⟨a,v,rfl,.inl ⟨kvs,q,.inr ⟨o,e⟩,rfl,g1.symm⟩,g3⟩
   ·rw [g2] at h;cases h
  ·rw [HJ r p hp] at et;cases et
 | @fdT a o kvs ds e r n=>
  rcases kE hk rk with ⟨q,rfl,rfl⟩|⟨b,ks,rfl,eb,rfl⟩
  ·rw [HN r p hp,mX] at et;cases et
  ·rcases aCa (k:=ks) r with ⟨v,d',g1,g2,g3⟩|⟨g1,g2⟩
   ·rw [g2] at h;cases h;exact ⟨a,v,rfl,.inr ⟨kvs,ks,b,.inr ⟨o,e⟩,rfl,eb,g1.symm⟩,g3⟩
   ·rw [g2] at h;cases h
theorem aCc (hK:KFrag.K=X.K) (hu:X.A.units+20<cLine):IxR X (r2 getD false):=by
 intro value slice pins s σ H x y v u Q I rx ry ⟨a,b,d,p,q,e,k⟩ hs;cases a with
 | tup ys=>
  cases b <;> simp only [getD] at e <;> (try (cases e;done))
  have e':=Res.lD e;obtain ⟨l,xs,rfl,ee,rr⟩:=p.iV;cases q;obtain ⟨w,h1,h2⟩:=rr.atI e';exact aF6 value slice pins s σ H _ _ v u Q I rx ry ⟨l,xs,_,w,rfl,rfl,.of ee,h1,k.self h2 fun z=>by cases z⟩ hs
 | lst ys=>
  cases b <;> simp only [getD] at e <;> (try (cases e;done))
  have e':=Res.lD e;obtain ⟨l,xs,rfl,ee,rr⟩:=p.gM (K:=X.K);cases q;obtain ⟨w,h1,h2⟩:=rr.atI e';exact BP value slice pins s σ H _ _ v u Q I rx ry ⟨l,xs,_,w,rfl,rfl,ee,h1,k.self h2 fun z=>by cases z⟩ hs
 | cel ca ys=>
  cases b <;> simp only [getD] at e <;> (try (cases e;done))
  have e':=Res.lD e;cases p with
  | cel ee pp rr=>
   cases q;obtain ⟨w,h1,h2⟩:=rr.atI e';exact BP value slice pins s σ H _ _ v u Q I rx ry ⟨_,_,_,w,rfl,rfl,.inl (.inl ee),h1,k.self h2 fun z=>by cases z⟩ hs
 | scr ys=>
  cases b <;> simp only [getD] at e <;> (try (cases e;done))
  have e':=Res.lD e;cases p with
  | frz ee rr=>
   cases q;obtain ⟨w,h1,h2⟩:=rr.atI e';exact BP value slice pins s σ H _ _ v u Q I rx ry ⟨_,_,_,w,rfl,rfl,ee.sq hK,h1,k.self h2 fun z=>by cases z⟩ hs
 | str z=>
  cases b <;> simp only [getD] at e <;> (try (cases e;done))
  split at e
  ·rename_i hl;have e':=Res.lD e;obtain ⟨cc,h1,h2⟩:=Option.map_eq_some_iff.mp e';subst h2;cases p;cases q;exact aF7 value slice pins s σ H _ _ v u Q I rx ry ⟨z,_,cc,rfl,rfl,lF hl,h1,k.str⟩ hs
  ·cases e
 | dct kvs=>
  have e':keyOk b=true/\dU kvs b=some d:=by
   cases b <;> simp only [getD] at e <;> (split at e <;> first|(rename_i hl;exact ⟨hl,Res.lD e⟩)|cases e)
  obtain ⟨H1,a1,o,rfl,I1,bk,g,hc⟩:=aCb I p q (XR p e'.1 e'.2);cases rx;rcases hc with ⟨rfl,h2⟩|⟨w,dd,rfl,h2,h3⟩
  ·rw [h2] at e';cases e'.2
  ·rw [h2] at e';cases e'.2;exact yH hu I1 g ry hs bk (k.self h3 fun z=>by cases z)
 | fdc kvs=>
  have e':keyOk b=true/\dU kvs b=some d:=by
   cases b <;> simp only [getD] at e <;> (split at e <;> first|(rename_i hl;exact ⟨hl,Res.lD e⟩)|cases e)
  obtain ⟨a1,w,rfl,g,h3⟩:=aJ2 p q e'.1 e'.2;cases rx;exact yH hu I g ry hs (fun _ h=>h) (k.self h3 fun z=>by cases z)
 | _=>cases b <;> simp [getD] at e
theorem bJ {X:Cx} {a b:Expr} {pos:Pos} {fa fb:FE} {ra rb:Bool} (ha:PE X a (gE fa ra)) (hb:PE X b (gE fb rb)) (hK:KFrag.K=X.K:=by assumption) (hu:X.A.units+20<cLine:=by assumption) (hs:rQ b:=by exact fun _ _=>rfl):PE X (.Subscript a b pos) (gE (b2 getD fa fb) false):=aIz (aCc hK hu) ha hb hs
noncomputable def gO (f:List D->Res (Option Int)):TO:=fun σ H Q=>∃ρ i,ER H σ ρ/\f ρ=.ok i/\∀H',cJ H H'->Q i H'
theorem PO.imp {X:Cx} {e:Option PySem.Expr} {t t':TO} (h:PO X e t) (i:∀σ H Q,t' σ H Q->t σ H Q):PO X e t':=fun pins s σ H Q I q=>h pins s σ H Q I (i σ H Q q)
theorem dW:PO X none (gO cP):=PO.imp aBr fun σ H Q ⟨ρ,i,E,h,q⟩=>by cases h;exact q H (cJ.refl H)
theorem dC (ha:PE X a (gE fa ra)):PO X (some a) (gO (cD fa)):=PO.imp (aBs ha) fun σ H Q ⟨ρ,i,E,h,q⟩=>by
 obtain ⟨x,h1,h⟩:=aY h;obtain ⟨j,h2,h⟩:=aY h;cases h;have e:=aFj h2;subst e;exact ⟨ρ,_,E,h1,fun v H' s r _=>by cases r;exact ⟨j,rfl,q H' s⟩⟩
theorem aAb (n d:Nat) (o:Option Int):HT.sIx n d o=aA8 n d o:=by
 cases o with
 | none=>rfl
 | some v=>
  show (if v<0 then (v+(n:Int)).toNat else min v.toNat n)=(if v<0 then (max (v+(n:Int)) 0).toNat else (min v (n:Int)).toNat);split <;> lia
theorem bR.cut {P:Addr->Prop} {H:Hp} {xs:List V} {ds:List D} (r:bR P H xs ds) (lo hi:Option Int):bR P H (PL xs lo hi) (cutD ds lo hi):=by
 unfold PL cutD;rw [r.length];simp only [aAb];exact (r.drop _).take _
theorem dZ {ds:List D}:D.aW ds=true↔∀d∈ds,d.pure=true:=by
 induction ds with
 | nil=>simp [D.aW]
 | cons d ds ih=>rw [D.aW,Bool.and_eq_true,ih];simp
noncomputable def rSl:V->Option Int->Option Int->Hp->VK->Prop:=fun x lo hi H Q=>∃a d,Rep All H x a/\aI3 a lo hi=.ok d/\kR H d true Q
theorem aJ3 (hK:KFrag.K=X.K):SlR X rSl:=by
 intro pins s σ H x v vl vu lo hi sl Q I rx hs pl pu ⟨a,d,p,e,k⟩;cases a <;> simp only [aI3] at e <;> (try (cases e;done))
 ·split at e
  ·cases e
  ·rename_i hw;cases e;obtain ⟨l,xs,rfl,ee,rr⟩:=p.iV;refine aF5 pins s σ H _ v vl vu lo hi sl Q I rx hs pl pu ⟨l,xs,rfl,.of ee,?_,fun p hp=>?_⟩
   ·simp only [aAb,rr.length];simp only [Bool.not_eq_true',Bool.or_eq_true,not_or,Bool.not_eq_false',decide_eq_true_eq] at hw;exact hw.2
   ·have sp:cJ H (upd H p (.tup (PL xs lo hi))):=cJ.upd hp;have hp2:D.aW ‹List D›=true:=by
     simp only [Bool.or_eq_true,not_or,Bool.not_eq_true'] at hw;simpa using hw.1
    exact k _ _ sp (.tup aL ((rr.cut lo hi).same sp)) fun z=>.tup aL (((rr.bL hp2).cut lo hi).same sp)
 ·split at e
  ·rename_i hl;cases e;obtain ⟨l,xs,rfl,ee,rr⟩:=p.gM (K:=X.K);refine PP pins s σ H _ v vl vu lo hi sl Q I rx hs pl pu ⟨l,xs,rfl,ee,fun p hp=>?_⟩;have sp:cJ H (upd H p (.lst (PL xs lo hi))):=cJ.upd hp;exact k _ _ sp (.lst aL trivial ((rr.cut lo hi).same sp)) fun z=>.lst aL hp (((rr.bL hl).cut lo hi).same sp)
  ·cases e
 ·split at e
  ·rename_i hl;cases e;cases p with
   | @frz l xs ds ee rr=>
    refine PP pins s σ H _ v vl vu lo hi sl Q I rx hs pl pu ⟨l,xs,rfl,ee.sq hK,fun p hp=>?_⟩;have sp:cJ H (upd H p (.lst (PL xs lo hi))):=cJ.upd hp;exact k _ _ sp (.lst aL trivial ((rr.cut lo hi).same sp)) fun z=>.lst aL hp (((rr.bL hl).cut lo hi).same sp)
  ·cases e
end
end Mi
end
section
namespace PySem.Mm
open PySem
section
variable {prog:Program} {w:World} {A:Around} {R:Result->Shared->Prop} {I S:Addr} {fp wr:List Addr} {n:Nat} {P:Nat->Value->Prop} {St:Nat->Heap->Prop} {bt:Nat->Nat->Bool} {Gd:Shared->Prop} {op:CmpOp}
end
section
variable {prog:Program} {w:World} {A:Around} {E:Value->Shared->Prop} {s:Shared} {Q:Value->Shared->Prop}
end
end PySem.Mm
end
section
namespace Mi
open PySem L2 PySem.SeqAt PySem.Spec PyProof.Rows
variable [KFrag]
section
variable {X:Cx} {pins:List (Addr×Obj)} {σ:L2.St} {H:Hp} {s:Shared}
end
section
variable {X:Cx}
end
end Mi
end
section
namespace PySem.Mm
open PySem PyProof.Rows PySem.W
theorem yI {prog:Program} {w:World} {A:Around} {E:Value->Shared->Prop} {s:Shared} {Q:Value->Shared->Prop} {K:Type} [DecidableEq K] {knd:KeyKind prog w K} {d:Addr} {kvs:List (K×Value)} {ep n:Nat} (hh:A.handled=none) (lo:(d==sysModules)=false)
  (hm:s.heap.DictAt knd d kvs ep) (hn:kvs.length=n) (hl:n<=2 ^ 24)
  (q:∀h' tk acc c,(∀b o,s.heap.get? b=some o->h'.get? b=some o)->h'.get? s.heap.objs.size=some {cls:=.type "list",dict:=none,data:=.seq acc c,slots:=#[]}->
   ItemsOf (fun i v=>∃k x,kvs[i]?=some (k,x)/\knd.is k v=true) acc n->Q (.ref s.heap.objs.size) {s with heap:=h',toks:=tk}):wpAny (model prog w) A (call (.type "list") [.ref d]) Q E s:=by
 subst hn;exact kdl_call (kdl_dict lo) hh hm (kdl_size hl) q
end PySem.Mm
end
section
namespace Mi
open PySem L2 PySem.SeqAt PySem.Spec PyProof.Rows
variable [KFrag]
section
variable {X:Cx} {a b c e:Expr} {es:List Expr} {pos p:Pos} {fa fb fc fe:FE} {ra rb rc re:Bool} {fs:FA} {rr:Bool} {x:Str} {id T:String}
theorem jN {P:Addr->Prop} {H:Hp} {xs:List V} {us:List Value} {d:D} (r:bR P H xs [d]) (vr:Vals xs us):∃v u,xs=[v]/\us=[u]/\Rep P H v d/\RelV v u:=by
 cases r with
 | cons r t=>
  cases t;cases vr with
  | cons v vt=>
   cases vt;exact ⟨_,_,rfl,rfl,r,v⟩
theorem HR {f:List D->Res D} {fr:Bool} {σ:L2.St} {H:Hp} {Q:VK} (h:gE (aU f fs) fr σ H Q):tCB (rs f fr) (gA fs rr) σ H Q:=by
 obtain ⟨ρ,d,E,h,q⟩:=h;obtain ⟨ds,h1,h2⟩:=aY h;exact ⟨ρ,ds,E,h1,fun vs H1 s1 r1 _=>⟨ds,d,r1,h2,q.imp s1 id⟩⟩
theorem bH {f:List D->Res D} {fr:Bool} (hc:nT X (.builtin id) (rs f fr)) (hg:Gl X x) (hm:X.mg x=none) (hv:bootBuiltins x=some (.builtin id)) (ha:PA X (e::es) (gA fs rr)) (hn:x ≠ "__name__":=by decide) (hdb:nDb x:=by decide)
  (he:starEach (e::es) X.env=(false,eval e X.env)::starEach es X.env:=by rfl) (hpl:(backTo pos (starEach es X.env)).any (·.1)=false:=by rfl):PE X (.Call (.Name x p) (e::es) [] pos) (gE (aU f fs) fr):=
 PE.imp (rB hc hg hm hv ha hn hdb he hpl) fun _ _ _=>HR
theorem fX {f:List D->Res D} {fr:Bool} (hc:nT X (.type T) (rs f fr)) (hg:Gl X x) (hm:X.mg x=none) (hv:bootBuiltins x=some (.type T)) (ha:PA X (e::es) (gA fs rr)) (hn:x ≠ "__name__":=by decide) (hdb:nDb x:=by decide)
  (he:starEach (e::es) X.env=(false,eval e X.env)::starEach es X.env:=by rfl) (hpl:(backTo pos (starEach es X.env)).any (·.1)=false:=by rfl):PE X (.Call (.Name x p) (e::es) [] pos) (gE (aU f fs) fr):=
 PE.imp (PJ hc hg hm hv ha hn hdb he hpl) fun _ _ _=>HR
theorem dD (hK:KFrag.K=X.K):nT X (.builtin "len") (rs eY true):=by
 intro pins s σ H xs us Q I vr ⟨ds,d,r,e,k⟩;unfold eY at e;split at e
 ·cases e;obtain ⟨vv,uu,rfl,rfl,r,v⟩:=jN r vr;obtain ⟨l,ys,rfl,hl,rr⟩:=r.iV;cases v;exact jM pins s σ H [.ref l] [.ref l] Q I (.cons rfl .nil) ⟨l,ys,rfl,.inr (.of hl),by rw [rr.length];exact k.int⟩
 ·cases e;obtain ⟨vv,uu,rfl,rfl,r,v⟩:=jN r vr;obtain ⟨l,ys,rfl,hl,rr⟩:=r.gM (K:=X.K);cases v;exact jM pins s σ H [.ref l] [.ref l] Q I (.cons rfl .nil) ⟨l,ys,rfl,.inl hl,by rw [rr.length];exact k.int⟩
 ·cases e;obtain ⟨vv,uu,rfl,rfl,r,v⟩:=jN r vr;cases r with
  | @frz l xs ds ee rr=>
   cases v;exact jM pins s σ H [.ref l] [.ref l] Q I (.cons rfl .nil) ⟨l,xs,rfl,.inl (ee.sq hK),by rw [rr.length];exact k.int⟩
 ·cases e;obtain ⟨vv,uu,rfl,rfl,r,v⟩:=jN r vr;cases r with
  | cel ee pp rr=>
   cases v;exact jM pins s σ H [.ref _] [.ref _] Q I (.cons rfl .nil) ⟨_,_,rfl,.inl (.inl (.inl ee)),by rw [rr.length];exact k.int⟩
 ·split at e
  ·rename_i hl;cases e;obtain ⟨vv,uu,rfl,rfl,r,v⟩:=jN r vr;cases r;exact xT pins s σ H _ _ Q I (.cons v .nil) ⟨_,rfl,lF hl,k.int⟩
  ·cases e
 ·cases e
theorem oY.keys {P P':Addr->Prop} {H:Hp}:∀{kvs:List (Key×V)} {ds:List (D×D)},oY P H kvs ds->bR P' H (kvs.map fun p=>kV p.1) (aFf ds)
 | _,_,.nil=>.nil
 | _,_,.cons (k:=k) _ t=>.cons (by cases k <;> first|exact .int _|exact .str _) t.keys
theorem list_dict {pins:List (Addr×Obj)} {s:Shared} {σ:L2.St} {H:Hp} {l:Addr} {kvs:List (Key×V)} (hc:X.calm=true) (I:Inv X pins σ H s) (e:H l=some (.dK kvs)) {Q:Value->Shared->Prop}
  (q:∀p s',H p=none->Inv X pins σ (upd H p (.lst (kvs.map fun p=>kV p.1))) s'->(∀l0 o0,H l0=some o0->l0≠p)->Q (.ref p) s'):wpAny (model X.prog X.w) X.A (call (.type "list") [.ref l]) Q X.xe s:=by
 obtain ⟨z,hd,vs,rel,dd⟩:=W4 I.hok e;obtain ⟨ep,da⟩:=dd.dictAt;have hlen:kvs.length=vs.length:=Paired.length rel;refine Mm.yI (I.ok.hd hc) hd da rfl (by rw [<-hlen];rw [sizeLine_eq] at z;lia) fun h' tk acc' c' kp e1 it=>?_
 obtain ⟨i1,i2⟩:=it;have hfr:H s.heap.objs.size=none:=I.hok.fresh (Nat.le_refl _);refine q _ _ hfr (I.laid (t':=tk) kp (Nat.le_refl _) ?_) fun l0 o0 h0=>b_ h0 hfr
 refine ⟨by rw [List.length_map];exact z,acc'.toList,c',?_,by simpa using e1⟩;have gen:∀(kvs:List (Key×V)) (vs:List (Key×Value)) (xs:List Value),KV kvs vs->xs.length=vs.length->(∀(j:Nat) (v:Value),xs[j]?=some v->∃k x,vs[j]?=some (k,x)/\(fJ X.prog X.w).is k v=true)->Vals (kvs.map fun p=>kV p.1) xs:=by
  intro kvs vs xs rel;induction rel generalizing xs with
  | nil=>intro hl _;cases xs with|nil=>exact .nil|cons _ _=>simp at hl
  | @cons p q ps qs hpq t ih=>
   intro hl g;cases xs with
   | nil=>simp at hl
   | cons x xs=>
    refine .cons ?_ (ih xs (by simpa using hl) fun j v hv=>g (j+1) v (by simpa using hv));obtain ⟨k,x',h1,h2⟩:=g 0 x rfl;have h1':q=(k,x'):=by simpa using h1
    show RelV (kV p.1) x;rw [hpq.1,h1'];rcases c7 h2 with ⟨i,t,rfl,rfl⟩|⟨i,t,rfl,rfl⟩
    ·exact ⟨t,rfl⟩
    ·exact ⟨t,rfl⟩
 exact gen kvs vs acc'.toList rel (by simpa using i1) fun j v hv=>i2 j v (by simpa using hv)
theorem aCd (hc:X.calm=true):nT X (.type "list") (rs XJ true):=by
 intro pins s σ H xs us Q I vr ⟨ds,d,r,e,k⟩;unfold XJ at e;split at e
 ·split at e
  ·rename_i hl;cases e;obtain ⟨vv,uu,rfl,rfl,r,v⟩:=jN r vr;obtain ⟨l,ys,rfl,hl',rr⟩:=r.iV;cases v;refine qI pins s σ H [.ref l] [.ref l] Q I (.cons rfl .nil) ⟨l,ys,rfl,.inr (.of hl'),fun p hp=>?_⟩;have sp:cJ H (upd H p (.lst ys)):=cJ.upd hp;exact k _ _ sp (.lst aL trivial (rr.same sp)) fun _=>.lst aL hp ((rr.bL hl).same sp)
  ·cases e
 ·split at e
  ·rename_i hl;cases e;obtain ⟨vv,uu,rfl,rfl,r,v⟩:=jN r vr;obtain ⟨l,ys,rfl,hl',rr⟩:=r.gM (K:=X.K);cases v;refine qI pins s σ H [.ref l] [.ref l] Q I (.cons rfl .nil) ⟨l,ys,rfl,.inl hl',fun p hp=>?_⟩;have sp:cJ H (upd H p (.lst ys)):=cJ.upd hp;exact k _ _ sp (.lst aL trivial (rr.same sp)) fun _=>.lst aL hp ((rr.bL hl).same sp)
  ·cases e
 ·split at e
  ·rename_i hl;cases e;obtain ⟨vv,uu,rfl,rfl,r,v⟩:=jN r vr;cases r with
   | @dK l kvs ds e _ r n=>
    cases v;refine list_dict hc I e fun p s' hp I' _=>⟨.ref p,_,I',rfl,?_⟩
    have sp:cJ H (upd H p (.lst (kvs.map fun p=>kV p.1))):=cJ.upd hp;exact k _ _ sp (.lst aL trivial (r.keys.same sp)) fun _=>.lst aL hp (r.keys.same sp)
   | @dT l kvs ds e _ r n=>
    cases v;cases r with
    | cons r t=>simp [isTup] at hl
    | nil=>
     have e2:=vR (o':=.dK []) e;refine list_dict hc (mZ I e) aL fun p s' hp I' hne=>?_
     have hp':p≠l:=fun z=>by subst z;rw [aL] at hp;cases hp
     have hpn:H p=none:=by rw [bB hp'] at hp;exact hp
     have hcm:upd (upd (upd H l (.dK [])) p (.lst [])) l (.dT [])=upd H p (.lst []):=by
      funext b
      by_cases hb:b=l
      ·subst hb;rw [aL,bB (Ne.symm hp'),e]
      ·rw [bB hb];by_cases hb2:b=p
       ·subst hb2;rw [aL,aL]
       ·rw [bB hb2,bB hb2,bB hb]
     have I2:=mY I' (a:=l) (by rw [bB (Ne.symm hp'),aL]);have I3:Inv X pins σ (upd H p (.lst [])) s':=by
      have:Inv X pins σ (upd (upd (upd H l (.dK [])) p (.lst [])) l (.dT [])) s':=I2;rwa [hcm] at this
     have sp:cJ H (upd H p (.lst [])):=cJ.upd hpn;exact ⟨.ref p,_,I3,rfl,k _ _ sp (.lst aL trivial .nil) fun _=>.lst aL hpn .nil⟩
  ·cases e
 ·cases e
theorem jO:nT X (.type "tuple") (rs g_ false):=by
 intro pins s σ H xs us Q I vr ⟨ds,d,r,e,k⟩;unfold g_ at e;split at e
 ·cases e;obtain ⟨vv,uu,rfl,rfl,r,v⟩:=jN r vr;obtain ⟨l,ys,rfl,hl',rr⟩:=r.iV;cases v;exact oR pins s σ H [.ref l] [.ref l] Q I (.cons rfl .nil) ⟨l,ys,rfl,.inr ⟨.of hl',k.self (.tup hl' rr) fun z=>by cases z⟩⟩
 ·cases e;obtain ⟨vv,uu,rfl,rfl,r,v⟩:=jN r vr;obtain ⟨l,ys,rfl,hl',rr⟩:=r.gM (K:=X.K);cases v;refine oR pins s σ H [.ref l] [.ref l] Q I (.cons rfl .nil) ⟨l,ys,rfl,.inl ⟨hl',fun p hp=>?_⟩⟩;have sp:cJ H (upd H p (.tup ys)):=cJ.upd hp;exact k _ _ sp (.tup aL (rr.same sp)) fun z=>by cases z
 ·cases e
theorem isi {pins:List (Addr×Obj)} {s:Shared} {σ:L2.St} {H:Hp} {v:V} {u:Value} {d:D} {t:Ty} {k:Bool} (I:Inv X pins σ H s) (r:Rep All H v d) (ru:RelV v u) (h:QL t d=.ok k) {Q:Value->Shared->Prop}
  (q:∀tk,Q (.bool k) {s with toks:=tk}):wpAny (model X.prog X.w) X.A (call (.builtin "isinstance") [u,.type t.nm]) Q X.xe s:=by
 have q0:Q (.bool k) s:=q s.toks;cases r with
 | non=>cases ru;cases t <;> simp only [QL] at h <;> cases h <;> first|exact IsiPair.NoneType_int (q _)|exact IsiPair.NoneType_str (q _)|exact IsiPair.NoneType_bool (q _)|exact IsiPair.NoneType_list (q _)|exact IsiPair.NoneType_tuple (q _)|exact IsiPair.NoneType_dict (q _)
 | bl b=>cases ru;cases t <;> simp only [QL] at h <;> cases h <;> first|exact IsiPair.bool_int q0|exact IsiPair.bool_str (q _)|exact IsiPair.bool_bool q0|exact IsiPair.bool_list (q _)|exact IsiPair.bool_tuple (q _)|exact IsiPair.bool_dict (q _)
 | int b=>obtain ⟨tt,rfl⟩:=ru;cases t <;> simp only [QL] at h <;> cases h <;> first|exact IsiPair.int_int q0|exact IsiPair.int_str (q _)|exact IsiPair.int_bool (q _)|exact IsiPair.int_list (q _)|exact IsiPair.int_tuple (q _)|exact IsiPair.int_dict (q _)
 | str b=>obtain ⟨tt,rfl⟩:=ru;cases t <;> simp only [QL] at h <;> cases h <;> first|exact IsiPair.str_int (q _)|exact IsiPair.str_str q0|exact IsiPair.str_bool (q _)|exact IsiPair.str_list (q _)|exact IsiPair.str_tuple (q _)|exact IsiPair.str_dict (q _)
 | tup e rr=>
  cases ru;obtain ⟨its,vr,o,ho,hc,_⟩:=nD I e;cases t <;> simp only [QL] at h <;> cases h <;> first|exact IsiPair.tuple_int ho hc (q _)|exact IsiPair.tuple_str ho hc (q _)|exact IsiPair.tuple_bool ho hc (q _)|exact IsiPair.tuple_list ho hc (q _)|exact IsiPair.tuple_tuple ho hc q0|exact IsiPair.tuple_dict ho hc (q _)
 | lst e p rr=>
  cases ru;obtain ⟨its,vr,o,ho,hc,_⟩:=lR I (.of e);cases t <;> simp only [QL] at h <;> cases h <;> first|exact IsiPair.list_int ho hc (q _)|exact IsiPair.list_str ho hc (q _)|exact IsiPair.list_bool ho hc (q _)|exact IsiPair.list_list ho hc q0|exact IsiPair.list_tuple ho hc (q _)|exact IsiPair.list_dict ho hc (q _)
 | frz e rr=>cases t <;> cases h
 | fdK e rr n=>cases t <;> cases h
 | fdT e rr n=>cases t <;> cases h
 | exc n e q=>cases t <;> cases h
 | cel e p rr=>cases t <;> cases h
 | dK e p rr n=>
  cases ru;obtain ⟨_,_,_,_,o,_,_,ho,hx,_⟩:=W4 I.hok e;have hc:=hx.1;cases t <;> simp only [QL] at h <;> cases h <;> first|exact IsiPair.dict_int ho hc (q _)|exact IsiPair.dict_str ho hc (q _)|exact IsiPair.dict_bool ho hc (q _)|exact IsiPair.dict_list ho hc (q _)|exact IsiPair.dict_tuple ho hc (q _)|exact IsiPair.dict_dict ho hc q0
 | dT e p rr n=>
  cases ru;obtain ⟨_,_,_,_,o,_,_,ho,hx,_⟩:=aBx I.hok e;have hc:=hx.1;cases t <;> simp only [QL] at h <;> cases h <;> first|exact IsiPair.dict_int ho hc (q _)|exact IsiPair.dict_str ho hc (q _)|exact IsiPair.dict_bool ho hc (q _)|exact IsiPair.dict_list ho hc (q _)|exact IsiPair.dict_tuple ho hc (q _)|exact IsiPair.dict_dict ho hc q0
noncomputable def aL7 (t:Ty):List V->Hp->VK->Prop:=fun xs H Q=>∃v d k,xs=[v,.ty t.nm]/\Rep All H v d/\QL t d=.ok k/\Q (.bl k) H
theorem aFp (t:Ty):nT X (.builtin "isinstance") (aL7 t):=by
 intro pins s σ H xs us Q I vr ⟨v,d,k,e,r,h,q⟩;subst e;cases vr with
 | cons rv vt=>
  cases vt with
  | cons rt vt=>
   cases vt;cases rt;exact isi I r rv h fun tk=>⟨.bl k,H,I.tok tk,rfl,q⟩
theorem HS (t:Ty) {y:Str} {p2:Pos} (ha:PE X a (gE fa ra)) (hg:Gl X "isinstance") (hm:X.mg "isinstance" = none) (hv:bootBuiltins "isinstance" = some (.builtin "isinstance")) (gy:Gl X y) (my:X.mg y=none) (vy:bootBuiltins y=some (.type t.nm))
  (hy:y ≠ "__name__":=by decide) (hyd:(y==("__debug__" : Str))=false:=by decide)
  (he:starEach [a,.Name y p2] X.env=(false,eval a X.env)::starEach [.Name y p2] X.env:=by rfl) (he2:starEach [.Name y p2] X.env=(false,eval (.Name y p2) X.env)::starEach [] X.env:=by rfl)
  (hpl:(backTo pos (starEach [.Name y p2] X.env)).any (·.1)=false:=by rfl):PE X (.Call (.Name "isinstance" p) [a,.Name y p2] [] pos) (gE (b1 (vM t) fa) true):=
 PE.imp (rB (aFp t) hg hm hv (bG ha (bG (O3 gy my vy (v:=.ty t.nm) rfl hy hyd) iQ he2) he) (by decide) (by decide) he hpl) fun σ H Q ⟨ρ,d,E,h,q⟩=>by
  obtain ⟨x,h1,h⟩:=aY h;obtain ⟨k,h2,h⟩:=aY h;cases h;exact ⟨ρ,x,E,h1,fun v H1 s1 r1 _=>⟨v,x,k,rfl,r1,h2,(q.imp s1 id).bl⟩⟩
theorem yJ {o:Expr} {fo:FE} {ro fr:Bool} {name:Str} {apos cpos:Pos} {f:D->List D->Res D} (pa:PlainAttrs T) (slot:Slot T name id) (hty:typeOf (.builtin id)=pure (.type "method_descriptor")) (hm:MtR X id (rm f fr)) (ho:PE X o (gE fo ro)) (ha:PA X (e::es) (gA fs rr))
  (hT:∀(d:D) (ds:List D) (r:D) (v:V) (H:Hp),f d ds=.ok r->Rep All H v d->tyV X.K T v H)
  (hbase:attributeBase o name X.env (eval o X.env)=eval o X.env:=by rfl)
  (hfew:((backTo cpos (starEach (e::es) X.env)).all (fun x=>!x.1)&&(backToKw cpos (keywordEach [] X.env)).all (fun x=>x.1.isSome)
   && decide ((e::es).length+([]:List Keyword).length+(if ([]:List Keyword).isEmpty then 0 else 1)<30))=true:=by rfl)
  (hline:(apos.endLine==cpos.line)=true:=by rfl) (hs:starEach (e::es) X.env=(false,eval e X.env)::starEach es X.env:=by rfl) (hplain:(backTo cpos (starEach es X.env)).any (·.1)=false:=by rfl) :
  PE X (.Call (.Attribute o name apos) (e::es) [] cpos) (gE (bM f fo fs) fr):=
 PE.imp (W0 pa slot hty hm ho ha hbase hfew hline hs hplain) fun σ H Q ⟨ρ,d,E,h,q⟩=>by
  obtain ⟨x,h1,h⟩:=aY h;obtain ⟨ds,h2,h⟩:=aY h;exact ⟨ρ,x,E,h1,fun v H1 s1 r1 _=>⟨hT x ds d v H1 h r1,ρ,ds,E.same s1,h2,fun vs H2 s2 r2 _=>⟨x,ds,d,r1.same s2,r2,h,q.imp (s1.trans s2) fun z=>z⟩⟩⟩
noncomputable def spD (f:List D->Res D) (n:Nat):Sp:=fun vs H Q _=>∃ds d,ds.length=n/\bR All H vs ds/\f ds=.ok d/\kR H d true Q
theorem aCe {f:List D->Res D} {n:Nat} {vs:List V} {H:Hp} {Q:VK} {E:XK} (h:spD f n vs H Q E):vs.length=n:=by
 obtain ⟨ds,d,h1,r,_⟩:=h;rw [r.length,h1]
theorem aCf {k:Nat} {fad:Addr} {fd:FuncData} {ps:List Str} {f:List D->Res D} {n:Nat} (F:qW X.prog X.w X.K X.mg X.base CX0 k fad fd ps (spD f n)) (hr:j5 k X.A) (hg:Gl X x) (hm:X.mg x=some (.ref fad)) (hk:PySem.W.keepIn X.K (.ref fad)=true) (hb:Binds X.K fd ps [])
  (ha:PA X (e::es) (gA fs rr)) (hdb:nDb x:=by decide) (he:starEach (e::es) X.env=(false,eval e X.env)::starEach es X.env:=by rfl) (hpl:(backTo pos (starEach es X.env)).any (·.1)=false:=by rfl) :
  PE X (.Call (.Name x p) (e::es) [] pos) (gE (aU (iH n f) fs) true):=
 PE.imp (pK F hr hg hm hk hb .nil W8 ha hdb he hpl) fun σ H Q ⟨ρ,d,E,h,q⟩=>by
  obtain ⟨ds,h1,h⟩:=aY h;unfold iH at h;split at h
  ·rename_i hl;exact ⟨ρ,ds,E,h1,fun vs H1 s1 r1 _=>⟨ds,d,of_decide_eq_true hl,by rw [List.append_nil];exact r1,h,q.imp s1 id⟩⟩
  ·cases h
end
end Mi
end
section
namespace Mi
open PySem L2 PySem.SeqAt PySem.Spec PyProof.Rows
def nG (x:Str):List D:=x.cps.toList.map fun c=>D.str ⟨#[c]⟩
def QZ (xs:List D):List D:=xs.zipIdx.map fun p=>.tup [.int p.2,p.1]
def aI4 (xs ys:List D):List D:=(xs.zip ys).map fun p=>.tup [p.1,p.2]
noncomputable def XX (m:Nat) (xs:List D):List D:=xs.zipIdx.map fun p=>.tup [.int ((m+p.2:Nat):Int),p.1]
variable [KFrag]
noncomputable def aJ4 (x:Str):It:=⟨fun i _=>i<x.cps.size,fun i H v H'=>H'=H/\∃c,x.cps[i]?=some c/\v=.str ⟨#[c]⟩,fun i _=>x.cps.size<=i⟩
noncomputable def Ite (K:PySem.W.Frag) (a:Addr):It:=
 ⟨fun i H=>∃xs x,SqL K H a xs/\xs[i]?=some x,fun i H v H'=>∃t x,(∀xs,SqL K H a xs->xs[i]?=some x)/\v=.ref t/\H t=none/\H'=upd H t (.tup [.int i,x]),fun i H=>∃xs,SqL K H a xs/\xs.length<=i⟩
noncomputable def aL8 (K:PySem.W.Frag) (m:Nat) (a:Addr):It:=
 ⟨fun i H=>∃xs x,SqL K H a xs/\xs[i]?=some x,fun i H v H'=>∃t x,(∀xs,SqL K H a xs->xs[i]?=some x)/\v=.ref t/\H t=none/\H'=upd H t (.tup [.int ((m+i:Nat):Int),x]),fun i H=>∃xs,SqL K H a xs/\xs.length<=i⟩
noncomputable def Itz (a b:Addr):It :=
  ⟨fun i H => ∃xs ys x y, H a=some (.tup xs) /\ H b=some (.tup ys) /\ xs[i]?=some x /\ ys[i]?=some y, fun i H v H' => ∃t x y, (∀xs, H a=some (.tup xs) -> xs[i]?=some x) /\ (∀ys, H b=some (.tup ys) -> ys[i]?=some y) /\ v=.ref t /\ H t=none /\ H'=upd H t (.tup [x, y]),
   fun i H => ∃xs ys, H a=some (.tup xs) /\ H b=some (.tup ys) /\ ys.length=xs.length /\ xs.length <= i⟩
theorem X3 {m:Nat} {xs:List D} {i:Nat}:(XX m xs)[i]?=(xs[i]?).map fun d=>.tup [.int ((m+i:Nat):Int),d]:=by
 unfold XX;rw [List.getElem?_map,List.getElem?_zipIdx,Nat.zero_add];cases xs[i]? <;> rfl
theorem X4 {xs:List D} {i:Nat}:(QZ xs)[i]?=(xs[i]?).map fun d=>.tup [.int i,d]:=by
 unfold QZ;rw [List.getElem?_map,List.getElem?_zipIdx,Nat.zero_add];cases xs[i]? <;> rfl
theorem Q0 (xs:List D):(QZ xs).length=xs.length:=by simp [QZ]
inductive ItQ (K:PySem.W.Frag) (P:Addr->Prop) (J:It) (H:Hp) (items:List D):Prop
 | lst (a:Addr) (e:J=Itl K a) (r:Rep P H (.ref a) (.lst items))
 | tup (a:Addr) (e:J=Itt K a) (r:Rep P H (.ref a) (.tup items))
 | rng (lo:Int) (n:Nat) (e:J=Itr lo n) (r:items=(List.range n).map fun (k:Nat)=>D.int (lo+k))
 | chs (x:Str) (e:J=aJ4 x) (r:items=nG x)
 | enm (a:Addr) (ds:List D) (e:J=Ite K a) (r:Rep P H (.ref a) (.lst ds)) (h:items=QZ ds)
 | enf (m:Nat) (a:Addr) (ds:List D) (e:J=aL8 K m a) (r:Rep P H (.ref a) (.lst ds)) (h:items=XX m ds)
 | scr (a:Addr) (hK:KFrag.K=K) (e:J=Itl K a) (r:Rep P H (.ref a) (.scr items))
 | zip (a b:Addr) (ds es:List D) (e:J=Itz a b) (r:Rep P H (.ref a) (.tup ds)) (q:Rep P H (.ref b) (.tup es)) (n:es.length=ds.length) (h:items=aI4 ds es)
theorem ItQ.keep {K:PySem.W.Frag} {P P':Addr->Prop} {J:It} {H H':Hp} {items:List D} (h:ItQ K P J H items) (k:WK P H H') (m:∀a,P a->P' a):ItQ K P' J H' items:=by
 cases h with
 | lst a e r=>exact .lst a e (r.keep k m)
 | tup a e r=>exact .tup a e (r.keep k m)
 | rng lo n e r=>exact .rng lo n e r
 | chs x e r=>exact .chs x e r
 | enm a ds e r h=>exact .enm a ds e (r.keep k m) h
 | enf m' a ds e r h=>exact .enf m' a ds e (r.keep k m) h
 | zip a b ds es e r q n h=>exact .zip a b ds es e (r.keep k m) (q.keep k m) n h
 | scr a hK e r=>exact .scr a hK e (r.keep k m)
theorem ItQ.stop {K:PySem.W.Frag} {P:Addr->Prop} {J:It} {H:Hp} {items:List D} {i:Nat} (h:ItQ K P J H items) (hi:items.length<=i):J.stop i H:=by
 cases h with
 | lst a e r=>
  subst e;obtain ⟨a',xs,e,hq,rr⟩:=r.gM (K:=K);cases e;exact ⟨xs,hq,by rw [rr.length];exact hi⟩
 | tup a e r=>
  subst e;obtain ⟨a',xs,e,hq,rr⟩:=r.iV;cases e;exact ⟨xs,.of hq,by rw [rr.length];exact hi⟩
 | rng lo n e r=>
  subst e r;show n<=i;simpa using hi
 | chs x e r=>
  subst e r;show x.cps.size<=i;simpa [nG] using hi
 | enm a ds e r h=>
  subst e h;obtain ⟨a',xs,e,hq,rr⟩:=r.gM (K:=K);cases e;exact ⟨xs,hq,by rw [rr.length,<-Q0];exact hi⟩
 | enf m a ds e r h=>
  subst e h;obtain ⟨a',xs,e,hq,rr⟩:=r.gM (K:=K);cases e;exact ⟨xs,hq,by rw [rr.length];simpa [XX] using hi⟩
 | zip a b ds es e r q n h=>
  subst e h;obtain ⟨a',xs,e,hq,rr⟩:=r.iV;cases e;obtain ⟨b',ys,e,hq2,rr2⟩:=q.iV;cases e;have:(aI4 ds es).length=ds.length:=by simp [aI4,n]
  exact ⟨xs,ys,hq,hq2,by rw [rr.length,rr2.length];exact n,by rw [rr.length];lia⟩
 | scr a hK e r=>
  subst e;cases r with
  | frz ee rr=>exact ⟨_,ee.sq hK,by rw [rr.length];exact hi⟩
theorem ItQ.go {K:PySem.W.Frag} {P:Addr->Prop} {J:It} {H:Hp} {items:List D} {i:Nat} {d:D} (h:ItQ K P J H items) (hi:items[i]?=some d):J.go i H/\∀x H',J.yld i H x H'->cJ H H'/\Rep P H' x d:=by
 cases h with
 | lst a e r=>
  subst e;obtain ⟨a',xs,e,hq,rr⟩:=r.gM (K:=K);cases e;obtain ⟨v,h1,h2⟩:=rr.get hi;refine ⟨⟨xs,v,hq,h1⟩,fun x H' ⟨e,hy⟩=>?_⟩;subst e;refine ⟨cJ.refl _,?_⟩;have:=hy xs hq;rw [h1] at this;cases this;exact h2
 | tup a e r=>
  subst e;obtain ⟨a',xs,e,hq,rr⟩:=r.iV;cases e;obtain ⟨v,h1,h2⟩:=rr.get hi;refine ⟨⟨xs,v,.of hq,h1⟩,fun x H' ⟨e,hy⟩=>?_⟩;subst e;refine ⟨cJ.refl _,?_⟩;have:=hy xs (.of hq);rw [h1] at this;cases this;exact h2
 | rng lo n e r=>
  subst e r;have hlt:i<n:=by
   have:=(List.getElem?_eq_some_iff.mp hi).1;simpa using this
  refine ⟨hlt,fun x H' ⟨e,hy⟩=>?_⟩;subst e;have e2:D.int (lo+(i:Int))=d:=by simpa [hlt] using hi
  rw [hy,<-e2];exact ⟨cJ.refl _,.int _⟩
 | chs z e r=>
  subst e r;have hlt:i<z.cps.size:=by
   have:=(List.getElem?_eq_some_iff.mp hi).1;simpa [nG] using this
  refine ⟨hlt,fun x H' ⟨e,c,hc,hv⟩=>?_⟩;subst e hv;refine ⟨cJ.refl _,?_⟩;have e2:D.str ⟨#[c]⟩=d:=by
   unfold nG at hi;rw [List.getElem?_map,Array.getElem?_toList,hc] at hi;simpa using hi
  rw [<-e2];exact .str _
 | enm a ds e r h=>
  subst e h;obtain ⟨a',xs,e,hq,rr⟩:=r.gM (K:=K);cases e;rw [X4] at hi;cases hd:ds[i]? with
  | none=>rw [hd] at hi;cases hi
  | some y=>
   rw [hd] at hi;cases hi;obtain ⟨v,h1,h2⟩:=rr.get hd;refine ⟨⟨xs,v,hq,h1⟩,fun x H' ⟨t,u,hy,e1,e2,e3⟩=>?_⟩;subst e1 e3;have:=hy xs hq;rw [h1] at this;cases this;have sp:cJ H (upd H t (.tup [.int i,v])):=cJ.upd e2;exact ⟨sp,.tup aL (.cons (.int _) (.cons (h2.same sp) .nil))⟩
 | enf m a ds e r h=>
  subst e h;obtain ⟨a',xs,e,hq,rr⟩:=r.gM (K:=K);cases e;rw [X3] at hi;obtain ⟨y,hd,rfl⟩:=Option.map_eq_some_iff.mp hi;obtain ⟨v,h1,h2⟩:=rr.get hd;refine ⟨⟨xs,v,hq,h1⟩,fun x H' ⟨t,u,hy,e1,e2,e3⟩=>?_⟩;subst e1 e3;have:=hy xs hq;rw [h1] at this;cases this;have sp:cJ H (upd H t (.tup [.int ((m+i:Nat):Int),v])):=cJ.upd e2;exact ⟨sp,.tup aL (.cons (.int _) (.cons (h2.same sp) .nil))⟩
 | zip a b ds es e r q n h=>
  subst e h;obtain ⟨a',xs,e,hq,rr⟩:=r.iV;cases e;obtain ⟨b',ys,e,hq2,rr2⟩:=q.iV;cases e;unfold aI4 at hi;rw [List.getElem?_map] at hi;obtain ⟨⟨x,y⟩,hd,rfl⟩:=Option.map_eq_some_iff.mp hi;rw [List.getElem?_zip_eq_some] at hd;obtain ⟨v,h1,h2⟩:=rr.get hd.1;obtain ⟨v',h3,h4⟩:=rr2.get hd.2;refine ⟨⟨xs,ys,v,v',hq,hq2,h1,h3⟩,fun x H' ⟨t,u,u',hy,hy',e1,e2,e3⟩=>?_⟩;subst e1 e3;have z:=hy xs hq;rw [h1] at z;cases z;have z:=hy' ys hq2;rw [h3] at z;cases z;have sp:cJ H (upd H t (.tup [v,v'])):=cJ.upd e2;exact ⟨sp,.tup aL (.cons (h2.same sp) (.cons (h4.same sp) .nil))⟩
 | scr a hK e r=>
  subst e;cases r with
  | @frz _ xs _ ee rr=>
   obtain ⟨v,h1,h2⟩:=rr.get hi;refine ⟨⟨xs,v,ee.sq hK,h1⟩,fun x H' ⟨e,hy⟩=>?_⟩;subst e;refine ⟨cJ.refl _,?_⟩;have:=hy xs (ee.sq hK);rw [h1] at this;cases this;exact h2
noncomputable def gI (K:PySem.W.Frag) (f:FI):TI:=fun σ H R=>∃ρ items k,ER H σ ρ/\f ρ=.ok (items,k)/\∀J H1,cJ H H1->ItQ K All J H1 items->(k=true->ItQ K (New H) J H1 items)->R J H1
noncomputable def gIV (K:PySem.W.Frag) (i:Nat):TI:=fun σ H R=>∃v d items,σ[i]?=some (some v)/\Rep All H v d/\nA d=.ok items/\∀J,(∀P:Addr->Prop,Rep P H v d->ItQ K P J H items)->R J H
section
variable {X:Cx} {tg l a b:Expr} {fl fa:FE} {rl ra rr:Bool} {fs:FA} {p pos:Pos}
theorem HW {pins:List (Addr×Obj)} {s1:Shared} {σ:L2.St} {H1:Hp} {R:It->Hp->Prop} {v:V} {u:Value} {d:D} {items:List D} (I1:Inv X pins σ H1 s1) (r:Rep All H1 v d) (ru:RelV v u) (hi:nA d=.ok items)
  (q:∀J,(∀P:Addr->Prop,Rep P H1 v d->ItQ X.K P J H1 items)->R J H1):wpAny (model X.prog X.w) X.A (pyIter u) (PIE X pins σ tg R) X.xe s1:=by
 cases d <;> simp only [nA] at hi <;> cases hi
 ·obtain ⟨a,xs,rfl,e,rr⟩:=r.iV;cases ru;obtain ⟨its,rv,p,hz⟩:=I1.tuple (.of e);refine wpAny_pyIter_tuple (show s1.heap.IsTuple a its.toArray from p) ?_;refine ⟨s1.heap.objs.size,[s1.heap.objs.size],_,_,H1,rfl,I1.kept (t':=s1.toks) fun b o e=>Heap.get?_push_of_some _ e,KZ a _,⟨_,Heap.get?_push_size _ rfl,rfl,rfl⟩,fun b hb=>?_,q _ fun P r=>.tup a rfl r⟩;have e:b=s1.heap.objs.size:=by simpa using hb
  subst e;exact I1.aHx (Nat.le_refl _) (I1.hok.fresh (Nat.le_refl _))
 ·obtain ⟨a,xs,rfl,e,rr⟩:=r.gM (K:=X.K);cases ru;obtain ⟨its,rv,p,hz⟩:=I1.list e;refine wpAny_pyIter_list p.isList ?_;refine ⟨s1.heap.objs.size,[s1.heap.objs.size],_,_,H1,rfl,I1.kept (t':=s1.toks) fun b o e=>Heap.get?_push_of_some _ e,O6 a _,⟨_,Heap.get?_push_size _ rfl,rfl,rfl⟩,fun b hb=>?_,q _ fun P r=>.lst a rfl r⟩;have e:b=s1.heap.objs.size:=by simpa using hb
  subst e;exact I1.aHx (Nat.le_refl _) (I1.hok.fresh (Nat.le_refl _))
theorem aAc {i:Nat} {x:Str} (hN:X.N[i]?=some x) (hv:Vis X.env.scope x) (hd:nDb x:=by decide) (hcd:nCd x:=by decide):PI X tg (.Name x pos) (gIV X.K i):=by
 intro pins s σ H R I ⟨v,d,items,hσ,r,hi,q⟩;exact thn (cU hN hv hd hcd pins s σ H (fun w H1=>w=v/\H1=H) I ⟨v,hσ,rfl,rfl⟩) fun u s1 ⟨w,H1,I1,ru,e1,e2⟩=>by
  subst e1 e2;exact HW I1 r ru hi q
theorem uZ {i:Int} (h:nU i=true):-(2 ^ 62)<=i/\i<2 ^ 62:=by
 simp only [nU,Bool.and_eq_true,decide_eq_true_eq] at h;exact h
theorem PI.imp {w w':TI} (h:PI X tg l w) (i:∀σ H R,w' σ H R->w σ H R):PI X tg l w':=fun pins s σ H R I q=>h pins s σ H R I (i σ H R q)
theorem nW (hg:Gl X "range") (hm:X.mg "range" = none) (ha:PA X [a] (gA fs rr)) (hs:starEach [a] X.env=[(false,eval a X.env)]:=by rfl):PI X tg (.Call (.Name "range" p) [a] [] pos) (gI X.K (lX fs jL)):=
 PI.imp (xM hg hm ha hs) fun σ H R ⟨ρ,items,k,E,h,q⟩=>by
  obtain ⟨xs,h1,h⟩:=aY h;unfold jL at h;split at h
  ·split at h
   ·rename_i hb;cases h;obtain ⟨b1,b2⟩:=uZ hb;refine ⟨ρ,_,E,h1,fun vs H1 s1 r1 _=>?_⟩;cases r1 with
    | cons r t=>
     cases t;cases r;exact ⟨_,rfl,b1,b2,q _ H1 s1 (.rng 0 _ rfl rfl) fun _=>.rng 0 _ rfl rfl⟩
   ·cases h
  ·cases h
end
theorem X5 (n:Nat) (ρ bs:List D) (i:Nat) (h:i<n):(G8 n ρ++bs).getD i .uD=ρ.getD i .uD:=by
 rw [List.getD_eq_getElem?_getD,List.getElem?_append_left (by simp [G8];exact h)];simp [G8,h]
theorem HX (n:Nat) (ρ:List D):(G8 n ρ).length=n:=by simp [G8]
noncomputable def TgC (g:TG) (t:D->Res (List D)) (n m:Nat):Prop:=∀(v:V) (d:D) (bs:List D) (σ:L2.St) (H:Hp) (Q:L2.St->Hp->Prop),σ.length=n->Rep All H v d->t d=.ok bs->
 (∀σ2,Ext (σ++List.replicate m none) σ2->(∀j b,bs[j]?=some b->∃w,σ2[n+j]?=some (some w)/\Rep All H w b)->Q σ2 H)->g v (σ++List.replicate m none) H Q
theorem ER.ext {H:Hp} {σ σ2:L2.St} {ρ bs:List D} {n m:Nat} (E:ER H σ ρ) (hn:σ.length=n) (x:Ext (σ++List.replicate m none) σ2) (hb:∀j b,bs[j]?=some b->∃w,σ2[n+j]?=some (some w)/\Rep All H w b):ER H σ2 (G8 n ρ++bs):=by
 intro i hi;by_cases h:i<n
 ·rw [X5 n ρ bs i h] at hi ⊢;obtain ⟨v,h1,h2⟩:=E i hi;exact ⟨v,x.2 i v (by rw [List.getElem?_append_left (by rw [hn];exact h)];exact h1),h2⟩
 ·have e:(G8 n ρ++bs).getD i .uD=bs.getD (i-n) .uD:=by
   rw [List.getD_eq_getElem?_getD,List.getElem?_append_right (by rw [HX];lia),HX,<-List.getD_eq_getElem?_getD]
  rw [e] at hi ⊢;cases hq:bs[i-n]? with
  | none=>rw [List.getD_eq_getElem?_getD,hq] at hi;exact absurd rfl hi
  | some b=>
   obtain ⟨w,h1,h2⟩:=hb (i-n) b hq;rw [List.getD_eq_getElem?_getD,hq];exact ⟨w,by rw [<-h1];congr 1;lia,h2⟩
theorem sJ {K:PySem.W.Frag} {it:FI} {t:D->Res (List D)} {c:FT} {f:FE} {k:Bool} {n m:Nat} {g:TG} {tc:TT} (tg:TgC g t n m) (hc:∀σ H Q,gT c σ H Q->tc σ H Q) {σ:L2.St} {H:Hp} {Q:VK} (hn:σ.length=n) (h:gE (e_ n it t c f k) true σ H Q) :
  L_ (gI K it) g tc (gE f k) m σ H Q:=by
 obtain ⟨ρ,d,E,h,q⟩:=h;obtain ⟨⟨items,kk⟩,h1,h⟩:=aY h;split at h
 ·rename_i hlim;obtain ⟨ys,h2,h⟩:=aY h;cases h;refine ⟨ρ,items,kk,E,h1,fun J H1 s1 hJ _ p hp=>?_⟩;have hp0:H p=none:=s1.free hp;refine ⟨fun i n' vs H'=>n'=items.length-i/\i<=items.length/\H' p=some (.lst vs)/\cJ H1 H'/\∃acc,acc.length<=i/\bR (fun a=>H a=none/\a≠p) H' vs acc/\jE (rW n t c f k ρ) acc (items.drop i)=.ok ys,⟨items.length,?_⟩,?_⟩
  ·exact ⟨rfl,Nat.zero_le _,aL,cJ.upd hp,[],Nat.zero_le _,.nil,h2⟩
  ·rintro i n' vs H' ⟨rfl,hi,hH,sm,acc,hal,racc,hf⟩;refine ⟨hH,?_⟩;have hJ':ItQ K All J H' items:=hJ.keep (.same sm) fun _ z=>z
   rcases Nat.lt_or_ge i items.length with hlt|hge
   ·refine .inr ?_;have e:items[i]?=some items[i]:=List.getElem?_eq_getElem hlt;obtain ⟨g1,g2⟩:=hJ'.go e;have hl1:items.length<=lim:=of_decide_eq_true hlim;refine ⟨g1,?_,fun x H2 hy=>?_⟩
    ·rw [racc.length];exact Nat.lt_of_le_of_lt hal (Nat.lt_of_lt_of_le hlt (Nat.le_trans hl1 (by rw [sizeLine_eq];decide)))
    ·obtain ⟨sH,rx⟩:=g2 x H2 hy;have hH:=sH p _ hH;have sm:=sm.trans sH;have racc:=racc.same sH;rw [List.drop_eq_getElem_cons hlt] at hf;obtain ⟨acc2,hs,hf⟩:=aY hf;obtain ⟨bs,hb,hs⟩:=aY hs;obtain ⟨ok,hok,hs⟩:=aY hs;refine tg x items[i] bs σ H2 _ hn rx hb fun σ2 hx hbs=>⟨hx,hc _ _ _ ?_⟩
     have E2:ER H2 σ2 (G8 n ρ++bs):=(E.same (s1.trans sm)).ext hn hx hbs;refine ⟨_,ok,E2,hok,fun H4 s4=>?_⟩;cases ok with
     | true=>
      rw [if_pos rfl];rw [if_pos rfl] at hs;obtain ⟨y,hy2,hs⟩:=aY hs;split at hs
      ·rename_i hk;cases hs;refine ⟨_,y,E2.same s4,hy2,fun w H5 s5 r5 n5=>⟨s5 p _ (s4 p _ hH),items.length-(i+1),by lia,rfl,hlt,aL,?_,acc++[y],?_,?_,hf⟩⟩
       ·exact fun b o e=>by
         rw [bB (b_ e hp)];exact s5 b o (s4 b o (sm b o e))
       ·rw [List.length_append,List.length_singleton];lia
       ·have hp5:H5 p=some (.lst vs):=s5 p _ (s4 p _ hH);have ry:Rep (fun a=>H a=none/\a≠p) H5 w y:=by
         rw [Bool.or_eq_true] at hk;rcases hk with hk|hk
         ·exact (n5 hk).mono fun a ha=>⟨((s1.trans sm).trans s4).free ha,fun z=>by subst z;have h0:=s4 _ _ hH;rw [show H4 _=none from ha] at h0;cases h0⟩
         ·exact r5.bL hk
        have all:bR (fun a=>H a=none/\a≠p) H5 (vs++[w]) (acc++[y]):=(racc.same (s4.trans s5)).snoc ry;refine all.keep (fun b o e hb=>?_) fun _ z=>z
        rw [bB]
        ·exact e
        ·rcases hb with hb|hb
         ·exact hb.2
         ·intro z;subst z;rw [hp5] at e;cases e;cases hb
      ·cases hs
     | false=>
      rw [if_neg (by simp)];rw [if_neg (by simp)] at hs;cases hs;exact ⟨items.length-(i+1),by lia,rfl,hlt,s4 p _ hH,sm.trans s4,acc,by lia,racc.same s4,hf⟩
   ·refine .inl ⟨hJ'.stop hge,?_⟩;rw [List.drop_eq_nil_of_le hge] at hf;cases hf;exact q _ _ (s1.trans sm) (.lst hH trivial racc.all) fun _=>.lst hH hp0 (racc.mono fun a z=>z.1)
 ·cases h
noncomputable def gIx:List Nat->TGs
 | []=>aJz
 | i::is=>aEs (rJ i) (gIx is)
noncomputable def MJ:List Nat->List V->L2.St->L2.St
 | i::is,v::vs,σ=>MJ is vs (σ.set i (some v))
 | _,_,σ=>σ
theorem vW {H:Hp} {Q:L2.St->Hp->Prop}:∀(is:List Nat) (vs:List V) (σ:L2.St),vs.length=is.length->Q (MJ is vs σ) H->gIx is vs σ H Q
 | [],[],σ,_,q=>⟨rfl,q⟩
 | i::is,v::vs,σ,h,q=>⟨v,vs,rfl,vW is vs (σ.set i (some v)) (by simpa using h) q⟩
 | [],_::_,_,h,_=>by simp at h
 | _::_,[],_,h,_=>by simp at h
theorem iK (n:Nat):TgC (rJ n) oM n 1:=by
 intro v d bs σ H Q hn r h q;cases h;have hl:(σ++List.replicate 1 (none:Option V)).length=n+1:=by simp [hn]
 refine q _ ⟨by simp,fun i w hi=>?_⟩ fun j b hj=>?_
 ·have:i≠n:=fun z=>by
   subst z;rw [List.getElem?_append_right (by lia)] at hi;simp [hn] at hi
  rw [List.getElem?_set_ne (Ne.symm this)];exact hi
 ·have e:j=0:=by
   have:=(List.getElem?_eq_some_iff.mp hj).1;simp at this;exact this
  subst e;have e:d=b:=by simpa using hj
  subst e;exact ⟨v,by rw [Nat.add_zero,List.getElem?_set_self (by lia)],r⟩
section
variable {X:Cx} {scope:Scope} {ownN:List Str} {elt iter tg c:Expr} {it:FI} {t:D->Res (List D)} {g:TG} {gc:FT} {fe:FE} {re:Bool} {pos:Pos}
theorem aCg {n m:Nat} (S:eE X.N X.env.scope scope ownN) (hn:X.N.length=n) (hm:ownN.length=m) (hcalm:X.calm=true) (hi:PI X tg iter (gI X.K it)) (ht:TgC g t n m) (hg:∀X',eN X X' scope ownN->PG X' tg g) (he:∀X',eN X X' scope ownN->PE X' elt (gE fe re))
  (hs:∀x,foldedSetIterable iter X.env x=pure x):PE X (.ListComp elt [⟨tg,iter,[],0⟩] scope pos) (gE (e_ n it t h_ fe re) true):=by
 intro pins s σ H Q I h;subst hm;exact XN S hcalm hi hg he hs pins s σ H Q I (sJ ht (fun σ H Q h=>by obtain ⟨ρ,b,E,h,q⟩:=h;cases h;exact q H (cJ.refl H)) (I.len.trans hn) h)
end
mutual
theorem Rep.dom {P:Addr->Prop} {H:Hp}:∀{v:V} {d:D},Rep P H v d->Rep (fun a=>P a/\H a≠none) H v d
 | _,_,.non=>.non
 | _,_,.bl b=>.bl b
 | _,_,.int i=>.int i
 | _,_,.str x=>.str x
 | _,_,.tup e r=>.tup e (bR.dom r)
 | _,_,.lst e p r=>.lst e ⟨p,by rw [e];simp⟩ (bR.dom r)
 | _,_,.cel e p r=>.cel e ⟨p,by rw [e];simp⟩ (bR.dom r)
 | _,_,.frz e r=>.frz e (bR.dom r)
 | _,_,.dK e p r n=>.dK e ⟨p,by rw [e];simp⟩ (oY.dom r) n
 | _,_,.dT e p r n=>.dT e ⟨p,by rw [e];simp⟩ (pO.dom r) n
 | _,_,.fdK e r n=>.fdK e (oY.dom r) n
 | _,_,.fdT e r n=>.fdT e (pO.dom r) n
 | _,_,.exc n e q=>.exc n e q
theorem bR.dom {P:Addr->Prop} {H:Hp}:∀{v:List V} {d:List D},bR P H v d->bR (fun a=>P a/\H a≠none) H v d
 | _,_,.nil=>.nil
 | _,_,.cons r t=>.cons (Rep.dom r) (bR.dom t)
theorem oY.dom {P:Addr->Prop} {H:Hp}:∀{v:List (Key×V)} {d:List (D×D)},oY P H v d->oY (fun a=>P a/\H a≠none) H v d
 | _,_,.nil=>.nil
 | _,_,.cons r t=>.cons (Rep.dom r) (oY.dom t)
theorem pO.dom {P:Addr->Prop} {H:Hp}:∀{v:List (List Key×V)} {d:List (D×D)},pO P H v d->pO (fun a=>P a/\H a≠none) H v d
 | _,_,.nil=>.nil
 | _,_,.cons r t=>.cons (Rep.dom r) (pO.dom t)
end
theorem oY.bL {P P':Addr->Prop} {H:Hp}:∀{v:List (Key×V)} {d:List (D×D)},oY P H v d->D.aW (d.map (·.2))=true->oY P' H v d
 | _,_,.nil,_=>.nil
 | _,_,.cons r t,h=>by
  rw [List.map_cons,D.aW,Bool.and_eq_true] at h;exact .cons (r.bL h.1) (t.bL h.2)
theorem pO.bL {P P':Addr->Prop} {H:Hp}:∀{v:List (List Key×V)} {d:List (D×D)},pO P H v d->D.aW (d.map (·.2))=true->pO P' H v d
 | _,_,.nil,_=>.nil
 | _,_,.cons r t,h=>by
  rw [List.map_cons,D.aW,Bool.and_eq_true] at h;exact .cons (r.bL h.1) (t.bL h.2)
theorem Rep.oN {P P':Addr->Prop} {H:Hp} {a:Addr} {d:D} (r:Rep P H (.ref a) d) (h:inner d=true) (hp:P' a):Rep P' H (.ref a) d:=by
 cases r with
 | tup e r=>cases h
 | lst e p r=>exact .lst e hp (r.bL h)
 | cel e p r=>exact .cel e hp (r.bL h)
 | frz e r=>cases h
 | dK e p r n=>exact .dK e hp (r.bL h) n
 | dT e p r n=>exact .dT e hp (r.bL h) n
 | fdK e r n=>cases h
 | fdT e r n=>cases h
 | exc n e q=>cases h
noncomputable def Own (own:Nat->Bool) (σ:L2.St) (a:Addr):Prop:=∃i,own i=true/\σ[i]?=some (some (.ref a))
structure ES (own:Nat->Bool) (H:Hp) (σ:L2.St) (ρ:List D):Prop where
 len:σ.length=ρ.length
 at_:∀i,ρ.getD i .uD≠.uD->∃v,σ[i]?=some (some v)/\(own i=false->Rep (fun a=>¬Own own σ a) H v (ρ.getD i .uD))
 own:∀i v,own i=true->σ[i]?=some (some v)->∃a o,v=.ref a/\Rep All H v (ρ.getD i .uD)/\inner (ρ.getD i .uD)=true/\H a=some o/\LQ o=true/\∀j,own j=true->σ[j]?=some (some (.ref a))->j=i
variable {own:Nat->Bool}
theorem ES.er {H:Hp} {σ:L2.St} {ρ:List D} (e:ES own H σ ρ):ER H σ ρ:=fun i hi=>by
 obtain ⟨v,h1,h2⟩:=e.at_ i hi;cases ho:own i with
 | false=>exact ⟨v,h1,(h2 ho).all⟩
 | true=>
  obtain ⟨a,o,_,h3,_⟩:=e.own i v ho h1;exact ⟨v,h1,h3⟩
theorem ES.live {H:Hp} {σ:L2.St} {ρ:List D} (e:ES own H σ ρ) {a:Addr} (h:Own own σ a):∃o,H a=some o/\LQ o=true:=by
 obtain ⟨i,hi,hs⟩:=h;obtain ⟨b,o,eb,_,_,h3,h4,_⟩:=e.own i _ hi hs;cases eb;exact ⟨o,h3,h4⟩
theorem ES.same {H H':Hp} {σ:L2.St} {ρ:List D} (e:ES own H σ ρ) (s:cJ H H'):ES own H' σ ρ:=by
 refine ⟨e.len,fun i hi=>?_,fun i v hi hv=>?_⟩
 ·obtain ⟨v,h1,h2⟩:=e.at_ i hi;exact ⟨v,h1,fun ho=>(h2 ho).same s⟩
 ·obtain ⟨a,o,h1,h2,h3,h4,h5,h6⟩:=e.own i v hi hv;exact ⟨a,o,h1,h2.same s,h3,s _ _ h4,h5,h6⟩
noncomputable def KU (own:Nat->Bool) (σ:L2.St) (H:Hp) (σ':L2.St) (H':Hp):Prop:=∀a o,H a=some o->¬Own own σ a->H' a=some o/\¬Own own σ' a
theorem KU.trans {σ σ1 σ2:L2.St} {H H1 H2:Hp} (a:KU own σ H σ1 H1) (b:KU own σ1 H1 σ2 H2):KU own σ H σ2 H2:=fun c o e n=>let ⟨e1,n1⟩:=a c o e n;b c o e1 n1
theorem KU.same {σ:L2.St} {H H':Hp} (s:cJ H H'):KU own σ H σ H':=fun a o e n=>⟨s a o e,n⟩
theorem KU.keep {σ σ':L2.St} {H H':Hp} {ρ:List D} (k:KU own σ H σ' H') (e:ES own H σ ρ):WK (fun a=>¬Own own σ a) H H':=fun a o h hp=>by
 by_cases ho:Own own σ a
 ·obtain ⟨o',h1,h2⟩:=e.live ho;rw [h] at h1;cases h1;rcases hp with hp|hp
  ·exact absurd ho hp
  ·rw [h2] at hp;cases hp
 ·exact (k a o h ho).1
theorem KU.rep {σ σ':L2.St} {H H':Hp} {ρ:List D} (k:KU own σ H σ' H') (e:ES own H σ ρ) {v:V} {d:D} (r:Rep (fun a=>¬Own own σ a) H v d):Rep (fun a=>¬Own own σ' a) H' v d:=by
 refine r.dom.keep (P':=fun a=>¬Own own σ' a) (fun a o h hp=>?_) fun a ⟨h1,h2⟩=>?_
 ·refine k.keep e a o h (hp.imp (fun z=>z.1) id)
 ·cases q:H a with
  | none=>exact absurd q h2
  | some o=>exact (k a o q h1).2
noncomputable def kRt (own:Nat->Bool) (D:Ends) (σ:L2.St) (H:Hp) (d:Mi.D):Prop:=if own rtX=true then ∃d0 ρ',d=.tup (d0::ρ')/\∀v σ' H',KU own σ H σ' H'->ES own H' σ' ρ'->Rep (fun a=>(Own own σ a\/H a=none)/\∀i b xs,ρ'.getD i .uD=.cel b xs->a≠b) H' v d0->D.rt v H'
  else ∀v H',(∀a o,H a=some o->¬Own own σ a->H' a=some o)->Rep (fun a=>Own own σ a\/H a=none) H' v d->D.rt v H'
theorem kRt.old {own:Nat->Bool} {D:Ends} {σ:L2.St} {H:Hp} {d:Mi.D} (h:kRt own D σ H d) (hx:own rtX=false):∀v H',(∀a o,H a=some o->¬Own own σ a->H' a=some o)->Rep (fun a=>Own own σ a\/H a=none) H' v d->D.rt v H':=by
 unfold kRt at h;rw [if_neg (by rw [hx];simp)] at h;exact h
theorem kRt.mk {own:Nat->Bool} {D:Ends} {σ:L2.St} {H:Hp} {d:Mi.D} (hx:own rtX=false) (h:∀v H',(∀a o,H a=some o->¬Own own σ a->H' a=some o)->Rep (fun a=>Own own σ a\/H a=none) H' v d->D.rt v H'):kRt own D σ H d:=by
 unfold kRt;rw [if_neg (by rw [hx];simp)];exact h
noncomputable def kS (own:Nat->Bool) (D:Ends) (σ:L2.St) (H:Hp):Fl->Prop
 | .nx ρ=>∀σ' H',KU own σ H σ' H'->ES own H' σ' ρ->D.nx σ' H'
 | .bk ρ=>∀σ' H',KU own σ H σ' H'->ES own H' σ' ρ->D.bk σ' H'
 | .ct ρ=>∀σ' H',KU own σ H σ' H'->ES own H' σ' ρ->D.ct σ' H'
 | .rt d=>kRt own D σ H d
theorem kS.step {D:Ends} {σ σ':L2.St} {H H':Hp} {fl:Fl} (k:KU own σ H σ' H') (h:kS own D σ H fl):kS own D σ' H' fl:=by
 cases fl with
 | nx ρ=>exact fun σ2 H2 k2 e=>h σ2 H2 (k.trans k2) e
 | bk ρ=>exact fun σ2 H2 k2 e=>h σ2 H2 (k.trans k2) e
 | ct ρ=>exact fun σ2 H2 k2 e=>h σ2 H2 (k.trans k2) e
 | rt d=>
  have old:∀a,(Own own σ' a\/H' a=none)->Own own σ a\/H a=none:=fun a ha=>by
   cases q:H a with
   | none=>exact .inr rfl
   | some o=>
    refine .inl (Classical.byContradiction fun n=>?_);obtain ⟨e1,n1⟩:=k a o q n;rcases ha with ha|ha
    ·exact n1 ha
    ·rw [e1] at ha;cases ha
  have h:kRt own D σ H d:=h;show kRt own D σ' H' d;unfold kRt at h ⊢;by_cases hx:own rtX=true
  ·rw [if_pos hx] at h ⊢;obtain ⟨d0,ρ',e,g⟩:=h;exact ⟨d0,ρ',e,fun v σ2 H2 k2 E2 r=>g v σ2 H2 (k.trans k2) E2 (r.mono fun a ha=>⟨old a ha.1,ha.2⟩)⟩
  ·rw [if_neg hx] at h ⊢;exact fun v H2 hk r=>h v H2 (fun a o e n=>let ⟨e1,n1⟩:=k a o e n;hk a o e1 n1) (r.mono fun a ha=>old a ha)
noncomputable def tS (own:Nat->Bool) (f:FS):TS:=fun D σ H=>∃ρ fl,ES own H σ ρ/\f ρ=.ok fl/\kS own D σ H fl
theorem PS.imp {X:Cx} {st:Stmt} {t t':TS} (h:PS X st t) (i:∀D σ H,t' D σ H->t D σ H):PS X st t':=fun pins s σ H D I q=>h pins s σ H D I (i D σ H q)
theorem PSs.imp {X:Cx} {st:List Stmt} {t t':TS} (h:PSs X st t) (i:∀D σ H,t' D σ H->t D σ H):PSs X st t':=fun pins s σ H D I q=>h pins s σ H D I (i D σ H q)
section
variable {X:Cx} {a b c e:Expr} {pos pos':Pos} {fa fb fc fe:FE} {ra rb rc re:Bool} {ga gb gc:FT} {f g:FS} {st:Stmt} {rest s1 s2:List Stmt}
theorem b7:PSs X [] (tS own fH):=PSs.imp aBh fun D σ H ⟨ρ,fl,E,h,q⟩=>by
 cases h;exact q σ H (fun a o e n=>⟨e,n⟩) E
theorem Q3 {D:Ends} {σ:L2.St} {H:Hp} (h:tS own (aQ f g) D σ H):Z9 (tS own f) (tS own g) D σ H:=by
 obtain ⟨ρ,fl,E,h,q⟩:=h;obtain ⟨r,h1,h2⟩:=aY h;refine ⟨ρ,r,E,h1,?_⟩;cases r with
 | nx ρ'=>exact fun σ' H' k E'=>⟨ρ',fl,E',h2,q.step k⟩
 | bk ρ'=>cases h2;exact q
 | ct ρ'=>cases h2;exact q
 | rt d=>cases h2;exact q
theorem aG (h1:PS X st (tS own f)) (h2:PSs X rest (tS own g)):PSs X (st::rest) (tS own (aQ f g)):=PSs.imp (kY h1 h2) fun _ _ _=>Q3
theorem aX (h1:PS X st (tS own f)):PSs X [st] (tS own f):=nR h1
theorem fK (hc:PT X c (gT gc)) (ha:PSs X s1 (tS own f)) (hb:PSs X s2 (tS own g)):PS X (.If c s1 s2 pos) (tS own (sIf gc f g)):=PS.imp (aBi hc ha hb) fun D σ H ⟨ρ,fl,E,h,q⟩=>by
 obtain ⟨k,h1,h2⟩:=aY h;refine ⟨ρ,k,E.er,h1,fun H' s=>?_⟩;cases k with
 | true=>rw [if_pos rfl];rw [if_pos rfl] at h2;exact ⟨ρ,fl,E.same s,h2,q.step (.same s)⟩
 | false=>rw [if_neg (by simp)];rw [if_neg (by simp)] at h2;exact ⟨ρ,fl,E.same s,h2,q.step (.same s)⟩
theorem eO (he:PE X e (gE fe re)) (hx:own rtX=false:=by rfl):PS X (.Return (some e) pos) (tS own (j8 fe re)):=PS.imp (uQ he) fun D σ H ⟨ρ,fl,E,h,q⟩=>by
 obtain ⟨d,h1,h2⟩:=aY h;split at h2
 ·rename_i hk;cases h2;refine ⟨ρ,d,E.er,h1,fun v H' s r n=>q.old hx v H' (fun a o e _=>s a o e) ?_⟩;rw [Bool.or_eq_true] at hk;rcases hk with hk|hk
  ·exact (n hk).mono fun a ha=>.inr ha
  ·exact r.bL hk
 ·cases h2
theorem aCh {i:Nat} {x:Str} (ho:own i=true) (hN:X.N[i]?=some x) (hv:Vis X.env.scope x) (hd:nDb x:=by decide) (hcd:nCd x:=by decide) (hx:own rtX=false:=by rfl):PS X (.Return (some (.Name x pos')) pos) (tS own (aFg i)):=
 PS.imp (uQ (cU hN hv hd hcd)) fun D σ H ⟨ρ,fl,E,h,q⟩=>by
 obtain ⟨d,h1,h2⟩:=aY h;cases h2;obtain ⟨v,hv,r,e⟩:=E.er.var h1;obtain ⟨a,o,rfl,r2,hin,_⟩:=E.own i v ho hv;rw [e] at hin;exact ⟨_,hv,q.old hx _ H (fun a o e _=>e) (r.oN hin (.inl ⟨i,ho,hv⟩))⟩
theorem jT {σ:L2.St} {i:Nat} {v:V} (ho:own i=false) (a:Addr):Own own (σ.set i (some v)) a↔Own own σ a:=by
 constructor
 ·rintro ⟨j,hj,e⟩;have:i≠j:=fun z=>by subst z;rw [ho] at hj;cases hj
  rw [List.getElem?_set_ne this] at e;exact ⟨j,hj,e⟩
 ·rintro ⟨j,hj,e⟩;have:i≠j:=fun z=>by subst z;rw [ho] at hj;cases hj
  exact ⟨j,hj,by rw [List.getElem?_set_ne this];exact e⟩
theorem cY {ρ:List D} {i j:Nat} {d:D}:(ρ.set i d).getD j .uD=if i=j/\i<ρ.length then d else ρ.getD j .uD:=by
 rw [List.getD_eq_getElem?_getD,List.getD_eq_getElem?_getD,List.getElem?_set];by_cases h:i=j
 ·subst h;by_cases h2:i<ρ.length
  ·simp [h2]
  ·simp [h2]
 ·simp [h]
theorem ES.set {H:Hp} {σ:L2.St} {ρ:List D} {i:Nat} {v:V} {d:D} (E:ES own H σ ρ) (ho:own i=false) (r:Rep (fun a=>¬Own own σ a) H v d):ES own H (σ.set i (some v)) (ρ.set i d):=by
 have hO:(fun a=>¬Own own (σ.set i (some v)) a)=fun a=>¬Own own σ a:=funext fun a=>by rw [jT ho]
 refine ⟨by simp [E.len],fun j hj=>?_,fun j w hj hw=>?_⟩
 ·rw [cY] at hj ⊢;rw [hO];by_cases h:i=j/\i<ρ.length
  ·rw [if_pos h];obtain ⟨rfl,hl⟩:=h;exact ⟨v,by rw [List.getElem?_set_self (by rw [E.len];exact hl)],fun _=>r⟩
  ·rw [if_neg h] at hj ⊢;obtain ⟨w,h1,h2⟩:=E.at_ j hj;by_cases hij:i=j
   ·subst hij;have:i<σ.length:=(List.getElem?_eq_some_iff.mp h1).1;rw [E.len] at this;exact absurd ⟨rfl,this⟩ h
   ·exact ⟨w,by rw [List.getElem?_set_ne hij];exact h1,h2⟩
 ·have hij:i≠j:=fun z=>by subst z;rw [ho] at hj;cases hj
  rw [List.getElem?_set_ne hij] at hw;rw [cY,if_neg fun z=>hij z.1];obtain ⟨a,o,h1,h2,h3,h4,h5,h6⟩:=E.own j w hj hw;refine ⟨a,o,h1,h2,h3,h4,h5,fun k hk hs=>h6 k hk ?_⟩;have hik:i≠k:=fun z=>by subst z;rw [ho] at hk;cases hk
  rwa [List.getElem?_set_ne hik] at hs
theorem ES.aL9 {H H':Hp} {σ:L2.St} {ρ:List D} {i:Nat} {a:Addr} {o:HO} {d:D} (E:ES own H σ ρ) (s:cJ H H') (ho:own i=true) (hn:H a=none) (r:Rep All H' (.ref a) d) (hin:inner d=true) (ha:H' a=some o) (hm:LQ o=true) :
  ES own H' (σ.set i (some (.ref a))) (ρ.set i d)/\KU own σ H (σ.set i (some (.ref a))) H':=by
 have hO:∀b,H b≠none->¬Own own σ b->¬Own own (σ.set i (some (.ref a))) b:=fun b hb n ⟨j,hj,e⟩=>by
  by_cases hij:i=j
  ·subst hij;by_cases hl:i<σ.length
   ·rw [List.getElem?_set_self hl] at e;cases e;exact hb hn
   ·rw [List.getElem?_set,if_pos rfl,if_neg hl] at e;cases e
  ·rw [List.getElem?_set_ne hij] at e;exact n ⟨j,hj,e⟩
 refine ⟨⟨by simp [E.len],fun j hj=>?_,fun j w hj hw=>?_⟩,fun b ob e n=>⟨s b ob e,hO b (by rw [e];simp) n⟩⟩
 ·rw [cY] at hj ⊢;by_cases h:i=j/\i<ρ.length
  ·rw [if_pos h];obtain ⟨rfl,hl⟩:=h;exact ⟨.ref a,by rw [List.getElem?_set_self (by rw [E.len];exact hl)],fun z=>by rw [ho] at z;cases z⟩
  ·rw [if_neg h] at hj ⊢;obtain ⟨w,h1,h2⟩:=E.at_ j hj;by_cases hij:i=j
   ·subst hij;have:i<σ.length:=(List.getElem?_eq_some_iff.mp h1).1;rw [E.len] at this;exact absurd ⟨rfl,this⟩ h
   ·exact ⟨w,by rw [List.getElem?_set_ne hij];exact h1,fun hj=>((h2 hj).dom.same s).mono fun b ⟨n,hb⟩=>hO b hb n⟩
 ·by_cases hij:i=j
  ·subst hij;have hl:i<σ.length:=by
    have:=(List.getElem?_eq_some_iff.mp hw).1;simpa using this
   rw [List.getElem?_set_self hl] at hw;cases hw;rw [cY,if_pos ⟨rfl,by rw [<-E.len];exact hl⟩];refine ⟨a,o,rfl,r,hin,ha,hm,fun k hk hs=>?_⟩;by_cases hik:i=k
   ·exact hik.symm
   ·rw [List.getElem?_set_ne hik] at hs;obtain ⟨o',h1,_⟩:=E.live ⟨k,hk,hs⟩;rw [hn] at h1;cases h1
  ·rw [List.getElem?_set_ne hij] at hw;rw [cY,if_neg fun z=>hij z.1];obtain ⟨b,ob,h1,h2,h3,h4,h5,h6⟩:=E.own j w hj hw;refine ⟨b,ob,h1,h2.same s,h3,s _ _ h4,h5,fun k hk hs=>?_⟩;by_cases hik:i=k
   ·subst hik;by_cases hl:i<σ.length
    ·rw [List.getElem?_set_self hl] at hs;cases hs;rw [hn] at h4;cases h4
    ·rw [List.getElem?_set,if_pos rfl,if_neg hl] at hs;cases hs
   ·rw [List.getElem?_set_ne hik] at hs;exact h6 k hk hs
theorem aAd {P:Addr->Prop} {H:Hp} {v:V} {d:D} (r:Rep P H v d) (hin:inner d=true):∃a o,v=.ref a/\P a/\H a=some o/\LQ o=true:=by
 cases r with
 | lst e p r=>exact ⟨_,_,rfl,p,e,rfl⟩
 | cel e p r=>exact ⟨_,_,rfl,p,e,rfl⟩
 | dK e p r n=>exact ⟨_,_,rfl,p,e,rfl⟩
 | dT e p r n=>exact ⟨_,_,rfl,p,e,rfl⟩
 | fdK e r n=>cases hin
 | fdT e r n=>cases hin
 | _=>cases hin
theorem CJ {H H':Hp} {σ:L2.St} {ρ:List D} (E:ES own H σ ρ) {v:V} {d:D} (r:Rep (New H) H' v d):Rep (fun a=>¬Own own σ a) H' v d:=r.mono fun a ha ho=>by
 obtain ⟨o,h1,_⟩:=E.live ho;rw [show H a=none from ha] at h1;cases h1
theorem vX {o:Bool} {i:Nat} {D':Ends} {σ:L2.St} {H:Hp} (ho:own i=o) (h:tS own (bD o i fe re) D' σ H):aBj (gE fe re) (rJ i) D' σ H:=by
 obtain ⟨ρ,fl,E,h,q⟩:=h;obtain ⟨d,h1,h2⟩:=aY h;cases o with
 | true=>
  simp only [if_true] at h2;split at h2
  ·rename_i hk;cases h2;refine ⟨ρ,d,E.er,h1,fun v H' s r n=>?_⟩;rw [Bool.and_eq_true] at hk;obtain ⟨a,ob,rfl,hn,ha,hm⟩:=aAd (n hk.1) hk.2;obtain ⟨E2,k⟩:=E.aL9 s ho hn r hk.2 ha hm;exact q _ H' k E2
  ·cases h2
 | false=>
  simp only [Bool.false_eq_true,if_false] at h2;split at h2
  ·rename_i hk;cases h2;refine ⟨ρ,d,E.er,h1,fun v H' s r n=>?_⟩;rw [Bool.or_eq_true] at hk;have r2:Rep (fun a=>¬Own own σ a) H' v d:=by
    rcases hk with hk|hk
    ·exact CJ E (n hk)
    ·exact r.bL hk
   exact q _ H' (fun a ob e hn=>⟨s a ob e,by rw [jT ho];exact hn⟩) ((E.same s).set ho r2)
  ·cases h2
theorem aFq {i:Nat} {x:Str} {o:Bool} (ho:own i=o) (hN:X.N.Nodup) (hi:X.N[i]?=some x) (hx:Loc X.env.scope x) (he:PE X e (gE fe re)) (hs:swapsWith e (some (.Name x pos')) pos.line X.env=pure false:=by rfl) (hf:X.fn x=true\/X.env.scope.names.lookup x=some .local:=by first|exact .inl rfl|exact .inr rfl|assumption) :
  PS X (.Assign [.Name x pos'] e pos) (tS own (bD o i fe re)):=PS.imp (uR hN hi hx he hs hf) fun _ _ _=>vX ho
theorem bZ {i:Nat} {x:Str} {o:Bool} (he:PE X e (gE fe re)) (ho:own i=o:=by rfl) (hN:X.N.Nodup:=by assumption) (hi:X.N[i]?=some x:=by exact rfl) (hx:Loc X.env.scope x:=by trivial) (hs:swapsWith e (some (.Name x pos')) pos.line X.env=pure false:=by rfl) (hf:X.fn x=true\/X.env.scope.names.lookup x=some .local:=by first|exact .inl rfl|exact .inr rfl|assumption):PS X (.Assign [.Name x pos'] e pos) (tS own (bD o i fe re)):=aFq ho hN hi hx he hs hf
theorem aJ5 {i j:Nat} {x y:Str} {py:Pos} (ho:own i=false) (hoj:own j=false) (hN:X.N.Nodup) (hi:X.N[i]?=some x) (hx:Loc X.env.scope x) (hj:X.N[j]?=some y) (hy:Vis X.env.scope y) (hs:swapsWith (.Name y py) (some (.Name x pos')) pos.line X.env=pure false:=by rfl) (hf:X.fn x=true\/X.env.scope.names.lookup x=some .local:=by first|exact .inl rfl|exact .inr rfl|assumption)
  (hd:(y==("__debug__" : Str))=false:=by decide) (hcd:(y==("__classdict__" : Str))=false:=by decide):PS X (.Assign [.Name x pos'] (.Name y py) pos) (tS own (sAl i j)):=PS.imp (uR hN hi hx (cU hj hy hd hcd) hs hf) fun D' σ H ⟨ρ,fl,E,h,q⟩=>by
 obtain ⟨d,h1,h2⟩:=aY h;cases h2;obtain ⟨v,hv,r,e⟩:=E.er.var h1;have hne:ρ.getD j .uD≠.uD:=fun z=>by
  rw [z] at e;subst e;exact Rep.uD r
 obtain ⟨w,hw,hr⟩:=E.at_ j hne;rw [hv] at hw;cases hw;have r2:=hr hoj;rw [e] at r2;exact ⟨v,hv,q _ H (fun a ob e hn=>⟨e,by rw [jT ho];exact hn⟩) (E.set ho r2)⟩
theorem ES.mut {H:Hp} {σ:L2.St} {ρ:List D} {i:Nat} {a:Addr} {o:HO} {d:D} (E:ES own H σ ρ) (ho:own i=true) (hi:σ[i]?=some (some (.ref a))) (hm:LQ o=true) (r:Rep All (upd H a o) (.ref a) d) (hin:inner d=true) :
  ES own (upd H a o) σ (ρ.set i d)/\KU own σ H σ (upd H a o):=by
 have hOa:Own own σ a:=⟨i,ho,hi⟩
 obtain ⟨a',oa,ea,_,_,hHa,hma,huq⟩:=E.own i _ ho hi;cases ea;have k:KU own σ H σ (upd H a o):=fun b ob e n=>⟨by rw [bB (fun z=>by subst z;exact n hOa)];exact e,n⟩
 have hl:i<ρ.length:=by rw [<-E.len];exact (List.getElem?_eq_some_iff.mp hi).1
 refine ⟨⟨by simp [E.len],fun j hj=>?_,fun j w hj hw=>?_⟩,k⟩
 ·rw [cY] at hj ⊢;by_cases h:i=j/\i<ρ.length
  ·obtain ⟨rfl,_⟩:=h;exact ⟨_,hi,fun z=>by rw [ho] at z;cases z⟩
  ·rw [if_neg h] at hj ⊢;obtain ⟨w,h1,h2⟩:=E.at_ j hj;exact ⟨w,h1,fun hj=>k.rep E (h2 hj)⟩
 ·by_cases hij:i=j
  ·subst hij;rw [hi] at hw;cases hw;rw [cY,if_pos ⟨rfl,hl⟩];exact ⟨a,o,rfl,r,hin,aL,hm,huq⟩
  ·rw [cY,if_neg fun z=>hij z.1];obtain ⟨b,ob,h1,h2,h3,h4,h5,h6⟩:=E.own j w hj hw;subst h1;have hba:b≠a:=fun z=>by subst z;exact hij (h6 i ho hi)
   refine ⟨b,ob,rfl,?_,h3,by rw [bB hba];exact h4,h5,h6⟩;refine (h2.oN (P':=fun c=>c=b) h3 rfl).keep (fun c oc hc hp=>?_) fun _ _=>trivial
   rw [bB]
   ·exact hc
   ·intro z;subst z;rcases hp with hp|hp
    ·exact hba hp.symm
    ·rw [hHa] at hc;cases hc;rw [hma] at hp;cases hp
theorem ES.ownAt {H:Hp} {σ:L2.St} {ρ:List D} {i:Nat} (E:ES own H σ ρ) (ho:own i=true) (hd:ρ.getD i .uD≠.uD):∃a o,σ[i]?=some (some (.ref a))/\Rep All H (.ref a) (ρ.getD i .uD)/\inner (ρ.getD i .uD)=true/\H a=some o/\LQ o=true:=by
 obtain ⟨v,h1,_⟩:=E.at_ i hd;obtain ⟨a,o,rfl,h2,h3,h4,h5,_⟩:=E.own i v ho h1;exact ⟨a,o,h1,h2,h3,h4,h5⟩
theorem yK {H:Hp} {a:Addr} {xs:List D} (r:Rep All H (.ref a) (.lst xs)):∃vs,H a=some (.lst vs)/\bR All H vs xs:=by
 cases r with
 | lst e _ r=>exact ⟨_,e,r⟩
theorem bR.upd {H:Hp} {a:Addr} {vs:List V} {xs:List D} {o:HO} {ob:HO} (r:bR All H vs xs) (hp:D.aW xs=true) (ha:H a=some ob) (hm:LQ ob=true):bR All (upd H a o) vs xs:=by
 refine (r.bL (P':=fun _=>False) hp).keep (fun c oc hc h=>?_) fun _ h=>h.elim
 rw [bB]
 ·exact hc
 ·intro z;subst z;rcases h with h|h
  ·exact h
  ·rw [ha] at hc;cases hc;rw [hm] at h;cases h
theorem sO {xs ys:List D}:D.aW (xs++ys)=(D.aW xs&&D.aW ys):=by
 induction xs with
 | nil=>simp [D.aW]
 | cons x xs ih=>rw [List.cons_append,D.aW,D.aW,ih,Bool.and_assoc]
theorem oZ {i:Nat} {x:Str} {p1 apos cpos:Pos} (ho:own i=true) (hN:X.N[i]?=some x) (hv:Vis X.env.scope x) (he:PE X e (gE fe re)) (hd:nDb x:=by decide) (hcd:nCd x:=by decide)
  (hbase:attributeBase (.Name x p1) "append" X.env (eval (.Name x p1) X.env)=eval (.Name x p1) X.env:=by rfl)
  (hs1:starEach [e] X.env=(false,eval e X.env)::starEach [] X.env:=by rfl)
  (hfew:((backTo cpos (starEach [e] X.env)).all (fun x=>!x.1)&&(backToKw cpos (keywordEach [] X.env)).all (fun x=>x.1.isSome)
   && decide (([e]:List Expr).length+([]:List Keyword).length+(if ([]:List Keyword).isEmpty then 0 else 1)<30))=true:=by rfl)
  (hline:(apos.endLine==cpos.line)=true:=by rfl)
  (hs:swapsWith (.Call (.Attribute (.Name x p1) "append" apos) [e] [] cpos) none pos.line X.env=pure false:=by rfl) :
  PS X (.Expr (.Call (.Attribute (.Name x p1) "append" apos) [e] [] cpos) pos) (tS own (uF i fe)):=
 PS.imp (pJ (W0 PySem.F.plainAttrs_list PySem.F.slot_list_append PySem.F.type_list_append xU (cU hN hv hd hcd) (bG he iQ hs1) hbase hfew hline hs1 rfl) hs) fun D' σ H ⟨ρ,fl,E,h,q⟩=>by
 obtain ⟨d,h1,h2⟩:=aY h;split at h2
 ·rename_i xs hx;split at h2
  ·rename_i hk;cases h2;rw [Bool.and_eq_true] at hk;obtain ⟨a,o,hσ,r,hin,ha,hm⟩:=E.ownAt ho (by rw [hx];intro z;cases z);rw [hx] at r hin;obtain ⟨vs,hl,rr⟩:=yK r;refine ⟨_,hσ,.inl ⟨rfl,vs,.of hl⟩,ρ,d,E.er,h1,fun v H' s rv _=>⟨a,vs,v,rfl,rfl,s _ _ hl,by rw [rr.length];exact aA9 hk.1,?_⟩⟩;have E':=E.same s;have hl':=s _ _ hl;obtain ⟨E2,k2⟩:=E'.mut (o:=.lst (vs++[v])) (d:=.lst (xs++[d])) ho hσ rfl (.lst aL trivial (((rr.same s).snoc rv).upd (by rw [sO];simp only [Bool.and_eq_true];exact ⟨hin,by simp [D.aW,hk.2]⟩) hl' rfl)) (by show D.aW (xs++[d])=true;rw [sO];simp only [Bool.and_eq_true];exact ⟨hin,by simp [D.aW,hk.2]⟩);exact q _ _ ((KU.same s).trans k2) E2
  ·cases h2
 ·cases h2
end
end Mi
end
section
namespace L2
open PySem PySem.Spec PyProof.Rows
section
variable {X:Cx} {scope:Scope} {own:List Str}
theorem X6 {y:Str} {py:Pos} {iy:Nat} (hNn:X.N.Nodup) (hiy:X.N[iy]?=some y) (hxy:Loc X.env.scope y) (hfy:X.fn y=true\/X.env.scope.names.lookup y=some .local) {pins:List (Addr×Obj)} {σ:St} {D:Ends} {p C:Addr} {H5:Hp} {s6:Shared} {m6:Str->Option Value} (f:Inv X pins σ H5 s6) (k:O5 X pins H5 C) (n:s6.heap.Ns C m6) (q:rJ iy (.ref p) σ H5 D.nx):compPost (model X.prog X.w) X.A X.xe (some (assign (.Name y py) X.env)) (fun _ s'=>SP X pins D .next s') (.ref p) C (.ok .next) s6:=by
 obtain ⟨oC,esC,epC,hoC,hdC,_⟩:=id n;have finP:=f.BK (pins':=pins++[(C,oC)]) fun p hp=>(List.mem_append.mp hp).elim (fun z=>f.pin p (List.mem_append_right _ z)) fun z=>by
  have z':p=(C,oC):=by simpa using z
  subst z';exact ⟨hoC,k.1,k.2.1,k.2.2.1,fun v z=>by rw [hdC] at z;cases z⟩
 refine thn (bK (pos:=py) hNn hiy hxy hfy _ _ σ H5 (.ref p) (.ref p) D.nx finP rfl q) fun _ s7 ⟨σ7,H7,I7,q7⟩=>?_
 obtain ⟨g7,hC7,_⟩:=I7.pin (C,oC) (List.mem_append_right _ (List.mem_append_right _ (by simp)));refine ⟨m6,n.at' fun o e=>?_,fun h' sb=>⟨σ7,H7,Inv.turned (t':=s7.toks) I7.oO (fun b o hb e=>sb.extBut b o hb e) hC7 k.2.1 k.2.2.2.1 k.2.2.2.2.1 k.2.2.2.2.2,q7⟩⟩;rw [hoC] at e;cases e;exact g7
theorem aFr {elt iter tg:Expr} {ifs:List Expr} {wi:TI} {g:TG} {tc:TT} {te:TE} {pos:Pos} (S:eE X.N X.env.scope scope own) (hcalm:X.calm=true) (hi:PI X tg iter wi)
  (hg:∀X',eN X X' scope own->PG X' tg g) (hc:(ifs=[]/\tc=fun _ H Q=>Q true H)\/∃c,ifs=[c]/\∀X',eN X X' scope own->PT X' c tc) (he:∀X',eN X X' scope own->PE X' elt te)
  (hs:∀x,foldedSetIterable iter X.env x=pure x) {y:Str} {py pos2:Pos} {iy:Nat} (hNn:X.N.Nodup) (hiy:X.N[iy]?=some y) (hxy:Loc X.env.scope y) (hfy:X.fn y=true\/X.env.scope.names.lookup y=some .local) (hsw:swapsWith (.ListComp elt [⟨tg,iter,ifs,0⟩] scope pos) (some (.Name y py)) pos2.line X.env=pure true):PS X (.Assign [.Name y py] (.ListComp elt [⟨tg,iter,ifs,0⟩] scope pos) pos2) (aBj (L_ wi g tc te own.length) (rJ iy)):=by
 intro pins s σ H D I h;rw [exec_Assign_Name_used _ _ _ _ hsw];refine wpAny_bind (wpAny_standAt (wpAny_bind ?_));show wpAny _ X.A (do let _ <- comprehension (.ListComp elt [⟨tg,iter,ifs,0⟩] scope pos) scope X.env _ (newList []) false (eval iter X.env) (some (assign (.Name y py) X.env))) _ _ s;exact wpAny_bind (wpAny_mono (QV (QQ:=fun _ s'=>SP X pins D .next s') S hcalm hi hg hc he hs I h (X6 hNn hiy hxy hfy)) (fun _ s' hq=>wpAny_pure (wpAny_pure hq)) fun _ _ e=>e)
theorem Q4 {elt iter tg c:Expr} {wi:TI} {g:TG} {tc:TT} {te:TE} {pos:Pos} (S:eE X.N X.env.scope scope own) (hcalm:X.calm=true) (hi:PI X tg iter wi)
  (hg:∀X',eN X X' scope own->PG X' tg g) (hc:∀X',eN X X' scope own->PT X' c tc) (he:∀X',eN X X' scope own->PE X' elt te)
  (hs:∀x,foldedSetIterable iter X.env x=pure x) {y:Str} {py pos2:Pos} {iy:Nat} (hNn:X.N.Nodup) (hiy:X.N[iy]?=some y) (hxy:Loc X.env.scope y) (hfy:X.fn y=true\/X.env.scope.names.lookup y=some .local) (hsw:swapsWith (.ListComp elt [⟨tg,iter,[c],0⟩] scope pos) (some (.Name y py)) pos2.line X.env=pure true):PS X (.Assign [.Name y py] (.ListComp elt [⟨tg,iter,[c],0⟩] scope pos) pos2) (aBj (L_ wi g tc te own.length) (rJ iy)):=
 aFr S hcalm hi hg (.inr ⟨c,rfl,hc⟩) he hs hNn hiy hxy hfy hsw
theorem X7 {elt iter tg:Expr} {wi:TI} {g:TG} {te:TE} {pos:Pos} (S:eE X.N X.env.scope scope own) (hcalm:X.calm=true) (hi:PI X tg iter wi)
  (hg:∀X',eN X X' scope own->PG X' tg g) (he:∀X',eN X X' scope own->PE X' elt te)
  (hs:∀x,foldedSetIterable iter X.env x=pure x) {y:Str} {py pos2:Pos} {iy:Nat} (hNn:X.N.Nodup) (hiy:X.N[iy]?=some y) (hxy:Loc X.env.scope y) (hfy:X.fn y=true\/X.env.scope.names.lookup y=some .local) (hsw:swapsWith (.ListComp elt [⟨tg,iter,[],0⟩] scope pos) (some (.Name y py)) pos2.line X.env=pure true):PS X (.Assign [.Name y py] (.ListComp elt [⟨tg,iter,[],0⟩] scope pos) pos2) (aBj (L_ wi g (fun _ H Q=>Q true H) te own.length) (rJ iy)):=
 aFr S hcalm hi hg (.inl ⟨rfl,rfl⟩) he hs hNn hiy hxy hfy hsw
end
end L2
end
section
namespace Mi
open PySem L2 PySem.SeqAt PySem.Spec PyProof.Rows
variable [KFrag]
variable {own:Nat->Bool}
section
variable {X:Cx} {a b c e:Expr} {pos pos':Pos} {fa fb fc fe:FE} {ra rb rc re:Bool} {ga gb gc:FT} {f g:FS} {st:Stmt} {rest s1 s2:List Stmt}
variable {scope:Scope} {ownN:List Str} {elt iter tg:Expr} {it:FI} {t:D->Res (List D)} {gt:TG}
theorem aCi {n m:Nat} {y:Str} {py pos2:Pos} {iy:Nat} {o:Bool} (S:eE X.N X.env.scope scope ownN) (hn:X.N.length=n) (hm:ownN.length=m) (hcalm:X.calm=true) (hi:PI X tg iter (gI X.K it)) (ht:TgC gt t n m) (hg:∀X',eN X X' scope ownN->PG X' tg gt) (he:∀X',eN X X' scope ownN->PE X' elt (gE fe re))
  (hs:∀x,foldedSetIterable iter X.env x=pure x) (ho:own iy=o) (hNn:X.N.Nodup) (hiy:X.N[iy]?=some y) (hxy:Loc X.env.scope y) (hfy:X.fn y=true\/X.env.scope.names.lookup y=some .local) (hsw:swapsWith (.ListComp elt [⟨tg,iter,[],0⟩] scope pos) (some (.Name y py)) pos2.line X.env=pure true) :
  PS X (.Assign [.Name y py] (.ListComp elt [⟨tg,iter,[],0⟩] scope pos) pos2) (tS own (bD o iy (e_ n it t h_ fe re) true)):=by
 intro pins s σ H D I h;subst hm;refine X7 S hcalm hi hg he hs hNn hiy hxy hfy hsw pins s σ H D I ?_;exact sJ ht (fun σ H Q h=>by obtain ⟨ρ,b,E,h,q⟩:=h;cases h;exact q H (cJ.refl H)) (I.len.trans hn) (vX ho h)
theorem Q5 {n m:Nat} {y:Str} {py pos2:Pos} {iy:Nat} {o:Bool} (S:eE X.N X.env.scope scope ownN) (hn:X.N.length=n) (hm:ownN.length=m) (hcalm:X.calm=true) (hi:PI X tg iter (gI X.K it)) (ht:TgC gt t n m) (hg:∀X',eN X X' scope ownN->PG X' tg gt) (hc:∀X',eN X X' scope ownN->PT X' c (gT gc)) (he:∀X',eN X X' scope ownN->PE X' elt (gE fe re))
  (hs:∀x,foldedSetIterable iter X.env x=pure x) (ho:own iy=o) (hNn:X.N.Nodup) (hiy:X.N[iy]?=some y) (hxy:Loc X.env.scope y) (hfy:X.fn y=true\/X.env.scope.names.lookup y=some .local) (hsw:swapsWith (.ListComp elt [⟨tg,iter,[c],0⟩] scope pos) (some (.Name y py)) pos2.line X.env=pure true) :
  PS X (.Assign [.Name y py] (.ListComp elt [⟨tg,iter,[c],0⟩] scope pos) pos2) (tS own (bD o iy (e_ n it t gc fe re) true)):=by
 intro pins s σ H D I h;subst hm;refine Q4 S hcalm hi hg hc he hs hNn hiy hxy hfy hsw pins s σ H D I ?_;exact sJ ht (fun σ H Q h=>h) (I.len.trans hn) (vX ho h)
noncomputable def aCj:V->List V->Hp->VK->Prop:=fun x vs H Q=>∃l xs j y,x=.ref l/\vs=[.int j,y]/\H l=some (.lst xs)/\0<=j/\j<=xs.length/\xs.length<sizeLine/\Q .non (upd H l (.lst (xs.take j.toNat++y::xs.drop j.toNat)))
theorem Q6:MtR X "list.insert" aCj:=by
 intro pins s σ H x vs v us Q I rx rv h;obtain ⟨l,xs,j,y,rfl,rfl,hH,h0,h1,hz,q⟩:=h;cases rx;cases rv with
 | cons rj rv=>
  cases rv with
  | cons ry rv=>
   cases rv;obtain ⟨tt,rfl⟩:=rj;obtain ⟨z,its,n,r,hl,e⟩:=I.aF9 hH;have hs:sizeLine=16777216:=sizeLine_eq;refine call_meets F.slot_list_insert ⟨_,e,rfl⟩ F.entry_list_insert (F.args_list_insert_3 _ _ _) (AutoSeq1.list_insert_list_int_val_1 l its.toArray n j tt _ (by
    rw [show Builtin.List.listFitsIndex j=true from by unfold Builtin.List.listFitsIndex;simp only [Bool.and_eq_true,decide_eq_true_eq];lia];decide) (by rw [List.size_toArray];lia)) ⟨e,?_⟩
   refine ⟨.non,_,I.aHy (its':=its.take j.toNat++_::its.drop j.toNat) hH e ?_ ((r.take j.toNat).append (.cons ry (r.drop j.toNat))) ?_,rfl,q⟩
   ·have hj:¬j<0:=by lia
    have hm:min j.toNat its.length=j.toNat:=by lia
    simp only [hj,if_false,List.size_toArray,hm];apply Array.toList_inj.mp;simp [List.extract_eq_drop_take]
    first|rfl|(rw [List.take_of_length_le];simp)
   ·rw [List.length_append,List.length_cons,List.length_take,List.length_drop];lia
theorem aFs {i:Nat} {x:Str} {p1 apos cpos:Pos} (ho:own i=true) (hN:X.N[i]?=some x) (hv:Vis X.env.scope x) (ha:PE X a (gE fa ra)) (he:PE X e (gE fe re)) (hd:nDb x:=by decide) (hcd:nCd x:=by decide)
  (hbase:attributeBase (.Name x p1) "insert" X.env (eval (.Name x p1) X.env)=eval (.Name x p1) X.env:=by rfl)
  (hs0:starEach [a,e] X.env=(false,eval a X.env)::starEach [e] X.env:=by rfl) (hs1:starEach [e] X.env=(false,eval e X.env)::starEach [] X.env:=by rfl)
  (hfew:((backTo cpos (starEach [a,e] X.env)).all (fun x=>!x.1)&&(backToKw cpos (keywordEach [] X.env)).all (fun x=>x.1.isSome)
   && decide (([a,e]:List Expr).length+([]:List Keyword).length+(if ([]:List Keyword).isEmpty then 0 else 1)<30))=true:=by rfl)
  (hline:(apos.endLine==cpos.line)=true:=by rfl) (hpl:(backTo cpos (starEach [e] X.env)).any (·.1)=false:=by rfl)
  (hs:swapsWith (.Call (.Attribute (.Name x p1) "insert" apos) [a,e] [] cpos) none pos.line X.env=pure false:=by rfl) :
  PS X (.Expr (.Call (.Attribute (.Name x p1) "insert" apos) [a,e] [] cpos) pos) (tS own (aFh i fa fe)):=
 PS.imp (pJ (W0 PySem.F.plainAttrs_list PySem.F.slot_list_insert PySem.F.type_list_insert Q6 (cU hN hv hd hcd) (bG ha (bG he iQ hs1) hs0) hbase hfew hline hs0 hpl) hs) fun D' σ H ⟨ρ,fl,E,h,q⟩=>by
 obtain ⟨j,h0,h⟩:=aY h;obtain ⟨d,h1,h2⟩:=aY h;split at h2
 ·rename_i xs jj hx;split at h2
  ·rename_i hk;cases h2;simp only [Bool.and_eq_true,decide_eq_true_eq] at hk;obtain ⟨⟨⟨hk1,hk2⟩,hk3⟩,hk4⟩:=hk;obtain ⟨a,o,hσ,r,hin,ha,hm⟩:=E.ownAt ho (by rw [hx];intro z;cases z);rw [hx] at r hin;obtain ⟨vs,hl,rr⟩:=yK r;refine ⟨_,hσ,.inl ⟨rfl,vs,.of hl⟩,ρ,_,E.er,h0,fun v0 H0 s0 rv0 _=>⟨ρ,d,E.er.same s0,h1,fun v H' s rv _=>?_⟩⟩;cases rv0;have s':=s0.trans s;refine ⟨a,vs,jj,v,rfl,rfl,s' _ _ hl,hk3,by rw [rr.length];exact hk4,by rw [rr.length];exact Nat.lt_of_lt_of_le hk1 (by rw [sizeLine_eq];decide),?_⟩;have E':=E.same s';have hl':=s' _ _ hl;have hin':D.aW xs=true:=hin;have hp:D.aW (xs.take jj.toNat++d::xs.drop jj.toNat)=true:=dZ.mpr fun y hy=>by
    rcases List.mem_append.mp hy with hy|hy
    ·exact dZ.mp hin' y (List.mem_of_mem_take hy)
    ·rcases List.mem_cons.mp hy with rfl|hy
     ·exact hk2
     ·exact dZ.mp hin' y (List.mem_of_mem_drop hy)
   have rr':=rr.same s';obtain ⟨E2,k2⟩:=E'.mut (o:=.lst (vs.take jj.toNat++v::vs.drop jj.toNat)) (d:=.lst (xs.take jj.toNat++d::xs.drop jj.toNat)) ho hσ rfl (.lst aL trivial (((rr'.take jj.toNat).append (.cons rv (rr'.drop jj.toNat))).upd hp hl' rfl)) hp;exact q _ _ ((KU.same s').trans k2) E2
  ·cases h2
 ·cases h2
theorem HY {κ:Type} [DecidableEq κ] {p:κ×V} {r:List (κ×V)} {k:κ} {v:V} (e:p.1=k) (h:k∉r.map (·.1)):putK (p::r) k v=(k,v)::r:=by
 unfold putK;rw [if_pos (by simp [e]),List.map_cons,if_pos e,e]
 congr 1
 have:∀q∈r,(fun kv:κ×V=>if kv.1=k then (kv.1,v) else kv) q=id q:=fun q hq=>by
  have:q.1≠k:=fun z=>h (List.mem_map.mpr ⟨q,hq,z⟩)
  simp [this]
 rw [List.map_congr_left this,List.map_id]
theorem H_ {κ:Type} [DecidableEq κ] {p:κ×V} {r:List (κ×V)} {k:κ} {v:V} (e:¬p.1=k):putK (p::r) k v=p::putK r k v:=by
 unfold putK;rw [List.any_cons,decide_eq_false e,Bool.false_or];split
 ·rw [List.map_cons,if_neg e]
 ·rfl
theorem o5 {κ:Type} [DecidableEq κ] {k:κ} {v:V}:∀{kvs:List (κ×V)},(kvs.map (·.1)).Nodup->((putK kvs k v).map (·.1)).Nodup:=fun {kvs} h=>by
 by_cases hk:uV kvs k=none
 ·exact aC0 v h hk
 ·unfold putK;rw [if_pos (by rw [oW];exact Option.isSome_iff_ne_none.mpr hk),List.map_map];have:(fun x:κ×V=>x.1) ∘ (fun kv:κ×V=>if kv.1=k then (kv.1,v) else kv)=fun x=>x.1:=by
   funext q
   simp only [Function.comp];split <;> rfl
  rw [this];exact h
theorem vY {P:Addr->Prop} {H:Hp} {k:Key} {v:V} {d:D} (rv:Rep P H v d):∀{kvs:List (Key×V)} {ds:List (D×D)},oY P H kvs ds->(kvs.map (·.1)).Nodup->oY P H (putK kvs k v) (putD ds (kD k) d)
 | _,_,.nil,_=>.cons rv .nil
 | _,_,.cons (k:=k') (v:=v') (r:=rs) r t,hn=>by
  rw [List.map_cons] at hn;obtain ⟨h1,h2⟩:=List.nodup_cons.mp hn;rw [putD,XQ];by_cases h:k'=k
  ·subst h;rw [if_pos (by simp),HY rfl h1];exact .cons rv t
  ·rw [if_neg (by simpa using h),H_ (p:=(k',v')) h];exact .cons r (vY rv t h2)
theorem vZ {P:Addr->Prop} {H:Hp} {k:List Key} {v:V} {d:D} (rv:Rep P H v d):∀{kvs:List (List Key×V)} {ds:List (D×D)},pO P H kvs ds->(kvs.map (·.1)).Nodup->pO P H (putK kvs k v) (putD ds (.tup (k.map kD)) d)
 | _,_,.nil,_=>.cons rv .nil
 | _,_,.cons (k:=k') (v:=v') (r:=rs) r t,hn=>by
  rw [List.map_cons] at hn;obtain ⟨h1,h2⟩:=List.nodup_cons.mp hn;rw [putD,aC8];by_cases h:k'=k
  ·subst h;rw [if_pos (by simp),HY rfl h1];exact .cons rv t
  ·rw [if_neg (by simpa using h),H_ (p:=(k',v')) h];exact .cons r (vZ rv t h2)
theorem oY.length {P:Addr->Prop} {H:Hp}:∀{kvs:List (Key×V)} {ds:List (D×D)},oY P H kvs ds->kvs.length=ds.length
 | _,_,.nil=>rfl
 | _,_,.cons _ t=>by rw [List.length_cons,List.length_cons,oY.length t]
theorem pO.length {P:Addr->Prop} {H:Hp}:∀{kvs:List (List Key×V)} {ds:List (D×D)},pO P H kvs ds->kvs.length=ds.length
 | _,_,.nil=>rfl
 | _,_,.cons _ t=>by rw [List.length_cons,List.length_cons,pO.length t]
theorem v5 {H:Hp} {a:Addr} {o ob:HO} (ha:H a=some ob) (hm:LQ ob=true):WK (fun _=>False) H (L2.upd H a o):=fun c oc hc h=>by
 rw [bB]
 ·exact hc
 ·intro z;subst z;rcases h with h|h
  ·exact h.elim
  ·rw [ha] at hc;cases hc;rw [hm] at h;cases h
theorem u5 {d:D} {k:D} (hd:d.pure=true):∀{ds:List (D×D)},D.aW (ds.map (·.2))=true->D.aW ((putD ds k d).map (·.2))=true
 | [],_=>by simp [putD,D.aW,hd]
 | (q,w)::r,h=>by
  rw [List.map_cons,D.aW,Bool.and_eq_true] at h;rw [putD];split
  ·rw [List.map_cons,D.aW,Bool.and_eq_true];exact ⟨hd,h.2⟩
  ·rw [List.map_cons,D.aW,Bool.and_eq_true];exact ⟨h.1,u5 hd h.2⟩
theorem aJ6 {pins:List (Addr×Obj)} {s:Shared} {σ:L2.St} {H:Hp} {ad:Addr} {y v:V} {ds:List (D×D)} {k d:D} (I:Inv X pins σ H s) (rd:Rep All H (.ref ad) (.dct ds)) (hin:D.aW (ds.map (·.2))=true) (rk:Rep All H y k) (hk:LC ds k=true) (hl:ds.length<sizeLine) (rv:Rep All H v d) (hd:d.pure=true) :
  ∃H1 o,Inv X pins σ H1 s/\aA7 H1 ad y v (L2.upd H ad o)/\LQ o=true/\Rep All (L2.upd H ad o) (.ref ad) (.dct (putD ds k d)):=by
 unfold LC at hk;rw [Bool.and_eq_true] at hk;obtain ⟨h1,h2⟩:=hk;have rv':Rep (fun _=>False) H v d:=rv.bL hd;cases rd with
 | @dK _ kvs ds e _ r n=>
  have hlen:=r.length;rcases kE h1 rk with ⟨q,rfl,rfl⟩|⟨b,ks,rfl,eb,rfl⟩
  ·refine ⟨H,.dK (putK kvs q v),I,.k e (by lia),rfl,.dK aL trivial ?_ (o5 n)⟩;exact (vY rv' (r.bL hin) n).keep (v5 e rfl) fun _ z=>z.elim
  ·cases r with
   | nil=>
    refine ⟨L2.upd H ad (.dT []),.dT (putK [] ks v),mY I e,?_,rfl,.dT aL trivial ?_ (o5 List.nodup_nil)⟩
    ·have:=aA7.t (H:=L2.upd H ad (.dT [])) (a:=ad) (b:=b) (kvs:=[]) (k:=ks) (v:=v) aL (by rw [bB (aBe eb e (by intro z;cases z))];exact eb) hl;rwa [BJ] at this
    ·exact (vZ (k:=ks) rv' .nil List.nodup_nil).keep (v5 e rfl) fun _ z=>z.elim
   | cons r t=>
    rw [List.all_cons,mX] at h2;simp [isTup] at h2
 | @dT _ kvs ds e _ r n=>
  have hlen:=r.length;rcases kE h1 rk with ⟨q,rfl,rfl⟩|⟨b,ks,rfl,eb,rfl⟩
  ·cases r with
   | nil=>
    refine ⟨L2.upd H ad (.dK []),.dK (putK [] q v),mZ I e,?_,rfl,.dK aL trivial ?_ (o5 List.nodup_nil)⟩
    ·have:=aA7.k (H:=L2.upd H ad (.dK [])) (a:=ad) (kvs:=[]) (k:=q) (v:=v) aL hl;rwa [BJ] at this
    ·exact (vY (k:=q) rv' .nil List.nodup_nil).keep (v5 e rfl) fun _ z=>z.elim
   | cons r t=>
    rw [List.all_cons,mX] at h2;simp [isTup] at h2
  ·refine ⟨H,.dT (putK kvs ks v),I,.t e eb (by lia),rfl,.dT aL trivial ?_ (o5 n)⟩;exact (vZ rv' (r.bL hin) n).keep (v5 e rfl) fun _ z=>z.elim
theorem aAe {i:Nat} {x:Str} {p1:Pos} {value k:Expr} {fv fk:FE} {rv rk:Bool} (hu:X.A.units+20<cLine) (ho:own i=true) (hN:X.N[i]?=some x) (hvi:Vis X.env.scope x) (hk:PE X k (gE fk rk)) (hv:PE X value (gE fv rv))
  (hs:swapsWith value (some (.Subscript (.Name x p1) k pos')) pos.line X.env=pure false:=by rfl) (hd:nDb x:=by decide) (hcd:nCd x:=by decide) :
  PS X (.Assign [.Subscript (.Name x p1) k pos'] value pos) (tS own (aC6 i fk fv)):=by
 intro pins s σ H D' I ⟨ρ,fl,E,h,q⟩;obtain ⟨d,h0,h⟩:=aY h;obtain ⟨kd,h1,h2⟩:=aY h;split at h2
 ·rename_i kvs hx;split at h2
  ·rename_i hg;cases h2;simp only [Bool.and_eq_true] at hg;obtain ⟨⟨hg1,hg2⟩,hg3⟩:=hg;obtain ⟨a,o,hσ,r,hin,ha,hm⟩:=E.ownAt ho (by rw [hx];intro z;cases z);rw [hx] at r hin;refine wpAny_Assign_Subscript (thn (hv pins s σ H (fun v H1=>cJ H H1/\Rep All H1 v d) I ⟨ρ,d,E.er,h0,fun v H1 s1 r1 _=>⟨s1,r1⟩⟩) fun rr s1 ⟨v,H1,I1,rv1,sm1,rp1⟩=>
    thn (cU hN hvi hd hcd pins s1 σ H1 (fun w H2=>w=.ref a/\H2=H1) I1 ⟨_,hσ,rfl,rfl⟩) fun u s2 ⟨xx,H2,I2,rx,ex,eH⟩=>
    thn (hk pins s2 σ H2 (fun w H3=>cJ H2 H3/\Rep All H3 w kd) I2 ⟨ρ,kd,by rw [eH];exact E.er.same sm1,h1,fun v H1 s1 r1 _=>⟨s1,r1⟩⟩) fun iv s3 ⟨y,H3,I3,ry,sm3,rp3⟩=>?_) hs
   subst ex eH;obtain rfl:u=Value.ref a:=rx;have sm:=sm1.trans sm3;obtain ⟨H4,o4,I4,g,hmo,rp⟩:=aJ6 I3 (r.same sm) hin rp3 hg2 (aA9 hg1) (rp1.same sm3) hg3;obtain ⟨E2,k2⟩:=(E.same sm).mut ho hσ hmo rp (u5 hg3 hin);exact QG (by lia) I4 g ry rv1 fun s4 I5=>⟨σ,_,I5,q _ _ ((KU.same sm).trans k2) E2⟩
  ·cases h2
 ·cases h2
noncomputable def TgS (own:Nat->Bool) (g:TG) (t:D->List D->Res (List D)):Prop:=∀(v:V) (d:D) (ρ ρ':List D) (σ:L2.St) (H:Hp) (Q:L2.St->Hp->Prop),ES own H σ ρ->Rep (fun a=>¬Own own σ a) H v d->t d ρ=.ok ρ'->
 (∀σ',ES own H σ' ρ'->(∀a,Own own σ' a↔Own own σ a)->Q σ' H)->g v σ H Q
theorem nY {i:Nat} (ho:own i=false):TgS own (rJ i) (tg1 i):=fun v d ρ ρ' σ H Q E r h q=>by
 cases h;exact q _ (E.set ho r) fun a=>jT ho a
theorem ES.sets {H:Hp}:∀{is:List Nat} {vs:List V} {ds:List D} {σ:L2.St} {ρ:List D},(∀i∈is,own i=false)->ES own H σ ρ->bR (fun a=>¬Own own σ a) H vs ds->ES own H (MJ is vs σ) (vN is ds ρ)/\∀a,Own own (MJ is vs σ) a↔Own own σ a
 | [],_,_,_,_,_,E,_=>by simp only [MJ,vN];exact ⟨E,fun _=>trivial⟩
 | i::is,_,_,σ,ρ,h,E,.nil=>by simp only [MJ,vN];exact ⟨E,fun _=>trivial⟩
 | i::is,_,_,σ,ρ,h,E,.cons (v:=v) r t=>by
  have ho:=h i (List.mem_cons_self ..);have hO:(fun a=>¬Own own (σ.set i (some v)) a)=fun a=>¬Own own σ a:=funext fun a=>by rw [jT ho]
  obtain ⟨h1,h2⟩:=ES.sets (is:=is) (fun j hj=>h j (List.mem_cons_of_mem _ hj)) (E.set ho r) (by rw [hO];exact t);exact ⟨h1,fun a=>(h2 a).trans (jT ho a)⟩
theorem Q7 (K:PySem.W.Frag) {is:List Nat} (ho:∀i∈is,own i=false):TgS own (aK0 K is.length (gIx is)) (tgN is):=fun v d ρ ρ' σ H Q E r h q=>by
 cases d <;> simp only [tgN] at h <;> (try (cases h;done))
 split at h
 ·rename_i hl;cases h;have hl':=of_decide_eq_true hl;obtain ⟨a,xs,rfl,e,rr⟩:=r.iV;obtain ⟨h1,h2⟩:=E.sets ho rr;exact ⟨a,xs,rfl,.of e,by rw [rr.length];exact hl',vW _ _ _ (by rw [rr.length];exact hl') (q _ h1 h2)⟩
 ·cases h
theorem ItQ.ku {K:PySem.W.Frag} {J:It} {items:List D} {σ σ':L2.St} {H H':Hp} {ρ:List D} (h:ItQ K (fun a=>¬Own own σ a) J H items) (k:KU own σ H σ' H') (E:ES own H σ ρ):ItQ K (fun a=>¬Own own σ' a) J H' items:=by
 cases h with
 | lst a e r=>exact .lst a e (k.rep E r)
 | tup a e r=>exact .tup a e (k.rep E r)
 | rng lo n e r=>exact .rng lo n e r
 | chs x e r=>exact .chs x e r
 | enm a ds e r h=>exact .enm a ds e (k.rep E r) h
 | enf m a ds e r h=>exact .enf m a ds e (k.rep E r) h
 | zip a b ds es e r q n h=>exact .zip a b ds es e (k.rep E r) (k.rep E q) n h
 | scr a hK e r=>exact .scr a hK e (k.rep E r)
theorem v6 {K:PySem.W.Frag} {g:TG} {t:D->List D->Res (List D)} {body:FS} {D':Ends} {J:It} {items:List D} {σ:L2.St} {H1:Hp} {ρ:List D} {fl:Fl} (tg:TgS own g t) (E:ES own H1 σ ρ) (hJ:ItQ K (fun a=>¬Own own σ a) J H1 items) (hf:nC t body items ρ=.ok fl) (q:kS own D' σ H1 fl) :
  ∃W:Nat->Nat->L2.St->Hp->Prop,(∃m,W 0 m σ H1)/\∀i m σ H,W i m σ H->
   (J.stop i H/\D'.nx σ H)\/(J.go i H/\∃N:L2.St->Hp->Prop,(∀σ' H',N σ' H'->∃m',m'<m/\W (i+1) m' σ' H')/\∀x H',J.yld i H x H'->g x σ H' fun σ2 H2=>tS own body {D' with nx:=N,ct:=N,bk:=D'.nx} σ2 H2):=by
 refine ⟨fun i m σ' H'=>m=items.length-i/\i<=items.length/\ItQ K (fun a=>¬Own own σ' a) J H' items/\∃ρ',ES own H' σ' ρ'/\nC t body (items.drop i) ρ'=.ok fl/\kS own D' σ' H' fl,⟨items.length,rfl,Nat.zero_le _,hJ,ρ,E,hf,q⟩,?_⟩;rintro i m σ' H' ⟨rfl,hi,hJ',ρ',E',hf',q'⟩;rcases Nat.lt_or_ge i items.length with hlt|hge
 ·refine .inr ?_;have e:items[i]?=some items[i]:=List.getElem?_eq_getElem hlt;obtain ⟨g1,g2⟩:=hJ'.go e;rw [List.drop_eq_getElem_cons hlt] at hf';obtain ⟨ρ1,h1,hf2⟩:=aY hf';obtain ⟨r,h2,hf3⟩:=aY hf2;refine ⟨g1,fun σ2 H2=>ItQ K (fun a=>¬Own own σ2 a) J H2 items/\∃ρ',ES own H2 σ2 ρ'/\nC t body (items.drop (i+1)) ρ'=.ok fl/\kS own D' σ2 H2 fl,fun σ2 H2 ⟨n1,n2⟩=>⟨items.length-(i+1),by lia,rfl,hlt,n1,n2⟩,fun x H2 hy=>?_⟩;obtain ⟨sH,rx⟩:=g2 x H2 hy;have ks:KU own σ' H' σ' H2:=fun a o e n=>⟨sH a o e,n⟩
  have hJ':=hJ'.ku ks E';have q':=q'.step ks;have E':=E'.same sH;refine tg x items[i] ρ' ρ1 σ' H2 _ E' rx h1 fun σ2 E2 hO=>?_
  have k0:KU own σ' H2 σ2 H2:=fun a o e n=>⟨e,by rw [hO];exact n⟩
  have hJ2:=hJ'.ku k0 E';have q2:=q'.step k0;refine ⟨ρ1,r,E2,h2,?_⟩;cases r with
  | nx ρ2=>exact fun σ3 H3 k3 E3=>⟨hJ2.ku k3 E2,ρ2,E3,hf3,q2.step k3⟩
  | ct ρ2=>exact fun σ3 H3 k3 E3=>⟨hJ2.ku k3 E2,ρ2,E3,hf3,q2.step k3⟩
  | bk ρ2=>cases hf3;exact fun σ3 H3 k3 E3=>q2 σ3 H3 k3 E3
  | rt d=>cases hf3;exact q2
 ·refine .inl ⟨hJ'.stop hge,?_⟩;rw [List.drop_eq_nil_of_le hge] at hf';cases hf';exact q' σ' H' (fun a o e n=>⟨e,n⟩) E'
theorem yL {tg iter:Expr} {body:List Stmt} {g:TG} {t:D->List D->Res (List D)} {it:FI} {fb:FS} (hp:PassesOwn (model X.prog X.w) X.A X.env X.xe) (hc:X.calm=true) (hi:PI X tg iter (gI X.K it)) (ht:TgS own g t) (hg:PG X tg g) (hb:PSs X body (tS own fb))
  (hs:∀x,foldedSetIterable iter X.env x=pure x:=by intro _;rfl):PS X (.For tg iter body [] pos) (tS own (QR it t fb)):=PS.imp (G3 hp hc hi hg hb hs) fun D' σ H ⟨ρ,fl,E,h,q⟩=>by
 obtain ⟨⟨items,k⟩,h1,h2⟩:=aY h;split at h2
 ·rename_i hk;exact ⟨ρ,items,k,E.er,h1,fun J H1 s1 _ hJ=>v6 ht (E.same s1) ((hJ hk).keep (fun _ _ e _=>e) fun a ha ho=>by
   obtain ⟨o,e1,_⟩:=E.live ho;rw [show H a=none from ha] at e1;cases e1) h2 (q.step (.same s1))⟩
 ·cases h2
theorem Q8 {tg:Expr} {body:List Stmt} {g:TG} {t:D->List D->Res (List D)} {i:Nat} {x:Str} {px:Pos} {fb:FS} (ho:own i=false) (hp:PassesOwn (model X.prog X.w) X.A X.env X.xe) (hc:X.calm=true) (hN:X.N[i]?=some x) (hv:Vis X.env.scope x) (ht:TgS own g t) (hg:PG X tg g) (hb:PSs X body (tS own fb))
  (hs:∀z,foldedSetIterable (.Name x px) X.env z=pure z:=by intro _;rfl) (hd:nDb x:=by decide) (hcd:nCd x:=by decide):PS X (.For tg (.Name x px) body [] pos) (tS own (mD i t fb)):=PS.imp (G3 hp hc (aAc hN hv hd hcd) hg hb hs) fun D' σ H ⟨ρ,fl,E,h,q⟩=>by
 obtain ⟨d,h1,h⟩:=aY h;obtain ⟨items,h2,h3⟩:=aY h;obtain ⟨v,hv,r,e⟩:=E.er.var h1;have hne:ρ.getD i .uD≠.uD:=fun z=>by
  rw [z] at e;subst e;exact Rep.uD r
 obtain ⟨w,hw,hr⟩:=E.at_ i hne;rw [hv] at hw;cases hw;have r2:=hr ho;rw [e] at r2;exact ⟨v,d,items,hv,r,h2,fun J hJ=>v6 ht E (hJ _ r2) h3 q⟩
theorem v7 {own:Nat->Bool} {N ps:List Str} {vs:List V} {ds:List D} {H:Hp} (hst:start N vs=vs.map some++List.replicate (N.length-ps.length) none) (hl:ds.length=ps.length) (r:bR All H vs ds) (hown:∀i,i<ps.length->own i=false) (noown:∀a,¬Own own (start N vs) a):ES own H (start N vs) (ds++List.replicate (N.length-ps.length) .uD):=by
 refine ⟨by rw [hst];simp [r.length],fun i hi=>?_,fun i v hi hv=>?_⟩
 ·have hlt:i<ds.length:=Nat.lt_of_not_le fun hge=>hi (by
   rw [List.getD_eq_getElem?_getD,List.getElem?_append_right hge,List.getElem?_replicate];split <;> rfl)
  have e:(ds++List.replicate (N.length-ps.length) D.uD).getD i .uD=ds[i]:=by
   rw [List.getD_eq_getElem?_getD,List.getElem?_append_left hlt,List.getElem?_eq_getElem hlt];rfl
  obtain ⟨v,g1,g2⟩:=r.get (i:=i) (d:=ds[i]) (by simp [hlt]);refine ⟨v,by rw [hst,List.getElem?_append_left (by simp [r.length,hlt])];simp [g1],fun _=>?_⟩;rw [e];exact g2.mono fun a _=>noown a
 ·exfalso;rw [hst] at hv;by_cases h:i<ps.length
  ·rw [hown i h] at hi;cases hi
  ·rw [List.getElem?_append_right (by simp [r.length,hl];lia)] at hv;rw [List.getElem?_replicate] at hv;split at hv <;> cases hv
theorem Q9 {own:Nat->Bool} {N ps:List Str} {f:FS} {vs:List V} {H:Hp} {Q:VK} {E:XK} (hx:own rtX=false) (hown:∀i,i<ps.length->own i=false) (h0:spD (fnS ps.length N.length f) ps.length vs H Q E):tS own f {nx:=fun _ H'=>Q .non H',rt:=Q} (start N vs) H:=by
 obtain ⟨ds,d,hl,r,h,q⟩:=h0
 ·obtain ⟨fl,h1,h2⟩:=aY h;have hst:start N vs=vs.map some++List.replicate (N.length-ps.length) none:=by
   show vs.map some++List.replicate (N.length-vs.length) none=_;rw [r.length,hl]
  have noown:∀a,¬Own own (start N vs) a:=fun a ⟨i,hi,e⟩=>by
   rw [hst] at e;by_cases h:i<ps.length
   ·rw [hown i h] at hi;cases hi
   ·rw [List.getElem?_append_right (by simp [r.length,hl];lia)] at e;rw [List.getElem?_replicate] at e;split at e <;> cases e
  have E0:ES own H (start N vs) (ds++List.replicate (N.length-ps.length) .uD):=v7 hst hl r hown noown;refine ⟨_,fl,E0,h1,?_⟩;have sm:∀{σ':L2.St} {H':Hp},KU own (start N vs) H σ' H'->cJ H H':=fun k a o e=>(k a o e (noown a)).1
  cases fl with
  | nx ρ'=>cases h2;exact fun σ' H' k E'=>q .non H' (sm k) .non fun _=>.non
  | rt d'=>
   cases h2;refine kRt.mk hx fun v H' hk rp=>q v H' (fun a o e=>hk a o e (noown a)) rp.all fun _=>rp.mono fun a ha=>?_
   rcases ha with ha|ha
   ·exact absurd ha (noown a)
   ·exact ha
  | bk ρ'=>cases h2
  | ct ρ'=>cases h2
theorem aFt {P:Program} {w:World} {K:PySem.W.Frag} {mg:Str->Option Value} {base:Heap} {x qual:Str} {st:Stmt} {fad:Addr} {fd:FuncData} {N ps:List Str} {k:Nat} {f:FS} (F:Fun K x qual st fad fd) (S:bT N ps (aM st)) (own:Nat->Bool) (hown:∀i,i<ps.length->own i=false) (hNl:ps.length<=N.length)
  (hbody:∀(cdv:Value) (A:Around) (outer:List Env) (s:Shared) (H:Hp) (E:XK),j5 k (A.deeper (envOfC qual (aM st) s.heap.objs.size fad cdv))->PSs (k_ CX0 P w K mg base N qual (aM st) fad cdv A outer s H E).nox (d9 st) (tS own f)) (hx:own rtX=false:=by rfl):qW P w K mg base CX0 (k+1) fad fd ps (spD (fnS ps.length N.length f) ps.length):=
 F.ok S (fun vs H Q E h=>aCe h) fun cdv A outer s H vs Q E hr h=>⟨_,hbody cdv A outer s H E hr,Q9 hx hown h⟩
end
structure aJ7 where
 s₀:Shared
 H₀:Hp
 env:Env
 outer:List Env
 stack:List Env
 ex:List Addr
 fn:Str->Bool
 pn:List (Addr×Obj)
noncomputable abbrev mkC (X:Cx) (scope:Scope) (ownN:List Str) (y:aJ7):Cx:=
 {X with N:=X.N.map (j9 ownN)++ownN,s₀:=y.s₀,H₀:=y.H₀,env:={y.env with scope:=relabel scope X.env},outer:=y.outer,stack:=y.stack,ex:=y.ex,fn:=y.fn,pn:=y.pn,xe:=fun _ _=>False}
theorem sS {X X':Cx} {scope:Scope} {ownN:List Str} (cc:eN X X' scope ownN):∃y,X'=mkC X scope ownN y:=by
 refine ⟨⟨X'.s₀,X'.H₀,X'.env,X'.outer,X'.stack,X'.ex,X'.fn,X'.pn⟩,?_⟩;obtain ⟨h1,h2,h3,h4,h5,h6,h7,h8,h9,h10⟩:=cc;cases X' with
 | mk a b c d e f g h i j k l m n o p q=>
  cases j;dsimp only at *;subst h1 h2 h3 h4 h5 h6 h7 h8 h9 h10;rfl
section
variable {own:Nat->Bool} {X:Cx} {scope:Scope} {ownN:List Str} {elt iter tg c:Expr} {it:FI} {t:D->Res (List D)} {g:TG} {gc:FT} {fe:FE} {re:Bool} {pos:Pos} {n m:Nat}
theorem o6 (S:eE X.N X.env.scope scope ownN) (hn:X.N.length=n) (hm:ownN.length=m) (hcalm:X.calm=true) (hi:PI X tg iter (gI X.K it)) (ht:TgC g t n m) (hg:∀y,PG (mkC X scope ownN y) tg g) (he:∀y,PE (mkC X scope ownN y) elt (gE fe re))
  (hs:∀x,foldedSetIterable iter X.env x=pure x):PE X (.ListComp elt [⟨tg,iter,[],0⟩] scope pos) (gE (e_ n it t h_ fe re) true):=
 aCg S hn hm hcalm hi ht (fun X' cc=>by obtain ⟨y,rfl⟩:=sS cc;exact hg y) (fun X' cc=>by obtain ⟨y,rfl⟩:=sS cc;exact he y) hs
theorem rD {y:Str} {py pos2:Pos} {iy:Nat} {o:Bool} (S:eE X.N X.env.scope scope ownN) (hn:X.N.length=n) (hm:ownN.length=m) (hcalm:X.calm=true) (hi:PI X tg iter (gI X.K it)) (ht:TgC g t n m) (hg:∀y,PG (mkC X scope ownN y) tg g) (he:∀y,PE (mkC X scope ownN y) elt (gE fe re))
  (hs:∀x,foldedSetIterable iter X.env x=pure x) (ho:own iy=o) (hNn:X.N.Nodup) (hiy:X.N[iy]?=some y) (hxy:Loc X.env.scope y) (hfy:X.fn y=true\/X.env.scope.names.lookup y=some .local) (hsw:swapsWith (.ListComp elt [⟨tg,iter,[],0⟩] scope pos) (some (.Name y py)) pos2.line X.env=pure true) :
  PS X (.Assign [.Name y py] (.ListComp elt [⟨tg,iter,[],0⟩] scope pos) pos2) (tS own (bD o iy (e_ n it t h_ fe re) true)):=
 aCi S hn hm hcalm hi ht (fun X' cc=>by obtain ⟨y,rfl⟩:=sS cc;exact hg y) (fun X' cc=>by obtain ⟨y,rfl⟩:=sS cc;exact he y) hs ho hNn hiy hxy hfy hsw
theorem pR {y:Str} {py pos2:Pos} {iy:Nat} {o:Bool} (S:eE X.N X.env.scope scope ownN) (hn:X.N.length=n) (hm:ownN.length=m) (hcalm:X.calm=true) (hi:PI X tg iter (gI X.K it)) (ht:TgC g t n m) (hg:∀y,PG (mkC X scope ownN y) tg g) (hc:∀y,PT (mkC X scope ownN y) c (gT gc)) (he:∀y,PE (mkC X scope ownN y) elt (gE fe re))
  (hs:∀x,foldedSetIterable iter X.env x=pure x) (ho:own iy=o) (hNn:X.N.Nodup) (hiy:X.N[iy]?=some y) (hxy:Loc X.env.scope y) (hfy:X.fn y=true\/X.env.scope.names.lookup y=some .local) (hsw:swapsWith (.ListComp elt [⟨tg,iter,[c],0⟩] scope pos) (some (.Name y py)) pos2.line X.env=pure true) :
  PS X (.Assign [.Name y py] (.ListComp elt [⟨tg,iter,[c],0⟩] scope pos) pos2) (tS own (bD o iy (e_ n it t gc fe re) true)):=
 Q5 S hn hm hcalm hi ht (fun X' cc=>by obtain ⟨y,rfl⟩:=sS cc;exact hg y) (fun X' cc=>by obtain ⟨y,rfl⟩:=sS cc;exact hc y) (fun X' cc=>by obtain ⟨y,rfl⟩:=sS cc;exact he y) hs ho hNn hiy hxy hfy hsw
end
noncomputable def jU (P:Program) (w:World) (K:PySem.W.Frag) (mg:Str->Option Value) (base:Heap) (k:Nat) (x:Str) (n:Nat) (f:List D->Res D):Prop:=
 ∃(fad:Addr) (fd:FuncData) (ps:List Str),qW P w K mg base CX0 k fad fd ps (spD f n)/\mg x=some (.ref fad)/\PySem.W.keepIn K (.ref fad)=true/\Binds K fd ps []
section
variable {X:Cx} {e:Expr} {es:List Expr} {pos p:Pos} {fs:FA} {rr:Bool} {x:Str} {k n:Nat} {f:List D->Res D}
theorem gW {k':Nat} (C:jU X.prog X.w X.K X.mg X.base k x n f) (hr:j5 k' X.A) (hkk:k<=k') (hg:Gl X x) (ha:PA X (e::es) (gA fs rr)) (hdb:nDb x:=by decide) (he:starEach (e::es) X.env=(false,eval e X.env)::starEach es X.env:=by rfl) (hpl:(backTo pos (starEach es X.env)).any (·.1)=false:=by rfl) :
  PE X (.Call (.Name x p) (e::es) [] pos) (gE (aU (iH n f) fs) true):=by
 obtain ⟨fad,fd,ps,F,hm,hk,hb⟩:=C;exact aCf F (hr.mono hkk) hg hm hk hb ha hdb he hpl
theorem qK {P:Program} {w:World} {K:PySem.W.Frag} {mg:Str->Option Value} {base:Heap} {st:Stmt} {fad:Addr} {fd:FuncData} {N ps:List Str} {fs:FS} (F:Fun K x x st fad fd) (hm:mg x=some (.ref fad)) (hb:Binds K fd ps []) (S:bT N ps (aM st)) (own:Nat->Bool) (hown:∀i,i<ps.length->own i=false) (hNl:ps.length<=N.length)
  (hbody:∀(cdv:Value) (A:Around) (outer:List Env) (s:Shared) (H:Hp) (E:XK),j5 k (A.deeper (envOfC x (aM st) s.heap.objs.size fad cdv))->PSs (k_ CX0 P w K mg base N x (aM st) fad cdv A outer s H E).nox (d9 st) (tS own fs)) (hx:own rtX=false:=by rfl):jU P w K mg base (k+1) x ps.length (fnS ps.length N.length fs):=
 ⟨fad,fd,ps,aFt F S own hown hNl hbody hx,hm,F.kp,hb⟩
end
theorem v8 {A:Around} {k:Nat} (hr:j5 k A):A.units+20<cLine:=Nat.lt_of_le_of_lt (Nat.add_le_add_left (by decide:20<=64) _) hr.units
structure Bt (mg:Str->Option Value):Prop where
 len:mg "len" = none
 min:mg "min" = none
 max:mg "max" = none
 list:mg "list" = none
 tuple:mg "tuple" = none
 sorted:mg "sorted" = none
 range:mg "range" = none
 isi:mg "isinstance" = none
 int:mg "int" = none
 bool:mg "bool" = none
 str:mg "str" = none
 dict:mg "dict" = none
 all:mg "all" = none
 enum:mg "enumerate" = none
 sum:mg "sum" = none
 zip:mg "zip" = none
 abs:mg "abs" = none
 reversed:mg "reversed" = none
theorem dF:bootBuiltins "len" = some (.builtin "len"):=by decide +kernel
theorem iW:bootBuiltins "isinstance" = some (.builtin "isinstance"):=by decide +kernel
theorem Q_:bootBuiltins "list" = some (.type "list"):=by decide +kernel
theorem iY:bootBuiltins "tuple" = some (.type "tuple"):=by decide +kernel
theorem RB:bootBuiltins "str" = some (.type "str"):=by decide +kernel
theorem ints_rep {P:Addr->Prop} {H:Hp}:∀ns:List Int,bR P H (ns.map V.int) (ns.map D.int)
 | []=>.nil
 | n::ns=>.cons (.int n) (ints_rep ns)
end Mi
namespace Mi
open PySem L2
theorem RC {K:PySem.W.Frag} {f:List D->Res D} {H:Hp} {a:Addr} {ns:List Int} {E:XK} (main:∀ns:List Int,ns.length<=63->f [.scr (ns.map D.int)]=.ok (.bl true)) (hl:ns.length<=63) (hO:Only H) (hS:SqL K H a (ns.map V.int)):@spD ⟨K⟩ f 1 [.ref a] H (fun v _=>v=.bl true) E:=by
 letI:KFrag:=⟨K⟩
 refine ⟨[.scr (ns.map D.int)],.bl true,rfl,.cons (.frz ?_ (ints_rep ns)) .nil,main ns hl,fun v H' s r n=>by cases r;rfl⟩;rcases hS with (h|⟨o,h⟩)|h
 ·rcases hO a with z|⟨o,xs,z⟩
  ·rw [h] at z;cases z
  ·rw [h] at z;cases z
 ·exact .inl ⟨o,h⟩
 ·exact .inr h
end Mi
end
section
namespace Mi
open PySem L2 PySem.SeqAt PySem.Spec PyProof.Rows
noncomputable def jV (o:xZ):D->D->Res D
 | .int a,.int b=>.ok (.bl (o.int a b))
 | .str a,.str b=>.ok (.bl (o.str a b))
 | _,_=>.bad
variable [KFrag]
theorem aCk {X:Cx} {op:CmpOp} {o:xZ} (hi:∀(prog:Program) (w:World) (A:Around) (E:Value->Shared->Prop) (Q:Value->Shared->Prop) (s:Shared) (i j:Int) (t t':Tok),Q (.bool (o.int i j)) s->wpAny (model prog w) A (compareOp op (.int i t) (.int j t')) Q E s)
  (hs:∀(prog:Program) (w:World) (A:Around) (E:Value->Shared->Prop) (Q:Value->Shared->Prop) (s:Shared) (i j:Str) (t t':Tok),Q (.bool (o.str i j)) s->wpAny (model prog w) A (compareOp op (.str i t) (.str j t')) Q E s):OpR X (compareOp op) (r2 (jV o) true):=by
 intro pins s σ H x y v u Q I rx ry ⟨a,b,d,p,q,e,k⟩;unfold jV at e;split at e
 ·cases e;cases p;cases q;obtain ⟨t,rfl⟩:=rx;obtain ⟨t',rfl⟩:=ry;exact hi _ _ _ _ _ _ _ _ _ _ ⟨.bl _,H,I,rfl,k.bl⟩
 ·cases e;cases p;cases q;obtain ⟨t,rfl⟩:=rx;obtain ⟨t',rfl⟩:=ry;exact hs _ _ _ _ _ _ _ _ _ _ ⟨.bl _,H,I,rfl,k.bl⟩
 ·cases e
theorem aJ8 {X:Cx}:OpR X (compareOp .Lt) (r2 (jV .lt) true):=aCk (fun _ _ _ _ _ _ _ _ _ _ h=>lt_int h) fun _ _ _ _ _ _ _ _ _ _ h=>lt_str h
theorem CK {X:Cx}:OpR X (compareOp .LtE) (r2 (jV .le) true):=aCk (fun _ _ _ _ _ _ _ _ _ _ h=>le_int h) fun _ _ _ _ _ _ _ _ _ _ h=>PySem.P.le_str h
theorem RD {X:Cx}:OpR X (compareOp .Gt) (r2 (jV .gt) true):=aCk (fun _ _ _ _ _ _ _ _ _ _ h=>gt_int h) fun _ _ _ _ _ _ _ _ _ _ h=>PySem.P.gt_str h
end Mi
end
section
namespace Mi
open PySem L2 PySem.SeqAt PySem.Spec PyProof.Rows
noncomputable def yM:D->D->Res D
 | .str x,.int n=>if decide (0<=n)&&decide (n<=100000)&&decide (x.length*n.toNat<=lim) then .ok (.str (Txt.mul x n)) else .bad
 | a,b=>aO .mul a b
noncomputable def inX:D->D->Res D
 | .str c,.str x=>.ok (.bl (!(Builtin.Str.occurrences x c 0 x.length 1).isEmpty))
 | a,b=>cC .isin a b
noncomputable def aFu:D->Option Int->Option Int->Res D
 | .str x,lo,hi=>if decide (x.length<=lim) then .ok (.str (Txt.slice x lo hi)) else .bad
 | d,lo,hi=>aI3 d lo hi
noncomputable def iB (a:FE) (lo hi:List D->Res (Option Int)):FE:=fun ρ=>do let x <- a ρ;let l <- lo ρ;let h <- hi ρ;aFu x l h
noncomputable def u9:D->Res (List D)
 | .str x=>if decide (x.length<=lim) then .ok (nG x) else .bad
 | d=>nA d
noncomputable def cV (a:FE) (fr:Bool):FI:=fun ρ=>do let x <- a ρ;let xs <- u9 x;pure (xs,fr||x.pure)
noncomputable def nH:List D->Option (List Str)
 | []=>some []
 | .str x::r=>(nH r).map (x::·)
 | _::_=>none
noncomputable def joinM:D->List D->Res D
 | .str sep,[.lst ds]=>match nH ds with
  | some ts=>if JoinOk sep ts then .ok (.str (Txt.join sep ts)) else .bad
  | none=>.bad
 | _,_=>.bad
noncomputable def qL:List D->Option (List Bool)
 | []=>some []
 | .bl x::r=>(qL r).map (x::·)
 | _::_=>none
noncomputable def aI5:List D->Res D
 | [.lst ds]=>match qL ds with
  | some bs=>.ok (.bl (bs.all id))
  | none=>.bad
 | _=>.bad
variable [KFrag]
section
variable {X:Cx}
theorem pU:OpR X (binaryOp .Mult) (r2 yM true):=by
 intro pins s σ H x y v u Q I rx ry ⟨a,b,d,p,q,e,k⟩;by_cases hs:∃z n,a=.str z/\b=.int n
 ·obtain ⟨z,n,rfl,rfl⟩:=hs;simp only [yM] at e;split at e
  ·rename_i hl;cases e;simp only [Bool.and_eq_true,decide_eq_true_eq] at hl;obtain ⟨⟨h0,h1⟩,h2⟩:=hl;cases p;cases q;obtain ⟨t,rfl⟩:=rx;obtain ⟨t',rfl⟩:=ry;have hz:z.length*n.toNat<=sizeLine:=Nat.le_trans h2 (by rw [sizeLine_eq];decide);refine SB.mul ⟨?_,fun h3 _=>?_,fun _ _=>?_⟩ fun t2 k2=>⟨.str _,H,I.tok k2,⟨t2,rfl⟩,k.str⟩
   ·rw [decide_eq_false (by lia),decide_eq_false (by lia)];rfl
   ·have hn:0<n:=by lia
    have h4:(z.length:Int)*n<=2 ^ 63-1:=by
     have h5:((z.length*n.toNat:Nat):Int)<=1000000:=by
      have:lim=1000000:=by unfold lim;exact Eq.refl _
      lia
     rw [Int.natCast_mul,Int.toNat_of_nonneg h0] at h5;lia
    have h6:=(Int.le_ediv_iff_mul_le hn).mpr h4;lia
   ·unfold Builtin.Str.tooLong;exact decide_eq_false (by lia)
  ·cases e
 ·have he:yM a b=aO .mul a b:=by
   unfold yM;split
   ·exact absurd ⟨_,_,rfl,rfl⟩ hs
   ·rfl
  rw [he] at e;exact aFm pins s σ H x y v u Q I rx ry ⟨a,b,d,p,q,e,k⟩
theorem yN (hu:X.A.units+20<cLine):OpR X (compareOp .In) (r2 inX true):=by
 intro pins s σ H x y v u Q I rx ry ⟨a,b,d,p,q,e,k⟩;by_cases hs:∃z n,a=.str z/\b=.str n
 ·obtain ⟨z,n,rfl,rfl⟩:=hs;cases e;cases p;cases q;exact O8 pins s σ H _ _ v u Q I rx ry ⟨_,_,rfl,rfl,k.bl⟩
 ·have he:inX a b=cC .isin a b:=by
   unfold inX;split
   ·exact absurd ⟨_,_,rfl,rfl⟩ hs
   ·rfl
  rw [he] at e;exact aJ1 hu pins s σ H x y v u Q I rx ry ⟨a,b,d,p,q,e,k⟩
theorem part_of {v:Value} {o:Option Int} (h:IsPart v o):∃l:Option (Int×Tok),partValue l=v/\l.map (·.1)=o:=by
 cases h with
 | none=>exact ⟨none,rfl,rfl⟩
 | int i t=>exact ⟨some (i,t),rfl,rfl⟩
theorem aFv (hK:KFrag.K=X.K):SlR X (fun x lo hi H Q=>∃a d,Rep All H x a/\aFu a lo hi=.ok d/\kR H d true Q):=by
 intro pins s σ H x v vl vu lo hi sl Q I rx hs pl pu ⟨a,d,p,e,k⟩;by_cases hz:∃z,a=.str z
 ·obtain ⟨z,rfl⟩:=hz;simp only [aFu] at e;split at e
  ·rename_i hl;cases e;cases p;obtain ⟨t,rfl⟩:=rx;obtain ⟨l,e1,e2⟩:=part_of pl;obtain ⟨m,e3,e4⟩:=part_of pu;subst e1 e2 e3 e4;refine ⟨"str",_,F.slot_str_getitem.lookup,typeIs_str _ _ _,?_⟩;obtain ⟨o,ho,hc,hd⟩:=hs;refine wpAny_getItem_str_slice (l:=l) (u:=m) (st:=none) ⟨o,ho,hc,hd⟩ rfl ?_;have hle:(Txt.slice z (l.map (·.1)) (m.map (·.1))).length<=sizeLine:=Nat.le_trans (Txt.slice_le ..) (lF hl);have q:∀(t':Tok) (k2:Nat),EP X pins σ Q (.str (Txt.slice z (l.map (·.1)) (m.map (·.1))) t') {s with toks:=k2}:=fun t' k2=>⟨.str _,H,I.tok k2,⟨t',rfl⟩,k.str⟩
   show Made.post (if ((1:Int)==1&&(Builtin.Str.strSliceIndices (l.map (·.1)) (m.map (·.1)) 1 z.length).length==z.length)=true then .val (.str z t) else .str ⟨((Builtin.Str.strSliceIndices (l.map (·.1)) (m.map (·.1)) 1 z.length).filterMap (z.cps[·]?)).toArray⟩) _ s;unfold Txt.slice at hle q;split
   ·rename_i hh;have:=q t s.toks;rw [if_pos hh] at this;exact this
   ·rename_i hh;rw [if_neg hh] at hle;have:=q s.toks (s.toks+1);rw [if_neg hh] at this;exact ⟨hle,this⟩
  ·cases e
 ·have he:aFu a lo hi=aI3 a lo hi:=by
   unfold aFu;split
   ·exact absurd ⟨_,rfl⟩ hz
   ·rfl
  rw [he] at e;exact aJ3 hK pins s σ H x v vl vu lo hi sl Q I rx hs pl pu ⟨a,d,p,e,k⟩
theorem fO {e:Expr} {fe:FE} {re:Bool} {pos:Pos} {lo hi:Option Expr} {p2:Pos} {fl fh:List D->Res (Option Int)} (hK:KFrag.K=X.K) (he:PE X e (gE fe re)) (hl:PO X lo (gO fl)) (hh:PO X hi (gO fh)):PE X (.Subscript e (.Slice lo hi none p2) pos) (gE (iB fe fl fh) true):=
 PE.imp (WY (aFv hK) he hl hh) fun σ H Q ⟨ρ,d,E,h,q⟩=>by
  obtain ⟨x,h1,h⟩:=aY h;obtain ⟨l,h2,h⟩:=aY h;obtain ⟨u,h3,h⟩:=aY h;exact ⟨ρ,x,E,h1,fun v H1 s1 r1 _=>⟨ρ,l,E.same s1,h2,fun H2 s2=>⟨ρ,u,E.same (s1.trans s2),h3,fun H3 s3=>⟨x,d,r1.same (s2.trans s3),h,q.imp ((s1.trans s2).trans s3) id⟩⟩⟩⟩
theorem IK {P:Addr->Prop} {H:Hp}:∀{xs:List V} {ds:List D} {its:List Value} {ts:List Str},bR P H xs ds->Vals xs its->nH ds=some ts->∃l:List (Str×Tok),its=strValues l/\l.map (·.1)=ts
 | [],[],[],_,_,_,h=>by cases h;exact ⟨[],rfl,rfl⟩
 | _,_,_,_,.cons (d:=d) r t,.cons rv tv,h=>by
  cases d with
  | str z=>
   obtain ⟨ts,h1,h2⟩:=Option.map_eq_some_iff.mp h;cases r;obtain ⟨tk,rfl⟩:=rv;obtain ⟨l,e1,e2⟩:=IK t tv h1;refine ⟨(z,tk)::l,?_,?_⟩
   ·rw [e1];rfl
   ·rw [<-h2,<-e2];rfl
  | _=>simp only [nH] at h;cases h
theorem pW:MtR X "str.join" (rm joinM true):=by
 intro pins s σ H x xs v us Q I rv vr ⟨a,ds,d,ra,rs,h,k⟩;unfold joinM at h;split at h
 ·split at h
  ·rename_i ts hts;split at h
   ·rename_i hok;cases h;obtain ⟨vv,uu,rfl,rfl,r,rk⟩:=jN rs vr;obtain ⟨l,ys,rfl,hl,rr⟩:=r.gM (K:=X.K);cases rk;cases ra;obtain ⟨t,rfl⟩:=rv;obtain ⟨its,vr',pl⟩:=lR I hl;obtain ⟨l2,e1,e2⟩:=IK rr vr' hts;subst e1;exact SC.join pl e2 hok fun t' k2=>⟨.str _,H,I.tok k2,⟨t',rfl⟩,k.str⟩
   ·cases h
  ·cases h
 ·cases h
theorem m5 {d:D} {ds:List D} {r:D} {v:V} {H:Hp} (h:joinM d ds=.ok r) (rp:Rep All H v d):tyV X.K "str" v H:=by
 have:∃z,d=.str z:=by
  unfold joinM at h;split at h
  ·exact ⟨_,rfl⟩
  ·cases h
 obtain ⟨z,rfl⟩:=this;cases rp;rfl
theorem IV {P:Addr->Prop} {H:Hp}:∀{xs:List V} {ds:List D} {its:List Value} {bs:List Bool},bR P H xs ds->Vals xs its->qL ds=some bs->its=bs.map Value.bool
 | [],[],[],_,_,_,h=>by cases h;rfl
 | _,_,_,_,.cons (d:=d) r t,.cons rv tv,h=>by
  cases d <;> simp only [qL] at h <;> (try (cases h;done))
  obtain ⟨ts,h1,h2⟩:=Option.map_eq_some_iff.mp h;cases r;cases rv;rw [IV t tv h1,<-h2];rfl
theorem aAf (hc:X.calm=true):nT X (.builtin "all") (rs aI5 true):=by
 intro pins s σ H xs us Q I vr ⟨ds,d,r,e,k⟩;unfold aI5 at e;split at e
 ·split at e
  ·rename_i bs hbs;cases e;obtain ⟨vv,uu,rfl,rfl,r,v⟩:=jN r vr;obtain ⟨l,ys,rfl,hl,rr⟩:=r.gM (K:=X.K);cases v;obtain ⟨its,vr',pl⟩:=lR I hl;have hb:=IV rr vr' hbs;subst hb;have hlt:l<s.heap.objs.size:=by obtain ⟨_,e,_⟩:=pl;exact Heap.lt_size e
   refine call_all_walk (wpAny_pyIter_list pl ?_);refine ⟨_,_,_,_,_,_,fun i=>bs.getD i true,rfl,Walks.list (A:=X.A.in1) (I.ok.hd hc) _ l (Nat.ne_of_lt hlt) _,⟨⟨_,Heap.get?_push_size _ rfl,rfl,rfl⟩,pl.push _⟩,fun i v s' Q' E' hP hQ=>?_,fun h' tk hk=>?_⟩
   ·have hv:(bs.map Value.bool)[i]?=some v:=by simpa using hP
    rw [List.getElem?_map] at hv;cases hb:bs[i]? with
    | none=>rw [hb] at hv;cases hv
    | some b=>
     rw [hb] at hv;cases hv;have hQ:Q' (bs.getD i true) s':=hQ;rw [List.getD_eq_getElem?_getD,hb] at hQ;exact wpAny_truthy_bool hQ
   ·have e:(List.range (bs.map Value.bool).toArray.size).all (fun i=>bs.getD i true)=bs.all id:=by
     rw [List.size_toArray,List.length_map];have:bs=(List.range bs.length).map fun i=>bs.getD i true:=by
      apply List.ext_getElem
      ·simp
      ·intro i h1 h2;simp [h1]
     conv=>rhs;rw [this]
     rw [List.all_map];rfl
    rw [e];refine ⟨.bl _,H,I.kept fun b o e=>hk b o (fun hb=>?_) (Heap.get?_push_of_some _ e),rfl,k.bl⟩;rcases List.mem_cons.mp hb with rfl|hb
    ·exact absurd (Heap.lt_size e) (Nat.lt_irrefl _)
    ·cases hb
  ·cases e
 ·cases e
theorem X8 {P:Program} {w:World} {K:PySem.W.Frag} {tg:Expr} (x:Str) (t:Tok) (it:Addr):Turn P w K tg (aJ4 x) [it] it (fun i h=>h.IsStrIter it (strIterType x) x t i) where
 mem:=by simp
 obj:=fun i h st b hb=>by
  have e:b=it:=by simpa using hb
  subst e;obtain ⟨o,e,c,d⟩:=st;exact ⟨o,e,fun v z=>by rw [d] at z;cases z⟩
 keep:=fun i h h' st k=>by
  obtain ⟨o,e,r⟩:=st;exact ⟨o,k it (by simp) o e,r⟩
 item:=by
  intro Y hP hw hK hc i pins s σ H E I hf st hg;subst hP hw hK;obtain ⟨f0,f1,f2,f3,f4,f5⟩:=hf it (by simp);have hx:x.cps[i]?=some x.cps[i]:=Array.getElem?_eq_getElem hg;have fin:∀(h':Heap) (ty:String),(["enumerate", "zip", "dict_itemiterator", "dict_reverseitemiterator", "odict_iterator", "itertools.zip_longest", "itertools.pairwise"].contains ty=false)->strIterType x=ty->h'.IsStrIter it ty x t (i+1)->Heap.SameBut it s.heap h'->
    ∃u,some (Value.str ⟨#[x.cps[i]]⟩ s.toks)=some u/\wpAny (model Y.prog Y.w) Y.A (letOwnedTupleGo tg (.ref it) u) (fun _ s2=>∃v H',Inv Y pins σ H' s2/\RelV v u/\(aJ4 x).yld i H v H'/\s2.heap.IsStrIter it (strIterType x) x t (i+1)/\∀b∈[it],H' b=none) E {s with heap:=h',toks:=s.toks+1}:=by
   intro h' ty hn hty st' sb;have I1:Inv Y pins σ H {s with heap:=h',toks:=s.toks+1}:=I.turned (fun b o hb e=>(sb.2 b hb).trans e) f0 f1 f3 f4 f5;obtain ⟨o,e,c,d⟩:=id st';exact ⟨_,rfl,WQ (s:={s with heap:=h',toks:=s.toks+1}) e c d hn ⟨.str ⟨#[x.cps[i]]⟩,H,I1,⟨_,rfl⟩,⟨rfl,_,hx,rfl⟩,by rw [hty];exact st',fun b hb=>(hf b hb).1⟩⟩
  cases ha:x.cps.all (·<128)
  ·have hty:strIterType x = "str_iterator":=by simp [strIterType,ha]
   rw [hty] at st;exact wpAny_pyNext_wide_item st hx fun h' st' sb=>fin h' _ (by decide) hty st' sb
  ·have hty:strIterType x = "str_ascii_iterator":=by simp [strIterType,ha]
   rw [hty] at st;exact wpAny_pyNext_ascii_item st hx fun h' st' sb=>fin h' _ (by decide) hty st' sb
 done:=by
  intro Y hP hw hK hc i pins s σ H E I hf st hg;subst hP hw hK;obtain ⟨f0,f1,f2,f3,f4,f5⟩:=hf it (by simp);have hx:x.cps[i]?=none:=Array.getElem?_eq_none hg;cases ha:x.cps.all (·<128)
  ·have hty:strIterType x = "str_iterator":=by simp [strIterType,ha]
   rw [hty] at st;exact wpAny_pyNext_wide_end (I.ok.hd hc) st hx fun h' eb=>⟨rfl,I.turned (t':=s.toks) (fun b o hb e=>eb b o hb e) f0 f1 f3 f4 f5⟩
  ·have hty:strIterType x = "str_ascii_iterator":=by simp [strIterType,ha]
   rw [hty] at st;exact wpAny_pyNext_ascii_end (I.ok.hd hc) st hx fun h' eb=>⟨rfl,I.turned (t':=s.toks) (fun b o hb e=>eb b o hb e) f0 f1 f3 f4 f5⟩
 self:=fun _ _ _ _ _ st h=>by
  cases ha:x.cps.all (·<128)
  ·have hty:strIterType x = "str_iterator":=by simp [strIterType,ha]
   rw [hty] at st;exact wpAny_pyIter_striter_wide st h
  ·have hty:strIterType x = "str_ascii_iterator":=by simp [strIterType,ha]
   rw [hty] at st;exact wpAny_pyIter_striter_ascii st h
section
variable {tg l a:Expr} {fl fa:FE} {rl ra:Bool} {p pos:Pos}
theorem RG {pins:List (Addr×Obj)} {s1:Shared} {σ:L2.St} {H1:Hp} {R:It->Hp->Prop} {v:V} {u:Value} {d:D} {items:List D} (I1:Inv X pins σ H1 s1) (r:Rep All H1 v d) (ru:RelV v u) (hi:u9 d=.ok items)
  (q:∀J,(∀P:Addr->Prop,Rep P H1 v d->ItQ X.K P J H1 items)->R J H1):wpAny (model X.prog X.w) X.A (pyIter u) (PIE X pins σ tg R) X.xe s1:=by
 by_cases hz:∃z,d=.str z
 ·obtain ⟨z,rfl⟩:=hz;simp only [u9] at hi;split at hi
  ·cases hi;cases r;obtain ⟨t,rfl⟩:=ru;refine wpAny_pyIter_strU ?_;refine ⟨s1.heap.objs.size,[s1.heap.objs.size],_,_,H1,rfl,I1.kept (t':=s1.toks) fun b o e=>Heap.get?_push_of_some _ e,X8 z t _,⟨_,Heap.get?_push_size _ rfl,rfl,rfl⟩,fun b hb=>?_,q _ fun P r=>.chs z rfl rfl⟩;have e:b=s1.heap.objs.size:=by simpa using hb
   subst e;exact I1.aHx (Nat.le_refl _) (I1.hok.fresh (Nat.le_refl _))
  ·cases hi
 ·have he:u9 d=nA d:=by
   unfold u9;split
   ·exact absurd ⟨_,rfl⟩ hz
   ·rfl
  rw [he] at hi;exact HW I1 r ru hi q
theorem jW (hl:PE X l (gE fl rl)):PI X tg l (gI X.K (cV fl rl)):=by
 intro pins s σ H R I ⟨ρ,items,k,E,h,q⟩;obtain ⟨d,h1,h⟩:=aY h;obtain ⟨its,h2,h⟩:=aY h;cases h;refine thn (hl pins s σ H _ I ⟨ρ,d,E,h1,fun v H1 s1 r1 n1=>(show (∃d',Rep All H1 v d/\d'=d/\∀J,(∀P:Addr->Prop,Rep P H1 v d->ItQ X.K P J H1 items)->R J H1) from ⟨d,r1,rfl,fun J hJ=>q J H1 s1 (hJ _ r1) fun hk=>hJ _ ?_⟩)⟩) fun u s1 ⟨v,H1,I1,ru,d',r1,e,q1⟩=>RG I1 r1 ru h2 q1
 rw [Bool.or_eq_true] at hk;rcases hk with hk|hk
 ·exact n1 hk
 ·exact r1.bL hk
end
end
section
variable {X:Cx} {pos p:Pos} {x:Str} {k:Nat} {f:List D->Res D}
end
theorem aAg:bootBuiltins "all" = some (.builtin "all"):=by decide +kernel
end Mi
end
section
namespace Mi
open PySem L2
theorem aAh (b:Bool):asB (.bl b)=.ok b:=rfl
theorem a_:lim=1000000:=by unfold lim;exact Eq.refl _
theorem yO {n:Nat} {ρ:List D} (h:ρ.length=n):G8 n ρ=ρ:=by
 subst h;apply List.ext_getElem
 ·simp [G8]
 ·intro i h1 h2;simp [G8,h2]
theorem d_ {n:Nat} {f:List D->Res D} {ds:List D} (h:ds.length=n):iH n f ds=f ds:=by
 unfold iH;rw [if_pos (by simp [h])]
theorem aJ {f:D->D->Res D} {a b:FE} {ρ:List D} {x y z:D} (h1:a ρ=.ok x) (h2:b ρ=.ok y) (h3:f x y=.ok z):b2 f a b ρ=.ok z:=by
 unfold b2;rw [h1,Res.aK,h2,Res.aK,h3]
theorem bO {i:Nat} {f:FE} {ρ:List D} {d:D} (h:f ρ=.ok d):bD false i f true ρ=.ok (.nx (ρ.set i d)):=by
 unfold bD;rw [h,Res.aK];rfl
theorem nZ {i:Nat} {f:FE} {ρ:List D} {d:D} (h:f ρ=.ok d) (hp:d.pure=true):bD false i f false ρ=.ok (.nx (ρ.set i d)):=by
 unfold bD;rw [h,Res.aK];simp only [hp,Bool.false_or,Bool.false_eq_true,if_false,if_true]
theorem fY {i:Nat} {f:FE} {ρ:List D} {d:D} (h:f ρ=.ok d) (hp:inner d=true):bD true i f true ρ=.ok (.nx (ρ.set i d)):=by
 unfold bD;rw [h,Res.aK];simp only [hp,Bool.and_self,if_true]
theorem aF {f g:FS} {ρ ρ':List D} {r:Res Fl} (h1:f ρ=.ok (.nx ρ')) (h2:g ρ'=r):aQ f g ρ=r:=by
 unfold aQ;rw [h1,Res.aK];exact h2
theorem aFw {c:FT} {f g:FS} {ρ:List D} {k:Bool} {r:Res Fl} (h1:c ρ=.ok k) (h2:(if k then f ρ else g ρ)=r):sIf c f g ρ=r:=by
 unfold sIf;rw [h1,Res.aK];exact h2
theorem qM {c:FT} {f g:FS} {ρ:List D} {r:Res Fl} (h1:c ρ=.ok true) (h2:f ρ=r):sIf c f g ρ=r:=aFw h1 (by rw [if_pos rfl];exact h2)
theorem lU {c:FT} {f g:FS} {ρ:List D} {r:Res Fl} (h1:c ρ=.ok false) (h2:g ρ=r):sIf c f g ρ=r:=aFw h1 (by rw [if_neg (by simp)];exact h2)
theorem dG {f:FE} {ρ:List D} {k:Bool} (h1:f ρ=.ok (.bl k)):bTB f ρ=.ok k:=by
 unfold bTB;rw [h1,Res.aK];rfl
theorem sU {a b:FT} {ρ:List D} {r:Res Bool} (h1:a ρ=.ok true) (h2:b ρ=r):z9 a b ρ=r:=by
 unfold z9;rw [h1,Res.aK,if_pos rfl,h2]
theorem MK {a b:FT} {ρ:List D} (h1:a ρ=.ok false):z9 a b ρ=.ok false:=by
 unfold z9;rw [h1,Res.aK,if_neg (by simp)];rfl
theorem aJ9 {f g:D->D->Res D} {a b c:FE} {ρ:List D} {x y z:D} {r:Res D} (h1:a ρ=.ok x) (h2:b ρ=.ok y) (h3:f x y=.ok (.bl true)) (h4:c ρ=.ok z) (h5:g y z=r):bCh f g a b c ρ=r:=by
 unfold bCh;rw [h1,Res.aK,h2,Res.aK,h3,Res.aK,aAh,Res.aK,if_pos rfl,h4,Res.aK,h5]
theorem aK5 {f g:D->D->Res D} {a b c:FE} {ρ:List D} {x y:D} (h1:a ρ=.ok x) (h2:b ρ=.ok y) (h3:f x y=.ok (.bl false)):bCh f g a b c ρ=.ok (.bl false):=by
 unfold bCh;rw [h1,Res.aK,h2,Res.aK,h3,Res.aK,aAh,Res.aK,if_neg (by simp)];rfl
theorem aD {a:FE} {b:FA} {ρ:List D} {x:D} {xs:List D} (h1:a ρ=.ok x) (h2:b ρ=.ok xs):aB a b ρ=.ok (x::xs):=by
 unfold aB;rw [h1,Res.aK,h2,Res.aK];rfl
theorem bF {f:List D->Res D} {a:FA} {ρ:List D} {xs:List D} {d:D} (h1:a ρ=.ok xs) (h2:f xs=.ok d):aU f a ρ=.ok d:=by
 unfold aU;rw [h1,Res.aK,h2]
theorem iT {a:FA} {ρ:List D} {xs:List D} (h:a ρ=.ok xs) (hl:xs.length<=lim):lO a ρ=.ok (.tup xs):=by
 unfold lO;rw [h,Res.aK,if_pos (decide_eq_true hl)];rfl
theorem fB {f:FE} {ρ:List D} {d:D} {k:Bool} (h:f ρ=.ok d) (hp:(k||d.pure)=true):j8 f k ρ=.ok (.rt d):=by
 unfold j8;rw [h,Res.aK,if_pos hp]
theorem yP {it:FI} {t:D->List D->Res (List D)} {body:FS} {ρ:List D} {xs:List D} {r:Res Fl} (h1:it ρ=.ok (xs,true)) (h2:nC t body xs ρ=r):QR it t body ρ=r:=by
 unfold QR;rw [h1,Res.aK];exact h2
theorem RJ {i:Nat} {t:D->List D->Res (List D)} {body:FS} {ρ:List D} {d:D} {xs:List D} {r:Res Fl} (h1:cL i ρ=.ok d) (h2:nA d=.ok xs) (h3:nC t body xs ρ=r):mD i t body ρ=r:=by
 unfold mD;rw [h1,Res.aK,h2,Res.aK];exact h3
theorem sV {f:FA} {ρ:List D} {n:Int} (h:f ρ=.ok [.int n]) (h1:0<=n) (h2:n<=1000000):lX f jL ρ=.ok ((List.range n.toNat).map fun (k:Nat)=>D.int (0+(k:Int)),true):=by
 unfold lX;rw [h,Res.aK];have:nU n=true:=by
  simp only [nU,Bool.and_eq_true,decide_eq_true_eq];lia
 simp only [jL,this,if_true]
theorem aAi {i:Nat} {f g:FE} {ρ:List D} {kvs:List (D×D)} {k d:D} (h1:g ρ=.ok d) (h2:f ρ=.ok k) (h3:ρ.getD i .uD=.dct kvs) (h4:kvs.length<lim) (h5:LC kvs k=true) (h6:d.pure=true):aC6 i f g ρ=.ok (.nx (ρ.set i (.dct (putD kvs k d)))):=by
 unfold aC6;rw [h1,Res.aK,h2,Res.aK,h3];simp only [decide_eq_true h4,h5,h6,Bool.and_self,if_true]
theorem aFx {i:Nat} {f g:FE} {ρ:List D} {xs:List D} {j:Int} {d:D} (h1:f ρ=.ok (.int j)) (h2:g ρ=.ok d) (h3:ρ.getD i .uD=.lst xs) (h4:xs.length<lim) (h5:d.pure=true) (h6:0<=j) (h7:j<=xs.length):aFh i f g ρ=.ok (.nx (ρ.set i (.lst (xs.take j.toNat++d::xs.drop j.toNat)))):=by
 unfold aFh;rw [h1,Res.aK,h2,Res.aK,h3];simp only [decide_eq_true h4,h5,decide_eq_true h6,decide_eq_true h7,Bool.and_self,if_true]
theorem o7 {i:Nat} {f:FE} {ρ:List D} {xs:List D} {d:D} (h1:f ρ=.ok d) (h3:ρ.getD i .uD=.lst xs) (h4:xs.length<lim) (h5:d.pure=true):uF i f ρ=.ok (.nx (ρ.set i (.lst (xs++[d])))):=by
 unfold uF;rw [h1,Res.aK,h3];simp only [decide_eq_true h4,h5,Bool.and_self,if_true]
theorem fZ {t:D->List D->Res (List D)} {body:FS} {x:D} {xs:List D} {ρ ρ1 ρ2:List D} {r:Res Fl} (h1:t x ρ=.ok ρ1) (h2:body ρ1=.ok (.nx ρ2)) (h3:nC t body xs ρ2=r):nC t body (x::xs) ρ=r:=by
 rw [nC,h1,Res.aK,h2,Res.aK];exact h3
theorem v9 {n:Nat} {it:FI} {t:D->Res (List D)} {c:FT} {f:FE} {k kk:Bool} {ρ:List D} {xs ys:List D} (h1:it ρ=.ok (xs,kk)) (h2:xs.length<=lim) (h3:jE (rW n t c f k ρ) [] xs=.ok ys):e_ n it t c f k ρ=.ok (.lst ys):=by
 unfold e_;rw [h1,Res.aK];simp only [decide_eq_true h2,if_true];rw [h3];rfl
theorem sW {n:Nat} {c:FT} {f:FE} {k:Bool} {ρ acc:List D} {x y:D} {b:Bool} (hρ:ρ.length=n) (h1:c (ρ++[x])=.ok b) (h2:b=true->f (ρ++[x])=.ok y/\(k||y.pure)=true):rW n oM c f k ρ acc x=.ok (if b then acc++[y] else acc):=by
 unfold rW;show (do let ok <- c (G8 n ρ++[x]);_)=_;rw [yO hρ,h1,Res.aK];cases b with
 | true=>
  obtain ⟨e1,e2⟩:=h2 rfl;rw [if_pos rfl,e1,Res.aK,if_pos e2,if_pos rfl];rfl
 | false=>
  rw [if_neg (by simp),if_neg (by simp)];rfl
theorem yQ {α:Type} (g:List D->D->Res (List D)) (d:α->D) (p:α->Bool) (y:α->D) (h:∀acc a,g acc (d a)=.ok (if p a then acc++[y a] else acc)):∀(xs:List α) (acc:List D),jE g acc (xs.map d)=.ok (acc++(xs.filter p).map y)
 | [],acc=>by simp [jE]
 | x::xs,acc=>by
  rw [List.map_cons,jE,h];show jE g _ _=_;rw [yQ g d p y h xs];by_cases hp:p x
  ·simp [hp]
  ·simp [hp]
theorem d7 (a b:Int):aO .add (.int a) (.int b)=.ok (.int (a+b)):=rfl
theorem yR (a b:Int):aO .sub (.int a) (.int b)=.ok (.int (a-b)):=rfl
theorem aFy (a b:Int) (h:lN b=true):aO .mul (.int a) (.int b)=.ok (.int (a*b)):=by
 simp only [aO,h,Bool.or_true,if_true]
theorem cR (a b:Int) (h1:0<b) (h2:b<1073741824):aO .fdiv (.int a) (.int b)=.ok (.int (a / b)):=by
 simp only [aO,decide_eq_true h1,decide_eq_true h2,Bool.and_self,if_true]
theorem bV (a b:Int) (h1:0<b):aO .mod (.int a) (.int b)=.ok (.int (a % b)):=by
 simp only [aO,decide_eq_true h1,if_true]
theorem IW (a:Int) (h1:-1000000<=a) (h2:a<=1000000):lN a=true:=by
 simp only [lN,Bool.and_eq_true,decide_eq_true_eq];lia
theorem jX (a b:Str) (h:a.length+b.length<=lim):aO .add (.str a) (.str b)=.ok (.str (a++b)):=by
 simp only [aO,decide_eq_true h,if_true]
theorem CN (a b:List D) (h:a.length+b.length<=lim) (ha:D.aW a=true) (hb:D.aW b=true):aO .add (.lst a) (.lst b)=.ok (.lst (a++b)):=by
 simp only [aO,decide_eq_true h,ha,hb,Bool.and_self,if_true]
theorem pX (S:List Int):D.aW (S.map D.int)=true:=by
 induction S with
 | nil=>rfl
 | cons q Q ih=>rw [List.map_cons,D.aW,ih];rfl
theorem aCl (ns:List Int) (lo hi:Option Int):cutD (ns.map D.int) lo hi=(cutD ns lo hi).map D.int:=by
 unfold cutD;rw [List.length_map,List.map_take,List.map_drop]
end Mi
end
section
namespace Mi
open PySem L2 PySem.SeqAt PySem.Spec PyProof.Rows
theorem CP {P:Program} {w:World} {H:Hp} {h:Heap} {a:Addr} {o:HO} (x:gJ P w H h a o):∃ob,h.get? a=some ob:=by
 cases o with
 | lst xs=>obtain ⟨_,_,_,_,e⟩:=x;exact ⟨_,e⟩
 | tup xs=>obtain ⟨_,_,_,_,e,_⟩:=x;exact ⟨_,e⟩
 | dK kvs=>obtain ⟨_,_,_,_,o,_,_,e,_⟩:=x;exact ⟨_,e⟩
 | dT kvs=>obtain ⟨_,_,_,_,o,_,_,e,_⟩:=x;exact ⟨_,e⟩
 | set S n=>obtain ⟨o,_,_,_,e,_⟩:=x;exact ⟨_,e⟩
 | ins C dx fs=>obtain ⟨_,_,_,e,_⟩:=x;exact ⟨_,e⟩
 | own y=>exact x
 | xd fs=>obtain ⟨_,⟨_,_,_,e,_⟩,_⟩:=x;exact ⟨_,e⟩
 | rng lo hi=>obtain ⟨_,_,_,e⟩:=x;exact ⟨_,e⟩
 | frz ob u=>obtain ⟨e,_⟩:=x;exact ⟨_,e⟩
 | tbl ps=>exact ⟨_,show h.get? a=some _ from x⟩
 | met f y=>exact ⟨_,show h.get? a=some _ from x⟩
 | ext φ=>obtain ⟨_,e,_⟩:=x;exact e
section
variable {P:Program} {w:World} {K:PySem.W.Frag} {mg:Str->Option Value} {base:Heap} {N:List Str} {qual:Str} {scope:Scope} {f C:Addr} {cd:Value} {A:Around} {outer:List Env} {s:Shared} {H:Hp} {E:XK}
end
theorem aCm {K:PySem.W.Frag} {h:Heap} {C:Addr} {bmB:List Value} {newId:String} (X:K.In h) (q:PySem.W.excIn K C bmB newId=true) :
  ∃bm N nm qn bs hdct sn sub ab col dd k0 k1 k2 k3 k5 mN,h.get? C=some (excClassObj nm qn C N bs bm hdct sn sub ab col dd k0 k1 k2 k3 k5 newId)/\h.Ns N mN/\mN "__init__" = none/\OwnTail h bmB bm:=by
 unfold PySem.W.excIn at q;split at q
 ·rename_i dd cd sl ho;split at q
  ·rename_i C' bm k0 k1 k2 k3 n k5 hm hs;rw [Bool.and_eq_true,Bool.and_eq_true,Bool.and_eq_true,Bool.and_eq_true,Bool.and_eq_true] at q;obtain ⟨⟨⟨⟨⟨q1,q2⟩,q3⟩,q4⟩,q5⟩,q6⟩:=q;have q1:=beq_iff_eq.mp q1;have q2:=beq_iff_eq.mp q2;rw [Bool.not_eq_true'] at q3;subst q1 q2;obtain ⟨nm,bs,mro,ns,qn,hd,sn,sub,ab,col,del⟩:=cd;obtain ⟨l⟩:=sl;dsimp only at hm q3 q5 q6 hs;subst hm q3 hs;exact ⟨bm,ns,nm,qn,bs,hd,sn,sub,ab,col,dd,k0,k1,k2,k3,k5,_,X _ _ ho,.of_isNs (PySem.W.isNs_of_in X q5),PySem.W.nsMap_none_of_in X q5 (beq_iff_eq.mp q6),PySem.W.tail_of_in X q4⟩
  ·cases q
 ·cases q
abbrev aI6:List Value:=[.type "ValueError",.type "Exception",.type "BaseException",.type "object"]
theorem X_ {X:Cx} {x:Str} {C:Addr} {np cpos pos:Pos} {e:Expr} {ta:TA} (hc:X.calm=true) (hg:Gl X x) (hm:X.mg x=some (.ref C)) (hq:PySem.W.excIn X.K C aI6 "ValueError.__new__" = true) (ha:PA X [e] ta)
  (he:starEach [e] X.env=[(false,eval e X.env)]:=by rfl) (hd:nDb x:=by decide) :
  PS X (.Raise (some (.Call (.Name x np) [e] [] cpos)) none pos) (fun D σ H=>ta σ H fun vs H1=>vs.length<=sizeLine/\∀(pins:List (Addr×Obj)) (s:Shared) (h2:Heap) (a:Addr) (us:List Value),Inv X pins σ H1 s->Heap.MadeExcOf s.heap h2 a (.ref C) us->X.xe (.ref a) {s with heap:=h2}):=by
 intro pins s σ H D I h;obtain ⟨bm,N,nm,qn,bs,hdct,sn,sub,ab,col,dd,k0,k1,k2,k3,k5,mN,hC,hN,hni,T⟩:=aCm I.mod.kin hq;refine wpAny_Raise_call_subT (C:=C) (nm:=nm) (q:=qn) (N:=N) (bs:=bs) (bm:=bm) (hdct:=hdct) (sn:=sn) (sub:=sub) (ab:=ab) (col:=col) (dd:=dd) (k0:=k0) (k1:=k1) (k2:=k2) (k3:=k3) (k5:=k5)
  PySem.F.excBase_ValueError (mN:=mN) (T.hasType PySem.F.excBase_ValueError.hasBase) (I.ok.hd hc) (by rw [he];rfl) hni (nQ I hg hm ⟨rfl,?_⟩ hd)
 rw [he];have h':=ha cpos pins s σ H _ I h;rw [he] at h';refine Calls.evalArgs_plain (wpAny_mono h' (fun us s2 ⟨vs,H1,I1,r,hl,hx⟩=>⟨rfl,by rw [<-r.length];exact hl,I1.bk _ _ hC,hN.keeps I1.bk,T.keeps I1.bk,fun h2 a hm=>hx pins s2 h2 a us I1 hm⟩) fun _ _ y=>y)
section
variable [KFrag]
theorem PS.nox {X:Cx} {st:Stmt} {t:TS} (h:PS X.nox st t):PS X st t:=fun pins s σ H D I hw=>
 wpAny_mono (h pins s σ H D (I.wish _) hw) (fun _ _ q=>SP.lY q) fun _ _ z=>False.elim z
end
end Mi
end
section
namespace Mi
open PySem L2 PySem.W PySem.SeqAt PySem.Spec PyProof.Rows PySem.Builtin PySem.Builtin.ObjectAttr PySem.Builtin.Getset_descriptor
def ExcAt (a C:Addr) (h:Heap):Prop:=∃o,h.get? a=some o/\o.cls=.ref C
structure XC (K:Frag) (C:Addr):Prop where
 cl:(clsIn K C).isSome=true
 ga:findIn K (.ref C) "__getattribute__" = some (some (.builtin "BaseException.__getattribute__"))
 gh:findIn K (.ref C) "__getattr__" = some none
 kc:findIn K (.ref C) "__class__" = some (some (.builtin "object.__class__"))
 kg:specialIn K (.builtin "object.__class__") "__get__" = some (some (.builtin "getset_descriptor.__get__"))
 kt:takesIn K (.builtin "object.__class__")=some true
 ob:mroIn K C (.type "object")=some true
 be:mroIn K C (.type "BaseException")=some true
section
variable {prog:Program} {w:World} {A:Around} {E:Value->Shared->Prop} {s:Shared} {K:Frag} {x C:Addr}
theorem u_ {M:Model} {h:Heap} (p:ExcAt x C h):Looks M h (typeOf (.ref x)) (.ref C):=by
 obtain ⟨o,h1,h2⟩:=p;rw [<-h2];exact (Looks.ld h1).andThen .now
theorem YB {M:Model} {h:Heap} (X:K.In h) (c:XC K C):Looks M h (find (.ref x) (.ref C) "__class__") (.bind (.builtin "getset_descriptor.__get__") (.builtin "object.__class__")):=by
 refine (looks_findIn (M:=M) X c.kc).andThen ((looks_specialIn (M:=M) X c.kg).andThen ?_);have L:Looks M h (dataDescriptor? (some (.builtin "object.__class__")) (some (.builtin "getset_descriptor.__get__"))) (some (.builtin "getset_descriptor.__get__",.builtin "object.__class__")):=(looks_takesIn (M:=M) X c.kt).andThen .now;exact L.andThen (Looks.tag .now)
theorem aCn {R:Result->Shared->Prop} {tp:Value} (X:K.In s.heap) (p:ExcAt x C s.heap) (c:XC K C) (h:R (.ok (.ret (.ref C))) s) :
  codeAny (model prog w) A (.call (.builtin "getset_descriptor.__get__") ⟨[.builtin "object.__class__",.ref x,tp],[]⟩) R s:=by
 obtain ⟨hh,g,d,t,os⟩:=s;have L0:=u_ (M:=model prog w) p;have L1:=looks_mroIn (M:=model prog w) X c.ob;refine codeAny_call_builtin KF.slot_gs.plain KF.entry_gs (KF.slot_gs.check _ _ _ _ _ _ _ _ KF.type_class (KF.args_gs _ _ _) ?_)
 (unfold Builtin.«getset_descriptor.__get__» descrGet;rw [dga_obj];refine wpAny_bind (wpAny_pure ?_);unfold descrGetter descrCheckInstance descrNameAndClass isInstance;simp only [KF.owner_class])
 repeat lk
 refine ⟨Code.quiet_builtin _ (by decide +kernel),codeAny_builtin KF.entry_class ?_⟩
 (unfold Builtin.«object.__class__» shownTypeOf;repeat lk)
 exact h
theorem RK {tk:Tok} {Q:Fin->Shared->Prop} (X:K.In s.heap) (p:ExcAt x C s.heap) (c:XC K C) (h:Q (.done (.ret (.ref C))) s) :
  wpAny (model prog w) A (Builtin.«object.__getattribute__» ⟨[.ref x,.str "__class__" tk],[]⟩) Q E s:=by
 obtain ⟨hh,g,d,t,os⟩:=s;have L0:=u_ (M:=model prog w) p;have L1:=YB (M:=model prog w) (x:=x) X c;unfold Builtin.«object.__getattribute__»;refine wpAny_bind (wpAny_pure ?_);refine wpAny_bind (wpAny_pure ?_);refine wpAny_bind (L0.at (wpAny_bind (L1.at ?_)));show wpAny _ _ (holding [_] (call _ [_,.ref x,.ref C]) >>= ret) _ _ _;exact wpAny_bind (wpAny_holding (wpAny_call (aCn X p c (wpAny_pure h))))
theorem yS {M:Model} {nv:Value} {Q:Unit->Shared->Prop} (X:K.In s.heap) (p:ExcAt x C s.heap) (c:XC K C) (h:Q () s):wpAny M A (checkBuiltinCall "BaseException.__getattribute__" ⟨[.ref x,nv],[]⟩) Q E s:=by
 obtain ⟨hh,g,d,t,os⟩:=s;have L0:Looks M hh (isInstance (.ref x) (.type "BaseException")) true:=(u_ (M:=M) p).andThen (looks_mroIn (M:=M) X c.be);have e1:builtinKind "BaseException.__getattribute__" = some .slot:=by decide +kernel
 have e2:splitId "BaseException.__getattribute__" = some ("BaseException", "__getattribute__"):=by decide +kernel
 have ha:=F.args_bexc_ga (.ref x) nv;simp only [checkBuiltinCall,e1,e2];refine wpAny_bind (L0.at ?_)
 repeat (any_goals (first|assumption|wp_step))
theorem aCo {Q:Option Value->Shared->Prop} (X:K.In s.heap) (p:ExcAt x C s.heap) (c:XC K C) (h:Q (some (.ref C)) {s with toks:=s.toks+1}):wpAny (model prog w) A (getAttr? (.ref x) "__class__") Q E s:=by
 obtain ⟨hh,g,d,t,os⟩:=s;have L0:=u_ (M:=model prog w) p;have L1:=looks_findIn (M:=model prog w) X c.ga;have L2:=looks_findIn (M:=model prog w) X c.gh;have e2:(Value.builtin "BaseException.__getattribute__" == Value.builtin "object.__getattribute__")=false:=by decide +kernel
 have e1:(onTheHeap (Value.ref C)&&Value.builtin "BaseException.__getattribute__" == Value.builtin "object.__getattribute__")=false:=by rw [e2];rfl
 unfold getAttr? getAttrBy? getAttrBy;refine wpAny_bind (wpAny_mkText (wpAny_bind (wpAny_attempt (wpAny_holding (wpAny_bind (L0.at (wpAny_bind (L1.at ?_))))))));dsimp only;rw [e1,if_neg (by decide)];unfold getAttrByItsOwn hookBefore callGetattribute boundAndCalled;rw [if_pos (show onTheHeap (Value.ref C)=true from rfl)];refine wpAny_bind (L2.at (wpAny_bind (wpAny_attempt (wpAny_holding ?_))));rw [if_neg (by decide)];refine wpAny_bind (wpAny_of_eq (F.excAttr_ValueError.ga.bind (.ref x)) ?_);refine wpAny_call (codeAny_call_builtin F.excAttr_ValueError.ga.plain F.entry_bexc_ga (yS (K:=K) (C:=C) X p c (RK (K:=K) (C:=C) X p c ?_)));show wpAny _ _ (handedOut (.ref C)) _ _ _;exact wpAny_pure (wpAny_pure h)
theorem I_ (c:XC K C):KitX K (.ref x) (.ref C) (ExcAt x C) where
 ty:=fun _ _ _ p=>u_ p
 it:=fun M h X _=>by
  obtain ⟨cd,hc⟩:=Option.isSome_iff_exists.mp c.cl;unfold clsIn at hc;split at hc
  ·rename_i ho;intro A' Q' E' s' k q
   (unfold isType loadHead;exact wpAny_bind (wpAny_loadPart (k _ _ (X _ _ ho)) (wpAny_pure q)))
  ·cases hc
 ne:=fun h tp dd its n sl X e=>by
  obtain ⟨cd,hc⟩:=Option.isSome_iff_exists.mp c.cl;unfold clsIn at hc;split at hc
  ·rename_i ho;refine Bool.eq_false_iff.mpr fun q=>?_
   have z:C=tp:=Value.ref.inj (beq_iff_eq.mp q);subst z;cases (X _ _ ho).symm.trans e
  ·cases hc
 ca:=fun X p h=>aCo X p c h
end
end Mi
end
section
namespace Mi
open PySem L2 PySem.W PySem.SeqAt PySem.Spec PyProof.Rows
abbrev mrk (X:Cx) (v:Value):Cx:={X with A:=X.A.mark (some v),calm:=false}
section
variable {X:Cx} {pins:List (Addr×Obj)} {σ:L2.St} {H H1 H2:Hp} {s:Shared} {h h6:Heap} {a:Addr}
theorem RL (I:Inv X pins σ H s) (v:Value):Inv (mrk X v) pins σ H s:=
 ⟨⟨I.ok.mod,I.ok.kind,I.ok.glob,I.ok.blt,I.ok.above,I.ok.inj,I.ok.has,I.ok.cab,(fun z=>nomatch z),I.ok.frames,I.ok.stk,I.ok.exf,I.ok.bs,I.ok.bsz,I.ok.noex,I.ok.exfs,I.ok.KY,I.ok.frf⟩,I.os,I.bare,I.base,I.loc,I.cell,I.free,I.freeC,I.pin,I.hok,I.len⟩
theorem RM {v:Value} (ok:X.Ok) (I:Inv (mrk X v) pins σ H s):Inv X pins σ H s:=
 ⟨ok,I.os,I.bare,I.base,I.loc,I.cell,I.free,I.freeC,I.pin,I.hok,I.len⟩
theorem aAj {fs:List Addr} {o:HO} (u:Un fs [] H H2 h h6) (hg:h.get? a=none) (hn:H2 a=none):Un fs [] H (upd H2 a o) h h6:=by
 have ne:∀b ob,h.get? b=some ob->b≠a:=fun b ob q z=>by rw [z,hg] at q;cases q
 refine ⟨u.keep,u.slot,fun b ob q n hx=>by rw [bB (ne b ob q)];exact u.free b ob q n hx,u.there,fun b xs q=>?_,fun b ob xs q=>?_,fun b ps q=>?_⟩
 ·have z:=u.tups b xs q;rw [bB (b_ z hn)];exact z
 ·have z:=u.frzs b ob xs q;rw [bB (b_ z hn)];exact z
 ·obtain ⟨m,z⟩:=u.tbls b ps q;exact ⟨m,by rw [bB (b_ z hn)];exact z⟩
theorem RN {P:Program} {w:World} {o:HO} (x:HOk P w H2 h6) (hn:H2 a=none) (new:gJ P w (upd H2 a o) h6 a o):HOk P w (upd H2 a o) h6:=fun b u e=>by
 by_cases hb:b=a
 ·subst hb;rw [aL] at e;cases e;exact new
 ·rw [bB hb] at e;exact (x b u e).stay (fun c v _ q=>q) (fun c q=>by rw [bB (b_ q hn)];exact q) fun c xs q=>by rw [bB (b_ q hn)];exact q
theorem YC {i:Nat} {x:Str} {v:Option Value} {t':Nat} {h':Heap} {m:Str->Option Value} (I:Inv X pins σ H s) (hN:X.N.Nodup) (hi:X.N[i]?=some x) (hn:s.heap.Ns X.env.locals m)
  (hl:∀(i:Nat) (x:Str) (v:V),X.N[i]?=some x->σ[i]?=some (some v)->Vis X.env.scope x->∃u,RelV v u/\Look X.env s.heap m x u)
  (hn':h'.Ns X.env.locals (fun y=>if y=x then v else m y)) (hs:Heap.SameBut X.env.locals s.heap h'):Inv X pins (σ.set i none) H {s with heap:=h',toks:=t'}:=by
 have hiσ:i<σ.length:=by rw [I.len];exact (List.getElem?_eq_some_iff.mp hi).1
 have cne:=I.cne;have ne:∀b o,X.s₀.heap.get? b=some o->b≠X.env.locals:=fun b o e=>Nat.ne_of_lt (Nat.lt_of_lt_of_le (Heap.lt_size e) I.ok.above)
 refine ⟨I.ok,I.os,I.bare,⟨fun b o e n hb hx=>(hs.2 b (ne b o e)).trans (I.base.keep b o e n hb hx),fun b o e n hb hx=>?_,I.base.free,fun b o e hx=>?_,I.base.tups,I.base.frzs,I.base.tbls⟩,⟨_,hn',fun j y v' e1 e2 e3=>?_⟩,fun y c e=>?_,I.free,I.freeC,fun p hp=>?_,fun b ob e=>?_,by simpa using I.len⟩
 ·obtain ⟨sl,e1⟩:=I.base.slot b o e n hb hx;exact ⟨sl,(hs.2 b (ne b o e)).trans e1⟩
 ·obtain ⟨o',e1⟩:=I.base.there b o e hx;exact ⟨o',(hs.2 b (ne b o e)).trans e1⟩
 ·by_cases hj:j=i
  ·subst hj;rw [List.getElem?_set_self hiσ] at e2;cases e2
  ·rw [List.getElem?_set_ne (Ne.symm hj)] at e2;obtain ⟨u',r',q⟩:=hl j y v' e1 e2 e3;refine ⟨u',r',?_⟩;rcases q with ⟨k,e⟩|⟨k,c,e,z⟩
   ·refine .inl ⟨k,?_⟩;have:y≠x:=fun e=>hj (vJ hN e1 (e▸hi))
    simp [this,e]
   ·exact .inr ⟨k,c,e,z.sameBut hs (cne y c e)⟩
 ·obtain ⟨w',z⟩:=I.cell y c e;exact ⟨w',z.sameBut hs (cne y c e)⟩
 ·obtain ⟨e,n,ne,nf,d⟩:=I.pin p hp;exact ⟨(hs.2 p.1 ne).trans e,n,ne,nf,d⟩
 ·refine (I.hok b ob e).stay (fun c w' hc q=>(hs.2 c ?_).trans q) (fun _ q=>q) fun _ _ q=>q
  intro z;rcases hc with hc|hc
  ·rw [<-hc,z,I.free] at e;cases e
  ·rw [z,I.free] at hc;cases hc
end
variable [KFrag]
theorem yU:∀{cs:List Addr} {us:List Value},Vals (cs.map V.ref) us->us=cs.map Value.ref
 | [],_,.nil=>rfl
 | c::cs,_,.cons r t=>by rw [yU t];cases r;rfl
section
variable {X:Cx} {C:Addr} {i:Nat} {cs:List Addr} {b:Bool} {y:Str} {p np tpos pos:Pos} {es:List Expr} {kk:Nat} {ce:Expr} {v:V} {u:Value}
end
theorem v_ {H:Hp} {a:Addr} {o:HO} (h:H a=none):cJ H (upd H a o):=fun b u e=>by rw [bB (b_ e h)];exact e
theorem wA:bootBuiltins "ValueError" = some (.type "ValueError"):=by decide +kernel
end Mi
end
section
namespace Mi
open PySem L2 PySem.SeqAt PySem.Spec PyProof.Rows
variable [KFrag]
section
variable {X:Cx} {a e:Expr} {es:List Expr} {p p2 pos pos2:Pos} {fs:FA} {rr:Bool}
end
section
variable {X:Cx} {own:Nat->Bool} {a b e:Expr} {pos:Pos} {fs:FA} {rr re:Bool} {fe:FE}
end
section
variable {X:Cx} {pins:List (Addr×Obj)} {σ:L2.St} {H:Hp} {s:Shared} {a:Addr} {kvs:List (Key×V)}
end
noncomputable def aI7:HO->Bool
 | .tup _=>false
 | .frz _ (.lst _)=>false
 | _=>true
mutual
theorem JB {P:Addr->Prop} {H:Hp} {a:Addr} {u:HO} (ea:∀ob,H a=some ob->aI7 ob=true):∀{v:V} {d:D},Rep P H v d->d.pure=true->Rep P (upd H a u) v d
 | _,_,.non,_=>.non
 | _,_,.bl b,_=>.bl b
 | _,_,.int i,_=>.int i
 | _,_,.str x,_=>.str x
 | _,_,.tup (a:=b) e r,h=>.tup (by rw [bB (fun z=>by rw [z] at e;have:=ea _ e;cases this)];exact e) (mF ea r (by rw [D.pure] at h;exact h))
 | _,_,.lst _ _ _,h=>by rw [D.pure] at h;cases h
 | _,_,.frz e r,h=>.frz (e.imp (fun ⟨o,e⟩=>⟨o,by rw [bB (fun z=>by rw [z] at e;have:=ea _ e;cases this)];exact e⟩) id) (mF ea r (by rw [D.pure] at h;exact h))
 | _,_,.cel _ _ _,h=>by rw [D.pure] at h;cases h
 | _,_,.dK _ _ _ _,h=>by rw [D.pure] at h;cases h
 | _,_,.dT _ _ _ _,h=>by rw [D.pure] at h;cases h
 | _,_,.fdK _ _ _,h=>by rw [D.pure] at h;cases h
 | _,_,.fdT _ _ _,h=>by rw [D.pure] at h;cases h
 | _,_,.exc _ _ _,h=>by rw [D.pure] at h;cases h
theorem mF {P:Addr->Prop} {H:Hp} {a:Addr} {u:HO} (ea:∀ob,H a=some ob->aI7 ob=true):∀{v:List V} {d:List D},bR P H v d->D.aW d=true->bR P (upd H a u) v d
 | _,_,.nil,_=>.nil
 | _,_,.cons r t,h=>by
  rw [D.aW,Bool.and_eq_true] at h;exact .cons (JB ea r h.1) (mF ea t h.2)
end
section
variable {X:Cx} {scope:Scope} {x c:Str} {i n:Nat} {elt:Expr} {fe:FE} {re:Bool} {np ap cp cpos pos:Pos}
end
end Mi
end
section
namespace Mi
open PySem L2 PySem.SeqAt PySem.Spec PyProof.Rows AutoSeq1 MeetsSeq MeetsSeq2 MeetsSeq3
section
variable {P:Program} {w:World} {l b:Addr} {xs ys:Array Value} {n m:Nat} {dd de:Option Addr} {sl sm:Array (Option Value)} {e:Nat->Bool}
end
variable [KFrag]
section
variable {X:Cx} {pins:List (Addr×Obj)} {σ:L2.St} {H:Hp} {s:Shared}
end
end Mi
end
section
namespace Mi
open PySem L2 PySem.SeqAt PySem.Spec PyProof.Rows
variable [KFrag]
section
variable {X:Cx} {pins:List (Addr×Obj)} {σ:L2.St} {H:Hp} {s:Shared}
end
section
variable {P:Program} {w:World} {K:PySem.W.Frag} {mg:Str->Option Value} {base:Heap} {x qual:Str} {st:Stmt} {fad T:Addr} {its:Array Value} {fd:FuncData} {N ps:List Str} {k:Nat} {f:FS}
end
section
variable {X:Cx} {e ke:Expr} {es:List Expr} {pos p kp:Pos} {fs:FA} {rr re:Bool} {fk:FE} {x kw:Str} {k k' n:Nat} {df:D} {f:List D->Res D}
end
end Mi
end
section
namespace Mi
open PySem L2 PySem.SeqAt PySem.Spec PyProof.Rows
noncomputable def aCp:D->D->Res D
 | .tup a,.tup b=>if decide (a.length+b.length<=lim) then .ok (.tup (a++b)) else .bad
 | _,_=>.bad
noncomputable def OD (c:FT) (body:FS):Nat->List D->Res Fl
 | 0,_=>.bad
 | n+1,ρ=>do
  let k <- c ρ
  if k then (do
   let r <- body ρ
   match r with
   | .nx ρ'=>OD c body n ρ'
   | .ct ρ'=>OD c body n ρ'
   | .bk ρ'=>.ok (.nx ρ')
   | .rt d=>.ok (.rt d))
  else .ok (.nx ρ)
def aK6 (c:FT) (body:FS):FS:=fun ρ=>OD c body 1000 ρ
variable [KFrag]
section
variable {X:Cx} {pos:Pos}
theorem RQ:OpR X (binaryOp .Add) (r2 aCp false):=by
 intro pins s σ H x y v u Q I rx ry h;obtain ⟨a,b,d,p,q,e,k⟩:=h;unfold aCp at e;split at e
 ·rename_i da db;split at e
  ·rename_i hl;cases e;cases p with
   | @tup l1 xs1 _ e1 r1=>
    cases q with
    | @tup l2 xs2 _ e2 r2=>
     cases rx;cases ry;have hz:xs1.length+xs2.length<=sizeLine:=by rw [r1.length,r2.length];exact lF hl
     obtain ⟨its,w1,p1,_⟩:=I.tuple (.of e1);obtain ⟨its2,w2,p2,_⟩:=I.tuple (.of e2);obtain ⟨⟨cls,dd,data,sl⟩,ho,hc,n,hd⟩:=id p1;obtain ⟨⟨cls2,dd2,data2,sl2⟩,ho2,hc2,n2,hd2⟩:=id p2;simp only at hc hd hc2 hd2;by_cases hv:its=[]
     ·have:xs1=[]:=w1.rP.mp hv;subst this;cases r1;refine concat_meets ⟨_,ho,hc⟩ ⟨_,ho2,hc2⟩ noFill_tuple_add seq_tuple_add PySem.F.slot_tuple_add PySem.F.entry_tuple_add (PySem.F.args_tuple_add_2 _ _)
       (tuple_addW0 l1 l2 its.toArray its2.toArray n n2 dd dd2 sl sl2 (by simp [hv])) ⟨by subst hc hd;exact ho,by subst hc2 hd2;exact ho2,.ref l2,H,I,rfl,?_⟩
      exact k.self (.tup e2 r2) (fun z=>by cases z)
     ·refine aBt pins s σ H (.ref l1) (.ref l2) _ _ Q I rfl rfl ⟨l1,l2,xs1,xs2,rfl,rfl,.of e1,.of e2,fun z=>hv (w1.rP.mpr z),hz,fun z=>?_,fun z p hp=>?_⟩
      ·subst z;cases r2;rw [List.append_nil] at k;exact k.self (.tup e1 r1) (fun z=>by cases z)
      ·have sp:cJ H (upd H p (.tup (xs1++xs2))):=cJ.upd hp;exact k _ _ sp (.tup aL ((r1.append r2).same sp)) fun z=>by cases z
  ·cases e
 ·cases e
theorem aFz {own:Nat->Bool} {c:Expr} {body:List Stmt} {gc:FT} {fb:FS} (hp:PassesOwn (model X.prog X.w) X.A X.env X.xe) (hc:PT X c (gT gc)) (hb:PSs X body (tS own fb)):PS X (.While c body [] pos) (tS own (aK6 gc fb)):=
 PS.imp (WP hp hc hb) fun D σ H ⟨ρ,fl,E,h,q⟩=>by
 refine ⟨fun m σ' H'=>∃ρ' ,ES own H' σ' ρ'/\OD gc fb m ρ'=.ok fl/\kS own D σ' H' fl,⟨1000,ρ,E,h,q⟩,?_⟩;rintro m σ H ⟨ρ,E,h,q⟩;cases m with
 | zero=>cases h
 | succ m=>
  rw [OD] at h;obtain ⟨k,h1,h2⟩:=aY h;refine ⟨ρ,k,E.er,h1,fun H1 s=>?_⟩;cases k with
  | true=>
   rw [if_pos rfl];rw [if_pos rfl] at h2;obtain ⟨r,h3,h4⟩:=aY h2;refine ⟨fun σ' H'=>∃ρ',ES own H' σ' ρ'/\OD gc fb m ρ'=.ok fl/\kS own D σ' H' fl,fun σ' H' w=>⟨m,Nat.lt_succ_self m,w⟩,ρ,r,E.same s,h3,?_⟩;have q1:=q.step (.same s);cases r with
   | nx ρ'=>exact fun σ' H' ku E'=>⟨ρ',E',h4,q1.step ku⟩
   | ct ρ'=>exact fun σ' H' ku E'=>⟨ρ',E',h4,q1.step ku⟩
   | bk ρ'=>cases h4;exact fun σ' H' ku E'=>q1 σ' H' ku E'
   | rt d=>cases h4;exact q1
  | false=>
   rw [if_neg (by simp)];rw [if_neg (by simp)] at h2;cases h2;exact (q.step (.same s)) σ H1 (fun a o e n=>⟨e,n⟩) (E.same s)
end
section
variable {X:Cx} {own:Nat->Bool} {e:Expr} {fe:FE} {re:Bool} {pos:Pos}
end
section
variable {X:Cx} {pins:List (Addr×Obj)} {σ:L2.St} {H:Hp} {s:Shared} {a:Addr} {kvs:List (Key×V)}
end
section
variable {X:Cx} {scope:Scope} {own:Nat->Bool} {x c y:Str} {i n iy:Nat} {elt cnd:Expr} {fe:FE} {gc:FT} {re o:Bool} {np cpos pos py pos2:Pos}
end
section
variable {own:Nat->Bool}
end
end Mi
end
section
namespace Wz
open PySem PySem.Spec
section
variable {prog:Program} {w:World} {A:Around} {E:Value->Shared->Prop} {s:Shared} {it t:Addr} {i:Nat} {xs:Array Value} {x:Value} {n:Nat} {dd:Option Addr} {sl:Array (Option Value)}
end
section
variable {z TI TO i1 i2 l1 l2:Addr} {o1 o2:Obj} {f0 f1 g0 g1 a b c d:Value} {k1 k2:Nat} {h h':Heap}
end
section
variable {prog:Program} {w:World} {A:Around} {E:Value->Shared->Prop} {s:Shared} {z TI TO i1 i2 l1 l2:Addr} {n1 n2:Nat} {d1 d2:Option Addr} {s1 s2:Array (Option Value)} {f0 f1 a b x y:Value} {k:Nat} {xs ys:Array Value}
end
end Wz
end
section
namespace Wz
open PySem PySem.Spec
section
variable {prog:Program} {w:World} {A:Around} {E:Value->Shared->Prop} {s:Shared} {z TI TO i1 i2 l1 l2:Addr} {n1 n2:Nat} {d1 d2:Option Addr} {s1 s2:Array (Option Value)} {f0 f1 a b x y:Value} {k:Nat} {xs ys:Array Value}
end
end Wz
end
section
namespace Wz
open PySem PySem.Spec
section
variable {prog:Program} {w:World} {A:Around} {E:Value->Shared->Prop} {s:Shared}
end
section
variable {prog:Program} {w:World} {A:Around} {E:Value->Shared->Prop} {hp:Heap} {g:Array GenState} {d:Drawn} {tk:Nat} {os:OsState} {a TI TO:Addr} {f0 f1:Value}
end
end Wz
end
section
namespace Wz
open PySem PySem.Spec
section
variable {prog:Program} {w:World} {A:Around} {E:Value->Shared->Prop} {s:Shared} {z TI TO i1 i2 l1 l2 d:Addr} {n1 n2:Nat} {d1 d2:Option Addr} {s1 s2:Array (Option Value)} {x y:Value} {k:Nat} {xs ys:Array Value}
end
section
variable {prog:Program} {w:World} {K:Type} [DecidableEq K] {knd:KeyKind prog w K} {A:Around} {R:Except Value Flow->Shared->Prop} {z TI TO i1 i2 l1 l2 d:Addr} {n1 n2:Nat} {d1 d2:Option Addr} {s1 s2:Array (Option Value)} {xs ys:Array Value} {ks:List K}
end
section
variable {prog:Program} {w:World} {K:Type} [DecidableEq K] {knd:KeyKind prog w K} {A:Around} {E:Value->Shared->Prop} {hp:Heap} {g:Array GenState} {dr:Drawn} {tk:Nat} {os:OsState} {z TI TO i1 i2 l1 l2:Addr} {n1 n2:Nat} {d1 d2:Option Addr} {s1 s2:Array (Option Value)} {xs ys:Array Value} {ks:List K}
end
end Wz
end
section
namespace Mi
open PySem L2 PySem.SeqAt PySem.Spec PyProof.Rows
variable [KFrag]
section
variable {X:Cx} {a b:Expr} {fs:FA} {rr:Bool} {p p2 pos pos2:Pos}
end
end Mi
end
section
namespace Mi
open PySem L2 PySem.SeqAt PySem.Spec PyProof.Rows
noncomputable def MN (i j:Nat):FS:=fun ρ=>match ρ.getD i .uD with
 | .lst xs=>(match xs[xs.length-1]? with|some x=>.ok (.nx ((ρ.set i (.lst xs.dropLast)).set j x))|none=>.bad)
 | _=>.bad
noncomputable def aCq (i:Nat) (f:FE):FS:=fun ρ=>do
 let d <- f ρ
 match ρ.getD i .uD,d with
 | .lst xs,.lst ys=>if decide (xs.length+ys.length<=lim)&&D.aW ys then .ok (.nx (ρ.set i (.lst (xs++ys)))) else .bad
 | _,_=>.bad
variable [KFrag]
section
variable {X:Cx} {own:Nat->Bool} {e:Expr} {fe:FE} {re:Bool} {pos:Pos}
theorem aCr {i j:Nat} {x y:Str} {p1 py apos cpos:Pos} (ho:own i=true) (hN:X.N[i]?=some x) (hv:Vis X.env.scope x) (hnd:X.N.Nodup) (hj:X.N[j]?=some y) (hy:Loc X.env.scope y) (hoj:own j=false) (hd:nDb x:=by decide) (hcd:nCd x:=by decide)
  (hbase:attributeBase (.Name x p1) "pop" X.env (eval (.Name x p1) X.env)=eval (.Name x p1) X.env:=by rfl)
  (hline:(apos.endLine==cpos.line)=true:=by rfl)
  (hs:swapsWith (.Call (.Attribute (.Name x p1) "pop" apos) [] [] cpos) (some (.Name y py)) pos.line X.env=pure false:=by rfl) (hf:X.fn y=true\/X.env.scope.names.lookup y=some .local:=by first|exact .inl rfl|exact .inr rfl|assumption) :
  PS X (.Assign [.Name y py] (.Call (.Attribute (.Name x p1) "pop" apos) [] [] cpos) pos) (tS own (MN i j)):=
 PS.imp (uR hnd hj hy (aA5 PySem.F.plainAttrs_list PySem.F.slot_list_pop PySem.F.type_list_pop aA6 (cU hN hv hd hcd) hbase hline) hs hf) fun D' σ H ⟨ρ,fl,E,h,q⟩=>by
 unfold MN at h;split at h
 ·rename_i xs hx;split at h
  ·rename_i dx hdx;cases h;obtain ⟨a,o,hσ,r,hin,ha,hm⟩:=E.ownAt ho (by rw [hx];intro z;cases z);rw [hx] at r hin;obtain ⟨vs,hl,rr⟩:=yK r;obtain ⟨v,hvx,rv⟩:=rr.get hdx;have hlen:=rr.length;refine ⟨_,hσ,.inl ⟨rfl,vs,.of hl⟩,a,vs,v,rfl,rfl,hl,by rw [hlen];exact hvx,?_⟩;have hin':D.aW xs=true:=hin;have pall:∀y∈xs,y.pure=true:=fun y hy=>dZ.mp hin' y hy
   have pdx:dx.pure=true:=pall dx (List.mem_of_getElem? hdx);have pe:D.aW xs.dropLast=true:=dZ.mpr fun y hy=>pall y (List.dropLast_subset _ hy)
   have er:bR All H vs.dropLast xs.dropLast:=by
    rw [List.dropLast_eq_take,List.dropLast_eq_take,hlen];exact rr.take _
   obtain ⟨E2,k2⟩:=E.mut (o:=.lst vs.dropLast) (d:=.lst xs.dropLast) ho hσ rfl (.lst aL trivial (er.upd pe hl rfl)) pe;have r1:=(bR.cons rv .nil).upd (o:=.lst vs.dropLast) (by rw [D.aW,pdx];rfl) hl rfl;cases r1 with
   | cons r1 _=>
    have E3:=E2.set hoj (v:=v) (d:=dx) (r1.bL pdx);exact q _ _ (k2.trans fun b ob eb nb=>⟨eb,by rw [jT hoj];exact nb⟩) E3
  ·cases h
 ·cases h
theorem aAk {i:Nat} {x:Str} {p1 apos cpos:Pos} (ho:own i=true) (hN:X.N[i]?=some x) (hv:Vis X.env.scope x) (he:PE X e (gE fe re)) (hd:nDb x:=by decide) (hcd:nCd x:=by decide)
  (hbase:attributeBase (.Name x p1) "extend" X.env (eval (.Name x p1) X.env)=eval (.Name x p1) X.env:=by rfl)
  (hs1:starEach [e] X.env=(false,eval e X.env)::starEach [] X.env:=by rfl)
  (hfew:((backTo cpos (starEach [e] X.env)).all (fun x=>!x.1)&&(backToKw cpos (keywordEach [] X.env)).all (fun x=>x.1.isSome)
   && decide (([e]:List Expr).length+([]:List Keyword).length+(if ([]:List Keyword).isEmpty then 0 else 1)<30))=true:=by rfl)
  (hline:(apos.endLine==cpos.line)=true:=by rfl)
  (hs:swapsWith (.Call (.Attribute (.Name x p1) "extend" apos) [e] [] cpos) none pos.line X.env=pure false:=by rfl) :
  PS X (.Expr (.Call (.Attribute (.Name x p1) "extend" apos) [e] [] cpos) pos) (tS own (aCq i fe)):=
 PS.imp (pJ (W0 PySem.F.plainAttrs_list PySem.F.slot_list_extend PySem.F.type_list_extend PQ (cU hN hv hd hcd) (bG he iQ hs1) hbase hfew hline hs1 rfl) hs) fun D' σ H ⟨ρ,fl,E,h,q⟩=>by
 obtain ⟨d,h1,h2⟩:=aY h;split at h2
 ·rename_i xs ys hx;split at h2
  ·rename_i hk;cases h2;rw [Bool.and_eq_true,decide_eq_true_eq] at hk;obtain ⟨a,o,hσ,r,hin,ha,hm⟩:=E.ownAt ho (by rw [hx];intro z;cases z);rw [hx] at r hin;obtain ⟨vs,hl,rr⟩:=yK r;refine ⟨_,hσ,.inl ⟨rfl,vs,.of hl⟩,ρ,_,E.er,h1,fun v H' s rv _=>?_⟩;cases rv with
   | @lst b zs _ hb _ rz=>
    have E':=E.same s;have hl':=s _ _ hl;refine ⟨a,b,vs,zs,rfl,rfl,hl',hb,by rw [rr.length,rz.length];exact Nat.le_trans hk.1 (by rw [sizeLine_eq];decide),?_⟩;have hp:D.aW (xs++ys)=true:=by rw [sO,Bool.and_eq_true];exact ⟨hin,hk.2⟩
    obtain ⟨E2,k2⟩:=E'.mut (o:=.lst (vs++zs)) (d:=.lst (xs++ys)) ho hσ rfl (.lst aL trivial (((rr.same s).append rz).upd hp hl' rfl)) hp;exact q _ _ ((KU.same s).trans k2) E2
  ·cases h2
 ·cases h2
end
end Mi
end
section
namespace Ws
open PySem PySem.Spec PySem.Builtin PySem.Builtin.Str
theorem MP (x y:Str) (t u:Tok) (hy:(y.length==0)=false) (hx:x.length<=sizeLine) (hl:(Txt.split x y).length<=sizeLine) :
  Meets (Builtin.«str.split» ⟨[.str x t,.str y u],[]⟩) (fun _ R s=>∀l tk,l.map (·.1)=Txt.split x y->R (.ok (.ret (.ref s.heap.objs.size))) {s with heap:=s.heap.push {cls:=.type "list",data:=.seq (strValues l).toArray},toks:=tk}):=.of_wp fun prog w A R s q=>by
 obtain ⟨raising,e⟩:=split_sep_tree x y t u;rw [e];obtain ⟨hp,g,d,tk,os⟩:=s;unfold Txt.split at q hl;by_cases h1:(decide (x.length<y.length)||decide (strKind x<strKind y))=true
 ·rw [if_pos h1] at q ⊢
  wp_walk
  exact ⟨_,rfl,q [(x,t)] tk rfl⟩
 ·rw [if_neg h1] at q hl ⊢;rw [if_neg (by rw [hy];exact Bool.false_ne_true)];by_cases h2:(occurrences x y 0 x.length (x.length+1)).isEmpty=true
  ·rw [if_pos h2] at q;rw [if_pos (by rw [h2];rfl)]
   wp_walk
   exact ⟨_,rfl,q [(x,t)] tk rfl⟩
  ·rw [if_neg h2] at q hl;rw [if_neg (by rw [Bool.true_and];exact h2)];refine wpAny_bind (wpAny_mapM_mkStr _ _ _ (fun p hp=>?_) (wpAny_bind (wpAny_newList (wpAny_pure ⟨_,rfl,?_⟩) ?_)))
   ·obtain ⟨r,_,rfl⟩:=List.mem_map.mp hp;exact fits_strSub _ _ hx
   ·rw [strsFrom_eq];exact q (numbered tk _) _ (numbered_texts ..)
   ·rw [strsFrom_length];exact hl
end Ws
namespace Mi
open PySem L2 PySem.SeqAt PySem.Spec PyProof.Rows
noncomputable def splitM:D->List D->Res D
 | .str x,[.str y]=>if decide (x.length<=lim)&&decide ((Txt.split x y).length<=lim)&&!(y.length==0) then .ok (.lst ((Txt.split x y).map D.str)) else .bad
 | _,_=>.bad
variable [KFrag]
theorem o8 {P:Addr->Prop} {H:Hp}:∀{l:List (Str×Tok)} {ts:List Str},l.map (·.1)=ts->Vals (ts.map V.str) (strValues l)/\bR P H (ts.map V.str) (ts.map D.str)
 | [],_,h=>by cases h;exact ⟨.nil,.nil⟩
 | p::l,_,h=>by
  cases h;obtain ⟨h1,h2⟩:=o8 (P:=P) (H:=H) (l:=l) rfl;exact ⟨.cons ⟨p.2,rfl⟩ h1,.cons (.str _) h2⟩
theorem YD {X:Cx}:MtR X "str.split" (rm splitM true):=by
 intro pins s σ H x xs v us Q I rv vr ⟨a,ds,d,ra,rs,h,k⟩;unfold splitM at h;split at h
 ·rename_i x y;split at h
  ·rename_i hok;rw [Bool.and_eq_true,Bool.and_eq_true,Bool.not_eq_true',decide_eq_true_eq,decide_eq_true_eq] at hok;cases h;obtain ⟨vv,uu,rfl,rfl,r,rk⟩:=jN rs vr;cases r;obtain ⟨u,rfl⟩:=rk;cases ra;obtain ⟨t,rfl⟩:=rv;have hls:∀{n:Nat},n<=lim->n<=sizeLine:=fun h=>Nat.le_trans h (by rw [sizeLine_eq];decide)
   refine call_meets F.slot_str_split (typeIs_str _ _ _) F.entry_str_split (F.args_str_split_2 _ _) (Ws.MP x y t u hok.2 (hls hok.1.1) (hls hok.1.2)) fun l tk hl2=>?_
   obtain ⟨v1,r1⟩:=o8 (P:=All) (H:=H) hl2;have hz:((Txt.split x y).map V.str).length<=sizeLine:=by rw [List.length_map];exact hls hok.1.2
   have sp:=cJ.upd (o:=.lst ((Txt.split x y).map V.str)) I.fresh;refine ⟨.ref s.heap.objs.size,_,I.aK3 (t':=tk) v1 hz,rfl,?_⟩;exact k _ _ sp (.lst aL trivial (o8 (P:=All) hl2).2) fun _=>.lst aL I.fresh (o8 hl2).2
  ·cases h
 ·cases h
theorem RT {X:Cx} {d:D} {ds:List D} {r:D} {v:V} {H:Hp} (h:splitM d ds=.ok r) (rp:Rep All H v d):tyV X.K "str" v H:=by
 have:∃z,d=.str z:=by
  unfold splitM at h;split at h
  ·exact ⟨_,rfl⟩
  ·cases h
 obtain ⟨z,rfl⟩:=this;cases rp;rfl
end Mi
end
section
namespace Ws
open PySem PySem.Spec PySem.Builtin PySem.SeqAt PyProof.Rows
section
variable {prog:Program} {w:World} {A:Around} {E:Value->Shared->Prop} {s:Shared}
end
end Ws
namespace Mi
open PySem L2 PySem.SeqAt PySem.Spec PyProof.Rows
noncomputable def aCs (y:D):List D->Option Nat
 | []=>none
 | z::r=>if eqD z y then some 0 else (aCs y r).map (·+1)
noncomputable def sX:D->List D->Res D
 | .lst xs,[y]=>if y.b8 aZ&&D.cW aZ xs then (match aCs y xs with|some j=>.ok (.int j)|none=>.bad) else .bad
 | _,_=>.bad
variable [KFrag]
theorem RV {H:Hp} {a:D}:∀{xs:List V} {ds:List D} {its:List Value} {j:Nat},D.cW aZ ds=true->bR All H xs ds->Vals xs its->aCs a ds=some j->∃hj:j<its.length,eqD (vU H its[j]) a=true/\∀m (hm:m<its.length),m<j->eqD (vU H its[m]) a=false
 | _,_,_,_,_,.nil,.nil,h=>by cases h
 | _,_,_,j,hq,.cons r t,.cons v vt,h=>by
  rw [D.cW,Bool.and_eq_true] at hq;rw [aCs] at h;split at h
  ·rename_i he;cases h;refine ⟨Nat.zero_lt_succ _,?_,fun m hm z=>absurd z (Nat.not_lt_zero _)⟩;rw [List.getElem_cons_zero,vV hq.1 v r];exact he
  ·rename_i he;obtain ⟨k,h1,rfl⟩:=Option.map_eq_some_iff.mp h;obtain ⟨hj,h2,h3⟩:=RV hq.2 t vt h1;refine ⟨Nat.succ_lt_succ hj,by rw [List.getElem_cons_succ];exact h2,fun m hm z=>?_⟩;cases m with
   | zero=>rw [List.getElem_cons_zero,vV hq.1 v r];exact Bool.eq_false_iff.mpr he
   | succ m=>rw [List.getElem_cons_succ];exact h3 m (Nat.lt_of_succ_lt_succ hm) (Nat.lt_of_succ_lt_succ z)
section
variable {X:Cx}
theorem RW (hu:X.A.units+20<cLine):MtR X "list.index" (rm sX true):=by
 intro pins s σ H x xs v us Q I rv vr ⟨a,ds,d,ra,rs,h,k⟩;unfold sX at h;split at h
 ·rename_i ys y;split at h
  ·rename_i hl;rw [Bool.and_eq_true] at hl;split at h
   ·rename_i j hj;cases h;obtain ⟨vv,uu,rfl,rfl,r,rk⟩:=jN rs vr;obtain ⟨l,zs,rfl,ee,rr⟩:=ra.gM (K:=X.K);cases rv;obtain ⟨its,vr',pl,hz⟩:=I.list ee;obtain ⟨h1,h2,h3⟩:=RV hl.2 rr vr' hj;have mm:=fun w hw=>sI I hu hl.1 r rk hl.2 rr vr' w hw
    obtain ⟨⟨cls,dd,data,sl⟩,ho,hc,n,hd⟩:=id pl.isList;simp only at hc hd;subst hc hd;have hls:(j:Int)<2 ^ 63-1:=by
     have:its.length=zs.length:=vr'.length.symm;have hz':zs.length<=sizeLine:=hz;rw [sizeLine_eq] at hz';lia
    exact call_meets F.slot_list_index ⟨_,ho,rfl⟩ F.entry_list_index (F.args_list_index_2 _ _) (list_indexAt l its.toArray n dd sl uu (fun u=>eqD (vU H u) y) j (by simpa using h1) hls (by simpa using h2) (fun m hm hmj=>by simpa using h3 m (by simpa using hm) hmj)) ⟨ho,fun w hw=>mm w (by simpa using hw),⟨.int j,H,I.tok _,⟨_,rfl⟩,k.int⟩⟩
   ·cases h
  ·cases h
 ·cases h
theorem RX {d:D} {ds:List D} {r:D} {v:V} {H:Hp} (h:sX d ds=.ok r) (rp:Rep All H v d):tyV X.K "list" v H:=by
 unfold sX at h;split at h
 ·obtain ⟨a,xs,rfl,e,_⟩:=rp.gM (K:=X.K);exact .inl ⟨rfl,_,e⟩
 ·cases h
end
end Mi
end
section
namespace Wz
open PySem PySem.Spec
section
variable {prog:Program} {w:World} {A:Around} {E:Value->Shared->Prop} {s:Shared} {z TI TO i1 i2 l1 l2:Addr} {o1 o2:Obj} {a b:Value} {k1 k2:Nat}
end
end Wz
namespace Mi
open PySem L2 PySem.SeqAt PySem.Spec PyProof.Rows
variable [KFrag]
section
variable {X:Cx}
end
section
variable {X:Cx} {a b:Expr} {fs:FA} {rr:Bool} {p pos:Pos}
end
end Mi
end
section
namespace Mi
open PySem L2 PySem.SeqAt PySem.Spec PyProof.Rows
abbrev FX:=List D->Res (D×List D)
abbrev FXT:=List D->Res (Bool×List D)
noncomputable def xJ:D->Option (List D)
 | .lst xs=>some xs
 | .cel _ xs=>some xs
 | _=>none
noncomputable def YF:D->List D->D
 | .cel a _,xs=>.cel a xs
 | _,xs=>.lst xs
def oN (k:Nat):Nat->Bool:=fun i=>decide (i<k)
open Classical in
noncomputable def ch1 (f:List D->Res D) (xs rest:List D):Res (D×List D):=
 if h:∃p:D×List D,∀b,f (.cel b xs::rest)=.ok (.tup [p.1,.cel b p.2]) then .ok h.choose else .bad
theorem aG0 {f:List D->Res D} {xs rest:List D} {p:D×List D} (h:ch1 f xs rest=.ok p):∀b,f (.cel b xs::rest)=.ok (.tup [p.1,.cel b p.2]):=by
 unfold ch1 at h;split at h
 ·rename_i e;cases h;exact e.choose_spec
 ·cases h
theorem JC {f:List D->Res D} {xs rest xs':List D} {r:D} (h:∀b,f (.cel b xs::rest)=.ok (.tup [r,.cel b xs'])):ch1 f xs rest=.ok (r,xs'):=by
 have e:∃p:D×List D,∀b,f (.cel b xs::rest)=.ok (.tup [p.1,.cel b p.2]):=⟨(r,xs'),h⟩
 have q:ch1 f xs rest=.ok e.choose:=by unfold ch1;rw [dif_pos e]
 rw [q];have z:=e.choose_spec 0;rw [h 0] at z;injection z with z
 injection z with z
 injection z with z1 z2
 injection z2 with z2
 injection z2 with _ z2
 rw [z1,z2]
noncomputable def aJa (k:Nat):Fl->Res D
 | .rt (.tup (d::ρ))=>.ok (.tup (d::ρ.take k))
 | .nx ρ=>.ok (.tup (.non::ρ.take k))
 | _=>.bad
noncomputable def fnX (k n m:Nat) (f:FS):List D->Res D:=fun ds=>do
 let r <- f (ds++List.replicate (m-n) .uD)
 aJa k r
noncomputable def cH (f:List D->Res D) (n i:Nat) (fs:FA):FX:=fun ρ=>do
 let rest <- fs ρ
 match xJ (ρ.getD i .uD) with
 | some xs=>if decide (rest.length+1=n) then (do
   let p <- ch1 f xs rest
   if D.aW p.2 then .ok (p.1,ρ.set i (YF (ρ.getD i .uD) p.2)) else .bad) else .bad
 | none=>.bad
noncomputable def x2L (f:D->D->Res D) (fa:FX) (fb:FE):FX:=fun ρ=>do
 let p <- fa ρ
 if p.1.pure then (do
  let y <- fb p.2
  let d <- f p.1 y
  if d.pure then .ok (d,p.2) else .bad) else .bad
noncomputable def x2R (f:D->D->Res D) (fa:FE) (fb:FX):FX:=fun ρ=>do
 let x <- fa ρ
 let p <- fb ρ
 let d <- f x p.1
 if d.pure then .ok (d,p.2) else .bad
noncomputable def xTB (f:FX):FXT:=fun ρ=>do
 let p <- f ρ
 let b <- asB p.1
 .ok (b,p.2)
noncomputable def iZ (o:Bool) (i:Nat) (f:FX):FS:=fun ρ=>do
 let p <- f ρ
 if (if o then inner p.1 else true) then .ok (.nx (p.2.set i p.1)) else .bad
noncomputable def YG (c:FXT) (f g:FS):FS:=fun ρ=>do
 let p <- c ρ
 if p.1 then f p.2 else g p.2
noncomputable def sY (i:Nat) (fk fv:FE):FS:=fun ρ=>do
 let d <- fv ρ
 let k <- fk ρ
 match xJ (ρ.getD i .uD),k with
 | some xs,.int k=>if d.pure then (match ixD xs.length k with|some j=>.ok (.nx (ρ.set i (YF (ρ.getD i .uD) (xs.set j d))))|none=>.bad) else .bad
 | _,_=>.bad
noncomputable def bPu (f:FE):FE:=fun ρ=>do
 let d <- f ρ
 if d.pure then .ok d else .bad
noncomputable def isI:D->Bool
 | .int _=>true
 | _=>false
noncomputable def aCt:List D->Res (List D)
 | []=>.bad
 | .lst ys::xs=>if ys.all isI&&D.aW xs then .ok (.scr ys::xs) else .bad
 | x::xs=>if x.pure then (do let r <- aCt xs;.ok (x::r)) else .bad
noncomputable def aI8 (f:FE):FE:=fun ρ=>do
 let d <- f ρ
 match d with
 | .lst xs=>(do let r <- aCt xs;.ok (.lst r))
 | _=>.bad
variable [KFrag]
section
variable {own:Nat->Bool}
theorem JD {P:Addr->Prop} {H:Hp} {a:Addr} {d:D} {xs:List D} (r:Rep P H (.ref a) d) (h:xJ d=some xs):∃vs,H a=some (.lst vs)/\P a/\bR P H vs xs:=by
 cases d <;> simp only [xJ] at h <;> cases h <;> cases r
 ·exact ⟨_,by assumption,by assumption,by assumption⟩
 ·exact ⟨_,by assumption,by assumption,by assumption⟩
theorem CQ {P:Addr->Prop} {H:Hp} {v:V} {b:Nat} {xs:List D} (r:Rep P H v (.cel b xs)):v=.ref b:=by cases r;rfl
theorem aAl {P P':Addr->Prop} {H H':Hp} {a:Addr} {d:D} {xs xs':List D} {vs':List V} (r:Rep P H (.ref a) d) (h:xJ d=some xs) (e:H' a=some (.lst vs')) (p:P' a) (r':bR P' H' vs' xs'):Rep P' H' (.ref a) (YF d xs'):=by
 cases d <;> simp only [xJ] at h <;> cases h <;> cases r
 ·exact .lst e p r'
 ·exact .cel e p r'
theorem aG1 {d:D} {xs:List D} (h:xJ d=some xs):inner d=D.aW xs:=by
 cases d <;> simp only [xJ] at h <;> cases h <;> rfl
theorem RZ {d:D} {xs xs':List D} (h:xJ d=some xs):inner (YF d xs')=D.aW xs':=by
 cases d <;> simp only [xJ] at h <;> cases h <;> rfl
theorem aAm {d:D} {xs:List D} (h:xJ d=some xs):d≠.uD:=fun z=>by subst z;cases h
theorem ES.aK7 {H H':Hp} {σ:L2.St} {ρ:List D} {i:Nat} {a:Addr} {o:HO} {d:D} (E:ES own H σ ρ) (ho:own i=true) (hi:σ[i]?=some (some (.ref a))) (hk:∀b ob,H b=some ob->b≠a->H' b=some ob) (e:H' a=some o) (hm:LQ o=true) (r:Rep All H' (.ref a) d) (hin:inner d=true) :
  ES own H' σ (ρ.set i d)/\KU own σ H σ H':=by
 have hOa:Own own σ a:=⟨i,ho,hi⟩
 obtain ⟨a',oa,ea,_,_,hHa,hma,huq⟩:=E.own i _ ho hi;cases ea;have k:KU own σ H σ H':=fun b ob e n=>⟨hk b ob e (fun z=>by subst z;exact n hOa),n⟩
 have hl:i<ρ.length:=by rw [<-E.len];exact (List.getElem?_eq_some_iff.mp hi).1
 refine ⟨⟨by simp [E.len],fun j hj=>?_,fun j w hj hw=>?_⟩,k⟩
 ·rw [cY] at hj ⊢;by_cases h:i=j/\i<ρ.length
  ·obtain ⟨rfl,_⟩:=h;exact ⟨_,hi,fun z=>by rw [ho] at z;cases z⟩
  ·rw [if_neg h] at hj ⊢;obtain ⟨w,h1,h2⟩:=E.at_ j hj;exact ⟨w,h1,fun hj=>k.rep E (h2 hj)⟩
 ·by_cases hij:i=j
  ·subst hij;rw [hi] at hw;cases hw;rw [cY,if_pos ⟨rfl,hl⟩];exact ⟨a,o,rfl,r,hin,e,hm,huq⟩
  ·rw [cY,if_neg fun z=>hij z.1];obtain ⟨b,ob,h1,h2,h3,h4,h5,h6⟩:=E.own j w hj hw;subst h1;have hba:b≠a:=fun z=>by subst z;exact hij (h6 i ho hi)
   refine ⟨b,ob,rfl,?_,h3,hk _ _ h4 hba,h5,h6⟩;refine (h2.oN (P':=fun c=>c=b) h3 rfl).keep (fun c oc hc hp=>?_) fun _ _=>trivial
   refine hk _ _ hc fun z=>?_
   subst z;rcases hp with hp|hp
   ·exact hba hp.symm
   ·rw [hHa] at hc;cases hc;rw [hma] at hp;cases hp
noncomputable def NS (own:Nat->Bool) (ρ ρ':List D):Prop:=∀i,own i=false->ρ'.getD i .uD=ρ.getD i .uD
theorem NS.trans {ρ ρ1 ρ2:List D} (a:NS own ρ ρ1) (b:NS own ρ1 ρ2):NS own ρ ρ2:=fun i h=>(b i h).trans (a i h)
theorem NS.set {ρ:List D} {i:Nat} {d:D} (ho:own i=true):NS own ρ (ρ.set i d):=fun j hj=>by
 rw [cY,if_neg];rintro ⟨rfl,_⟩;rw [ho] at hj;cases hj
noncomputable def kX (own:Nat->Bool) (σ:L2.St) (H:Hp) (ρ:List D) (d:D) (ρ':List D) (Q:VK):Prop:=∀v H',KU own σ H σ H'->ES own H' σ ρ'->NS own ρ ρ'->Rep (New H) H' v d->Q v H'
noncomputable def gX (own:Nat->Bool) (f:FX):TE:=fun σ H Q=>∃ρ d ρ',ES own H σ ρ/\f ρ=.ok (d,ρ')/\kX own σ H ρ d ρ' Q
noncomputable def gXT (own:Nat->Bool) (f:FXT):TT:=fun σ H Q=>∃ρ d ρ',ES own H σ ρ/\f ρ=.ok (d,ρ')/\∀H',KU own σ H σ H'->ES own H' σ ρ'->NS own ρ ρ'->Q d H'
noncomputable def gAO (own:Nat->Bool) (f:FA):TA:=fun σ H Q=>∃ρ ds,ES own H σ ρ/\f ρ=.ok ds/\∀vs H',cJ H H'->bR (fun a=>¬Own own σ a) H' vs ds->Q vs H'
theorem CT {σ:L2.St} {H:Hp} {ρ:List D} (E:ES own H σ ρ) {a:Addr} (h:H a=none):¬Own own σ a:=fun n=>by
 obtain ⟨o',e,_⟩:=E.live n;rw [h] at e;cases e
theorem aCu {σ:L2.St} {H H1 H2:Hp} {ρ ρ1:List D} (E:ES own H σ ρ) (E1:ES own H1 σ ρ1) (k:KU own σ H1 σ H2):WK (New H) H1 H2:=fun a o e hp=>by
 refine (k a o e ?_).1;rcases hp with hp|hp
 ·exact CT E hp
 ·intro n;obtain ⟨o',e',hm⟩:=E1.live n;rw [e] at e';cases e';rw [hp] at hm;cases hm
theorem Rep.ku {σ:L2.St} {H H1 H2:Hp} {ρ ρ1:List D} {v:V} {d:D} (r:Rep (New H) H1 v d) (E:ES own H σ ρ) (E1:ES own H1 σ ρ1) (k:KU own σ H1 σ H2):Rep (New H) H2 v d:=r.keep (aCu E E1 k) fun _ h=>h
theorem ES.aLa {H H':Hp} {σ:L2.St} {ρ ρ':List D} {i:Nat} {a:Addr} {o:HO} {d:D} (E:ES own H σ ρ) (k:KU own σ H σ H') (E':ES own H' σ ρ') (ns:NS own ρ ρ') (ho:own i=true) (hn:H a=none) (r:Rep All H' (.ref a) d) (hin:inner d=true) (ha:H' a=some o) (hm:LQ o=true) :
  ES own H' (σ.set i (some (.ref a))) (ρ'.set i d)/\KU own σ H (σ.set i (some (.ref a))) H':=by
 have hO:∀b,H b≠none->¬Own own σ b->¬Own own (σ.set i (some (.ref a))) b:=fun b hb n ⟨j,hj,e⟩=>by
  by_cases hij:i=j
  ·subst hij;by_cases hl:i<σ.length
   ·rw [List.getElem?_set_self hl] at e;cases e;exact hb hn
   ·rw [List.getElem?_set,if_pos rfl,if_neg hl] at e;cases e
  ·rw [List.getElem?_set_ne hij] at e;exact n ⟨j,hj,e⟩
 have hna:¬Own own σ a:=CT E hn;refine ⟨⟨by simp [E'.len],fun j hj=>?_,fun j w hj hw=>?_⟩,fun b ob e n=>⟨(k b ob e n).1,hO b (by rw [e];simp) n⟩⟩
 ·rw [cY] at hj ⊢;by_cases h:i=j/\i<ρ'.length
  ·rw [if_pos h];obtain ⟨rfl,hl⟩:=h;exact ⟨.ref a,by rw [List.getElem?_set_self (by rw [E'.len];exact hl)],fun z=>by rw [ho] at z;cases z⟩
  ·rw [if_neg h] at hj ⊢;obtain ⟨w,h1,h2⟩:=E'.at_ j hj;by_cases hij:i=j
   ·subst hij;have:i<σ.length:=(List.getElem?_eq_some_iff.mp h1).1;rw [E'.len] at this;exact absurd ⟨rfl,this⟩ h
   ·refine ⟨w,by rw [List.getElem?_set_ne hij];exact h1,fun hoj=>?_⟩;rw [ns j hoj] at hj ⊢;obtain ⟨w',h1',h2'⟩:=E.at_ j hj;rw [h1] at h1';cases h1';exact (h2' hoj).dom.keep (fun c oc hc hp=>k.keep E c oc hc (hp.imp And.left id)) fun b ⟨n,hb⟩=>hO b hb n
 ·by_cases hij:i=j
  ·subst hij;have hl:i<σ.length:=by
    have:=(List.getElem?_eq_some_iff.mp hw).1;simpa using this
   rw [List.getElem?_set_self hl] at hw;cases hw;rw [cY,if_pos ⟨rfl,by rw [<-E'.len];exact hl⟩];refine ⟨a,o,rfl,r,hin,ha,hm,fun k hk hs=>?_⟩;by_cases hik:i=k
   ·exact hik.symm
   ·rw [List.getElem?_set_ne hik] at hs;exact absurd ⟨k,hk,hs⟩ hna
  ·rw [List.getElem?_set_ne hij] at hw;rw [cY,if_neg fun z=>hij z.1];obtain ⟨b,ob,h1,h2,h3,h4,h5,h6⟩:=E'.own j w hj hw;refine ⟨b,ob,h1,h2,h3,h4,h5,fun k hk hs=>?_⟩;by_cases hik:i=k
   ·subst hik;by_cases hl:i<σ.length
    ·rw [List.getElem?_set_self hl] at hs;cases hs;subst h1;exact absurd ⟨j,hj,hw⟩ hna
    ·rw [List.getElem?_set,if_pos rfl,if_neg hl] at hs;cases hs
   ·rw [List.getElem?_set_ne hik] at hs;exact h6 k hk hs
end
section
variable {own:Nat->Bool} {X:Cx} {a b c e:Expr} {pos pos':Pos} {fa fb fe:FE} {ra rb re:Bool} {xa xb xe:FX}
theorem aLb {f:D->D->Res D} {fr:Bool} {σ:L2.St} {H:Hp} {Q:VK} (h:gX own (x2L f xa fb) σ H Q):tOp (r2 f fr) (gX own xa) (gE fb rb) σ H Q:=by
 obtain ⟨ρ,d,ρ',E,h,q⟩:=h;obtain ⟨⟨x,ρ1⟩,h1,h⟩:=aY h;split at h
 ·rename_i hp;obtain ⟨y,h2,h⟩:=aY h;obtain ⟨z,h3,h⟩:=aY h;split at h
  ·rename_i hz;cases h;refine ⟨ρ,x,ρ1,E,h1,fun v H1 k1 E1 ns r1=>⟨ρ1,y,E1.er,h2,fun w H2 s2 r2 _=>⟨x,y,_,(r1.same s2).all,r2,h3,fun u H3 s3 r3 _=>?_⟩⟩⟩;exact q u H3 (k1.trans (.same (s2.trans s3))) (E1.same (s2.trans s3)) ns (r3.bL hz)
  ·cases h
 ·cases h
theorem R0 {o:Operator} {f:D->D->Res D} {fr:Bool} (ho:OpR X (binaryOp o) (r2 f fr)) (ha:PE X a (gX own xa)) (hb:PE X b (gE fb rb)):PE X (.BinOp a o b pos) (gX own (x2L f xa fb)):=PE.imp (aEu ho ha hb) fun _ _ _=>aLb
theorem aLc {f:D->D->Res D} {fr:Bool} {σ:L2.St} {H:Hp} {Q:VK} (h:gX own (x2R f fa xb) σ H Q):tOp (r2 f fr) (gE fa true) (gX own xb) σ H Q:=by
 obtain ⟨ρ,d,ρ',E,h,q⟩:=h;obtain ⟨x,h1,h⟩:=aY h;obtain ⟨⟨y,ρ1⟩,h2,h⟩:=aY h;obtain ⟨z,h3,h⟩:=aY h;split at h
 ·rename_i hz;cases h;refine ⟨ρ,x,E.er,h1,fun v H1 s1 r1 n1=>⟨ρ,y,ρ1,E.same s1,h2,fun w H2 k2 E2 ns r2=>⟨x,y,_,((n1 rfl).ku E (E.same s1) k2).all,r2.all,h3,fun u H3 s3 r3 _=>?_⟩⟩⟩;exact q u H3 ((KU.same s1).trans (k2.trans (.same s3))) (E2.same s3) ns (r3.bL hz)
 ·cases h
theorem aG2 {σ:L2.St} {H:Hp} {ρ:List D} {i:Nat} {d:D} (E:ES own H σ ρ) (ho:own i=false) (h:cL i ρ=.ok d):∃v,σ[i]?=some (some v)/\Rep (fun a=>¬Own own σ a) H v d:=by
 obtain ⟨v,hv,r,e⟩:=E.er.var h;have hne:ρ.getD i .uD≠.uD:=fun z=>by
  rw [z] at e;subst e;exact Rep.uD r
 obtain ⟨w,hw,hr⟩:=E.at_ i hne;rw [hv] at hw;cases hw;have r2:=hr ho;rw [e] at r2;exact ⟨v,hv,r2⟩
theorem aLd {i:Nat} {f:D->D->Res D} {fr:Bool} {σ:L2.St} {H:Hp} {Q:VK} (ho:own i=false) (h:gX own (x2R f (cL i) xb) σ H Q):tOp (r2 f fr) (Z7 i) (gX own xb) σ H Q:=by
 obtain ⟨ρ,d,ρ',E,h,q⟩:=h;obtain ⟨x,h1,h⟩:=aY h;obtain ⟨⟨y,ρ1⟩,h2,h⟩:=aY h;obtain ⟨z,h3,h⟩:=aY h;obtain ⟨v,hv,rv⟩:=aG2 E ho h1;split at h
 ·rename_i hz;cases h;refine ⟨v,hv,ρ,y,ρ1,E,h2,fun w H2 k2 E2 ns r2=>⟨x,y,_,(k2.rep E rv).all,r2.all,h3,fun u H3 s3 r3 _=>?_⟩⟩;exact q u H3 (k2.trans (.same s3)) (E2.same s3) ns (r3.bL hz)
 ·cases h
theorem aG3 {i:Nat} {x:Str} {pv:Pos} {f:D->D->Res D} {fr:Bool} (ho:IxR X (r2 f fr)) (hoi:own i=false) (hN:X.N[i]?=some x) (hv:Vis X.env.scope x) (hb:PE X b (gX own xb)) (hs:rQ b) (hd:nDb x:=by decide) (hcd:nCd x:=by decide):PE X (.Subscript (.Name x pv) b pos) (gX own (x2R f (cL i) xb)):=PE.imp (aBu ho (cU hN hv hd hcd) hb hs) fun _ _ _=>aLd hoi
theorem YH {o:Bool} {i:Nat} {D':Ends} {σ:L2.St} {H:Hp} (ho:own i=o) (h:tS own (iZ o i xe) D' σ H):aBj (gX own xe) (rJ i) D' σ H:=by
 obtain ⟨ρ,fl,E,h,q⟩:=h;obtain ⟨⟨d,ρ1⟩,h1,h2⟩:=aY h;cases o with
 | true=>
  simp only [if_true] at h2;split at h2
  ·rename_i hk;cases h2;refine ⟨ρ,d,ρ1,E,h1,fun v H' k E1 ns r=>?_⟩;obtain ⟨a,ob,rfl,hn,ha,hm⟩:=aAd r hk;obtain ⟨E2,k2⟩:=E.aLa k E1 ns ho hn r.all hk ha hm;exact q _ H' k2 E2
  ·cases h2
 | false=>
  simp only [Bool.false_eq_true,if_false,if_true] at h2;cases h2;refine ⟨ρ,d,ρ1,E,h1,fun v H' k E1 ns r=>?_⟩;exact q _ H' (fun a ob e hn=>⟨(k a ob e hn).1,by rw [jT ho];exact hn⟩) (E1.set ho (CJ E r))
theorem nJ {i:Nat} {x:Str} {o:Bool} (ho:own i=o) (hN:X.N.Nodup) (hi:X.N[i]?=some x) (hx:Loc X.env.scope x) (he:PE X e (gX own xe)) (hs:swapsWith e (some (.Name x pos')) pos.line X.env=pure false:=by rfl) (hf:X.fn x=true\/X.env.scope.names.lookup x=some .local:=by first|exact .inl rfl|exact .inr rfl|assumption) :
  PS X (.Assign [.Name x pos'] e pos) (tS own (iZ o i xe)):=PS.imp (uR hN hi hx he hs hf) fun _ _ _=>YH ho
end
section
variable {own:Nat->Bool} {X:Cx} {a b c e:Expr} {pos pos':Pos} {fa fb fe:FE} {ra rb re:Bool} {xa xb xe:FX}
theorem kRt.new {D:Ends} {σ:L2.St} {H:Hp} {d0:Mi.D} {ρ':List Mi.D} (h:kRt own D σ H (.tup (d0::ρ'))) (hx:own rtX=true):∀v σ' H',KU own σ H σ' H'->ES own H' σ' ρ'->Rep (fun a=>(Own own σ a\/H a=none)/\∀i b xs,ρ'.getD i .uD=.cel b xs->a≠b) H' v d0->D.rt v H':=by
 unfold kRt at h;rw [if_pos hx] at h;obtain ⟨d1,ρ1,e,g⟩:=h;cases e;exact g
theorem kI {σ:L2.St} {H:Hp} {ρ:List D} (E:ES own H σ ρ) {i b:Nat} {xs:List D} (h:ρ.getD i .uD=.cel b xs):∃vs,σ[i]?=some (some (.ref b))/\H b=some (.lst vs):=by
 obtain ⟨v,h1,h2⟩:=E.er i (by rw [h];intro z;cases z);rw [h] at h2;cases h2 with
 | cel e _ _=>exact ⟨_,h1,e⟩
theorem CV (he:PE X e (gE fe re)) (hx:own rtX=true:=by rfl):PS X (.Return (some e) pos) (tS own (BX fe re)):=PS.imp (uQ he) fun D σ H ⟨ρ,fl,E,h,q⟩=>by
 obtain ⟨d,h1,h2⟩:=aY h;split at h2
 ·rename_i hk;cases h2;refine ⟨ρ,d,E.er,h1,fun v H' s r n=>kRt.new q hx v σ H' (.same s) (E.same s) ?_⟩;rw [Bool.or_eq_true] at hk;rcases hk with hk|hk
  ·refine (n hk).mono fun a ha=>⟨.inr ha,fun i b xs hb z=>?_⟩
   obtain ⟨vs,_,e⟩:=kI E hb;subst z;rw [show H a=none from ha] at e;cases e
  ·exact r.bL hk
 ·cases h2
theorem YJ {i:Nat} {x:Str} (ho:own i=true) (hN:X.N[i]?=some x) (hv:Vis X.env.scope x) (hd:nDb x:=by decide) (hcd:nCd x:=by decide) (hx:own rtX=true:=by rfl):PS X (.Return (some (.Name x pos')) pos) (tS own (yE i)):=
 PS.imp (uQ (cU hN hv hd hcd)) fun D σ H ⟨ρ,fl,E,h,q⟩=>by
 obtain ⟨d,h1,h2⟩:=aY h;split at h2
 ·rename_i hc;cases h2;obtain ⟨v,hv,r,e⟩:=E.er.var h1;obtain ⟨a,o,rfl,r2,hin,_,_,huq⟩:=E.own i v ho hv;rw [e] at hin;refine ⟨_,hv,kRt.new q hx _ σ H (.same (cJ.refl H)) E (r.oN hin ⟨.inl ⟨i,ho,hv⟩,fun j b xs hb z=>?_⟩)⟩;obtain ⟨vs,hj,eb⟩:=kI E hb;subst z;cases hoj:own j with
  | true=>
   have:=huq j hoj hj;subst this;rw [hb] at e;subst e;cases hc
  | false=>
   obtain ⟨w,hw,hr⟩:=E.at_ j (by rw [hb];intro z;cases z);have r3:=hr hoj;rw [hb] at r3;cases r3 with
   | cel e p r=>exact p ⟨i,ho,hv⟩
 ·cases h2
noncomputable def spV (k:Nat) (f:List D->Res D) (n:Nat):Sp:=fun vs H Q _=>∃ds d ds',ds.length=n/\vs.length=n/\ES (oN k) H (vs.map some) ds/\(∀i,i<k->∃b xs xs',ds.getD i .uD=.cel b xs/\ds'.getD i .uD=.cel b xs')/\f ds=.ok (.tup (d::ds'))/\
 ∀v H',(∀a o,H a=some o->¬Own (oN k) (vs.map some) a->H' a=some o)->(∀i v,i<k->vs[i]?=some v->Rep All H' v (ds'.getD i .uD)/\inner (ds'.getD i .uD)=true)->Rep (New H) H' v d->Q v H'
theorem aCv {k:Nat} {f:List D->Res D} {n:Nat} {vs:List V} {H:Hp} {Q:VK} {E:XK} (h:spV k f n vs H Q E):vs.length=n:=by
 obtain ⟨ds,d,ds',h1,h2,_⟩:=h;exact h2
theorem yV {ρ:List D} {k i:Nat} (h:i<k):(ρ.take k).getD i .uD=ρ.getD i .uD:=by
 rw [List.getD_eq_getElem?_getD,List.getD_eq_getElem?_getD,List.getElem?_take,if_pos h]
theorem YK {k:Nat} {N ps:List Str} {f:FS} {vs:List V} {H:Hp} {Q:VK} {E:XK} (hx:own rtX=true) (hown:∀i,i<ps.length->own i=oN k i) (hkn:k<=ps.length) (h0:spV k (fnX k ps.length N.length f) ps.length vs H Q E):tS own f {nx:=fun _ H'=>Q .non H',rt:=Q} (start N vs) H:=by
 obtain ⟨ds,d,ds',hl,hvl,E0,hc,h,q⟩:=h0;obtain ⟨fl,h1,h2⟩:=aY h;have hst:start N vs=vs.map some++List.replicate (N.length-ps.length) none:=by
  show vs.map some++List.replicate (N.length-vs.length) none=_;rw [hvl]
 have low:∀i,i<ps.length->(start N vs)[i]?=(vs.map some)[i]?:=fun i hi=>by rw [hst,List.getElem?_append_left (by simp [hvl,hi])]
 have high:∀i v,ps.length<=i->(start N vs)[i]?≠some (some v):=fun i v hi e=>by
  rw [hst,List.getElem?_append_right (by simp [hvl];lia),List.getElem?_replicate] at e;split at e <;> cases e
 have hO:∀a,Own own (start N vs) a↔Own (oN k) (vs.map some) a:=fun a=>by
  constructor
  ·rintro ⟨i,hi,e⟩;by_cases hlt:i<ps.length
   ·exact ⟨i,by rw [<-hown i hlt];exact hi,by rw [<-low i hlt];exact e⟩
   ·exact absurd e (high i _ (by lia))
  ·rintro ⟨i,hi,e⟩;have hik:i<k:=by simpa [oN] using hi
   have hlt:i<ps.length:=by lia
   exact ⟨i,by rw [hown i hlt];exact hi,by rw [low i hlt];exact e⟩
 have hOf:(fun a=>¬Own own (start N vs) a)=fun a=>¬Own (oN k) (vs.map some) a:=funext fun a=>by rw [hO]
 have gd:∀i,i<ps.length->(ds++List.replicate (N.length-ps.length) D.uD).getD i .uD=ds.getD i .uD:=fun i hi=>by
  rw [List.getD_eq_getElem?_getD,List.getElem?_append_left (by lia),List.getD_eq_getElem?_getD]
 have ES0:ES own H (start N vs) (ds++List.replicate (N.length-ps.length) .uD):=by
  refine ⟨by rw [hst];simp [hvl,hl],fun i hi=>?_,fun i v hi hv=>?_⟩
  ·have hlt:i<ps.length:=Nat.lt_of_not_le fun hge=>hi (by
    rw [List.getD_eq_getElem?_getD,List.getElem?_append_right (by lia),List.getElem?_replicate];split <;> rfl)
   rw [gd i hlt] at hi ⊢;obtain ⟨v,g1,g2⟩:=E0.at_ i hi;exact ⟨v,by rw [low i hlt];exact g1,fun ho=>by rw [hOf];exact g2 (by rw [<-hown i hlt];exact ho)⟩
  ·have hlt:i<ps.length:=Nat.lt_of_not_le fun hge=>high i v hge hv
   rw [low i hlt] at hv;rw [gd i hlt];obtain ⟨a,o,g1,g2,g3,g4,g5,g6⟩:=E0.own i v (by rw [<-hown i hlt];exact hi) hv;refine ⟨a,o,g1,g2,g3,g4,g5,fun j hj hs=>?_⟩;have hjl:j<ps.length:=Nat.lt_of_not_le fun hge=>high j _ hge hs
   exact g6 j (by rw [<-hown j hjl];exact hj) (by rw [<-low j hjl];exact hs)
 have fin:∀v σ' H' ρ',ds'=ρ'.take k->KU own (start N vs) H σ' H'->ES own H' σ' ρ'->Rep (New H) H' v d->Q v H':=fun v σ' H' ρ' ed ku E' r=>by
  refine q v H' (fun a o e n=>(ku a o e (by rw [hO];exact n)).1) (fun i w hi hw=>?_) r;have hlt:i<ps.length:=by lia
  obtain ⟨b,xs,xs',g1,g2⟩:=hc i hi;have hoi:own i=true:=by rw [hown i hlt];simp [oN,hi]
  have g3:ρ'.getD i .uD=.cel b xs':=by rw [ed,yV hi] at g2;exact g2
  obtain ⟨vs0,z1,_⟩:=kI E0 g1;rw [List.getElem?_map,hw] at z1;cases z1;obtain ⟨w',z2,_⟩:=E'.at_ i (by rw [g3];intro z;cases z);obtain ⟨a,o,rfl,g4,g5,_⟩:=E'.own i w' hoi z2;rw [g3] at g4 g5;have:=CQ g4;cases this;rw [g2];exact ⟨g4,g5⟩
 refine ⟨_,fl,ES0,h1,?_⟩;cases fl with
 | nx ρ'=>
  simp only [aJa] at h2;injection h2 with h2
  injection h2 with h2
  injection h2 with z1 z2
  subst z1;exact fun σ' H' ku E'=>fin .non σ' H' ρ' z2.symm ku E' .non
 | bk ρ'=>cases h2
 | ct ρ'=>cases h2
 | rt d'=>
  show kRt own _ _ _ d';unfold kRt;rw [if_pos hx];unfold aJa at h2;split at h2
  ·rename_i d1 ρ' heq;cases heq;injection h2 with h2
   injection h2 with h2
   injection h2 with z1 z2
   subst z1;refine ⟨_,_,rfl,fun v σ' H' ku E' r=>fin v σ' H' ρ' z2.symm ku E' (r.mono fun a ha=>?_)⟩;rcases ha.1 with ⟨i,hi,e⟩|hn
   ·exfalso;have hlt:i<ps.length:=Nat.lt_of_not_le fun hge=>high i _ hge e
    have hik:i<k:=by rw [hown i hlt] at hi;simpa [oN] using hi
    obtain ⟨b,xs,xs',g1,g2⟩:=hc i hik;obtain ⟨vs0,q1,_⟩:=kI E0 g1;rw [low i hlt,q1] at e;cases e;rw [<-z2,yV hik] at g2;exact ha.2 i _ xs' g2 rfl
   ·exact hn
  ·rename_i heq;cases heq
  ·cases h2
theorem aG4 {P:Program} {w:World} {K:PySem.W.Frag} {mg:Str->Option Value} {base:Heap} {x qual:Str} {st:Stmt} {fad:Addr} {fd:FuncData} {N ps:List Str} {k c:Nat} {f:FS} (F:Fun K x qual st fad fd) (S:bT N ps (aM st)) (own:Nat->Bool) (hx:own rtX=true) (hown:∀i,i<ps.length->own i=oN c i) (hkn:c<=ps.length)
  (hbody:∀(cdv:Value) (A:Around) (outer:List Env) (s:Shared) (H:Hp) (E:XK),j5 k (A.deeper (envOfC qual (aM st) s.heap.objs.size fad cdv))->PSs (k_ CX0 P w K mg base N qual (aM st) fad cdv A outer s H E).nox (d9 st) (tS own f)):qW P w K mg base CX0 (k+1) fad fd ps (spV c (fnX c ps.length N.length f) ps.length):=
 F.ok S (fun vs H Q E h=>aCv h) fun cdv A outer s H vs Q E hr h=>⟨_,hbody cdv A outer s H E hr,YK hx hown hkn h⟩
noncomputable def MT (P:Program) (w:World) (K:PySem.W.Frag) (mg:Str->Option Value) (base:Heap) (k:Nat) (x:Str) (n c:Nat) (f:List D->Res D):Prop:=
 ∃(fad:Addr) (fd:FuncData) (ps:List Str),qW P w K mg base CX0 k fad fd ps (spV c f n)/\mg x=some (.ref fad)/\PySem.W.keepIn K (.ref fad)=true/\Binds K fd ps []
theorem wB {P:Program} {w:World} {K:PySem.W.Frag} {mg:Str->Option Value} {base:Heap} {x:Str} {k:Nat} {st:Stmt} {fad:Addr} {fd:FuncData} {N ps:List Str} {fs:FS} (c:Nat) (F:Fun K x x st fad fd) (hm:mg x=some (.ref fad)) (hb:Binds K fd ps []) (S:bT N ps (aM st)) (own:Nat->Bool) (hown:∀i,i<ps.length->own i=oN c i) (hkn:c<=ps.length)
  (hbody:∀(cdv:Value) (A:Around) (outer:List Env) (s:Shared) (H:Hp) (E:XK),j5 k (A.deeper (envOfC x (aM st) s.heap.objs.size fad cdv))->PSs (k_ CX0 P w K mg base N x (aM st) fad cdv A outer s H E).nox (d9 st) (tS own fs)) (hx:own rtX=true:=by rfl):MT P w K mg base (k+1) x ps.length c (fnX c ps.length N.length fs):=
 ⟨fad,fd,ps,aG4 F S own hx hown hkn hbody,hm,F.kp,hb⟩
theorem jP:PA X [] (gAO own aP):=PA.imp iQ fun σ H Q ⟨ρ,ds,E,h,q⟩=>by cases h;exact q [] H (cJ.refl H) .nil
theorem JF {i:Nat} {x:Str} {es:List Expr} {f:FA} (ho:own i=false) (hN:X.N[i]?=some x) (hv:Vis X.env.scope x) (hes:PA X es (gAO own f)) (hd:nDb x:=by decide) (hcd:nCd x:=by decide) (hs:starEach (.Name x pos::es) X.env=(false,eval (.Name x pos) X.env)::starEach es X.env:=by rfl):PA X (.Name x pos::es) (gAO own (aB (cL i) f)):=PA.imp (bG (cU hN hv hd hcd) hes hs) fun σ H Q ⟨ρ,ds,E,h,q⟩=>by
 obtain ⟨x,h1,h⟩:=aY h;obtain ⟨xs,h2,h⟩:=aY h;cases h;obtain ⟨v,hv,rv⟩:=aG2 E ho h1;exact ⟨v,hv,ρ,xs,E,h2,fun vs H2 s2 r2=>q _ _ s2 (.cons (rv.same s2) r2)⟩
theorem aJb {es:List Expr} {f:FA} (he:PE X e (gE fe re)) (hes:PA X es (gAO own f)) (hs:starEach (e::es) X.env=(false,eval e X.env)::starEach es X.env:=by rfl):PA X (e::es) (gAO own (aB (bPu fe) f)):=PA.imp (bG he hes hs) fun σ H Q ⟨ρ,ds,E,h,q⟩=>by
 obtain ⟨x,h1,h⟩:=aY h;obtain ⟨xs,h2,h⟩:=aY h;cases h;obtain ⟨y,h3,h1⟩:=aY h1;split at h1
 ·rename_i hp;cases h1;exact ⟨ρ,_,E.er,h3,fun v H1 s1 r1 _=>⟨ρ,xs,E.same s1,h2,fun vs H2 s2 r2=>q _ _ (s1.trans s2) (.cons ((r1.bL hp).same s2) r2)⟩⟩
 ·cases h1
theorem aG5 {H:Hp} {a:Addr} {xs:List D} {vs0:List V} {vs:List V} {rest:List D} (ha:H a=some (.lst vs0)) (ra:bR All H vs0 xs) (hp:D.aW xs=true) (rs:bR (fun b=>b≠a) H vs rest):ES (oN 1) H ((V.ref a::vs).map some) (.cel a xs::rest):=by
 have hO:∀b,Own (oN 1) ((V.ref a::vs).map some) b->b=a:=fun b ⟨j,hj,e⟩=>by
  have:j=0:=by simp [oN] at hj;lia
  subst this;simp at e;exact e.symm
 refine ⟨by simp [rs.length],fun i hi=>?_,fun i v hi hv=>?_⟩
 ·cases i with
  | zero=>exact ⟨.ref a,rfl,fun z=>by simp [oN] at z⟩
  | succ i=>
   have e:(D.cel a xs::rest).getD (i+1) .uD=rest.getD i .uD:=rfl;rw [e] at hi ⊢;cases hq:rest[i]? with
   | none=>rw [List.getD_eq_getElem?_getD,hq] at hi;exact absurd rfl hi
   | some d=>
    obtain ⟨v,g1,g2⟩:=rs.get hq;rw [List.getD_eq_getElem?_getD,hq];exact ⟨v,by simp [g1],fun _=>g2.mono fun b hb ho=>hb (hO b ho)⟩
 ·have:i=0:=by simp [oN] at hi;lia
  subst this;simp at hv;subst hv;exact ⟨a,.lst vs0,rfl,.cel ha trivial ra,hp,ha,rfl,fun j hj _=>by simp [oN] at hj;lia⟩
theorem R3 {σ:L2.St} {H:Hp} {ρ:List D} {i:Nat} {xs:List D} (E:ES own H σ ρ) (ho:own i=true) (h:xJ (ρ.getD i .uD)=some xs):∃a vs,σ[i]?=some (some (.ref a))/\H a=some (.lst vs)/\bR All H vs xs/\D.aW xs=true/\Rep All H (.ref a) (ρ.getD i .uD)/\∀b,ρ.getD i .uD=.cel b xs->b=a:=by
 obtain ⟨a,o,hσ,r,hin,ha,hm⟩:=E.ownAt ho (aAm h);obtain ⟨vs,e,_,rr⟩:=JD r h;exact ⟨a,vs,hσ,e,rr,by rw [aG1 h] at hin;exact hin,r,fun b hb=>by rw [hb] at r;have:=CQ r;cases this;rfl⟩
theorem aG6 {H H':Hp} {a:Addr} {d:D} {xs xs':List D} (r:Rep All H (.ref a) d) (h:xJ d=some xs) (r':Rep All H' (.ref a) (.cel a xs')):∃vs,H' a=some (.lst vs)/\Rep All H' (.ref a) (YF d xs'):=by
 obtain ⟨vs,e,_,rr⟩:=JD r' rfl;exact ⟨vs,e,aAl r h e trivial rr⟩
theorem eG {x y:Str} {p py:Pos} {es:List Expr} {fs:FA} {k k' n i:Nat} {f:List D->Res D} (C:MT X.prog X.w X.K X.mg X.base k x n 1 f) (hr:j5 k' X.A) (hkk:k<=k') (hg:Gl X x) (ho:own i=true) (hN:X.N[i]?=some y) (hv:Vis X.env.scope y) (ha:PA X es (gAO own fs)) (hdb:nDb x:=by decide) (hd:(y==("__debug__" : Str))=false:=by decide) (hcd:(y==("__classdict__" : Str))=false:=by decide)
  (he:starEach (.Name y py::es) X.env=(false,eval (.Name y py) X.env)::starEach es X.env:=by rfl) (hpl:(backTo pos (starEach es X.env)).any (·.1)=false:=by rfl):PE X (.Call (.Name x p) (.Name y py::es) [] pos) (gX own (cH f n i fs)):=by
 obtain ⟨fad,fd,ps,F,hm,hk,hb⟩:=C;refine PE.imp (pK F (hr.mono hkk) hg hm hk hb .nil W8 (bG (cU hN hv hd hcd) ha he) hdb he hpl) fun σ H Q ⟨ρ,d,ρ',E,h,q⟩=>?_
 obtain ⟨rest,h1,h⟩:=aY h;split at h
 ·rename_i xs hx;split at h
  ·rename_i hn;obtain ⟨⟨r0,xs'⟩,h2,h⟩:=aY h;split at h
   ·rename_i hp';cases h;obtain ⟨a,vs0,hσ,e0,rr0,hp0,rp0,_⟩:=R3 E ho hx;refine ⟨_,hσ,ρ,rest,E,h1,fun vs H1 s1 rs=>?_⟩;have hOa:Own own σ a:=⟨i,ho,hσ⟩
    have hl:rest.length+1=n:=of_decide_eq_true hn;dsimp only;rw [List.append_nil];refine ⟨.cel a xs::rest,_,[.cel a xs'],by simp;lia,by simp [rs.length];lia,aG5 (s1 _ _ e0) (rr0.same s1) hp0 (rs.mono fun b hb z=>by subst z;exact hb hOa),fun j hj=>?_,aG0 h2 a,fun v H' k1 own1 rn=>?_⟩
    ·have:j=0:=by lia
     subst this;exact ⟨a,xs,xs',rfl,rfl⟩
    ·obtain ⟨r1,hin⟩:=own1 0 _ (by lia) rfl;have r1:Rep All H' (.ref a) (.cel a xs'):=r1;obtain ⟨vs1,e1,r2⟩:=aG6 (rp0.same s1) hx r1;have hk1:∀b ob,H1 b=some ob->b≠a->H' b=some ob:=fun b ob e n=>k1 b ob e fun ⟨j,hj,ej⟩=>by
      have:j=0:=by simp [oN] at hj;lia
      subst this;simp at ej;exact n ej.symm
     obtain ⟨E2,k2⟩:=(E.same s1).aK7 ho hσ hk1 e1 rfl r2 (by rw [RZ hx];exact hp');exact q v H' ((KU.same s1).trans k2) E2 (.set ho) (rn.mono fun b hb=>s1.free hb)
   ·cases h
  ·cases h
 ·cases h
end
section
variable {own:Nat->Bool} {X:Cx} {a b c e:Expr} {pos pos':Pos} {fa fb fe:FE} {ra rb re:Bool} {xa xb xe:FX}
theorem wC {i:Nat} {x:Str} {p1:Pos} {value k:Expr} {fv fk:FE} {rv rk:Bool} (ho:own i=true) (hN:X.N[i]?=some x) (hvi:Vis X.env.scope x) (hk:PE X k (gE fk rk)) (hv:PE X value (gE fv rv)) (hs:swapsWith value (some (.Subscript (.Name x p1) k pos')) pos.line X.env=pure false:=by rfl) (hd:nDb x:=by decide) (hcd:nCd x:=by decide) :
  PS X (.Assign [.Subscript (.Name x p1) k pos'] value pos) (tS own (sY i fk fv)):=by
 intro pins s σ H D' I ⟨ρ,fl,E,h,q⟩;obtain ⟨d,h0,h⟩:=aY h;obtain ⟨kd,h1,h2⟩:=aY h;split at h2
 ·rename_i xs kk hx;split at h2
  ·rename_i hp;split at h2
   ·rename_i j hj;cases h2;obtain ⟨a,vs,hσ,e0,rr,hin,rp,_⟩:=R3 E ho hx;have pn:D.aW (xs.set j d)=true:=dZ.mpr fun y hy=>by
     rcases List.mem_or_eq_of_mem_set hy with hy|hy
     ·exact dZ.mp hin y hy
     ·subst hy;exact hp
    have go:∀{v:V} {H2:Hp},cJ H H2->Rep All H2 v d->D'.nx σ (upd H2 a (.lst (vs.set j v))):=fun {v H2} sm rv=>by
     have rn:bR All (upd H2 a (.lst (vs.set j v))) (vs.set j v) (xs.set j d):=((rr.same sm).set rv j).upd pn (sm _ _ e0) rfl;obtain ⟨E2,k2⟩:=(E.same sm).aK7 (H':=upd H2 a (.lst (vs.set j v))) (o:=.lst (vs.set j v)) (d:=YF (ρ.getD i .uD) (xs.set j d)) ho hσ (fun b ob e n=>by rw [bB n];exact e) aL rfl (aAl (rp.same sm) hx aL trivial rn) (by rw [RZ hx];exact pn);exact q _ _ ((KU.same sm).trans k2) E2
    refine wpAny_Assign_Subscript (thn (hv pins s σ H (fun v H1=>cJ H H1/\Rep All H1 v d) I ⟨ρ,d,E.er,h0,fun v H1 s1 r1 _=>⟨s1,r1⟩⟩) fun u1 t1 ⟨v,H1,I1,rv1,sm1,rp1⟩=>
     thn (cU hN hvi hd hcd pins t1 σ H1 (fun w H2=>w=.ref a/\H2=H1) I1 ⟨_,hσ,rfl,rfl⟩) fun u2 t2 ⟨xx,H2,I2,rx,ex,eH⟩=>?_) hs
    subst ex;rw [eH] at I2;refine thn (hk pins t2 σ _ (fun w H3=>cJ H1 H3/\w=.int kk) I2 ⟨ρ,_,E.er.same sm1,h1,fun w H3 s3 r3 _=>⟨s3,by cases r3;rfl⟩⟩) fun u3 t3 ⟨y,H3,I3,ry,sm3,ey⟩=>?_
    subst ey;exact thn (set_list pins t3 σ H3 (.ref a) (.int kk) v u2 u3 u1 (fun H4=>D'.nx σ H4) I3 rx ry rv1 ⟨a,vs,kk,j,rfl,rfl,(sm1.trans sm3) _ _ e0,by rw [rr.length];exact hj,go (sm1.trans sm3) (rp1.same sm3)⟩) fun _ t4 ⟨H4,I4,q4⟩=>⟨σ,H4,I4,q4⟩
   ·cases h2
  ·cases h2
 ·cases h2
theorem M3 {pins:List (Addr×Obj)} {σ:L2.St} {H:Hp} {s:Shared} {a:Addr} {vs:List V} (I:Inv X pins σ H s) (e:H a=some (.lst vs)):∃o,Inv X pins σ (upd H a (.frz o (.lst vs))) s:=by
 obtain ⟨its,n,r,ho,hz⟩:=I.lst e;refine ⟨_,I.write (t':=s.toks) (x:=a) (e:=a) (h':=s.heap) (o:=.frz _ (.lst vs)) (by rw [e];trivial) (.inl rfl) (fun _ _ _ q=>q) ⟨_,ho⟩ ⟨ho,hz,its,n,r,ho⟩⟩
theorem R4 {ys:List D} (h:ys.all isI=true):D.aW ys=true:=dZ.mpr fun y hy=>by
 have:=List.all_eq_true.mp h y hy;cases y <;> first|rfl|cases this
theorem aAn {H H':Hp}:∀{xs r:List D} {vs:List V},aCt xs=.ok r->bR (New H) H' vs xs->∃b ws,H b=none/\H' b=some (.lst ws)/\D.aW r=true/\(∃(k:Nat) (ys:List D),vs[k]?=some (V.ref b)/\bR (New H) H' ws ys/\ys.all isI=true)/\∀o,bR (fun c=>H c=none) (upd H' b (.frz o (.lst ws))) vs r
 | [],r,vs,h,_=>by cases h
 | x::xs,r,_,h,.cons (v:=v) (vs:=vs) rx t=>by
  by_cases hl:∃ys,x=.lst ys
  ·obtain ⟨ys,rfl⟩:=hl;simp only [aCt] at h;split at h
   ·rename_i hp;rw [Bool.and_eq_true] at hp;cases h;have hpi:=R4 hp.1;cases rx with
    | @lst b ws _ e p rr=>
     have hne:∀ob,H' b=some ob->aI7 ob=true:=fun ob z=>by rw [e] at z;cases z;rfl
     refine ⟨b,ws,p,e,by rw [D.aW,Bool.and_eq_true];exact ⟨hpi,hp.2⟩,⟨0,ys,rfl,rr,hp.1⟩,fun o=>.cons (.frz (.inl ⟨o,aL⟩) ((mF hne rr hpi).bL hpi)) ((mF hne t hp.2).bL hp.2)⟩
   ·cases h
  ·have h':(if x.pure then (do let r <- aCt xs;.ok (x::r)) else .bad)=Res.ok r:=by
    cases x <;> first|exact h|exact absurd ⟨_,rfl⟩ hl
   split at h'
   ·rename_i hp;obtain ⟨r',h1,h2⟩:=aY h';cases h2;obtain ⟨b,ws,g1,g2,g3,⟨k,ys,g5,g6,g7⟩,g4⟩:=aAn h1 t;have hne:∀ob,H' b=some ob->aI7 ob=true:=fun ob z=>by rw [g2] at z;cases z;rfl
    exact ⟨b,ws,g1,g2,by rw [D.aW,Bool.and_eq_true];exact ⟨hp,g3⟩,⟨k+1,ys,by simpa using g5,g6,g7⟩,fun o=>.cons ((JB hne rx hp).bL hp) (g4 o)⟩
   ·cases h'
theorem aG7 (ha:PE X a (gE fa true)):PE X a (gE (aI8 fa) true):=by
 intro pins s σ H Q I ⟨ρ,d,E,h,q⟩;obtain ⟨x,h1,h⟩:=aY h;split at h
 ·rename_i xs;obtain ⟨r,h2,h⟩:=aY h;cases h;refine thn (ha pins s σ H (fun v H'=>cJ H H'/\Rep (New H) H' v (.lst xs)) I ⟨ρ,_,E,h1,fun v H' sm rr n=>⟨sm,n rfl⟩⟩) fun u s' ⟨v,H',I',rv,sm,rn⟩=>?_
  cases rn with
  | @lst a vs _ e p rr=>
   obtain ⟨b,ws,g1,g2,g3,⟨k,ys,g5,g6,g7⟩,g4⟩:=aAn h2 rr;have hab:a≠b:=fun z=>by
    subst z;rw [e] at g2;cases g2;obtain ⟨d,hd,rd⟩:=g6.at g5;have:=List.all_eq_true.mp g7 d (List.mem_of_getElem? hd);cases d <;> first|(cases this;done)|(cases rd;done)
   obtain ⟨o,I2⟩:=M3 I' g2;have s2:cJ H (upd H' b (.frz o (.lst ws))):=fun c oc hc=>by
    rw [bB (fun z=>by subst z;rw [g1] at hc;cases hc)];exact sm c oc hc
   have e2:upd H' b (.frz o (.lst ws)) a=some (.lst vs):=by rw [bB hab];exact e
   exact ⟨.ref a,_,I2,rv,q _ _ s2 (.lst e2 trivial (g4 o).all) fun _=>.lst e2 p (g4 o)⟩
 ·cases h
end
section
variable {X:Cx} {a:Expr} {fa:FE} {ra:Bool} {pos p p1 p2 p3:Pos}
theorem qY (ha:PE X a (gE fa ra)):PE X a (gE (bPu fa) true):=PE.imp ha fun σ H Q ⟨ρ,d,E,h,q⟩=>by
 obtain ⟨x,h1,h⟩:=aY h;split at h
 ·rename_i hp;cases h;exact ⟨ρ,_,E,h1,fun v H' s r _=>q v H' s r fun _=>r.bL hp⟩
 ·cases h
end
section
variable {own:Nat->Bool} {X:Cx} {pos:Pos}
end
end Mi
end
section
namespace Mi
open PySem L2 PySem.SeqAt PySem.Spec PyProof.Rows
noncomputable def CW (i:Nat):FX:=fun ρ=>match ρ.getD i .uD with
 | .lst xs=>(match xs[xs.length-1]? with|some x=>.ok (x,ρ.set i (.lst xs.dropLast))|none=>.bad)
 | _=>.bad
noncomputable def aG8 (f:FX):List D->Res (List D×List D):=fun ρ=>do
 let p <- f ρ
 let r <- jL [p.1]
 .ok (r.1,p.2)
noncomputable def R5 (it:List D->Res (List D×List D)) (t:D->List D->Res (List D)) (body:FS):FS:=fun ρ=>do
 let p <- it ρ
 nC t body p.1 p.2
variable [KFrag]
section
variable {X:Cx} {own:Nat->Bool} {a b e:Expr} {pos:Pos} {ga:FT} {xb:FXT} {xa:FX}
theorem aCw {i:Nat} {x:Str} {p1 apos cpos:Pos} (ho:own i=true) (hN:X.N[i]?=some x) (hv:Vis X.env.scope x) (hd:nDb x:=by decide) (hcd:nCd x:=by decide)
  (hbase:attributeBase (.Name x p1) "pop" X.env (eval (.Name x p1) X.env)=eval (.Name x p1) X.env:=by rfl)
  (hline:(apos.endLine==cpos.line)=true:=by rfl) :
  PE X (.Call (.Attribute (.Name x p1) "pop" apos) [] [] cpos) (gX own (CW i)):=
 PE.imp (aA5 PySem.F.plainAttrs_list PySem.F.slot_list_pop PySem.F.type_list_pop aA6 (cU hN hv hd hcd) hbase hline) fun σ H Q ⟨ρ,d,ρ',E,h,q⟩=>by
 unfold CW at h;split at h
 ·rename_i xs hx;split at h
  ·rename_i dx hdx;cases h;obtain ⟨a,o,hσ,r,hin,ha,hm⟩:=E.ownAt ho (by rw [hx];intro z;cases z);rw [hx] at r hin;obtain ⟨vs,hl,rr⟩:=yK r;obtain ⟨v,hvx,rv⟩:=rr.get hdx;have hlen:=rr.length;refine ⟨_,hσ,.inl ⟨rfl,vs,.of hl⟩,a,vs,v,rfl,rfl,hl,by rw [hlen];exact hvx,?_⟩;have hin':D.aW xs=true:=hin;have pall:∀y∈xs,y.pure=true:=fun y hy=>dZ.mp hin' y hy
   have pdx:d.pure=true:=pall d (List.mem_of_getElem? hdx);have pe:D.aW xs.dropLast=true:=dZ.mpr fun y hy=>pall y (List.dropLast_subset _ hy)
   have er:bR All H vs.dropLast xs.dropLast:=by
    rw [List.dropLast_eq_take,List.dropLast_eq_take,hlen];exact rr.take _
   obtain ⟨E2,k2⟩:=E.mut (o:=.lst vs.dropLast) (d:=.lst xs.dropLast) ho hσ rfl (.lst aL trivial (er.upd pe hl rfl)) pe;have r1:=(bR.cons rv .nil).upd (o:=.lst vs.dropLast) (by rw [D.aW,pdx];rfl) hl rfl;cases r1 with
   | cons r1 _=>exact q _ _ k2 E2 (.set ho) (r1.bL pdx)
  ·cases h
 ·cases h
noncomputable def gIX (K:PySem.W.Frag) (own:Nat->Bool) (f:List D->Res (List D×List D)):TI:=fun σ H R=>∃ρ items ρ',ES own H σ ρ/\f ρ=.ok (items,ρ')/\∀J H1,KU own σ H σ H1->ES own H1 σ ρ'->ItQ K (fun a=>¬Own own σ a) J H1 items->R J H1
theorem aG9 {tg:Expr} {p:Pos} (hg:Gl X "range") (hm:X.mg "range" = none) (ha:PE X a (gX own xa)) (hs:starEach [a] X.env=[(false,eval a X.env)]:=by rfl):PI X tg (.Call (.Name "range" p) [a] [] pos) (gIX X.K own (aG8 xa)):=
 PI.imp (xM hg hm (bG ha iQ hs) hs) fun σ H R ⟨ρ,items,ρ',E,h,q⟩=>by
 obtain ⟨p,h1,h⟩:=aY h;obtain ⟨r,h2,h⟩:=aY h;cases h;refine ⟨ρ,p.1,p.2,E,h1,fun v H1 k1 E1 n1 r1=>?_⟩;unfold jL at h2;split at h2
 ·rename_i n he;split at h2
  ·rename_i hb;cases h2;obtain ⟨b1,b2⟩:=uZ hb;injection he with he _
   rw [he] at r1;cases r1;exact ⟨_,rfl,b1,b2,q _ H1 k1 E1 (.rng 0 _ rfl rfl)⟩
  ·cases h2
 ·cases h2
theorem aGa {tg iter:Expr} {body:List Stmt} {g:TG} {t:D->List D->Res (List D)} {it:List D->Res (List D×List D)} {fb:FS} (hp:PassesOwn (model X.prog X.w) X.A X.env X.xe) (hc:X.calm=true) (hi:PI X tg iter (gIX X.K own it)) (ht:TgS own g t) (hg:PG X tg g) (hb:PSs X body (tS own fb))
  (hs:∀x,foldedSetIterable iter X.env x=pure x:=by intro _;rfl):PS X (.For tg iter body [] pos) (tS own (R5 it t fb)):=PS.imp (G3 hp hc hi hg hb hs) fun D' σ H ⟨ρ,fl,E,h,q⟩=>by
 obtain ⟨⟨items,ρ1⟩,h1,h2⟩:=aY h;exact ⟨ρ,items,ρ1,E,h1,fun J H1 k1 E1 hJ=>v6 ht E1 hJ h2 (q.step k1)⟩
end
end Mi
end
section
namespace Mi
open PySem L2 PySem.SeqAt PySem.Spec PyProof.Rows
noncomputable def bOw (i:Nat):FE:=fun ρ=>do
 let d <- cL i ρ
 if d.G9 then .ok d else .bad
noncomputable def vA (f:FA):FS:=fun ρ=>do
 let ds <- f ρ
 if decide (ds.length<=lim) then .ok (.rt (.tup (.lst ds::ρ))) else .bad
noncomputable def CZ (f:FX) (is:List Nat):FS:=fun ρ=>do
 let p <- f ρ
 match p.1 with
 | .lst xs=>if decide (xs.length=is.length) then .ok (.nx (vN is xs p.2)) else .bad
 | _=>.bad
variable [KFrag]
section
variable {prog:Program} {w:World} {A:Around} {E:Value->Shared->Prop} {s:Shared}
theorem yW {it t:Addr} {items:Array Value} (hne:t≠it):∀(n i:Nat) (s:Shared) (Q:List Value->Shared->Prop),s.heap.IsListIter it t i->s.heap.IsList t items->i+n<=items.size->
  (∀h',h'.IsListIter it t (i+n)->Heap.SameBut it s.heap h'->Q ((items.toList.drop i).take n) {s with heap:=h'})->wpAny (model prog w) A (draw (.ref it) n) Q E s
 | 0,i,s,Q,hit,_,_,hQ=>by
  show wpAny _ _ (pure []) Q E s;exact wpAny_pure (by simpa using hQ s.heap hit (Heap.SameBut.refl ..))
 | n+1,i,s,Q,hit,ht,hle,hQ=>by
  have hlt:i<items.size:=by lia
  have keep:∀{h h':Heap},h.IsList t items->Heap.SameBut it h h'->h'.IsList t items:=fun {h h'} ⟨o,e,r⟩ sb=>⟨o,(sb.2 t hne).trans e,r⟩
  show wpAny _ _ (pyNext (.ref it) >>= _) Q E s;refine wpAny_bind (wpAny_pyNext_list_item hit ht (x:=items[i]) (by simp [hlt]) fun h₁ hit₁ hs₁=>?_);refine wpAny_bind (wpAny_holding (yW hne n (i+1) _ _ hit₁ (keep ht hs₁) (by lia) fun h₂ hit₂ hs₂=>wpAny_pure ?_));have hd:items.toList.drop i=items[i]::items.toList.drop (i+1):=by simp [List.drop_eq_getElem_cons,hlt]
  have:=hQ h₂ (by rw [show i+(n+1)=i+1+n by lia];exact hit₂) (hs₁.trans hs₂);rw [hd,List.take_succ_cons] at this;exact this
theorem C_ {t:Addr} {items:Array Value} {targets:List (Bool×(Value->Sem Unit))} {Q:Unit->Shared->Prop} (hh:A.handled=none) (ht:s.heap.IsList t items)
  (hn:targets.length=items.size) (hstar:targets.findIdx? (·.1)=none)
  (h:∀h',Heap.ExtBut s.heap.objs.size s.heap h'->wpAny (model prog w) A (assignInOrder (targets.map (·.2)) items.toList) Q E {s with heap:=h'}) :
  wpAny (model prog w) A (unpack (.ref t) targets) Q E s:=by
 have hlt:t≠s.heap.objs.size:=by obtain ⟨o,ho,_⟩:=ht;exact Nat.ne_of_lt (Heap.lt_size ho)
 have push:∀o,(s.heap.push o).IsList t items:=fun o=>let ⟨o',e,r⟩:=ht;⟨o',Heap.get?_push_of_some _ e,r⟩
 unfold unpack;rw [hn,hstar];refine wpAny_bind (wpAny_holding ?_);unfold unpackItems;refine wpAny_bind ?_;unfold notIterableAtAll;refine wpAny_bind (wpAny_specialOf ht.typeIs PySem.F.slot_list_iter.lookup ?_);refine wpAny_pure ?_;simp only [Bool.false_eq_true,if_false];refine wpAny_bind (wpAny_holding (wpAny_pyIter_list ht ?_));refine wpAny_bind (wpAny_holding (yW hlt items.size 0 _ _ ⟨_,Heap.get?_push_size _ rfl,rfl,rfl⟩ (push _) (by lia) fun h₁ hit₁ hs₁=>?_));have hall:List.take items.size (List.drop 0 items.toList)=items.toList:=by
  rw [List.drop_zero];exact List.take_of_length_le (by simp)
 rw [hall];rw [if_neg (by simp)];have ht₁:h₁.IsList t items:=let ⟨o,e,r⟩:=push {cls:=.type "list_iterator",data:=.fields #[.ref t,.int 0 0]};⟨o,(hs₁.2 t hlt).trans e,r⟩
 refine wpAny_bind (wpAny_holding (wpAny_pyNext_list_end hh hit₁ ht₁ (by simp) fun h₂ he₂=>?_));simp only [Option.isSome_none,Bool.false_eq_true,if_false];exact wpAny_pure (h h₂ fun b o hb e=>he₂ b o hb (hs₁.extBut b o hb (Heap.get?_push_of_some _ e)))
end
section
variable {X:Cx} {own:Nat->Bool} {e:Expr} {pos pos':Pos} {fe:FE} {re:Bool} {xe:FX}
noncomputable def aCx (K:PySem.W.Frag) (n:Nat) (t:TGs):TG:=fun v σ H Q=>∃a xs,v=.ref a/\SqL K H a xs/\xs.length=n/\t xs σ H Q
theorem DG {es:List Expr} {k:Nat} {t:TGs} {n:Nat} (hc:X.calm=true) (h:PGs X es t)
  (hn:(assignEach es X.env).length=n:=by rfl) (hst:(assignEach es X.env).findIdx? (·.1)=none:=by rfl):PG X (.Tuple es k pos) (aCx X.K n t):=by
 intro pins s σ H v u Q I r hw;obtain ⟨a,xs,e1,hq,hl,hw⟩:=hw;subst e1;cases r;obtain ⟨its,rv,ht,hz⟩:=I.list hq;rw [assign_Tuple];refine wpAny_bind (wpAny_standAt (C_ (I.ok.hd hc) ht.isList (by simp [hn,<-hl,rv.length]) hst fun h' hx=>?_));have I1:Inv X pins σ H {s with heap:=h'}:=I.kept (t':=s.toks) fun b o e=>hx b o (Nat.ne_of_lt (Heap.lt_size e)) e
 exact h pins _ σ H xs _ Q I1 (by simpa using rv) hw
noncomputable def RP (own:Nat->Bool) (σ:L2.St) (H:Hp) (ρ:List D) (a:Addr):Prop:=(Own own σ a\/H a=none)/\∀i b xs,ρ.getD i .uD=.cel b xs->a≠b
theorem RP.same {σ:L2.St} {H H':Hp} {ρ:List D} {a:Addr} (s:cJ H H') (h:RP own σ H' ρ a):RP own σ H ρ a:=⟨h.1.imp id s.free,h.2⟩
theorem aAo {σ:L2.St} {H:Hp} {ρ:List D} {a:Addr} (E:ES own H σ ρ) (h:H a=none):RP own σ H ρ a:=⟨.inr h,fun i b xs hb z=>by
 obtain ⟨vs,_,e⟩:=kI E hb;subst z;rw [h] at e;cases e⟩
noncomputable def gAR (own:Nat->Bool) (f:FA):TA:=fun σ H Q=>∃ρ ds,ES own H σ ρ/\f ρ=.ok ds/\∀vs H',cJ H H'->bR (RP own σ H ρ) H' vs ds->Q vs H'
theorem aAp:PA X [] (gAR own aP):=PA.imp iQ fun σ H Q ⟨ρ,ds,E,h,q⟩=>by cases h;exact q [] H (cJ.refl H) .nil
theorem JG {i:Nat} {x:Str} {es:List Expr} {f:FA} (ho:own i=true) (hN:X.N[i]?=some x) (hv:Vis X.env.scope x) (hes:PA X es (gAR own f)) (hd:nDb x:=by decide) (hcd:nCd x:=by decide) (hs:starEach (.Name x pos::es) X.env=(false,eval (.Name x pos) X.env)::starEach es X.env:=by rfl):PA X (.Name x pos::es) (gAR own (aB (bOw i) f)):=PA.imp (bG (cU hN hv hd hcd) hes hs) fun σ H Q ⟨ρ,ds,E,h,q⟩=>by
 obtain ⟨y,h1,h⟩:=aY h;obtain ⟨xs,h2,h⟩:=aY h;cases h;obtain ⟨d,h3,h1⟩:=aY h1;split at h1
 ·rename_i hc;cases h1;obtain ⟨v,hv,r,e⟩:=E.er.var h3;obtain ⟨a,o,rfl,r2,hin,_,_,huq⟩:=E.own i v ho hv;rw [e] at hin;have hp:RP own σ H ρ a:=⟨.inl ⟨i,ho,hv⟩,fun j b xs hb z=>by
   obtain ⟨vs,hj,eb⟩:=kI E hb;subst z;cases hoj:own j with
   | true=>
    have:=huq j hoj hj;subst this;rw [hb] at e;subst e;cases hc
   | false=>
    obtain ⟨w,hw,hr⟩:=E.at_ j (by rw [hb];intro z;cases z);have r3:=hr hoj;rw [hb] at r3;cases r3 with
    | cel e p r=>exact p ⟨i,ho,hv⟩⟩
  exact ⟨_,hv,ρ,xs,E,h2,fun vs H2 s2 r2=>q _ _ s2 (.cons ((r.oN hin hp).same s2) r2)⟩
 ·cases h1
theorem aGb {es:List Expr} {f:FA} (he:PE X e (gE fe true)) (hes:PA X es (gAR own f)) (hs:starEach (e::es) X.env=(false,eval e X.env)::starEach es X.env:=by rfl):PA X (e::es) (gAR own (aB fe f)):=PA.imp (bG he hes hs) fun σ H Q ⟨ρ,ds,E,h,q⟩=>by
 obtain ⟨y,h1,h⟩:=aY h;obtain ⟨xs,h2,h⟩:=aY h;cases h;exact ⟨ρ,_,E.er,h1,fun v H1 s1 r1 n1=>⟨ρ,xs,E.same s1,h2,fun vs H2 s2 r2=>q _ _ (s1.trans s2) (.cons (((n1 rfl).mono fun a ha=>aAo E ha).same s2) (r2.mono fun a ha=>ha.same s1))⟩⟩
theorem JH {es:List Expr} {f:FA} (h:PA X es (gAR own f)) (hx:own rtX=true:=by rfl):PS X (.Return (some (.List es pos')) pos) (tS own (vA f)):=PS.imp (uQ (aA3 h)) fun D σ H ⟨ρ,fl,E,h,q⟩=>by
 obtain ⟨ds,h1,h2⟩:=aY h;split at h2
 ·rename_i hl;cases h2;refine ⟨ρ,ds,E,h1,fun vs H1 s1 r1=>⟨by rw [r1.length];exact lF hl,fun p hp=>?_⟩⟩;have s2:cJ H1 (upd H1 p (.lst vs)):=cJ.upd hp;have hpH:H p=none:=s1.free hp;exact kRt.new q hx _ σ _ (.same (s1.trans s2)) (E.same (s1.trans s2)) (.lst aL (aAo E hpH) (r1.same s2))
 ·cases h2
theorem aAq {es:List Expr} {k:Nat} {is:List Nat} {pt:Pos} (ho:∀i∈is,own i=false) (he:PE X e (gX own xe)) (hg:PG X (.Tuple es k pt) (aCx X.K is.length (gIx is))) (hs:swapsWithSole [.Tuple es k pt] e pos.line X.env=pure false:=by rfl) (hw:swappedStores [.Tuple es k pt] e X.env=pure none:=by rfl)
  (h1:(assignEach [.Tuple es k pt] X.env).map (·.2)=[assign (.Tuple es k pt) X.env]:=by rfl):PS X (.Assign [.Tuple es k pt] e pos) (tS own (CZ xe is)):=PS.imp (aA0 he hg hs hw h1) fun D' σ H ⟨ρ,fl,E,h,q⟩=>by
 obtain ⟨p,h1,h2⟩:=aY h;refine ⟨ρ,p.1,p.2,E,h1,fun v H1 k1 E1 n1 r=>?_⟩;split at h2
 ·rename_i xs hxs;split at h2
  ·rename_i hl;cases h2;have hl':=of_decide_eq_true hl;rw [hxs] at r;have r2:=CJ E r;obtain ⟨a,vs,rfl,sq,rr⟩:=r2.gM (K:=X.K);refine ⟨a,vs,rfl,sq,by rw [rr.length];exact hl',vW _ _ _ (by rw [rr.length];exact hl') ?_⟩;obtain ⟨E2,hO⟩:=ES.sets ho E1 rr;exact q _ H1 (k1.trans fun a o e n=>⟨e,by rw [hO];exact n⟩) E2
  ·cases h2
 ·cases h2
end
end Mi
end
section
namespace Mi
open PySem PySem.Spec
namespace Rv
theorem M4:typeLookup (.type "tuple") "__reversed__" = pure none:=by rw [typeLookup_type,builtinLookup_eq_fast];kernel_rfl
theorem M5:typeLookup (.type "reversed") "__len__" = pure none:=by rw [typeLookup_type,builtinLookup_eq_fast];kernel_rfl
theorem slot_next:Slot "reversed" "__next__" "reversed.__next__":=
 .of (owner := "reversed") (n := "__next__") (by rw [typeLookup_type,builtinLookup_eq_fast];kernel_rfl) (by decide +kernel) (by decide +kernel) (by decide +kernel)
  (by first|exact .inl (by decide +kernel)|exact .inr (by decide +kernel)) (by rw [isSubtype_type];kernel_rfl)
theorem sZ:Slot "reversed" "__length_hint__" "reversed.__length_hint__":=
 .of (owner := "reversed") (n := "__length_hint__") (by rw [typeLookup_type,builtinLookup_eq_fast];kernel_rfl) (by decide +kernel) (by decide +kernel) (by decide +kernel)
  (by first|exact .inl (by decide +kernel)|exact .inr (by decide +kernel)) (by rw [isSubtype_type];kernel_rfl)
theorem yX:Slot "reversed" "__iter__" "reversed.__iter__":=
 .of (owner := "reversed") (n := "__iter__") (by rw [typeLookup_type,builtinLookup_eq_fast];kernel_rfl) (by decide +kernel) (by decide +kernel) (by decide +kernel)
  (by first|exact .inl (by decide +kernel)|exact .inr (by decide +kernel)) (by rw [isSubtype_type];kernel_rfl)
theorem entry_next:entryFor table "reversed.__next__" = some Builtin.«reversed.__next__»:=entryFor_of_tree (by kernel_rfl)
theorem M6:entryFor table "reversed.__length_hint__" = some Builtin.«reversed.__length_hint__»:=entryFor_of_tree (by kernel_rfl)
theorem M7:entryFor table "reversed.__iter__" = some Builtin.«dict_keyiterator.__iter__»:=
 entryFor_alias (id' := "dict_keyiterator.__iter__") (by kernel_rfl) (by first|rfl|decide +kernel|(unfold String.splitOn;simp +decide [String.splitOnAux])) (by decide +kernel) (by kernel_rfl)
theorem owner:Manifest.owners.lookup (String.ofList ['d','e','s','r','e','v','e','r'].reverse)=some Manifest.sig_reversed:=by kernel_rfl
theorem args_next (a:Value):argsOk "reversed.__next__" ⟨[a],[]⟩:=by
 unfold argsOk;rw [signature?_of (id := "reversed.__next__") (n:=['_','_','t','x','e','n','_','_']) (o:=['d','e','s','r','e','v','e','r']) (by kernel_rfl) owner];kernel_rfl
theorem R6 (a:Value):argsOk "reversed.__iter__" ⟨[a],[]⟩:=by
 unfold argsOk;rw [signature?_of (id := "reversed.__iter__") (n:=['_','_','r','e','t','i','_','_']) (o:=['d','e','s','r','e','v','e','r']) (by kernel_rfl) owner];kernel_rfl
theorem R7 (a:Value):argsOk "reversed.__length_hint__" ⟨[a],[]⟩:=by
 unfold argsOk;rw [signature?_of (id := "reversed.__length_hint__") (n:=['_','_','t','n','i','h','_','h','t','g','n','e','l','_','_']) (o:=['d','e','s','r','e','v','e','r']) (by kernel_rfl) owner];kernel_rfl
theorem R8:Slot "reversed" "__init__" "object.__init__":=
 .of (owner := "object") (n := "__init__") (by rw [typeLookup_type,builtinLookup_eq_fast];kernel_rfl) (by decide +kernel) (by decide +kernel) (by decide +kernel)
  (by first|exact .inl (by decide +kernel)|exact .inr (by decide +kernel)) (by rw [isSubtype_type];kernel_rfl)
theorem called:TypeCalled "reversed" "reversed.__new__" "object.__init__":=
 ⟨by decide +kernel,by decide +kernel,⟨_,_,PySem.F.mro_reversed⟩,PySem.F.made_reversed,by decide +kernel,by rw [isSubtype_type];kernel_rfl,R8⟩
noncomputable def obj (t:Addr) (i:Int):Obj:={cls:=.type "reversed",data:=.fields #[.ref t,rawInt i]}
theorem R9 (t:Addr) (items:Array Value) (n:Nat) (dct:Option Addr) (sl:Array (Option Value)) (hz:(items.size:Int)<2 ^ 62) :
  Meets (Builtin.«reversed.__new__» ⟨[.type "reversed",.ref t],[]⟩) (fun _ R s=>s.heap.get? t=some {cls:=.type "tuple",dict:=dct,data:=.seq items n,slots:=sl}/\
   ∀tk,R (.ok (.ret (.ref s.heap.objs.size))) {s with heap:=s.heap.push (obj t ((items.size:Int)-1)),toks:=tk}):=
 .of_wp fun prog w A R s h=>by
  obtain ⟨hp,g,d,tk,os⟩:=s;obtain ⟨hl,h⟩:=h;have hT:(Shared.mk hp g d tk os).TypeIs (.ref t) "tuple":=⟨_,hl,rfl⟩
  unfold Builtin.«reversed.__new__»;refine wpAny_bind (wpAny_of_eq (newClass_reversed _) ?_)
  try dsimp only
  refine wpAny_bind (wpAny_of_eq (a:=()) (by first|rfl|kernel_rfl) ?_);refine wpAny_bind (wpAny_of_eq (a:=()) (by first|rfl|kernel_rfl) ?_)
  try dsimp only
  refine wpAny_bind (wpAny_specialOf hT M4 ?_)
  try dsimp only
  refine wpAny_bind ?_;refine wpAny_bind (wpAny_isInstance (T := "tuple") (b:=false) hT (by rw [isSubtype_type];kernel_rfl) ?_);refine wpAny_ite_split (fun hab=>absurd hab (by decide)) (fun _=>?_);refine wpAny_bind (wpAny_specialOf hT PyProof.Rows.slot_tuple_getitem.lookup ?_);dsimp only;rw [if_pos (by decide +kernel)];refine wpAny_pure ?_;rw [if_neg (by decide)];refine wpAny_bind (PyProof.Rows.len_tuple (items:=items) ⟨_,hl,rfl,n,rfl⟩ (by lia) ?_);refine wpAny_bind (wpAny_of_eq (a:=some (items.size:Int)) rfl ?_);dsimp only;refine wpAny_bind ?_;unfold Builtin.SmallTypes.newRecord;exact wpAny_newObj_type (wpAny_pure ⟨_,rfl,h _⟩)
theorem YL {prog:Program} {w:World} {A:Around} {E:Value->Shared->Prop} {s:Shared} {t:Addr} {items:Array Value} {Q:Value->Shared->Prop} (hL:s.heap.IsTuple t items) (hz:(items.size:Int)<2 ^ 62)
  (h:∀tk,Q (.ref s.heap.objs.size) {s with heap:=s.heap.push (obj t ((items.size:Int)-1)),toks:=tk}):wpAny (model prog w) A (call (.type "reversed") [.ref t]) Q E s:=by
 obtain ⟨⟨c,dct,dt,sl⟩,hl,hc,n,hd⟩:=hL;replace hc:c=.type "tuple":=hc;replace hd:dt=.seq items n:=hd;subst hc hd;refine callType_new called (by decide) (PySem.F.typeCall_reversed_1 _) (PySem.F.newCall_reversed_1 _) (fun obj=>PySem.F.args_object_init_2 obj _) PySem.F.entry_reversed_new (R9 t items n dct sl hz) ⟨hl,fun tk=>⟨⟨_,Heap.get?_push_size _ rfl,rfl⟩,h tk⟩⟩
noncomputable def Is (h:Heap) (a t:Addr) (i:Int):Prop:=∃o,h.get? a=some o/\o.cls=.type "reversed"/\o.data=.fields #[.ref t,rawInt i]
theorem Is.ty {s:Shared} {a t:Addr} {i:Int} (x:Is s.heap a t i):s.TypeIs (.ref a) "reversed":=let ⟨o,ho,hc,_⟩:=x;⟨o,ho,hc⟩
theorem Is.at {h h':Heap} {a t:Addr} {i:Int} (x:Is h a t i) (e:∀o,h.get? a=some o->h'.get? a=some o):Is h' a t i:=let ⟨o,ho,r⟩:=x;⟨o,e o ho,r⟩
section
variable {prog:Program} {w:World} {A:Around} {E:Value->Shared->Prop} {s:Shared}
theorem next_item {it t:Addr} {i:Nat} {items:Array Value} {x:Value} {Q:Option Value->Shared->Prop} (hit:Is s.heap it t (i:Int)) (hl:s.heap.IsTuple t items) (hx:items[i]?=some x) (hz:(items.size:Int)<2 ^ 62)
  (hQ:∀h' tk,Is h' it t ((i:Int)-1)->Heap.SameBut it s.heap h'->Q (some x) {s with heap:=h',toks:=tk}):wpAny (model prog w) A (pyNext (.ref it)) Q E s:=by
 obtain ⟨o,ho,hc,hd⟩:=id hit;have hi:i<items.size:=(Array.getElem?_eq_some_iff.mp hx).1;unfold pyNext;refine wpAny_bind (wpAny_attempt (wpAny_callSpecial?_slot (name:=Str.ofString "__next__") hit.ty slot_next
  (wpAny_call_entry slot_next hit.ty entry_next ?_ (args_next _))))
 unfold Builtin.«reversed.__next__»;refine wpAny_bind (wpAny_of_eq (a:=(Value.ref it,[])) rfl ?_)
 try dsimp only
 refine wpAny_bind (wpAny_field ho hd (x:=.ref t) rfl ?_);refine wpAny_bind (wpAny_field ho hd (x:=rawInt (i:Int)) rfl ?_);show wpAny _ _ (if (i:Int)<0 then _ else _) _ _ s;rw [if_neg (by lia)];refine wpAny_bind (wpAny_specialOf hl.typeIs PyProof.Rows.slot_tuple_getitem.lookup ?_);rw [if_neg (by simp)];refine wpAny_bind (wpAny_mkInt ?_);refine wpAny_bind (wpAny_attempt (PyProof.Rows.getItem_tuple (items:=items) (j:=i) (x:=x) hl (by lia) (by lia) (by unfold seqIndex?;simp;lia) hx ?_));dsimp only;refine wpAny_bind (wpAny_field ho hd (x:=rawInt (i:Int)) rfl ?_);show wpAny _ _ (setField (.ref it) 1 (rawInt ((i:Int)-1)) >>= _) _ _ _;refine wpAny_bind (wpAny_setField ho hd (by simp) ?_);refine wpAny_pure ⟨x,rfl,wpAny_pure (hQ _ _ ?_ (Heap.SameBut.update ..))⟩;exact ⟨_,Heap.get?_update_self _ ho (Obj.isFreed_of_fields (Obj.data_mapFields hd _)),(Obj.cls_mapFields ..).trans hc,by
  rw [Obj.data_mapFields hd];simp⟩
theorem next_end {it t:Addr} {Q:Option Value->Shared->Prop} (hh:A.handled=none) (hit:Is s.heap it t (-1))
  (hQ:∀h',Heap.ExtBut it s.heap h'->Q none {s with heap:=h'}):wpAny (model prog w) A (pyNext (.ref it)) Q E s:=by
 obtain ⟨o,ho,hc,hd⟩:=id hit;unfold pyNext;refine wpAny_bind (wpAny_attempt (wpAny_callSpecial?_slot (name:=Str.ofString "__next__") hit.ty slot_next
  (wpAny_call_entry slot_next hit.ty entry_next ?_ (args_next _))))
 unfold Builtin.«reversed.__next__»;refine wpAny_bind (wpAny_of_eq (a:=(Value.ref it,[])) rfl ?_)
 try dsimp only
 refine wpAny_bind (wpAny_field ho hd (x:=.ref t) rfl ?_);refine wpAny_bind (wpAny_field ho hd (x:=rawInt (-1)) rfl ?_);show wpAny _ _ (if (-1:Int)<0 then _ else _) _ _ s;rw [if_pos (by decide)];refine wpAny_bind (wpAny_rule ?_);refine wpAny_bind ?_;refine wpAny_bind (wpAny_setField ho hd (by simp) ?_);have h1:=Heap.get?_update_self (h:=s.heap) (a:=it) (Obj.mapFields (·.set! 1 (rawInt (-1)))) ho (Obj.isFreed_of_fields (Obj.data_mapFields hd _));have hd1:(Obj.mapFields (·.set! 1 (rawInt (-1))) o).data=.fields #[.ref t,rawInt (-1)]:=by rw [Obj.data_mapFields hd];simp
 refine wpAny_setField h1 hd1 (by simp) ?_;refine wpAny_bind ?_;unfold Builtin.SmallTypes.stopIteration;simp only [newExc,newTuple];refine wpAny_bind ?_;refine wpAny_bind (wpAny_newObj_type ?_ (by size_fits));refine wpAny_bind (m:=firstArgMember _ _) (wpAny_of_eq (a:=Value.none) (by first|rfl|(simp only [firstArgMember];rfl)) ?_);refine wpAny_newObj_type ?_ (by size_fits);simp only [raiseNew];refine wpAny_bind (wpAny_handled ?_)
 first|rw [show A.in1.handled=none from hh]|rw [hh]
 refine wpAny_bind (wpAny_pure (wpAny_throw ?_));refine wpAny_bind (wpAny_isInstance (T := "StopIteration") (b:=true) ⟨_,Heap.get?_push_size _ rfl,rfl⟩ isSubtype_stop ?_);exact wpAny_pure (hQ _ ((((Heap.SameBut.update ..).trans (Heap.SameBut.update ..)).extBut.push _).push _))
theorem yZ {it t:Addr} {i:Int} {Q:Value->Shared->Prop} (hit:Is s.heap it t i) (h:Q (.ref it) s):wpAny (model prog w) A (pyIter (.ref it)) Q E s:=by
 refine wpAny_pyIter_slot hit.ty yX (wpAny_call_entry yX hit.ty M7 ?_ (R6 _));show wpAny _ _ (ret (.ref it)) _ _ s;exact wpAny_pure ⟨_,rfl, "reversed",_,hit.ty,slot_next.lookup,h⟩
end
theorem walks {prog:Program} {w:World} {A:Around} (hh:A.handled=none) (I l:Addr) (hne:l≠I) (items:Array Value) (hz:(items.size:Int)<2 ^ 62) :
  Walks prog w A I [I,l] [I] items.size (fun i v=>items[items.size-1-i]?=some v) (fun i h=>i<=items.size/\Is h I l ((items.size:Int)-1-(i:Int))/\h.IsTuple l items) where
 sub:=fun b hb=>by simp at hb;simp [hb]
 frame:=fun _ _ _ x hk=>⟨x.1,x.2.1.at fun o e=>hk I (by simp) o e,let ⟨o,e,r⟩:=x.2.2;⟨o,hk l (by simp) o e,r⟩⟩
 item:=fun i s Q E hi x hQ=>by
  have e:(items.size:Int)-1-(i:Int)=((items.size-1-i:Nat):Int):=by lia
  have hit:=x.2.1;rw [e] at hit;have hx:items[items.size-1-i]?=some (items[items.size-1-i]'(by lia)):=Array.getElem?_eq_getElem (by lia);refine next_item hit x.2.2 hx hz fun h' tk hit' hs'=>?_
  have e2:((items.size-1-i:Nat):Int)-1=(items.size:Int)-1-((i+1:Nat):Int):=by lia
  rw [e2] at hit';exact hQ _ h' tk hx ⟨hi,hit',let ⟨o,eo,r⟩:=x.2.2;⟨o,(hs'.2 l hne).trans eo,r⟩⟩ fun b o hb eo=>hs'.extBut b o (fun h=>hb (by simp [h])) eo
 done:=fun s Q E x hQ=>by
  have e:(items.size:Int)-1-(items.size:Int)=-1:=by lia
  have hit:=x.2.1;rw [e] at hit;exact next_end hh hit fun h' he'=>hQ h' s.toks fun b o hb eo=>he' b o (fun h=>hb (by simp [h])) eo
 self:=fun _ _ _ _ x hQ=>yZ x.2.1 hQ
section
variable {prog:Program} {w:World} {A:Around} {E:Value->Shared->Prop} {s:Shared}
theorem hint {I l:Addr} {items:Array Value} {Q:Bool->Shared->Prop} (hit:Is s.heap I l ((items.size:Int)-1)) (hl:s.heap.IsTuple l items) (hz:items.size<=sizeLine) (h:∀b tk,Q b {s with toks:=tk}):wpAny (model prog w) A (Builtin.List.listLengthHint (.ref I)) Q E s:=by
 unfold Builtin.List.listLengthHint;refine wpAny_bind (wpAny_specialOf hit.ty M5 ?_);dsimp only;refine wpAny_ite_split (fun hab=>absurd hab (by decide +kernel)) (fun _=>?_);rw [if_neg (by simp)];refine wpAny_bind (wpAny_specialOf hit.ty sZ.lookup ?_);generalize hid:("reversed.__length_hint__" : String)=id0
 wp_delta
 rw [show splitId id0=some ("reversed", "__length_hint__") from by subst hid;decide +kernel];subst hid;refine wpAny_bind (wpAny_isInstance (T := "reversed") (b:=true) hit.ty PySem.F.sub_reversed_self ?_);refine wpAny_ite_split (fun hab=>absurd hab (by decide)) (fun _=>?_);refine wpAny_ite_split (fun hab=>absurd hab (by decide +kernel)) (fun _=>?_);refine wpAny_bind (wpAny_rule ?_);refine wpAny_bind (wpAny_of_eq (sZ.bind _) ?_);refine wpAny_bind (wpAny_attempt (wpAny_call_entry sZ hit.ty M6 ?_ (R7 _)));obtain ⟨o,ho,hc,hd⟩:=id hit;unfold Builtin.«reversed.__length_hint__»;refine wpAny_bind (wpAny_of_eq (a:=Value.ref I) rfl ?_);refine wpAny_bind (wpAny_field ho hd (x:=.ref l) rfl ?_);rw [if_neg (show ¬((Value.ref l==Value.none)=true) from Bool.false_ne_true)];rw [sizeLine_eq] at hz;refine wpAny_bind (PyProof.Rows.len_tuple (items:=items) hl (by lia) ?_);refine wpAny_bind (wpAny_of_eq (a:=some (items.size:Int)) rfl ?_);dsimp only;refine wpAny_bind (wpAny_field ho hd (x:=rawInt ((items.size:Int)-1)) rfl ?_);show wpAny _ _ (if (items.size:Int)<(items.size:Int)-1+1 then _ else _) _ _ _;rw [if_neg (by lia)];refine wpAny_bind (wpAny_mkInt (wpAny_pure ⟨_,rfl,?_⟩));dsimp only;refine wpAny_bind (wpAny_of_eq (a:=some ((items.size:Int)-1+1)) rfl ?_);dsimp only;rw [if_neg (by simp only [Builtin.List.listFitsIndex,Bool.not_eq_true',Bool.not_eq_false,Bool.and_eq_true,decide_eq_true_eq];lia),if_neg (by lia),if_neg (by simp only [Builtin.List.listTooLong,decide_eq_true_eq,sizeLine_eq];lia)];exact wpAny_pure (h _ _)
theorem extend {R:Result->Shared->Prop} {I l:Addr} {items:Array Value} (hh:A.handled=none) (hit:Is s.heap I l ((items.size:Int)-1)) (hl:s.heap.IsTuple l items) (hIl:l≠I) (S:Addr) (hSr:S≠I) (hSd:S≠l) (res:Value) (c₀:Nat) (hS:s.heap.get? S=some {cls:=.type "list",data:=.seq #[] c₀})
  (hR:∀h' tk acc' c',(∀b o,b≠S->b≠I->s.heap.get? b=some o->h'.get? b=some o)->h'.get? S=some {cls:=.type "list",dict:=none,data:=.seq acc' c',slots:=#[]}->ItemsOf (fun i v=>items[items.size-1-i]?=some v) acc' items.size->R (.ok (.ret res)) {s with heap:=h',toks:=tk}) (hn:items.size<=sizeLine) :
  wpAny (model prog w) A.in1 (Builtin.List.listExtendWith (.ref S) (.ref I) res)
   (fun fin s'=>match fin with|.done f=>R (.ok f) s'|.again c'=>c'.quiet=true/\codeAny (model prog w) A c' R s') (fun e s'=>R (.error e) s') s:=by
 have hz:(items.size:Int)<2 ^ 62:=by rw [sizeLine_eq] at hn;lia
 have W:=walks (prog:=prog) (w:=w) (A:=A.in1) hh I l hIl items hz;have hSf:S∉[I,l]:=by simp only [List.mem_cons,List.not_mem_nil,or_false,not_or];exact ⟨hSr,hSd⟩
 have st0:∀{h:Heap},Is h I l ((items.size:Int)-1)->h.IsTuple l items->0<=items.size/\Is h I l ((items.size:Int)-1-((0:Nat):Int))/\h.IsTuple l items:=fun {h} a b=>⟨Nat.zero_le _,by simpa using a,b⟩
 have key:∀(h:Heap) (c₁ tk:Nat),Is h I l ((items.size:Int)-1)->h.IsTuple l items->(∀b o,b≠S->s.heap.get? b=some o->h.get? b=some o)->
   h.get? S=some {cls:=.type "list",data:=.seq #[] c₁}->codeAny (model prog w) A (.builtin "list.extend.loop" ⟨[.ref S,.ref I,res],[]⟩) R {s with heap:=h,toks:=tk}:=by
  intro h c₁ tk h1 h2 hk hS₁;refine codeAny_extend_loopS W.toS hn S hSf res items.size 0 _ #[] c₁ rfl (Nat.zero_le _) (st0 h1 h2) hS₁ (ItemsOf.nil _) fun s' acc' c' hm hS' hacc=>?_
  rw [Moved.eq_with hm];refine hR s'.heap s'.toks acc' c' (fun b o hb hbI e=>hm.heap b o (fun hmem=>?_) (hk b o hb e)) hS' hacc;rcases List.mem_cons.mp hmem with e'|hmem
  ·exact hb e'
  ·exact hbI (List.mem_singleton.mp hmem)
 unfold Builtin.List.listExtendWith;refine wpAny_bind (wpAny_typeOf (T := "reversed") hit.ty ?_);have h1:Builtin.List.listSameRef (.ref S) (.ref I)=false:=by simp [Builtin.List.listSameRef,hSr]
 have n1:(Value.type "reversed" == Value.type "list")=false:=by decide
 have n2:(Value.type "reversed" == Value.type "tuple")=false:=by decide
 simp only [h1,n1,n2,Bool.or_false,Bool.false_eq_true,if_false];refine wpAny_bind (yZ hit ?_);refine wpAny_bind (wpAny_holding (hint hit hl hn fun b tk=>?_));refine wpAny_ite_split (fun _=>?_) (fun _=>wpAny_pure ⟨plainId_quiet PySem.F.plain_extend_loop _,key _ c₀ _ hit hl (fun b o _ e=>e) hS⟩);refine wpAny_bind (wpAny_rule ?_);refine wpAny_bind ?_;show wpAny _ _ (updateSeq S (·.push .none) >>= fun _=>updateSeq S (·.pop)) _ _ _;refine wpAny_bind (wpAny_updateSeq hS rfl ?_);have hS₂:=Heap.get?_update_self (Obj.mapSeq (·.push Value.none)) hS rfl;refine wpAny_updateSeq (hz:=by seq_fits) hS₂ rfl ?_;have hS₃:=Heap.get?_update_self (Obj.mapSeq (·.pop)) hS₂ rfl;have oth:∀b o,b≠S->s.heap.get? b=some o->((s.heap.update S (Obj.mapSeq (·.push Value.none))).update S (Obj.mapSeq (·.pop))).get? b=some o:=fun b o hb e=>(Heap.get?_update_other _ _ (Ne.symm hb)).trans ((Heap.get?_update_other _ _ (Ne.symm hb)).trans e)
 refine wpAny_pure ⟨plainId_quiet PySem.F.plain_extend_loop _,key _ _ _ (hit.at fun o e=>oth I o (Ne.symm hSr) e) (let ⟨o,e,r⟩:=hl;⟨o,oth l o (Ne.symm hSd) e,r⟩) (fun b o hb e=>oth b o hb e) hS₃⟩
theorem init {R:Result->Shared->Prop} {I l:Addr} {items:Array Value} (hh:A.handled=none) (hit:Is s.heap I l ((items.size:Int)-1)) (hl:s.heap.IsTuple l items) (hIl:l≠I) (S:Addr) (hSr:S≠I) (hSd:S≠l) (hS:s.heap.get? S=some {cls:=.type "list",data:=.seq #[]})
  (hR:∀h' tk acc' c',(∀b o,b≠S->b≠I->s.heap.get? b=some o->h'.get? b=some o)->h'.get? S=some {cls:=.type "list",dict:=none,data:=.seq acc' c',slots:=#[]}->ItemsOf (fun i v=>items[items.size-1-i]?=some v) acc' items.size->R (.ok (.ret .none)) {s with heap:=h',toks:=tk}) (hn:items.size<=sizeLine) :
  wpAny (model prog w) A.in1 (Builtin.«list.__init__» ⟨[.ref S,.ref I],[]⟩)
   (fun fin s'=>match fin with|.done f=>R (.ok f) s'|.again c'=>c'.quiet=true/\codeAny (model prog w) A c' R s') (fun e s'=>R (.error e) s') s:=by
 show wpAny _ _ (do let old <- Builtin.List.listItems (.ref S);Builtin.List.listUpdate (.ref S) (fun _=>#[]);letGo old.toList.reverse;Builtin.List.listExtendWith (.ref S) (.ref I) .none) _ _ s;refine wpAny_bind ?_;unfold Builtin.List.listItems;refine wpAny_bind (wpAny_seqItems hS rfl (wpAny_pure ?_));show wpAny _ _ (updateSeq S (fun _=>#[]) >>= fun _=>letGo (#[]:Array Value).toList.reverse >>= fun _=>Builtin.List.listExtendWith (.ref S) (.ref I) .none) _ _ s;refine wpAny_bind (wpAny_updateSeq hS rfl ?_);have hS₂:=Heap.get?_update_self (Obj.mapSeq (fun _=>(#[]:Array Value))) hS rfl;have oth:∀b o,b≠S->s.heap.get? b=some o->(s.heap.update S (Obj.mapSeq (fun _=>(#[]:Array Value)))).get? b=some o:=
  fun b o hb e=>(Heap.get?_update_other _ _ (Ne.symm hb)).trans e
 refine wpAny_bind (wpAny_letGo ?_);refine extend hh (hit.at fun o e=>oth I o (Ne.symm hSr) e) (let ⟨o,e,r⟩:=hl;⟨o,oth l o (Ne.symm hSd) e,r⟩) hIl S hSr hSd .none _ hS₂ (fun h' tk acc' c' hk hS' hacc=>?_) hn;exact hR h' tk acc' c' (fun b o hb hbI e=>hk b o hb hbI (oth b o hb e)) hS' hacc
theorem R_ {I l:Addr} {items:Array Value} {Q:Value->Shared->Prop} (hh:A.handled=none) (hit:Is s.heap I l ((items.size:Int)-1)) (hl:s.heap.IsTuple l items) (hIl:l≠I) (hn:items.size<=sizeLine)
  (hQ:∀h' tk acc' c',(∀b o,b≠I->s.heap.get? b=some o->h'.get? b=some o)->h'.get? s.heap.objs.size=some {cls:=.type "list",dict:=none,data:=.seq acc' c',slots:=#[]}->ItemsOf (fun i v=>items[items.size-1-i]?=some v) acc' items.size->Q (.ref s.heap.objs.size) {s with heap:=h',toks:=tk}) :
  wpAny (model prog w) A (call (.type "list") [.ref I]) Q E s:=by
 refine callType_codes (Q₁:=fun obj s₁=>obj=.ref s.heap.objs.size/\s₁={s with heap:=s.heap.push {cls:=.type "list",data:=.seq #[]}}) PySem.F.called_list (PySem.F.typeCall_list_1 _) PySem.F.entry_list_init
  (code_list_new _ ⟨rfl,rfl⟩) fun obj s₁ h₁=>?_
 obtain ⟨rfl,rfl⟩:=h₁;have hS:(s.heap.push {cls:=.type "list",data:=.seq #[]}).get? s.heap.objs.size=some {cls:=.type "list",data:=.seq #[]}:=Heap.get?_push_size _ rfl;have lt:∀{b:Addr} {o:Obj},s.heap.get? b=some o->s.heap.objs.size≠b:=fun e=>Nat.ne_of_gt (Heap.lt_size e)
 have l1:s.heap.objs.size≠I:=let ⟨o,e,_⟩:=hit;lt e
 have l2:s.heap.objs.size≠l:=let ⟨o,e,_⟩:=hl;lt e
 refine ⟨⟨_,hS,rfl⟩,PySem.F.args_list_init_2 _ _,init (A:=A.in1) hh (hit.at fun o e=>Heap.get?_push_of_some _ e) (let ⟨o,e,r⟩:=hl;⟨o,Heap.get?_push_of_some _ e,r⟩) hIl _ l1 l2 hS (fun h' tk acc' c' hk hS' hacc=>?_) hn⟩;exact ⟨rfl,hQ h' tk acc' c' (fun b o hb e=>hk b o (Ne.symm (lt e)) hb (Heap.get?_push_of_some _ e)) hS' hacc⟩
end
end Rv
end Mi
end
section
namespace Mi
open PySem L2 PySem.SeqAt PySem.Spec PyProof.Rows
noncomputable def aAr:D->Res D
 | .tup xs=>if D.aW xs&&decide (xs.length<=lim) then .ok (.lst xs.reverse) else .bad
 | _=>.bad
theorem DK:bootBuiltins "reversed" = some (.type "reversed"):=by decide +kernel
variable [KFrag]
theorem bR.rev {P:Addr->Prop} {H:Hp}:∀{vs:List V} {ds:List D},bR P H vs ds->bR P H vs.reverse ds.reverse
 | _,_,.nil=>.nil
 | _,_,.cons r t=>by rw [List.reverse_cons,List.reverse_cons];exact t.rev.snoc r
theorem SJ {ds:List D} (h:D.aW ds=true):D.aW ds.reverse=true:=dZ.mpr fun y hy=>dZ.mp h y (List.mem_reverse.mp hy)
theorem YM {xs:List V} {its acc:List Value} (r:Vals xs its) (hl:acc.length=its.length) (h:∀j v,acc[j]?=some v->its[its.length-1-j]?=some v):Vals xs.reverse acc:=by
 have e:acc=its.reverse:=by
  refine List.ext_getElem? fun j=>?_
  by_cases hj:j<its.length
  ·have h1:acc[j]?=some (acc[j]'(by lia)):=List.getElem?_eq_getElem (by lia);have h2:=h j _ h1;rw [h1,List.getElem?_reverse hj,h2]
  ·rw [List.getElem?_eq_none (by lia),List.getElem?_eq_none (by rw [List.length_reverse];lia)]
 rw [e];clear e h hl;induction r with
 | nil=>exact .nil
 | cons h t ih=>
  rw [List.reverse_cons,List.reverse_cons];exact ih.append (.cons h .nil)
section
variable {X:Cx} {e:Expr} {fe:FE} {re:Bool} {p p2 pos pos2:Pos}
theorem SM (hc:X.calm=true) (hg:Gl X "list") (hm:X.mg "list" = none) (hg2:Gl X "reversed") (hm2:X.mg "reversed" = none) (he:PE X e (gE fe re)) (hs:starEach [e] X.env=[(false,eval e X.env)]:=by rfl)
  (hs2:starEach [.Call (.Name "reversed" p2) [e] [] pos2] X.env=[(false,eval (.Call (.Name "reversed" p2) [e] [] pos2) X.env)]:=by rfl) :
  PE X (.Call (.Name "list" p) [.Call (.Name "reversed" p2) [e] [] pos2] [] pos) (gE (b1 aAr fe) true):=by
 intro pins s σ H Q I ⟨ρ,d,E,h,q⟩;obtain ⟨d0,h1,h2⟩:=aY h;unfold aAr at h2;split at h2
 rotate_left
 ·cases h2
 rename_i ds;split at h2
 rotate_left
 ·cases h2
 rename_i hb;cases h2;rw [Bool.and_eq_true] at hb;refine wpAny_Call_Name_kw (uP I hg hm Q_ ?_);refine PyProof.Rows.callWith_type1 ?_ hs2 rfl;rw [hs2];show wpAny _ _ (spliced [(false,eval (.Call (.Name "reversed" p2) [e] [] pos2) X.env)]) _ _ s;refine Calls.spliced_cons ?_;refine wpAny_Call_Name_kw (uP I hg2 hm2 DK ?_);refine PyProof.Rows.callWith_type1 ?_ hs rfl;rw [hs];show wpAny _ _ (spliced [(false,eval e X.env)]) _ _ s;refine Calls.spliced_cons (thn (he pins s σ H (fun v H1=>cJ H H1/\Rep All H1 v (.tup ds)) I ⟨ρ,_,E,h1,fun v H1 s1 r1 _=>⟨s1,r1⟩⟩) fun u s1 ⟨x,H1,I1,ru,sm,rx⟩=>?_);obtain ⟨t,xs,rfl,ex,rr⟩:=rx.iV;cases ru;obtain ⟨its,rv,ht,hz⟩:=I1.tuple (.of ex);have htt:s1.heap.IsTuple t its.toArray:=ht;refine Calls.spliced_nil ?_;have hz':its.toArray.size<=sizeLine:=by rw [List.size_toArray,<-rv.length];exact hz
 refine Rv.YL htt (by rw [sizeLine_eq] at hz';lia) fun tk=>?_
 refine Calls.spliced_nil ?_;have hne:t≠s1.heap.objs.size:=let ⟨o,e,_⟩:=htt;Nat.ne_of_lt (Heap.lt_size e)
 refine Rv.R_ (s:={s1 with heap:=s1.heap.push (Rv.obj t ((its.toArray.size:Int)-1)),toks:=tk}) (I:=s1.heap.objs.size) (l:=t) (items:=its.toArray) (I1.ok.hd hc) ⟨_,Heap.get?_push_size _ rfl,rfl,rfl⟩ (let ⟨o,e,r⟩:=htt;⟨o,Heap.get?_push_of_some _ e,r⟩) hne hz' fun h' tk' acc c hk hS hacc=>?_
 have hsz:((s1.heap.push (Rv.obj t ((its.toArray.size:Int)-1))).objs.size)=s1.heap.objs.size+1:=Heap.size_push ..;have hfr:H1 (s1.heap.push (Rv.obj t ((its.toArray.size:Int)-1))).objs.size=none:=I1.hok.fresh (by rw [hsz];lia);have hlen:acc.toList.length=its.length:=by have:=hacc.1;simpa using this
 have hv:Vals xs.reverse acc.toList:=YM rv hlen fun j v hj=>by
  have:=hacc.2 j v (by simpa using hj);simpa using this
 have sm2:cJ H1 (upd H1 (s1.heap.push (Rv.obj t ((its.toArray.size:Int)-1))).objs.size (.lst xs.reverse)):=cJ.upd hfr;refine ⟨.ref (s1.heap.push (Rv.obj t ((its.toArray.size:Int)-1))).objs.size,_,I1.laid (a:=(s1.heap.push (Rv.obj t ((its.toArray.size:Int)-1))).objs.size) (o:=.lst xs.reverse) (h':=h') (t':=tk') (fun b o e=>hk b o (Nat.ne_of_lt (Heap.lt_size e)) (Heap.get?_push_of_some _ e)) (by rw [hsz];lia) ⟨by rw [List.length_reverse];exact hz,acc.toList,c,hv,by simpa using hS⟩,rfl,?_⟩;exact q _ _ (sm.trans sm2) (.lst aL trivial (rr.rev.same sm2)) fun _=>.lst aL (sm.free hfr) ((rr.rev.bL (SJ hb.1)).same sm2)
end
end Mi
end
section
namespace Wl
open PySem PySem.Spec
section
variable {prog:Program} {w:World} {A:Around} {E:Value->Shared->Prop} {hp:Heap} {g:Array GenState} {d:Drawn} {tk:Nat} {os:OsState} {a:Addr} {xs:Array Value} {n:Nat}
end
section
variable {prog:Program} {w:World} {K:Type} [DecidableEq K] {knd:KeyKind prog w K} {A:Around} {R:Except Value Flow->Shared->Prop} {it l d:Addr} {items:Array Value} {ps:List (K×Value)} {nl:Nat}
end
section
variable {prog:Program} {w:World} {K:Type} [DecidableEq K] {knd:KeyKind prog w K} {A:Around} {E:Value->Shared->Prop} {hp:Heap} {g:Array GenState} {dr:Drawn} {tk:Nat} {os:OsState} {l:Addr} {items:Array Value} {ps:List (K×Value)} {nl:Nat}
end
end Wl
end
section
namespace Mi
open PySem L2 PySem.SeqAt PySem.Spec PyProof.Rows
variable [KFrag]
section
variable {X:Cx} {e:Expr} {fe:FE} {re:Bool} {p pos:Pos}
end
section
variable {X:Cx} {own:Nat->Bool} {a b e:Expr} {pos pos' posE:Pos} {fa fe:FE} {re:Bool} {xb:FX}
theorem aCy {o:CmpOp} {f:D->D->Res D} {fr:Bool} (ho:OpR X (compareOp o) (r2 f fr)) (ha:PE X a (gE fa true)) (hb:PE X b (gX own xb)) (hm:behindInMarks o b=false):PT X (.Compare a [o] [b] pos) (gXT own (xTB (x2R f fa xb))):=
 PT.imp (O9 ho ha hb hm) fun σ H Q ⟨ρ,k,ρ',E,h,q⟩=>by
  obtain ⟨⟨d,ρ1⟩,h1,h2⟩:=aY h;obtain ⟨b,h3,h4⟩:=aY h2;cases h4;refine aLc ⟨ρ,d,_,E,h1,fun v H' k1 E1 ns r=>?_⟩;cases HF h3;cases r;exact ⟨_,rfl,q H' k1 E1 ns⟩
end
end Mi
end
section
namespace Mi
open PySem L2 PySem.SeqAt PySem.Spec PyProof.Rows
open Classical in
noncomputable def chR (f:FS) (m:Nat) (xs rest:List D):Res (List D):=
 if h:∃ys:List D,D.aW ys=true/\∀b,∃ρ',f ((.cel b xs::rest)++List.replicate (m-(rest.length+1)) .uD)=.ok (.nx ρ')/\ρ'.getD 0 .uD=.cel b ys then .ok h.choose else .bad
theorem aGc {f:FS} {m:Nat} {xs rest ys:List D} (h:chR f m xs rest=.ok ys):D.aW ys=true/\∀b,∃ρ',f ((.cel b xs::rest)++List.replicate (m-(rest.length+1)) .uD)=.ok (.nx ρ')/\ρ'.getD 0 .uD=.cel b ys:=by
 unfold chR at h;split at h
 ·rename_i e;cases h;exact e.choose_spec
 ·cases h
theorem SN {f:FS} {m:Nat} {xs rest ys:List D} (hp:D.aW ys=true) (h:∀b,∃ρ',f ((.cel b xs::rest)++List.replicate (m-(rest.length+1)) .uD)=.ok (.nx ρ')/\ρ'.getD 0 .uD=.cel b ys):chR f m xs rest=.ok ys:=by
 have e:∃ys:List D,D.aW ys=true/\∀b,∃ρ',f ((.cel b xs::rest)++List.replicate (m-(rest.length+1)) .uD)=.ok (.nx ρ')/\ρ'.getD 0 .uD=.cel b ys:=⟨ys,hp,h⟩
 have q:chR f m xs rest=.ok e.choose:=by unfold chR;rw [dif_pos e]
 rw [q];obtain ⟨ρ1,a1,a2⟩:=e.choose_spec.2 0;obtain ⟨ρ2,b1,b2⟩:=h 0;rw [a1] at b1;cases b1;rw [a2] at b2;cases b2;rfl
noncomputable def bLs (i:Nat):FE:=fun ρ=>match xJ (ρ.getD i .uD) with|some xs=>.ok (.lst xs)|none=>.bad
noncomputable def SQ (f:FS) (m:Nat) (x1 x2:FX):FX:=fun ρ=>do
 let p <- x1 ρ
 let q <- x2 p.2
 match p.1 with
 | .lst xs=>if D.aW xs&&q.1.pure then (do let ys <- chR f m xs [q.1];.ok (.lst ys,q.2)) else .bad
 | _=>.bad
variable [KFrag]
noncomputable def spR (f:FS) (m:Nat):Sp:=fun vs H Q _=>∃(a:Addr) (v:V) (xs:List D) (y:D) (ρ' ys:List D),vs=[.ref a,v]/\ES (oN 1) H (vs.map some) [.cel a xs,y]/\f ([.cel a xs,y]++List.replicate (m-2) .uD)=.ok (.nx ρ')/\ρ'.getD 0 .uD=.cel a ys/\
 ∀H',(∀b o,H b=some o->¬Own (oN 1) (vs.map some) b->H' b=some o)->Rep All H' (.ref a) (.cel a ys)->Q (.ref a) H'
section
variable {own:Nat->Bool}
theorem YQ {N:List Str} {f:FS} {vs:List V} {H:Hp} {Q:VK} {E:XK} (hN:2<=N.length) (h0own:own 0=true) (h1own:own 1=false) (h0:spR f N.length vs H Q E):Z9 (tS own f) (aIl (Z7 0)) {nx:=fun _ H'=>Q .non H',rt:=Q} (L2.start N vs) H:=by
 obtain ⟨a,v,xs,y,ρ',ys,hvs,E0,h1,h2,q⟩:=h0;subst hvs;have hst:L2.start N [V.ref a,v]=[some (.ref a),some v]++List.replicate (N.length-2) none:=rfl;have high:∀i w,2<=i->(L2.start N [V.ref a,v])[i]?≠some (some w):=fun i w hi e=>by
  rw [hst,List.getElem?_append_right (by simpa using hi),List.getElem?_replicate] at e;split at e <;> cases e
 have hO:∀b,Own own (L2.start N [V.ref a,v]) b↔Own (oN 1) ([V.ref a,v].map some) b:=fun b=>by
  constructor
  ·rintro ⟨i,hi,e⟩
   match i,hi,e with
   | 0,_,e=>exact ⟨0,rfl,e⟩
   | 1,hi,_=>rw [h1own] at hi;cases hi
   | n+2,_,e=>exact absurd e (high _ _ (by lia))
  ·rintro ⟨i,hi,e⟩;have:i=0:=by simp [oN] at hi;lia
   subst this;exact ⟨0,h0own,e⟩
 have hOf:(fun b=>¬Own own (L2.start N [V.ref a,v]) b)=fun b=>¬Own (oN 1) ([V.ref a,v].map some) b:=funext fun b=>by rw [hO]
 have ES0:ES own H (L2.start N [V.ref a,v]) ([.cel a xs,y]++List.replicate (N.length-2) .uD):=by
  refine ⟨by rw [hst];simp,fun i hi=>?_,fun i w hi hw=>?_⟩
  ·match i,hi with
   | 0,_=>
    obtain ⟨w,g1,g2⟩:=E0.at_ 0 (by intro z;cases z);exact ⟨w,g1,fun ho=>by rw [h0own] at ho;cases ho⟩
   | 1,hi=>
    obtain ⟨w,g1,g2⟩:=E0.at_ 1 hi;exact ⟨w,g1,fun ho=>by rw [hOf];exact g2 rfl⟩
   | n+2,hi=>
    exfalso;apply hi;rw [List.getD_eq_getElem?_getD,List.getElem?_append_right (by simp),List.getElem?_replicate];split <;> rfl
  ·match i,hi,hw with
   | 0,_,hw=>
    obtain ⟨b,o,g1,g2,g3,g4,g5,g6⟩:=E0.own 0 w rfl hw;refine ⟨b,o,g1,g2,g3,g4,g5,fun j hj hs=>?_⟩
    match j,hj,hs with
    | 0,_,_=>rfl
    | 1,hj,_=>rw [h1own] at hj;cases hj
    | n+2,_,hs=>exact absurd hs (high _ _ (by lia))
   | 1,hi,_=>rw [h1own] at hi;cases hi
   | n+2,_,hw=>exact absurd hw (high _ _ (by lia))
 refine ⟨_,.nx ρ',ES0,h1,fun σ' H' ku E'=>?_⟩;obtain ⟨w,z1,_⟩:=E'.at_ 0 (by rw [h2];intro z;cases z);obtain ⟨b,o,rfl,g4,g5,_⟩:=E'.own 0 w h0own z1;rw [h2] at g4;have:=CQ g4;cases this;exact ⟨_,z1,q H' (fun b o e n=>(ku b o e (by rw [hO];exact n)).1) g4⟩
end
noncomputable def YS (P:Program) (w:World) (K:PySem.W.Frag) (mg:Str->Option Value) (base:Heap) (k:Nat) (x:Str) (f:FS) (m:Nat):Prop:=
 ∃(fad:Addr) (fd:FuncData) (ps:List Str),qW P w K mg base CX0 k fad fd ps (spR f m)/\mg x=some (.ref fad)/\PySem.W.keepIn K (.ref fad)=true/\Binds K fd ps []
theorem aGd {P:Program} {w:World} {K:PySem.W.Frag} {mg:Str->Option Value} {base:Heap} {x:Str} {k:Nat} {st:Stmt} {fad:Addr} {fd:FuncData} {N ps:List Str} {f:FS} (F:Fun K x x st fad fd) (hm:mg x=some (.ref fad)) (hb:Binds K fd ps []) (S:bT N ps (aM st)) (own:Nat->Bool) (hp:ps.length=2) (hN:2<=N.length) (h0own:own 0=true) (h1own:own 1=false)
  (hbody:∀(cdv:Value) (A:Around) (outer:List Env) (s:Shared) (H:Hp) (E:XK),j5 k (A.deeper (envOfC x (aM st) s.heap.objs.size fad cdv))->PSs (k_ CX0 P w K mg base N x (aM st) fad cdv A outer s H E).nox (d9 st) (Z9 (tS own f) (aIl (Z7 0)))):YS P w K mg base (k+1) x f N.length:=
 ⟨fad,fd,ps,F.ok S (fun vs H Q E ⟨a,v,_,_,_,_,e,_⟩=>by rw [e,hp];rfl) fun cdv A outer s H vs Q E hr h=>⟨_,hbody cdv A outer s H E hr,YQ hN h0own h1own h⟩,hm,F.kp,hb⟩
section
variable {X:Cx} {own:Nat->Bool} {st:Stmt} {rest:List Stmt} {f g:FS} {R:TS} {e1 e2:Expr} {x1 x2:FX} {pos:Pos}
theorem aCz (h1:PS X st (tS own f)) (h2:PSs X rest (Z9 (tS own g) R)):PSs X (st::rest) (Z9 (tS own (aQ f g)) R):=PSs.imp (kY h1 h2) fun D' σ H h=>Q3 h
theorem ES.off {H H2 H':Hp} {σ:L2.St} {ρ ρ2:List D} {a:Addr} {o2:HO} (E:ES own H σ ρ) (E2:ES own H2 σ ρ2) (k:KU own σ H σ H2) (ns:NS own ρ ρ2) (hn:H a=none) (ha:H2 a=some o2) (hm:LQ o2=true) (hk:∀b ob,H2 b=some ob->b≠a->H' b=some ob) :
  ES own H' σ ρ2/\KU own σ H σ H':=by
 have k':KU own σ H σ H':=fun b ob e n=>⟨hk b ob (k b ob e n).1 (fun z=>by subst z;rw [hn] at e;cases e),n⟩
 refine ⟨⟨E2.len,fun j hj=>?_,fun j w hj hw=>?_⟩,k'⟩
 ·obtain ⟨w,g1,_⟩:=E2.at_ j hj;refine ⟨w,g1,fun ho=>?_⟩;rw [ns j ho] at hj ⊢;obtain ⟨w',g1',g2'⟩:=E.at_ j hj;rw [g1] at g1';cases g1';exact k'.rep E (g2' ho)
 ·obtain ⟨b,ob,h1,h2,h3,h4,h5,h6⟩:=E2.own j w hj hw;subst h1;have hba:b≠a:=fun z=>by subst z;exact CT E hn ⟨j,hj,hw⟩
  refine ⟨b,ob,rfl,?_,h3,hk _ _ h4 hba,h5,h6⟩;refine (h2.oN (P':=fun c=>c=b) h3 rfl).keep (fun c oc hc hp=>?_) fun _ _=>trivial
  refine hk _ _ hc fun z=>?_
  subst z;rcases hp with hp|hp
  ·exact hba hp.symm
  ·rw [ha] at hc;cases hc;rw [hm] at hp;cases hp
theorem aD0 {x:Str} {p:Pos} {k k' m:Nat} (C:YS X.prog X.w X.K X.mg X.base k x f m) (hr:j5 k' X.A) (hkk:k<=k') (hg:Gl X x) (he1:PE X e1 (gX own x1)) (he2:PE X e2 (gX own x2)) (hdb:nDb x:=by decide)
  (he:starEach [e1,e2] X.env=(false,eval e1 X.env)::starEach [e2] X.env:=by rfl) (he':starEach [e2] X.env=(false,eval e2 X.env)::starEach [] X.env:=by rfl) (hpl:(backTo pos (starEach [e2] X.env)).any (·.1)=false:=by rfl) :
  PE X (.Call (.Name x p) [e1,e2] [] pos) (gX own (SQ f m x1 x2)):=by
 obtain ⟨fad,fd,ps,F,hm,hk,hb⟩:=C;refine PE.imp (pK F (hr.mono hkk) hg hm hk hb .nil W8 (bG he1 (bG he2 iQ he') he) hdb he hpl) fun σ H Q ⟨ρ,d,ρ',E,h,q⟩=>?_
 obtain ⟨⟨d1,ρ1⟩,h1,h⟩:=aY h;obtain ⟨⟨d2,ρ2⟩,h2,h⟩:=aY h;dsimp only at h h2;split at h
 ·rename_i xs _;split at h
  ·rename_i hp;rw [Bool.and_eq_true] at hp;obtain ⟨ys,h3,h⟩:=aY h;cases h;obtain ⟨hy,hch⟩:=aGc h3;refine ⟨ρ,_,ρ1,E,h1,fun v1 H1 k1 E1 ns1 r1=>⟨ρ1,d2,ρ',E1,h2,fun v2 H2 k2 E2 ns2 r2=>?_⟩⟩;have r1':=r1.ku E E1 k2;cases r1' with
   | @lst a vs0 _ ea hn rr=>
    obtain ⟨ρ3,g1,g2⟩:=hch a;refine ⟨a,v2,xs,d2,ρ3,ys,rfl,aG5 ea rr.all hp.1 (.cons (r2.bL hp.2) .nil),g1,g2,fun H' kp rp=>?_⟩;obtain ⟨vs',e',_,rr'⟩:=JD rp rfl;obtain ⟨E',k'⟩:=E.off E2 (k1.trans k2) (ns1.trans ns2) hn ea rfl fun b ob eb hne=>kp b ob eb fun ⟨j,hj,ej⟩=>by
     have:j=0:=by simp [oN] at hj;lia
     subst this;simp at ej;exact hne ej.symm
    exact q _ H' k' E' (ns1.trans ns2) (.lst e' hn (rr'.bL hy))
  ·cases h
 ·cases h
end
section
variable {X:Cx} {pos:Pos}
theorem aD1 {i:Nat} {x:Str} (hN:X.N[i]?=some x) (hv:Vis X.env.scope x) (hd:nDb x:=by decide) (hcd:nCd x:=by decide):PE X (.Name x pos) (gE (bLs i) false):=
 PE.imp (cU hN hv hd hcd) fun σ H Q ⟨ρ,d,E,h,q⟩=>by
  unfold bLs at h;split at h
  ·rename_i xs hx;cases h;obtain ⟨v,h1,h2⟩:=E i (aAm hx);obtain ⟨a,rfl⟩:∃a,v=.ref a:=by
    cases hd0:ρ.getD i .uD <;> rw [hd0] at hx h2 <;> simp only [xJ] at hx <;> cases hx <;> cases h2 <;> exact ⟨_,rfl⟩
   obtain ⟨vs,e,p,rr⟩:=JD h2 hx;exact ⟨_,h1,q.self (.lst e p rr) (fun z=>by cases z)⟩
  ·cases h
end
section
variable {X:Cx} {pos:Pos}
end
end Mi
end
section
namespace Mi
open PySem L2 PySem.SeqAt PySem.Spec PyProof.Rows
noncomputable def aEd:D->Bool
 | .dct _=>true
 | .cel _ [.scr _,_]=>true
 | .lst [.scr _,_]=>true
 | _=>false
noncomputable def aGe:D->Bool
 | .str _=>true
 | _=>false
noncomputable def aJc:D->Bool
 | .str _=>true
 | .int _=>true
 | _=>false
noncomputable def SX:D->Bool
 | .lst [.lst ws,b,c]=>ws.all aGe&&(aJc b&&aJc c)
 | _=>false
noncomputable def S5 (v:List D->Res D) (n:Nat) (fa:FA) (is os:List Nat):FS:=fun ρ=>do
 let ds <- fa ρ
 let d <- iH n v ds
 match d with
 | .lst xs=>if decide (xs.length=is.length)&&(SX (.lst xs)&&os.all fun i=>aEd (ρ.getD i .uD)) then .ok (.nx (vN is xs ρ)) else .bad
 | _=>.bad
variable [KFrag]
noncomputable def kA (own:Nat->Bool) (D:Ends) (σ:L2.St) (H:Hp):Fl->Prop
 | .rt d=>∀v H',(∀a o,H a=some o->¬Own own σ a->H' a=some o)->Rep All H' v d->D.rt v H'
 | fl=>kS own D σ H fl
noncomputable def tA (own:Nat->Bool) (f:FS):TS:=fun D σ H=>∃ρ fl,ES own H σ ρ/\f ρ=.ok fl/\kA own D σ H fl
noncomputable def spA (f:List D->Res D) (n:Nat):Sp:=fun vs H Q _=>∃ds d,ds.length=n/\bR All H vs ds/\f ds=.ok d/\∀v H',cJ H H'->Rep All H' v d->Q v H'
noncomputable def aI9 (P:Program) (w:World) (K:PySem.W.Frag) (mg:Str->Option Value) (base:Heap) (k:Nat) (x:Str) (n:Nat) (f:List D->Res D):Prop:=
 ∃(fad:Addr) (fd:FuncData) (ps:List Str),qW P w K mg base CX0 k fad fd ps (spA f n)/\mg x=some (.ref fad)/\PySem.W.keepIn K (.ref fad)=true/\Binds K fd ps []
section
variable {own:Nat->Bool} {D':Ends} {σ σ':L2.St} {H H':Hp}
theorem kA.step {fl:Fl} (k:KU own σ H σ' H') (h:kA own D' σ H fl):kA own D' σ' H' fl:=by
 cases fl with
 | nx ρ=>exact kS.step (fl:=.nx ρ) k h
 | bk ρ=>exact kS.step (fl:=.bk ρ) k h
 | ct ρ=>exact kS.step (fl:=.ct ρ) k h
 | rt d=>exact fun v H2 hk r=>h v H2 (fun a o e n=>let ⟨e1,n1⟩:=k a o e n;hk a o e1 n1) r
theorem kA.s (hx:own rtX=false) {fl:Fl} (h:kA own D' σ H fl):kS own D' σ H fl:=by
 cases fl with
 | nx ρ=>exact h
 | bk ρ=>exact h
 | ct ρ=>exact h
 | rt d=>exact kRt.mk hx fun v H2 hk r=>h v H2 hk r.all
end
section
variable {own:Nat->Bool} {X:Cx} {st:Stmt} {rest s1 s2:List Stmt} {f g:FS} {c e:Expr} {gc:FT} {pos pos':Pos}
theorem qN (h:PS X st (tS own f)) (hx:own rtX=false:=by rfl):PS X st (tA own f):=PS.imp h fun D σ H ⟨ρ,fl,es,h,q⟩=>⟨ρ,fl,es,h,q.s hx⟩
theorem aJd (h:PS X st (tA own f)):PSs X [st] (tA own f):=nR h
theorem tB (h1:PS X st (tA own f)) (h2:PSs X rest (tA own g)):PSs X (st::rest) (tA own (aQ f g)):=PSs.imp (kY h1 h2) fun D σ H ⟨ρ,fl,es,h,q⟩=>by
 obtain ⟨r,h1,h2⟩:=aY h;refine ⟨ρ,r,es,h1,?_⟩;cases r with
 | nx ρ'=>exact fun σ' H' k E'=>⟨ρ',fl,E',h2,q.step k⟩
 | bk ρ'=>cases h2;exact q
 | ct ρ'=>cases h2;exact q
 | rt d=>cases h2;exact q
end
theorem aD2 {P:Program} {w:World} {K:PySem.W.Frag} {mg:Str->Option Value} {base:Heap} {x:Str} {st:Stmt} {fad:Addr} {fd:FuncData} {N ps:List Str} {k:Nat} {f:FS} (F:Fun K x x st fad fd) (hm:mg x=some (.ref fad)) (hb:Binds K fd ps []) (S:bT N ps (aM st)) (own:Nat->Bool) (hown:∀i,i<ps.length->own i=false) (hNl:ps.length<=N.length)
  (hbody:∀(cdv:Value) (A:Around) (outer:List Env) (s:Shared) (H:Hp) (E:XK),j5 k (A.deeper (envOfC x (aM st) s.heap.objs.size fad cdv))->PSs (k_ CX0 P w K mg base N x (aM st) fad cdv A outer s H E).nox (d9 st) (tA own f)):aI9 P w K mg base (k+1) x ps.length (fnS ps.length N.length f):=by
 refine ⟨fad,fd,ps,F.ok S (fun vs H Q E ⟨ds,d,h1,r,_⟩=>by rw [r.length,h1]) fun cdv A outer s H vs Q E hr ⟨ds,d,hl,r,h,q⟩=>⟨_,hbody cdv A outer s H E hr,?_⟩,hm,F.kp,hb⟩;have hst:start N vs=vs.map some++List.replicate (N.length-ps.length) none:=by
  show vs.map some++List.replicate (N.length-vs.length) none=_;rw [r.length,hl]
 have noown:∀a,¬Own own (start N vs) a:=fun a ⟨i,hi,e⟩=>by
  rw [hst] at e;by_cases h:i<ps.length
  ·rw [hown i h] at hi;cases hi
  ·rw [List.getElem?_append_right (by simp [r.length,hl];lia)] at e;rw [List.getElem?_replicate] at e;split at e <;> cases e
 obtain ⟨fl,h1,h2⟩:=aY h;refine ⟨_,fl,v7 hst hl r hown noown,h1,?_⟩;have sm:∀{σ':L2.St} {H':Hp},KU own (start N vs) H σ' H'->cJ H H':=fun k a o e=>(k a o e (noown a)).1
 cases fl with
 | nx ρ'=>cases h2;exact fun σ' H' k E'=>q .non H' (sm k) .non
 | rt d'=>cases h2;exact fun v H' hk rp=>q v H' (fun a o e=>hk a o e (noown a)) rp
 | bk ρ'=>cases h2
 | ct ρ'=>cases h2
section
variable {own:Nat->Bool} {σ:L2.St} {H:Hp} {ρ:List D}
theorem y_ {P:Addr->Prop}:∀{ws:List D} {vs:List V},ws.all aGe=true->bR All H vs ws->bR P H vs ws/\∀v∈vs,∃x,v=.str x
 | [],_,_,.nil=>⟨.nil,fun v hv=>by simp at hv⟩
 | w::ws,_,h,.cons r t=>by
  rw [List.all_cons,Bool.and_eq_true] at h;obtain ⟨i1,i2⟩:=y_ (P:=P) h.2 t;cases w with
  | str x=>
   cases r;exact ⟨.cons (.str x) i1,fun v hv=>by
    rcases List.mem_cons.mp hv with z|z
    ·exact ⟨x,z⟩
    ·exact i2 v z⟩
  | _=>cases h.1
theorem S6 {P:Addr->Prop} {d:D} {v:V} (h:aJc d=true) (r:Rep All H v d):Rep P H v d:=by
 cases d with
 | str x=>cases r;exact .str x
 | int x=>cases r;exact .int x
 | _=>cases h
theorem S7 (E:ES own H σ ρ) {os:List Nat} (ho:∀i,own i=true->i∈os\/σ.length<=i) (hf:(os.all fun i=>aEd (ρ.getD i .uD))=true) {a:Addr} {vs:List V} (e:H a=some (.lst vs)) (hv:vs.length≠2\/∃x r,vs=.str x::r):¬Own own σ a:=by
 rintro ⟨i,hi,hs⟩;have him:i∈os:=(ho i hi).resolve_right (Nat.not_le.mpr (List.getElem?_eq_some_iff.mp hs).1);have hfi:=List.all_eq_true.mp hf i him;obtain ⟨b,o,eb,r,_⟩:=E.own i _ hi hs;cases eb;generalize ρ.getD i .uD=d at hfi r;have go:∀{ds:List D},(∃c y,ds=[.scr c,y])->bR All H vs ds->False:=fun ⟨c,y,e3⟩ rs=>by
  subst e3;cases rs with
  | cons r1 rs=>
   cases rs with
   | cons r2 rs=>
    cases rs;rcases hv with hv|⟨x,r,hv⟩
    ·exact hv rfl
    ·cases hv;cases r1
 cases r with
 | dK e2 _ _ _=>rw [e] at e2;cases e2
 | dT e2 _ _ _=>rw [e] at e2;cases e2
 | cel e2 _ rs=>
  rw [e] at e2;cases e2;unfold aEd at hfi;split at hfi
  ·rename_i z;cases z
  ·rename_i c y z;cases z;exact go ⟨_,_,rfl⟩ rs
  ·rename_i z;cases z
  ·cases hfi
 | lst e2 _ rs=>
  rw [e] at e2;cases e2;unfold aEd at hfi;split at hfi
  ·rename_i z;cases z
  ·rename_i z;cases z
  ·rename_i c y z;cases z;exact go ⟨_,_,rfl⟩ rs
  ·cases hfi
 | _=>cases hfi
theorem YT (E:ES own H σ ρ) {os:List Nat} (ho:∀i,own i=true->i∈os\/σ.length<=i) (hf:(os.all fun i=>aEd (ρ.getD i .uD))=true) {v:V} {d:D} (hn:SX d=true) (r:Rep All H v d):Rep (fun a=>¬Own own σ a) H v d:=by
 unfold SX at hn;split at hn
 ·rename_i ws b c;rw [Bool.and_eq_true,Bool.and_eq_true] at hn;cases r with
  | lst e _ rs=>
   cases rs with
   | cons r1 rs=>
    cases rs with
    | cons r2 rs=>
     cases rs with
     | cons r3 rs=>
      cases rs;refine .lst e (S7 E ho hf e (.inl (by simp))) (.cons ?_ (.cons (S6 hn.2.1 r2) (.cons (S6 hn.2.2 r3) .nil)));cases r1 with
      | @lst a1 xs1 ds1 e1 _ q1=>
       obtain ⟨i1,i2⟩:=y_ (P:=fun a=>¬Own own σ a) hn.1 q1;refine .lst e1 (S7 E ho hf e1 ?_) i1;cases xs1 with
       | nil=>exact .inl (by simp)
       | cons x xs=>
        obtain ⟨t,rfl⟩:=i2 x (List.mem_cons_self ..);exact .inr ⟨t,xs,rfl⟩
 ·cases hn
end
section
variable {own:Nat->Bool} {X:Cx} {k k' n:Nat} {x:Str} {e:Expr} {es fs:List Expr} {fa:FA} {r:Bool} {v:List D->Res D} {p cpos pos pt:Pos} {kk:Nat} {is os:List Nat}
theorem aGf (R:aI9 X.prog X.w X.K X.mg X.base k x n v) (hr:j5 k' X.A) (hkk:k<=k') (hg0:Gl X x) (ha:PA X (e::es) (gA fa r)) (ho:∀i∈is,own i=false) (hos:∀i,own i=true->i∈os\/X.N.length<=i) (hg:PG X (.Tuple fs kk pt) (aCx X.K is.length (gIx is)))
  (hdb:nDb x:=by decide) (he:starEach (e::es) X.env=(false,eval e X.env)::starEach es X.env:=by rfl) (hpl:(backTo cpos (starEach es X.env)).any (·.1)=false:=by rfl)
  (hs:swapsWithSole [.Tuple fs kk pt] (.Call (.Name x p) (e::es) [] cpos) pos.line X.env=pure false:=by rfl) (hw:swappedStores [.Tuple fs kk pt] (.Call (.Name x p) (e::es) [] cpos) X.env=pure none:=by rfl) (h1:(assignEach [.Tuple fs kk pt] X.env).map (·.2)=[assign (.Tuple fs kk pt) X.env]:=by rfl) :
  PS X (.Assign [.Tuple fs kk pt] (.Call (.Name x p) (e::es) [] cpos) pos) (tS own (S5 v n fa is os)):=by
 obtain ⟨fm,fdm,ps,F,hm,hk,hb⟩:=R;intro pins s σ H D I ht;refine aA0 (pK F (hr.mono hkk) hg0 hm hk hb .nil W8 ha hdb he hpl) hg hs hw h1 pins s σ H D I ?_;obtain ⟨ρ,fl,E,h,q⟩:=ht;obtain ⟨ds,h1,h⟩:=aY h;obtain ⟨d,h2,h⟩:=aY h;unfold iH at h2;split at h2
 ·rename_i hl;refine ⟨ρ,ds,E.er,h1,fun vs H1 s1 r1 _=>⟨ds,d,of_decide_eq_true hl,by rw [List.append_nil];exact r1,h2,fun u H2 s2 ru=>?_⟩⟩;split at h
  ·rename_i xs;split at h
   ·rename_i hc;rw [Bool.and_eq_true,Bool.and_eq_true] at hc;cases h;have hl':=of_decide_eq_true hc.1;have sm:=s1.trans s2;have E2:=E.same sm;have r2:=YT E2 (os:=os) (fun i hi=>(hos i hi).imp id fun z=>by rw [I.len];exact z) hc.2.2 hc.2.1 ru;obtain ⟨a,vs',rfl,sq,rr⟩:=r2.gM (K:=X.K);refine ⟨a,vs',rfl,sq,by rw [rr.length];exact hl',vW _ _ _ (by rw [rr.length];exact hl') ?_⟩;obtain ⟨E3,hO⟩:=ES.sets ho E2 rr;exact q _ H2 (KU.trans (KU.same sm) fun a o e n=>⟨e,by rw [hO];exact n⟩) E3
   ·cases h
  ·cases h
 ·cases h2
end
end Mi
end
section
namespace Mi
open PySem
theorem S8 (o:Obj) (f:Array Value->Array Value):(o.mapFields f).dict=o.dict:=by
 obtain ⟨c,d,dt,sl⟩:=o;cases dt <;> rfl
theorem JK (T:Addr):(Value.ref T != Value.none)=true:=by simp
theorem YW (L:Addr):¬((Value.none==rawInt L)=true):=by simp [rawInt]
noncomputable def TrD (h B:Heap) (e:Addr) (c:Value) (dd:Option Addr) (fl:Value):Prop:=
 ∃o vs T oT ts,(h.get? e=some o/\o.cls=c/\o.dict=dd/\o.data=.fields vs)/\(vs[1]?=some (.ref T)/\B.get? T=none/\T≠e)/\h.get? T=some oT/\oT.data=.fields ts/\ts[3]?=some fl
noncomputable def FD (B:Heap) (l:List Env) (e:Addr) (c:Value) (dd:Option Addr) (fl:Value) (h:Heap):Prop:=B.StaysIn h/\B.get? e=none/\h.FunFrames B l/\TrD h B e c dd fl
theorem FD.there {B h:Heap} {l:List Env} {e:Addr} {c fl:Value} {dd:Option Addr} (x:FD B l e c dd fl h):∃o,h.get? e=some o/\o.cls=c/\o.dict=dd/\∃vs,o.data=.fields vs:=by
 obtain ⟨_,_,_,o,vs,_,_,_,⟨a,b,d,f⟩,_⟩:=x;exact ⟨o,a,b,d,vs,f⟩
section
variable {M:Model} {A:Around} {E:Value->Shared->Prop} {s:Shared} {B:Heap} {env:Env} {outer l:List Env} {L e:Addr} {oe:Obj} {vs:Array Value} {head c:Value} {dd:Option Addr} {Q:Unit->Shared->Prop}
theorem wD {h:Heap} {a:Addr} {o:Obj} {ws:Array Value} (i:Nat) (v:Value) (ho:h.get? a=some o) (hd:o.data=.fields ws) :
  ∃h2:Heap,h2=h.update a (Obj.mapFields (·.setIfInBounds i v))/\(∀b,b≠a->h2.get? b=h.get? b)/\∃o2,h2.get? a=some o2/\o2.cls=o.cls/\o2.dict=o.dict/\o2.data=.fields (ws.setIfInBounds i v):=
 ⟨_,rfl,fun b hb=>Heap.get?_update_other _ _ (Ne.symm hb),_,Heap.get?_update_self _ ho (Obj.isFreed_of_fields (Obj.data_mapFields hd _)),Obj.cls_mapFields _ _,S8 _ _,Obj.data_mapFields hd _⟩
theorem JL {had:Bool} (hfr:A.frames=some (env::outer)) (hl:s.heap.FunFrames B (env::outer)) (hf:env.frame=some L) (he:s.heap.get? e=some oe) (hB:B.StaysIn s.heap) (hn:B.get? e=none) (hd:oe.data=.fields vs) (hz:1<vs.size)
  (q:∀h',FD B (env::outer) e oe.cls oe.dict (rawInt L) h'->s.heap.UpToSlots h'->Q () {s with heap:=h'}) :
  wpAny M A (do let a <- frameOf env;let pl <- entryPlaceOf L had;let b <- EntryCells.newEntry head a .none (rawInt L) .none pl;setField (.ref e) 1 b) Q E s:=by
 have nf:e∉(env::outer).filterMap (·.frame):=fun z=>by
  obtain ⟨_,o,ho,k⟩:=hl.mem z;cases he.symm.trans ho;exact k _ hd
 refine wpAny_bind (wpAny_frameOf_fun hfr hl hf fun h1 so=>wpAny_bind (wpAny_entryPlaceOf fun pl hp=>?_));unfold EntryCells.newEntry;unfold newFields;refine wpAny_bind (wpAny_newObj_type ?_ (hp.sizeOk5 _ _ _ _ _));generalize hon:({cls:=.type "traceback",dict:=none,data:=.fields ([head,.ref L,.none,rawInt L,.none]++(if pl.isEmpty then List.replicate 6 Value.none else pl)).toArray}:Obj)=on;have e1:h1.get? e=some oe:=(so.2.1 e nf).trans he;have B1:B.StaysIn h1:=fun b o k=>(so.2.1 b fun z=>by rw [(hl.mem z).1] at k;cases k).trans (hB b o k)
 have e2:=Heap.get?_push_of_some (h:=h1) on e1;obtain ⟨h3,r3,k3,o3,g3,c3,d3,f3⟩:=wD 1 (.ref h1.objs.size) e2 hd;have ne:h1.objs.size≠e:=Nat.ne_of_gt (Heap.lt_size e1);have t3:h3.get? h1.objs.size=some on:=(k3 _ ne).trans (Heap.get?_push_size h1 (by rw [<-hon];rfl));have keep:∀b o,b≠e->h1.get? b=some o->h3.get? b=some o:=fun b o hb k=>(k3 b hb).trans (Heap.get?_push_of_some _ k)
 have nr:∀b o,s.heap.get? b=some o->(∀vs,o.data≠.fields vs)->b≠e:=fun b o k z w=>by
  rw [w] at k;cases he.symm.trans k;exact z _ hd
 have up:s.heap.UpToSlots h3:=fun b o k z=>by
  obtain ⟨sl,w⟩:=so.2.2 b o k;exact ⟨sl,keep b _ (nr b o k z) w⟩
 refine wpAny_setField e2 hd hz ?_;rw [<-r3];refine q h3 ⟨fun b o k=>keep b o (fun z=>by rw [z,hn] at k;cases k) (B1 b o k),hn,hl.of_keeps fun b o k z=>let ⟨sl,w⟩:=up b o k z;⟨_,w,rfl⟩,?_⟩ up;have don:on.data=.fields ([head,.ref L,.none,rawInt L,.none]++(if pl.isEmpty then List.replicate 6 Value.none else pl)).toArray:=by rw [<-hon]
 exact ⟨o3,_,h1.objs.size,on,_,⟨g3,c3,d3,f3⟩,⟨by simp [hz],B1.fresh,ne⟩,t3,don,by simp⟩
theorem o9 {fl:Value} (x:FD B l e c dd fl s.heap) (q:∀h',FD B l e c dd .none h'->s.heap.UpToSlots h'->Q () {s with heap:=h'}):wpAny M A (setFlight (.ref e) none) Q E s:=by
 obtain ⟨k1,k2,k3,o,vs,T,oT,ts,⟨g1,g2,g3,g4⟩,⟨t1,t2,t3⟩,u1,u2,u3⟩:=x;obtain ⟨h2,r2,j2,o2,p1,p2,p3,p4⟩:=wD 3 Value.none u1 u2;have hz:3<ts.size:=(Array.getElem?_eq_some_iff.mp u3).1;have up:∀b o,s.heap.get? b=some o->(∀vs,o.data≠.fields vs)->h2.get? b=some o:=fun b o k z=>(j2 b fun w=>by
  rw [w] at k;cases u1.symm.trans k;exact z _ u2).trans k
 unfold setFlight;refine wpAny_bind (wpAny_field g1 g4 t1 ?_);rw [if_pos (JK T)];refine wpAny_setField u1 u2 hz ?_;show Q () {s with heap:=s.heap.update T (Obj.mapFields (·.setIfInBounds 3 Value.none))};rw [<-r2];exact q h2 ⟨fun b o k=>(j2 b fun w=>by rw [w,t2] at k;cases k).trans (k1 b o k),k2,k3.of_keeps fun b o k z=>⟨o,up b o k z,rfl⟩,o,vs,T,o2,_,⟨(j2 e (Ne.symm t3)).trans g1,g2,g3,g4⟩,⟨t1,t2,t3⟩,p1,p4,by simp [hz]⟩ fun b o k z=>⟨o.slots,up b o k z⟩
theorem S9 (hfr:A.frames=some (env::outer)) (hf:env.frame=some L) (x:FD B (env::outer) e c dd .none s.heap) (q:∀h',FD B (env::outer) e c dd (rawInt L) h'->s.heap.UpToSlots h'->Q () {s with heap:=h'}):wpAny M A (noteFrame (.ref e) env) Q E s:=by
 obtain ⟨k1,k2,k3,o,vs,T,oT,ts,⟨g1,g2,g3,g4⟩,⟨t1,t2,t3⟩,u1,u2,u3⟩:=x;obtain ⟨h2,r2,j2,o2,p1,p2,p3,p4⟩:=wD 3 Value.none u1 u2;have up:∀b o,s.heap.get? b=some o->(∀vs,o.data≠.fields vs)->h2.get? b=some o:=fun b o k z=>(j2 b fun w=>by
  rw [w] at k;cases u1.symm.trans k;exact z _ u2).trans k
 unfold noteFrame;simp only [hf];refine wpAny_bind (wpAny_field g1 g4 t1 ?_);rw [if_pos (JK T)];refine wpAny_bind (wpAny_field u1 u2 u3 ?_);rw [if_neg (YW L)];refine wpAny_bind (wpAny_setField u1 u2 (Array.getElem?_eq_some_iff.mp u3).1 ?_);rw [<-r2];have g1':h2.get? e=some o:=(j2 e (Ne.symm t3)).trans g1;subst g2 g3;refine JL (s:={s with heap:=h2}) hfr (k3.of_keeps fun b o k z=>⟨o,up b o k z,rfl⟩) hf g1' (fun b o k=>(j2 b fun w=>by rw [w,t2] at k;cases k).trans (k1 b o k)) k2 g4 (Array.getElem?_eq_some_iff.mp t1).1 fun h' y z=>q h' y fun b o k w=>z b o (up b o k w) w
theorem YX (hfr:A.frames=some (env::outer)) (hf:env.frame=some L) (x:FD B (env::outer) e c dd .none s.heap) (q:∀h',FD B outer e c dd .none h'->s.heap.UpToSlots h'->Q () {s with heap:=h'}):wpAny M A (leaving env (.ref e)) Q E s:=by
 unfold leaving;refine wpAny_bind (S9 hfr hf x fun h1 x1 u1=>o9 (s:={s with heap:=h1}) x1 fun h2 x2 u2=>q h2 ⟨x2.1,x2.2.1,x2.2.2.1.2.2,x2.2.2.2⟩ (u1.trans u2))
theorem JM (hfr:A.frames=some (env::outer)) (hf:env.frame=some L) (hl:s.heap.FunFrames B (env::outer)) (he:s.heap.get? e=some oe) (hB:B.StaysIn s.heap) (hn:B.get? e=none) (hd:oe.data=.fields vs) (hv:vs[1]?=some .none)
  (q:∀h',FD B outer e oe.cls oe.dict .none h'->s.heap.UpToSlots h'->Q () {s with heap:=h'}):wpAny M A (leaving env (.ref e)) Q E s:=by
 unfold leaving noteFrame;simp only [hf];refine wpAny_bind (wpAny_bind (wpAny_field he hd hv ?_));rw [if_neg (by decide)];exact JL hfr hl hf he hB hn hd (Array.getElem?_eq_some_iff.mp hv).1 fun h1 x1 u1=>o9 (s:={s with heap:=h1}) x1 fun h2 x2 u2=>q h2 ⟨x2.1,x2.2.1,x2.2.2.1.2.2,x2.2.2.2⟩ (u1.trans u2)
end
end Mi
end
section
namespace Mi
open PySem PySem.W Builtin Builtin.ObjectAttr
noncomputable abbrev vMr:List Value:=[.type "ValueError",.type "Exception",.type "BaseException",.type "object"]
noncomputable def exC (K:Frag) (C:Addr):Bool:=match K.lookup C with
 | some o=>(match o.cls,o.data,o.slots.toList with
  | .type "type",.cls k,[_,_,_,_,some (.builtin n),_]=>(match k.mro with
   | .ref C'::r=>C'==C&&n == "ValueError.__new__" && !k.hasDel&&k.hasDict&&tailIn K vMr r&&nsOkIn K k.ns
   | _=>false)
  | _,_,_=>false)
 | none=>false
structure ExO (h:Heap) (C:Addr) where
 bm:List Value
 N:Addr
 nm:Str
 qn:Str
 bs:List Value
 sn:List Str
 sub:List Value
 ab:Bool
 col:Option Bool
 dd:Option Addr
 k0:Option Value
 k1:Option Value
 k2:Option Value
 k3:Option Value
 k5:Option Value
 mN:Str->Option Value
 ob:h.get? C=some (excClassObj nm qn C N bs bm true sn sub ab col dd k0 k1 k2 k3 k5 "ValueError.__new__")
 ns:h.Ns N mN
 tl:OwnTail h vMr bm
theorem JN {K:Frag} {h:Heap} {C:Addr} (X:K.In h) (q:exC K C=true):Nonempty (ExO h C):=by
 unfold exC at q;split at q
 ·rename_i o ho;split at q
  ·rename_i k k0 k1 k2 k3 n k5 e1 e2 e3;split at q
   ·rename_i C' r e4;rw [Bool.and_eq_true,Bool.and_eq_true,Bool.and_eq_true,Bool.and_eq_true,Bool.and_eq_true] at q;obtain ⟨⟨⟨⟨⟨q1,q2⟩,q3⟩,q4⟩,q5⟩,q6⟩:=q;have q1:=beq_iff_eq.mp q1;have q2:=beq_iff_eq.mp q2;rw [Bool.not_eq_true'] at q3;subst q1 q2;obtain ⟨oc,od,dt,⟨sl⟩⟩:=o;dsimp only at e1 e2 e3;subst e1 e2 e3;obtain ⟨nm,bs,mro,ns,qn,hd,sn,sub,ab,col,del⟩:=k;dsimp only at e4 q3 q4 q6;subst e4 q3 q4;exact ⟨⟨r,ns,nm,qn,bs,sn,sub,ab,col,od,k0,k1,k2,k3,k5,_,X _ _ ho,.of_isNs (isNs_of_in X q6),tail_of_in X q5⟩⟩
   ·cases q
  ·cases q
 ·cases q
section
variable {prog:Program} {w:World} {A:Around} {E:Value->Shared->Prop} {K:Frag} {C:Addr}
theorem call_exc {h:Heap} {g:Array GenState} {d:Drawn} {t:Nat} {os:OsState} {f:Addr} {us:List Value} {Q:Value->Shared->Prop} (X:K.In h) (q:exC K C=true) (hi:findIn K (.ref C) "__init__" = some (some (.ref f))) (hf:typeIn K (.ref f)=some (.type "function")) (hz:us.length<=sizeLine)
  (hq:wpAny (model prog w) (A.under (.builtin "type.__call__" ⟨.ref C::us,[]⟩)) (call (.ref f) (.ref (h.objs.size+1)::us)) (fun r s'=>r=.none/\Q (.ref (h.objs.size+1)) s') E
   ⟨(h.push {cls:=.type "tuple",data:=.seq us.toArray}).push {cls:=.ref C,data:=.fields #[.ref h.objs.size,.none,.none,.none,.bool false,.none]},g,d,t,os⟩) :
  wpAny (model prog w) A (call (.ref C) us) Q E ⟨h,g,d,t,os⟩:=by
 obtain ⟨⟨bm,N,nm,qn,bs,sn,sub,ab,col,dd,k0,k1,k2,k3,k5,mN,hC,hN,T⟩⟩:=JN X q;have F:=PySem.F.excBase_ValueError;have f1:=tc_lookup;have f2:=tc_bind (.ref C);have ty:(⟨h,g,d,t,os⟩:Shared).TypeIs (.ref C) "type":=⟨_,hC,rfl⟩
 have kk:∀b o,h.get? b=some o->((h.push {cls:=.type "tuple",data:=.seq us.toArray}).push {cls:=.ref C,data:=.fields #[.ref h.objs.size,.none,.none,.none,.bool false,.none]}).get? b=some o:=fun b o e=>Heap.get?_push_of_some _ (Heap.get?_push_of_some _ e)
 have X1:=X.keeps kk;have c1:=kk _ _ hC;have hg:((h.push {cls:=.type "tuple",data:=.seq us.toArray}).push {cls:=.ref C,data:=.fields #[.ref h.objs.size,.none,.none,.none,.bool false,.none]}).get? (h.objs.size+1)=some {cls:=.ref C,data:=.fields #[.ref h.objs.size,.none,.none,.none,.bool false,.none]}:=by heap_get
 have own:(Value.ref C::bm).contains (.ref C)=true:=by simp
 refine wpAny_call (codeAny_of_tree (show wpAny _ _ (callAny (.ref C) _) _ _ _ from ?_))
 repeat (any_goals (first|with_reducible refine wpAny_loadPart_at hC ?_|assumption|wp_step))
 refine ⟨rfl,?_⟩;refine codeAny_call_builtin_at (Code.quiet_builtin _ (by decide +kernel)) entry_typeCall (wpAny_check_type_call_sub hC ?_)
 repeat (first|with_reducible refine wpAny_madeBy_exc hC ?_|with_reducible refine wpAny_loadPart_at hC ?_|wp_step)
 refine codeAny_call_builtin_code (Code.quiet_builtin _ F.quiet) (wpAny_check_new_subU F F.hasB T hC ?_);refine codeAny_exc_new_subU F F.hasB F T hC ?_ hz;show wpAny _ _ _ _ _ (⟨(h.push {cls:=.type "tuple",data:=.seq us.toArray}).push {cls:=.ref C,data:=.fields #[.ref h.objs.size,.none,.none,.none,.bool false,.none]},g,d,t,os⟩:Shared);unfold isInstance
 repeat (first|with_reducible refine wpAny_loadPart_at hg ?_|(with_reducible refine wpAny_isSubtype_exc c1 ?_;rw [own])|wp_step)
 refine (looks_findIn X1 hi).at (M:=model prog w) ?_;refine wpAny_holding (wpAny_bind ((bind_fn X1 _ hf).at (wpAny_bind (wpAny_mono hq (fun r s' hr=>?_) fun _ _ x=>x))));obtain ⟨rfl,hQ⟩:=hr
 wp_walk
 exact hQ
theorem S_ {h:Heap} {g:Array GenState} {d:Drawn} {t:Nat} {os:OsState} {e:Addr} {us:List Value} {oe:Obj} {a0:Addr} {r1 r2 r3 r4 r5:Value} {Q:Value->Shared->Prop} (X:K.In h) (q:exC K C=true) (he:h.get? e=some oe) (hc:oe.cls=.ref C) (hd:oe.data=.fields #[.ref a0,r1,r2,r3,r4,r5])
  (hq:Q .none ⟨(h.push {cls:=.type "tuple",data:=.seq us.toArray}).update e (Obj.mapFields (·.setIfInBounds 0 (.ref h.objs.size))),g,d,t,os⟩) (hz:us.length<=sizeLine) :
  wpAny (model prog w) A (call (.builtin "ValueError.__init__") (.ref e::us)) Q E ⟨h,g,d,t,os⟩:=by
 obtain ⟨⟨bm,N,nm,qn,bs,sn,sub,ab,col,dd,k0,k1,k2,k3,k5,mN,hC,hN,T⟩⟩:=JN X q;have F:=PySem.F.excBase_ValueError;obtain ⟨oc,od,dt,sl⟩:=oe;dsimp only at hc hd;subst hc hd;refine wpAny_call (codeAny_call_builtin F.init.plain F.initEntry (wpAny_check_init_subU F T hC he rfl ?_));have he1:=Heap.get?_push_of_some (h:=h) {cls:=.type "tuple",data:=.seq us.toArray} he
 wp_walk
 exact hq
theorem DN {h:Heap} {l:List Value} (T:OwnTail h vMr l) (self:Value):refuseLoop self "__setattr__" l=pure ():=by
 induction T with
 | base=>exact PySem.F.store_ValueError.passes self
 | own _ _ _ _ ih=>rw [refuseLoop_ref];exact ih
theorem aD3 {h:Heap} {g:Array GenState} {d:Drawn} {t:Nat} {os:OsState} {x:Addr} {o:Obj} {ws:Array Value} {name:Str} {v:Value} {Q:Unit->Shared->Prop} (X:K.In h) (q:exC K C=true) (hs:findIn K (.ref C) "__setattr__" = some (some (.builtin "object.__setattr__"))) (hn:findIn K (.ref C) name=some none)
  (ho:mroIn K C (.type "object")=some true) (hx:h.get? x=some o) (hc:o.cls=.ref C) (hd:o.dict=none) (hw:o.data=.fields ws)
  (hq:∀h' tk,h'.Ns1 h.objs.size (fun y=>if y=name then some v else none)->h'.get? x=some {o with dict:=some h.objs.size}->(∀b u,b≠x->h.get? b=some u->h'.get? b=some u)->Q () ⟨h',g,d,tk,os⟩) :
  wpAny (model prog w) A (setAttr (Value.ref x) name v) Q E (⟨h,g,d,t,os⟩:Shared):=by
 obtain ⟨⟨bm,N,nm,qn,bs,sn,sub,ab,col,dd,k0,k1,k2,k3,k5,mN,hC,hN,T⟩⟩:=JN X q;have SF:=PySem.F.store_ValueError;have hpass:=DN T (.ref x);have I:InstAt h x o C none:=⟨hx,hc,by unfold notCls;rw [hw],by rw [hd];trivial⟩
 refine set_plain X I hs ?_;have sub:Looks (model prog w) h (isInstance (.ref x) (.type "object")) true:=I.type.andThen (looks_mroIn X ho);refine codeAny_call_builtin SF.slot.plain SF.entry (@check_slot (model prog w) _ _ ⟨h,g,d,t+1,os⟩ "object.__setattr__" "object" "__setattr__" (.ref x) [.str name t,v] [] _ SF.kind SF.split sub (SF.args (.ref x) (.str name t) v) ?_);have hm:Looks (model prog w) h (mroOf (.ref C)) (.ref C::bm):=((Looks.ld (part:=none) hC).andThen .now).andThen .now;show wpAny _ _ (Builtin.«object.__setattr__» ⟨[.ref x,.str name t,v],[]⟩) _ _ _;rw [osa_eq,refuse_eq];refine wpAny_bind (wpAny_bind (I.type.here (s:=⟨h,g,d,t+1,os⟩) (wpAny_bind (hm.here ?_))));rw [refuseLoop_ref,hpass];refine wpAny_pure (wpAny_bind (I.type.here (wpAny_bind ((looks_findIn X hn).here (wpAny_bind (wpAny_pure ?_))))));show wpAny _ _ (storeInOwnDict (.ref x) (.ref C) (.str name t) name v false) _ _ (⟨h,g,d,t+1,os⟩:Shared)
 repeat (first|(with_reducible refine wpAny_loadPart_at hx ?_;rw [hc])|wp_step)
 rw [hd,if_neg (by simp [typeHasDict])];split
 ·rename_i z;cases z
 split
 ·rename_i z;rw [hw] at z;cases z
 have hx1:=Heap.get?_push_of_some (h:=h) {cls:=.type "dict",data:=.dict #[]} hx;have ne:x≠h.objs.size:=Nat.ne_of_lt (Heap.lt_size hx);refine wpAny_bind (wpAny_alloc' (wpAny_bind (wpAny_update' hx1 (wpAny_pure ?_))));generalize hh2:((h.push {cls:=.type "dict",data:=.dict #[]}).update x fun o=>{cls:=o.cls,dict:=some h.objs.size,data:=o.data,slots:=o.slots})=h2;have g1:h2.get? h.objs.size=some {cls:=.type "dict",data:=.dict #[]}:=by
  rw [<-hh2];exact (Heap.get?_update_ne _ _ _ _ ne.symm).trans (Heap.get?_push_at rfl rfl)
 have g2:h2.get? x=some {o with dict:=some h.objs.size}:=by
  rw [<-hh2];refine Heap.get?_update_self _ hx1 ?_;obtain ⟨oc,od,dt,sl⟩:=o;dsimp only at hw;subst hw;rfl
 have g3:∀b u,b≠x->h.get? b=some u->h2.get? b=some u:=fun b u hb k=>by
  rw [<-hh2];exact (Heap.get?_update_ne _ _ _ _ hb).trans (Heap.get?_push_of_some _ k)
 have n1:h2.Ns h.objs.size (fun _=>none):=⟨_,#[],_,g1,rfl,fun e he=>absurd he (by simp),fun _=>rfl⟩
 show wpAny _ _ (storeInDict h.objs.size (.str name _) name v) _ _ _;unfold storeInDict;unfold newKeyGuard;refine wpAny_bind (wpAny_pure (wpAny_bind (wpAny_nsSet1 (Heap.Ns1.of_empty n1) fun h' hn' hs'=>?_)));obtain ⟨od,_,_,g4,g5,g6⟩:=hn'.count (Within.cons name v Within.nil);refine wpAny_bind (wpAny_lookBehind g4 (by rw [g5];exact pastItsLine_dict (Nat.le_trans g6 (by rw [List.length_cons,List.length_nil,sizeLine_eq];lia))) ?_)
 wp_walk
 exact hq h' _ hn' ((hs'.2 x ne).trans g2) fun b u hb k=>(hs'.2 b (Nat.ne_of_lt (Heap.lt_size k))).trans (g3 b u hb k)
end
end Mi
end
section
namespace Mi
open PySem L2 PySem.W PySem.SeqAt PySem.Spec PyProof.Rows Builtin Builtin.ObjectAttr
noncomputable def XO0 (a C:Addr) (h:Heap):Prop:=∃t,h.get? a=some {cls:=.ref C,data:=.fields #[.ref t,.none,.none,.none,.bool false,.none]}
noncomputable def XO1 (a C dx:Addr) (h:Heap):Prop:=∃t,h.get? a=some {cls:=.ref C,dict:=some dx,data:=.fields #[.ref t,.none,.none,.none,.bool false,.none]}
theorem XO0.stay {a C:Addr} {h1 h2:Heap} (x:XO0 a C h1) (k:∀o,h1.get? a=some o->h2.get? a=some o):XO0 a C h2:=let ⟨t,e⟩:=x;⟨t,k _ e⟩
theorem XO1.stay {a C dx:Addr} {h1 h2:Heap} (x:XO1 a C dx h1) (k:∀o,h1.get? a=some o->h2.get? a=some o):XO1 a C dx h2:=let ⟨t,e⟩:=x;⟨t,k _ e⟩
theorem XO.stay {a C:Addr} {dx:Option Addr} {h1 h2:Heap} (x:XO a C dx h1) (k:∀o,h1.get? a=some o->h2.get? a=some o):XO a C dx h2:=let ⟨o,e,r⟩:=x;⟨o,k _ e,r⟩
theorem XD.stay {dx:Addr} {fs:List (Str×Str)} {h1 h2:Heap} (x:XD dx fs h1) (k:∀o,h1.get? dx=some o->h2.get? dx=some o):XD dx fs h2:=let ⟨m,n,r⟩:=x;⟨m,n.at k,r⟩
section
variable {P:Program} {w:World} {H:Hp} {h:Heap} {a C dx:Addr} {fs:List (Str×Str)}
theorem aAs (x:XO0 a C h):gJ P w H h a (.ext (XO0 a C)):=⟨x,let ⟨_,e⟩:=x;⟨_,e⟩,fun _ _ y k=>y.stay k⟩
theorem aGg (x:XO1 a C dx h):gJ P w H h a (.ext (XO1 a C dx)):=⟨x,let ⟨_,e⟩:=x;⟨_,e⟩,fun _ _ y k=>y.stay k⟩
theorem aJe {dx:Option Addr} (x:XO a C dx h):gJ P w H h a (.ext (XO a C dx)):=⟨x,let ⟨o,e,_⟩:=x;⟨o,e⟩,fun _ _ y k=>y.stay k⟩
theorem aJf (x:XD dx fs h):gJ P w H h dx (.ext (XD dx fs)):=⟨x,let ⟨_,⟨o,_,_,e,_⟩,_⟩:=x;⟨o,e⟩,fun _ _ y k=>y.stay k⟩
end
noncomputable def CX2 (P:Program) (w:World):CXT:=fun outer H s E e s'=>∃(a C:Addr) (dd:Option Addr) (H1:Hp) (B:Heap),e=.ref a/\s'.os=s.os/\AllBare s'.gens/\FD B outer a (.ref C) dd .none s'.heap/\
 (∀h6:Heap,B.StaysIn h6->s'.heap.UpToSlots h6->Un (L2.frs outer) [] H H1 s.heap h6/\HOk P w H1 h6)/\H1 a=none/\s.heap.get? a=none/\E (.ref C) dd H1
def hid (H:Hp) (a:Addr):Hp:=fun b=>if b=a then none else H b
theorem tD {H:Hp} {a b:Addr} (h:b≠a):hid H a b=H b:=if_neg h
theorem JP {H:Hp} {a:Addr}:hid H a a=none:=if_pos rfl
section
variable {P:Program} {w:World} {K:PySem.W.Frag} {mg:Str->Option Value} {base:Heap} {N:List Str} {qual:Str} {scope:Scope} {f C:Addr} {cd:Value} {A:Around} {outer:List Env} {s:Shared} {H:Hp} {E:XK}
theorem TF {pins:List (Addr×Obj)} {σ:L2.St} {H1:Hp} {s1:Shared} {a dx:Addr} (I:Inv (k_ (CX2 P w) P w K mg base N qual scope f cd A outer s H E) pins σ H1 s1) (ea:H1 a=some (.ext (XO1 a C dx))) (hg:s.heap.get? a=none) (hE:E (.ref C) (some dx) (hid H1 a)) :
  (k_ (CX2 P w) P w K mg base N qual scope f cd A outer s H E).xe (.ref a) s1:=by
 let env:=envOfC qual scope s.heap.objs.size f cd
 have hfr:L2.frs (env::outer)=s.heap.objs.size::L2.frs outer:=by
  unfold L2.frs;rw [List.filterMap_cons];rfl
 have hin:∀v∈(env::outer),∀b,v.frame=some b->b∈a::L2.frs (env::outer):=fun v hv b hb=>List.mem_cons_of_mem _ (List.mem_filterMap.mpr ⟨v,hv,hb⟩)
 have stk:s1.heap.FunFrames base (env::outer):=I.stack;have sfree:∀b∈L2.frs (env::outer),H1 b=none:=I.vI;have u0:Un (L2.frs outer) [] H H1 s.heap s1.heap:=I.base;obtain ⟨⟨t,ht⟩,_⟩:=I.hok a _ ea;show wpAny (model P w) (A.deeper env) (leaving env (.ref a)) (fun _ s''=>CX2 P w outer H s E (.ref a) s'') (fun e' s''=>CX2 P w outer H s E e' s'') s1;refine JM (B:=PySem.W.hideAll s1.heap (a::L2.frs (env::outer))) (L:=s.heap.objs.size) I.ok.frames rfl (PySem.W.funFrames_hide stk hin) ht (fun b o q=>PySem.W.of_hideAll _ q) (PySem.W.hideAll_none _ (by simp)) rfl rfl fun h' x1 x4=>?_
 refine ⟨a,C,some dx,hid H1 a,_,rfl,I.os,I.bare,x1,fun h6 st up=>?_,JP,hg,hE⟩;have na:∀b o,s.heap.get? b=some o->b≠a:=fun b o e z=>by rw [z,hg] at e;cases e
 have k:∀b o,s1.heap.get? b=some o->b≠a->b∉L2.frs (env::outer)->h6.get? b=some o:=fun b o eb h1 hb=>st b o (PySem.W.hideAll_get _ eb (by simp only [List.mem_cons,not_or];exact ⟨h1,hb⟩))
 have up6:s1.heap.UpToSlots h6:=x4.trans up;have nL:∀b o,s.heap.get? b=some o->b∉L2.frs outer->b∉L2.frs (env::outer):=fun b o eb hb z=>by
  rw [hfr] at z;rcases List.mem_cons.mp z with z|z
  ·exact absurd (Heap.lt_size eb) (by rw [z];exact Nat.lt_irrefl _)
  ·exact hb z
 have slot:∀b o,s1.heap.get? b=some o->b∈L2.frs outer->∃sl,h6.get? b=some {o with slots:=sl}:=fun b o eb hb=>by
  obtain ⟨_,o',ho',hd⟩:=stk.mem (show b∈L2.frs (env::outer) by rw [hfr];exact List.mem_cons_of_mem _ hb);rw [eb] at ho';cases ho';exact up6 b o eb hd
 have nt:∀b u,H1 b=some u->(∀φ,u≠.ext φ)->b≠a:=fun b u e1 e2 z=>by rw [z,ea] at e1;cases e1;exact e2 _ rfl
 refine ⟨⟨fun b o eb hn hb hx'=>k b o (u0.keep b o eb hn hb hx') (na b o eb) (nL b o eb hb),fun b o eb hn hb hx'=>?_,fun b o eb hn hx'=>?_,fun b o eb hx'=>?_,fun b xs q=>?_,fun b o u q=>?_,fun b ps q=>?_⟩,fun b u eb=>?_⟩
 ·obtain ⟨sl,e1⟩:=u0.slot b o eb hn hb hx';obtain ⟨sl',e2⟩:=slot b _ e1 hb;exact ⟨sl',e2⟩
 ·rw [tD (na b o eb)];exact u0.free b o eb hn hx'
 ·obtain ⟨o',e1⟩:=u0.there b o eb hx';by_cases hb:b∈L2.frs outer
  ·obtain ⟨sl,e2⟩:=slot b o' e1 hb;exact ⟨_,e2⟩
  ·exact ⟨o',k b o' e1 (na b o eb) (nL b o eb hb)⟩
 ·have e1:=u0.tups b xs q;rw [tD (nt b _ e1 fun φ z=>by cases z)];exact e1
 ·have e1:=u0.frzs b o u q;rw [tD (nt b _ e1 fun φ z=>by cases z)];exact e1
 ·obtain ⟨m1,e1⟩:=u0.tbls b ps q;exact ⟨m1,by rw [tD (nt b _ e1 fun φ z=>by cases z)];exact e1⟩
 ·have hb:b≠a:=fun z=>by rw [z,JP] at eb;cases eb
  rw [tD hb] at eb;refine (I.hok b u eb).stay (fun c v hc q=>k c v q (fun z=>?_) fun z=>?_) (fun c q=>?_) fun c xs q=>?_
  ·rcases hc with hc|hc
   ·exact hb (hc▸z)
   ·rw [z,ea] at hc;cases hc
  ·have:=sfree c z;rcases hc with hc|hc
   ·rw [hc,eb] at this;cases this
   ·rw [hc] at this;cases this
  ·rw [tD (nt c _ q fun φ z=>by cases z)];exact q
  ·rw [tD (nt c _ q fun φ z=>by cases z)];exact q
theorem vB:G4 (CX2 P w) (k_ (CX2 P w) P w K mg base N qual scope f cd A outer s H E) E:=by
 intro pins σ Hm sm e s' I hx;obtain ⟨a,C,dd,H1,B,rfl,os',bare',fly,clo,hn,hgone,hE⟩:=hx
 let env:=envOfC qual scope s.heap.objs.size f cd
 have hfr:L2.frs (env::outer)=s.heap.objs.size::L2.frs outer:=by
  unfold L2.frs;rw [List.filterMap_cons];rfl
 have u0:Un (L2.frs outer) [] H Hm s.heap sm.heap:=I.base;show wpAny (model P w) (A.deeper env) (leaving env (.ref a)) (fun _ s''=>CX2 P w outer H s E (.ref a) s'') (fun e' s''=>CX2 P w outer H s E e' s'') s';refine YX (L:=s.heap.objs.size) I.ok.frames rfl fly fun h' x1 x4=>?_
 have hgone0:s.heap.get? a=none:=by
  cases q:s.heap.get? a with
  | none=>rfl
  | some o=>
   obtain ⟨o',e1⟩:=u0.there a o q (by simp);rw [hgone] at e1;cases e1
 refine ⟨a,C,dd,H1,B,rfl,os'.trans I.os,bare',x1,fun h6 st up=>?_,hn,hgone0,hE⟩;obtain ⟨u2,hok⟩:=clo h6 st (x4.trans up);have nL:∀b o,s.heap.get? b=some o->b∉L2.frs outer->b∉L2.frs (env::outer):=fun b o eb hb z=>by
  rw [hfr] at z;rcases List.mem_cons.mp z with z|z
  ·exact absurd (Heap.lt_size eb) (by rw [z];exact Nat.lt_irrefl _)
  ·exact hb z
 refine ⟨⟨fun b o eb hn hb hx'=>u2.keep b o (u0.keep b o eb hn hb hx') (u0.free b o eb hn hx') (nL b o eb hb) (by simp),fun b o eb hn hb hx'=>?_,fun b o eb hn hx'=>?_,fun b o eb hx'=>?_,fun b xs q=>u2.tups b xs (u0.tups b xs q),fun b o u q=>u2.frzs b o u (u0.frzs b o u q),fun b ps q=>?_⟩,hok⟩
 ·obtain ⟨sl,e1⟩:=u0.slot b o eb hn hb hx';obtain ⟨sl',e2⟩:=u2.slot b _ e1 (u0.free b o eb hn hx') (show b∈L2.frs (env::outer) by rw [hfr];exact List.mem_cons_of_mem _ hb) (by simp);exact ⟨sl',e2⟩
 ·obtain ⟨o',e1⟩:=u0.there b o eb hx';exact u2.free b o' e1 (u0.free b o eb hn hx') (by simp)
 ·obtain ⟨o',e1⟩:=u0.there b o eb hx';exact u2.there b o' e1 (by simp)
 ·obtain ⟨m1,q1⟩:=u0.tbls b ps q;obtain ⟨m2,q2⟩:=u2.tbls b _ q1;exact ⟨m1++m2,by rw [<-Array.append_assoc];exact q2⟩
end
structure XI (K:Frag) (C f:Addr):Prop where
 cl:exC K C=true
 init:findIn K (.ref C) "__init__" = some (some (.ref f))
 fn:isFn K (.ref f)=true
 kp:keepIn K (.ref C)=true
 sa:findIn K (.ref C) "__setattr__" = some (some (.builtin "object.__setattr__"))
 ob:mroIn K C (.type "object")=some true
noncomputable def qO (C:Addr) (fl:List Str):Sp:=fun vs H Q _=>∃(e:Addr) (ts:List Str),vs=.ref e::ts.map V.str/\ts.length=fl.length/\H e=some (.ext (XO0 e C))/\∀dx,H dx=none->Q .non (upd (upd H dx (.ext (XD dx (fl.zip ts)))) e (.ext (XO1 e C dx)))
theorem aGh {H:Hp} {a:Addr} {o:HO} (e:H a=some o):upd H a o=H:=by
 funext b
 unfold upd;split
 ·rename_i z;rw [z,e]
 ·rfl
section
variable {X:Cx} {C f:Addr} {fl:List Str} {k:Nat} {fd:FuncData} {ps:List Str} {pins:List (Addr×Obj)} {σ:L2.St} {H:Hp} {s:Shared} {us:List Value} {ts:List Str}
theorem aD4 {Q:Value->Shared->Prop} (M:XI X.K C f) (F:qW X.prog X.w X.K X.mg X.base CX0 k f fd ps (qO C fl)) (hr:j5 (k+1) X.A) (hb:Binds X.K fd ps []) (I:Inv X pins σ H s) (r:Vals (ts.map V.str) us) (hl:ts.length=fl.length) (hz:us.length<=sizeLine) (hex:X.ex=[])
  (h:∀a dx s2,X.s₀.heap.get? a=none->H a=none->H dx=none->dx≠a->Inv X pins σ (upd (upd H dx (.ext (XD dx (fl.zip ts)))) a (.ext (XO1 a C dx))) s2->Q (.ref a) s2) :
  wpAny (model X.prog X.w) X.A (call (.ref C) us) Q X.xe s:=by
 obtain ⟨hh,g,d,t,os⟩:=s;have I:Inv X pins σ H ⟨hh,g,d,t,os⟩:=I;generalize hot:({cls:=.type "tuple",data:=.seq us.toArray}:Obj)=ot;generalize hoe:({cls:=.ref C,data:=.fields #[.ref hh.objs.size,.none,.none,.none,.bool false,.none]}:Obj)=oe;have fa:H (hh.objs.size+1)=none:=I.hok.fresh (Nat.le_succ _);have I1:Inv X pins σ H ⟨hh.push ot,g,d,t,os⟩:=I.kept (t':=t) fun b u q=>Heap.get?_push_of_some _ q
 have ge:((hh.push ot).push oe).get? (hh.objs.size+1)=some oe:=Heap.get?_push_at (by rw [Heap.size_push]) (by rw [<-hoe];rfl);have I2:Inv X pins σ (upd H (hh.objs.size+1) (.ext (XO0 (hh.objs.size+1) C))) ⟨(hh.push ot).push oe,g,d,t,os⟩:=
  I1.laid (a:=hh.objs.size+1) (t':=t) (fun b u q=>Heap.get?_push_of_some _ q) (Nat.le_of_eq (Heap.size_push _ _)) (aAs ⟨hh.objs.size,by rw [ge,hoe]⟩)
 have ng:X.s₀.heap.get? (hh.objs.size+1)=none:=by
  cases z:X.s₀.heap.get? (hh.objs.size+1) with
  | none=>rfl
  | some o=>
   obtain ⟨o',e1⟩:=I.base.there _ o z (by rw [hex];simp);exact absurd (Heap.lt_size e1) (by show ¬hh.objs.size+1<hh.objs.size;lia)
 have r2:Vals (V.ref (hh.objs.size+1)::ts.map V.str) (Value.ref (hh.objs.size+1)::us):=.cons rfl r;have sp:qO C fl (V.ref (hh.objs.size+1)::ts.map V.str) (upd H (hh.objs.size+1) (.ext (XO0 (hh.objs.size+1) C))) (fun v H'=>v=.non/\∃dx,H dx=none/\dx≠hh.objs.size+1/\H'=upd (upd H dx (.ext (XD dx (fl.zip ts)))) (hh.objs.size+1) (.ext (XO1 (hh.objs.size+1) C dx))) (fun _ _ _=>False):=
  ⟨_,ts,rfl,hl,aL,fun dx hd=>⟨rfl,dx,by
   have ne:dx≠hh.objs.size+1:=fun z=>by rw [z,aL] at hd;cases hd
   rw [bB ne] at hd;refine ⟨hd,ne,?_⟩
   funext b
   unfold upd;split
   ·rfl
   ·rfl⟩⟩
 have hln:(Value.ref (hh.objs.size+1)::us++[]).length=ps.length:=by
  rw [List.append_nil];have e:=r2.length;rw [F.len _ _ _ _ sp] at e;exact e.symm
 have hb':=hb ⟨(hh.push ot).push oe,g,d,t,os⟩ (Value.ref (hh.objs.size+1)::us) I2.kIn hln;rw [List.append_nil] at hb';refine call_exc I.kIn M.cl M.init (beq_iff_eq.mp M.fn) hz ?_;rw [hot,hoe];refine wpAny_call (codeAny_mono (F.run _ X.stack _ _ ⟨Value.ref (hh.objs.size+1)::us,[]⟩ (Value.ref (hh.objs.size+1)::us) _ _ _ (hr.make C us []) (I2.env0.make C us []) hb' r2 sp) fun r s' hq=>?_);cases r with
 | error e=>exact hq.elim
 | ok fl=>
  cases fl with
  | ret u=>
   obtain ⟨v,H',I3,rv,ev,dx,e1,e2,e3⟩:=I2.after hq;subst ev e3;exact ⟨rv,h _ dx s' ng fa e1 e2 I3⟩
  | next=>exact False.elim hq
  | brk=>exact False.elim hq
  | cont=>exact False.elim hq
end
noncomputable def tBase (C:Addr) (t:TA):TE:=fun σ H Q=>t σ H fun vs H1=>∃a vs',vs=.ref a::vs'/\vs'.length<=sizeLine/\H1 a=some (.ext (XO0 a C))/\Q .non H1
theorem TJ {X:Cx} {M C:Addr} {x:Str} {np ap cp:Pos} {e:Expr} {es:List Expr} {t:TA} (q:exC X.K C=true) (hg:Gl X x) (hm:X.mg x=some (.ref M)) (hga:specialIn X.K (.ref M) "__getattribute__" = some (some (.builtin "type.__getattribute__"))) (hr:readsIn X.K M (.type "type")=true)
  (hf:findCls X.K (.ref M) (.type "type") "__init__" = some (.val (.builtin "ValueError.__init__"))) (ha:PA X (e::es) t) (hdb:nDb x:=by decide) (he:starEach (e::es) X.env=(false,eval e X.env)::starEach es X.env:=by rfl) (hpl:(backTo cp (starEach es X.env)).any (·.1)=false:=by rfl)
  {pl:Sem Bool} (ht:eval (.Call (.Attribute (.Name x np) "__init__" ap) (e::es) [] cp) X.env=(do
   let ov <- eval (.Name x np) X.env
   standAt ap.atName
   let (f,first) <- holding [ov] (getMethod ov "__init__" pl)
   callWith cp f first (backTo cp (starEach (e::es) X.env)) (backToKw cp (keywordEach [] X.env))):=by rfl):PE X (.Call (.Attribute (.Name x np) "__init__" ap) (e::es) [] cp) (tBase C t):=by
 intro pins s σ H Q I h;refine methodCall_KW (pl:=pl) (nQ I hg hm ?_ hdb) ht;refine method_cls I.kIn hga (cls_value I.kIn hr hf rfl ?_);refine PyProof.Rows.callWith_builtin1 (thn (ha cp pins _ σ H _ (I.tok _) h) fun us s1 ⟨vs,H1,I1,r1,a,vs',ev,hz,ea,q1⟩=>?_) he hpl;subst ev;obtain ⟨us,rfl,r5⟩:∃us2,us=Value.ref a::us2/\Vals vs' us2:=by
  cases r1 with
  | cons r0 r1=>cases r0;exact ⟨_,rfl,r1⟩
 obtain ⟨⟨t0,ht0⟩,_⟩:=I1.hok a _ ea;obtain ⟨hh,g,d,t,os⟩:=s1;refine S_ (us:=us) I1.kIn q ht0 rfl rfl ?_ (by rw [<-r5.length];exact hz);generalize hot:({cls:=.type "tuple",data:=.seq us.toArray}:Obj)=ot;have I2:Inv X pins σ H1 ⟨hh.push ot,g,d,t,os⟩:=I1.kept (t':=t) fun b u q=>Heap.get?_push_of_some _ q
 have e2:(hh.push ot).get? a=some _:=Heap.get?_push_of_some _ ht0;obtain ⟨h3,r3,k3,o3,g3,c3,d3,f3⟩:=wD 0 (.ref hh.objs.size) e2 rfl;rw [<-r3];have g4:h3.get? a=some {cls:=.ref C,data:=.fields #[.ref hh.objs.size,.none,.none,.none,.bool false,.none]}:=by
  rw [r3];exact Heap.get?_update_self _ e2 rfl
 have I3:Inv X pins σ (upd H1 a (.ext (XO0 a C))) ⟨h3,g,d,t,os⟩:=I2.write (x:=a) (e:=a) (t':=t) (by rw [ea];exact True.intro) (.inl rfl) (fun b u hb z=>(k3 b hb).trans z) ⟨_,g4⟩ (aAs ⟨_,g4⟩);rw [aGh ea] at I3;exact ⟨.non,H1,I3,rfl,q1⟩
noncomputable def aGi (C:Addr) (f:Str) (ta tv:TE):TS:=fun D σ H=>tv σ H fun y H1=>ta σ H1 fun x H2=>∃(a:Addr) (t:Str),x=.ref a/\y=.str t/\H2 a=some (.ext (XO0 a C))/\∀dx,H2 dx=none->D.nx σ (upd (upd H2 dx (.ext (XD dx [(f,t)]))) a (.ext (XO1 a C dx)))
theorem TQ {X:Cx} {C fi:Addr} {f:Str} {o value:Expr} {pos' pos:Pos} {ta tv:TE} (M:XI X.K C fi) (hn:findIn X.K (.ref C) f=some none) (ha:PE X o ta) (hv:PE X value tv) (hs:swapsWith value (some (.Attribute o f pos')) pos.line X.env=pure false:=by rfl):PS X (.Assign [.Attribute o f pos'] value pos) (aGi C f ta tv):=by
 intro pins s σ H D I h;refine plainObj_wpAny_Assign_Attribute (thn (hv pins s σ H _ I h) fun u s1 ⟨y,H1,I1,ry,q⟩=>thn (ha pins s1 σ H1 _ I1 q) fun ov s2 ⟨x,H2,I2,rx,a,t,ex,ey,ea,q2⟩=>?_) hs;subst ex ey;obtain rfl:ov=Value.ref a:=rx;obtain ⟨tk,rfl⟩:∃tk,u=Value.str t tk:=ry;obtain ⟨⟨t0,ht0⟩,_⟩:=I2.hok a _ ea;obtain ⟨hh,g,d,tt,os⟩:=s2;refine aD3 I2.kIn M.cl M.sa hn M.ob ht0 rfl rfl rfl fun h' tk' n1 g1 k1=>?_
 have ne:hh.objs.size≠a:=Nat.ne_of_gt (Heap.lt_size ht0);have fr:H2 hh.objs.size=none:=I2.hok.fresh (Nat.le_refl _);have hn1:upd H2 a (.ext (XO1 a C hh.objs.size)) hh.objs.size=none:=by rw [bB ne];exact fr
 have hg1:hh.get? hh.objs.size=none:=Heap.get?_none_of_le (Nat.le_refl _);have mu:L2.Mut (H2 a):=by rw [ea];exact True.intro
 have xd:XD hh.objs.size [(f,t)] h':=by
  refine ⟨_,n1,fun g hg=>?_,fun g=>?_⟩
  ·by_cases z:g=f
   ·simp [z]
   ·simp [z] at hg
  ·by_cases z:g=f
   ·subst z;rw [List.lookup_cons_self];exact ⟨tk,if_pos rfl⟩
   ·rw [List.lookup_cons,beq_eq_false_iff_ne.mpr z];exact if_neg z
 have I3:Inv X pins σ (upd (upd H2 a (.ext (XO1 a C hh.objs.size))) hh.objs.size (.ext (XD hh.objs.size [(f,t)]))) ⟨h',g,d,tk',os⟩:=
  I2.un (t':=tk') (aAj (Un.write mu (.inl rfl) (fun b u hb z=>k1 b u hb z) ⟨_,g1⟩) hg1 hn1) (RN (I2.hok.write mu (.inl rfl) (fun b u hb z=>k1 b u hb z) ⟨_,g1⟩ (aGg ⟨t0,g1⟩)) hn1 (aJf xd))
 have e:upd (upd H2 a (.ext (XO1 a C hh.objs.size))) hh.objs.size (.ext (XD hh.objs.size [(f,t)]))=upd (upd H2 hh.objs.size (.ext (XD hh.objs.size [(f,t)]))) a (.ext (XO1 a C hh.objs.size)):=by
  funext b
  unfold upd;by_cases h1:b=a
  ·have h2:b≠hh.objs.size:=fun z=>ne (z.symm.trans h1)
   rw [if_neg h2,if_pos h1,if_pos h1]
  ·rw [if_neg h1,if_neg h1]
 rw [e] at I3;exact ⟨σ,_,I3,q2 hh.objs.size fr⟩
end Mi
end
section
namespace Mi
open PySem L2 PySem.W PySem.SeqAt PySem.Spec PyProof.Rows
noncomputable def noE {α:Type} (f:List D->Res α):List D->Res α:=fun ρ=>match f ρ with|.ok a=>.ok a|_=>.bad
theorem cF {α:Type} {f:List D->Res α} {ρ:List D} {a:α} (h:f ρ=.ok a):noE f ρ=.ok a:=by unfold noE;rw [h]
theorem o_ {α:Type} {f:List D->Res α} {ρ:List D}:(∃a,f ρ=.ok a/\noE f ρ=.ok a)\/noE f ρ=.bad:=by
 unfold noE;cases f ρ with
 | ok a=>exact .inl ⟨a,rfl,rfl⟩
 | err c as=>exact .inr rfl
 | bad=>exact .inr rfl
def noT (t:D->List D->Res (List D)):D->List D->Res (List D):=fun x=>noE (t x)
noncomputable def TV:List D->Option (List Str)
 | []=>some []
 | .str t::r=>(TV r).map (t::·)
 | _=>none
noncomputable def iU (c:Str) (fl:List Str) (fa:FA):FS:=fun ρ=>do
 let ds <- fa ρ
 match TV ds with
 | some ts=>if ts.length=fl.length then .err c [.exc c (fl.zip ts)] else .bad
 | none=>.bad
variable [KFrag]
theorem JQ {P:Addr->Prop} {H:Hp}:∀{ds:List D} {ts:List Str} {vs:List V},TV ds=some ts->bR P H vs ds->vs=ts.map V.str
 | [],_,_,h,.nil=>by cases h;rfl
 | d::r,ts,_,h,.cons r1 t=>by
  cases d with
  | str x=>
   unfold TV at h;obtain ⟨ts',h1,rfl⟩:=Option.map_eq_some_iff.mp h;cases r1;rw [JQ h1 t];rfl
  | _=>cases h
noncomputable def YZ (own:Nat->Bool) (E:XK) (σ:L2.St) (H:Hp) (c:Str) (as:List D):Prop:=∃fs C,as=[.exc c fs]/\nsIn KFrag.K mainGlobals c=some (some (.ref C))/\∀σ' H' dx,KU own σ H σ' H'->XDs H' fs dx->E (.ref C) dx H'
noncomputable def kZ (own:Nat->Bool) (E:XK) (D:Ends) (σ:L2.St) (H:Hp):Res Fl->Prop
 | .ok fl=>kS own D σ H fl
 | .err c as=>YZ own E σ H c as
 | .bad=>False
noncomputable def tZ (own:Nat->Bool) (E:XK) (f:FS):TS:=fun D σ H=>∃ρ,ES own H σ ρ/\kZ own E D σ H (f ρ)
noncomputable def zA (E:XK) (H:Hp) (c:Str) (as:List D):Prop:=∃fs C,as=[.exc c fs]/\nsIn KFrag.K mainGlobals c=some (some (.ref C))/\∀H' dx,cJ H H'->XDs H' fs dx->E (.ref C) dx H'
noncomputable def kZE (E:XK) (H:Hp) (Q:VK):Res D->Prop
 | .ok d=>kR H d true Q
 | .err c as=>zA E H c as
 | .bad=>False
def gZ (E:XK) (f:FE):TE:=fun σ H Q=>∃ρ,ER H σ ρ/\kZE E H Q (f ρ)
noncomputable def spZ (f:List D->Res D) (n:Nat):Sp:=fun vs H Q E=>∃ds,ds.length=n/\bR All H vs ds/\kZE E H Q (f ds)
noncomputable def n_ (P:Program) (w:World) (K:PySem.W.Frag) (mg:Str->Option Value) (base:Heap) (k:Nat) (x:Str) (n:Nat) (f:List D->Res D):Prop:=
 ∃(fad:Addr) (fd:FuncData) (ps:List Str),qW P w K mg base (CX2 P w) k fad fd ps (spZ f n)/\mg x=some (.ref fad)/\PySem.W.keepIn K (.ref fad)=true/\Binds K fd ps []
theorem n_.cal {P:Program} {w:World} {K:PySem.W.Frag} {mg:Str->Option Value} {base:Heap} {k:Nat} {x:Str} {n:Nat} {f:List D->Res D} (Z:n_ P w K mg base k x n f):jU P w K mg base k x n f:=by
 obtain ⟨fad,fd,ps,F,hm,hk,hb⟩:=Z;have go:∀{vs H Q E},spD f n vs H Q E->spZ f n vs H Q (fun _ _ _=>False):=fun ⟨ds,d,h1,r,h,q⟩=>⟨ds,h1,r,by rw [h];exact q⟩
 refine ⟨fad,fd,ps,⟨fun vs H Q E h=>F.len vs H Q _ (go h),fun A outer s H args us vs Q E hr he hb hv h=>codeAny_mono (F.run A outer s H args us vs Q _ hr he hb hv (go h)) fun r s' hq=>?_⟩,hm,hk,hb⟩;cases r with
 | ok fl=>cases fl <;> exact hq
 | error e=>
  obtain ⟨_,_,_,_,_,_,_,_,_,_,_,_,z⟩:=hq;exact z.elim
section
variable {own:Nat->Bool} {E:XK} {D':Ends} {σ σ':L2.St} {H H':Hp}
theorem YZ.step {c:Str} {as:List D} (k:KU own σ H σ' H') (h:YZ own E σ H c as):YZ own E σ' H' c as:=let ⟨fs,C,h1,h2,h3⟩:=h;⟨fs,C,h1,h2,fun σ2 H2 dx k2 x=>h3 σ2 H2 dx (k.trans k2) x⟩
theorem kZ.step {r:Res Fl} (k:KU own σ H σ' H') (h:kZ own E D' σ H r):kZ own E D' σ' H' r:=by
 cases r with
 | ok fl=>exact kS.step k h
 | err c as=>exact YZ.step k h
 | bad=>exact h
theorem YZ.expr {c:Str} {as:List D} (h:YZ own E σ H c as):zA E H c as:=let ⟨fs,C,h1,h2,h3⟩:=h;⟨fs,C,h1,h2,fun H' dx sm x=>h3 σ H' dx (.same sm) x⟩
end
section
variable {own:Nat->Bool} {E:XK} {X:Cx} {st:Stmt} {rest s1 s2:List Stmt} {f g:FS} {c e:Expr} {gc:FT} {pos pos':Pos} {fe:FE}
theorem mG (h:PS X.nox st (tS own f)):PS X st (tZ own E (noE f)):=PS.imp (PS.nox h) fun D σ H ⟨ρ,es,k⟩=>by
 rcases o_ (f:=f) (ρ:=ρ) with ⟨fl,h1,h2⟩|h2
 ·rw [h2] at k;exact ⟨ρ,fl,es,h1,k⟩
 ·rw [h2] at k;exact k.elim
theorem Y0:PSs X [] (tZ own E fH):=PSs.imp (b7 (own:=own)) fun D σ H ⟨ρ,es,k⟩=>⟨ρ,_,es,rfl,k⟩
theorem wF (h:PS X st (tZ own E f)):PSs X [st] (tZ own E f):=nR h
theorem jF (h1:PS X st (tZ own E f)) (h2:PSs X rest (tZ own E g)):PSs X (st::rest) (tZ own E (aQ f g)):=PSs.imp (kY h1 h2) fun D σ H ⟨ρ,es,k⟩=>by
 refine ⟨ρ,es,?_⟩;cases hf:f ρ with
 | ok r=>
  cases r with
  | nx ρ'=>
   have e:aQ f g ρ=g ρ':=by unfold aQ;rw [hf];rfl
   rw [e] at k;exact fun σ' H' ku E'=>⟨ρ',E',k.step ku⟩
  | bk ρ'=>
   have e:aQ f g ρ=.ok (.bk ρ'):=by unfold aQ;rw [hf];rfl
   rw [e] at k;exact k
  | ct ρ'=>
   have e:aQ f g ρ=.ok (.ct ρ'):=by unfold aQ;rw [hf];rfl
   rw [e] at k;exact k
  | rt d=>
   have e:aQ f g ρ=.ok (.rt d):=by unfold aQ;rw [hf];rfl
   rw [e] at k;exact k
 | err c as=>
  have e:aQ f g ρ=.err c as:=by unfold aQ;rw [hf];rfl
  rw [e] at k;exact k
 | bad=>
  have e:aQ f g ρ=.bad:=by unfold aQ;rw [hf];rfl
  rw [e] at k;exact k
theorem aJg (hc:PT X c (gT gc)) (ha:PSs X s1 (tZ own E f)) (hb:PSs X s2 (tZ own E g)):PS X (.If c s1 s2 pos) (tZ own E (sIf (noE gc) f g)):=PS.imp (aBi hc ha hb) fun D σ H ⟨ρ,es,k⟩=>by
 rcases o_ (f:=gc) (ρ:=ρ) with ⟨b,h1,h2⟩|h2
 ·have e:sIf (noE gc) f g ρ=if b then f ρ else g ρ:=by unfold sIf;rw [h2];rfl
  rw [e] at k;refine ⟨ρ,b,es.er,h1,fun H' sm=>?_⟩;cases b with
  | true=>rw [if_pos rfl];rw [if_pos rfl] at k;exact ⟨ρ,es.same sm,k.step (.same sm)⟩
  | false=>rw [if_neg (by simp)];rw [if_neg (by simp)] at k;exact ⟨ρ,es.same sm,k.step (.same sm)⟩
 ·have e:sIf (noE gc) f g ρ=.bad:=by unfold sIf;rw [h2];rfl
  rw [e] at k;exact k.elim
theorem aJh {xc:FXT} (hc:PT X c (gXT own xc)) (ha:PSs X s1 (tZ own E f)) (hb:PSs X s2 (tZ own E g)):PS X (.If c s1 s2 pos) (tZ own E (YG (noE xc) f g)):=PS.imp (aBi hc ha hb) fun D σ H ⟨ρ,es,k⟩=>by
 rcases o_ (f:=xc) (ρ:=ρ) with ⟨⟨b,ρ1⟩,h1,h2⟩|h2
 ·have e:YG (noE xc) f g ρ=if b then f ρ1 else g ρ1:=by unfold YG;rw [h2];rfl
  rw [e] at k;refine ⟨ρ,b,ρ1,es,h1,fun H' ku E1 ns=>?_⟩;cases b with
  | true=>rw [if_pos rfl];rw [if_pos rfl] at k;exact ⟨ρ1,E1,k.step ku⟩
  | false=>rw [if_neg (by simp)];rw [if_neg (by simp)] at k;exact ⟨ρ1,E1,k.step ku⟩
 ·have e:YG (noE xc) f g ρ=.bad:=by unfold YG;rw [h2];rfl
  rw [e] at k;exact k.elim
theorem aGj {i:Nat} {x:Str} {o:Bool} (ho:own i=o) (hN:X.N.Nodup) (hi:X.N[i]?=some x) (hx:Loc X.env.scope x) (he:PE X e (gZ E fe)) (hs:swapsWith e (some (.Name x pos')) pos.line X.env=pure false:=by rfl) (hf:X.fn x=true\/X.env.scope.names.lookup x=some .local:=by first|exact .inl rfl|exact .inr rfl|assumption) :
  PS X (.Assign [.Name x pos'] e pos) (tZ own E (bD o i fe true)):=PS.imp (uR hN hi hx he hs hf) fun D σ H ⟨ρ,es,k⟩=>by
 refine ⟨ρ,es.er,?_⟩;cases hfe:fe ρ with
 | ok d=>
  have e:bD o i fe true ρ=bD o i (fun _=>.ok d) true ρ:=by unfold bD;rw [hfe]
  rw [e] at k;cases hs2:bD o i (fun _=>.ok d) true ρ with
  | ok fl=>
   rw [hs2] at k;obtain ⟨ρ',d',_,h1,q⟩:=vX (own:=own) (fe:=fun _=>.ok d) (re:=true) (D':=D) (σ:=σ) (H:=H) ho ⟨ρ,fl,es,hs2,k⟩;cases h1;exact q
  | err c as=>
   exfalso;unfold bD at hs2;rw [Res.aK] at hs2;generalize (if o=true then true&&inner d else true||d.pure)=b at hs2;cases b <;> cases hs2
  | bad=>rw [hs2] at k;exact k.elim
 | err c as=>
  have e:bD o i fe true ρ=.err c as:=by unfold bD;rw [hfe];rfl
  rw [e] at k;exact YZ.expr k
 | bad=>
  have e:bD o i fe true ρ=.bad:=by unfold bD;rw [hfe];rfl
  rw [e] at k;exact k.elim
theorem aGk (he:PE X e (gZ E fe)) (hs:swapsWith e none pos.line X.env=pure false:=by rfl):PS X (.Expr e pos) (tZ own E (pN fe)):=PS.imp (pJ he hs) fun D σ H ⟨ρ,es,k⟩=>by
 refine ⟨ρ,es.er,?_⟩;cases hfe:fe ρ with
 | ok d=>
  have e:pN fe ρ=.ok (.nx ρ):=by unfold pN;rw [hfe];rfl
  rw [e] at k;exact fun v H' s r n=>k σ H' (.same s) (es.same s)
 | err c as=>
  have e:pN fe ρ=.err c as:=by unfold pN;rw [hfe];rfl
  rw [e] at k;exact YZ.expr k
 | bad=>
  have e:pN fe ρ=.bad:=by unfold pN;rw [hfe];rfl
  rw [e] at k;exact k.elim
end
section
variable {own:Nat->Bool} {E:XK}
theorem TX {K:PySem.W.Frag} {g:TG} {t:D->List D->Res (List D)} {body:FS} {D':Ends} {J:It} {items:List D} {σ:L2.St} {H1:Hp} {ρ:List D} {rr:Res Fl} (tg:TgS own g t) (es:ES own H1 σ ρ) (hJ:ItQ K (fun a=>¬Own own σ a) J H1 items) (hf:nC (noT t) body items ρ=rr) (q:kZ own E D' σ H1 rr) :
  ∃W:Nat->Nat->L2.St->Hp->Prop,(∃m,W 0 m σ H1)/\∀i m σ H,W i m σ H->
   (J.stop i H/\D'.nx σ H)\/(J.go i H/\∃N:L2.St->Hp->Prop,(∀σ' H',N σ' H'->∃m',m'<m/\W (i+1) m' σ' H')/\∀x H',J.yld i H x H'->g x σ H' fun σ2 H2=>tZ own E body {D' with nx:=N,ct:=N,bk:=D'.nx} σ2 H2):=by
 refine ⟨fun i m σ' H'=>m=items.length-i/\i<=items.length/\ItQ K (fun a=>¬Own own σ' a) J H' items/\∃ρ',ES own H' σ' ρ'/\nC (noT t) body (items.drop i) ρ'=rr/\kZ own E D' σ' H' rr,⟨items.length,rfl,Nat.zero_le _,hJ,ρ,es,hf,q⟩,?_⟩;rintro i m σ' H' ⟨rfl,hi,hJ',ρ',E',hf',q'⟩;rcases Nat.lt_or_ge i items.length with hlt|hge
 ·refine .inr ?_;have e:items[i]?=some items[i]:=List.getElem?_eq_getElem hlt;obtain ⟨g1,g2⟩:=hJ'.go e;rw [List.drop_eq_getElem_cons hlt] at hf';rcases o_ (f:=t items[i]) (ρ:=ρ') with ⟨ρ1,h1,h2⟩|h2
  ·have hf2:(do let r <- body ρ1;match r with|.nx ρ'=>nC (noT t) body (items.drop (i+1)) ρ'|.ct ρ'=>nC (noT t) body (items.drop (i+1)) ρ'|.bk ρ'=>.ok (.nx ρ')|.rt d=>.ok (.rt d):Res Fl)=rr:=by
    rw [<-hf'];show _=(noE (t items[i]) ρ' >>= _);rw [h2];rfl
   refine ⟨g1,fun σ2 H2=>ItQ K (fun a=>¬Own own σ2 a) J H2 items/\∃ρ',ES own H2 σ2 ρ'/\nC (noT t) body (items.drop (i+1)) ρ'=rr/\kZ own E D' σ2 H2 rr,fun σ2 H2 ⟨n1,n2⟩=>⟨items.length-(i+1),by lia,rfl,hlt,n1,n2⟩,fun x H2 hy=>?_⟩;obtain ⟨sH,rx⟩:=g2 x H2 hy;have ks:KU own σ' H' σ' H2:=fun a o e n=>⟨sH a o e,n⟩
   have hJ':=hJ'.ku ks E';have q':=q'.step ks;have E':=E'.same sH;refine tg x items[i] ρ' ρ1 σ' H2 _ E' rx h1 fun σ2 E2 hO=>?_
   have k0:KU own σ' H2 σ2 H2:=fun a o e n=>⟨e,by rw [hO];exact n⟩
   have hJ2:=hJ'.ku k0 E';have q2:=q'.step k0;refine ⟨ρ1,E2,?_⟩;cases hb:body ρ1 with
   | ok r=>
    rw [hb] at hf2;cases r with
    | nx ρ2=>exact fun σ3 H3 k3 E3=>⟨hJ2.ku k3 E2,ρ2,E3,hf2,q2.step k3⟩
    | ct ρ2=>exact fun σ3 H3 k3 E3=>⟨hJ2.ku k3 E2,ρ2,E3,hf2,q2.step k3⟩
    | bk ρ2=>
     have hf2:Res.ok (Fl.nx ρ2)=rr:=hf2;subst hf2;exact fun σ3 H3 k3 E3=>q2 σ3 H3 k3 E3
    | rt d=>
     have hf2:Res.ok (Fl.rt d)=rr:=hf2;subst hf2;exact q2
   | err c as=>
    rw [hb] at hf2;have hf2:Res.err c as=rr:=hf2;subst hf2;exact q2
   | bad=>
    rw [hb] at hf2;have hf2:Res.bad=rr:=hf2;subst hf2;exact q2
  ·have hf2:Res.bad=rr:=by
    rw [<-hf'];show _=(noE (t items[i]) ρ' >>= _);rw [h2];rfl
   subst hf2;exact q'.elim
 ·refine .inl ⟨hJ'.stop hge,?_⟩;rw [List.drop_eq_nil_of_le hge] at hf';have hf':Res.ok (Fl.nx ρ')=rr:=hf';subst hf';exact q' σ' H' (fun a o e n=>⟨e,n⟩) E'
end
section
variable {P:Program} {w:World} {K:PySem.W.Frag} {mg:Str->Option Value} {base:Heap} {N:List Str} {qual:Str} {scope:Scope} {fad C:Addr} {cd:Value} {A:Around} {outer:List Env} {s:Shared} {H:Hp} {E:XK} {own:Nat->Bool} {pos:Pos}
theorem aGl {tg:Expr} {body:List Stmt} {g:TG} {t:D->List D->Res (List D)} {i:Nat} {x:Str} {px:Pos} {fb:FS} (ho:own i=false) (hN:N[i]?=some x) (hv:Vis scope x) (ht:TgS own g t) (hg:PG (k_ (CX2 P w) P w K mg base N qual scope fad cd A outer s H E) tg g) (hb:PSs (k_ (CX2 P w) P w K mg base N qual scope fad cd A outer s H E) body (tZ own E fb))
  (hs:∀z,foldedSetIterable (.Name x px) (envOfC qual scope s.heap.objs.size fad cd) z=pure z:=by intro _;rfl) (hd:nDb x:=by decide) (hcd:nCd x:=by decide):PS (k_ (CX2 P w) P w K mg base N qual scope fad cd A outer s H E) (.For tg (.Name x px) body [] pos) (tZ own E (mD i (noT t) fb)):=by
 refine PS.imp (G3 PassesOwn.leaving rfl (aAc (X:=k_ (CX2 P w) P w K mg base N qual scope fad cd A outer s H E) hN hv hd hcd) hg hb hs) fun D' σ H1 ⟨ρ,es,k⟩=>?_
 cases h1:cL i ρ with
 | ok d=>
  cases h2:nA d with
  | ok items=>
   have e:mD i (noT t) fb ρ=nC (noT t) fb items ρ:=by unfold mD;rw [h1];show (nA d >>= _)=_;rw [h2];rfl
   rw [e] at k;obtain ⟨v,hv,rv,e⟩:=es.er.var h1;have hne:ρ.getD i .uD≠.uD:=fun z=>by
    rw [z] at e;subst e;exact Rep.uD rv
   obtain ⟨w',hw,hr⟩:=es.at_ i hne;rw [hv] at hw;cases hw;have r2:=hr ho;rw [e] at r2;exact ⟨v,d,items,hv,rv,h2,fun J hJ=>TX ht es (hJ _ r2) rfl k⟩
  | err c as=>cases d <;> cases h2
  | bad=>
   have e:mD i (noT t) fb ρ=.bad:=by unfold mD;rw [h1];show (nA d >>= _)=_;rw [h2];rfl
   rw [e] at k;exact k.elim
 | err c as=>
  unfold cL at h1;split at h1 <;> cases h1
 | bad=>
  have e:mD i (noT t) fb ρ=.bad:=by unfold mD;rw [h1];rfl
  rw [e] at k;exact k.elim
theorem DP {k k' n:Nat} {x:Str} {e:Expr} {es:List Expr} {fa:FA} {r:Bool} {v:List D->Res D} {p cpos:Pos} (R:n_ P w K mg base k x n v) (hr:j5 k' (A.deeper (envOfC qual scope s.heap.objs.size fad cd))) (hkk:k<=k') (hg:Gl (k_ (CX2 P w) P w K mg base N qual scope fad cd A outer s H E) x) (ha:PA (k_ (CX2 P w) P w K mg base N qual scope fad cd A outer s H E) (e::es) (gA fa r))
  (hdb:nDb x:=by decide) (he:starEach (e::es) (envOfC qual scope s.heap.objs.size fad cd)=(false,eval e (envOfC qual scope s.heap.objs.size fad cd))::starEach es (envOfC qual scope s.heap.objs.size fad cd):=by rfl) (hpl:(backTo cpos (starEach es (envOfC qual scope s.heap.objs.size fad cd))).any (·.1)=false:=by rfl) :
  PE (k_ (CX2 P w) P w K mg base N qual scope fad cd A outer s H E) (.Call (.Name x p) (e::es) [] cpos) (gZ E (aU (iH n v) (noE fa))):=by
 obtain ⟨fm,fdm,ps,F,hm,hk,hb⟩:=R;refine PE.imp (pK F (hr.mono hkk) hg hm hk hb .nil vB ha hdb he hpl) fun σ H1 Q ⟨ρ,er,k⟩=>?_
 rcases o_ (f:=fa) (ρ:=ρ) with ⟨ds,h1,h2⟩|h2
 ·have e:aU (iH n v) (noE fa) ρ=iH n v ds:=by unfold aU;rw [h2];rfl
  rw [e] at k;unfold iH at k;split at k
  ·rename_i hl;refine ⟨ρ,ds,er,h1,fun vs H' sm rs _=>⟨ds,of_decide_eq_true hl,by rw [List.append_nil];exact rs,?_⟩⟩;cases hv:v ds with
   | ok d=>rw [hv] at k;exact kR.imp k sm id
   | err c as=>
    rw [hv] at k;obtain ⟨fs,C,e1,e2,e3⟩:=k;exact ⟨fs,C,e1,e2,fun H2 dx s2 x=>e3 H2 dx (sm.trans s2) x⟩
   | bad=>rw [hv] at k;exact k
  ·exact k.elim
 ·have e:aU (iH n v) (noE fa) ρ=.bad:=by unfold aU;rw [h2];rfl
  rw [e] at k;exact k.elim
end
theorem JR {P:Program} {w:World} {K:PySem.W.Frag} {mg:Str->Option Value} {base:Heap} {x:Str} {st:Stmt} {fad:Addr} {fd:FuncData} {N ps:List Str} {k:Nat} {f:FS} (F:Fun K x x st fad fd) (hm:mg x=some (.ref fad)) (hb:Binds K fd ps []) (S:bT N ps (aM st)) (own:Nat->Bool) (hown:∀i,i<ps.length->own i=false) (hNl:ps.length<=N.length)
  (hbody:∀(cdv:Value) (A:Around) (outer:List Env) (s:Shared) (H:Hp) (E:XK),j5 k (A.deeper (envOfC x (aM st) s.heap.objs.size fad cdv))->PSs (k_ (CX2 P w) P w K mg base N x (aM st) fad cdv A outer s H E) (d9 st) (tZ own E f)) (hx:own rtX=false:=by rfl):n_ P w K mg base (k+1) x ps.length (fnS ps.length N.length f):=by
 refine ⟨fad,fd,ps,?_,hm,F.kp,hb⟩;obtain ⟨oc,od,kV,doc,pm,an,cdv,ct,osl,rfl,lk,hcd⟩:=F.ex;refine aF3 lk hcd S (fun vs H Q E ⟨ds,h1,r,_⟩=>by rw [r.length,h1]) fun A outer s H vs Q E hr ⟨ds,hl,r,h⟩=>?_
 refine ⟨_,hbody cdv A outer s H E hr,?_⟩;have hst:start N vs=vs.map some++List.replicate (N.length-ps.length) none:=by
  show vs.map some++List.replicate (N.length-vs.length) none=_;rw [r.length,hl]
 have noown:∀a,¬Own own (start N vs) a:=fun a ⟨i,hi,e⟩=>by
  rw [hst] at e;by_cases h:i<ps.length
  ·rw [hown i h] at hi;cases hi
  ·rw [List.getElem?_append_right (by simp [r.length,hl];lia)] at e;rw [List.getElem?_replicate] at e;split at e <;> cases e
 cases hv:fnS ps.length N.length f ds with
 | ok d=>
  rw [hv] at h;obtain ⟨ρ,fl,es,h1,q⟩:=Q9 (N:=N) (ps:=ps) (f:=f) (own:=own) (vs:=vs) (H:=H) (Q:=Q) (E:=E) hx hown ⟨ds,d,hl,r,hv,h⟩;exact ⟨ρ,es,by rw [h1];exact q⟩
 | err c as=>
  rw [hv] at h;refine ⟨_,v7 hst hl r hown noown,?_⟩;cases hf:f (ds++List.replicate (N.length-ps.length) .uD) with
  | ok fl=>
   exfalso;unfold fnS at hv;rw [hf] at hv;cases fl <;> cases hv
  | err c' as'=>
   unfold fnS at hv;rw [hf] at hv;cases hv;obtain ⟨fs,C,e1,e2,e3⟩:=h;exact ⟨fs,C,e1,e2,fun σ' H' dx kk x=>e3 H' dx (fun a o e=>(kk a o e (noown a)).1) x⟩
  | bad=>
   exfalso;unfold fnS at hv;rw [hf] at hv;cases hv
 | bad=>rw [hv] at h;exact h.elim
end Mi
end
section
namespace Mi
open PySem L2 PySem.W PySem.SeqAt PySem.Spec PyProof.Rows Builtin Builtin.ObjectAttr
noncomputable def zB (tbl:List (Str×Bool)) (i:Nat):FE:=fun ρ=>match ρ.getD i .uD with
 | .exc c _=>(match tbl.lookup c with|some b=>.ok (.bl b)|none=>.bad)
 | _=>.bad
noncomputable def M8 (cs:List Str) (f:Str) (i:Nat):FE:=fun ρ=>match ρ.getD i .uD with
 | .exc c fs=>if cs.contains c then (match fs.lookup f with|some t=>.ok (.str t)|none=>.bad) else .bad
 | _=>.bad
noncomputable def aGm (v:List D->Res D) (n:Nat) (fa:FA) (cs:List Str) (ic ie:Nat):FS:=fun ρ=>do
 let ds <- fa ρ
 match iH n v ds with
 | .err c [.exc c' fs]=>if c'==c&&cs.contains c&&decide (ie<ρ.length) then .ok (.nx (((ρ.set ie (.exc c fs)).set ic (.exc c fs)).set ie .uD)) else .bad
 | _=>.bad
noncomputable def aLe (X:Cx) (C:Addr) (fl:List Str) (t:TA):TE:=fun σ H Q=>t σ H fun vs H1=>∃ts:List Str,vs=ts.map V.str/\ts.length=fl.length/\∀a dx,X.s₀.heap.get? a=none->H1 a=none->H1 dx=none->dx≠a->Q (.ref a) (upd (upd H1 dx (.ext (XD dx (fl.zip ts)))) a (.ext (XO1 a C dx)))
section
variable {X:Cx} {C f:Addr} {fl:List Str} {k:Nat} {fd:FuncData} {ps:List Str} {x:Str} {p pos:Pos} {e:Expr} {es:List Expr} {t:TA}
theorem aGn (M:XI X.K C f) (F:qW X.prog X.w X.K X.mg X.base CX0 k f fd ps (qO C fl)) (hr:j5 (k+1) X.A) (hb:Binds X.K fd ps []) (hz:fl.length<=sizeLine) (hex:X.ex=[]) (hg:Gl X x) (hm:X.mg x=some (.ref C)) (ha:PA X (e::es) t)
  (hdb:nDb x:=by decide) (he:starEach (e::es) X.env=(false,eval e X.env)::starEach es X.env:=by rfl) (hpl:(backTo pos (starEach es X.env)).any (·.1)=false:=by rfl):PE X (.Call (.Name x p) (e::es) [] pos) (aLe X C fl t):=by
 intro pins s σ H Q I h;refine wpAny_Call_Name_kw (nQ I hg hm ?_ hdb);refine PySem.W.callWith_K (h₀:=X.base) I.ok.mod.kin M.kp (thn (ha pos pins s σ H _ I h) fun us s1 ⟨vs,H1,I1,r,ts,ev,hl,q⟩=>⟨I1.kIn,?_⟩) he hpl;subst ev;exact aD4 M F hr hb I1 r hl (show us.length<=sizeLine from by rw [<-r.length,List.length_map,hl];exact hz) hex fun a dx s2 g1 g2 g3 g4 I2=>⟨.ref a,_,I2,rfl,q a dx g1 g2 g3 g4⟩
noncomputable def aD5 (X:Cx) (te:TE):TS:=fun _ σ H=>te σ H fun v H1=>∃a C dx,v=.ref a/\H1 a=some (.ext (XO1 a C dx))/\exC X.K C=true/\∀pins s,Inv X pins σ H1 s->X.xe (.ref a) s
theorem TY {te:TE} (hc:X.calm=true) (he:PE X e te):PS X (.Raise (some e) none pos) (aD5 X te):=by
 intro pins s σ H D I h;have hh:=I.ok.hd hc;show wpAny _ _ (exec (.Raise (some e) none pos) X.env) _ _ _;rw [arm_exec_Raise];refine wpAny_bind (wpAny_standAt (show _ from ?_));simp only [evalOpt,Option.map];unfold raiseStmt;refine wpAny_bind (wpAny_bind (wpAny_mono (he pins s σ H _ I h) (fun u s1 ⟨v,H1,I1,rv,a,C,dx,ev,ea,qC,q⟩=>wpAny_bind (wpAny_standAt (wpAny_pure ?_))) fun _ _ x=>x));subst ev;obtain rfl:u=Value.ref a:=rv;obtain ⟨⟨t0,ht⟩,_⟩:=I1.hok a _ ea;have out:=q _ _ I1;obtain ⟨hp,g,d,tk,os⟩:=s1;obtain ⟨⟨bm,N,nm,qn,bs,sn,sub,ab,col,dd,k0,k1,k2,k3,k5,mN,hC,hN,T⟩⟩:=JN I1.kIn qC;have hcB:(Value.ref C::bm).contains (.type "BaseException")=true:=by rw [List.contains_cons,T.hasType PySem.F.excBase_ValueError.hasBase,Bool.or_true]
 repeat (first|with_reducible refine wpAny_loadPart_at ht ?_|with_reducible refine wpAny_loadPart_at hC ?_|(with_reducible refine wpAny_isSubtype_exc hC ?_;rw [hcB])|wp_step)
 exact wpAny_raiseNew_none hh out
end
variable [KFrag]
section
variable {P:Program} {w:World} {K:PySem.W.Frag} {mg:Str->Option Value} {base:Heap} {N:List Str} {qual:Str} {scope:Scope} {fad C fi:Addr} {cd:Value} {A:Around} {outer:List Env} {s:Shared} {H:Hp} {E:XK} {own:Nat->Bool} {pos p cpos:Pos} {x:Str} {e:Expr} {es:List Expr} {fa:FA} {r:Bool} {fl:List Str} {k k':Nat} {fd:FuncData} {ps:List Str}
theorem aD6 (hK:KFrag.K=K) (hn:nsIn K mainGlobals x=some (some (.ref C))) (M:XI K C fi) (F:qW P w K mg base CX0 k fi fd ps (qO C fl)) (hr:j5 k' (A.deeper (envOfC qual scope s.heap.objs.size fad cd))) (hkk:k+1<=k') (hb:Binds K fd ps []) (hz:fl.length<=sizeLine) (hg:Gl (k_ (CX2 P w) P w K mg base N qual scope fad cd A outer s H E) x) (hm:mg x=some (.ref C)) (ha:PA (k_ (CX2 P w) P w K mg base N qual scope fad cd A outer s H E) (e::es) (gA fa r))
  (hdb:nDb x:=by decide) (he:starEach (e::es) (envOfC qual scope s.heap.objs.size fad cd)=(false,eval e (envOfC qual scope s.heap.objs.size fad cd))::starEach es (envOfC qual scope s.heap.objs.size fad cd):=by rfl) (hpl:(backTo cpos (starEach es (envOfC qual scope s.heap.objs.size fad cd))).any (·.1)=false:=by rfl) :
  PS (k_ (CX2 P w) P w K mg base N qual scope fad cd A outer s H E) (.Raise (some (.Call (.Name x p) (e::es) [] cpos)) none pos) (tZ own E (iU x fl (noE fa))):=by
 subst hK;refine PS.imp (TY (X:=k_ (CX2 P w) P w KFrag.K mg base N qual scope fad cd A outer s H E) rfl (aGn (X:=k_ (CX2 P w) P w KFrag.K mg base N qual scope fad cd A outer s H E) M F (hr.mono hkk) hb hz rfl hg hm ha hdb he hpl)) fun D σ H1 ⟨ρ,er,q⟩=>?_
 rcases o_ (f:=fa) (ρ:=ρ) with ⟨ds,h1,h2⟩|h2
 ·have e0:iU x fl (noE fa) ρ=(match TV ds with|some ts=>if ts.length=fl.length then .err x [.exc x (fl.zip ts)] else .bad|none=>.bad):=by unfold iU;rw [h2];rfl
  rw [e0] at q;split at q
  ·rename_i ts hts;split at q
   ·rename_i hl;obtain ⟨fs,C',e1,e2,e3⟩:=q;cases e1;rw [hn] at e2;cases e2;refine ⟨ρ,ds,er.er,h1,fun vs H2 sm rs _=>⟨ts,JQ hts rs,hl,fun a dx g1 g2 g3 g4=>⟨a,C,dx,rfl,aL,M.cl,fun pins s2 I2=>TF I2 aL g1 ?_⟩⟩⟩;have eh:hid (upd (upd H2 dx (.ext (XD dx (fl.zip ts)))) a (.ext (XO1 a C dx))) a=upd H2 dx (.ext (XD dx (fl.zip ts))):=by
     funext b
     unfold hid;by_cases hb:b=a
     ·rw [if_pos hb,hb,bB (Ne.symm g4)];exact g2.symm
     ·rw [if_neg hb,bB hb]
    rw [eh];exact e3 σ _ (some dx) (.same (sm.trans (v_ g3))) aL
   ·exact q.elim
  ·exact q.elim
 ·have e0:iU x fl (noE fa) ρ=.bad:=by unfold iU;rw [h2];rfl
  rw [e0] at q;exact q.elim
end
section
variable {X:Cx} {C fi:Addr} {fl:List Str} {k:Nat} {fd:FuncData} {ps:List Str} {x:Str} {p pos:Pos} {e:Expr} {es:List Expr} {fa:FA} {r:Bool}
end
structure XA (K:Frag) (C:Addr) (f:Str):Prop where
 xc:XC K C
 hd:hasDictIn K C=true
 no:findIn K (.ref C) f=some none
theorem XO.exc {a C:Addr} {dx:Option Addr} {h:Heap} (x:XO a C dx h):ExcAt a C h:=let ⟨o,e,c,_⟩:=x;⟨o,e,c⟩
section
variable {prog:Program} {w:World} {A:Around} {E:Value->Shared->Prop} {s:Shared} {K:Frag} {x C dx:Addr} {f t:Str} {fs:List (Str×Str)}
theorem Y4 {b:Bool} {Q:Value->Shared->Prop} (X:K.In s.heap) (c:XA K C f) (xo:XO x C (some dx) s.heap) (xd:XD dx fs s.heap) (l:fs.lookup f=some t) (h:∀tk,Q (.str t tk) {s with toks:=s.toks+1}):wpAny (model prog w) A (getAttr (.ref x) f b) Q E s:=by
 obtain ⟨hh,g,dr,tt,os⟩:=s;obtain ⟨mA,n,_,hm⟩:=xd;have hf:=hm f;rw [l] at hf;obtain ⟨tk,hf⟩:=hf;obtain ⟨od,ho,hl⟩:=O_ n;have p:=xo.exc;obtain ⟨o,e1,e2,e3,vs,e4⟩:=xo;have J:InstAt hh x o C (some od):=⟨e1,e2,by unfold notCls;rw [e4],by rw [e3];exact ho⟩
 have L0:=u_ (M:=model prog w) p;have L1:=looks_findIn (M:=model prog w) X c.xc.ga;have L2:=looks_findIn (M:=model prog w) X c.xc.gh;have L3:Looks (model prog w) hh (find (.ref x) (.ref C) f) (.value (.str t tk)):=looks_find X J (findObj_own c.hd c.no rfl (by rw [hl,hf]));have z2:(Value.builtin "BaseException.__getattribute__" == Value.builtin "object.__getattribute__")=false:=by decide +kernel
 have z1:(onTheHeap (Value.ref C)&&Value.builtin "BaseException.__getattribute__" == Value.builtin "object.__getattribute__")=false:=by rw [z2];rfl
 unfold getAttr getAttrBy;refine wpAny_bind (wpAny_mkText (wpAny_holding ?_));refine wpAny_bind (L0.at (wpAny_bind (L1.at (show _ from ?_))));dsimp only;rw [z1,if_neg (by decide)];unfold getAttrByItsOwn callGetattribute hookBefore boundAndCalled;rw [if_pos (show onTheHeap (Value.ref C)=true from rfl)];refine wpAny_bind (L2.at (wpAny_bind (wpAny_attempt (wpAny_holding ?_))));rw [show (b&&onTheHeap (Value.builtin "BaseException.__getattribute__"))=false from Bool.and_false _,if_neg (by decide)];refine wpAny_bind (wpAny_of_eq (F.excAttr_ValueError.ga.bind (.ref x)) ?_);refine wpAny_call (codeAny_call_builtin F.excAttr_ValueError.ga.plain F.entry_bexc_ga (yS (K:=K) (C:=C) X p c.xc ?_));show wpAny _ _ (Builtin.«object.__getattribute__» ⟨[.ref x,.str f tt],[]⟩) _ _ _
 delta Builtin.«object.__getattribute__»
 refine wpAny_bind (wpAny_pure (wpAny_bind (wpAny_pure (wpAny_bind (L0.at (wpAny_bind (L3.at ?_)))))));refine wpAny_pure ?_;show wpAny _ _ (handedOut (.str t tk)) _ _ _;exact wpAny_pure (h tk)
end
section
variable {X:Cx} {y f:Str} {i:Nat} {np pos:Pos} {cs:List Str}
theorem T3 (hK:KFrag.K=X.K) (hc:∀c,cs.contains c=true->∃C,nsIn X.K mainGlobals c=some (some (.ref C))/\XA X.K C f) (hN:X.N[i]?=some y) (hv:Vis X.env.scope y) (hb:attributeBase (.Name y np) f X.env (eval (.Name y np) X.env)=eval (.Name y np) X.env:=by rfl)
  (hd:(y==("__debug__" : Str))=false:=by decide) (hcd:(y==("__classdict__" : Str))=false:=by decide):PE X (.Attribute (.Name y np) f pos) (gE (M8 cs f i) true):=by
 intro pins s σ H Q I ⟨ρ,d,er,h,q⟩;unfold M8 at h;split at h
 ·rename_i c fs hρ;split at h
  ·rename_i hcc;split at h
   ·rename_i t hl;cases h;obtain ⟨v,h1,r1⟩:=er i (by rw [hρ];intro z;cases z);rw [hρ] at r1;cases r1 with
    | @exc a C dx _ _ n e qd=>
     obtain ⟨C',n',xa⟩:=hc c hcc;rw [hK,n'] at n;cases n;refine aBm hb (thn (cU hN hv hd hcd pins s σ H (fun v H1=>v=.ref a/\H1=H) I ⟨_,h1,rfl,rfl⟩) fun u s1 ⟨v,H1,I1,rv,e1,e2⟩=>?_);subst e1 e2;obtain rfl:u=Value.ref a:=rv;cases dx with
     | none=>cases qd;cases hl
     | some dx=>
      obtain ⟨xo,_⟩:=I1.hok a _ e;obtain ⟨xd,_⟩:=I1.hok dx _ qd;exact Y4 I1.kIn xa xo xd hl fun tk=>⟨.str t,_,I1.tok _,⟨tk,rfl⟩,q _ _ (fun _ _ z=>z) (.str t) fun _=>.str t⟩
   ·cases h
  ·cases h
 ·cases h
end
end Mi
end
section
namespace Mi
open PySem L2 PySem.W PySem.SeqAt PySem.Spec PyProof.Rows
noncomputable def aJi (K:Frag) (cM:Value) (t:TA) (sp:Sp) (ie:Nat) (ts:TS):TS:=fun D σ H=>t σ H fun vs H1=>sp vs H1 (fun _ _=>False) fun Cv dd H2=>∃C,Cv=.ref C/\exmOne K (.ref C) cM=some true/\∀a,H2 a=none->ts {nx:=fun σ' H'=>D.nx (σ'.set ie none) H',rt:=fun _ _=>False} (σ.set ie (some (.ref a))) (upd H2 a (.ext (XO a C dd)))
theorem aD7 {X:Cx} {k:Nat} {fad:Addr} {cM:Value} {fd:FuncData} {ps:List Str} {sp:Sp} {f mx n:Str} {p cpos xpos mp hpos pos:Pos} {e:Expr} {es:List Expr} {t:TA} {b0:Stmt} {suite:List Stmt} {ts:TS} {ie:Nat}
  (hst:X.stack=X.env::X.outer) (hfr:X.env.frame=some X.env.locals) (F:qW X.prog X.w X.K X.mg X.base (CX2 X.prog X.w) k fad fd ps sp) (hr:j5 k X.A) (hg:Gl X f) (hm:X.mg f=some (.ref fad)) (hk:keepIn X.K (.ref fad)=true) (hb:Binds X.K fd ps [])
  (ha:PA X.nox (e::es) t) (hgM:Gl X mx) (hmM:X.mg mx=some cM) (hN:X.N.Nodup) (hin:X.N[ie]?=some n) (hln:X.env.scope.names.lookup n=some .local)
  (hs:∀v,PSs (mrk X v).nox (b0::suite) ts)
  (hdb:(f==("__debug__" : Str))=false:=by decide) (hdM:(mx==("__debug__" : Str))=false:=by decide) (he:starEach (e::es) X.env=(false,eval e X.env)::starEach es X.env:=by rfl) (hpl:(backTo cpos (starEach es X.env)).any (·.1)=false:=by rfl)
  (hsw:swapsWith (.Call (.Name f p) (e::es) [] cpos) none xpos.line X.env=pure false:=by rfl) :
  PS X (.Try [.Expr (.Call (.Name f p) (e::es) [] cpos) xpos] [.ExceptHandler (some (.Name mx mp)) (some n) (b0::suite) hpos] [] [] pos) (aJi X.K cM t sp ie ts):=by
 intro pins s σ H D I h;refine wpAny_Try_except (wpAny_execs_cons (wpAny_Expr_any ?_ I.quiet hsw));refine wpAny_Call_Name_kw (nQ I hg hm ?_ hdb);refine callWith_K (h₀:=X.base) I.ok.mod.kin hk (wpAny_mono (ha cpos pins s σ H _ (I.wish _) h) (fun us s1 ⟨vs,H1,I1,r,q⟩=>⟨I1.kIn,?_⟩) fun _ _ z=>False.elim z) he hpl;have I1:Inv X pins σ H1 s1:=I1.lY;have hl:(us++[]).length=ps.length:=by rw [List.append_nil,<-r.length];exact F.len _ _ _ _ q
 have hb':=hb s1 us I1.kIn hl;rw [List.append_nil] at hb';refine wpAny_call (codeAny_mono (F.run X.A X.stack s1 H1 ⟨us,[]⟩ us vs _ _ hr I1.env0 hb' r q) fun r s' hq=>?_);cases r with
 | ok fl=>
  cases fl with
  | ret u=>obtain ⟨_,_,_,_,_,_,_,z⟩:=hq;exact z.elim
  | next=>exact False.elim hq
  | brk=>exact False.elim hq
  | cont=>exact False.elim hq
 | error e=>
  obtain ⟨a,C',dd,H2,B,rfl,os',bare',fly,clo,hn,hgone,C,eC,hx,hE⟩:=hq;cases eC;rw [hst] at fly;refine S9 (by rw [I.ok.frames,hst]) hfr fly fun h4 held4 sm4=>?_
  refine o9 (s:={s' with heap:=h4}) held4 fun h5 fly5 sm5=>?_
  have up5:s'.heap.UpToSlots h5:=Heap.UpToSlots.trans sm4 sm5;have I5:Inv X pins σ H2 {s' with heap:=h5}:=by
   obtain ⟨un,hok⟩:=clo h5 fly5.1 up5;exact I1.call' (ch:=[]) os' un hok bare' (fun b z=>absurd z (by simp))
  refine wpAny_handleBy_cons (codeAny_handlers_test ?_) (by intro q;cases q);refine nQ (X:=mrk X (.ref a)) (RL I5 _) hgM hmM ?_ hdM;have LT:Looks (model X.prog X.w) h5 (typeOf (.ref a)) (.ref C'):=by
   obtain ⟨ob,hob,hc,_⟩:=fly5.there;rw [<-hc];exact (Looks.ld hob).andThen .now
  refine (exm_one I5.kIn LT hx).here ?_;refine codeAny_handlers_suite_as ?_;refine o9 (s:={s' with heap:=h5}) fly5 fun h6 fly6 sm6=>?_
  obtain ⟨un6,hok6⟩:=clo h6 fly6.1 (Heap.UpToSlots.trans up5 sm6);have I6:Inv X pins σ (upd H2 a (.ext (XO a C' dd))) {s' with heap:=h6}:=
   I1.call' (ch:=[]) os' (aAj un6 hgone hn) (RN hok6 hn (aJe fly6.there)) bare' (fun b z=>absurd z (by simp))
  refine xK (X:=X) (v:=.ref a) I6 hN hin (.inl hln) rfl (fun s7 I7 _=>?_) (.inr hln);refine wpAny_mono (hs (.ref a) pins s7 _ _ _ ((RL I7 _).wish _) (hE a hn)) (fun fl s8 q8=>?_) fun _ _ z=>False.elim z
  cases fl with
  | ret u=>obtain ⟨_,_,_,_,_,z⟩:=q8;exact z.elim
  | brk=>obtain ⟨_,_,_,z⟩:=q8;exact z.elim
  | cont=>obtain ⟨_,_,_,z⟩:=q8;exact z.elim
  | next=>
   obtain ⟨σ8,H8,I8,q⟩:=q8;have I8:Inv X pins σ8 H8 s8:=RM I.ok I8.lY;obtain ⟨m,hm8,hl8⟩:=id I8.loc;refine wpAny_nameGoes_keeps hln hm8 (by rw [I.ok.kind];rfl) fun h9 v hn9 sb9=>?_
   exact ⟨_,H8,YC I8 hN hin hm8 hl8 hn9 sb9,q⟩
variable [KFrag]
theorem JS {own:Nat->Bool} {σ:L2.St} {i:Nat} (ho:own i=false) (a:Addr):Own own (σ.set i none) a↔Own own σ a:=by
 constructor
 ·rintro ⟨j,hj,e⟩;have:i≠j:=fun z=>by subst z;rw [ho] at hj;cases hj
  rw [List.getElem?_set_ne this] at e;exact ⟨j,hj,e⟩
 ·rintro ⟨j,hj,e⟩;have:i≠j:=fun z=>by subst z;rw [ho] at hj;cases hj
  exact ⟨j,hj,by rw [List.getElem?_set_ne this];exact e⟩
theorem ES.drop {own:Nat->Bool} {H:Hp} {σ:L2.St} {ρ:List D} {i:Nat} (ho:own i=false) (es:ES own H σ ρ):ES own H (σ.set i none) (ρ.set i .uD):=by
 refine ⟨by simp [es.len],fun j hj=>?_,fun j v hj hv=>?_⟩
 ·rw [cY] at hj ⊢;by_cases h:i=j/\i<ρ.length
  ·rw [if_pos h] at hj;exact absurd rfl hj
  ·rw [if_neg h] at hj ⊢;obtain ⟨v,h1,h2⟩:=es.at_ j hj;have ne:i≠j:=fun z=>by
    subst z;have:i<σ.length:=(List.getElem?_eq_some_iff.mp h1).1;exact h ⟨rfl,by rw [<-es.len];exact this⟩
   exact ⟨v,by rw [List.getElem?_set_ne ne];exact h1,fun o=>(h2 o).mono fun a n z=>n ((JS ho a).mp z)⟩
 ·have ne:i≠j:=fun z=>by subst z;rw [ho] at hj;cases hj
  rw [List.getElem?_set_ne ne] at hv;obtain ⟨a,o,h1,h2,h3,h4,h5,h6⟩:=es.own j v hj hv;have e:(ρ.set i .uD).getD j .uD=ρ.getD j .uD:=by rw [cY,if_neg (fun z=>ne z.1)]
  refine ⟨a,o,h1,by rw [e];exact h2,by rw [e];exact h3,h4,h5,fun l hl hs=>h6 l hl ?_⟩;have:i≠l:=fun z=>by subst z;rw [ho] at hl;cases hl
  rwa [List.getElem?_set_ne this] at hs
section
variable {own:Nat->Bool} {X:Cx} {cM:Value} {k n:Nat} {f mx nm cn:Str} {p cpos xpos mp hpos pos tp ep ap:Pos} {e:Expr} {es:List Expr} {v:List D->Res D} {fa:FA} {ra:Bool} {cs:List Str} {ic ie k':Nat}
theorem aGo (hK:KFrag.K=X.K) (hst:X.stack=X.env::X.outer) (hfr:X.env.frame=some X.env.locals) (R:n_ X.prog X.w X.K X.mg X.base k f n v) (hr:j5 k' X.A) (hkk:k<=k') (hg:Gl X f) (ha:PA X.nox (e::es) (gA fa ra)) (hgM:Gl X mx) (hmM:X.mg mx=some cM)
  (hcs:∀c,cs.contains c=true->∃C,nsIn X.K mainGlobals c=some (some (.ref C))/\exmOne X.K (.ref C) cM=some true)
  (hN:X.N.Nodup) (hin:X.N[ie]?=some nm) (hln:X.env.scope.names.lookup nm=some .local) (hic:X.N[ic]?=some cn) (hlc:Loc X.env.scope cn) (hfc:X.fn cn=true\/X.env.scope.names.lookup cn=some .local) (oc:own ic=false) (oe:own ie=false) (hne:ie≠ic)
  (hdb:(f==("__debug__" : Str))=false:=by decide) (hdM:(mx==("__debug__" : Str))=false:=by decide) (he:starEach (e::es) X.env=(false,eval e X.env)::starEach es X.env:=by rfl) (hpl:(backTo cpos (starEach es X.env)).any (·.1)=false:=by rfl)
  (hsw:swapsWith (.Call (.Name f p) (e::es) [] cpos) none xpos.line X.env=pure false:=by rfl) (hs2:swapsWith (.Name nm ep) (some (.Name cn tp)) ap.line X.env=pure false:=by rfl) (hd1:(nm==("__debug__" : Str))=false:=by decide) (hd2:(nm==("__classdict__" : Str))=false:=by decide) :
  PS X (.Try [.Expr (.Call (.Name f p) (e::es) [] cpos) xpos] [.ExceptHandler (some (.Name mx mp)) (some nm) [.Assign [.Name cn tp] (.Name nm ep) ap] hpos] [] [] pos) (tS own (aGm v n fa cs ic ie)):=by
 obtain ⟨fm,fdm,ps,F,hm,hk,hb⟩:=R;refine PS.imp (aD7 hst hfr F (hr.mono hkk) hg hm hk hb ha hgM hmM hN hin hln (fun v=>nR (uR (X:=(mrk X v).nox) hN hic hlc (cU hin (.inl hln) hd1 hd2) hs2 hfc)) hdb hdM he hpl hsw) fun D σ H ⟨ρ,fl,es,h,q⟩=>?_
 obtain ⟨ds,h1,h⟩:=aY h;refine ⟨ρ,ds,es.er,h1,fun vs H1 sm rs _=>?_⟩;split at h
 ·rename_i c c' fs hv;split at h
  ·rename_i hc;rw [Bool.and_eq_true,Bool.and_eq_true] at hc;have ec:=beq_iff_eq.mp hc.1.1;subst ec;cases h;unfold iH at hv;split at hv
   ·rename_i hl;obtain ⟨C,hn,hx⟩:=hcs _ hc.1.2;refine ⟨ds,of_decide_eq_true hl,rs,?_⟩;rw [hv];refine ⟨fs,C,rfl,by rw [hK];exact hn,fun H2 dd s2 xd=>⟨C,rfl,hx,fun a ha=>?_⟩⟩;have hl2:ie<σ.length:=by
     rw [es.len];exact of_decide_eq_true hc.2
    have rp:∀P,Rep P (upd H2 a (.ext (XO a C dd))) (.ref a) (.exc c' fs):=fun P=>.exc (C:=C) (dx:=dd) (by rw [hK];exact hn) aL (by
     cases dd with
     | none=>exact xd
     | some d=>
      have xd:H2 d=some (.ext (XD d fs)):=xd;show upd _ _ _ d=_;rw [bB (fun z=>by rw [z,ha] at xd;cases xd)];exact xd)
    have sm3:cJ H (upd H2 a (.ext (XO a C dd))):=sm.trans (s2.trans (v_ ha));have es3:=(((es.same sm3).set oe (rp _)).set oc (rp _)).drop oe;refine ⟨.ref a,by rw [List.getElem?_set_self hl2],?_⟩;exact q _ _ (fun b o eb nb=>⟨sm3 b o eb,fun z=>nb ((jT oe b).mp ((jT oc b).mp ((JS oe b).mp z)))⟩) es3
   ·cases hv
  ·cases h
 ·cases h
end
section
variable {X:Cx} {i:Nat} {y:Str} {p np tpos pos:Pos} {es:List Expr} {kk:Nat} {ce:Expr} {cs:List Addr} {tbl:List (Str×Bool)} {v:V} {u:Value}
theorem T4 {ρ:List D} {σ:L2.St} {H:Hp} {c:Str} {fs:List (Str×Str)} (er:ER H σ ρ) (h:ρ.getD i .uD=.exc c fs):∃a C dx,σ[i]?=some (some (.ref a))/\nsIn KFrag.K mainGlobals c=some (some (.ref C))/\H a=some (.ext (XO a C dx)):=by
 obtain ⟨v,h1,r1⟩:=er i (by rw [h];intro z;cases z);rw [h] at r1;cases r1 with
 | @exc a C dx _ _ n e q=>exact ⟨a,C,dx,h1,n,e⟩
theorem T5 (hK:KFrag.K=X.K) (ht:∀c b,tbl.lookup c=some b->∃C,nsIn X.K mainGlobals c=some (some (.ref C))/\XC X.K C/\kitAny X.K (.ref C) (cs.map Value.ref)=some b) (hz:cs.length<=sizeLine) (hg:Gl X "isinstance") (hm:X.mg "isinstance" = none) (hN:X.N[i]?=some y) (hv:Vis X.env.scope y) (ha:PA X es fun _ H Q=>Q (cs.map V.ref) H)
  (hd:(y==("__debug__" : Str))=false:=by decide) (hcd:(y==("__classdict__" : Str))=false:=by decide) :
  PE X (.Call (.Name "isinstance" p) [.Name y np,.Tuple es kk tpos] [] pos) (gE (zB tbl i) true):=by
 have hc:nT X (.builtin "isinstance") (fun vs H Q=>∃a tp C dx b,vs=[.ref a,.ref tp]/\H a=some (.ext (XO a C dx))/\H tp=some (.tup (cs.map V.ref))/\XC X.K C/\kitAny X.K (.ref C) (cs.map Value.ref)=some b/\Q (.bl b) H):=by
  intro pins s σ H vs us Q I r ⟨a,tp,C,dx,b,e,ea,et,c,hk,q⟩;subst e;cases r with
  | cons r1 r=>
   cases r with
   | cons r2 r=>
    cases r;cases r1;cases r2;obtain ⟨_,its,ri,o,ho,hoc,n,hod⟩:=I.hok tp _ et;have e2:=yU ri;subst e2;obtain ⟨c1,d1,dt,sl⟩:=o;replace hod:=congrArg Prod.fst hod;dsimp only at hoc hod;subst hoc hod;obtain ⟨px,_⟩:=I.hok a _ ea;exact kia_tup (I_ c) I.kIn px.exc ho hk (by intro z;cases z) fun tk=>⟨.bl b,H,I.tok tk,rfl,q⟩
 refine PE.imp (rB hc hg hm (by decide +kernel) (bG (cU hN hv hd hcd) (bG (aA2 ha) iQ))) fun σ H Q ⟨ρ,d,er,h,q⟩=>?_
 unfold zB at h;split at h
 ·rename_i c fs hρ;split at h
  ·rename_i b hb;cases h;obtain ⟨a,C,dx,h1,n,e⟩:=T4 er hρ;obtain ⟨C',n',xc,hk⟩:=ht c b hb;rw [hK,n'] at n;cases n;refine ⟨.ref a,h1,⟨by simpa using hz,fun tp htp=>⟨a,tp,C,dx,b,rfl,?_,aL,xc,hk,q _ _ (v_ htp) (.bl b) fun _=>.bl b⟩⟩⟩;rw [bB (b_ e htp)];exact e
  ·cases h
 ·cases h
theorem wG (hK:KFrag.K=X.K) (ht:∀c b,tbl.lookup c=some b->∃C,nsIn X.K mainGlobals c=some (some (.ref C))/\XC X.K C/\kitOne X.K (.ref C) u=some b) (hu:∀u',RelV v u'->u'=u) (hg:Gl X "isinstance") (hm:X.mg "isinstance" = none) (hN:X.N[i]?=some y) (hv:Vis X.env.scope y) (ha:PE X ce (tC v))
  (hst:starEach [ce] X.env=(false,eval ce X.env)::starEach [] X.env) (hpl:(backTo pos (starEach [ce] X.env)).any (·.1)=false)
  (hd:(y==("__debug__" : Str))=false:=by decide) (hcd:(y==("__classdict__" : Str))=false:=by decide) :
  PE X (.Call (.Name "isinstance" p) [.Name y np,ce] [] pos) (gE (zB tbl i) true):=by
 have hc:nT X (.builtin "isinstance") (fun vs H Q=>∃a C dx b,vs=[.ref a,v]/\H a=some (.ext (XO a C dx))/\XC X.K C/\kitOne X.K (.ref C) u=some b/\Q (.bl b) H):=by
  intro pins s σ H vs us Q I r ⟨a,C,dx,b,e,ea,c,hk,q⟩;subst e;cases r with
  | cons r1 r=>
   cases r with
   | cons r2 r=>
    cases r;cases r1;have e2:=hu _ r2;subst e2;obtain ⟨px,_⟩:=I.hok a _ ea;exact kia_one (I_ c) I.kIn px.exc hk (by intro z;cases z) fun tk=>⟨.bl b,H,I.tok tk,rfl,q⟩
 refine PE.imp (rB hc hg hm (by decide +kernel) (bG (cU hN hv hd hcd) (bG ha iQ hst)) (hpl:=hpl)) fun σ H Q ⟨ρ,d,er,h,q⟩=>?_
 unfold zB at h;split at h
 ·rename_i c fs hρ;split at h
  ·rename_i b hb;cases h;obtain ⟨a,C,dx,h1,n,e⟩:=T4 er hρ;obtain ⟨C',n',xc,hk⟩:=ht c b hb;rw [hK,n'] at n;cases n;exact ⟨.ref a,h1,a,C,dx,b,rfl,e,xc,hk,q _ _ (fun _ _ z=>z) (.bl b) fun _=>.bl b⟩
  ·cases h
 ·cases h
end
end Mi
end
section
namespace Mi
open PySem L2 PySem.W PySem.SeqAt PySem.Spec PyProof.Rows
noncomputable def aGp (s:Stmt) (j:Nat):Stmt:=match s with
 | .ClassDef _ _ _ b _ _ _ _ _ _ _=>b.getD j (.Pass ⟨0,0,0,0⟩)
 | _=>.Pass ⟨0,0,0,0⟩
noncomputable def aGq (P:Program) (w:World) (K:Frag) (mg:Str->Option Value) (base:Heap) (k:Nat) (c:Str) (fl:List Str):Prop:=
 ∃(C fi:Addr) (fd:FuncData) (ps:List Str),nsIn K mainGlobals c=some (some (.ref C))/\mg c=some (.ref C)/\XI K C fi/\qW P w K mg base CX0 k fi fd ps (qO C fl)/\Binds K fd ps []/\fl.length<=sizeLine
noncomputable def aAt (p:Str->Bool->Prop):List (Str×Bool)->Prop
 | []=>True
 | (c,b)::r=>p c b/\aAt p r
theorem oA {p:Str->Bool->Prop}:∀{t:List (Str×Bool)},aAt p t->∀c b,t.lookup c=some b->p c b
 | [],_,_,_,h=>by cases h
 | (d,e)::r,⟨h1,h2⟩,c,b,h=>by
  rw [List.lookup_cons] at h;split at h
  ·rename_i z;rw [beq_iff_eq.mp z];cases h;exact h1
  ·exact oA h2 c b h
noncomputable def aGr (p:Str->Prop):List Str->Prop
 | []=>True
 | c::r=>p c/\aGr p r
theorem wH {p:Str->Prop}:∀{t:List Str},aGr p t->∀c,t.contains c=true->p c
 | [],_,_,h=>by cases h
 | d::r,⟨h1,h2⟩,c,h=>by
  rw [List.contains_cons] at h;rcases (Bool.or_eq_true _ _).mp h with z|z
  ·rw [beq_iff_eq.mp z];exact h1
  ·exact wH h2 c z
theorem JT {P:Program} {w:World} {K:Frag} {mg:Str->Option Value} {base:Heap} {x qual:Str} {st:Stmt} {fad C M:Addr} {fd:FuncData} {N ps:List Str} {f:Str} {k:Nat} (F:Fun K x qual st fad fd) (S:bT N ps (aM st)) (hN:N.length=2) (hp:ps.length=2)
  (hbody:∀(cdv:Value) (A:Around) (outer:List Env) (s:Shared) (H:Hp) (E:XK),j5 k (A.deeper (envOfC qual (aM st) s.heap.objs.size fad cdv))->
   PSs (k_ CX0 P w K mg base N qual (aM st) fad cdv A outer s H E).nox (d9 st) (Z9 (aEr (tBase C (aBn (Z7 0) (aBn (Z7 1) aK2)))) (aGi C f (Z7 0) (Z7 1)))):qW P w K mg base CX0 (k+1) fad fd ps (qO C [f]):=by
 refine F.ok S (fun vs H Q E ⟨e,ts,h1,h2,_⟩=>by rw [h1,hp];simp at h2;simp [h2]) fun cdv A outer s H vs Q E hr ⟨e,ts,h1,h2,h3,h4⟩=>⟨_,hbody cdv A outer s H E hr,?_⟩
 obtain ⟨t,rfl⟩:∃t,ts=[t]:=by
  match ts,h2 with
  | [t],_=>exact ⟨t,rfl⟩
 subst h1;have e0:L2.start N [V.ref e,V.str t]=[some (V.ref e),some (V.str t)]:=by
  unfold L2.start;rw [hN];rfl
 show Z9 _ _ _ (L2.start N [V.ref e,V.str t]) H;rw [e0];refine ⟨.ref e,rfl,.str t,rfl,e,[.str t],rfl,show 1<=sizeLine from by decide,h3,?_⟩;exact ⟨.str t,rfl,.ref e,rfl,e,t,rfl,rfl,h3,fun dx hd=>h4 dx hd⟩
variable [KFrag]
section
variable {P:Program} {w:World} {K:PySem.W.Frag} {mg:Str->Option Value} {base:Heap} {N:List Str} {qual:Str} {scope:Scope} {fad:Addr} {cd:Value} {A:Around} {outer:List Env} {s:Shared} {H:Hp} {E:XK} {own:Nat->Bool} {pos p cpos:Pos} {x:Str} {e:Expr} {es:List Expr} {fa:FA} {r:Bool} {fl:List Str} {k k':Nat}
theorem rE (R:aGq P w K mg base k x fl) (hK:KFrag.K=K) (hr:j5 k' (A.deeper (envOfC qual scope s.heap.objs.size fad cd))) (hkk:k+1<=k') (hg:Gl (k_ (CX2 P w) P w K mg base N qual scope fad cd A outer s H E) x) (ha:PA (k_ (CX2 P w) P w K mg base N qual scope fad cd A outer s H E) (e::es) (gA fa r))
  (hdb:nDb x:=by decide) (he:starEach (e::es) (envOfC qual scope s.heap.objs.size fad cd)=(false,eval e (envOfC qual scope s.heap.objs.size fad cd))::starEach es (envOfC qual scope s.heap.objs.size fad cd):=by rfl) (hpl:(backTo cpos (starEach es (envOfC qual scope s.heap.objs.size fad cd))).any (·.1)=false:=by rfl) :
  PS (k_ (CX2 P w) P w K mg base N qual scope fad cd A outer s H E) (.Raise (some (.Call (.Name x p) (e::es) [] cpos)) none pos) (tZ own E (iU x fl (noE fa))):=by
 obtain ⟨C,fi,fd,ps,hn,hm,M,F,hb,hz⟩:=R;exact aD6 hK hn M F hr hkk hb hz hg hm ha hdb he hpl
end
end Mi
end
section
namespace Mi
open PySem L2 PySem.W PySem.SeqAt PySem.Spec PyProof.Rows
def DQ (c:Str):FS:=fun _=>.err c [.exc c []]
section
variable {P:Program} {w:World} {K:PySem.W.Frag} {mg:Str->Option Value} {base:Heap} {N:List Str} {qual:Str} {scope:Scope} {f C:Addr} {cd:Value} {A:Around} {outer:List Env} {s:Shared} {H:Hp} {E:XK}
theorem T6 {pins:List (Addr×Obj)} {σ:L2.St} {H1:Hp} {s1:Shared} (I:Inv (k_ (CX2 P w) P w K mg base N qual scope f cd A outer s H E) pins σ H1 s1) {h2:Heap} {e:Addr} {args:List Value} (hx:Heap.MadeExcOf s1.heap h2 e (.ref C) args) (hE:E (.ref C) none H1) :
  (k_ (CX2 P w) P w K mg base N qual scope f cd A outer s H E).xe (.ref e) {s1 with heap:=h2}:=by
 let env:=envOfC qual scope s.heap.objs.size f cd
 have hfr:L2.frs (env::outer)=s.heap.objs.size::L2.frs outer:=by
  unfold L2.frs;rw [List.filterMap_cons];rfl
 have hin:∀v∈(env::outer),∀b,v.frame=some b->b∈L2.frs (env::outer):=fun v hv b hb=>List.mem_filterMap.mpr ⟨v,hv,hb⟩
 have stk:s1.heap.FunFrames base (env::outer):=I.stack;have sfree:∀b∈L2.frs (env::outer),H1 b=none:=I.vI;have u0:Un (L2.frs outer) [] H H1 s.heap s1.heap:=I.base;obtain ⟨t,ht,_,_⟩:=hx.there;have hn0:(PySem.W.hideAll s1.heap (L2.frs (env::outer))).get? e=none:=by
  cases q:(PySem.W.hideAll s1.heap (L2.frs (env::outer))).get? e with
  | none=>rfl
  | some o=>
   have e1:=PySem.W.of_hideAll _ q;rw [hx.new] at e1;cases e1
 show wpAny (model P w) (A.deeper env) (leaving env (.ref e)) (fun _ s''=>CX2 P w outer H s E (.ref e) s'') (fun e' s''=>CX2 P w outer H s E e' s'') {s1 with heap:=h2};refine JM (s:={s1 with heap:=h2}) (B:=PySem.W.hideAll s1.heap (L2.frs (env::outer))) (L:=s.heap.objs.size) I.ok.frames rfl ((PySem.W.funFrames_hide stk hin).of_keeps fun b o k _=>⟨o,hx.keeps b o k,rfl⟩) ht (fun b o q=>hx.keeps b o (PySem.W.of_hideAll _ q)) hn0 rfl rfl fun h' x1 x4=>?_
 have hgone:s.heap.get? e=none:=by
  cases q:s.heap.get? e with
  | none=>rfl
  | some o=>
   obtain ⟨o',e1⟩:=u0.there e o q (by simp);rw [hx.new] at e1;cases e1
 have huntr:H1 e=none:=by
  cases q:H1 e with
  | none=>rfl
  | some u=>
   obtain ⟨o,e1⟩:=CP (I.hok e u q);rw [hx.new] at e1;cases e1
 refine ⟨e,C,none,H1,_,rfl,I.os,I.bare,x1,fun h6 st up=>?_,huntr,hgone,hE⟩;have k:∀b o,s1.heap.get? b=some o->b∉L2.frs (env::outer)->h6.get? b=some o:=fun b o eb hb=>st b o (PySem.W.hideAll_get _ eb hb)
 have up6:s1.heap.UpToSlots h6:=((Heap.UpToSlots.of_keeps hx.keeps).trans x4).trans up;have nL:∀b o,s.heap.get? b=some o->b∉L2.frs outer->b∉L2.frs (env::outer):=fun b o eb hb z=>by
  rw [hfr] at z;rcases List.mem_cons.mp z with z|z
  ·exact absurd (Heap.lt_size eb) (by rw [z];exact Nat.lt_irrefl _)
  ·exact hb z
 have slot:∀b o,s1.heap.get? b=some o->b∈L2.frs outer->∃sl,h6.get? b=some {o with slots:=sl}:=fun b o eb hb=>by
  obtain ⟨_,o',ho',hd⟩:=stk.mem (show b∈L2.frs (env::outer) by rw [hfr];exact List.mem_cons_of_mem _ hb);rw [eb] at ho';cases ho';exact up6 b o eb hd
 refine ⟨⟨fun b o eb hn hb hx'=>k b o (u0.keep b o eb hn hb hx') (nL b o eb hb),fun b o eb hn hb hx'=>?_,fun b o eb hn hx'=>u0.free b o eb hn hx',fun b o eb hx'=>?_,u0.tups,u0.frzs,u0.tbls⟩,fun b u eb=>?_⟩
 ·obtain ⟨sl,e1⟩:=u0.slot b o eb hn hb hx';obtain ⟨sl',e2⟩:=slot b _ e1 hb;exact ⟨sl',e2⟩
 ·obtain ⟨o',e1⟩:=u0.there b o eb hx';by_cases hb:b∈L2.frs outer
  ·obtain ⟨sl,e2⟩:=slot b o' e1 hb;exact ⟨_,e2⟩
  ·exact ⟨o',k b o' e1 (nL b o eb hb)⟩
 ·refine (I.hok b u eb).stay (fun c v hc q=>k c v q fun z=>?_) (fun _ q=>q) fun _ _ q=>q
  have:=sfree c z;rcases hc with hc|hc
  ·rw [hc,eb] at this;cases this
  ·rw [hc] at this;cases this
end
variable [KFrag]
section
variable {P:Program} {w:World} {K:PySem.W.Frag} {mg:Str->Option Value} {base:Heap} {N:List Str} {qual:Str} {scope:Scope} {fad C:Addr} {cd:Value} {A:Around} {outer:List Env} {s:Shared} {H:Hp} {E:XK} {own:Nat->Bool} {pos:Pos}
theorem Y5 {x:Str} {np cpos:Pos} {tx:Str} {xk:Nat} {xp:Pos} (hK:KFrag.K=K) (hn:nsIn K mainGlobals x=some (some (.ref C))) (hg:Gl (k_ (CX2 P w) P w K mg base N qual scope fad cd A outer s H E) x) (mC:mg x=some (.ref C)) (xC:PySem.W.excIn K C aI6 "ValueError.__new__" = true) (hd:nDb x:=by decide) :
  PS (k_ (CX2 P w) P w K mg base N qual scope fad cd A outer s H E) (.Raise (some (.Call (.Name x np) [.Constant (.str tx) xk xp] [] cpos)) none pos) (tZ own E (DQ x)):=by
 subst hK;refine PS.imp (X_ rfl hg mC xC (bG Z8 iQ) rfl hd) fun D σ H1 ⟨ρ,e,q⟩=>⟨by show 1<=sizeLine;decide,fun pins s h2 a us I hx=>T6 I hx ?_⟩
 obtain ⟨fs,C',e1,e2,e3⟩:=q;rw [hn] at e2;cases e2;cases e1;exact e3 σ H1 none (.same fun _ _ z=>z) rfl
end
noncomputable def DR (f:D->D->Res D) (fa fb:FE):FE:=fun ρ=>do
 let x <- fa ρ
 let y <- noE fb ρ
 match f x y with
 | .ok d=>if d.pure then .ok d else .bad
 | _=>.bad
theorem aJj {X:Cx} {E:XK} {a b:Expr} {pos:Pos} {fa fb:FE} {rb fr:Bool} {f:D->D->Res D} (ho:IxR X (r2 f fr)) (ha:PE X a (gZ E fa)) (hb:PE X b (gE fb rb)) (hs:rQ b):PE X (.Subscript a b pos) (gZ E (DR f fa fb)):=PE.imp (aBu ho ha hb hs) fun σ H Q ⟨ρ,er,k⟩=>by
 refine ⟨ρ,er,?_⟩;cases hx:fa ρ with
 | ok x=>
  intro v H1 s1 r1 n1;rcases o_ (f:=fb) (ρ:=ρ) with ⟨y,h1,h2⟩|h2
  ·have e0:DR f fa fb ρ=(match f x y with|.ok d=>if d.pure then .ok d else .bad|_=>.bad):=by unfold DR;rw [hx];show (noE fb ρ >>= _)=_;rw [h2];rfl
   rw [e0] at k;refine ⟨ρ,y,er.same s1,h1,fun v2 H2 s2 r2 _=>?_⟩;cases hf:f x y with
   | ok d=>
    rw [hf] at k;dsimp only at k;split at k
    ·rename_i hp;exact ⟨x,y,d,r1.same s2,r2,hf,fun v3 H3 s3 r3 _=>k v3 H3 (s1.trans (s2.trans s3)) r3 fun _=>r3.bL hp⟩
    ·exact k.elim
   | err c as=>rw [hf] at k;exact k.elim
   | bad=>rw [hf] at k;exact k.elim
  ·have e0:DR f fa fb ρ=.bad:=by unfold DR;rw [hx];show (noE fb ρ >>= _)=_;rw [h2];rfl
   rw [e0] at k;exact k.elim
 | err c as=>
  have e0:DR f fa fb ρ=.err c as:=by unfold DR;rw [hx];rfl
  rw [e0] at k;exact k
 | bad=>
  have e0:DR f fa fb ρ=.bad:=by unfold DR;rw [hx];rfl
  rw [e0] at k;exact k
noncomputable def kZA (E:XK) (H:Hp) (Q:List V->Hp->Prop):Res (List D)->Prop
 | .ok ds=>∀vs H',cJ H H'->bR All H' vs ds->Q vs H'
 | .err c as=>zA E H c as
 | .bad=>False
def gZA (E:XK) (f:FA):TA:=fun σ H Q=>∃ρ,ER H σ ρ/\kZA E H Q (f ρ)
section
variable {X:Cx} {E:XK} {e a i:Expr} {es:List Expr} {fe fi:FE} {f:FA} {r re:Bool} {pos:Pos}
theorem zA.same {H H':Hp} {c:Str} {as:List D} (h:zA E H c as) (s:cJ H H'):zA E H' c as:=let ⟨fs,C,h1,h2,h3⟩:=h;⟨fs,C,h1,h2,fun H2 dx s2 x=>h3 H2 dx (s.trans s2) x⟩
theorem JV (he:PE X e (gE fe re)) (hes:PA X es (gZA E f)) (hs:starEach (e::es) X.env=(false,eval e X.env)::starEach es X.env:=by rfl):PA X (e::es) (gZA E (aB (noE fe) f)):=PA.imp (bG he hes hs) fun σ H Q ⟨ρ,er,k⟩=>by
 rcases o_ (f:=fe) (ρ:=ρ) with ⟨x,h1,h2⟩|h2
 ·refine ⟨ρ,x,er,h1,fun v H1 s1 r1 n1=>⟨ρ,er.same s1,?_⟩⟩;cases hf:f ρ with
  | ok xs=>
   have e0:aB (noE fe) f ρ=.ok (x::xs):=by unfold aB;rw [h2];show (f ρ >>= _)=_;rw [hf];rfl
   rw [e0] at k;exact fun vs H2 s2 r2=>k _ _ (s1.trans s2) (.cons (r1.same s2) r2)
  | err c as=>
   have e0:aB (noE fe) f ρ=.err c as:=by unfold aB;rw [h2];show (f ρ >>= _)=_;rw [hf];rfl
   rw [e0] at k;exact zA.same k s1
  | bad=>
   have e0:aB (noE fe) f ρ=.bad:=by unfold aB;rw [h2];show (f ρ >>= _)=_;rw [hf];rfl
   rw [e0] at k;exact k
 ·have e0:aB (noE fe) f ρ=.bad:=by unfold aB;rw [h2];rfl
  rw [e0] at k;exact k.elim
theorem aD8 (he:PE X e (gZ E fe)) (hes:PA X es (gA f r)) (hs:starEach (e::es) X.env=(false,eval e X.env)::starEach es X.env:=by rfl):PA X (e::es) (gZA E (aB fe (noE f))):=PA.imp (bG he hes hs) fun σ H Q ⟨ρ,er,k⟩=>by
 refine ⟨ρ,er,?_⟩;cases hx:fe ρ with
 | ok x=>
  intro v H1 s1 r1 n1;rcases o_ (f:=f) (ρ:=ρ) with ⟨xs,h1,h2⟩|h2
  ·have e0:aB fe (noE f) ρ=.ok (x::xs):=by unfold aB;rw [hx];show (noE f ρ >>= _)=_;rw [h2];rfl
   rw [e0] at k;exact ⟨ρ,xs,er.same s1,h1,fun vs H2 s2 r2 _=>k _ _ (s1.trans s2) (.cons (r1.same s2) r2)⟩
  ·have e0:aB fe (noE f) ρ=.bad:=by unfold aB;rw [hx];show (noE f ρ >>= _)=_;rw [h2];rfl
   rw [e0] at k;exact k.elim
 | err c as=>
  have e0:aB fe (noE f) ρ=.err c as:=by unfold aB;rw [hx];rfl
  rw [e0] at k;exact k
 | bad=>
  have e0:aB fe (noE f) ρ=.bad:=by unfold aB;rw [hx];rfl
  rw [e0] at k;exact k
end
section
variable {P:Program} {w:World} {K:PySem.W.Frag} {mg:Str->Option Value} {base:Heap} {N:List Str} {qual:Str} {scope:Scope} {fad C:Addr} {cd:Value} {A:Around} {outer:List Env} {s:Shared} {H:Hp} {E:XK} {own:Nat->Bool} {pos:Pos}
theorem Y6 {k k' n:Nat} {x:Str} {e:Expr} {es:List Expr} {fa:FA} {v:List D->Res D} {p cpos:Pos} (R:n_ P w K mg base k x n v) (hr:j5 k' (A.deeper (envOfC qual scope s.heap.objs.size fad cd))) (hkk:k<=k') (hg:Gl (k_ (CX2 P w) P w K mg base N qual scope fad cd A outer s H E) x) (ha:PA (k_ (CX2 P w) P w K mg base N qual scope fad cd A outer s H E) (e::es) (gZA E fa))
  (hdb:nDb x:=by decide) (he:starEach (e::es) (envOfC qual scope s.heap.objs.size fad cd)=(false,eval e (envOfC qual scope s.heap.objs.size fad cd))::starEach es (envOfC qual scope s.heap.objs.size fad cd):=by rfl) (hpl:(backTo cpos (starEach es (envOfC qual scope s.heap.objs.size fad cd))).any (·.1)=false:=by rfl) :
  PE (k_ (CX2 P w) P w K mg base N qual scope fad cd A outer s H E) (.Call (.Name x p) (e::es) [] cpos) (gZ E (aU (iH n v) fa)):=by
 obtain ⟨fm,fdm,ps,F,hm,hk,hb⟩:=R;refine PE.imp (pK F (hr.mono hkk) hg hm hk hb .nil vB ha hdb he hpl) fun σ H1 Q ⟨ρ,er,k⟩=>?_
 refine ⟨ρ,er,?_⟩;cases hf:fa ρ with
 | ok ds=>
  have e:aU (iH n v) fa ρ=iH n v ds:=by unfold aU;rw [hf];rfl
  rw [e] at k;unfold iH at k;split at k
  ·rename_i hl;refine fun vs H' sm rs=>⟨ds,of_decide_eq_true hl,by rw [List.append_nil];exact rs,?_⟩
   cases hv:v ds with
   | ok d=>rw [hv] at k;exact kR.imp k sm id
   | err c as=>rw [hv] at k;exact zA.same k sm
   | bad=>rw [hv] at k;exact k
  ·exact k.elim
 | err c as=>
  have e:aU (iH n v) fa ρ=.err c as:=by unfold aU;rw [hf];rfl
  rw [e] at k;exact k
 | bad=>
  have e:aU (iH n v) fa ρ=.bad:=by unfold aU;rw [hf];rfl
  rw [e] at k;exact k.elim
end
end Mi
end
section
local macro_rules | `(tactic| trivial) => `(tactic| first | exact Or.inl rfl | exact Or.inr rfl | exact Or.inr (Or.inl rfl) | exact Or.inr (Or.inr rfl))
namespace Lk46
open PySem L2 Mi PySem.W
noncomputable def top (i:Nat):Stmt:=PySem.Challenge.pw_hookmill_k46_terms.main.body.getD i (.Pass ⟨0,0,0,0⟩)
abbrev iM:Stmt:=top 31
def qZ:Nat->Bool:=fun i=>i==0||i==1000000
noncomputable def d8:FS:=aQ (bD false 2 (b2 getD (iI (aB (bC (.str "kind")) (aB (bC (.str "maker")) (aB (bC (.str "taker")) (aB (bC (.str "rule")) aP))))) (b2 (aO .mod) (b2 (aO .fdiv) dN rC) rC)) false) (sIf (z9 (bTB (b2 (cC .eq) (b2 (aO .mod) dN rC) eX)) (bTB (b2 (cC .notin) cN (bLs 0)))) (sY 0 (b2 (aO .add) gK (b2 (aO .mod) (b2 (aO .fdiv) dN (bC (.int 16))) (bC (.int 15)))) cN) fH)
abbrev oE:Stmt:=top 29
def DW:Nat->Bool:=fun i=>i==0||i==1000000
noncomputable def tE:FS:=aQ (bD false 1 (b2 getD gB gY) false) (aQ (bD false 2 (b2 getD gB eX) false) (aQ (sY 0 eX (b2 (aO .add) cN eX)) (aQ (sIf (bTB (b2 (jV .lt) cN (aU eY (aB dN aP)))) (BX (b2 getD dN cN) false) fH) (aQ (sIf (bTB (b2 (cC .eq) (aU eY (aB dN aP)) gY)) (BX (b2 (aO .add) (b2 yM (b2 yM cN cN) gK) cN) true) fH) (BX (b2 (aO .add) (b2 (aO .fdiv) (b2 getD dN (b2 (aO .mod) cN (aU eY (aB dN aP)))) m7) (b2 yM cN cN)) true)))))
def aR:List D->Res D:=fnX 1 1 3 tE
abbrev i_:Stmt:=top 32
noncomputable def M_:Nat->Bool:=fun i=>i==0||i==4||i==5||i==10||i==1000000
noncomputable def pY:FS:=aQ (iZ false 2 (cH aR 1 0 aP)) (aQ (bD false 3 (b2 (aO .add) eX (b2 (aO .mod) cN gK)) true) (aQ (bD true 4 (iB dN cP (cD dH)) true) (aQ (bD true 5 (e_ 12 (lX (aB dH aP) jL) oM h_ (lO (aB (b2 getD dN (b2 (aO .add) gK gD)) (aB (b2 getD dB gD) (aB (lO aP) aP)))) false) true) (aQ (QR (lX (aB (b2 (aO .mod) (b2 (aO .fdiv) cN gK) rC) aP) jL) (tg1 6) (aQ (iZ false 7 (cH aR 1 0 aP)) (aQ (bD false 8 (e_ 12 (lX (aB (b2 (aO .mod) (b2 (aO .fdiv) gG gK) rC) aP) jL) oM h_ (b2 getD dB (b2 (aO .mod) (b2 (aO .fdiv) gG (b2 getD (iI (aB yD (aB (bC (.int 36)) (aB (bC (.int 108)) aP)))) gD)) dH)) false) true) (uF 5 (lO (aB (b2 getD dN (b2 (aO .add) (b2 (aO .add) gK dH) gF)) (aB (b2 getD dB (b2 (aO .mod) gG dH)) (aB (aU g_ (aB j7 aP)) aP)))))))) (aQ (uF 5 (lO (aB (b2 getD dN XF) (aB (b2 getD dB gY) (aB (lO (aB (b2 getD dB gY) aP)) aP))))) (aQ (bD false 9 (b2 (aO .mod) (b2 (aO .fdiv) cN yD) (aU eY (aB gC aP))) true) (aQ (bD true 10 (iI aP) true) (aQ (R5 (aG8 (x2L (aO .mod) (cH aR 1 0 aP) rC)) (tg1 6) (aQ (iZ false 7 (cH aR 1 0 aP)) (aQ (bD false 11 (e_ 12 (lX (aB (b2 (aO .mod) (b2 (aO .fdiv) gG XF) gK) aP) jL) oM h_ (b2 getD dB (b2 (aO .mod) (b2 (aO .fdiv) gG (b2 getD (iI (aB (bC (.int 27)) (aB (bC (.int 81)) aP))) gD)) dH)) false) true) (uF 10 (lO (aB (b2 getD dN (b2 (aO .add) aC2 gF)) (aB (b2 getD dB (b2 (aO .mod) gG dH)) (aB (b2 getD dB (b2 (aO .mod) (b2 (aO .fdiv) gG gK) dH)) (aB (aU g_ (aB jR aP)) aP))))))))) (vA (aB (bOw 4) (aB (b2 (aO .add) (iB gC (cD pM) cP) (iB gC cP (cD pM))) (aB (bOw 10) aP))))))))))))
def jC:List D->Res D:=fnX 1 2 12 pY
abbrev jY:Stmt:=top 33
def uH:Nat->Bool:=fun i=>i==4
noncomputable def uI:FS:=aQ (bD true 4 (iI aP) true) (aQ (mD 2 (tg1 5) (mD 1 (tg1 6) (sIf (bTB (b2 (cC .eq) (b2 getD gF eX) (b2 getD gC m7))) (aQ (bD false 7 (b2 getD dH (b2 (aO .add) gK (bM sX gB (aB (b2 getD gC eX) aP)))) false) (aQ (bD false 8 (iB dH (cD LK) (cD (b2 (aO .add) (b2 (aO .add) LK (aU eY (aB (b2 getD gF m7) aP))) (aU eY (aB (b2 getD gC gK) aP))))) true) (uF 4 (lO (aB (b2 getD gC gY) (aB (b2 getD gF gY) (aB (aU g_ (aB j7 aP)) (aB (lO (aB gG aP)) aP)))))))) fH))) (j8 (lO (aB (aU g_ (aB gB aP)) (aB (aU g_ (aB dN aP)) (aB (aU g_ (aB cN aP)) (aB (aU g_ (aB dB aP)) aP))))) false))
def fC:List D->Res D:=fnS 4 9 uI
abbrev iC:Stmt:=top 34
noncomputable def zE:Nat->Bool:=fun i=>i==0||i==5||i==6||i==7||i==1000000
noncomputable def zF:FS:=aQ (bD true 5 (iI aP) true) (aQ (bD true 6 (iI aP) true) (aQ (bD true 7 (iI (aB (bPu cN) aP)) true) (aQ (aK6 (bTB (b2 (cC .ne) gG (iI aP))) (aQ (MN 7 8) (aQ (bD false 9 (b2 (aO .sub) (b2 (aO .sub) (b2 (aO .sub) dH (aU eY (aB gC aP))) (aU eY (aB gG aP))) eX) true) (aQ (bD false 10 (e_ 13 (cV dN false) oM (z9 (bTB (b2 (cC .eq) (b2 getD l_ eX) j7)) (bTB (b2 (jV .le) (aU eY (aB (b2 getD l_ m7) aP)) pM))) l_ false) true) (aQ (bD false 11 (e_ 13 (cV jK false) oM (bTB (b2 inX j7 (b2 getD l_ m7))) l_ false) true) (aQ (sIf (z9 (bTr dB) (bTB (b2 (cC .ne) jR (iI aP)))) (sAl 10 11) fH) (aQ (iZ false 12 (x2R getD jK (x2L (aO .mod) (cH aR 1 0 aP) (aU eY (aB jK aP))))) (aQ (uF 5 (b2 getD gD gY)) (aQ (uF 6 j7) (aCq 7 (b1 aAr (b2 getD gD m7)))))))))))) (vA (aB (bOw 5) (aB (bOw 6) aP))))))
def iD:List D->Res D:=fnX 1 5 13 zF
abbrev pZ:Stmt:=top 23
def NB:Nat->Bool:=fun i=>i==1
noncomputable def NK:FS:=aQ (bD true 1 (bC (.dct [])) true) (aQ (QR (cV (b2 getD gB eX) false) (tgN [2,3,4]) (aC6 1 cN (lO (aB dH (aB dB aP))))) (aQ (QR (cV (b2 getD gB m7) false) (tgN [2,3,5,6]) (aC6 1 cN (lO (aB dH (aB (b2 aCp (lO (aB gC aP)) gF) aP))))) (aFg 1)))
def gP:List D->Res D:=fnS 1 7 NK
abbrev tG:Stmt:=top 25
def T7:Nat->Bool:=fun i=>false
noncomputable def T8:FS:=aQ (noE (sIf (bTB (b2 inX dN gB)) (j8 (b2 getD gB dN) false) fH)) (aQ (noE (sIf (bTB (b2 inX dN cN)) (j8 (lO (aB (b2 getD cN dN) (aB (lO aP) aP))) false) fH)) (iU "NoName" ["word"] (noE (aB dN aP))))
def fD:List D->Res D:=fnS 3 3 T8
abbrev mH:Stmt:=top 24
def zG:Nat->Bool:=fun i=>i==4
noncomputable def mJ:FS:=aQ (noE (bD true 4 (iI (aB (bPu cN) aP)) true)) (aQ (mD 1 (noT (tg1 5)) (aQ (sIf (noE (z8 (bTr dB))) (iU "BadKind" ["word"] (noE (aB gC aP))) fH) (aQ (bD false 6 (aU (iH 3 fD) (noE (aB gB (aB gC (aB dH aP))))) true) (aQ (YG (noE (xTB (x2R (cC .ne) (bPu (b2 getD gF gY)) (CW 4)))) (iU "BadKind" ["word"] (noE (aB gC aP))) fH) (noE (aCq 4 (b1 aAr (b2 getD gF eX)))))))) (sIf (noE (bTr dB)) (iU "BadKind" ["word"] (noE (aB (bC (.str "")) aP))) fH))
def dO:List D->Res D:=fnS 4 7 mJ
abbrev dX:Stmt:=top 20
def oF:Nat->Bool:=fun i=>false
noncomputable def oG:FS:=j8 (aU aI5 (aB (e_ 1 (cV gB false) oM h_ (bCh (jV .le) (jV .le) (bC (.str "a")) dN (bC (.str "z"))) true) aP)) true
def dY:List D->Res D:=fnS 1 1 oG
abbrev tH:Stmt:=top 19
def T9:Nat->Bool:=fun i=>false
noncomputable def T_:FS:=j8 (uE (bCh (jV .le) (jV .le) eX (aU eY (aB gB aP)) QM) (aU (iH 1 dY) (aB gB aP))) true
def mK:List D->Res D:=fnS 1 1 T_
abbrev lG:Stmt:=top 21
def DX:Nat->Bool:=fun i=>false
noncomputable def DY:FS:=j8 (aU aI5 (aB (e_ 1 (cV gB false) oM h_ (aU (iH 1 mK) (aB dN aP)) true) aP)) true
def gQ:List D->Res D:=fnS 1 1 DY
abbrev UG:Stmt:=top 26
def aGs:Nat->Bool:=fun i=>false
noncomputable def JW:FS:=aQ (noE (bD false 2 (aU g_ (aB (bM splitM dN (aB (bC (.str " ")) aP)) aP)) false)) (aQ (sIf (noE (bOr (bTB (b2 (jV .gt) (aU eY (aB cN aP)) BW)) (z8 (bTr (aU (iH 1 gQ) (aB cN aP)))))) (DQ "NoTerm") fH) (aQ (noE (bD false 3 (aU (iH 1 gP) (aB gB aP)) true)) (aQ (pN (aU (iH 4 dO) (aB (noE dH) (aB (noE cN) (aB (DR getD (aU (iH 3 fD) (noE (aB dH (aB (b2 getD cN gY) (aB (bC (.dct [])) aP))))) gY) (noE (aB (bC (.dct [])) aP))))))) (noE (j8 cN false)))))
def gH:List D->Res D:=fnS 2 4 JW
abbrev tK:Stmt:=top 27
def UJ:Nat->Bool:=fun i=>false
noncomputable def UL:FS:=j8 (b2 getD (b2 getD (aU (iH 1 gP) (aB gB aP)) (b2 getD dN gY)) gY) false
def mL:List D->Res D:=fnS 2 2 UL
abbrev mO:Stmt:=top 38
def zH:Nat->Bool:=fun i=>false
noncomputable def mQ:FS:=aQ (bD false 4 (aU (iH 2 gH) (noE (aB gB (aB dN aP)))) true) (aQ (noE (sIf (bOr (z8 (bTr (b1 (vM .tuple) dB))) (bTB (b2 (cC .ne) (aU eY (aB dB aP)) (aU eY (aB cN aP))))) (j8 (bC (.bl false)) true) fH)) (aQ (noE (QR (lX (aB (aU eY (aB cN aP)) aP) jL) (tg1 5) (sIf (bOr (z8 (bTr (b1 (vM .str) (b2 getD dB gC)))) (bTB (b2 (cC .ne) (b2 getD dB gC) (b2 getD cN gC)))) (j8 (bC (.bl false)) true) fH))) (aQ (noE (bD false 6 (aU (iH 2 mL) (aB gB (aB dB aP))) true)) (noE (j8 (uE (b1 (vM .str) gF) (b2 (cC .eq) gF dH)) true)))))
def fP:List D->Res D:=fnS 4 7 mQ
abbrev iG:Stmt:=top 30
def zJ:Nat->Bool:=fun i=>i==0||i==9||i==1000000
noncomputable def zK:FS:=aQ (bD false 1 (bC (.str "abcdefghijklmnopqrstuvwxyz")) true) (aQ (iZ false 2 (cH aR 1 0 aP)) (aQ (bD false 3 (b2 getD (iI (aB eX (aB gK (aB aFe (aB aI1 (aB XF (aB (bC (.int 25)) aP))))))) (b2 (aO .mod) (b2 (aO .fdiv) cN gK) G6)) false) (aQ (bD false 4 (b2 (aO .mod) (b2 (aO .fdiv) cN XH) m8) true) (aQ (iZ false 5 (cH aR 1 0 aP)) (aQ (bD false 6 (b2 (aO .mod) gC QM) true) (aQ (bD false 7 (bM joinM (bC (.str "")) (aB (e_ 14 (lX (aB gF aP) jL) oM h_ (b2 getD dN (b2 (aO .mod) (b2 (aO .add) (b2 (aO .fdiv) gC QM) (b2 yM x_ (b2 (aO .add) dB (b2 (aO .mod) (b2 (aO .fdiv) gC aC3) aFe)))) m8)) false) aP)) true) (aQ (iZ false 8 (x2L (aO .mod) (cH aR 1 0 aP) (b2 (aO .add) gF eX))) (aQ (sIf (bTB (b2 (cC .eq) (b2 (aO .mod) cN gK) m7)) (bD false 7 (iB gG cP (cD G6)) true) fH) (aQ (bD true 9 (iI aP) true) (aQ (QR (lX (aB m8 aP) jL) (tg1 10) (aQ (bD false 11 (b2 (aO .mod) (b2 (aO .add) (b2 yM jK dH) dB) m8) true) (sIf (bTB (b2 (cC .eq) (b2 (aO .mod) cN gK) eX)) (uF 9 (b2 yM (b2 getD dN (b2 (aO .mod) (b2 (aO .add) dB (b2 (aO .mod) jR rC)) m8)) (b2 (aO .add) eX (b2 (aO .fdiv) jR rC)))) (sIf (bTB (b2 (cC .eq) (b2 (aO .mod) cN gK) m7)) (aQ (bD false 12 (b2 getD dN (b2 (aO .mod) (b2 (aO .add) dB (b2 (aO .mod) jR G6)) m8)) false) (aQ (bD false 13 (b2 getD dN (b2 (aO .mod) (b2 (aO .add) dB (b2 (aO .fdiv) jR G6)) m8)) false) (uF 9 (b2 (aO .add) (b2 (aO .add) (b2 (aO .add) (iB gG cP (cD j7)) gD) l_) (iB gG (cD j7) cP))))) (uF 9 (b2 (aO .add) (b2 (aO .add) (iB gG cP (cD j7)) (b2 getD dN jR)) (iB gG (cD j7) cP))))))) (aQ (sIf (bOr (bTB (b2 inX (bC (.str "copy")) pM)) (bTB (b2 inX (bC (.str "drop")) pM))) (bD true 9 (e_ 14 (cV pM false) oM h_ (b2 (aO .add) x_ (bC (.str "e"))) true) true) fH) (yE 9))))))))))))
def eQ:List D->Res D:=fnX 1 1 14 zK
abbrev cZ:Stmt:=top 35
def pA:Nat->Bool:=fun i=>false
noncomputable def jQ:FS:=aQ (bD false 6 (b2 (aO .mod) dN (aU eY (aB cN aP))) true) (aQ (bD false 1 (b2 (aO .fdiv) dN (aU eY (aB cN aP))) true) (aQ (bD false 7 (b2 getD gC (b2 (aO .mod) dN (aU eY (aB gC aP)))) false) (aQ (sIf (bTB (b2 (cC .eq) gB gY)) (j8 (iI (aB (iB cN cP (cD gF)) (aB m7 (aB (bC (.str "")) aP)))) true) fH) (aQ (sIf (bTB (b2 (cC .eq) gB eX)) (aQ (bD false 8 (b2 (aO .add) gC (e_ 10 (cV dB false) oM h_ (b2 getD jK gY) false)) true) (aQ (bD false 7 (b2 getD j7 (b2 (aO .mod) dN (aU eY (aB j7 aP)))) false) (j8 (iI (aB (b2 (aO .add) cN (iI (aB (bPu gG) aP))) (aB m7 (aB (bPu gG) aP)))) true))) fH) (aQ (bD false 9 (e_ 10 (cV dB false) oM (bTB (b2 (cC .ne) (b2 getD jK eX) (b2 getD dH gF))) (b2 getD jK gY) false) true) (aQ (sIf (z9 (bTB (b2 (cC .eq) gB gK)) (z9 (bTB (b2 (jV .gt) gF gY)) (bTB (b2 (cC .ne) pM (iI aP))))) (aQ (bD false 7 (b2 getD pM (b2 (aO .mod) (b2 (aO .fdiv) dN rC) (aU eY (aB pM aP)))) false) (j8 (iI (aB (b2 (aO .add) (b2 (aO .add) (iB cN cP (cD gF)) (iI (aB (bPu gG) aP))) (iB cN (cD (b2 (aO .add) gF eX)) cP)) (aB m7 (aB (bPu gG) aP)))) true)) fH) (j8 (iI (aB (b2 (aO .add) (b2 (aO .add) (iB cN cP (cD gF)) (iI (aB (bPu gG) aP))) (iB cN (cD (b2 (aO .add) gF eX)) cP)) (aB eX (aB (bPu gG) aP)))) true)))))))
def bQ:List D->Res D:=fnS 6 10 jQ
abbrev gR:Stmt:=top 36
def p6:Nat->Bool:=fun i=>i==3
noncomputable def kJ:FS:=aQ (bD true 3 (aU XJ (aB cN aP)) true) (aQ (bD false 4 (b2 (aO .mod) dN (aU eY (aB dH aP))) true) (aQ (bD false 1 (b2 (aO .fdiv) dN (aU eY (aB dH aP))) true) (aQ (sIf (bTB (b2 (cC .eq) gB gY)) (aFh 3 (b2 (aO .mod) dN (b2 (aO .add) (aU eY (aB dH aP)) eX)) (bC (.str ""))) fH) (aQ (sIf (bOr (bTB (b2 (cC .eq) gB eX)) (bTB (b2 (cC .eq) gB rC))) (aQ (bD false 5 (bC (.str "!\"#$&'()*+,-./0123456789:;<=>?@ABCDEFGHIJKLM")) true) (aQ (bD false 5 (b2 (aO .add) gC (bC (.str "NOPQRSTUVWXYZ[\\]^_`{|}~\n"))) true) (aQ (bD false 6 (b2 (aO .mod) dN (aU eY (aB (b2 getD dH dB) aP))) true) (aQ (bD false 7 (b2 getD dH dB) false) (sY 3 dB (b2 (aO .add) (b2 (aO .add) (iB gG cP (cD gF)) (b2 getD gC (b2 (aO .mod) (b2 (aO .fdiv) dN QM) aC4))) (iB gG (cD (b2 (aO .add) gF eX)) cP))))))) fH) (aQ (sIf (bTB (b2 (cC .eq) gB m7)) (sY 3 dB (iB (b2 (aO .add) (b2 getD dH dB) (bC (.str "ponmlkjih"))) cP (cD XF))) fH) (aQ (bD false 8 (bM joinM (bC (.str " ")) (aB dH aP)) true) (aQ (sIf (bTB (b2 (cC .eq) gB rC)) (bD false 8 (b2 (aO .add) (bC (.str "copy ")) j7) true) fH) (aQ (sIf (bTB (b2 (cC .eq) gB gK)) (aQ (bD false 9 (aU eY (aB dH aP)) true) (aQ (bD false 8 (b2 (aO .add) (b2 (aO .add) (bM joinM (bC (.str " ")) (aB (iB dH cP (cD (b2 (aO .add) dB eX))) aP)) (bC (.str "\n"))) (bM joinM (bC (.str " ")) (aB (iB dH (cD (b2 (aO .add) dB eX)) cP) aP))) true) (sIf (bTB (b2 (cC .eq) (b2 (aO .add) dB eX) pM)) (bD false 8 (b2 (aO .add) (bM joinM (bC (.str " ")) (aB dH aP)) (bC (.str "\n"))) true) fH))) fH) (j8 j7 false)))))))))
def cO:List D->Res D:=fnS 3 10 kJ
abbrev jZ:Stmt:=top 37
def uJ:Nat->Bool:=fun i=>false
noncomputable def j0:FS:=aQ (bD false 4 (bC .non) true) (aQ (aGm gH 2 (aB gB (aB dN aP)) ["BadKind", "NoName", "NoTerm"] 4 5) (aQ (sIf (bTr (zB [("BadKind",false),("NoName",false),("NoTerm",false)] 4)) (j8 (bC (.bl false)) true) fH) (aQ (sIf (bOr (bTr (zB [("BadKind",false),("NoName",false),("NoTerm",false)] 4)) (z8 (bTr (zB [("BadKind",true),("NoName",true),("NoTerm",true)] 4)))) (j8 (bC (.bl false)) true) fH) (aQ (sIf (bOr (bTB (b2 (cC .ne) (zB [("BadKind",false),("NoName",true),("NoTerm",false)] 4) (b2 (cC .eq) cN eX))) (bTB (b2 (cC .ne) (zB [("BadKind",true),("NoName",false),("NoTerm",false)] 4) (b2 (cC .eq) cN m7)))) (j8 (bC (.bl false)) true) fH) (aQ (sIf (bTB (b2 (cC .ne) (zB [("BadKind",false),("NoName",false),("NoTerm",true)] 4) (b2 (cC .eq) cN gK))) (j8 (bC (.bl false)) true) fH) (j8 (aC5 (b2 (cC .eq) cN gK) (uE (b1 (vM .str) (M8 ["BadKind", "NoName", "NoTerm"] "word" 4)) (b2 (cC .eq) (M8 ["BadKind", "NoName", "NoTerm"] "word" 4) dH))) true))))))
def fG:List D->Res D:=fnS 4 6 j0
abbrev uK:Stmt:=top 39
def o_law:Nat->Bool:=fun i=>i==1
noncomputable def aD9:FS:=aQ (bD true 1 (aI8 (iI (aB (iB gB cP (cD G7)) (aB gY aP)))) true) (aQ (iZ false 2 (SQ d8 3 (cH eQ 1 1 aP) (cH aR 1 1 aP))) (aQ (CZ (cH jC 2 1 (aB cN aP)) [3,4,5]) (aQ (bD false 6 (b2 (aO .add) dB (e_ 19 (cV gC false) oM h_ (lO (aB (b2 getD yC gY) (aB (b2 getD yC eX) (aB (b2 aCp (lO (aB (b2 getD yC m7) aP)) (b2 getD yC gK)) aP)))) false)) true) (aQ (bD false 7 (aU (iH 4 fC) (aB dH (aB dB (aB gC (aB cN aP))))) true) (aQ (iZ false 8 (cH aR 1 1 aP)) (aQ (iZ false 9 (cH aR 1 1 aP)) (aQ (bD false 10 (b2 (cC .eq) (b2 (aO .mod) (b2 (aO .fdiv) j7 yD) m7) eX) true) (aQ (bD false 11 (b2 getD dH gY) false) (aQ (sIf (z8 (bTr jK)) (bD false 11 (b2 getD dH (b2 (aO .mod) (b2 (aO .fdiv) j7 (bC (.int 96))) (aU eY (aB dH aP)))) false) fH) (aQ (CZ (cH iD 5 1 (aB gF (aB jR (aB (bPu (b2 getD (iI (aB QM (aB (bC (.int 30)) (aB BW (aB (bC (.int 61)) aP))))) (b2 (aO .mod) (b2 (aO .fdiv) j7 (bC (.int 24))) rC))) (aB jK aP))))) [12,13]) (aQ (bD false 14 gY true) (aQ (bD false 15 (bC (.str "")) true) (aQ (bD false 16 (b2 (aO .mod) j7 yD) true) (aQ (bD false 17 (iI (aB (bPu (b2 getD cN XH)) (aB (bC (.str "drop")) (aB (bPu (b2 getD dH (b1 aI2 eX))) (aB (bPu (b2 getD cN LK)) (aB (bC (.str "copy")) aP)))))) true) (aQ (sIf (z9 (bTB (b2 (jV .le) gK oX)) (bTB (b2 (jV .le) oX G6))) (S5 bQ 6 (aB (b2 (aO .sub) oX gK) (aB pM (aB gD (aB l_ (aB gF (aB (cL 17) aP)))))) [12,14,15] [1]) fH) (aQ (bD false 18 (bM joinM (bC (.str " ")) (aB gD aP)) true) (aQ (sIf (bTB (b2 (jV .gt) oX G6)) (aQ (bD false 18 (aU (iH 3 cO) (aB (b2 (aO .sub) oX aI1) (aB pM (aB gD aP)))) true) (bD false 14 gK true)) fH) (aQ (sIf (bOr (bTB (b2 (jV .gt) (aU eY (aB gD aP)) BW)) (bTB (b2 (cC .eq) (aU eY (aB gD aP)) gY))) (bD false 14 gK true) fH) (aQ (sIf (bTB (b2 (jV .gt) x_ gY)) (j8 (aU (iH 4 fG) (aB gG (aB (cL 18) (aB x_ (aB (cL 15) aP))))) true) fH) (j8 (aU (iH 4 fP) (aB gG (aB (cL 18) (aB gD (aB jR aP))))) true))))))))))))))))))))
def NP:List D->Res D:=fnS 1 19 aD9
abbrev lH:Stmt:=aGp (top 14) 0
abbrev jG:Stmt:=aGp (top 16) 0
abbrev lV:List Str:=["names", "cell", "own"]
abbrev tL:List Str:=["deck", "cells", "at"]
noncomputable abbrev fQ:List Str:=["deck", "names", "cell", "many", "kinds", "makers", "k", "one", "behind", "at", "takers", "more"]
noncomputable abbrev nM:List Str:=["kinds", "makers", "takers", "names", "rules", "taker", "maker", "base", "own"]
noncomputable abbrev fU:List Str:=["deck", "heads", "wanted", "most", "full", "words", "wants", "due", "kind", "room", "some", "grown", "pick"]
noncomputable abbrev vC:List Str:=["program", "heads", "name", "kind", "parts", "taken", "more"]
abbrev zL:List Str:=["heads", "word", "known"]
noncomputable abbrev qP:List Str:=["heads", "words", "wanted", "known", "waiting", "word", "head"]
abbrev bA:List Str:=["word"]
abbrev lJ:List Str:=["words"]
abbrev aAu:List Str:=["program", "text", "words", "heads"]
abbrev zM:List Str:=["program", "words"]
noncomputable abbrev qQ:List Str:=["program", "text", "words", "kind", "found", "k", "wants"]
noncomputable abbrev fV:List Str:=["deck", "letters", "choice", "turn", "shift", "cell", "size", "base", "at", "names", "k", "spot", "ahead", "behind"]
noncomputable abbrev cG:List Str:=["choice", "more", "words", "wants", "heads", "strange", "at", "odd", "every", "others"]
noncomputable abbrev kO:List Str:=["choice", "more", "words", "some", "at", "signs", "cut", "old", "text", "many"]
abbrev nO:List Str:=["program", "text", "tag", "word", "caught", "e"]
noncomputable abbrev Y7:List Str:=["script", "deck", "names", "kinds", "makers", "takers", "heads", "program", "cell", "more", "full", "wanted", "words", "wants", "tag", "word", "choice", "strange", "text"]
theorem p7:bT lV ["names", "cell"] (aM iM):=by refine ⟨rfl,rfl,rfl,?_,rfl,?_,?_⟩ <;> decide +kernel
theorem pB [KFrag] {P:Program} {w:World} {K:Frag} {mg:Str->Option Value} {base:Heap} {fad:Addr} {fd:FuncData} (hK:KFrag.K=K) (B:Bt mg)  (F:Fun K "_law_own_words" "_law_own_words" iM fad fd) (hm:mg "_law_own_words" = some (.ref fad)):YS P w K mg base 1 "_law_own_words" d8 3:=by
 have sc:=p7;have nd:=sc.nd;refine aGd (ps:=["names", "cell"]) (N:=lV) (k:=0) F hm (F.binds fun _ _ _ _ _ _ us hl=>match us,hl with|[_,_],_=>rfl) sc qZ rfl (by decide) rfl rfl fun cdv A outer s H E hr=>?_
 have hu:=v8 hr;exact aCz (bZ (bJ (eF (aC cX (aC cX (aC cX (aC cX aN))))) (aV bU (aV cQ aA aH) aH))) (kY (fK (PW.pt (uY (bY (iJ hu) (aV bU aA aH) aH (bN _)) (sE (bY (XS hu) aA (aD1 rfl (by trivial)) (by with_unfolding_all rfl))))) (aX (wC rfl rfl (by trivial) (aV bI aH (aV bU (aV cQ aA aH) aH)) aA)) b7) (nR (uQ (cU rfl (by trivial)))))
theorem zN:bT tL ["deck"] (aM oE):=by refine ⟨rfl,rfl,rfl,?_,rfl,?_,?_⟩ <;> decide +kernel
theorem wI [KFrag] {P:Program} {w:World} {K:Frag} {mg:Str->Option Value} {base:Heap} {fad:Addr} {fd:FuncData} (hK:KFrag.K=K) (B:Bt mg)  (F:Fun K "_law_next" "_law_next" oE fad fd) (hm:mg "_law_next" = some (.ref fad)):MT P w K mg base 1 "_law_next" 1 1 aR:=by
 have sc:=zN;have nd:=sc.nd;refine wB (ps:=["deck"]) (N:=tL) (k:=0) 1 F hm (F.binds fun _ _ _ _ _ _ us hl=>match us,hl with|[_],_=>rfl) sc DW (by decide) (by decide) fun cdv A outer s H E hr=>?_
 have hu:=v8 hr;exact aG (bZ (bJ aA aH)) (aG (bZ (bJ aA aH)) (aG (wC rfl rfl (by trivial) aH (aV bI aA aH)) (aG (fK (bY aJ8 aA (bH (dD hK) (by rfl) B.len dF (aC aA aN)) (bN _)) (aX (CV (bJ aA aA))) b7) (aG (fK (bY (iJ hu) (bH (dD hK) (by rfl) B.len dF (aC aA aN)) aH (bN _)) (aX (CV (aV bI (aV pU (aV pU aA aA) aH) aA))) b7) (aX (CV (aV bI (aV cQ (bJ aA (aV bU aA (bH (dD hK) (by rfl) B.len dF (aC aA aN)))) aH) (aV pU aA aA))))))))
theorem D_:bT fQ ["deck", "names"] (aM i_):=by refine ⟨rfl,rfl,rfl,?_,rfl,?_,?_⟩ <;> decide +kernel
theorem zO [KFrag] {P:Program} {w:World} {K:Frag} {mg:Str->Option Value} {base:Heap} {fad:Addr} {fd:FuncData} (hK:KFrag.K=K) (B:Bt mg) (c__law_next:MT P w K mg base 1 "_law_next" 1 1 aR) (F:Fun K "_law_sig" "_law_sig" i_ fad fd) (hm:mg "_law_sig" = some (.ref fad)):MT P w K mg base 2 "_law_sig" 2 1 jC:=by
 have sc:=D_;have nd:=sc.nd;refine wB (ps:=["deck", "names"]) (N:=fQ) (k:=1) 1 F hm (F.binds fun _ _ _ _ _ _ us hl=>match us,hl with|[_,_],_=>rfl) sc M_ (by decide) (by decide) fun cdv A outer s H E hr=>?_
 have hu:=v8 hr
 exact aG (nJ rfl sc.nd rfl (by trivial) (eG c__law_next hr (by decide) (by rfl) rfl rfl (by trivial) (jP))) (aG (bZ (aV bI aH (aV bU aA aH))) (aG (bZ (fO hK aA (dW) (dC aA))) (aG (rD (ownN:=(["k"]:List Str)) (show eE fQ (aM i_) _ (["k"]:List Str) from by refine ⟨rfl,?_,?_,?_,?_,?_,?_⟩ <;> decide +kernel) (n:=12) (m:=1) rfl rfl rfl (nW (by rfl) B.range (aC aA aN)) (iK 12) (fun _=>bK (show ((List.map (j9 (["k"]:List Str)) fQ++(["k"]:List Str)):List Str).Nodup from by decide +kernel) rfl (by trivial)) (fun _=>iR (aC (bJ aA (aV bI aH aA)) (aC (bJ aA aA) (aC (iR aN) aN)))) (fun _=>rfl) rfl sc.nd rfl (by trivial) (Or.inl rfl) (by with_unfolding_all rfl)) (aG (yL PassesOwn.never rfl (nW (by rfl) B.range (aC (aV bU (aV cQ aA aH) aH) aN)) (nY rfl) (bK sc.nd rfl (by trivial)) (aG (nJ rfl sc.nd rfl (by trivial) (eG c__law_next hr (by decide) (by rfl) rfl rfl (by trivial) (jP))) (aG (rD (ownN:=(["j"]:List Str)) (show eE fQ (aM i_) _ (["j"]:List Str) from by refine ⟨rfl,?_,?_,?_,?_,?_,?_⟩ <;> decide +kernel) (n:=12) (m:=1) rfl rfl rfl (nW (by rfl) B.range (aC (aV bU (aV cQ aA aH) aH) aN)) (iK 12) (fun _=>bK (show ((List.map (j9 (["j"]:List Str)) fQ++(["j"]:List Str)):List Str).Nodup from by decide +kernel) rfl (by trivial)) (fun _=>bJ aA (aV bU (aV cQ aA (bJ (eF (aC aH (aC aH (aC aH aN)))) aA)) aA)) (fun _=>rfl) rfl sc.nd rfl (by trivial) (Or.inl rfl) (by with_unfolding_all rfl)) (aX (oZ rfl rfl (by trivial) (iR (aC (bJ aA (aV bI (aV bI aH aA) aA)) (aC (bJ aA (aV bU aA aA)) (aC (fX jO (by rfl) B.tuple iY (aC aA aN)) aN))))))))) (aG (oZ rfl rfl (by trivial) (iR (aC (bJ aA aH) (aC (bJ aA aH) (aC (iR (aC (bJ aA aH) aN)) aN))))) (aG (bZ (aV bU (aV cQ aA aH) (bH (dD hK) (by rfl) B.len dF (aC aA aN)))) (aG (bZ (eF aN)) (aG (aGa PassesOwn.never rfl (aG9 (by rfl) B.range (R0 bU (eG c__law_next hr (by decide) (by rfl) rfl rfl (by trivial) (jP)) aH)) (nY rfl) (bK sc.nd rfl (by trivial)) (aG (nJ rfl sc.nd rfl (by trivial) (eG c__law_next hr (by decide) (by rfl) rfl rfl (by trivial) (jP))) (aG (rD (ownN:=(["j"]:List Str)) (show eE fQ (aM i_) _ (["j"]:List Str) from by refine ⟨rfl,?_,?_,?_,?_,?_,?_⟩ <;> decide +kernel) (n:=12) (m:=1) rfl rfl rfl (nW (by rfl) B.range (aC (aV bU (aV cQ aA aH) aH) aN)) (iK 12) (fun _=>bK (show ((List.map (j9 (["j"]:List Str)) fQ++(["j"]:List Str)):List Str).Nodup from by decide +kernel) rfl (by trivial)) (fun _=>bJ aA (aV bU (aV cQ aA (bJ (eF (aC aH (aC aH aN))) aA)) aA)) (fun _=>rfl) rfl sc.nd rfl (by trivial) (Or.inl rfl) (by with_unfolding_all rfl)) (aX (oZ rfl rfl (by trivial) (iR (aC (bJ aA (aV bI aH aA)) (aC (bJ aA (aV bU aA aA)) (aC (bJ aA (aV bU (aV cQ aA aH) aA)) (aC (fX jO (by rfl) B.tuple iY (aC aA aN)) aN)))))))))) (aX (JH (JG rfl rfl (by trivial) (aGb (aV bI (fO hK aA (dC aA) (dW)) (fO hK aA (dW) (dC aA))) (JG rfl rfl (by trivial) (aAp))))))))))))))
theorem tM:bT nM ["kinds", "makers", "takers", "names"] (aM jY):=by refine ⟨rfl,rfl,rfl,?_,rfl,?_,?_⟩ <;> decide +kernel
theorem q_ [KFrag] {P:Program} {w:World} {K:Frag} {mg:Str->Option Value} {base:Heap} {fad:Addr} {fd:FuncData} (hK:KFrag.K=K) (B:Bt mg)  (F:Fun K "_law_program" "_law_program" jY fad fd) (hm:mg "_law_program" = some (.ref fad)):jU P w K mg base 1 "_law_program" 4 fC:=by
 have sc:=tM;have nd:=sc.nd;refine qK (ps:=["kinds", "makers", "takers", "names"]) (N:=nM) (k:=0) F hm (F.binds fun _ _ _ _ _ _ us hl=>match us,hl with|[_,_,_,_],_=>rfl) sc uH (by decide) (by decide) fun cdv A outer s H E hr=>?_
 have hu:=v8 hr;exact aG (bZ (eF aN)) (aG (Q8 rfl PassesOwn.never rfl rfl (by trivial) (nY rfl) (bK sc.nd rfl (by trivial)) (aX (Q8 rfl PassesOwn.never rfl rfl (by trivial) (nY rfl) (bK sc.nd rfl (by trivial)) (aX (fK (bY (iJ hu) (bJ aA aH) (bJ aA aH) (bN _)) (aG (bZ (bJ aA (aV bI aH (yJ PySem.F.plainAttrs_list PySem.F.slot_list_index PySem.F.type_list_index (RW hu) aA (aC (bJ aA aH) aN) (fun _ _ _ _ _ h r=>RX h r))))) (aG (bZ (fO hK aA (dC aH) (dC (aV bI (aV bI aH (bH (dD hK) (by rfl) B.len dF (aC (bJ aA aH) aN))) (bH (dD hK) (by rfl) B.len dF (aC (bJ aA aH) aN)))))) (aX (oZ rfl rfl (by trivial) (iR (aC (bJ aA aH) (aC (bJ aA aH) (aC (fX jO (by rfl) B.tuple iY (aC aA aN)) (aC (iR (aC aA aN)) aN))))))))) b7))))) (aX (eO (iR (aC (fX jO (by rfl) B.tuple iY (aC aA aN)) (aC (fX jO (by rfl) B.tuple iY (aC aA aN)) (aC (fX jO (by rfl) B.tuple iY (aC aA aN)) (aC (fX jO (by rfl) B.tuple iY (aC aA aN)) aN))))))))
theorem wJ:bT fU ["deck", "heads", "wanted", "most", "full"] (aM iC):=by refine ⟨rfl,rfl,rfl,?_,rfl,?_,?_⟩ <;> decide +kernel
theorem uL [KFrag] {P:Program} {w:World} {K:Frag} {mg:Str->Option Value} {base:Heap} {fad:Addr} {fd:FuncData} (hK:KFrag.K=K) (B:Bt mg) (c__law_next:MT P w K mg base 1 "_law_next" 1 1 aR) (F:Fun K "_law_words" "_law_words" iC fad fd) (hm:mg "_law_words" = some (.ref fad)):MT P w K mg base 2 "_law_words" 5 1 iD:=by
 have sc:=wJ;have nd:=sc.nd;refine wB (ps:=["deck", "heads", "wanted", "most", "full"]) (N:=fU) (k:=1) 1 F hm (F.binds fun _ _ _ _ _ _ us hl=>match us,hl with|[_,_,_,_,_],_=>rfl) sc zE (by decide) (by decide) fun cdv A outer s H E hr=>?_
 have hu:=v8 hr;exact aG (bZ (eF aN)) (aG (bZ (eF aN)) (aG (bZ (eF (aC (qY aA) aN))) (aG (aFz PassesOwn.never (bY (uG hu) aA (eF aN) (bN _)) (aG (aCr rfl rfl (by trivial) sc.nd rfl (by trivial) rfl) (aG (bZ (aV yG (aV yG (aV yG aA (bH (dD hK) (by rfl) B.len dF (aC aA aN))) (bH (dD hK) (by rfl) B.len dF (aC aA aN))) aH)) (aG (pR (ownN:=(["row"]:List Str)) (show eE fU (aM iC) _ (["row"]:List Str) from by refine ⟨rfl,?_,?_,?_,?_,?_,?_⟩ <;> decide +kernel) (n:=13) (m:=1) rfl rfl rfl (jW aA) (iK 13) (fun _=>bK (show ((List.map (j9 (["row"]:List Str)) fU++(["row"]:List Str)):List Str).Nodup from by decide +kernel) rfl (by trivial)) (fun _=>PW.pt (uY (bY (iJ hu) (bJ aA aH) aA (bN _)) (sE (bY CK (bH (dD hK) (by rfl) B.len dF (aC (bJ aA aH) aN)) aA (bN _))))) (fun _=>aA) (fun _=>rfl) rfl sc.nd rfl (by trivial) (Or.inl rfl) (by with_unfolding_all rfl)) (aG (pR (ownN:=(["row"]:List Str)) (show eE fU (aM iC) _ (["row"]:List Str) from by refine ⟨rfl,?_,?_,?_,?_,?_,?_⟩ <;> decide +kernel) (n:=13) (m:=1) rfl rfl rfl (jW aA) (iK 13) (fun _=>bK (show ((List.map (j9 (["row"]:List Str)) fU++(["row"]:List Str)):List Str).Nodup from by decide +kernel) rfl (by trivial)) (fun _=>bY (yN hu) aA (bJ aA aH) (by with_unfolding_all rfl)) (fun _=>aA) (fun _=>rfl) rfl sc.nd rfl (by trivial) (Or.inl rfl) (by with_unfolding_all rfl)) (aG (fK (PW.pt (uY (nF aA) (sE (bY (uG hu) aA (eF aN) (bN _))))) (aX (aJ5 rfl rfl sc.nd rfl (by trivial) rfl (by trivial))) b7) (aG (nJ rfl sc.nd rfl (by trivial) (aG3 (aCc hK hu) rfl rfl (by trivial) (R0 bU (eG c__law_next hr (by decide) (by rfl) rfl rfl (by trivial) (jP)) (bH (dD hK) (by rfl) B.len dF (aC aA aN))) (fun _ _=>rfl))) (aG (oZ rfl rfl (by trivial) (bJ aA aH)) (aG (oZ rfl rfl (by trivial) aA) (aX (aAk rfl rfl (by trivial) (SM (by rfl) (by rfl) B.list (by rfl) B.reversed (bJ aA aH))))))))))))) (aX (JH (JG rfl rfl (by trivial) (JG rfl rfl (by trivial) (aAp))))))))
theorem EY:bT vC ["program"] (aM pZ):=by refine ⟨rfl,rfl,rfl,?_,rfl,?_,?_⟩ <;> decide +kernel
theorem zP [KFrag] {P:Program} {w:World} {K:Frag} {mg:Str->Option Value} {base:Heap} {fad:Addr} {fd:FuncData} (hK:KFrag.K=K) (B:Bt mg)  (F:Fun K "heads_of" "heads_of" pZ fad fd) (hm:mg "heads_of" = some (.ref fad)):jU P w K mg base 1 "heads_of" 1 gP:=by
 have sc:=EY;have nd:=sc.nd;refine qK (ps:=["program"]) (N:=vC) (k:=0) F hm (F.binds fun _ _ _ _ _ _ us hl=>match us,hl with|[_],_=>rfl) sc NB (by decide) (by decide) fun cdv A outer s H E hr=>?_
 have hu:=v8 hr;exact aG (bZ (vP)) (aG (yL PassesOwn.never rfl (jW (bJ aA aH)) (Q7 _ (by decide)) (Z_ rfl (dR (bK sc.nd rfl (by trivial)) (dR (bK sc.nd rfl (by trivial)) (dR (bK sc.nd rfl (by trivial)) (rK))))) (aX (aAe hu rfl rfl (by trivial) aA (iR (aC aA (aC aA aN)))))) (aG (yL PassesOwn.never rfl (jW (bJ aA aH)) (Q7 _ (by decide)) (Z_ rfl (dR (bK sc.nd rfl (by trivial)) (dR (bK sc.nd rfl (by trivial)) (dR (bK sc.nd rfl (by trivial)) (dR (bK sc.nd rfl (by trivial)) (rK)))))) (aX (aAe hu rfl rfl (by trivial) aA (iR (aC aA (aC (aV RQ (iR (aC aA aN)) aA) aN)))))) (aX (aCh rfl rfl (by trivial)))))
theorem NQ:bT zL ["heads", "word", "known"] (aM tG):=by refine ⟨rfl,rfl,rfl,?_,rfl,?_,?_⟩ <;> decide +kernel
theorem E_ [KFrag] {P:Program} {w:World} {K:Frag} {mg:Str->Option Value} {base:Heap} {fad:Addr} {fd:FuncData} (hK:KFrag.K=K) (B:Bt mg)  (e_NoName:aGq P w K mg base 1 "NoName" ["word"]) (F:Fun K "head_of" "head_of" tG fad fd) (hm:mg "head_of" = some (.ref fad)):n_ P w K mg base 3 "head_of" 3 fD:=by
 have sc:=NQ;have nd:=sc.nd;refine JR (ps:=["heads", "word", "known"]) (N:=zL) (k:=2) F hm (F.binds fun _ _ _ _ _ _ us hl=>match us,hl with|[_,_,_],_=>rfl) sc T7 (by decide) (by decide) fun cdv A outer s H E hr=>?_
 have hu:=v8 hr;exact jF (mG (fK (bY (yN hu) aA aA (by with_unfolding_all rfl)) (aX (eO (bJ aA aA))) b7)) (jF (mG (fK (bY (yN hu) aA aA (by with_unfolding_all rfl)) (aX (eO (iR (aC (bJ aA aA) (aC (iR aN) aN))))) b7)) (wF (rE e_NoName hK hr (by decide) (by rfl) (aC aA aN))))
theorem wK:bT qP ["heads", "words", "wanted", "known"] (aM mH):=by refine ⟨rfl,rfl,rfl,?_,rfl,?_,?_⟩ <;> decide +kernel
theorem uM [KFrag] {P:Program} {w:World} {K:Frag} {mg:Str->Option Value} {base:Heap} {fad:Addr} {fd:FuncData} (hK:KFrag.K=K) (B:Bt mg)  (z_head_of:n_ P w K mg base 3 "head_of" 3 fD) (e_BadKind:aGq P w K mg base 1 "BadKind" ["word"]) (F:Fun K "walk_words" "walk_words" mH fad fd) (hm:mg "walk_words" = some (.ref fad)):n_ P w K mg base 4 "walk_words" 4 dO:=by
 have sc:=wK;have nd:=sc.nd;refine JR (ps:=["heads", "words", "wanted", "known"]) (N:=qP) (k:=3) F hm (F.binds fun _ _ _ _ _ _ us hl=>match us,hl with|[_,_,_,_],_=>rfl) sc zG (by decide) (by decide) fun cdv A outer s H E hr=>?_
 have hu:=v8 hr;exact jF (mG (bZ (eF (aC (qY aA) aN)))) (jF (aGl rfl rfl (by trivial) (nY rfl) (bK sc.nd rfl (by trivial)) (jF (aJg (uX (nF aA)) (wF (rE e_BadKind hK hr (by decide) (by rfl) (aC aA aN))) Y0) (jF (aGj rfl sc.nd rfl (by trivial) (DP z_head_of hr (by decide) (by rfl) (aC aA (aC aA (aC aA aN))))) (jF (aJh (aCy (uG hu) (qY (bJ aA aH)) (aCw rfl rfl (by trivial)) (bN _)) (wF (rE e_BadKind hK hr (by decide) (by rfl) (aC aA aN))) Y0) (wF (mG (aAk rfl rfl (by trivial) (SM (by rfl) (by rfl) B.list (by rfl) B.reversed (bJ aA aH))))))))) (wF (aJg (nF aA) (wF (rE e_BadKind hK hr (by decide) (by rfl) (aC cX aN))) Y0)))
theorem m9:bT bA ["word"] (aM dX):=by refine ⟨rfl,rfl,rfl,?_,rfl,?_,?_⟩ <;> decide +kernel
theorem mR [KFrag] {P:Program} {w:World} {K:Frag} {mg:Str->Option Value} {base:Heap} {fad:Addr} {fd:FuncData} (hK:KFrag.K=K) (B:Bt mg)  (F:Fun K "are_small_letters" "are_small_letters" dX fad fd) (hm:mg "are_small_letters" = some (.ref fad)):jU P w K mg base 1 "are_small_letters" 1 dY:=by
 have sc:=m9;have nd:=sc.nd;refine qK (ps:=["word"]) (N:=bA) (k:=0) F hm (F.binds fun _ _ _ _ _ _ us hl=>match us,hl with|[_],_=>rfl) sc oF (by decide) (by decide) fun cdv A outer s H E hr=>?_
 have hu:=v8 hr;exact aX (eO (bH (aAf (by rfl)) (by rfl) B.all aAg (aC (o6 (ownN:=(["sign"]:List Str)) (show eE bA (aM dX) _ (["sign"]:List Str) from by refine ⟨rfl,?_,?_,?_,?_,?_,?_⟩ <;> decide +kernel) (n:=1) (m:=1) rfl rfl rfl (jW aA) (iK 1) (fun _=>bK (show ((List.map (j9 (["sign"]:List Str)) bA++(["sign"]:List Str)):List Str).Nodup from by decide +kernel) rfl (by trivial)) (fun _=>HH CK CK cX aA cX) (fun _=>rfl)) aN)))
theorem NT:bT bA ["word"] (aM tH):=by refine ⟨rfl,rfl,rfl,?_,rfl,?_,?_⟩ <;> decide +kernel
theorem FJ [KFrag] {P:Program} {w:World} {K:Frag} {mg:Str->Option Value} {base:Heap} {fad:Addr} {fd:FuncData} (hK:KFrag.K=K) (B:Bt mg) (c_are_small_letters:jU P w K mg base 1 "are_small_letters" 1 dY) (F:Fun K "is_name" "is_name" tH fad fd) (hm:mg "is_name" = some (.ref fad)):jU P w K mg base 2 "is_name" 1 mK:=by
 have sc:=NT;have nd:=sc.nd;refine qK (ps:=["word"]) (N:=bA) (k:=1) F hm (F.binds fun _ _ _ _ _ _ us hl=>match us,hl with|[_],_=>rfl) sc T9 (by decide) (by decide) fun cdv A outer s H E hr=>?_
 have hu:=v8 hr;exact aX (eO (QX (HH CK CK aH (bH (dD hK) (by rfl) B.len dF (aC aA aN)) aH) (HB (gW c_are_small_letters hr (by decide) (by rfl) (aC aA aN)))))
theorem zQ:bT lJ ["words"] (aM lG):=by refine ⟨rfl,rfl,rfl,?_,rfl,?_,?_⟩ <;> decide +kernel
theorem wL [KFrag] {P:Program} {w:World} {K:Frag} {mg:Str->Option Value} {base:Heap} {fad:Addr} {fd:FuncData} (hK:KFrag.K=K) (B:Bt mg) (c_is_name:jU P w K mg base 2 "is_name" 1 mK) (F:Fun K "are_names" "are_names" lG fad fd) (hm:mg "are_names" = some (.ref fad)):jU P w K mg base 3 "are_names" 1 gQ:=by
 have sc:=zQ;have nd:=sc.nd;refine qK (ps:=["words"]) (N:=lJ) (k:=2) F hm (F.binds fun _ _ _ _ _ _ us hl=>match us,hl with|[_],_=>rfl) sc DX (by decide) (by decide) fun cdv A outer s H E hr=>?_
 have hu:=v8 hr;exact aX (eO (bH (aAf (by rfl)) (by rfl) B.all aAg (aC (o6 (ownN:=bA) (show eE lJ (aM lG) _ bA from by refine ⟨rfl,?_,?_,?_,?_,?_,?_⟩ <;> decide +kernel) (n:=1) (m:=1) rfl rfl rfl (jW aA) (iK 1) (fun _=>bK (show ((List.map (j9 bA) lJ++bA):List Str).Nodup from by decide +kernel) rfl (by trivial)) (fun _=>gW c_is_name hr (by decide) (by rfl) (aC aA aN)) (fun _=>rfl)) aN)))
theorem aDa:bT aAu ["program", "text"] (aM UG):=by refine ⟨rfl,rfl,rfl,?_,rfl,?_,?_⟩ <;> decide +kernel
theorem Y8 [KFrag] {P:Program} {w:World} {K:Frag} {mg:Str->Option Value} {base:Heap} {fad:Addr} {fd:FuncData} (hK:KFrag.K=K) (B:Bt mg) (c_are_names:jU P w K mg base 3 "are_names" 1 gQ) (c_heads_of:jU P w K mg base 1 "heads_of" 1 gP) (z_walk_words:n_ P w K mg base 4 "walk_words" 4 dO) (z_head_of:n_ P w K mg base 3 "head_of" 3 fD) {c0_NoTerm:Addr} (n0_NoTerm:nsIn K mainGlobals "NoTerm" = some (some (.ref c0_NoTerm))) (m0_NoTerm:mg "NoTerm" = some (.ref c0_NoTerm)) (x0_NoTerm:excIn K c0_NoTerm aI6 "ValueError.__new__" = true) (F:Fun K "term" "term" UG fad fd) (hm:mg "term" = some (.ref fad)):n_ P w K mg base 5 "term" 2 gH:=by
 have sc:=aDa;have nd:=sc.nd;refine JR (ps:=["program", "text"]) (N:=aAu) (k:=4) F hm (F.binds fun _ _ _ _ _ _ us hl=>match us,hl with|[_,_],_=>rfl) sc aGs (by decide) (by decide) fun cdv A outer s H E hr=>?_
 have hu:=v8 hr;exact jF (mG (bZ (fX jO (by rfl) B.tuple iY (aC (yJ PySem.F.plainAttrs_str PySem.F.slot_str_split PySem.F.type_str_split YD aA (aC cX aN) (fun _ _ _ _ _ h r=>RT h r)) aN)))) (jF (aJg (PW.pt (yF (bY RD (bH (dD hK) (by rfl) B.len dF (aC aA aN)) aH (bN _)) (qJ (uX (nF (gW c_are_names hr (by decide) (by rfl) (aC aA aN))))))) (wF (Y5 hK n0_NoTerm (by rfl) m0_NoTerm x0_NoTerm)) Y0) (jF (mG (bZ (gW c_heads_of hr (by decide) (by rfl) (aC aA aN)))) (jF (aGk (Y6 z_walk_words hr (by decide) (by rfl) (JV aA (JV aA (aD8 (aJj (aCc hK hu) (DP z_head_of hr (by decide) (by rfl) (aC aA (aC (bJ aA aH) (aC (vP) aN)))) aH (fun _ _=>rfl)) (aC (vP) aN)))))) (wF (mG (eO aA))))))
theorem NZ:bT zM ["program", "words"] (aM tK):=by refine ⟨rfl,rfl,rfl,?_,rfl,?_,?_⟩ <;> decide +kernel
theorem FN [KFrag] {P:Program} {w:World} {K:Frag} {mg:Str->Option Value} {base:Heap} {fad:Addr} {fd:FuncData} (hK:KFrag.K=K) (B:Bt mg) (c_heads_of:jU P w K mg base 1 "heads_of" 1 gP) (F:Fun K "kind_of" "kind_of" tK fad fd) (hm:mg "kind_of" = some (.ref fad)):jU P w K mg base 2 "kind_of" 2 mL:=by
 have sc:=NZ;have nd:=sc.nd;refine qK (ps:=["program", "words"]) (N:=zM) (k:=1) F hm (F.binds fun _ _ _ _ _ _ us hl=>match us,hl with|[_,_],_=>rfl) sc UJ (by decide) (by decide) fun cdv A outer s H E hr=>?_
 have hu:=v8 hr;exact aX (eO (bJ (bJ (gW c_heads_of hr (by decide) (by rfl) (aC aA aN)) (bJ aA aH)) aH))
theorem wM:bT qQ ["program", "text", "words", "kind"] (aM mO):=by refine ⟨rfl,rfl,rfl,?_,rfl,?_,?_⟩ <;> decide +kernel
theorem uN [KFrag] {P:Program} {w:World} {K:Frag} {mg:Str->Option Value} {base:Heap} {fad:Addr} {fd:FuncData} (hK:KFrag.K=K) (B:Bt mg) (c_kind_of:jU P w K mg base 2 "kind_of" 2 mL) (z_term:n_ P w K mg base 5 "term" 2 gH) (F:Fun K "_law_right" "_law_right" mO fad fd) (hm:mg "_law_right" = some (.ref fad)):n_ P w K mg base 6 "_law_right" 4 fP:=by
 have sc:=wM;have nd:=sc.nd;refine JR (ps:=["program", "text", "words", "kind"]) (N:=qQ) (k:=5) F hm (F.binds fun _ _ _ _ _ _ us hl=>match us,hl with|[_,_,_,_],_=>rfl) sc zH (by decide) (by decide) fun cdv A outer s H E hr=>?_
 have hu:=v8 hr;exact jF (aGj rfl sc.nd rfl (by trivial) (DP z_term hr (by decide) (by rfl) (aC aA (aC aA aN)))) (jF (mG (fK (PW.pt (yF (uX (nF (HS .tuple aA (by rfl) B.isi iW (by rfl) B.tuple iY))) (qJ (bY (uG hu) (bH (dD hK) (by rfl) B.len dF (aC aA aN)) (bH (dD hK) (by rfl) B.len dF (aC aA aN)) (bN _))))) (aX (eO MF)) b7)) (jF (mG (yL PassesOwn.never rfl (nW (by rfl) B.range (aC (bH (dD hK) (by rfl) B.len dF (aC aA aN)) aN)) (nY rfl) (bK sc.nd rfl (by trivial)) (aX (fK (PW.pt (yF (uX (nF (HS .str (bJ aA aA) (by rfl) B.isi iW (by rfl) B.str RB))) (qJ (bY (uG hu) (bJ aA aA) (bJ aA aA) (bN _))))) (aX (eO MF)) b7)))) (jF (mG (bZ (gW c_kind_of hr (by decide) (by rfl) (aC aA (aC aA aN))))) (wF (mG (eO (QX (HS .str aA (by rfl) B.isi iW (by rfl) B.str RB) (HB (rZ (iJ hu) aA aA (bN _))))))))))
theorem wN:bT fV ["deck"] (aM iG):=by refine ⟨rfl,rfl,rfl,?_,rfl,?_,?_⟩ <;> decide +kernel
theorem uO [KFrag] {P:Program} {w:World} {K:Frag} {mg:Str->Option Value} {base:Heap} {fad:Addr} {fd:FuncData} (hK:KFrag.K=K) (B:Bt mg) (c__law_next:MT P w K mg base 1 "_law_next" 1 1 aR) (F:Fun K "_law_names" "_law_names" iG fad fd) (hm:mg "_law_names" = some (.ref fad)):MT P w K mg base 2 "_law_names" 1 1 eQ:=by
 have sc:=wN;have nd:=sc.nd;refine wB (ps:=["deck"]) (N:=fV) (k:=1) 1 F hm (F.binds fun _ _ _ _ _ _ us hl=>match us,hl with|[_],_=>rfl) sc zJ (by decide) (by decide) fun cdv A outer s H E hr=>?_
 have hu:=v8 hr;exact aG (bZ cX) (aG (nJ rfl sc.nd rfl (by trivial) (eG c__law_next hr (by decide) (by rfl) rfl rfl (by trivial) (jP))) (aG (bZ (bJ (eF (aC aH (aC aH (aC aH (aC aH (aC aH (aC aH aN))))))) (aV bU (aV cQ aA aH) aH))) (aG (bZ (aV bU (aV cQ aA aH) aH)) (aG (nJ rfl sc.nd rfl (by trivial) (eG c__law_next hr (by decide) (by rfl) rfl rfl (by trivial) (jP))) (aG (bZ (aV bU aA aH)) (aG (bZ (yJ PySem.F.plainAttrs_str PySem.F.slot_str_join PySem.F.type_str_join pW cX (aC (o6 (ownN:=(["k"]:List Str)) (show eE fV (aM iG) _ (["k"]:List Str) from by refine ⟨rfl,?_,?_,?_,?_,?_,?_⟩ <;> decide +kernel) (n:=14) (m:=1) rfl rfl rfl (nW (by rfl) B.range (aC aA aN)) (iK 14) (fun _=>bK (show ((List.map (j9 (["k"]:List Str)) fV++(["k"]:List Str)):List Str).Nodup from by decide +kernel) rfl (by trivial)) (fun _=>bJ aA (aV bU (aV bI (aV cQ aA aH) (aV pU aA (aV bI aA (aV bU (aV cQ aA aH) aH)))) aH)) (fun _=>rfl)) aN) (fun _ _ _ _ _ h r=>m5 h r))) (aG (nJ rfl sc.nd rfl (by trivial) (R0 bU (eG c__law_next hr (by decide) (by rfl) rfl rfl (by trivial) (jP)) (aV bI aA aH))) (aG (fK (bY (iJ hu) (aV bU aA aH) aH (bN _)) (aX (bZ (fO hK aA (dW) (dC aH)))) b7) (aG (bZ (eF aN)) (aG (yL PassesOwn.never rfl (nW (by rfl) B.range (aC aH aN)) (nY rfl) (bK sc.nd rfl (by trivial)) (aG (bZ (aV bU (aV bI (aV pU aA aA) aA) aH)) (aX (fK (bY (iJ hu) (aV bU aA aH) aH (bN _)) (aX (oZ rfl rfl (by trivial) (aV pU (bJ aA (aV bU (aV bI aA (aV bU aA aH)) aH)) (aV bI aH (aV cQ aA aH))))) (aX (fK (bY (iJ hu) (aV bU aA aH) aH (bN _)) (aG (bZ (bJ aA (aV bU (aV bI aA (aV bU aA aH)) aH))) (aG (bZ (bJ aA (aV bU (aV bI aA (aV cQ aA aH)) aH))) (aX (oZ rfl rfl (by trivial) (aV bI (aV bI (aV bI (fO hK aA (dW) (dC aA)) aA) aA) (fO hK aA (dC aA) (dW))))))) (aX (oZ rfl rfl (by trivial) (aV bI (aV bI (fO hK aA (dW) (dC aA)) (bJ aA aA)) (fO hK aA (dC aA) (dW))))))))))) (aG (fK (PW.pt (yF (bY (yN hu) cX aA (by with_unfolding_all rfl)) (qJ (bY (yN hu) cX aA (by with_unfolding_all rfl))))) (aX (rD (ownN:=(["name"]:List Str)) (show eE fV (aM iG) _ (["name"]:List Str) from by refine ⟨rfl,?_,?_,?_,?_,?_,?_⟩ <;> decide +kernel) (n:=14) (m:=1) rfl rfl rfl (jW aA) (iK 14) (fun _=>bK (show ((List.map (j9 (["name"]:List Str)) fV++(["name"]:List Str)):List Str).Nodup from by decide +kernel) rfl (by trivial)) (fun _=>aV bI aA cX) (fun _=>rfl) rfl sc.nd rfl (by trivial) (Or.inl rfl) (by with_unfolding_all rfl))) b7) (aX (YJ rfl rfl (by trivial))))))))))))))
theorem oH:bT cG ["choice", "more", "words", "wants", "heads", "strange"] (aM cZ):=by refine ⟨rfl,rfl,rfl,?_,rfl,?_,?_⟩ <;> decide +kernel
theorem m_ [KFrag] {P:Program} {w:World} {K:Frag} {mg:Str->Option Value} {base:Heap} {fad:Addr} {fd:FuncData} (hK:KFrag.K=K) (B:Bt mg)  (F:Fun K "_law_other_words" "_law_other_words" cZ fad fd) (hm:mg "_law_other_words" = some (.ref fad)):aI9 P w K mg base 1 "_law_other_words" 6 bQ:=by
 have sc:=oH;have nd:=sc.nd;refine aD2 (ps:=["choice", "more", "words", "wants", "heads", "strange"]) (N:=cG) (k:=0) F hm (F.binds fun _ _ _ _ _ _ us hl=>match us,hl with|[_,_,_,_,_,_],_=>rfl) sc pA (by decide) (by decide) fun cdv A outer s H E hr=>?_
 have hu:=v8 hr;exact tB (qN (bZ (aV bU aA (bH (dD hK) (by rfl) B.len dF (aC aA aN))))) (tB (qN (bZ (aV cQ aA (bH (dD hK) (by rfl) B.len dF (aC aA aN))))) (tB (qN (bZ (bJ aA (aV bU aA (bH (dD hK) (by rfl) B.len dF (aC aA aN)))))) (tB (qN (fK (bY (iJ hu) aA aH (bN _)) (aX (eO (eF (aC (fO hK aA (dW) (dC aA)) (aC aH (aC cX aN)))))) b7)) (tB (qN (fK (bY (iJ hu) aA aH (bN _)) (aG (bZ (aV bI aA (o6 (ownN:=(["row"]:List Str)) (show eE cG (aM cZ) _ (["row"]:List Str) from by refine ⟨rfl,?_,?_,?_,?_,?_,?_⟩ <;> decide +kernel) (n:=10) (m:=1) rfl rfl rfl (jW aA) (iK 10) (fun _=>bK (show ((List.map (j9 (["row"]:List Str)) cG++(["row"]:List Str)):List Str).Nodup from by decide +kernel) rfl (by trivial)) (fun _=>bJ aA aH) (fun _=>rfl)))) (aG (bZ (bJ aA (aV bU aA (bH (dD hK) (by rfl) B.len dF (aC aA aN))))) (aX (eO (eF (aC (aV bI aA (eF (aC (qY aA) aN))) (aC aH (aC (qY aA) aN)))))))) b7)) (tB (qN (pR (ownN:=(["row"]:List Str)) (show eE cG (aM cZ) _ (["row"]:List Str) from by refine ⟨rfl,?_,?_,?_,?_,?_,?_⟩ <;> decide +kernel) (n:=10) (m:=1) rfl rfl rfl (jW aA) (iK 10) (fun _=>bK (show ((List.map (j9 (["row"]:List Str)) cG++(["row"]:List Str)):List Str).Nodup from by decide +kernel) rfl (by trivial)) (fun _=>bY (uG hu) (bJ aA aH) (bJ aA aA) (bN _)) (fun _=>bJ aA aH) (fun _=>rfl) rfl sc.nd rfl (by trivial) (Or.inl rfl) (by with_unfolding_all rfl))) (tB (qN (fK (PW.pt (uY (bY (iJ hu) aA aH (bN _)) (uY (bY RD aA aH (bN _)) (sE (bY (uG hu) aA (eF aN) (bN _)))))) (aG (bZ (bJ aA (aV bU (aV cQ aA aH) (bH (dD hK) (by rfl) B.len dF (aC aA aN))))) (aX (eO (eF (aC (aV bI (aV bI (fO hK aA (dW) (dC aA)) (eF (aC (qY aA) aN))) (fO hK aA (dC (aV bI aA aH)) (dW))) (aC aH (aC (qY aA) aN))))))) b7)) (aJd (qN (eO (eF (aC (aV bI (aV bI (fO hK aA (dW) (dC aA)) (eF (aC (qY aA) aN))) (fO hK aA (dC (aV bI aA aH)) (dW))) (aC aH (aC (qY aA) aN)))))))))))))
theorem pC:bT kO ["choice", "more", "words"] (aM gR):=by refine ⟨rfl,rfl,rfl,?_,rfl,?_,?_⟩ <;> decide +kernel
theorem oJ [KFrag] {P:Program} {w:World} {K:Frag} {mg:Str->Option Value} {base:Heap} {fad:Addr} {fd:FuncData} (hK:KFrag.K=K) (B:Bt mg)  (F:Fun K "_law_other_text" "_law_other_text" gR fad fd) (hm:mg "_law_other_text" = some (.ref fad)):jU P w K mg base 1 "_law_other_text" 3 cO:=by
 have sc:=pC;have nd:=sc.nd;refine qK (ps:=["choice", "more", "words"]) (N:=kO) (k:=0) F hm (F.binds fun _ _ _ _ _ _ us hl=>match us,hl with|[_,_,_],_=>rfl) sc p6 (by decide) (by decide) fun cdv A outer s H E hr=>?_
 have hu:=v8 hr;exact aG (bZ (fX (aCd (by rfl)) (by rfl) B.list Q_ (aC aA aN))) (aG (bZ (aV bU aA (bH (dD hK) (by rfl) B.len dF (aC aA aN)))) (aG (bZ (aV cQ aA (bH (dD hK) (by rfl) B.len dF (aC aA aN)))) (aG (fK (bY (iJ hu) aA aH (bN _)) (aX (aFs rfl rfl (by trivial) (aV bU aA (aV bI (bH (dD hK) (by rfl) B.len dF (aC aA aN)) aH)) cX)) b7) (aG (fK (PW.pt (yF (bY (iJ hu) aA aH (bN _)) (qJ (bY (iJ hu) aA aH (bN _))))) (aG (bZ cX) (aG (bZ (aV bI aA cX)) (aG (bZ (aV bU aA (bH (dD hK) (by rfl) B.len dF (aC (bJ aA aA) aN)))) (aG (bZ (bJ aA aA)) (aX (wC rfl rfl (by trivial) aA (aV bI (aV bI (fO hK aA (dW) (dC aA)) (bJ aA (aV bU (aV cQ aA aH) aH))) (fO hK aA (dC (aV bI aA aH)) (dW))))))))) b7) (aG (fK (bY (iJ hu) aA aH (bN _)) (aX (wC rfl rfl (by trivial) aA (fO hK (aV bI (bJ aA aA) cX) (dW) (dC aH)))) b7) (aG (bZ (yJ PySem.F.plainAttrs_str PySem.F.slot_str_join PySem.F.type_str_join pW cX (aC aA aN) (fun _ _ _ _ _ h r=>m5 h r))) (aG (fK (bY (iJ hu) aA aH (bN _)) (aX (bZ (aV bI cX aA))) b7) (aG (fK (bY (iJ hu) aA aH (bN _)) (aG (bZ (bH (dD hK) (by rfl) B.len dF (aC aA aN))) (aG (bZ (aV bI (aV bI (yJ PySem.F.plainAttrs_str PySem.F.slot_str_join PySem.F.type_str_join pW cX (aC (fO hK aA (dW) (dC (aV bI aA aH))) aN) (fun _ _ _ _ _ h r=>m5 h r)) cX) (yJ PySem.F.plainAttrs_str PySem.F.slot_str_join PySem.F.type_str_join pW cX (aC (fO hK aA (dC (aV bI aA aH)) (dW)) aN) (fun _ _ _ _ _ h r=>m5 h r)))) (aX (fK (bY (iJ hu) (aV bI aA aH) aA (bN _)) (aX (bZ (aV bI (yJ PySem.F.plainAttrs_str PySem.F.slot_str_join PySem.F.type_str_join pW cX (aC aA aN) (fun _ _ _ _ _ h r=>m5 h r)) cX))) b7)))) b7) (aX (eO aA))))))))))
theorem tO:bT nO ["program", "text", "tag", "word"] (aM jZ):=by refine ⟨rfl,rfl,rfl,?_,rfl,?_,?_⟩ <;> decide +kernel
theorem rA [KFrag] {P:Program} {w:World} {K:Frag} {mg:Str->Option Value} {base:Heap} {fad:Addr} {fd:FuncData} (hK:KFrag.K=K) (B:Bt mg)  (z_term:n_ P w K mg base 5 "term" 2 gH) {c_MillError:Addr} (m_MillError:mg "MillError" = some (.ref c_MillError)) {c_Spent:Addr} (m_Spent:mg "Spent" = some (.ref c_Spent)) {c_NoValue:Addr} (m_NoValue:mg "NoValue" = some (.ref c_NoValue)) {c_NoRule:Addr} (m_NoRule:mg "NoRule" = some (.ref c_NoRule)) {c_NoPair:Addr} (m_NoPair:mg "NoPair" = some (.ref c_NoPair)) {c_NoNet:Addr} (m_NoNet:mg "NoNet" = some (.ref c_NoNet)) {c_NoEnd:Addr} (m_NoEnd:mg "NoEnd" = some (.ref c_NoEnd)) {c_Lacking:Addr} (m_Lacking:mg "Lacking" = some (.ref c_Lacking)) {c_BadRow:Addr} (m_BadRow:mg "BadRow" = some (.ref c_BadRow)) {c_Unfit:Addr} (m_Unfit:mg "Unfit" = some (.ref c_Unfit)) {c_Uneven:Addr} (m_Uneven:mg "Uneven" = some (.ref c_Uneven)) {c_TwoRules:Addr} (m_TwoRules:mg "TwoRules" = some (.ref c_TwoRules)) {c_Twice:Addr} (m_Twice:mg "Twice" = some (.ref c_Twice)) {c_Stuck:Addr} (m_Stuck:mg "Stuck" = some (.ref c_Stuck)) (z_ValueError:mg "ValueError" = none) {c_NoName:Addr} (m_NoName:mg "NoName" = some (.ref c_NoName)) {c_BadKind:Addr} (m_BadKind:mg "BadKind" = some (.ref c_BadKind)) {c_NoTerm:Addr} (m_NoTerm:mg "NoTerm" = some (.ref c_NoTerm)) (y1:aGr (fun c=>∃C,nsIn K mainGlobals c=some (some (.ref C))/\exmOne K (.ref C) (.ref c_MillError)=some true) ["BadKind", "NoName", "NoTerm"]) (y2:aAt (fun c b=>∃C,nsIn K mainGlobals c=some (some (.ref C))/\XC K C/\kitAny K (.ref C) [.ref c_BadRow,.ref c_Lacking,.ref c_NoEnd,.ref c_NoNet,.ref c_NoPair,.ref c_NoRule,.ref c_NoValue,.ref c_Spent]=some b) [("BadKind",false),("NoName",false),("NoTerm",false)]) (y3:aAt (fun c b=>∃C,nsIn K mainGlobals c=some (some (.ref C))/\XC K C/\kitAny K (.ref C) [.ref c_Stuck,.ref c_Twice,.ref c_TwoRules,.ref c_Uneven,.ref c_Unfit]=some b) [("BadKind",false),("NoName",false),("NoTerm",false)]) (y4:aAt (fun c b=>∃C,nsIn K mainGlobals c=some (some (.ref C))/\XC K C/\kitOne K (.ref C) (.type "ValueError")=some b) [("BadKind",true),("NoName",true),("NoTerm",true)]) (y5:aAt (fun c b=>∃C,nsIn K mainGlobals c=some (some (.ref C))/\XC K C/\kitOne K (.ref C) (.ref c_NoName)=some b) [("BadKind",false),("NoName",true),("NoTerm",false)]) (y6:aAt (fun c b=>∃C,nsIn K mainGlobals c=some (some (.ref C))/\XC K C/\kitOne K (.ref C) (.ref c_BadKind)=some b) [("BadKind",true),("NoName",false),("NoTerm",false)]) (y7:aAt (fun c b=>∃C,nsIn K mainGlobals c=some (some (.ref C))/\XC K C/\kitOne K (.ref C) (.ref c_NoTerm)=some b) [("BadKind",false),("NoName",false),("NoTerm",true)]) (y8:aGr (fun c=>∃C,nsIn K mainGlobals c=some (some (.ref C))/\XA K C "word") ["BadKind", "NoName", "NoTerm"]) (y9:aGr (fun c=>∃C,nsIn K mainGlobals c=some (some (.ref C))/\XA K C "word") ["BadKind", "NoName", "NoTerm"]) (F:Fun K "_law_refused" "_law_refused" jZ fad fd) (hm:mg "_law_refused" = some (.ref fad)):jU P w K mg base 6 "_law_refused" 4 fG:=by
 have sc:=tO;have nd:=sc.nd;refine qK (ps:=["program", "text", "tag", "word"]) (N:=nO) (k:=5) F hm (F.binds fun _ _ _ _ _ _ us hl=>match us,hl with|[_,_,_,_],_=>rfl) sc uJ (by decide) (by decide) fun cdv A outer s H E hr=>?_
 have hu:=v8 hr;exact aG (bZ aFi) (aG (aGo (ic:=4) (ie:=5) hK rfl rfl z_term hr (by decide) (by rfl) (aC aA (aC aA aN)) (by rfl) m_MillError (wH y1) sc.nd rfl rfl rfl (by trivial) (.inl rfl) rfl rfl (by decide)) (aG (fK (nF (T5 (cs:=[c_BadRow,c_Lacking,c_NoEnd,c_NoNet,c_NoPair,c_NoRule,c_NoValue,c_Spent]) hK (oA y2) (show 8<=sizeLine from by decide) (by rfl) B.isi rfl (by trivial) (PA.imp (bG (eZ (v:=.ref c_BadRow) (by rfl) m_BadRow rfl) (bG (eZ (v:=.ref c_Lacking) (by rfl) m_Lacking rfl) (bG (eZ (v:=.ref c_NoEnd) (by rfl) m_NoEnd rfl) (bG (eZ (v:=.ref c_NoNet) (by rfl) m_NoNet rfl) (bG (eZ (v:=.ref c_NoPair) (by rfl) m_NoPair rfl) (bG (eZ (v:=.ref c_NoRule) (by rfl) m_NoRule rfl) (bG (eZ (v:=.ref c_NoValue) (by rfl) m_NoValue rfl) (bG (eZ (v:=.ref c_Spent) (by rfl) m_Spent rfl) (iQ))))))))) fun _ _ _ h=>h))) (aX (eO MF)) b7) (aG (fK (PW.pt (yF (nF (T5 (cs:=[c_Stuck,c_Twice,c_TwoRules,c_Uneven,c_Unfit]) hK (oA y3) (show 5<=sizeLine from by decide) (by rfl) B.isi rfl (by trivial) (PA.imp (bG (eZ (v:=.ref c_Stuck) (by rfl) m_Stuck rfl) (bG (eZ (v:=.ref c_Twice) (by rfl) m_Twice rfl) (bG (eZ (v:=.ref c_TwoRules) (by rfl) m_TwoRules rfl) (bG (eZ (v:=.ref c_Uneven) (by rfl) m_Uneven rfl) (bG (eZ (v:=.ref c_Unfit) (by rfl) m_Unfit rfl) (iQ)))))) fun _ _ _ h=>h))) (qJ (uX (nF (wG (v:=.ty "ValueError") hK (oA y4) (fun u r=>r) (by rfl) B.isi rfl (by trivial) (O3 (by rfl) z_ValueError wA rfl) rfl rfl)))))) (aX (eO MF)) b7) (aG (fK (PW.pt (yF (bY (uG hu) (wG (v:=.ref c_NoName) hK (oA y5) (fun u r=>r) (by rfl) B.isi rfl (by trivial) (eZ (by rfl) m_NoName rfl) rfl rfl) (rZ (iJ hu) aA aH (bN _)) (bN _)) (qJ (bY (uG hu) (wG (v:=.ref c_BadKind) hK (oA y6) (fun u r=>r) (by rfl) B.isi rfl (by trivial) (eZ (by rfl) m_BadKind rfl) rfl rfl) (rZ (iJ hu) aA aH (bN _)) (bN _))))) (aX (eO MF)) b7) (aG (fK (bY (uG hu) (wG (v:=.ref c_NoTerm) hK (oA y7) (fun u r=>r) (by rfl) B.isi rfl (by trivial) (eZ (by rfl) m_NoTerm rfl) rfl rfl) (rZ (iJ hu) aA aH (bN _)) (bN _)) (aX (eO MF)) b7) (aX (eO (aJ0 (rZ (iJ hu) aA aH (bN _)) (HB (QX (HS .str (T3 hK (wH y8) rfl (by trivial)) (by rfl) B.isi iW (by rfl) B.str RB) (HB (rZ (iJ hu) (T3 hK (wH y9) rfl (by trivial)) aA (bN _)))))))))))))
theorem aGt:bT Y7 ["script"] (aM uK):=by refine ⟨rfl,rfl,rfl,?_,rfl,?_,?_⟩ <;> decide +kernel
theorem aGu [KFrag] {P:Program} {w:World} {K:Frag} {mg:Str->Option Value} {base:Heap} {fad:Addr} {fd:FuncData} (hK:KFrag.K=K) (B:Bt mg) (c__law_own_words:YS P w K mg base 1 "_law_own_words" d8 3) (c__law_names:MT P w K mg base 2 "_law_names" 1 1 eQ) (c__law_next:MT P w K mg base 1 "_law_next" 1 1 aR) (c__law_sig:MT P w K mg base 2 "_law_sig" 2 1 jC) (c__law_program:jU P w K mg base 1 "_law_program" 4 fC) (c__law_words:MT P w K mg base 2 "_law_words" 5 1 iD) (c__law_other_words:aI9 P w K mg base 1 "_law_other_words" 6 bQ) (c__law_other_text:jU P w K mg base 1 "_law_other_text" 3 cO) (c__law_refused:jU P w K mg base 6 "_law_refused" 4 fG) (c__law_right:jU P w K mg base 6 "_law_right" 4 fP) (F:Fun K "law" "law" uK fad fd):qW P w K mg base CX0 7 fad fd ["script"] (spD NP 1):=by
 have sc:=aGt;have nd:=sc.nd;refine aFt (ps:=["script"]) (N:=Y7) (k:=6) F sc o_law (by decide) (by decide) fun cdv A outer s H E hr=>?_
 have hu:=v8 hr
 exact aG (bZ (aG7 (eF (aC (fO hK aA (dW) (dC aH)) (aC aH aN))))) (aG (nJ rfl sc.nd rfl (by trivial) (aD0 c__law_own_words hr (by decide) (by rfl) (eG c__law_names hr (by decide) (by rfl) rfl rfl (by trivial) (jP)) (eG c__law_next hr (by decide) (by rfl) rfl rfl (by trivial) (jP)))) (aG (aAq (by decide) (eG c__law_sig hr (by decide) (by rfl) rfl rfl (by trivial) (JF rfl rfl (by trivial) (jP))) (DG rfl (dR (bK sc.nd rfl (by trivial)) (dR (bK sc.nd rfl (by trivial)) (dR (bK sc.nd rfl (by trivial)) (rK)))))) (aG (bZ (aV bI aA (o6 (ownN:=(["row"]:List Str)) (show eE Y7 (aM uK) _ (["row"]:List Str) from by refine ⟨rfl,?_,?_,?_,?_,?_,?_⟩ <;> decide +kernel) (n:=19) (m:=1) rfl rfl rfl (jW aA) (iK 19) (fun _=>bK (show ((List.map (j9 (["row"]:List Str)) Y7++(["row"]:List Str)):List Str).Nodup from by decide +kernel) rfl (by trivial)) (fun _=>iR (aC (bJ aA aH) (aC (bJ aA aH) (aC (aV RQ (iR (aC (bJ aA aH) aN)) (bJ aA aH)) aN)))) (fun _=>rfl)))) (aG (bZ (gW c__law_program hr (by decide) (by rfl) (aC aA (aC aA (aC aA (aC aA aN)))))) (aG (nJ rfl sc.nd rfl (by trivial) (eG c__law_next hr (by decide) (by rfl) rfl rfl (by trivial) (jP))) (aG (nJ rfl sc.nd rfl (by trivial) (eG c__law_next hr (by decide) (by rfl) rfl rfl (by trivial) (jP))) (aG (bZ (rZ (iJ hu) (aV bU (aV cQ aA aH) aH) aH (bN _))) (aG (bZ (bJ aA aH)) (aG (fK (uX (nF aA)) (aX (bZ (bJ aA (aV bU (aV cQ aA aH) (bH (dD hK) (by rfl) B.len dF (aC aA aN)))))) b7) (aG (aAq (by decide) (eG c__law_words hr (by decide) (by rfl) rfl rfl (by trivial) (JF rfl rfl (by trivial) (JF rfl rfl (by trivial) (aJb (bJ (eF (aC aH (aC aH (aC aH (aC aH aN))))) (aV bU (aV cQ aA aH) aH)) (JF rfl rfl (by trivial) (jP)))))) (DG rfl (dR (bK sc.nd rfl (by trivial)) (dR (bK sc.nd rfl (by trivial)) (rK))))) (aG (bZ aH) (aG (bZ cX) (aG (bZ (aV bU aA aH)) (aG (bZ (eF (aC (qY (bJ aA aH)) (aC cX (aC (qY (bJ aA (aIy aFn aH))) (aC (qY (bJ aA aH)) (aC cX aN))))))) (aG (fK (PW.pt (uY (bY CK aH aA (bN _)) (sE (bY CK aA aH (bN _))))) (aX (aGf (os:=[1]) c__law_other_words hr (by decide) (by rfl) (aC (aV yG aA aH) (aC aA (aC aA (aC aA (aC aA (aC aA aN)))))) (by decide) (by intro i h;simp only [o_law,Bool.or_eq_true,beq_iff_eq] at h;simp;lia) (DG rfl (dR (bK sc.nd rfl (by trivial)) (dR (bK sc.nd rfl (by trivial)) (dR (bK sc.nd rfl (by trivial)) (rK))))))) b7) (aG (bZ (yJ PySem.F.plainAttrs_str PySem.F.slot_str_join PySem.F.type_str_join pW cX (aC aA aN) (fun _ _ _ _ _ h r=>m5 h r))) (aG (fK (bY RD aA aH (bN _)) (aG (bZ (gW c__law_other_text hr (by decide) (by rfl) (aC (aV yG aA aH) (aC aA (aC aA aN))))) (aX (bZ aH))) b7) (aG (fK (PW.pt (yF (bY RD (bH (dD hK) (by rfl) B.len dF (aC aA aN)) aH (bN _)) (qJ (bY (iJ hu) (bH (dD hK) (by rfl) B.len dF (aC aA aN)) aH (bN _))))) (aX (bZ aH)) b7) (aG (fK (bY RD aA aH (bN _)) (aX (eO (gW c__law_refused hr (by decide) (by rfl) (aC aA (aC aA (aC aA (aC aA aN))))))) b7) (aX (eO (gW c__law_right hr (by decide) (by rfl) (aC aA (aC aA (aC aA (aC aA aN))))))))))))))))))))))))))
theorem UT:bT (["self", "word"]:List Str) ["self", "word"] (aM lH):=by refine ⟨rfl,rfl,rfl,?_,rfl,?_,?_⟩ <;> decide +kernel
theorem N5 [KFrag] {P:Program} {w:World} {K:Frag} {mg:Str->Option Value} {base:Heap} {fad C M:Addr} {fd:FuncData} (F:Fun K "__init__" "NoName.__init__" lH fad fd) (x:XI K C fad) (m:mg "MillError" = some (.ref M)) (b1:specialIn K (.ref M) "__getattribute__" = some (some (.builtin "type.__getattribute__"))) (b2:readsIn K M (.type "type")=true) (b3:findCls K (.ref M) (.type "type") "__init__" = some (.val (.builtin "ValueError.__init__"))) (no:findIn K (.ref C) "word" = some none):qW P w K mg base CX0 1 fad fd ["self", "word"] (qO C ["word"]):=
 have sc:=UT
 JT (M:=M) F sc rfl rfl fun cdv A outer s H E hr=>kY (pJ (TJ x.cl (by rfl) m b1 b2 b3 (bG (cU rfl (by trivial)) (bG (cU rfl (by trivial)) iQ)))) (nR (TQ x no (cU rfl (by trivial)) (cU rfl (by trivial))))
theorem N6:bT (["self", "word"]:List Str) ["self", "word"] (aM jG):=by refine ⟨rfl,rfl,rfl,?_,rfl,?_,?_⟩ <;> decide +kernel
theorem FP [KFrag] {P:Program} {w:World} {K:Frag} {mg:Str->Option Value} {base:Heap} {fad C M:Addr} {fd:FuncData} (F:Fun K "__init__" "BadKind.__init__" jG fad fd) (x:XI K C fad) (m:mg "MillError" = some (.ref M)) (b1:specialIn K (.ref M) "__getattribute__" = some (some (.builtin "type.__getattribute__"))) (b2:readsIn K M (.type "type")=true) (b3:findCls K (.ref M) (.type "type") "__init__" = some (.val (.builtin "ValueError.__init__"))) (no:findIn K (.ref C) "word" = some none):qW P w K mg base CX0 1 fad fd ["self", "word"] (qO C ["word"]):=
 have sc:=N6
 JT (M:=M) F sc rfl rfl fun cdv A outer s H E hr=>kY (pJ (TJ x.cl (by rfl) m b1 b2 b3 (bG (cU rfl (by trivial)) (bG (cU rfl (by trivial)) iQ)))) (nR (TQ x no (cU rfl (by trivial)) (cU rfl (by trivial))))
noncomputable def AtN (K:Frag) (n:Str) (st:Stmt):Prop:=∃(f:Addr) (fd:FuncData),nsIn K mainGlobals n=some (some (.ref f))/\Fun K n n st f fd
theorem aJk {K:Frag} {n:Str} {st:Stmt} {f:Addr} {oc kV dc pm cd ct:Value} {od an:Option Addr} {sl:Array (Option Value)} (a:nsIn K mainGlobals n=some (some (.ref f))) (l:K.lookup f=some ⟨oc,od,.func (fnOf n n (lC st) (d9 st) (aM st) .none kV dc pm an cd ct),sl⟩) (c:codeIn K cd n=true) (k:keepIn K (.ref f)=true):AtN K n st:=⟨f,_,a,uW (st:=st) l c k⟩
theorem aGv {l:OpenLaw} {w:World} {K:Frag} {h:Heap} {mg:Str->Option Value} {fa:Addr} (X:K.In h) (G:h.Ns mainGlobals mg) (hfa:mg "law" = some (.ref fa)) (a0:AtN K "_law_own_words" iM) (a1:AtN K "_law_next" oE) (a2:AtN K "_law_sig" i_) (a3:AtN K "_law_program" jY) (a4:AtN K "_law_words" iC) (a5:AtN K "heads_of" pZ) (a6:AtN K "head_of" tG) (a7:AtN K "walk_words" mH) (a8:AtN K "are_small_letters" dX) (a9:AtN K "is_name" tH) (a10:AtN K "are_names" lG) (a11:AtN K "term" UG) (a12:AtN K "kind_of" tK) (a13:AtN K "_law_right" mO) (a14:AtN K "_law_names" iG) (a15:AtN K "_law_other_words" cZ) (a16:AtN K "_law_other_text" gR) (a17:AtN K "_law_refused" jZ)
  {f18:Addr} {oc18 kV18 dc18 pm18 cd18 ct18:Value} {od18 an18:Option Addr} {sl18:Array (Option Value)} (a18:nsIn K mainGlobals "law" = some (some (.ref f18))) (l18:K.lookup f18=some ⟨oc18,od18,.func (fnOf "law" "law" (lC uK) (d9 uK) (aM uK) .none kV18 dc18 pm18 an18 cd18 ct18),sl18⟩) (c18:codeIn K cd18 "law" = true) (k18:keepIn K (.ref f18)=true) (z_len:nsIn K mainGlobals "len" = some none) (z_min:nsIn K mainGlobals "min" = some none) (z_max:nsIn K mainGlobals "max" = some none) (z_list:nsIn K mainGlobals "list" = some none) (z_tuple:nsIn K mainGlobals "tuple" = some none) (z_sorted:nsIn K mainGlobals "sorted" = some none) (z_range:nsIn K mainGlobals "range" = some none) (z_isinstance:nsIn K mainGlobals "isinstance" = some none) (z_int:nsIn K mainGlobals "int" = some none) (z_bool:nsIn K mainGlobals "bool" = some none) (z_str:nsIn K mainGlobals "str" = some none) (z_dict:nsIn K mainGlobals "dict" = some none) (z_all:nsIn K mainGlobals "all" = some none) (z_enumerate:nsIn K mainGlobals "enumerate" = some none) (z_sum:nsIn K mainGlobals "sum" = some none) (z_zip:nsIn K mainGlobals "zip" = some none) (z_abs:nsIn K mainGlobals "abs" = some none) (z_reversed:nsIn K mainGlobals "reversed" = some none) {d_NoTerm:Addr} (g_NoTerm:nsIn K mainGlobals "NoTerm" = some (some (.ref d_NoTerm))) {d_MillError:Addr} (g_MillError:nsIn K mainGlobals "MillError" = some (some (.ref d_MillError))) {d_Spent:Addr} (g_Spent:nsIn K mainGlobals "Spent" = some (some (.ref d_Spent))) {d_NoValue:Addr} (g_NoValue:nsIn K mainGlobals "NoValue" = some (some (.ref d_NoValue))) {d_NoRule:Addr} (g_NoRule:nsIn K mainGlobals "NoRule" = some (some (.ref d_NoRule))) {d_NoPair:Addr} (g_NoPair:nsIn K mainGlobals "NoPair" = some (some (.ref d_NoPair))) {d_NoNet:Addr} (g_NoNet:nsIn K mainGlobals "NoNet" = some (some (.ref d_NoNet))) {d_NoEnd:Addr} (g_NoEnd:nsIn K mainGlobals "NoEnd" = some (some (.ref d_NoEnd))) {d_Lacking:Addr} (g_Lacking:nsIn K mainGlobals "Lacking" = some (some (.ref d_Lacking))) {d_BadRow:Addr} (g_BadRow:nsIn K mainGlobals "BadRow" = some (some (.ref d_BadRow))) {d_Unfit:Addr} (g_Unfit:nsIn K mainGlobals "Unfit" = some (some (.ref d_Unfit))) {d_Uneven:Addr} (g_Uneven:nsIn K mainGlobals "Uneven" = some (some (.ref d_Uneven))) {d_TwoRules:Addr} (g_TwoRules:nsIn K mainGlobals "TwoRules" = some (some (.ref d_TwoRules))) {d_Twice:Addr} (g_Twice:nsIn K mainGlobals "Twice" = some (some (.ref d_Twice))) {d_Stuck:Addr} (g_Stuck:nsIn K mainGlobals "Stuck" = some (some (.ref d_Stuck))) {d_NoName:Addr} (g_NoName:nsIn K mainGlobals "NoName" = some (some (.ref d_NoName))) {d_BadKind:Addr} (g_BadKind:nsIn K mainGlobals "BadKind" = some (some (.ref d_BadKind))) {i_NoName:Addr} {oc_NoName kV_NoName dc_NoName pm_NoName cd_NoName ct_NoName:Value} {od_NoName an_NoName:Option Addr} {sl_NoName:Array (Option Value)} {i_BadKind:Addr} {oc_BadKind kV_BadKind dc_BadKind pm_BadKind cd_BadKind ct_BadKind:Value} {od_BadKind an_BadKind:Option Addr} {sl_BadKind:Array (Option Value)} (xp_NoTerm:excIn K d_NoTerm aI6 "ValueError.__new__" = true) (zz_ValueError:nsIn K mainGlobals "ValueError" = some none) (xm_BadKind_MillError:exmOne K (.ref d_BadKind) (.ref d_MillError)=some true) (xm_NoName_MillError:exmOne K (.ref d_NoName) (.ref d_MillError)=some true) (xm_NoTerm_MillError:exmOne K (.ref d_NoTerm) (.ref d_MillError)=some true) (w1_BadKind:isClsIn K d_BadKind=true) (w2_BadKind:findIn K (.ref d_BadKind) "__getattribute__" = some (some (.builtin "BaseException.__getattribute__"))) (w3_BadKind:findIn K (.ref d_BadKind) "__getattr__" = some none) (w4_BadKind:findIn K (.ref d_BadKind) "__class__" = some (some (.builtin "object.__class__"))) (w5_BadKind:specialIn K (.builtin "object.__class__") "__get__" = some (some (.builtin "getset_descriptor.__get__"))) (w6_BadKind:takesIn K (.builtin "object.__class__")=some true) (w7_BadKind:mroIn K d_BadKind (.type "object")=some true) (w8_BadKind:mroIn K d_BadKind (.type "BaseException")=some true) (kt_BadKind_BadRow:kitAny K (.ref d_BadKind) [.ref d_BadRow,.ref d_Lacking,.ref d_NoEnd,.ref d_NoNet,.ref d_NoPair,.ref d_NoRule,.ref d_NoValue,.ref d_Spent]=some false) (w1_NoName:isClsIn K d_NoName=true) (w2_NoName:findIn K (.ref d_NoName) "__getattribute__" = some (some (.builtin "BaseException.__getattribute__"))) (w3_NoName:findIn K (.ref d_NoName) "__getattr__" = some none) (w4_NoName:findIn K (.ref d_NoName) "__class__" = some (some (.builtin "object.__class__"))) (w5_NoName:specialIn K (.builtin "object.__class__") "__get__" = some (some (.builtin "getset_descriptor.__get__"))) (w6_NoName:takesIn K (.builtin "object.__class__")=some true) (w7_NoName:mroIn K d_NoName (.type "object")=some true) (w8_NoName:mroIn K d_NoName (.type "BaseException")=some true) (kt_NoName_BadRow:kitAny K (.ref d_NoName) [.ref d_BadRow,.ref d_Lacking,.ref d_NoEnd,.ref d_NoNet,.ref d_NoPair,.ref d_NoRule,.ref d_NoValue,.ref d_Spent]=some false) (w1_NoTerm:isClsIn K d_NoTerm=true) (w2_NoTerm:findIn K (.ref d_NoTerm) "__getattribute__" = some (some (.builtin "BaseException.__getattribute__"))) (w3_NoTerm:findIn K (.ref d_NoTerm) "__getattr__" = some none) (w4_NoTerm:findIn K (.ref d_NoTerm) "__class__" = some (some (.builtin "object.__class__"))) (w5_NoTerm:specialIn K (.builtin "object.__class__") "__get__" = some (some (.builtin "getset_descriptor.__get__"))) (w6_NoTerm:takesIn K (.builtin "object.__class__")=some true) (w7_NoTerm:mroIn K d_NoTerm (.type "object")=some true) (w8_NoTerm:mroIn K d_NoTerm (.type "BaseException")=some true) (kt_NoTerm_BadRow:kitAny K (.ref d_NoTerm) [.ref d_BadRow,.ref d_Lacking,.ref d_NoEnd,.ref d_NoNet,.ref d_NoPair,.ref d_NoRule,.ref d_NoValue,.ref d_Spent]=some false) (kt_BadKind_Stuck:kitAny K (.ref d_BadKind) [.ref d_Stuck,.ref d_Twice,.ref d_TwoRules,.ref d_Uneven,.ref d_Unfit]=some false) (kt_NoName_Stuck:kitAny K (.ref d_NoName) [.ref d_Stuck,.ref d_Twice,.ref d_TwoRules,.ref d_Uneven,.ref d_Unfit]=some false) (kt_NoTerm_Stuck:kitAny K (.ref d_NoTerm) [.ref d_Stuck,.ref d_Twice,.ref d_TwoRules,.ref d_Uneven,.ref d_Unfit]=some false) (ko_BadKind_ValueError:kitOne K (.ref d_BadKind) (.type "ValueError")=some true) (ko_NoName_ValueError:kitOne K (.ref d_NoName) (.type "ValueError")=some true) (ko_NoTerm_ValueError:kitOne K (.ref d_NoTerm) (.type "ValueError")=some true) (ko_BadKind_NoName:kitOne K (.ref d_BadKind) (.ref d_NoName)=some false) (ko_NoName_NoName:kitOne K (.ref d_NoName) (.ref d_NoName)=some true) (ko_NoTerm_NoName:kitOne K (.ref d_NoTerm) (.ref d_NoName)=some false) (ko_BadKind_BadKind:kitOne K (.ref d_BadKind) (.ref d_BadKind)=some true) (ko_NoName_BadKind:kitOne K (.ref d_NoName) (.ref d_BadKind)=some false) (ko_NoTerm_BadKind:kitOne K (.ref d_NoTerm) (.ref d_BadKind)=some false) (ko_BadKind_NoTerm:kitOne K (.ref d_BadKind) (.ref d_NoTerm)=some false) (ko_NoName_NoTerm:kitOne K (.ref d_NoName) (.ref d_NoTerm)=some false) (ko_NoTerm_NoTerm:kitOne K (.ref d_NoTerm) (.ref d_NoTerm)=some true) (hd_BadKind:hasDictIn K d_BadKind=true) (no_BadKind_word:findIn K (.ref d_BadKind) "word" = some none) (hd_NoName:hasDictIn K d_NoName=true) (no_NoName_word:findIn K (.ref d_NoName) "word" = some none) (hd_NoTerm:hasDictIn K d_NoTerm=true) (no_NoTerm_word:findIn K (.ref d_NoTerm) "word" = some none) (xe_NoName:exC K d_NoName=true) (in_NoName:findIn K (.ref d_NoName) "__init__" = some (some (.ref i_NoName))) (fn_NoName:isFn K (.ref i_NoName)=true) (kp_NoName:keepIn K (.ref d_NoName)=true) (sa_NoName:findIn K (.ref d_NoName) "__setattr__" = some (some (.builtin "object.__setattr__"))) (li_NoName:K.lookup i_NoName=some ⟨oc_NoName,od_NoName,.func (fnOf "__init__" "NoName.__init__" (lC lH) (d9 lH) (aM lH) .none kV_NoName dc_NoName pm_NoName an_NoName cd_NoName ct_NoName),sl_NoName⟩) (ci_NoName:codeIn K cd_NoName "NoName.__init__" = true) (ki_NoName:keepIn K (.ref i_NoName)=true) (b1_MillError:specialIn K (.ref d_MillError) "__getattribute__" = some (some (.builtin "type.__getattribute__"))) (b2_MillError:readsIn K d_MillError (.type "type")=true) (b3_MillError:findCls K (.ref d_MillError) (.type "type") "__init__" = some (.val (.builtin "ValueError.__init__"))) (xe_BadKind:exC K d_BadKind=true) (in_BadKind:findIn K (.ref d_BadKind) "__init__" = some (some (.ref i_BadKind))) (fn_BadKind:isFn K (.ref i_BadKind)=true) (kp_BadKind:keepIn K (.ref d_BadKind)=true) (sa_BadKind:findIn K (.ref d_BadKind) "__setattr__" = some (some (.builtin "object.__setattr__"))) (li_BadKind:K.lookup i_BadKind=some ⟨oc_BadKind,od_BadKind,.func (fnOf "__init__" "BadKind.__init__" (lC jG) (d9 jG) (aM jG) .none kV_BadKind dc_BadKind pm_BadKind an_BadKind cd_BadKind ct_BadKind),sl_BadKind⟩) (ci_BadKind:codeIn K cd_BadKind "BadKind.__init__" = true) (ki_BadKind:keepIn K (.ref i_BadKind)=true) :
  ∃fd:FuncData,(∀(s:Shared) (v:Value),BindsTo s fd ⟨[v],[]⟩ [("script",v)])/\∀base:Heap,K.In base->base.Ns mainGlobals mg->qW l.prog w K mg base CX0 7 fa fd ["script"] (@spD ⟨K⟩ NP 1):=by
 have e:=hfa.symm.trans (mg_of X G a18);cases e
 letI:KFrag:=⟨K⟩
 have Y:=fun {n:Str} {v:Value}=>mg_of (n:=n) (v:=v) X G
 have Z:=fun {n:Str}=>mg_none_of (n:=n) X G
 obtain ⟨f0,_,a0,F0⟩:=a0;obtain ⟨f1,_,a1,F1⟩:=a1;obtain ⟨f2,_,a2,F2⟩:=a2;obtain ⟨f3,_,a3,F3⟩:=a3;obtain ⟨f4,_,a4,F4⟩:=a4;obtain ⟨f5,_,a5,F5⟩:=a5;obtain ⟨f6,_,a6,F6⟩:=a6;obtain ⟨f7,_,a7,F7⟩:=a7;obtain ⟨f8,_,a8,F8⟩:=a8;obtain ⟨f9,_,a9,F9⟩:=a9;obtain ⟨f10,_,a10,F10⟩:=a10;obtain ⟨f11,_,a11,F11⟩:=a11;obtain ⟨f12,_,a12,F12⟩:=a12;obtain ⟨f13,_,a13,F13⟩:=a13;obtain ⟨f14,_,a14,F14⟩:=a14;obtain ⟨f15,_,a15,F15⟩:=a15;obtain ⟨f16,_,a16,F16⟩:=a16;obtain ⟨f17,_,a17,F17⟩:=a17;have B:Bt mg:=⟨Z z_len,Z z_min,Z z_max,Z z_list,Z z_tuple,Z z_sorted,Z z_range,Z z_isinstance,Z z_int,Z z_bool,Z z_str,Z z_dict,Z z_all,Z z_enumerate,Z z_sum,Z z_zip,Z z_abs,Z z_reversed⟩
 refine ⟨fnOf "law" "law" (lC uK) (d9 uK) (aM uK) .none kV18 dc18 pm18 an18 cd18 ct18,fun s v=>.of_eq rfl,fun base _ _=>?_⟩;have h__law_own_words:=pB (P:=l.prog) (w:=w) (base:=base) rfl B  F0 (Y a0);have h__law_next:=wI (P:=l.prog) (w:=w) (base:=base) rfl B  F1 (Y a1);have h__law_sig:=zO (P:=l.prog) (w:=w) (base:=base) rfl B h__law_next F2 (Y a2);have h__law_program:=q_ (P:=l.prog) (w:=w) (base:=base) rfl B  F3 (Y a3);have h__law_words:=uL (P:=l.prog) (w:=w) (base:=base) rfl B h__law_next F4 (Y a4);have h_heads_of:=zP (P:=l.prog) (w:=w) (base:=base) rfl B  F5 (Y a5);have e_NoName:aGq l.prog w K mg base 1 "NoName" ["word"]:=⟨d_NoName,i_NoName,_,_,g_NoName,Y g_NoName,⟨xe_NoName,in_NoName,fn_NoName,kp_NoName,sa_NoName,w7_NoName⟩,N5 (uW (st:=lH) li_NoName ci_NoName ki_NoName) ⟨xe_NoName,in_NoName,fn_NoName,kp_NoName,sa_NoName,w7_NoName⟩ (Y g_MillError) b1_MillError b2_MillError b3_MillError no_NoName_word,(uW (st:=lH) li_NoName ci_NoName ki_NoName).binds fun _ _ _ _ _ _ us hl=>match us,hl with|[_,_],_=>rfl,by decide⟩
 have z_head_of:=E_ (P:=l.prog) (w:=w) (base:=base) rfl B  e_NoName F6 (Y a6);have h_head_of:=z_head_of.cal;have e_BadKind:aGq l.prog w K mg base 1 "BadKind" ["word"]:=⟨d_BadKind,i_BadKind,_,_,g_BadKind,Y g_BadKind,⟨xe_BadKind,in_BadKind,fn_BadKind,kp_BadKind,sa_BadKind,w7_BadKind⟩,FP (uW (st:=jG) li_BadKind ci_BadKind ki_BadKind) ⟨xe_BadKind,in_BadKind,fn_BadKind,kp_BadKind,sa_BadKind,w7_BadKind⟩ (Y g_MillError) b1_MillError b2_MillError b3_MillError no_BadKind_word,(uW (st:=jG) li_BadKind ci_BadKind ki_BadKind).binds fun _ _ _ _ _ _ us hl=>match us,hl with|[_,_],_=>rfl,by decide⟩
 have z_walk_words:=uM (P:=l.prog) (w:=w) (base:=base) rfl B  z_head_of e_BadKind F7 (Y a7);have h_walk_words:=z_walk_words.cal;have h_are_small_letters:=mR (P:=l.prog) (w:=w) (base:=base) rfl B  F8 (Y a8);have h_is_name:=FJ (P:=l.prog) (w:=w) (base:=base) rfl B h_are_small_letters F9 (Y a9);have h_are_names:=wL (P:=l.prog) (w:=w) (base:=base) rfl B h_is_name F10 (Y a10);have z_term:=Y8 (P:=l.prog) (w:=w) (base:=base) rfl B h_are_names h_heads_of z_walk_words z_head_of g_NoTerm (Y g_NoTerm) xp_NoTerm F11 (Y a11);have h_term:=z_term.cal;have h_kind_of:=FN (P:=l.prog) (w:=w) (base:=base) rfl B h_heads_of F12 (Y a12);have z__law_right:=uN (P:=l.prog) (w:=w) (base:=base) rfl B h_kind_of z_term F13 (Y a13);have h__law_right:=z__law_right.cal;have h__law_names:=uO (P:=l.prog) (w:=w) (base:=base) rfl B h__law_next F14 (Y a14);have h__law_other_words:=m_ (P:=l.prog) (w:=w) (base:=base) rfl B  F15 (Y a15);have h__law_other_text:=oJ (P:=l.prog) (w:=w) (base:=base) rfl B  F16 (Y a16)
 have h__law_refused:=rA (P:=l.prog) (w:=w) (base:=base) rfl B  z_term (Y g_MillError) (Y g_Spent) (Y g_NoValue) (Y g_NoRule) (Y g_NoPair) (Y g_NoNet) (Y g_NoEnd) (Y g_Lacking) (Y g_BadRow) (Y g_Unfit) (Y g_Uneven) (Y g_TwoRules) (Y g_Twice) (Y g_Stuck) (mg_none_of X G zz_ValueError) (Y g_NoName) (Y g_BadKind) (Y g_NoTerm) ⟨⟨_,g_BadKind,xm_BadKind_MillError⟩,⟨_,g_NoName,xm_NoName_MillError⟩,⟨_,g_NoTerm,xm_NoTerm_MillError⟩,trivial⟩ ⟨⟨_,g_BadKind,⟨w1_BadKind,w2_BadKind,w3_BadKind,w4_BadKind,w5_BadKind,w6_BadKind,w7_BadKind,w8_BadKind⟩,kt_BadKind_BadRow⟩,⟨_,g_NoName,⟨w1_NoName,w2_NoName,w3_NoName,w4_NoName,w5_NoName,w6_NoName,w7_NoName,w8_NoName⟩,kt_NoName_BadRow⟩,⟨_,g_NoTerm,⟨w1_NoTerm,w2_NoTerm,w3_NoTerm,w4_NoTerm,w5_NoTerm,w6_NoTerm,w7_NoTerm,w8_NoTerm⟩,kt_NoTerm_BadRow⟩,trivial⟩ ⟨⟨_,g_BadKind,⟨w1_BadKind,w2_BadKind,w3_BadKind,w4_BadKind,w5_BadKind,w6_BadKind,w7_BadKind,w8_BadKind⟩,kt_BadKind_Stuck⟩,⟨_,g_NoName,⟨w1_NoName,w2_NoName,w3_NoName,w4_NoName,w5_NoName,w6_NoName,w7_NoName,w8_NoName⟩,kt_NoName_Stuck⟩,⟨_,g_NoTerm,⟨w1_NoTerm,w2_NoTerm,w3_NoTerm,w4_NoTerm,w5_NoTerm,w6_NoTerm,w7_NoTerm,w8_NoTerm⟩,kt_NoTerm_Stuck⟩,trivial⟩ ⟨⟨_,g_BadKind,⟨w1_BadKind,w2_BadKind,w3_BadKind,w4_BadKind,w5_BadKind,w6_BadKind,w7_BadKind,w8_BadKind⟩,ko_BadKind_ValueError⟩,⟨_,g_NoName,⟨w1_NoName,w2_NoName,w3_NoName,w4_NoName,w5_NoName,w6_NoName,w7_NoName,w8_NoName⟩,ko_NoName_ValueError⟩,⟨_,g_NoTerm,⟨w1_NoTerm,w2_NoTerm,w3_NoTerm,w4_NoTerm,w5_NoTerm,w6_NoTerm,w7_NoTerm,w8_NoTerm⟩,ko_NoTerm_ValueError⟩,trivial⟩ ⟨⟨_,g_BadKind,⟨w1_BadKind,w2_BadKind,w3_BadKind,w4_BadKind,w5_BadKind,w6_BadKind,w7_BadKind,w8_BadKind⟩,ko_BadKind_NoName⟩,⟨_,g_NoName,⟨w1_NoName,w2_NoName,w3_NoName,w4_NoName,w5_NoName,w6_NoName,w7_NoName,w8_NoName⟩,ko_NoName_NoName⟩,⟨_,g_NoTerm,⟨w1_NoTerm,w2_NoTerm,w3_NoTerm,w4_NoTerm,w5_NoTerm,w6_NoTerm,w7_NoTerm,w8_NoTerm⟩,ko_NoTerm_NoName⟩,trivial⟩ ⟨⟨_,g_BadKind,⟨w1_BadKind,w2_BadKind,w3_BadKind,w4_BadKind,w5_BadKind,w6_BadKind,w7_BadKind,w8_BadKind⟩,ko_BadKind_BadKind⟩,⟨_,g_NoName,⟨w1_NoName,w2_NoName,w3_NoName,w4_NoName,w5_NoName,w6_NoName,w7_NoName,w8_NoName⟩,ko_NoName_BadKind⟩,⟨_,g_NoTerm,⟨w1_NoTerm,w2_NoTerm,w3_NoTerm,w4_NoTerm,w5_NoTerm,w6_NoTerm,w7_NoTerm,w8_NoTerm⟩,ko_NoTerm_BadKind⟩,trivial⟩ ⟨⟨_,g_BadKind,⟨w1_BadKind,w2_BadKind,w3_BadKind,w4_BadKind,w5_BadKind,w6_BadKind,w7_BadKind,w8_BadKind⟩,ko_BadKind_NoTerm⟩,⟨_,g_NoName,⟨w1_NoName,w2_NoName,w3_NoName,w4_NoName,w5_NoName,w6_NoName,w7_NoName,w8_NoName⟩,ko_NoName_NoTerm⟩,⟨_,g_NoTerm,⟨w1_NoTerm,w2_NoTerm,w3_NoTerm,w4_NoTerm,w5_NoTerm,w6_NoTerm,w7_NoTerm,w8_NoTerm⟩,ko_NoTerm_NoTerm⟩,trivial⟩ ⟨⟨_,g_BadKind,⟨w1_BadKind,w2_BadKind,w3_BadKind,w4_BadKind,w5_BadKind,w6_BadKind,w7_BadKind,w8_BadKind⟩,hd_BadKind,no_BadKind_word⟩,⟨_,g_NoName,⟨w1_NoName,w2_NoName,w3_NoName,w4_NoName,w5_NoName,w6_NoName,w7_NoName,w8_NoName⟩,hd_NoName,no_NoName_word⟩,⟨_,g_NoTerm,⟨w1_NoTerm,w2_NoTerm,w3_NoTerm,w4_NoTerm,w5_NoTerm,w6_NoTerm,w7_NoTerm,w8_NoTerm⟩,hd_NoTerm,no_NoTerm_word⟩,trivial⟩ ⟨⟨_,g_BadKind,⟨w1_BadKind,w2_BadKind,w3_BadKind,w4_BadKind,w5_BadKind,w6_BadKind,w7_BadKind,w8_BadKind⟩,hd_BadKind,no_BadKind_word⟩,⟨_,g_NoName,⟨w1_NoName,w2_NoName,w3_NoName,w4_NoName,w5_NoName,w6_NoName,w7_NoName,w8_NoName⟩,hd_NoName,no_NoName_word⟩,⟨_,g_NoTerm,⟨w1_NoTerm,w2_NoTerm,w3_NoTerm,w4_NoTerm,w5_NoTerm,w6_NoTerm,w7_NoTerm,w8_NoTerm⟩,hd_NoTerm,no_NoTerm_word⟩,trivial⟩ F17 (Y a17)
 exact aGu rfl B h__law_own_words h__law_names h__law_next h__law_sig h__law_program h__law_words h__law_other_words h__law_other_text h__law_refused h__law_right (uW (st:=uK) l18 c18 k18)
theorem walk {l:OpenLaw} {q:Program} {loose:List Str} {XP:(Str->Option Value)->Heap->Prop} {YP:World->Heap->Prop} {d:DefRec} {K:Params->Frag} (main:∀ns:List Int,ns.length<=63->NP [.scr (ns.map D.int)]=.ok (.bl true)) (hn:l.most=some 63) (hdf:d.params.defaults=[])
  (hY:∀(w:World) (h:Heap),YP w h->(K w.params).In h)
  (F:∀(w:World) (mg:Str->Option Value) (fa:Addr) (h:Heap),(K w.params).In h->h.Ns mainGlobals mg->mg d.name=some (.ref fa)->
   ∃fd:FuncData,(∀(s:Shared) (u:Value),BindsTo s fd ⟨[u],[]⟩ [("script",u)])/\∀base:Heap,(K w.params).In base->base.Ns mainGlobals mg->qW l.prog w (K w.params) mg base CX0 7 fa fd ["script"] (@spD ⟨K w.params⟩ NP 1)) :
  WalkO q loose XP YP l.row.toRowW d [] (fun f vs=>PySem.call f vs):=
 L2.aBz (n:=63) (k:=7) (x := "script") (CX:=fun _=>CX0) (sp:=fun w=>@spD ⟨K w.params⟩ NP 1) hn (by decide) hdf ⟨rfl,by decide,by decide⟩ hY F (fun w H a ns hl hO hS=>RC main hl hO hS) fun _ _ _ _ _ z=>z
end Lk46
end
section
namespace Lk46
open PySem L2 Mi
theorem pD {f:List D->Res D} {n i:Nat} {fs:FA} {ρ rest h h':List D} {r:D} (h1:fs ρ=.ok rest) (h2:xJ (ρ.getD i .uD)=some h) (h3:rest.length+1=n) (h4:ch1 f h rest=.ok (r,h')) (h5:D.aW h'=true) {ρ':List D} (he:ρ.set i (YF (ρ.getD i .uD) h')=ρ'):cH f n i fs ρ=.ok (r,ρ'):=by
 subst he;unfold cH;rw [h1,Res.aK,h2];dsimp only;rw [if_pos (decide_eq_true h3),h4,Res.aK];dsimp only;rw [if_pos h5]
theorem j4 {i:Nat} {f:FX} {ρ ρ':List D} {d:D} (h:f ρ=.ok (d,ρ')) {ρ2:List D} (he:ρ'.set i d=ρ2):iZ false i f ρ=.ok (.nx ρ2):=by
 subst he;unfold iZ;rw [h];rfl
theorem qR {f g:FS} {ρ:List D} {d:D} (h:f ρ=.ok (.rt d)):aQ f g ρ=.ok (.rt d):=by
 unfold aQ;rw [h];rfl
theorem FQ {i:Nat} {fk fv:FE} {ρ xs:List D} {d:D} {k:Int} {j:Nat} (h1:fv ρ=.ok d) (h2:fk ρ=.ok (.int k)) (h3:xJ (ρ.getD i .uD)=some xs) (hp:d.pure=true) (hj:ixD xs.length k=some j) {ρ':List D} (he:ρ.set i (YF (ρ.getD i .uD) (xs.set j d))=ρ'):sY i fk fv ρ=.ok (.nx ρ'):=by
 subst he;unfold sY;rw [h1,Res.aK,h2,Res.aK,h3];dsimp only;rw [if_pos hp,hj]
theorem FW {f:FE} {ρ:List D} {d:D} {k:Bool} (h:f ρ=.ok d) (hp:(k||d.pure)=true):BX f k ρ=.ok (.rt (.tup (d::ρ))):=by
 unfold BX;rw [h,Res.aK,if_pos hp]
theorem Y9 {i:Nat} {ρ:List D} {d:D} (h:cL i ρ=.ok d) (hp:d.G9=true):yE i ρ=.ok (.rt (.tup (d::ρ))):=by
 unfold yE;rw [h,Res.aK,if_pos hp]
theorem wO {f:FE} {ρ:List D} {d:D} (h:f ρ=.ok d) (hp:d.pure=true):bPu f ρ=.ok d:=by
 unfold bPu;rw [h,Res.aK,if_pos hp]
theorem UV {f:D->D->Res D} {fa:FX} {fb:FE} {ρ ρ1:List D} {x y d:D} (h1:fa ρ=.ok (x,ρ1)) (hp:x.pure=true) (h2:fb ρ1=.ok y) (h3:f x y=.ok d) (hd:d.pure=true):x2L f fa fb ρ=.ok (d,ρ1):=by
 unfold x2L;rw [h1,Res.aK];dsimp only;rw [if_pos hp,h2,Res.aK,h3,Res.aK,if_pos hd]
theorem aAv {f:D->D->Res D} {fa:FE} {fb:FX} {ρ ρ1:List D} {x y d:D} (h1:fa ρ=.ok x) (h2:fb ρ=.ok (y,ρ1)) (h3:f x y=.ok d) (hd:d.pure=true):x2R f fa fb ρ=.ok (d,ρ1):=by
 unfold x2R;rw [h1,Res.aK,h2,Res.aK];dsimp only;rw [h3,Res.aK,if_pos hd]
theorem aGw {f:FX} {ρ ρ1:List D} {b:Bool} (h:f ρ=.ok (.bl b,ρ1)):xTB f ρ=.ok (b,ρ1):=by
 unfold xTB;rw [h];rfl
theorem aAw {c:FXT} {f g:FS} {ρ ρ1:List D} {k:Bool} {r:Res Fl} (h1:c ρ=.ok (k,ρ1)) (h2:(if k then f ρ1 else g ρ1)=r):YG c f g ρ=r:=by
 unfold YG;rw [h1];exact h2
theorem zR {k n m:Nat} {f:FS} {ds:List D} {d:D} {ρ:List D} (h:f (ds++List.replicate (m-n) .uD)=.ok (.rt (.tup (d::ρ)))):fnX k n m f ds=.ok (.tup (d::ρ.take k)):=by
 unfold fnX;rw [h];rfl
theorem tQ (a b:Int) (h:lN b=true):yM (.int a) (.int b)=.ok (.int (a*b)):=by
 show aO .mul (.int a) (.int b)=_;exact aFy a b h
theorem UW (a:Int) (h1:-10000000000<=a) (h2:a<=10000000000):lN a=true:=by
 unfold lN;rw [Bool.and_eq_true,decide_eq_true_eq,decide_eq_true_eq];lia
theorem U0 (a b:Int):jV .le (.int a) (.int b)=.ok (.bl (decide (a<=b))):=rfl
theorem aAx (a b:Int):jV .lt (.int a) (.int b)=.ok (.bl (decide (a<b))):=rfl
theorem cmp_gt (a b:Int):jV .gt (.int a) (.int b)=.ok (.bl (decide (b<a))):=rfl
theorem eU (a b:Int):cC .eq (.int a) (.int b)=.ok (.bl (a==b)):=rfl
theorem aDb (a b:Int):cC .ne (.int a) (.int b)=.ok (.bl (!(a==b))):=rfl
theorem U3 (ns:List Int) (i:Int) (h0:0<=i) (h1:i<ns.length):∃n,getD (.scr (ns.map D.int)) (.int i)=.ok (.int n):=by
 have hl:i.toNat<ns.length:=by lia
 refine ⟨ns[i.toNat],?_⟩;show Res.ofOpt ((ixD (ns.map D.int).length i).bind fun j=>(ns.map D.int)[j]?)=_;unfold ixD;rw [if_pos h0,List.length_map,if_pos h1];simp [hl]
def tx (cs:List Nat):Str:=⟨cs.toArray⟩
theorem dI (cs:List Nat):(tx cs).length=cs.length:=by
 show cs.toArray.size=_;simp
theorem nP (a b:List Nat):tx a++tx b=tx (a++b):=by
 show (⟨a.toArray++b.toArray⟩:Str)=⟨(a++b).toArray⟩
 congr 1
 simp
theorem tR {a b:List Nat} (h:tx a=tx b):a=b:=by
 unfold tx at h;injection h with h
 have:=congrArg Array.toList h;simpa using this
def abc:Str := "abcdefghijklmnopqrstuvwxyz"
theorem aGx:∀i,i<26->abc.cps.toList[i]?=some (97+i):=by decide +kernel
theorem letter (i:Int) (h0:0<=i) (h1:i<26):getD (.str abc) (.int i)=.ok (.str (tx [97+i.toNat])):=by
 have hl:decide (abc.length<=lim)=true:=by decide +kernel
 have h26:abc.cps.toList.length=26:=by decide +kernel
 have hix:ixD abc.cps.toList.length i=some i.toNat:=by
  unfold ixD;rw [if_pos h0,h26,if_pos (by lia)]
 show (if decide (abc.length<=lim) then Res.ofOpt (((ixD abc.cps.toList.length i).bind fun j=>abc.cps.toList[j]?).map fun c=>D.str ⟨#[c]⟩) else .bad)=_;rw [hl,if_pos rfl,hix];simp only [Option.bind_some];rw [aGx _ (by lia)];rfl
def dk (cs:List Int) (n:Nat):List D:=[.scr (cs.map D.int),.int n]
theorem pF (cs:List Int) (n:Nat):D.aW (dk cs n)=true:=by
 show ((D.scr (cs.map D.int)).pure&&_)=true;rw [D.pure,pX];rfl
theorem aDc (cs:List Int) (n:Nat) (hn:n<=100000):∃r:Int,∀b,aR [.cel b (dk cs n)]=.ok (.tup [.int r,.cel b (dk cs (n+1))]):=by
 have hl:eY [.scr (cs.map D.int)]=.ok (.int cs.length):=by
  show Res.ok (D.int ((cs.map D.int).length:Int))=_;rw [List.length_map]
 have pre:∀(b:Nat) (R:Res Fl) (g:FS),g [.cel b (dk cs (n+1)),.scr (cs.map D.int),.int n]=R->(aQ (bD false 1 (b2 getD gB gY) false) (aQ (bD false 2 (b2 getD gB eX) false) (aQ (sY 0 eX (b2 (aO .add) cN eX)) g))) [.cel b (dk cs n),.uD,.uD]=R:=fun b R g hg=>by
  refine aF (ρ':=[.cel b (dk cs n),.scr (cs.map D.int),.uD]) (nZ (i:=1) (aJ (x:=.cel b (dk cs n)) (y:=.int 0) rfl rfl rfl) (pX cs)) ?_;refine aF (ρ':=[.cel b (dk cs n),.scr (cs.map D.int),.int n]) (nZ (i:=2) (aJ (x:=.cel b (dk cs n)) (y:=.int 1) rfl rfl rfl) rfl) ?_;exact aF (FQ (i:=0) (xs:=dk cs n) (k:=1) (j:=1) (d:=.int ((n+1:Nat):Int)) (aJ (x:=.int n) (y:=.int 1) rfl rfl rfl) rfl rfl rfl rfl rfl) hg
 have h0:∀(b:Nat) (d:D) (ρ:List D),tE [.cel b (dk cs n),.uD,.uD]=.ok (.rt (.tup (d::.cel b (dk cs (n+1))::ρ)))->aR [.cel b (dk cs n)]=.ok (.tup [d,.cel b (dk cs (n+1))]):=fun b d ρ h=>zR (k:=1) (ρ:=.cel b (dk cs (n+1))::ρ) h
 by_cases h1:n<cs.length
 ·obtain ⟨r,hr⟩:=U3 cs n (by lia) (by lia);refine ⟨r,fun b=>h0 b _ _ (pre b _ _ (qR (qM (dG (aJ rfl (bF (aD rfl rfl) hl) ((aAx _ _).trans (by rw [decide_eq_true (by lia)])))) (FW (aJ rfl rfl hr) rfl))))⟩
 ·have c1:∀b:Nat,(sIf (bTB (b2 (jV .lt) cN (aU eY (aB dN aP)))) (BX (b2 getD dN cN) false) fH) [.cel b (dk cs (n+1)),.scr (cs.map D.int),.int n]=.ok (.nx [.cel b (dk cs (n+1)),.scr (cs.map D.int),.int n]):=fun b=>lU (dG (aJ rfl (bF (aD rfl rfl) hl) ((aAx _ _).trans (by rw [decide_eq_false (by lia)])))) rfl
  have hs:lN (n:Int)=true:=UW _ (by lia) (by lia);by_cases h2:cs.length=0
  ·refine ⟨(n:Int)*n*3+n,fun b=>h0 b _ _ (pre b _ _ (aF (c1 b) (qR (qM (dG (aJ (bF (aD rfl rfl) hl) rfl ((eU _ _).trans (by rw [h2];rfl)))) (FW (aJ (aJ (aJ rfl rfl (tQ _ _ hs)) rfl (tQ _ _ rfl)) rfl (d7 _ _)) rfl)))))⟩
  ·have hp:(0:Int)<cs.length:=by lia
   obtain ⟨r,hr⟩:=U3 cs ((n:Int) % cs.length) (Int.emod_nonneg _ (by lia)) (Int.emod_lt_of_pos _ hp);refine ⟨r / 2+n*n,fun b=>h0 b _ _ (pre b _ _ (aF (c1 b) (aF (ρ':=[.cel b (dk cs (n+1)),.scr (cs.map D.int),.int n]) (lU (dG (aJ (bF (aD rfl rfl) hl) rfl ((eU _ _).trans ?_))) rfl) (FW (aJ (aJ (aJ rfl (aJ rfl (bF (aD rfl rfl) hl) (bV _ _ hp)) hr) rfl (cR _ _ (by decide) (by decide))) (aJ rfl rfl (tQ _ _ hs)) (d7 _ _)) rfl))))⟩;have:((cs.length:Int)==0)=false:=by simpa using h2
   rw [this]
theorem jH (cs:List Int) (n:Nat) (hn:n<=100000):∃r:Int,ch1 aR (dk cs n) []=.ok (.int r,dk cs (n+1)):=by
 obtain ⟨r,h⟩:=aDc cs n hn;exact ⟨r,JC h⟩
theorem tU {cs:List Int} {n:Nat} {i:Nat} {ρ:List D} {r:Int} (e:ch1 aR (dk cs n) []=.ok (.int r,dk cs (n+1))) (h2:xJ (ρ.getD i .uD)=some (dk cs n)) {ρ':List D} (he:ρ.set i (YF (ρ.getD i .uD) (dk cs (n+1)))=ρ'):cH aR 1 i aP ρ=.ok (.int r,ρ'):=
 pD (fs:=aP) (rest:=[]) (h:=dk cs n) (h':=dk cs (n+1)) rfl h2 rfl e (pF cs (n+1)) he
theorem zT {cs:List Nat} {l u:Option Int} {a b:Nat} (hab:a<=b) (hb:b<=cs.length) (e:Builtin.Str.strSliceIndices l u 1 (tx cs).length=Builtin.Str.strSliceIndices (some (a:Int)) (some (b:Int)) 1 (tx cs).length):Txt.slice (tx cs) l u=tx ((cs.drop a).take (b-a)):=by
 unfold Txt.slice;rw [e];split
 ·rename_i hw;rw [StrLaws.strSliceIndices_plain hab (by rw [dI];exact hb),dI] at hw;have:b-a=cs.length:=by simpa using hw
  have ha:a=0:=by lia
  rw [this,ha,List.drop_zero,List.take_of_length_le (Nat.le_refl _)]
 ·rw [StrLaws.sliced_plain (tx cs) hab (by rw [dI];exact hb)];unfold tx
  congr 1
theorem pG (cs:List Nat) (a:Nat):Txt.slice (tx cs) none (some (a:Int))=tx (cs.take a):=by
 have e:Builtin.Str.strSliceIndices none (some (a:Int)) 1 (tx cs).length=Builtin.Str.strSliceIndices (some ((0:Nat):Int)) (some ((min a cs.length:Nat):Int)) 1 (tx cs).length:=by
  rw [dI];simp only [Builtin.Str.strSliceIndices];have e0:max (0:Int) (min (if ((0:Nat):Int)<0 then ((0:Nat):Int)+(cs.length:Int) else ((0:Nat):Int)) (cs.length:Int))=0:=by
   rw [if_neg (by lia)];lia
  have e1:max (0:Int) (min (if (a:Int)<0 then (a:Int)+(cs.length:Int) else (a:Int)) (cs.length:Int))=max (0:Int) (min (if ((min a cs.length:Nat):Int)<0 then ((min a cs.length:Nat):Int)+(cs.length:Int) else ((min a cs.length:Nat):Int)) (cs.length:Int)):=by
   rw [if_neg (by lia),if_neg (by lia)];lia
  simp only [show (1:Int) > 0 from by decide,if_true,e0,e1]
 rw [zT (Nat.zero_le _) (Nat.min_le_right _ _) e,List.drop_zero,Nat.sub_zero];by_cases h:a<=cs.length
 ·rw [Nat.min_eq_left h]
 ·rw [Nat.min_eq_right (by lia),List.take_of_length_le (Nat.le_refl _),List.take_of_length_le (by lia)]
theorem tV (cs:List Nat) (a:Nat):Txt.slice (tx cs) (some (a:Int)) none=tx (cs.drop a):=by
 have e:Builtin.Str.strSliceIndices (some (a:Int)) none 1 (tx cs).length=Builtin.Str.strSliceIndices (some ((min a cs.length:Nat):Int)) (some ((cs.length:Nat):Int)) 1 (tx cs).length:=by
  rw [dI];simp only [Builtin.Str.strSliceIndices];have e0:max (0:Int) (min (if ((cs.length:Nat):Int)<0 then ((cs.length:Nat):Int)+(cs.length:Int) else ((cs.length:Nat):Int)) (cs.length:Int))=(cs.length:Int):=by
   rw [if_neg (by lia)];lia
  have e1:max (0:Int) (min (if (a:Int)<0 then (a:Int)+(cs.length:Int) else (a:Int)) (cs.length:Int))=max (0:Int) (min (if ((min a cs.length:Nat):Int)<0 then ((min a cs.length:Nat):Int)+(cs.length:Int) else ((min a cs.length:Nat):Int)) (cs.length:Int)):=by
   rw [if_neg (by lia),if_neg (by lia)];lia
  simp only [show (1:Int) > 0 from by decide,if_true,e0,e1]
 rw [zT (Nat.min_le_right _ _) (Nat.le_refl _) e,List.take_of_length_le (by rw [List.length_drop];exact Nat.le_refl _)];by_cases h:a<=cs.length
 ·rw [Nat.min_eq_left h]
 ·rw [Nat.min_eq_right (by lia),List.drop_eq_nil_of_le (Nat.le_refl _),List.drop_eq_nil_of_le (by lia)]
def Nm (w:Str):Prop:=1<=w.length/\w.length<=8/\∀c∈w.cps.toList,97<=c/\c<=122
end Lk46
end
section
namespace Lk46
open PySem L2 Mi
def one (c:Nat):Str:=⟨#[c]⟩
theorem zU:∀(cs:List Nat) (a:Array Nat),((cs.map one).foldl (fun acc p=>acc++("" : Str).cps++p.cps) a)=a++cs.toArray
 | [],a=>by simp
 | c::cs,a=>by
  rw [List.map_cons,List.foldl_cons,zU cs];apply Array.ext';simp [one,show (("" : Str).cps)=#[] from rfl]
theorem join_one (cs:List Nat):Txt.join ("" : Str) (cs.map one)=tx cs:=by
 unfold Txt.join Builtin.Str.glued tx;cases cs with
 | nil=>rfl
 | cons c cs=>
  rw [List.map_cons,List.drop_succ_cons,List.drop_zero,List.headD_cons,zU]
  congr 1
  apply Array.ext';simp [one]
theorem zV:∀cs:List Nat,nH (cs.map fun c=>D.str (one c))=some (cs.map one)
 | []=>rfl
 | c::cs=>by
  show (nH (cs.map fun c=>D.str (one c))).map (one c::·)=_;rw [zV cs];rfl
theorem aDd (cs:List Nat) (h:cs.length<=100):joinM (.str "") [.lst (cs.map fun c=>D.str (one c))]=.ok (.str (tx cs)):=by
 show (match nH (cs.map fun c=>D.str (one c)) with|some ts=>if JoinOk "" ts then Res.ok (D.str (Txt.join "" ts)) else .bad|none=>.bad)=_;rw [zV];show (if JoinOk "" (cs.map one) then Res.ok (D.str (Txt.join "" (cs.map one))) else .bad)=_;have hok:JoinOk "" (cs.map one)=true:=by
  unfold JoinOk;rw [StrLaws.joinFits (B:=1) (fun y hy=>by obtain ⟨c,_,rfl⟩:=List.mem_map.mp hy;exact Nat.le_refl _) (by rw [List.length_map,show (("" : Str).length)=0 from rfl];lia)];rfl
 rw [if_pos hok,join_one]
theorem aK8 {a b:FT} {ρ:List D} (h1:a ρ=.ok true):bOr a b ρ=.ok true:=by
 unfold bOr;rw [h1];rfl
theorem aDe {a b:FT} {ρ:List D} {r:Res Bool} (h1:a ρ=.ok false) (h2:b ρ=r):bOr a b ρ=r:=by
 unfold bOr;rw [h1];exact h2
theorem aDf {a b:FT} {ρ:List D} {x y:Bool} (h1:a ρ=.ok x) (h2:b ρ=.ok y):bOr a b ρ=.ok (x||y):=by
 cases x with
 | true=>exact aK8 h1
 | false=>exact aDe h1 h2
noncomputable def nb:FS:=(aQ (bD false 11 (b2 (aO .mod) (b2 (aO .add) (b2 yM jK dH) dB) m8) true) (sIf (bTB (b2 (cC .eq) (b2 (aO .mod) cN gK) eX)) (uF 9 (b2 yM (b2 getD dN (b2 (aO .mod) (b2 (aO .add) dB (b2 (aO .mod) jR rC)) m8)) (b2 (aO .add) eX (b2 (aO .fdiv) jR rC)))) (sIf (bTB (b2 (cC .eq) (b2 (aO .mod) cN gK) m7)) (aQ (bD false 12 (b2 getD dN (b2 (aO .mod) (b2 (aO .add) dB (b2 (aO .mod) jR G6)) m8)) false) (aQ (bD false 13 (b2 getD dN (b2 (aO .mod) (b2 (aO .add) dB (b2 (aO .fdiv) jR G6)) m8)) false) (uF 9 (b2 (aO .add) (b2 (aO .add) (b2 (aO .add) (iB gG cP (cD j7)) gD) l_) (iB gG (cD j7) cP))))) (uF 9 (b2 (aO .add) (b2 (aO .add) (iB gG cP (cD j7)) (b2 getD dN jR)) (iB gG (cD j7) cP))))))
theorem fL {a:FE} {ρ:List D} {i:Int} (h:a ρ=.ok (.int i)):cD a ρ=.ok (some i):=by
 unfold cD;rw [h];rfl
theorem p8 {a:FE} {lo hi:List D->Res (Option Int)} {ρ:List D} {x:Str} {l h:Option Int} (h1:a ρ=.ok (.str x)) (h2:lo ρ=.ok l) (h3:hi ρ=.ok h) (hx:x.length<=1000):iB a lo hi ρ=.ok (.str (Txt.slice x l h)):=by
 unfold iB;rw [h1,Res.aK,h2,Res.aK,h3,Res.aK];show (if decide (x.length<=lim) then Res.ok (D.str (Txt.slice x l h)) else .bad)=_;rw [if_pos (by rw [a_];exact decide_eq_true (by lia))]
theorem U4 (x:Str):tx x.cps.toList=x:=rfl
theorem aDg (c:Nat) (n:Nat) (h:1<=n):Txt.mul (tx [c]) (n:Int)=tx (List.replicate n c):=by
 unfold Txt.mul;rw [if_neg (by lia)];split
 ·rename_i h1;have:n=1:=by
   simp [dI] at h1;lia
  subst this;rfl
 ·have:∀(m:Nat) (a:List Nat),(List.replicate m (tx [c]).cps).foldl (·++·) a.toArray=(a++List.replicate m c).toArray:=by
   intro m;induction m with
   | zero=>intro a;simp
   | succ m ih=>
    intro a;rw [List.replicate_succ,List.foldl_cons];have:a.toArray++(tx [c]).cps=(a++[c]).toArray:=by
     apply Array.ext';simp [tx]
    rw [this,ih,List.replicate_succ];simp
  have e:=this n [];rw [Int.toNat_natCast];show (⟨_⟩:Str)=⟨_⟩
  congr 1
theorem Y_ (c:Nat) (n:Nat) (h:1<=n) (h2:n<=100):yM (.str (tx [c])) (.int n)=.ok (.str (tx (List.replicate n c))):=by
 show (if decide (0<=(n:Int))&&decide ((n:Int)<=100000)&&decide ((tx [c]).length*(n:Int).toNat<=lim) then Res.ok (D.str (Txt.mul (tx [c]) n)) else .bad)=_;have e3:decide ((tx [c]).length*(n:Int).toNat<=lim)=true:=by
  rw [dI,a_];simp;lia
 rw [e3,decide_eq_true (by lia),decide_eq_true (by lia),aDg c n h];rfl
noncomputable abbrev ns (hD:D) (choice turn shift cell size:Int) (base:Str) (at_:Int) (NM:List D) (a b c d:D):List D:=[hD,.str abc,.int choice,.int turn,.int shift,.int cell,.int size,.str base,.int at_,.lst NM,a,b,c,d]
structure Nmf (nm:Nat->List Nat):Prop where
 inj:∀s t,s<26->t<26->nm s=nm t->s=t
 len:∀s,s<26->(nm s).length<=100
 pos:∀s,nm s≠[]
 sm:∀s,s<26->∀c∈nm s,97<=c/\c<=122
 l8:∀s,s<26->(nm s).length<=8
 l7:∀s,s<26->nm s=[99,111,112,121]\/nm s=[100,114,111,112]->∀t,t<26->(nm t).length<=7
theorem U5 (x:Int):∃s:Nat,s<26/\x % 26=s:=⟨(x % 26).toNat,by lia,by lia⟩
theorem U6 {P Q A B:List Nat} (h:P++A++Q=P++B++Q):A=B:=by
 rw [List.append_assoc,List.append_assoc] at h;exact List.append_cancel_right (List.append_cancel_left h)
theorem ZC {choice turn shift cell size at_:Int} {bs:List Nat} {ai:Nat} (hai:at_=(ai:Int)) (hbs:bs.length<=7) (hb6:choice % 3=2->bs.length<=6) (hsm:∀c∈bs,97<=c/\c<=122) (ht:lN turn=true) (hs0:0<=shift) (hs1:shift<26) :
  ∃nm:Nat->List Nat,Nmf nm/\∀(k:Int) (s:Nat),s<26->(k*turn+shift) % 26=s->∀(NM:List D) (b c d:D),NM.length<100->∃b' c' d',∀hD,nb (ns hD choice turn shift cell size (tx bs) at_ NM (.int k) b c d)=.ok (.nx (ns hD choice turn shift cell size (tx bs) at_ (NM++[.str (tx (nm s))]) (.int k) b' c' d')):=by
 have sp:∀(k:Int) (s:Nat) (hD:D) (NM:List D) (b c d:D),(k*turn+shift) % 26=s->bD false 11 (b2 (aO .mod) (b2 (aO .add) (b2 yM jK dH) dB) m8) true (ns hD choice turn shift cell size (tx bs) (ai:Int) NM (.int k) b c d)=.ok (.nx (ns hD choice turn shift cell size (tx bs) (ai:Int) NM (.int k) (.int s) c d)):=fun k s hD NM b c d e=>by
  rw [<-e];exact bO (aJ (aJ (aJ (x:=.int k) (y:=.int turn) rfl rfl (tQ _ _ ht)) rfl (d7 _ _)) rfl (bV _ _ (by decide)))
 have cm:∀(ρ:List D) (j:Int),cL 2 ρ=.ok (.int choice)->bTB (b2 (cC .eq) (b2 (aO .mod) cN gK) (bC (.int j))) ρ=.ok (choice % 3==j):=fun ρ j h=>dG (aJ (aJ h rfl (bV _ _ (by decide))) rfl (eU _ _))
 have lt:∀(ρ:List D) (f:FE) (i:Int) ,cL 1 ρ=.ok (.str abc)->f ρ=.ok (.int i)->0<=i->i<26->b2 getD dN f ρ=.ok (.str (tx [97+i.toNat])):=fun ρ f i h1 h2 h3 h4=>aJ h1 h2 (letter i h3 h4)
 subst hai;obtain ⟨P,hPe⟩:∃P,bs.take ai=P:=⟨_,rfl⟩
 obtain ⟨Q,hQe⟩:∃Q,bs.drop ai=Q:=⟨_,rfl⟩
 have hP:Txt.slice (tx bs) none (some (ai:Int))=tx P:=by rw [pG,hPe]
 have hQ:Txt.slice (tx bs) (some (ai:Int)) none=tx Q:=by rw [tV,hQe]
 have hPQ:P++Q=bs:=by rw [<-hPe,<-hQe,List.take_append_drop]
 have lPQ:P.length+Q.length=bs.length:=by rw [<-hPQ,List.length_append]
 have lP:P.length<=10:=by lia
 have lQ:Q.length<=10:=by lia
 have smP:∀c∈P,97<=c/\c<=122:=fun c hc=>hsm c (by rw [<-hPQ];exact List.mem_append_left _ hc)
 have smQ:∀c∈Q,97<=c/\c<=122:=fun c hc=>hsm c (by rw [<-hPQ];exact List.mem_append_right _ hc)
 have ap:∀(a b:List Nat),a.length<=100->b.length<=100->aO .add (.str (tx a)) (.str (tx b))=.ok (.str (tx (a++b))):=fun a b h1 h2=>by
  rw [jX _ _ (by rw [dI,dI,a_];lia),nP]
 have slP:∀ρ:List D,cL 7 ρ=.ok (.str (tx bs))->cL 8 ρ=.ok (.int (ai:Int))->iB gG cP (cD j7) ρ=.ok (.str (tx P)):=fun ρ g1 g2=>by
  rw [<-hP];exact p8 g1 rfl (fL g2) (by rw [dI];lia)
 have slQ:∀ρ:List D,cL 7 ρ=.ok (.str (tx bs))->cL 8 ρ=.ok (.int (ai:Int))->iB gG (cD j7) cP ρ=.ok (.str (tx Q)):=fun ρ g1 g2=>by
  rw [<-hQ];exact p8 g1 (fL g2) rfl (by rw [dI];lia)
 by_cases h1:choice % 3=1
 ·refine ⟨fun s=>List.replicate (1+s / 4) (97+((shift+((s:Int) % 4)) % 26).toNat),⟨fun s t hs ht e=>?_,fun s hs=>by rw [List.length_replicate];lia,fun s=>by simp [Nat.add_comm 1,List.replicate_succ],fun s hs c hc=>by rw [List.eq_of_mem_replicate hc];lia,fun s hs=>by rw [List.length_replicate];lia,fun s hs e=>by
    exfalso;rcases e with e|e
    ·have a1:=List.eq_of_mem_replicate (show (99:Nat)∈List.replicate (1+s / 4) (97+((shift+((s:Int) % 4)) % 26).toNat) from (show List.replicate (1+s / 4) (97+((shift+((s:Int) % 4)) % 26).toNat)=[99,111,112,121] from e).symm▸(by simp));have a2:=List.eq_of_mem_replicate (show (111:Nat)∈List.replicate (1+s / 4) (97+((shift+((s:Int) % 4)) % 26).toNat) from (show List.replicate (1+s / 4) (97+((shift+((s:Int) % 4)) % 26).toNat)=[99,111,112,121] from e).symm▸(by simp));lia
    ·have a1:=List.eq_of_mem_replicate (show (100:Nat)∈List.replicate (1+s / 4) (97+((shift+((s:Int) % 4)) % 26).toNat) from (show List.replicate (1+s / 4) (97+((shift+((s:Int) % 4)) % 26).toNat)=[100,114,111,112] from e).symm▸(by simp));have a2:=List.eq_of_mem_replicate (show (114:Nat)∈List.replicate (1+s / 4) (97+((shift+((s:Int) % 4)) % 26).toNat) from (show List.replicate (1+s / 4) (97+((shift+((s:Int) % 4)) % 26).toNat)=[100,114,111,112] from e).symm▸(by simp));lia⟩,fun k s hs hk NM b c d hN=>⟨.int s,c,d,fun hD=>?_⟩⟩
  ·have e1:=congrArg List.length e;rw [List.length_replicate,List.length_replicate] at e1;have e2:=congrArg (fun l=>l.head?) e;simp only [Nat.add_comm 1,List.replicate_succ,List.head?_cons,Option.some.injEq] at e2;lia
  ·refine aF (sp k s hD NM b c d hk) (qM ((cm _ _ rfl).trans (by rw [h1];rfl)) ?_);refine o7 (xs:=NM) (aJ (lt _ _ _ rfl (aJ (aJ (x:=.int shift) rfl (aJ (x:=.int s) rfl rfl (bV _ _ (by decide))) (d7 _ _)) rfl (bV _ _ (by decide))) (by lia) (by lia)) (aJ (y:=.int ((s:Int) / 4)) (x:=.int 1) rfl (aJ (x:=.int s) rfl rfl (cR _ _ (by decide) (by decide))) (z:=.int ((1+s / 4:Nat):Int)) ?_) (Y_ _ _ (by lia) (by lia))) rfl (by rw [a_];lia) rfl;rw [d7]
   congr 2
 ·by_cases h2:choice % 3=2
  ·refine ⟨fun s=>P++[97+((shift+((s:Int) % 6)) % 26).toNat,97+((shift+((s:Int) / 6)) % 26).toNat]++Q,⟨fun s t hs ht e=>?_,fun s hs=>by simp only [List.length_append,List.length_cons,List.length_nil];lia,fun s=>by simp,fun s hs c hc=>by
    rcases List.mem_append.mp hc with g|g
    ·rcases List.mem_append.mp g with g|g
     ·exact smP c g
     ·simp only [List.mem_cons,List.not_mem_nil,or_false] at g;rcases g with g|g <;> lia
    ·exact smQ c g,fun s hs=>by simp only [List.length_append,List.length_cons,List.length_nil];have:=hb6 h2;lia,fun s hs e t ht=>by
    have e1:(P++[97+((shift+((s:Int) % 6)) % 26).toNat,97+((shift+((s:Int) / 6)) % 26).toNat]++Q).length=4:=by rcases e with e|e <;> rw [e] <;> rfl
    simp only [List.length_append,List.length_cons,List.length_nil] at e1 ⊢;lia⟩,fun k s hs hk NM b c d hN=>⟨.int s,.str (tx [97+((shift+((s:Int) % 6)) % 26).toNat]),.str (tx [97+((shift+((s:Int) / 6)) % 26).toNat]),fun hD=>?_⟩⟩
   ·have e1:=U6 e;simp only [List.cons.injEq,and_true] at e1;lia
   ·refine aF (sp k s hD NM b c d hk) (lU ((cm _ _ rfl).trans (by rw [h2];rfl)) (qM ((cm _ _ rfl).trans (by rw [h2];rfl)) ?_));refine aF (nZ (lt _ _ _ rfl (aJ (aJ (x:=.int shift) rfl (aJ (x:=.int s) rfl rfl (bV _ _ (by decide))) (d7 _ _)) rfl (bV _ _ (by decide))) (by lia) (by lia)) rfl) ?_;refine aF (nZ (lt _ _ _ rfl (aJ (aJ (x:=.int shift) rfl (aJ (x:=.int s) rfl rfl (cR _ _ (by decide) (by decide))) (d7 _ _)) rfl (bV _ _ (by decide))) (by lia) (by lia)) rfl) ?_;refine (o7 (xs:=NM) (aJ (aJ (aJ (slP _ rfl rfl) rfl (ap _ _ (by lia) (by simp))) rfl (ap _ _ (by simp only [List.length_append,List.length_singleton];lia) (by simp))) (slQ _ rfl rfl) (ap _ _ (by simp only [List.length_append,List.length_singleton];lia) (by lia))) rfl (by rw [a_];lia) rfl).trans ?_;simp only [List.append_assoc,List.cons_append,List.nil_append];rfl
  ·refine ⟨fun s=>P++[97+s]++Q,⟨fun s t hs ht e=>?_,fun s hs=>by simp only [List.length_append,List.length_cons,List.length_nil];lia,fun s=>by simp,fun s hs c hc=>by
    rcases List.mem_append.mp hc with g|g
    ·rcases List.mem_append.mp g with g|g
     ·exact smP c g
     ·simp only [List.mem_cons,List.not_mem_nil,or_false] at g;lia
    ·exact smQ c g,fun s hs=>by simp only [List.length_append,List.length_cons,List.length_nil];lia,fun s hs e t ht=>by
    have e1:(P++[97+s]++Q).length=4:=by rcases e with e|e <;> rw [e] <;> rfl
    simp only [List.length_append,List.length_cons,List.length_nil] at e1 ⊢;lia⟩,fun k s hs hk NM b c d hN=>⟨.int s,c,d,fun hD=>?_⟩⟩
   ·have e1:=U6 e;simp only [List.cons.injEq,and_true] at e1;lia
   ·refine aF (sp k s hD NM b c d hk) (lU ((cm _ _ rfl).trans (by rw [beq_eq_false_iff_ne.mpr h1])) (lU ((cm _ _ rfl).trans (by rw [beq_eq_false_iff_ne.mpr h2])) ?_));refine (o7 (xs:=NM) (aJ (aJ (slP _ rfl rfl) (lt _ _ s rfl rfl (by lia) (by lia)) (ap _ _ (by lia) (by simp))) (slQ _ rfl rfl) (ap _ _ (by simp only [List.length_append,List.length_singleton];lia) (by lia))) rfl (by rw [a_];lia) rfl).trans ?_;rw [Int.toNat_natCast];rfl
theorem vD {choice turn shift cell size at_:Int} {base:Str} {nm:Nat->List Nat} (G:∀(k:Int) (s:Nat),s<26->(k*turn+shift) % 26=s->∀(NM:List D) (b c d:D),NM.length<100->∃b' c' d',∀hD,nb (ns hD choice turn shift cell size base at_ NM (.int k) b c d)=.ok (.nx (ns hD choice turn shift cell size base at_ (NM++[.str (tx (nm s))]) (.int k) b' c' d'))):∀(m j:Nat) (NM:List D) (a b c d:D),NM.length+m<100->∃a' b' c' d',∀hD,nC (tg1 10) nb ((List.range' j m).map fun (k:Nat)=>D.int (0+(k:Int))) (ns hD choice turn shift cell size base at_ NM a b c d)=.ok (.nx (ns hD choice turn shift cell size base at_ (NM++(List.range' j m).map fun (k:Nat)=>D.str (tx (nm (((k:Int)*turn+shift) % 26).toNat))) a' b' c' d'))
 | 0,j,NM,a,b,c,d,_=>⟨a,b,c,d,fun hD=>by
  rw [List.range'_zero,List.map_nil,List.map_nil,List.append_nil];rfl⟩
 | m+1,j,NM,a,b,c,d,h=>by
  obtain ⟨s,hs,es⟩:=U5 ((j:Int)*turn+shift);obtain ⟨b1,c1,d1,e1⟩:=G (0+(j:Int)) s hs (by rw [Int.zero_add];exact es) NM b c d (by lia);obtain ⟨a2,b2,c2,d2,e2⟩:=vD G m (j+1) (NM++[.str (tx (nm s))]) (.int (0+(j:Int))) b1 c1 d1 (by rw [List.length_append,List.length_singleton];lia);refine ⟨a2,b2,c2,d2,fun hD=>?_⟩;rw [List.range'_succ,List.map_cons,List.map_cons,es,Int.toNat_natCast];refine fZ (ρ1:=ns hD choice turn shift cell size base at_ NM (.int (0+(j:Int))) b c d) rfl (e1 hD) ?_;rw [e2 hD,List.append_assoc];rfl
theorem aDh (i:Int) (h0:0<=i) (h1:i<6):∃t:Int,getD (.lst [.int 1,.int 3,.int 5,.int 7,.int 9,.int 25]) (.int i)=.ok (.int t)/\(t=1\/t=3\/t=5\/t=7\/t=9\/t=25):=by
 have:i=0\/i=1\/i=2\/i=3\/i=4\/i=5:=by lia
 rcases this with h|h|h|h|h|h <;> subst h
 ·exact ⟨1,rfl,by decide⟩
 ·exact ⟨3,rfl,by decide⟩
 ·exact ⟨5,rfl,by decide⟩
 ·exact ⟨7,rfl,by decide⟩
 ·exact ⟨9,rfl,by decide⟩
 ·exact ⟨25,rfl,by decide⟩
theorem ZD {t s:Int} (ht:t=1\/t=3\/t=5\/t=7\/t=9\/t=25) {j k:Nat} (hj:j<26) (hk:k<26) (h:((j:Int)*t+s) % 26=((k:Int)*t+s) % 26):j=k:=by
 rcases ht with e|e|e|e|e|e <;> subst e <;> lia
end Lk46
end
section
namespace Lk46
open PySem L2 Mi
theorem tW (n:Nat):∀N:List Str,D.cW n (N.map D.str)=true
 | []=>by rw [List.map_nil,D.cW]
 | x::N=>by
  rw [List.map_cons,D.cW,tW n N];rw [D.b8] <;> simp
theorem wQ (x:Str):(D.str x).b8 aZ=true:=by
 unfold aZ;rw [D.b8] <;> simp
theorem kW:∀N:List Str,D.aW (N.map D.str)=true
 | []=>rfl
 | x::N=>by
  rw [List.map_cons,D.aW,kW N];rfl
theorem FZ (x:Str):∀N:List Str,(N.map D.str).any (fun y=>eqD y (.str x))=decide (x∈N)
 | []=>rfl
 | y::N=>by
  rw [List.map_cons,List.any_cons,FZ x N];show ((y==x)||_)=_;by_cases h:y=x
  ·simp [h]
  ·have h2:¬x=y:=fun e=>h e.symm
   simp [h,h2]
theorem in_str (x:Str) (N:List Str):cC .isin (.str x) (.lst (N.map D.str))=.ok (.bl (decide (x∈N))):=by
 show (if (D.str x).b8 aZ&&D.cW aZ (N.map D.str) then Res.ok (D.bl ((N.map D.str).any fun y=>eqD y (.str x))) else .bad)=_;rw [wQ,tW,FZ];rfl
theorem jD {a:FE} {ρ:List D} {xs:List D} {fr:Bool} (h:a ρ=.ok (.lst xs)):cV a fr ρ=.ok (xs,fr):=by
 unfold cV;rw [h,Res.aK];show Res.ok (xs,fr||false)=_;rw [Bool.or_false]
theorem p_ {a:FE} {ρ:List D} {xs:List D} {fr:Bool} (h:a ρ=.ok (.tup xs)):cV a fr ρ=.ok (xs,fr||D.aW xs):=by
 unfold cV;rw [h,Res.aK];show Res.ok (xs,fr||(D.tup xs).pure)=_;rw [D.pure]
theorem lK {α:Type} {n:Nat} {it:FI} {f:FE} {k kk:Bool} {ρ:List D} (d y:α->D) (xs:List α) (hρ:ρ.length=n) (h1:it ρ=.ok (xs.map d,kk)) (h2:xs.length<=100000) (h3:∀a∈xs,f (ρ++[d a])=.ok (y a)/\(k||(y a).pure)=true):e_ n it oM h_ f k ρ=.ok (.lst (xs.map y)):=by
 refine v9 h1 (by rw [List.length_map,a_];lia) ?_;have:∀(xs:List α) (acc:List D),(∀a∈xs,f (ρ++[d a])=.ok (y a)/\(k||(y a).pure)=true)->jE (rW n oM h_ f k ρ) acc (xs.map d)=.ok (acc++xs.map y):=by
  intro xs;induction xs with
  | nil=>intro acc _;simp [jE]
  | cons x xs ih=>
   intro acc h;rw [List.map_cons,jE,sW hρ (b:=true) rfl fun _=>h x (List.mem_cons_self ..)];show jE _ (acc++[y x]) _=_;rw [ih _ fun a ha=>h a (List.mem_cons_of_mem _ ha),List.append_assoc];rfl
 exact (this xs [] h3).trans (by rw [List.nil_append])
theorem F_ {α:Type} {n:Nat} {it:FI} {c:FT} {f:FE} {k kk:Bool} {ρ:List D} (d y:α->D) (p:α->Bool) (xs:List α) (hρ:ρ.length=n) (h1:it ρ=.ok (xs.map d,kk)) (h2:xs.length<=100000) (hc:∀a∈xs,c (ρ++[d a])=.ok (p a)) (h3:∀a∈xs,p a=true->f (ρ++[d a])=.ok (y a)/\(k||(y a).pure)=true):e_ n it oM c f k ρ=.ok (.lst ((xs.filter p).map y)):=by
 refine v9 h1 (by rw [List.length_map,a_];lia) ?_;have:∀(xs:List α) (acc:List D),(∀a∈xs,c (ρ++[d a])=.ok (p a))->(∀a∈xs,p a=true->f (ρ++[d a])=.ok (y a)/\(k||(y a).pure)=true)->jE (rW n oM c f k ρ) acc (xs.map d)=.ok (acc++(xs.filter p).map y):=by
  intro xs;induction xs with
  | nil=>intro acc _ _;simp [jE]
  | cons x xs ih=>
   intro acc hc h;rw [List.map_cons,jE,sW hρ (hc x (List.mem_cons_self ..)) fun e=>h x (List.mem_cons_self ..) e];show jE _ _ _=_;rw [ih _ (fun a ha=>hc a (List.mem_cons_of_mem _ ha)) fun a ha=>h a (List.mem_cons_of_mem _ ha)];by_cases hp:p x
   ·simp [hp]
   ·simp [hp]
 exact (this xs [] hc h3).trans (by rw [List.nil_append])
theorem ZF {f:D->List D->Res D} {o:FE} {a:FA} {ρ:List D} {x:D} {xs:List D} {r:Res D} (h1:o ρ=.ok x) (h2:a ρ=.ok xs) (h3:f x xs=r):bM f o a ρ=r:=by
 unfold bM;rw [h1,Res.aK,h2,Res.aK,h3]
theorem aJl (a b:List Nat) (h:tx a++("e" : Str)=tx b++("e" : Str)):a=b:=by
 have e:("e" : Str)=tx [101]:=rfl;rw [e,nP,nP] at h;exact List.append_cancel_right (tR h)
theorem aGy (x:Str):¬x++("e" : Str) = "copy"/\¬x++("e" : Str) = "drop"/\¬x++("e" : Str) = "":=by
 have e:("e" : Str)=tx [101]:=rfl;have c:("copy" : Str)=tx ([99,111,112]++[121]):=rfl;have d:("drop" : Str)=tx ([100,114,111]++[112]):=rfl;have z:("" : Str)=tx []:=rfl;rw [<-U4 x,e,nP,c,d,z];refine ⟨fun h=>?_,fun h=>?_,fun h=>?_⟩
 ·have:=(List.append_inj_right' (tR h) rfl)
  cases this
 ·have:=(List.append_inj_right' (tR h) rfl)
  cases this
 ·have:=tR h;simp at this
theorem ZG (cs:List Int) (n:Nat) (hn:n+3<=100000):∃N:List Str,N.length=26/\N.Nodup/\(¬("copy" : Str)∈N/\¬("drop" : Str)∈N/\∀x∈N,Nm x)/\∀b,eQ [.cel b (dk cs n)]=.ok (.tup [.lst (N.map D.str),.cel b (dk cs (n+3))]):=by
 obtain ⟨choice,q1⟩:=jH cs n (by lia);obtain ⟨cell,q2⟩:=jH cs (n+1) (by lia);obtain ⟨raw,q3⟩:=jH cs (n+2) (by lia);obtain ⟨turn,t1,t2⟩:=aDh (choice / 3 % 6) (by lia) (by lia)
 let shift:=choice / 18 % 26
 have hs0:0<=shift:=by show 0<=choice / 18 % 26;lia
 have hs1:shift<26:=by show choice / 18 % 26<26;lia
 let size:=cell % 8
 have hz0:0<=size:=by show 0<=cell % 8;lia
 have hz1:size<8:=by show cell % 8<8;lia
 let bcs:List Nat:=(List.range size.toNat).map fun (k:Nat)=>97+((cell / 8+(0+(k:Int))*(shift+cell / 40 % 5)) % 26).toNat
 have hbl:bcs.length<=10:=by show (List.map _ _).length<=10;rw [List.length_map,List.length_range];lia
 let at_:=raw % (size+1)
 let bs:List Nat:=if choice % 3=2 then bcs.take 6 else bcs
 let base:Str:=tx bs
 have hbe:base=(if choice % 3=2 then Txt.slice (tx bcs) none (some 6) else tx bcs):=by
  show tx (if choice % 3=2 then bcs.take 6 else bcs)=_;split
  ·exact (pG bcs 6).symm
  ·rfl
 have lbc:bcs.length<=7:=by show (List.map _ _).length<=7;rw [List.length_map,List.length_range];lia
 have hbs7:bs.length<=7:=by
  show (if choice % 3=2 then bcs.take 6 else bcs).length<=7;split
  ·rw [List.length_take];lia
  ·exact lbc
 have hbs6:choice % 3=2->bs.length<=6:=fun h=>by
  show (if choice % 3=2 then bcs.take 6 else bcs).length<=6;rw [if_pos h,List.length_take];lia
 have smc:∀c∈bcs,97<=c/\c<=122:=fun c hc=>by
  obtain ⟨k,_,rfl⟩:=List.mem_map.mp hc;lia
 have smb:∀c∈bs,97<=c/\c<=122:=fun c hc=>by
  have hc:c∈(if choice % 3=2 then bcs.take 6 else bcs):=hc;split at hc
  ·exact smc c (List.mem_of_mem_take hc)
  ·exact smc c hc
 have hat:at_=((raw % (size+1)).toNat:Int):=by show raw % (size+1)=_;have:=Int.emod_nonneg raw (show size+1≠0 by lia);lia
 have hts:lN turn=true:=IW _ (by lia) (by lia);obtain ⟨nm,M,G⟩:=ZC (choice:=choice) (turn:=turn) (shift:=shift) (cell:=cell) (size:=size) (at_:=at_) hat hbs7 hbs6 smb hts hs0 hs1;obtain ⟨a',b',c',d',L⟩:=vD G 26 0 [] .uD .uD .uD .uD (by decide)
 let sp:Nat->Nat:=fun k=>(((k:Int)*turn+shift) % 26).toNat
 have spl:∀k,sp k<26:=fun k=>by show (((k:Int)*turn+shift) % 26).toNat<26;lia
 have spi:∀j k,j<26->k<26->sp j=sp k->j=k:=fun j k hj hk e=>ZD (s:=shift) t2 hj hk (by
  have e':(((j:Int)*turn+shift) % 26).toNat=(((k:Int)*turn+shift) % 26).toNat:=e;lia)
 have nod:∀g:List Nat->Str,(∀a b,g a=g b->a=b)->((List.range' 0 26).map fun k=>g (nm (sp k))).Nodup:=fun g hg=>by
  rw [List.nodup_iff_pairwise_ne,List.pairwise_map];refine List.Pairwise.imp_of_mem ?_ (List.nodup_iff_pairwise_ne.mp (List.nodup_range' (s:=0) (n:=26) (step:=1) (by decide)));intro j k hj hk hne e;rw [List.mem_range'_1] at hj hk;exact hne (spi j k (by lia) (by lia) (M.inj _ _ (spl j) (spl k) (hg _ _ e)))
 have pre:∀(b:Nat) (R:Res Fl) (g:FS),g (ns (.cel b (dk cs (n+3))) choice turn shift cell size base at_ (((List.range' 0 26).map fun k=>tx (nm (sp k))).map D.str) a' b' c' d')=R->(aQ (bD false 1 (bC (.str "abcdefghijklmnopqrstuvwxyz")) true) (aQ (iZ false 2 (cH aR 1 0 aP)) (aQ (bD false 3 (b2 getD (iI (aB eX (aB gK (aB aFe (aB aI1 (aB XF (aB (bC (.int 25)) aP))))))) (b2 (aO .mod) (b2 (aO .fdiv) cN gK) G6)) false) (aQ (bD false 4 (b2 (aO .mod) (b2 (aO .fdiv) cN XH) m8) true) (aQ (iZ false 5 (cH aR 1 0 aP)) (aQ (bD false 6 (b2 (aO .mod) gC QM) true) (aQ (bD false 7 (bM joinM (bC (.str "")) (aB (e_ 14 (lX (aB gF aP) jL) oM h_ (b2 getD dN (b2 (aO .mod) (b2 (aO .add) (b2 (aO .fdiv) gC QM) (b2 yM x_ (b2 (aO .add) dB (b2 (aO .mod) (b2 (aO .fdiv) gC aC3) aFe)))) m8)) false) aP)) true) (aQ (iZ false 8 (x2L (aO .mod) (cH aR 1 0 aP) (b2 (aO .add) gF eX))) (aQ (sIf (bTB (b2 (cC .eq) (b2 (aO .mod) cN gK) m7)) (bD false 7 (iB gG cP (cD G6)) true) fH) (aQ (bD true 9 (iI aP) true) (aQ (QR (lX (aB m8 aP) jL) (tg1 10) nb) g))))))))))) [.cel b (dk cs n),.uD,.uD,.uD,.uD,.uD,.uD,.uD,.uD,.uD,.uD,.uD,.uD,.uD]=R:=fun b R g hg=>by
  refine aF (ρ':=[.cel b (dk cs n),.str abc,.uD,.uD,.uD,.uD,.uD,.uD,.uD,.uD,.uD,.uD,.uD,.uD]) (bO (i:=1) rfl) ?_;refine aF (ρ':=[.cel b (dk cs (n+1)),.str abc,.int choice,.uD,.uD,.uD,.uD,.uD,.uD,.uD,.uD,.uD,.uD,.uD]) (j4 (i:=2) (tU q1 rfl rfl) rfl) ?_;refine aF (ρ':=[.cel b (dk cs (n+1)),.str abc,.int choice,.int turn,.uD,.uD,.uD,.uD,.uD,.uD,.uD,.uD,.uD,.uD]) (nZ (i:=3) (aJ rfl (aJ (aJ rfl rfl (cR _ _ (by decide) (by decide))) rfl (bV _ _ (by decide))) t1) rfl) ?_;refine aF (ρ':=[.cel b (dk cs (n+1)),.str abc,.int choice,.int turn,.int shift,.uD,.uD,.uD,.uD,.uD,.uD,.uD,.uD,.uD]) (bO (i:=4) (aJ (aJ rfl rfl (cR _ _ (by decide) (by decide))) rfl (bV _ _ (by decide)))) ?_;refine aF (ρ':=[.cel b (dk cs (n+2)),.str abc,.int choice,.int turn,.int shift,.int cell,.uD,.uD,.uD,.uD,.uD,.uD,.uD,.uD]) (j4 (i:=5) (tU q2 rfl rfl) rfl) ?_;refine aF (ρ':=[.cel b (dk cs (n+2)),.str abc,.int choice,.int turn,.int shift,.int cell,.int size,.uD,.uD,.uD,.uD,.uD,.uD,.uD]) (bO (i:=6) (aJ rfl rfl (bV _ _ (by decide)))) ?_;refine aF (ρ':=[.cel b (dk cs (n+2)),.str abc,.int choice,.int turn,.int shift,.int cell,.int size,.str (tx bcs),.uD,.uD,.uD,.uD,.uD,.uD]) (bO (i:=7) ?_) ?_
  ·have hc:=lK (n:=14) (it:=lX (aB gF aP) jL) (f:=b2 getD dN (b2 (aO .mod) (b2 (aO .add) (b2 (aO .fdiv) gC QM) (b2 yM x_ (b2 (aO .add) dB (b2 (aO .mod) (b2 (aO .fdiv) gC aC3) aFe)))) m8)) (k:=false) (ρ:=[.cel b (dk cs (n+2)),.str abc,.int choice,.int turn,.int shift,.int cell,.int size,.uD,.uD,.uD,.uD,.uD,.uD,.uD]) (fun k:Nat=>D.int (0+(k:Int))) (fun k:Nat=>.str (one (97+((cell / 8+(0+(k:Int))*(shift+cell / 40 % 5)) % 26).toNat))) (List.range size.toNat) rfl (sV (n:=size) (aD rfl rfl) (by lia) (by lia)) (by rw [List.length_range];lia) (fun k _=>⟨aJ (x:=.str abc) rfl (aJ (aJ (aJ (x:=.int cell) rfl rfl (cR _ _ (by decide) (by decide))) (aJ (x:=.int (0+(k:Int))) rfl (aJ (x:=.int shift) rfl (aJ (aJ (x:=.int cell) rfl rfl (cR _ _ (by decide) (by decide))) rfl (bV _ _ (by decide))) (d7 _ _)) (tQ _ _ (IW _ (by lia) (by lia)))) (d7 _ _)) rfl (bV _ _ (by decide))) (letter _ (by lia) (by lia)),rfl⟩);have hj:=aDd bcs (by lia);rw [List.map_map] at hj;exact ZF rfl (aD hc rfl) hj
  refine aF (ρ':=[.cel b (dk cs (n+3)),.str abc,.int choice,.int turn,.int shift,.int cell,.int size,.str (tx bcs),.int at_,.uD,.uD,.uD,.uD,.uD]) (j4 (i:=8) (UV (tU q3 rfl rfl) rfl (aJ (x:=.int size) rfl rfl (d7 _ _)) (bV _ _ (by lia)) rfl) rfl) ?_;refine aF (ρ':=[.cel b (dk cs (n+3)),.str abc,.int choice,.int turn,.int shift,.int cell,.int size,.str base,.int at_,.uD,.uD,.uD,.uD,.uD]) ?_ ?_
  ·by_cases h2:choice % 3=2
   ·have eb:base=Txt.slice (tx bcs) none (some 6):=hbe.trans (if_pos h2);rw [eb];exact qM (dG (aJ (aJ rfl rfl (bV _ _ (by decide))) rfl ((eU _ _).trans (by rw [h2];rfl)))) (bO (i:=7) (p8 (x:=tx bcs) rfl rfl (fL rfl) (by rw [dI];lia)))
   ·have eb:base=tx bcs:=hbe.trans (if_neg h2);rw [eb];exact lU (dG (aJ (aJ rfl rfl (bV _ _ (by decide))) rfl ((eU _ _).trans (by rw [beq_eq_false_iff_ne.mpr h2])))) rfl
  refine aF (ρ':=ns (.cel b (dk cs (n+3))) choice turn shift cell size base at_ [] .uD .uD .uD .uD) (fY (i:=9) rfl rfl) ?_;refine aF (yP (sV (n:=26) (aD rfl rfl) (by decide) (by decide)) ?_) hg;have e:=L (.cel b (dk cs (n+3)));rw [List.nil_append] at e;rw [List.map_map];exact e
 generalize hN0:((List.range' 0 26).map fun k=>tx (nm (sp k)))=N0 at pre;have l0:N0.length=26:=by rw [<-hN0,List.length_map];rfl
 have n0:N0.Nodup:=hN0▸nod tx fun _ _ e=>tR e
 have nm0:∀x∈N0,Nm x:=fun x hx=>by
  rw [<-hN0,List.mem_map] at hx;obtain ⟨k,_,rfl⟩:=hx;refine ⟨?_,by rw [dI];exact M.l8 _ (spl k),M.sm _ (spl k)⟩;rw [dI];exact List.length_pos_iff.mpr (M.pos _)
 have nm7:("copy" : Str)∈N0\/("drop" : Str)∈N0->∀x∈N0,x.length<=7:=fun h x hx=>by
  rw [<-hN0,List.mem_map] at hx;obtain ⟨k,_,rfl⟩:=hx;rw [dI];rw [<-hN0,List.mem_map,List.mem_map] at h;rcases h with ⟨j,_,e⟩|⟨j,_,e⟩
  ·exact M.l7 _ (spl j) (.inl (tR (e.trans (show ("copy" : Str)=tx [99,111,112,121] from rfl)))) _ (spl k)
  ·exact M.l7 _ (spl j) (.inr (tR (e.trans (show ("drop" : Str)=tx [100,114,111,112] from rfl)))) _ (spl k)
 have tl:∀x∈N0,x.length<=100:=fun x hx=>by
  rw [<-hN0,List.mem_map] at hx;obtain ⟨k,_,rfl⟩:=hx;rw [dI];exact M.len _ (spl k)
 have cond:∀(hD:D),(bOr (bTB (b2 inX (bC (.str "copy")) pM)) (bTB (b2 inX (bC (.str "drop")) pM))) (ns hD choice turn shift cell size base at_ (N0.map D.str) a' b' c' d')=.ok (decide (("copy" : Str)∈N0)||decide (("drop" : Str)∈N0)):=fun hD=>aDf (dG (aJ rfl rfl (in_str _ _))) (dG (aJ rfl rfl (in_str _ _)))
 have fin:∀(b:Nat) (N:List Str),(yE 9) (ns (.cel b (dk cs (n+3))) choice turn shift cell size base at_ (N.map D.str) a' b' c' d')=.ok (.rt (.tup (.lst (N.map D.str)::ns (.cel b (dk cs (n+3))) choice turn shift cell size base at_ (N.map D.str) a' b' c' d'))):=fun b N=>Y9 rfl rfl
 by_cases hc:(decide (("copy" : Str)∈N0)||decide (("drop" : Str)∈N0))=true
 ·refine ⟨N0.map fun x=>x++("e" : Str),by rw [List.length_map,l0],?_,⟨fun h=>?_,fun h=>?_,fun _ h=>?_⟩,fun b=>?_⟩
  ·rw [<-hN0,List.map_map];exact nod (fun a=>tx a++("e" : Str)) aJl
  ·obtain ⟨x,_,e⟩:=List.mem_map.mp h;exact (aGy x).1 e
  ·obtain ⟨x,_,e⟩:=List.mem_map.mp h;exact (aGy x).2.1 e
  ·obtain ⟨x,hx,e⟩:=List.mem_map.mp h;subst e;obtain ⟨a1,a2,a3⟩:=nm0 x hx;have a7:=nm7 (by rw [Bool.or_eq_true,decide_eq_true_eq,decide_eq_true_eq] at hc;exact hc) x hx;have ex:x++("e" : Str)=tx (x.cps.toList++[101]):=by
    have e:("e" : Str)=tx [101]:=rfl;rw [<-U4 x,e,nP];rfl
   have lx:x.cps.toList.length=x.length:=rfl;rw [ex];refine ⟨by rw [dI,List.length_append,List.length_singleton];lia,by rw [dI,List.length_append,List.length_singleton];lia,fun c hc=>?_⟩;rcases List.mem_append.mp (show c∈x.cps.toList++[101] from hc) with g|g
   ·exact a3 c g
   ·rw [List.mem_singleton] at g;lia
  ·refine zR (k:=1) (ρ:=ns (.cel b (dk cs (n+3))) choice turn shift cell size base at_ ((N0.map fun x=>x++("e" : Str)).map D.str) a' b' c' d') (pre b _ _ (aF (qM ((cond _).trans (by rw [hc])) (fY (i:=9) (d:=.lst ((N0.map fun x=>x++("e" : Str)).map D.str)) ?_ (kW _))) (fin b _)));rw [List.map_map];exact lK (n:=14) D.str (fun x=>D.str (x++("e" : Str))) N0 rfl (jD rfl) (by lia) (fun x hx=>⟨aJ rfl rfl (jX _ _ (by have:=tl x hx;rw [a_];show x.length+1<=_;lia)),rfl⟩)
 ·refine ⟨N0,l0,n0,⟨fun h=>hc (by rw [decide_eq_true h];rfl),fun h=>hc (by rw [decide_eq_true h,Bool.or_true]),nm0⟩,fun b=>?_⟩;exact zR (k:=1) (ρ:=ns (.cel b (dk cs (n+3))) choice turn shift cell size base at_ (N0.map D.str) a' b' c' d') (pre b _ _ (aF (lU ((cond _).trans (by rw [Bool.eq_false_iff.mpr hc])) rfl) (fin b _)))
theorem ZJ (cs:List Int) (n:Nat) (hn:n+3<=100000):∃N:List Str,N.length=26/\N.Nodup/\(¬("copy" : Str)∈N/\¬("drop" : Str)∈N/\∀x∈N,Nm x)/\ch1 eQ (dk cs n) []=.ok (.lst (N.map D.str),dk cs (n+3)):=by
 obtain ⟨N,h1,h2,h4,h3⟩:=ZG cs n hn;exact ⟨N,h1,h2,h4,JC h3⟩
end Lk46
end
section
namespace Lk46
open PySem L2 Mi
theorem U7 (n d a:Nat):aA8 n d (some (a:Int))=min a n:=by
 show (if (a:Int)<0 then (max ((a:Int)+(n:Int)) 0).toNat else (min (a:Int) (n:Int)).toNat)=_;rw [if_neg (by lia)];lia
theorem JX (n d:Nat):aA8 n d none=d:=rfl
theorem JZ {α:Type} (xs:List α) (a:Nat):cutD xs none (some (a:Int))=xs.take a:=by
 unfold cutD;rw [U7,JX,List.drop_zero,Nat.sub_zero];by_cases h:a<=xs.length
 ·rw [Nat.min_eq_left h]
 ·rw [Nat.min_eq_right (by lia),List.take_of_length_le (Nat.le_refl _),List.take_of_length_le (by lia)]
theorem wR {α:Type} (xs:List α) (a:Nat):cutD xs (some (a:Int)) none=xs.drop a:=by
 unfold cutD;rw [U7,JX];by_cases h:a<=xs.length
 ·rw [Nat.min_eq_left h,List.take_of_length_le (by rw [List.length_drop];exact Nat.le_refl _)]
 ·rw [Nat.min_eq_right (by lia),List.drop_eq_nil_of_le (Nat.le_refl _),List.drop_eq_nil_of_le (by lia),List.take_nil]
def sy (N:List Str) (i:Nat):D:=.str (N.getD i "")
theorem aGz (N:List Str) (h:N.length=26):N.map D.str=(List.range 26).map (sy N):=by
 apply List.ext_getElem
 ·simp [h]
 ·intro i h1 h2;rw [List.getElem_map,List.getElem_map,List.getElem_range];have h1':i<N.length:=by rw [List.length_map] at h1;exact h1
  show D.str (N[i]'h1')=D.str (N.getD i "");rw [List.getD_eq_getElem?_getD,List.getElem?_eq_getElem h1'];rfl
theorem zW {N:List Str} (h:N.length=26) (hN:N.Nodup) {i j:Nat} (hi:i<26) (hj:j<26):eqD (sy N i) (sy N j)=decide (i=j):=by
 show ((N.getD i "")==(N.getD j ""))=_;have hi':i<N.length:=by lia
 have hj':j<N.length:=by lia
 rw [List.getD_eq_getElem?_getD,List.getD_eq_getElem?_getD,List.getElem?_eq_getElem hi',List.getElem?_eq_getElem hj'];show (N[i]==N[j])=_;by_cases e:i=j
 ·subst e;simp
 ·have:¬N[i]=N[j]:=fun g=>e ((List.getElem_inj hN).mp g)
  simp [e,this]
theorem cT (N:List Str):∀l:List Nat,D.aW (l.map (sy N))=true
 | []=>rfl
 | i::l=>by
  rw [List.map_cons,D.aW,cT N l];rfl
theorem pH (N:List Str) (n:Nat):∀l:List Nat,D.cW n (l.map (sy N))=true
 | []=>by rw [List.map_nil,D.cW]
 | x::l=>by
  rw [List.map_cons,D.cW,pH N n l];unfold sy;rw [D.b8] <;> simp
theorem qD (N:List Str) (i:Nat):(sy N i).b8 aZ=true:=wQ _
theorem aAy {N:List Str} (h:N.length=26) (hN:N.Nodup) {i:Nat} (hi:i<26):∀l:List Nat,(∀j∈l,j<26)->(l.map (sy N)).any (fun y=>eqD y (sy N i))=decide (i∈l)
 | [],_=>rfl
 | j::l,hl=>by
  rw [List.map_cons,List.any_cons,aAy h hN hi l fun k hk=>hl k (List.mem_cons_of_mem _ hk),zW h hN (hl j (List.mem_cons_self ..)) hi];by_cases e:j=i
  ·simp [e]
  ·have e2:¬i=j:=fun g=>e g.symm
   simp [e,e2]
theorem qF {α:Type} {f:α->D} {l:List α} {i:Nat} {a:α} {x:Int} (hx:x=i) (h:l[i]?=some a):getD (.lst (l.map f)) (.int x)=.ok (f a):=by
 subst hx;obtain ⟨hi,e⟩:=List.getElem?_eq_some_iff.mp h;show Res.ofOpt ((ixD (l.map f).length (i:Int)).bind fun j=>(l.map f)[j]?)=_;unfold ixD;rw [if_pos (by lia),List.length_map,if_pos (by lia)];simp [h]
theorem rF {α:Type} {f:α->D} {l:List α} {i:Nat} {a:α} {x:Int} (hx:x=i) (h:l[i]?=some a):getD (.tup (l.map f)) (.int x)=.ok (f a):=qF hx h
theorem eV {f:Nat->D} {n i:Nat} {x:Int} (hx:x=i) (hi:i<n):getD (.lst ((List.range n).map f)) (.int x)=.ok (f i):=qF hx (by rw [List.getElem?_range hi])
abbrev Rw:=Nat×Nat×List Nat
abbrev Tk:=Nat×Nat×Nat×List Nat
noncomputable def rwD (N:List Str) (r:Rw):D:=.tup [sy N r.1,sy N r.2.1,.tup (r.2.2.map (sy N))]
noncomputable def tkD (N:List Str) (r:Tk):D:=.tup [sy N r.1,sy N r.2.1,sy N r.2.2.1,.tup (r.2.2.2.map (sy N))]
theorem fM (N:List Str) (r:Rw):(rwD N r).pure=true:=by
 show ((sy N r.1).pure&&((sy N r.2.1).pure&&((D.tup (r.2.2.map (sy N))).pure&&true)))=true;rw [D.pure,cT];rfl
theorem GC (N:List Str) (r:Tk):(tkD N r).pure=true:=by
 show ((sy N r.1).pure&&((sy N r.2.1).pure&&((sy N r.2.2.1).pure&&((D.tup (r.2.2.2.map (sy N))).pure&&true))))=true;rw [D.pure,cT];rfl
theorem dJ {α:Type} {f:α->D} (h:∀a,(f a).pure=true):∀l:List α,D.aW (l.map f)=true
 | []=>rfl
 | x::l=>by
  rw [List.map_cons,D.aW,h,dJ h l];rfl
theorem mU {a:FE} {lo hi:List D->Res (Option Int)} {ρ xs:List D} {l h:Option Int} (h1:a ρ=.ok (.lst xs)) (h2:lo ρ=.ok l) (h3:hi ρ=.ok h) (hx:D.aW xs=true):iB a lo hi ρ=.ok (.lst (cutD xs l h)):=by
 unfold iB;rw [h1,Res.aK,h2,Res.aK,h3,Res.aK];show (if D.aW xs then Res.ok (D.lst (cutD xs l h)) else .bad)=_;rw [if_pos hx]
theorem zX {g:D->Res D} {f:FE} {ρ:List D} {x y:D} (h:f ρ=.ok x) (h2:g x=.ok y):b1 g f ρ=.ok y:=by
 unfold b1;rw [h];exact h2
theorem ZK (a b c d:Str) (i:Int) (h0:0<=i) (h1:i<4):∃x,getD (.lst [.str a,.str b,.str c,.str d]) (.int i)=.ok (.str x)/\(x=a\/x=b\/x=c\/x=d):=by
 have:i=0\/i=1\/i=2\/i=3:=by lia
 rcases this with h|h|h|h <;> subst h
 ·exact ⟨a,rfl,by simp⟩
 ·exact ⟨b,rfl,by simp⟩
 ·exact ⟨c,rfl,by simp⟩
 ·exact ⟨d,rfl,by simp⟩
theorem U8 (x:Str) (N:List Str):cC .notin (.str x) (.lst (N.map D.str))=.ok (.bl (!decide (x∈N))):=by
 show (if (D.str x).b8 aZ&&D.cW aZ (N.map D.str) then Res.ok (D.bl (!(N.map D.str).any fun y=>eqD y (.str x))) else .bad)=_;rw [wQ,tW,FZ];rfl
theorem U9 {N:List Str} (h:N.Nodup) {i:Nat} {x:Str} (hx:¬x∈N):(N.set i x).Nodup:=by
 rw [List.nodup_iff_pairwise_ne,List.pairwise_iff_getElem] at h ⊢;intro a b ha hb hab;rw [List.length_set] at ha hb;have h1:=h a b ha hb hab;rw [List.getElem_set,List.getElem_set];split
 ·split
  ·lia
  ·exact fun e=>hx (e▸List.getElem_mem hb)
 ·split
  ·exact fun e=>hx (e▸List.getElem_mem ha)
  ·exact h1
structure Nms (N:List Str):Prop where
 len:N.length=26
 nd:N.Nodup
 nc:¬("copy" : Str)∈N
 nr:¬("drop" : Str)∈N
 nm:∀x∈N,Nm x
theorem U_ {N:List Str} (H:Nms N) (c:Int):∃N',Nms N'/\chR d8 3 (N.map D.str) [.int c]=.ok (N'.map D.str):=by
 obtain ⟨x,g1,g2⟩:=ZK "kind" "maker" "taker" "rule" (c / 4 % 4) (by lia) (by lia);have s0:∀b:Nat,bD false 2 (b2 getD (iI (aB (bC (.str "kind")) (aB (bC (.str "maker")) (aB (bC (.str "taker")) (aB (bC (.str "rule")) aP))))) (b2 (aO .mod) (b2 (aO .fdiv) dN rC) rC)) false [.cel b (N.map D.str),.int c,.uD]=.ok (.nx [.cel b (N.map D.str),.int c,.str x]):=fun b=>nZ (i:=2) (aJ rfl (aJ (aJ rfl rfl (cR _ _ (by decide) (by decide))) rfl (bV _ _ (by decide))) g1) rfl
 have ci:∀b:Nat,bTB (b2 (cC .notin) cN (bLs 0)) [.cel b (N.map D.str),.int c,.str x]=.ok (!decide (x∈N)):=fun b=>dG (aJ rfl rfl (U8 x N))
 have c1:∀b:Nat,bTB (b2 (cC .eq) (b2 (aO .mod) dN rC) eX) [.cel b (N.map D.str),.int c,.str x]=.ok (c % 4==1):=fun b=>dG (aJ (aJ rfl rfl (bV _ _ (by decide))) rfl (eU _ _))
 by_cases h1:c % 4=1
 ·by_cases h2:x∈N
  ·refine ⟨N,H,SN (kW N) fun b=>⟨_,aF (s0 b) (lU (sU ((c1 b).trans (by rw [h1];rfl)) ((ci b).trans (by rw [decide_eq_true h2];rfl))) rfl),rfl⟩⟩
  ·let i:Nat:=(3+c / 16 % 15).toNat
   have hi:(i:Int)=3+c / 16 % 15:=by show (((3+c / 16 % 15).toNat:Nat):Int)=_;lia
   have hx:x ≠ "copy"/\x ≠ "drop":=by
    rcases g2 with e|e|e|e <;> subst e <;> decide +kernel
   have hxn:Nm x:=by
    unfold Nm;rcases g2 with e|e|e|e <;> subst e <;> decide +kernel
   have mem:∀y,y∈N.set i x->y∈N\/y=x:=fun y hy=>List.mem_or_eq_of_mem_set hy
   refine ⟨N.set i x,⟨by rw [List.length_set];exact H.len,U9 H.nd h2,fun h=>?_,fun h=>?_,fun y hy=>?_⟩,SN (kW _) fun b=>⟨_,aF (s0 b) (qM (sU ((c1 b).trans (by rw [h1];rfl)) ((ci b).trans (by rw [decide_eq_false h2];rfl))) (FQ (i:=0) (xs:=N.map D.str) (k:=3+c / 16 % 15) (j:=i) (d:=.str x) rfl (aJ rfl (aJ (aJ rfl rfl (cR _ _ (by decide) (by decide))) rfl (bV _ _ (by decide))) (d7 _ _)) rfl rfl ?_ rfl)),?_⟩⟩
   ·rcases mem _ h with e|e
    ·exact H.nc e
    ·exact hx.1 e.symm
   ·rcases mem _ h with e|e
    ·exact H.nr e
    ·exact hx.2 e.symm
   ·rcases mem _ hy with e|e
    ·exact H.nm y e
    ·exact e▸hxn
   ·unfold ixD;rw [if_pos (by lia),if_pos (by rw [List.length_map,H.len];lia)]
   ·rw [<-List.map_set];rfl
 ·refine ⟨N,H,SN (kW N) fun b=>⟨_,aF (s0 b) (lU (MK ((c1 b).trans (by rw [beq_eq_false_iff_ne.mpr h1]))) rfl),rfl⟩⟩
end Lk46
end
section
namespace Lk46
open PySem L2 Mi
noncomputable def mkb:FS:=(aQ (iZ false 7 (cH aR 1 0 aP)) (aQ (bD false 8 (e_ 12 (lX (aB (b2 (aO .mod) (b2 (aO .fdiv) gG gK) rC) aP) jL) oM h_ (b2 getD dB (b2 (aO .mod) (b2 (aO .fdiv) gG (b2 getD (iI (aB yD (aB (bC (.int 36)) (aB (bC (.int 108)) aP)))) gD)) dH)) false) true) (uF 5 (lO (aB (b2 getD dN (b2 (aO .add) (b2 (aO .add) gK dH) gF)) (aB (b2 getD dB (b2 (aO .mod) gG dH)) (aB (aU g_ (aB j7 aP)) aP)))))))
noncomputable def tkb:FS:=(aQ (iZ false 7 (cH aR 1 0 aP)) (aQ (bD false 11 (e_ 12 (lX (aB (b2 (aO .mod) (b2 (aO .fdiv) gG XF) gK) aP) jL) oM h_ (b2 getD dB (b2 (aO .mod) (b2 (aO .fdiv) gG (b2 getD (iI (aB (bC (.int 27)) (aB (bC (.int 81)) aP))) gD)) dH)) false) true) (uF 10 (lO (aB (b2 getD dN (b2 (aO .add) aC2 gF)) (aB (b2 getD dB (b2 (aO .mod) gG dH)) (aB (b2 getD dB (b2 (aO .mod) (b2 (aO .fdiv) gG gK) dH)) (aB (aU g_ (aB jR aP)) aP))))))))
def sg0:FS:=(iZ false 2 (cH aR 1 0 aP))
def sg1:FS:=(bD false 3 (b2 (aO .add) eX (b2 (aO .mod) cN gK)) true)
def sg2:FS:=(bD true 4 (iB dN cP (cD dH)) true)
noncomputable def sg3:FS:=(bD true 5 (e_ 12 (lX (aB dH aP) jL) oM h_ (lO (aB (b2 getD dN (b2 (aO .add) gK gD)) (aB (b2 getD dB gD) (aB (lO aP) aP)))) false) true)
noncomputable def sg4:FS:=(QR (lX (aB (b2 (aO .mod) (b2 (aO .fdiv) cN gK) rC) aP) jL) (tg1 6) mkb)
noncomputable def sg5:FS:=(bD false 9 (b2 (aO .mod) (b2 (aO .fdiv) cN yD) (aU eY (aB gC aP))) true)
def sg6:FS:=(bD true 10 (iI aP) true)
noncomputable def sg7:FS:=(R5 (aG8 (x2L (aO .mod) (cH aR 1 0 aP) rC)) (tg1 6) tkb)
noncomputable def sg8:FS:=(vA (aB (bOw 4) (aB (b2 (aO .add) (iB gC (cD pM) cP) (iB gC cP (cD pM))) (aB (bOw 10) aP))))
noncomputable def sgA:FS:=(uF 5 (lO (aB (b2 getD dN XF) (aB (b2 getD dB gY) (aB (lO (aB (b2 getD dB gY) aP)) aP)))))
theorem aDi:pY=(aQ sg0 (aQ sg1 (aQ sg2 (aQ sg3 (aQ sg4 (aQ sgA (aQ sg5 (aQ sg6 (aQ sg7 sg8))))))))):=rfl
noncomputable abbrev ss (hD:D) (N:List Str) (cell:Int) (m:Nat) (M:List Rw) (a b c d e f:D):List D:=[hD,.lst ((List.range 26).map (sy N)),.int cell,.int m,.lst ((List.range m).map (sy N)),.lst (M.map (rwD N)),a,b,c,d,e,f]
def mk0 (m:Nat):List Rw:=(List.range m).map fun k=>(3+k,k,[])
section
variable {cs:List Int} {N:List Str}
theorem aDj (f:Nat->D) (n a:Nat) (h:a<=n):cutD ((List.range n).map f) none (some (a:Int))=(List.range a).map f:=by
 rw [JZ,<-List.map_take,List.take_range,Nat.min_eq_left h]
theorem aH0 {hD:D} {cell:Int} {m:Nat} (hm:m<=26) (a b c d e f g h:D):sg2 [hD,.lst ((List.range 26).map (sy N)),.int cell,.int m,a,b,c,d,e,f,g,h]=.ok (.nx [hD,.lst ((List.range 26).map (sy N)),.int cell,.int m,.lst ((List.range m).map (sy N)),b,c,d,e,f,g,h]):=
 fY (i:=4) (d:=.lst ((List.range m).map (sy N))) (by rw [<-aDj (sy N) 26 m hm];exact mU rfl rfl (fL rfl) (cT ..)) (cT ..)
theorem aH1 {hD:D} {cell:Int} {m:Nat} (hm:m<=3) (b c d e f g h:D):sg3 [hD,.lst ((List.range 26).map (sy N)),.int cell,.int m,.lst ((List.range m).map (sy N)),b,c,d,e,f,g,h]=.ok (.nx [hD,.lst ((List.range 26).map (sy N)),.int cell,.int m,.lst ((List.range m).map (sy N)),.lst ((mk0 m).map (rwD N)),c,d,e,f,g,h]):=by
 refine fY (i:=5) (d:=.lst ((mk0 m).map (rwD N))) ?_ (dJ (fM N) _);unfold mk0;rw [List.map_map];refine lK (n:=12) (fun k:Nat=>D.int (0+(k:Int))) _ (List.range m) rfl (sV (n:=(m:Int)) (aD rfl rfl) (by lia) (by lia)) (by rw [List.length_range];lia) fun k hk=>?_
 rw [List.mem_range] at hk;exact ⟨iT (aD (aJ rfl (aJ rfl rfl (d7 _ _)) (eV (i:=3+k) (by lia) (by lia))) (aD (aJ rfl rfl (eV (i:=k) (by lia) hk)) (aD (iT (xs:=[]) rfl (by rw [a_];simp)) rfl))) (by rw [a_];simp),rfl⟩
end
def Gr (m:Nat) (r:Rw):Prop:=r.2.1<m/\(∀i∈r.2.2,i<m)/\r.2.2.length<=3
noncomputable def Gt (m:Nat) (t:Tk):Prop:=t.2.1<m/\t.2.2.1<m/\(∀i∈t.2.2.2,i<m)/\t.2.2.2.length<=2
noncomputable def w3:Nat->Int
 | 0=>12
 | 1=>36
 | _=>108
noncomputable def w2:Nat->Int
 | 0=>27
 | _=>81
theorem aH2 {j:Nat} (h:j<3):getD (.lst [.int 12,.int 36,.int 108]) (.int (0+(j:Int)))=.ok (.int (w3 j)):=by
 have:j=0\/j=1\/j=2:=by lia
 rcases this with e|e|e <;> subst e <;> rfl
theorem aAz (j:Nat):0<w3 j/\w3 j<1073741824:=by
 unfold w3;split <;> decide
theorem aH3 {j:Nat} (h:j<2):getD (.lst [.int 27,.int 81]) (.int (0+(j:Int)))=.ok (.int (w2 j)):=by
 have:j=0\/j=1:=by lia
 rcases this with e|e <;> subst e <;> rfl
theorem aB0 (j:Nat):0<w2 j/\w2 j<1073741824:=by
 unfold w2;split <;> decide
section
variable {cs:List Int} {N:List Str}
theorem kix {m:Nat} (h1:1<=m) (v:Int):∃i:Nat,i<m/\v % (m:Int)=i:=by
 have a:0<=v % (m:Int):=Int.emod_nonneg _ (by lia);have b:v % (m:Int)<m:=Int.emod_lt_of_pos _ (by lia);exact ⟨(v % (m:Int)).toNat,by lia,by lia⟩
theorem aH4 {cell:Int} {m n j:Nat} {M:List Rw} (hn:n<=1000) (h1:1<=m) (hm:m<=3) (hj:j<3) (hM:M.length<100) (x o d e f:D) :
  ∃(r:Rw) (x' o':D),Gr m r/\r.1=3+m+j/\∀b,mkb (ss (.cel b (dk cs n)) N cell m M (.int (0+(j:Int))) o x d e f)=.ok (.nx (ss (.cel b (dk cs (n+1))) N cell m (M++[r]) (.int (0+(j:Int))) o' x' d e f)):=by
 obtain ⟨v,qv⟩:=jH cs n (by lia);obtain ⟨k,k1,k2⟩:=kix h1 v
 let ix:Nat->Nat:=fun j=>((v / w3 j) % (m:Int)).toNat
 have ixm:∀j,ix j<m/\(v / w3 j) % (m:Int)=ix j:=fun j=>by
  obtain ⟨i,i1,i2⟩:=kix h1 (v / w3 j);have:ix j=i:=by show ((v / w3 j) % (m:Int)).toNat=i;lia
  exact ⟨by lia,by lia⟩
 let c:Nat:=(v / 3 % 4).toNat
 have hc:(c:Int)=v / 3 % 4:=by show (((v / 3 % 4).toNat:Nat):Int)=_;lia
 have c4:c<=3:=by lia
 let B:List Nat:=(List.range c).map ix
 have lB:B.length<=3:=by show ((List.range c).map ix).length<=3;rw [List.length_map,List.length_range];exact c4
 have mB:∀i∈B,i<m:=fun i hi=>by obtain ⟨a,_,rfl⟩:=List.mem_map.mp hi;exact (ixm a).1
 refine ⟨(3+m+j,k,B),.lst (B.map (sy N)),.int v,⟨k1,mB,lB⟩,rfl,fun b=>?_⟩;refine aF (ρ':=ss (.cel b (dk cs (n+1))) N cell m M (.int (0+(j:Int))) (.int v) x d e f) (j4 (i:=7) (tU qv rfl rfl) rfl) ?_;refine aF (ρ':=ss (.cel b (dk cs (n+1))) N cell m M (.int (0+(j:Int))) (.int v) (.lst (B.map (sy N))) d e f) (bO (i:=8) ?_) ?_
 ·show _=Res.ok (D.lst (((List.range c).map ix).map (sy N)));rw [List.map_map];refine lK (n:=12) (fun k:Nat=>D.int (0+(k:Int))) (fun j=>sy N (ix j)) (List.range c) rfl (sV (n:=(c:Int)) (aD (aJ (aJ (x:=.int v) rfl rfl (cR _ _ (by decide) (by decide))) rfl ((bV _ _ (by decide)).trans (by rw [hc]))) rfl) (by lia) (by lia)) (by rw [List.length_range];lia) fun a ha=>?_
  rw [List.mem_range] at ha;exact ⟨aJ (x:=.lst ((List.range m).map (sy N))) rfl (aJ (aJ (x:=.int v) rfl (aJ rfl rfl (aH2 (by lia))) (cR _ _ (aAz a).1 (aAz a).2)) (y:=.int m) rfl (bV _ _ (by lia))) (eV (ixm a).2 (ixm a).1),rfl⟩
 have hrow:∀ρ:List D,cL 1 ρ=.ok (.lst ((List.range 26).map (sy N)))->cL 3 ρ=.ok (.int m)->cL 4 ρ=.ok (.lst ((List.range m).map (sy N)))->cL 8 ρ=.ok (.lst (B.map (sy N)))->cL 6 ρ=.ok (.int (0+(j:Int)))->cL 7 ρ=.ok (.int v)->lO (aB (b2 getD dN (b2 (aO .add) (b2 (aO .add) gK dH) gF)) (aB (b2 getD dB (b2 (aO .mod) gG dH)) (aB (aU g_ (aB j7 aP)) aP))) ρ=.ok (rwD N (3+m+j,k,B)):=fun ρ g1 g3 g4 g7 g8 g9=>iT (aD (aJ g1 (aJ (aJ rfl g3 (d7 _ _)) g8 (d7 _ _)) (eV (i:=3+m+j) (by lia) (by lia))) (aD (aJ g4 (aJ g9 g3 (bV _ _ (by lia))) (eV k2 k1)) (aD (bF (aD g7 rfl) rfl) rfl))) (by rw [a_];simp)
 have ha:=o7 (i:=5) (ρ:=ss (.cel b (dk cs (n+1))) N cell m M (.int (0+(j:Int))) (.int v) (.lst (B.map (sy N))) d e f) (xs:=M.map (rwD N)) (hrow _ rfl rfl rfl rfl rfl rfl) rfl (by rw [List.length_map,a_];lia) (fM ..);refine ha.trans ?_;unfold ss;rw [List.map_append];rfl
theorem VB {cell:Int} {m:Nat} (h1:1<=m) (hm:m<=3):∀(c j n:Nat) (M:List Rw) (x k o d e f:D),n+c<=1000->j+c<=3->M.length+c<100->
  ∃(E:List Rw) (x' k' o':D),(∀r∈E,Gr m r)/\E.map (·.1)=(List.range' (3+m+j) c)/\∀b,nC (tg1 6) mkb ((List.range' j c).map fun (k:Nat)=>D.int (0+(k:Int))) (ss (.cel b (dk cs n)) N cell m M k o x d e f)=.ok (.nx (ss (.cel b (dk cs (n+c))) N cell m (M++E) k' o' x' d e f))
 | 0,j,n,M,x,k,o,d,e,f,_,_,_=>⟨[],x,k,o,fun _ h=>by simp at h,rfl,fun b=>by rw [List.append_nil];rfl⟩
 | c+1,j,n,M,x,k,o,d,e,f,g1,g2,g3=>by
  obtain ⟨r,x1,o1,r1,r2,r3⟩:=aH4 (cs:=cs) (N:=N) (cell:=cell) (m:=m) (n:=n) (j:=j) (M:=M) (by lia) h1 hm (by lia) (by lia) x o d e f;obtain ⟨E,x2,k2,o2,e1,e2,e3⟩:=VB h1 hm c (j+1) (n+1) (M++[r]) x1 (.int (0+(j:Int))) o1 d e f (by lia) (by lia) (by rw [List.length_append,List.length_singleton];lia);refine ⟨r::E,x2,k2,o2,fun y hy=>?_,?_,fun b=>?_⟩
  ·rcases List.mem_cons.mp hy with h|h
   ·exact h▸r1
   ·exact e1 y h
  ·rw [List.map_cons,List.range'_succ,r2,e2];rfl
  ·rw [List.range'_succ,List.map_cons];refine fZ (ρ1:=ss (.cel b (dk cs n)) N cell m M (.int (0+(j:Int))) o x d e f) rfl (r3 b) ?_;rw [e3 b,List.append_assoc,show n+1+c=n+(c+1) from by lia];rfl
theorem aH5 {cell:Int} {m n j:Nat} {M:List Rw} {T:List Tk} (hn:n<=1000) (h1:1<=m) (hm:m<=3) (hj:j<3) (hT:T.length<100) (x o d f:D) :
  ∃(r:Tk) (o' f':D),Gt m r/\r.1=10+j/\∀b,tkb (ss (.cel b (dk cs n)) N cell m M (.int (0+(j:Int))) o x d (.lst (T.map (tkD N))) f)=.ok (.nx (ss (.cel b (dk cs (n+1))) N cell m M (.int (0+(j:Int))) o' x d (.lst ((T++[r]).map (tkD N))) f')):=by
 obtain ⟨v,qv⟩:=jH cs n (by lia);obtain ⟨k,k1,k2⟩:=kix h1 v;obtain ⟨p,p1,p2⟩:=kix h1 (v / 3)
 let ix:Nat->Nat:=fun j=>((v / w2 j) % (m:Int)).toNat
 have ixm:∀j,ix j<m/\(v / w2 j) % (m:Int)=ix j:=fun j=>by
  obtain ⟨i,i1,i2⟩:=kix h1 (v / w2 j);have:ix j=i:=by show ((v / w2 j) % (m:Int)).toNat=i;lia
  exact ⟨by lia,by lia⟩
 let c:Nat:=(v / 9 % 3).toNat
 have hc:(c:Int)=v / 9 % 3:=by show (((v / 9 % 3).toNat:Nat):Int)=_;lia
 have c4:c<=2:=by lia
 let B:List Nat:=(List.range c).map ix
 have lB:B.length<=2:=by show ((List.range c).map ix).length<=2;rw [List.length_map,List.length_range];exact c4
 have mB:∀i∈B,i<m:=fun i hi=>by obtain ⟨a,_,rfl⟩:=List.mem_map.mp hi;exact (ixm a).1
 refine ⟨(10+j,k,p,B),.int v,.lst (B.map (sy N)),⟨k1,p1,mB,lB⟩,rfl,fun b=>?_⟩;refine aF (ρ':=ss (.cel b (dk cs (n+1))) N cell m M (.int (0+(j:Int))) (.int v) x d (.lst (T.map (tkD N))) f) (j4 (i:=7) (tU qv rfl rfl) rfl) ?_;refine aF (ρ':=ss (.cel b (dk cs (n+1))) N cell m M (.int (0+(j:Int))) (.int v) x d (.lst (T.map (tkD N))) (.lst (B.map (sy N)))) (bO (i:=11) ?_) ?_
 ·show _=Res.ok (D.lst (((List.range c).map ix).map (sy N)));rw [List.map_map];refine lK (n:=12) (fun k:Nat=>D.int (0+(k:Int))) (fun j=>sy N (ix j)) (List.range c) rfl (sV (n:=(c:Int)) (aD (aJ (aJ (x:=.int v) rfl rfl (cR _ _ (by decide) (by decide))) rfl ((bV _ _ (by decide)).trans (by rw [hc]))) rfl) (by lia) (by lia)) (by rw [List.length_range];lia) fun a ha=>?_
  rw [List.mem_range] at ha;exact ⟨aJ (x:=.lst ((List.range m).map (sy N))) rfl (aJ (aJ (x:=.int v) rfl (aJ rfl rfl (aH3 (by lia))) (cR _ _ (aB0 a).1 (aB0 a).2)) (y:=.int m) rfl (bV _ _ (by lia))) (eV (ixm a).2 (ixm a).1),rfl⟩
 have hrow:∀ρ:List D,cL 1 ρ=.ok (.lst ((List.range 26).map (sy N)))->cL 3 ρ=.ok (.int m)->cL 4 ρ=.ok (.lst ((List.range m).map (sy N)))->cL 11 ρ=.ok (.lst (B.map (sy N)))->cL 6 ρ=.ok (.int (0+(j:Int)))->cL 7 ρ=.ok (.int v)->lO (aB (b2 getD dN (b2 (aO .add) aC2 gF)) (aB (b2 getD dB (b2 (aO .mod) gG dH)) (aB (b2 getD dB (b2 (aO .mod) (b2 (aO .fdiv) gG gK) dH)) (aB (aU g_ (aB jR aP)) aP)))) ρ=.ok (tkD N (10+j,k,p,B)):=fun ρ g1 g3 g4 g7 g8 g9=>iT (aD (aJ g1 (aJ rfl g8 (d7 _ _)) (eV (i:=10+j) (by lia) (by lia))) (aD (aJ g4 (aJ g9 g3 (bV _ _ (by lia))) (eV k2 k1)) (aD (aJ g4 (aJ (aJ g9 rfl (cR _ _ (by decide) (by decide))) g3 (bV _ _ (by lia))) (eV p2 p1)) (aD (bF (aD g7 rfl) rfl) rfl)))) (by rw [a_];simp)
 have ha:=o7 (i:=10) (ρ:=ss (.cel b (dk cs (n+1))) N cell m M (.int (0+(j:Int))) (.int v) x d (.lst (T.map (tkD N))) (.lst (B.map (sy N)))) (xs:=T.map (tkD N)) (hrow _ rfl rfl rfl rfl rfl rfl) rfl (by rw [List.length_map,a_];lia) (GC ..);refine ha.trans ?_;unfold ss;rw [List.map_append];rfl
theorem VD {cell:Int} {m:Nat} {M:List Rw} (h1:1<=m) (hm:m<=3):∀(c j n:Nat) (T:List Tk) (x k o d f:D),n+c<=1000->j+c<=3->T.length+c<100->
  ∃(E:List Tk) (k' o' f':D),(∀r∈E,Gt m r)/\E.map (·.1)=(List.range' (10+j) c)/\∀b,nC (tg1 6) tkb ((List.range' j c).map fun (k:Nat)=>D.int (0+(k:Int))) (ss (.cel b (dk cs n)) N cell m M k o x d (.lst (T.map (tkD N))) f)=.ok (.nx (ss (.cel b (dk cs (n+c))) N cell m M k' o' x d (.lst ((T++E).map (tkD N))) f'))
 | 0,j,n,T,x,k,o,d,f,_,_,_=>⟨[],k,o,f,fun _ h=>by simp at h,rfl,fun b=>by rw [List.append_nil];rfl⟩
 | c+1,j,n,T,x,k,o,d,f,g1,g2,g3=>by
  obtain ⟨r,o1,f1,r1,r2,r3⟩:=aH5 (cs:=cs) (N:=N) (cell:=cell) (m:=m) (n:=n) (j:=j) (M:=M) (T:=T) (by lia) h1 hm (by lia) (by lia) x o d f;obtain ⟨E,k2,o2,f2,e1,e2,e3⟩:=VD (M:=M) h1 hm c (j+1) (n+1) (T++[r]) x (.int (0+(j:Int))) o1 d f1 (by lia) (by lia) (by rw [List.length_append,List.length_singleton];lia);refine ⟨r::E,k2,o2,f2,fun y hy=>?_,?_,fun b=>?_⟩
  ·rcases List.mem_cons.mp hy with h|h
   ·exact h▸r1
   ·exact e1 y h
  ·rw [List.map_cons,List.range'_succ,r2,e2];rfl
  ·rw [List.range'_succ,List.map_cons];refine fZ (ρ1:=ss (.cel b (dk cs n)) N cell m M (.int (0+(j:Int))) o x d (.lst (T.map (tkD N))) f) rfl (r3 b) ?_;rw [e3 b,List.append_assoc,show n+1+c=n+(c+1) from by lia];rfl
theorem aH6 {hD:D} {cell:Int} {m:Nat} {M:List Rw} (h1:1<=m) (hM:M.length<100) (a b c d e f:D):sgA (ss hD N cell m M a b c d e f)=.ok (.nx (ss hD N cell m (M++[(9,0,[0])]) a b c d e f)):=by
 have ha:=o7 (i:=5) (f:=lO (aB (b2 getD dN XF) (aB (b2 getD dB gY) (aB (lO (aB (b2 getD dB gY) aP)) aP)))) (ρ:=ss hD N cell m M a b c d e f) (xs:=M.map (rwD N)) (d:=rwD N (9,0,[0])) (iT (aD (aJ rfl rfl (eV (i:=9) rfl (by decide))) (aD (aJ rfl rfl (eV (i:=0) rfl (by lia))) (aD (iT (aD (aJ rfl rfl (eV (i:=0) rfl (by lia))) rfl) (by rw [a_];simp)) rfl))) (by rw [a_];simp)) rfl (by rw [List.length_map,a_];lia) (fM ..);refine ha.trans ?_;unfold ss;rw [List.map_append];rfl
end
end Lk46
end
section
namespace Lk46
open PySem L2 Mi
structure Sig (m:Nat) (M:List Rw) (T:List Tk):Prop where
 m1:1<=m
 m3:m<=3
 mg:∀r∈M,Gr m r
 tg:∀t∈T,Gt m t
 mn:(M.map (·.1)).Nodup
 mi:∀r∈M,3<=r.1/\r.1<10
 tn:(T.map (·.1)).Nodup
 ti:∀t∈T,10<=t.1/\t.1<13
 tl:T.length<=3
 ml:M.length<=7
 ba:∀k,k<m->∃r∈M,r.2.1=k/\r.2.2=[]
theorem aDk {f:FX} {ρ ρ':List D} {n:Int} (h:f ρ=.ok (.int n,ρ')) (h1:0<=n) (h2:n<=1000000):aG8 f ρ=.ok ((List.range n.toNat).map fun (k:Nat)=>D.int (0+(k:Int)),ρ'):=by
 unfold aG8;rw [h,Res.aK];have:nU n=true:=by
  simp only [nU,Bool.and_eq_true,decide_eq_true_eq];lia
 simp only [jL,this,if_true];rfl
theorem aDl {it:List D->Res (List D×List D)} {t:D->List D->Res (List D)} {body:FS} {ρ ρ' xs:List D} {r:Res Fl} (h1:it ρ=.ok (xs,ρ')) (h2:nC t body xs ρ'=r):R5 it t body ρ=r:=by
 unfold R5;rw [h1,Res.aK];exact h2
theorem ZL {i:Nat} {ρ:List D} {d:D} (h:cL i ρ=.ok d) (h2:d.G9=true):bOw i ρ=.ok d:=by
 unfold bOw;rw [h,Res.aK,if_pos h2]
theorem J0 {f:FA} {ρ ds:List D} (h:f ρ=.ok ds) (hl:ds.length<=100):vA f ρ=.ok (.rt (.tup (.lst ds::ρ))):=by
 unfold vA;rw [h,Res.aK,if_pos (by rw [a_];exact decide_eq_true (by lia))]
section
variable {N:List Str}
theorem aH7 (cs:List Int) (n:Nat) (hn:n<=900):∃(m:Nat) (M:List Rw) (T:List Tk) (n':Nat),Sig m M T/\n'<=n+8/\∀b,jC [.cel b (dk cs n),.lst ((List.range 26).map (sy N))]=.ok (.tup [.lst [.lst ((List.range m).map (sy N)),.lst (M.map (rwD N)),.lst (T.map (tkD N))],.cel b (dk cs n')]):=by
 obtain ⟨cell,q1⟩:=jH cs n (by lia)
 let m:Nat:=(1+cell % 3).toNat
 have hm:(m:Int)=1+cell % 3:=by show (((1+cell % 3).toNat:Nat):Int)=_;lia
 have m1:1<=m:=by lia
 have m3:m<=3:=by lia
 let c:Nat:=(cell / 3 % 4).toNat
 have hc:(c:Int)=cell / 3 % 4:=by show (((cell / 3 % 4).toNat:Nat):Int)=_;lia
 have lm:(mk0 m).length=m:=by unfold mk0;rw [List.length_map,List.length_range]
 obtain ⟨E,x2,k2,o2,E1,E2,s6⟩:=VB (cs:=cs) (N:=N) (cell:=cell) (m:=m) m1 m3 c 0 (n+1) (mk0 m) .uD .uD .uD .uD .uD .uD (by lia) (by lia) (by lia);have lE:E.length=c:=by
  have:=congrArg List.length E2;rw [List.length_map,List.length_range'] at this;exact this
 have lM9:(mk0 m++E).length=m+c:=by rw [List.length_append,lm,lE]
 have sA:=fun b=>aH6 (N:=N) (hD:=.cel b (dk cs ((n+1)+c))) (cell:=cell) (m:=m) (M:=mk0 m++E) m1 (by lia) k2 o2 x2 .uD .uD .uD
 generalize hM9:mk0 m++E=M9 at s6 sA;generalize hM0:M9++[((9,0,[0]):Rw)]=M0 at sA;have lM:M0.length=m+c+1:=by rw [<-hM0,List.length_append,List.length_singleton,<-hM9,lM9]
 obtain ⟨a,a1,a2⟩:=kix (m:=M0.length) (by lia) (cell / 12);obtain ⟨v,qv⟩:=jH cs ((n+1)+c) (by lia)
 let t:Nat:=(v % 4).toNat
 have ht:(t:Int)=v % 4:=by show (((v % 4).toNat:Nat):Int)=_;lia
 obtain ⟨T,k3,o3,f3,T1,T2,s9⟩:=VD (cs:=cs) (N:=N) (cell:=cell) (m:=m) (M:=M0) m1 m3 t 0 ((n+1)+c+1) [] x2 k2 o2 (.int a) .uD (by lia) (by lia) (by simp;lia);rw [List.nil_append] at s9;have lT:T.length=t:=by
  have:=congrArg List.length T2;rw [List.length_map,List.length_range'] at this;exact this
 have pm:(M0.drop a++M0.take a).Perm M0:=by
  have:=List.perm_append_comm (l₁:=M0.drop a) (l₂:=M0.take a);rwa [List.take_append_drop] at this
 have mem0:∀r,r∈M0->(∃k,k<m/\r=(3+k,k,[]))\/r∈E\/r=(9,0,[0]):=fun r hr=>by
  rw [<-hM0,List.mem_append,<-hM9,List.mem_append] at hr;rcases hr with (h|h)|h
  ·unfold mk0 at h;obtain ⟨k,hk,rfl⟩:=List.mem_map.mp h;exact .inl ⟨k,List.mem_range.mp hk,rfl⟩
  ·exact .inr (.inl h)
  ·exact .inr (.inr (List.mem_singleton.mp h))
 have hE:∀r∈E,3+m<=r.1/\r.1<3+m+c:=fun r hr=>by
  have:=List.mem_map_of_mem (f:=(·.1)) hr;rw [E2,List.mem_range'_1] at this;exact this
 have nm9:M9.map (·.1)=List.range' 3 (m+c):=by
  rw [<-hM9,List.map_append,E2];unfold mk0;rw [List.map_map,Nat.add_zero,List.range'_append_1.symm]
  congr 1
  rw [List.range'_eq_map_range];rfl
 have nm:(M0.map (·.1)).Nodup:=by
  rw [<-hM0,List.map_append,nm9,List.nodup_append];refine ⟨List.nodup_range',by simp,fun a ha b hb e=>?_⟩;rw [List.mem_range'_1] at ha;have hb:b=9:=by simpa using hb
  lia
 refine ⟨m,M0.drop a++M0.take a,T,(n+1)+c+1+t,⟨m1,m3,fun r hr=>?_,T1,?_,fun r hr=>?_,?_,fun r hr=>?_,by lia,?_,fun k hk=>?_⟩,by lia,fun b=>?_⟩
 ·rcases mem0 r (pm.mem_iff.mp hr) with ⟨k,hk,rfl⟩|h
  ·exact ⟨hk,fun i hi=>by simp at hi,by simp⟩
  ·rcases h with h|h
   ·exact E1 r h
   ·subst h;exact ⟨m1,fun i hi=>by rw [List.mem_singleton] at hi;show i<m;lia,by simp⟩
 ·rw [(pm.map _).nodup_iff];exact nm
 ·rcases mem0 r (pm.mem_iff.mp hr) with ⟨k,hk,rfl⟩|h
  ·exact ⟨by show 3<=3+k;lia,by show 3+k<10;lia⟩
  ·rcases h with h|h
   ·have:=hE r h;lia
   ·subst h;exact ⟨by decide,by decide⟩
 ·rw [T2];exact List.nodup_range'
 ·have:=List.mem_map_of_mem (f:=(·.1)) hr;rw [T2,List.mem_range'_1] at this;lia
 ·rw [pm.length_eq];lia
 ·refine ⟨(3+k,k,[]),pm.mem_iff.mpr ?_,rfl,rfl⟩;rw [<-hM0,List.mem_append,<-hM9,List.mem_append]
  left
  left
  unfold mk0;exact List.mem_map.mpr ⟨k,List.mem_range.mpr hk,rfl⟩
 ·refine zR (k:=1) (ρ:=ss (.cel b (dk cs ((n+1)+c+1+t))) N cell m M0 k3 o3 x2 (.int a) (.lst (T.map (tkD N))) f3) ?_;show pY [.cel b (dk cs n),.lst ((List.range 26).map (sy N)),.uD,.uD,.uD,.uD,.uD,.uD,.uD,.uD,.uD,.uD]=_;rw [aDi];refine aF (ρ':=[.cel b (dk cs (n+1)),.lst ((List.range 26).map (sy N)),.int cell,.uD,.uD,.uD,.uD,.uD,.uD,.uD,.uD,.uD]) (j4 (i:=2) (tU q1 rfl rfl) rfl) ?_;refine aF (ρ':=[.cel b (dk cs (n+1)),.lst ((List.range 26).map (sy N)),.int cell,.int m,.uD,.uD,.uD,.uD,.uD,.uD,.uD,.uD]) (bO (i:=3) (aJ (x:=.int 1) rfl (aJ (x:=.int cell) rfl rfl (bV _ _ (by decide))) (by rw [d7,hm]))) ?_;refine aF (aH0 (by lia) ..) (aF (aH1 m3 ..) ?_);refine aF (yP (sV (n:=(c:Int)) (aD (aJ (aJ (x:=.int cell) rfl rfl (cR _ _ (by decide) (by decide))) rfl ((bV _ _ (by decide)).trans (by rw [hc]))) rfl) (by lia) (by lia)) (by rw [Int.toNat_natCast,List.range_eq_range'];exact s6 b)) ?_;refine aF (sA b) ?_;refine aF (ρ':=ss (.cel b (dk cs ((n+1)+c))) N cell m M0 k2 o2 x2 (.int a) .uD .uD) (bO (i:=9) (aJ (aJ (x:=.int cell) rfl rfl (cR _ _ (by decide) (by decide))) (y:=.int M0.length) (bF (aD rfl rfl) ?_) ((bV _ _ (by lia)).trans (by rw [a2])))) ?_
  ·show Res.ok (D.int ((M0.map (rwD N)).length:Int))=_;rw [List.length_map]
  refine aF (ρ':=ss (.cel b (dk cs ((n+1)+c))) N cell m M0 k2 o2 x2 (.int a) (.lst []) .uD) (fY (i:=10) rfl rfl) ?_;refine aF (aDl (aDk (n:=(t:Int)) (ρ':=ss (.cel b (dk cs ((n+1)+c+1))) N cell m M0 k2 o2 x2 (.int a) (.lst []) .uD) (UV (tU qv rfl rfl) rfl rfl ((bV _ _ (by decide)).trans (by rw [ht])) rfl) (by lia) (by lia)) (by rw [Int.toNat_natCast,List.range_eq_range'];exact s9 b)) ?_;refine J0 (aD (ZL rfl rfl) (aD ?_ (aD (ZL rfl rfl) rfl))) (by simp);rw [List.map_append];refine aJ (x:=.lst ((M0.drop a).map (rwD N))) (y:=.lst ((M0.take a).map (rwD N))) ?_ ?_ (CN _ _ ?_ (dJ (fM N) _) (dJ (fM N) _))
  ·rw [List.map_drop,<-wR];exact mU rfl (fL rfl) rfl (dJ (fM N) _)
  ·rw [List.map_take,<-JZ];exact mU rfl rfl (fL rfl) (dJ (fM N) _)
  ·rw [List.length_map,List.length_map,List.length_drop,List.length_take,a_];lia
theorem aH8 (cs:List Int) (n:Nat) (hn:n<=900):∃(m:Nat) (M:List Rw) (T:List Tk) (n':Nat),Sig m M T/\n'<=n+8/\ch1 jC (dk cs n) [.lst ((List.range 26).map (sy N))]=.ok (.lst [.lst ((List.range m).map (sy N)),.lst (M.map (rwD N)),.lst (T.map (tkD N))],dk cs n'):=by
 obtain ⟨m,M,T,n',h1,h2,h3⟩:=aH7 cs n hn;exact ⟨m,M,T,n',h1,h2,JC h3⟩
end
end Lk46
end
section
namespace Lk46
open PySem L2 Mi
theorem ZM {c:FT} {body:FS} {n:Nat} {ρ ρ':List D} {r:Res Fl} (h1:c ρ=.ok true) (h2:body ρ=.ok (.nx ρ')) (h3:OD c body n ρ'=r):OD c body (n+1) ρ=r:=by
 rw [OD,h1,Res.aK,if_pos rfl,h2];exact h3
theorem aDm {c:FT} {body:FS} {n:Nat} {ρ:List D} (h1:c ρ=.ok false):OD c body (n+1) ρ=.ok (.nx ρ):=by
 rw [OD,h1];rfl
def wc:FT:=(bTB (b2 (cC .ne) gG (iI aP)))
def wb0:FS:=(MN 7 8)
noncomputable def wb1:FS:=(bD false 9 (b2 (aO .sub) (b2 (aO .sub) (b2 (aO .sub) dH (aU eY (aB gC aP))) (aU eY (aB gG aP))) eX) true)
noncomputable def wb2:FS:=(bD false 10 (e_ 13 (cV dN false) oM (z9 (bTB (b2 (cC .eq) (b2 getD l_ eX) j7)) (bTB (b2 (jV .le) (aU eY (aB (b2 getD l_ m7) aP)) pM))) l_ false) true)
noncomputable def wb7:FS:=(bD false 11 (e_ 13 (cV jK false) oM (bTB (b2 inX j7 (b2 getD l_ m7))) l_ false) true)
noncomputable def wb8:FS:=(sIf (z9 (bTr dB) (bTB (b2 (cC .ne) jR (iI aP)))) (sAl 10 11) fH)
noncomputable def wb3:FS:=(iZ false 12 (x2R getD jK (x2L (aO .mod) (cH aR 1 0 aP) (aU eY (aB jK aP)))))
def wb4:FS:=(uF 5 (b2 getD gD gY))
def wb6:FS:=(uF 6 j7)
def wb5:FS:=(aCq 7 (b1 aAr (b2 getD gD m7)))
noncomputable def wb:FS:=(aQ wb0 (aQ wb1 (aQ wb2 (aQ wb7 (aQ wb8 (aQ wb3 (aQ wb4 (aQ wb6 wb5))))))))
inductive Run (H:List Rw):List Nat->List Nat->List Nat->Prop
 | nil:Run H [] [] []
 | step {r:Rw} {rest W U:List Nat}:r∈H->Run H (r.2.2++rest) W U->Run H (r.2.1::rest) (r.1::W) (r.2.1::U)
theorem aDn {i j:Nat} {ρ xs:List D} {x:D} (h:ρ.getD i .uD=.lst (xs++[x])) {ρ':List D} (he:(ρ.set i (.lst xs)).set j x=ρ'):MN i j ρ=.ok (.nx ρ'):=by
 subst he;unfold MN;rw [h];dsimp only;rw [List.length_append,List.length_singleton,Nat.add_sub_cancel,List.getElem?_append_right (Nat.le_refl _),Nat.sub_self,List.dropLast_concat];rfl
theorem aB1 {i:Nat} {ρ:List D} {f:FE} {xs ys:List D} (h1:f ρ=.ok (.lst ys)) (h2:ρ.getD i .uD=.lst xs) (hl:xs.length+ys.length<=10000) (hp:D.aW ys=true):aCq i f ρ=.ok (.nx (ρ.set i (.lst (xs++ys)))):=by
 unfold aCq;rw [h1,Res.aK,h2];dsimp only;rw [if_pos (by rw [hp,a_,decide_eq_true (by lia)];rfl)]
theorem wU {α:Type} {N:List Str} (hN:N.length=26) (hd:N.Nodup) (nm:α->Nat) (g:α->D):∀(L:List α),(L.map nm).Nodup->(∀a∈L,nm a<26)->∀a∈L,dU (L.map fun a=>(sy N (nm a),g a)) (sy N (nm a))=some (g a)
 | [],_,_,a,ha=>by simp at ha
 | b::L,h1,h2,a,ha=>by
  rw [List.map_cons,dU,zW hN hd (h2 b (List.mem_cons_self ..)) (h2 a ha)];rw [List.map_cons,List.nodup_cons] at h1;rcases List.mem_cons.mp ha with e|e
  ·subst e;rw [decide_eq_true rfl,if_pos rfl]
  ·have:¬nm b=nm a:=fun g=>h1.1 (g▸List.mem_map_of_mem (f:=nm) e)
   rw [decide_eq_false this,if_neg (by simp)];exact wU hN hd nm g L h1.2 (fun c hc=>h2 c (List.mem_cons_of_mem _ hc)) a e
theorem J1 (N:List Str):∀H:List Rw,D.cW 11 (H.map (rwD N))=true
 | []=>by rw [List.map_nil,D.cW]
 | r::H=>by
  rw [List.map_cons,D.cW,J1 N H];unfold rwD;rw [D.b8,D.cW,D.cW,D.cW,D.cW,D.b8,pH];unfold sy;rw [D.b8,D.b8] <;> simp
section
variable {N:List Str} (hN:N.length=26) (hd:N.Nodup)
include hN hd
omit hN hd in
theorem jJ {ρ:List D} {i:Nat} {r:Rw} (h:cL i ρ=.ok (rwD N r)):b2 getD (cL i) gY ρ=.ok (sy N r.1)/\b2 getD (cL i) eX ρ=.ok (sy N r.2.1)/\b2 getD (cL i) m7 ρ=.ok (.tup (r.2.2.map (sy N))):=⟨aJ h rfl rfl,aJ h rfl rfl,aJ h rfl rfl⟩
theorem aB2 {i j:Nat} (hi:i<26) (hj:j<26):cC .eq (sy N i) (sy N j)=.ok (.bl (decide (i=j))):=by
 show (if (sy N i).b8 aZ&&(sy N j).b8 aZ then Res.ok (D.bl (eqD (sy N i) (sy N j))) else .bad)=_;rw [qD,qD,zW hN hd hi hj];rfl
theorem VF {i j:Nat} (hi:i<26) (hj:j<26):cC .ne (sy N i) (sy N j)=.ok (.bl (!decide (i=j))):=by
 show (if (sy N i).b8 aZ&&(sy N j).b8 aZ then Res.ok (D.bl (!eqD (sy N i) (sy N j))) else .bad)=_;rw [qD,qD,zW hN hd hi hj];rfl
theorem aJm {i:Nat} {l:List Nat} (hi:i<26) (hl:∀j∈l,j<26):cC .isin (sy N i) (.tup (l.map (sy N)))=.ok (.bl (decide (i∈l))):=by
 show (if (sy N i).b8 aZ&&D.cW aZ (l.map (sy N)) then Res.ok (D.bl ((l.map (sy N)).any fun y=>eqD y (sy N i))) else .bad)=_;rw [qD,pH,aAy hN hd hi l hl];rfl
omit hN hd in
theorem aJn (H:List Rw):cC .ne (.lst (H.map (rwD N))) (.lst [])=.ok (.bl (!H.isEmpty)):=by
 show (if D.cW 11 (H.map (rwD N))&&D.cW 11 [] then Res.ok (D.bl (!xY (H.map (rwD N)) [])) else .bad)=_;rw [J1,D.cW];cases H <;> rfl
omit hN hd in
theorem aDo (l:List Nat):cC .ne (.lst (l.map (sy N))) (.lst [])=.ok (.bl (!l.isEmpty)):=by
 show (if D.cW 11 (l.map (sy N))&&D.cW 11 [] then Res.ok (D.bl (!xY (l.map (sy N)) [])) else .bad)=_;rw [pH,D.cW];cases l <;> rfl
omit hN hd in
end
structure aIa (m:Nat) (H:List Rw):Prop where
 m3:m<=3
 hl:H.length<=100
 hg:∀r∈H,r.1<26/\r.2.1<26/\(∀i∈r.2.2,i<m)/\r.2.2.length<=3
 ba:∀k,k<m->∃r∈H,r.2.1=k/\r.2.2=[]
noncomputable abbrev wst (hD:D) (N:List Str) (H:List Rw) (w:D) (most:Nat) (fl:Bool) (W U st:List Nat) (a b c g d:D):List D:=[hD,.lst (H.map (rwD N)),w,.int most,.bl fl,.lst (W.map (sy N)),.lst (U.map (sy N)),.lst (st.reverse.map (sy N)),a,b,c,g,d]
theorem aDp {N:List Str} {cs:List Int} {n:Nat} {H:List Rw} {w:D} {most:Nat} {fl:Bool} {W U rest:List Nat} {a b g d:D} {S:List Rw} {v:Int} {i:Nat} {r:Rw} {z:Nat} (qv:ch1 aR (dk cs n) []=.ok (.int v,dk cs (n+1))) (lS:0<S.length) (i2:v % (S.length:Int)=i) (hi:S[i]?=some r):wb3 (wst (.cel z (dk cs n)) N H w most fl W U rest a b (.lst (S.map (rwD N))) g d)=.ok (.nx (wst (.cel z (dk cs (n+1))) N H w most fl W U rest a b (.lst (S.map (rwD N))) g (rwD N r))):=by
 have hl:∀ρ:List D,cL 10 ρ=.ok (.lst (S.map (rwD N)))->(aU eY (aB jK aP)) ρ=.ok (.int S.length):=fun ρ h=>bF (aD h rfl) (by
  show Res.ok (D.int ((S.map (rwD N)).length:Int))=_;rw [List.length_map])
 exact j4 (i:=12) (aAv (x:=.lst (S.map (rwD N))) rfl (UV (tU qv rfl rfl) rfl (hl _ rfl) (bV _ _ (by lia)) rfl) (qF i2 hi) (fM ..)) rfl
noncomputable def chs (fl:Bool) (k:Nat) (S:List Rw):List Rw:=if fl&&!(S.filter fun r=>decide (k∈r.2.2)).isEmpty then S.filter fun r=>decide (k∈r.2.2) else S
theorem aH9 {fl:Bool} {k:Nat} {S:List Rw} (h:S≠[]):chs fl k S≠[]:=by
 unfold chs;split
 ·rename_i hh;rw [Bool.and_eq_true] at hh;intro z;rw [z] at hh;cases hh.2
 ·exact h
theorem aDq {fl:Bool} {k:Nat} {S:List Rw}:∀r∈chs fl k S,r∈S:=fun r hr=>by
 unfold chs at hr;split at hr
 ·exact (List.mem_filter.mp hr).1
 ·exact hr
section
variable {N:List Str} (hN:N.length=26) (hd:N.Nodup)
include hN hd
theorem turn {cs:List Int} {n:Nat} {H:List Rw} {w:D} {most:Nat} {fl:Bool} {m:Nat} (P:aIa m H) {W U rest:List Nat} {k:Nat} (hk:k<m) (hn:n<=10000) (hw:W.length+rest.length+1<=most) (hU:U.length<=1000) (hm:most<=400) (a b c g d:D) :
  ∃r∈H,r.2.1=k/\W.length+1+(r.2.2.length+rest.length)<=most/\∃a' b' c' g' d':D,∀z,wb (wst (.cel z (dk cs n)) N H w most fl W U (k::rest) a b c g d)=.ok (.nx (wst (.cel z (dk cs (n+1))) N H w most fl (W++[r.1]) (U++[k]) (r.2.2++rest) a' b' c' g' d')):=by
 have m3:=P.m3;obtain ⟨v,qv⟩:=jH cs n (by lia)
 let room:Nat:=most-W.length-rest.length-1
 have hroom:(most:Int)-W.length-rest.length-1=(room:Int):=by show _=((most-W.length-rest.length-1:Nat):Int);lia
 obtain ⟨S,hS,neS⟩:∃S:List Rw,S=H.filter (fun r=>decide (r.2.1=k)&&decide ((r.2.2.length:Int)<=(room:Int)))/\S≠[]:=⟨_,rfl,by
  obtain ⟨r,hr,e1,e2⟩:=P.ba k hk;refine List.ne_nil_of_mem (List.mem_filter.mpr ⟨hr,?_⟩);rw [Bool.and_eq_true,decide_eq_true_eq,decide_eq_true_eq,e2];exact ⟨e1,by simp⟩⟩
 have sub1:∀r∈S,r∈H/\r.2.1=k/\r.2.2.length<=room:=fun r hr=>by
  rw [hS] at hr;have:=List.mem_filter.mp hr;have h2:=this.2;rw [Bool.and_eq_true,decide_eq_true_eq,decide_eq_true_eq] at h2;exact ⟨this.1,h2.1,by lia⟩
 have sl:S.length<=100:=by rw [hS];exact Nat.le_trans (List.length_filter_le ..) P.hl
 have lS:0<(chs fl k S).length:=List.length_pos_iff.mpr (aH9 neS);obtain ⟨i,i1,i2⟩:=kix (m:=(chs fl k S).length) (by lia) v;have hi:(chs fl k S)[i]?=some (chs fl k S)[i]:=List.getElem?_eq_getElem i1;obtain ⟨g1,g2,g3⟩:=sub1 _ (aDq _ (List.getElem_mem i1));generalize (chs fl k S)[i]=r at g1 g2 g3 hi;obtain ⟨u0,u1,u2,u3⟩:=P.hg r g1;refine ⟨r,g1,g2,by show _<=_;have:r.2.2.length<=most-W.length-rest.length-1:=g3;lia,sy N k,.int room,.lst ((chs fl k S).map (rwD N)),.lst ((S.filter fun r=>decide (k∈r.2.2)).map (rwD N)),rwD N r,fun z=>?_⟩;have t0:wb0 (wst (.cel z (dk cs n)) N H w most fl W U (k::rest) a b c g d)=.ok (.nx (wst (.cel z (dk cs n)) N H w most fl W U rest (sy N k) b c g d)):=aDn (i:=7) (j:=8) (xs:=rest.reverse.map (sy N)) (x:=sy N k) (by
  show D.lst ((k::rest).reverse.map (sy N))=_;rw [List.reverse_cons,List.map_append];rfl) rfl
 have t1:wb1 (wst (.cel z (dk cs n)) N H w most fl W U rest (sy N k) b c g d)=.ok (.nx (wst (.cel z (dk cs n)) N H w most fl W U rest (sy N k) (.int room) c g d)):=by
  rw [<-hroom];refine bO (i:=9) (aJ (aJ (aJ (x:=.int most) rfl (y:=.int W.length) (bF (aD rfl rfl) ?_) (yR _ _)) (y:=.int rest.length) (bF (aD rfl rfl) ?_) (yR _ _)) rfl (yR _ _))
  ·show Res.ok (D.int ((W.map (sy N)).length:Int))=_;rw [List.length_map]
  ·show Res.ok (D.int ((rest.reverse.map (sy N)).length:Int))=_;rw [List.length_map,List.length_reverse]
 have t2:wb2 (wst (.cel z (dk cs n)) N H w most fl W U rest (sy N k) (.int room) c g d)=.ok (.nx (wst (.cel z (dk cs n)) N H w most fl W U rest (sy N k) (.int room) (.lst (S.map (rwD N))) g d)):=by
  rw [hS];refine bO (i:=10) (F_ (n:=13) (rwD N) (rwD N) _ H rfl (jD rfl) (by have:=P.hl;lia) (fun r hr=>?_) fun r hr _=>⟨rfl,fM ..⟩);obtain ⟨v0,v1,v2,v3⟩:=P.hg r hr;have c1:∀ρ:List D,cL 13 ρ=.ok (rwD N r)->cL 8 ρ=.ok (sy N k)->(bTB (b2 (cC .eq) (b2 getD l_ eX) j7)) ρ=.ok (decide (r.2.1=k)):=fun ρ e1 e2=>dG (aJ (jJ e1).2.1 e2 (aB2 hN hd (by lia) (by lia)))
  have c2:∀ρ:List D,cL 13 ρ=.ok (rwD N r)->cL 9 ρ=.ok (.int room)->(bTB (b2 (jV .le) (aU eY (aB (b2 getD l_ m7) aP)) pM)) ρ=.ok (decide ((r.2.2.length:Int)<=(room:Int))):=fun ρ e1 e2=>dG (aJ (bF (aD (jJ e1).2.2 rfl) (by
   show Res.ok (D.int ((r.2.2.map (sy N)).length:Int))=_;rw [List.length_map])) e2 (U0 _ _))
  by_cases hrk:r.2.1=k
  ·refine (sU ((c1 _ rfl rfl).trans (by rw [decide_eq_true hrk])) (c2 _ rfl rfl)).trans ?_;rw [decide_eq_true hrk,Bool.true_and]
  ·refine (MK ((c1 _ rfl rfl).trans (by rw [decide_eq_false hrk]))).trans ?_;rw [decide_eq_false hrk,Bool.false_and]
 have t7:wb7 (wst (.cel z (dk cs n)) N H w most fl W U rest (sy N k) (.int room) (.lst (S.map (rwD N))) g d)=.ok (.nx (wst (.cel z (dk cs n)) N H w most fl W U rest (sy N k) (.int room) (.lst (S.map (rwD N))) (.lst ((S.filter fun r=>decide (k∈r.2.2)).map (rwD N))) d)):=by
  refine bO (i:=11) (F_ (n:=13) (rwD N) (rwD N) _ S rfl (jD rfl) (by lia) (fun r hr=>?_) fun r hr _=>⟨rfl,fM ..⟩);obtain ⟨v0,v1,v2,v3⟩:=P.hg r (sub1 r hr).1;exact dG (aJ (x:=sy N k) rfl (jJ (i:=13) (r:=r) rfl).2.2 (aJm hN hd (by lia) fun j hj=>by have:=v2 j hj;lia))
 have t8:wb8 (wst (.cel z (dk cs n)) N H w most fl W U rest (sy N k) (.int room) (.lst (S.map (rwD N))) (.lst ((S.filter fun r=>decide (k∈r.2.2)).map (rwD N))) d)=.ok (.nx (wst (.cel z (dk cs n)) N H w most fl W U rest (sy N k) (.int room) (.lst ((chs fl k S).map (rwD N))) (.lst ((S.filter fun r=>decide (k∈r.2.2)).map (rwD N))) d)):=by
  have c1:bTr dB (wst (.cel z (dk cs n)) N H w most fl W U rest (sy N k) (.int room) (.lst (S.map (rwD N))) (.lst ((S.filter fun r=>decide (k∈r.2.2)).map (rwD N))) d)=.ok fl:=rfl;have c2:bTB (b2 (cC .ne) jR (iI aP)) (wst (.cel z (dk cs n)) N H w most fl W U rest (sy N k) (.int room) (.lst (S.map (rwD N))) (.lst ((S.filter fun r=>decide (k∈r.2.2)).map (rwD N))) d)=.ok (!(S.filter fun r=>decide (k∈r.2.2)).isEmpty):=dG (aJ rfl rfl (aJn _));unfold chs;cases hfl:fl
  ·rw [hfl] at c1;exact lU (MK c1) rfl
  ·rw [hfl] at c1 c2;cases hg:(S.filter fun r=>decide (k∈r.2.2)).isEmpty
   ·exact qM ((sU c1 c2).trans (by rw [hg];rfl)) rfl
   ·exact lU ((sU c1 c2).trans (by rw [hg];rfl)) rfl
 have t3:wb3 (wst (.cel z (dk cs n)) N H w most fl W U rest (sy N k) (.int room) (.lst ((chs fl k S).map (rwD N))) (.lst ((S.filter fun r=>decide (k∈r.2.2)).map (rwD N))) d)=.ok (.nx (wst (.cel z (dk cs (n+1))) N H w most fl W U rest (sy N k) (.int room) (.lst ((chs fl k S).map (rwD N))) (.lst ((S.filter fun r=>decide (k∈r.2.2)).map (rwD N))) (rwD N r))):=aDp qv lS i2 hi;have t4:wb4 (wst (.cel z (dk cs (n+1))) N H w most fl W U rest (sy N k) (.int room) (.lst ((chs fl k S).map (rwD N))) (.lst ((S.filter fun r=>decide (k∈r.2.2)).map (rwD N))) (rwD N r))=.ok (.nx (wst (.cel z (dk cs (n+1))) N H w most fl (W++[r.1]) U rest (sy N k) (.int room) (.lst ((chs fl k S).map (rwD N))) (.lst ((S.filter fun r=>decide (k∈r.2.2)).map (rwD N))) (rwD N r))):=by
  have ha:=o7 (i:=5) (ρ:=wst (.cel z (dk cs (n+1))) N H w most fl W U rest (sy N k) (.int room) (.lst ((chs fl k S).map (rwD N))) (.lst ((S.filter fun r=>decide (k∈r.2.2)).map (rwD N))) (rwD N r)) (xs:=W.map (sy N)) (jJ (i:=12) (r:=r) rfl).1 rfl (by rw [List.length_map,a_];lia) rfl;refine ha.trans ?_;unfold wst;rw [List.map_append];rfl
 have t6:wb6 (wst (.cel z (dk cs (n+1))) N H w most fl (W++[r.1]) U rest (sy N k) (.int room) (.lst ((chs fl k S).map (rwD N))) (.lst ((S.filter fun r=>decide (k∈r.2.2)).map (rwD N))) (rwD N r))=.ok (.nx (wst (.cel z (dk cs (n+1))) N H w most fl (W++[r.1]) (U++[k]) rest (sy N k) (.int room) (.lst ((chs fl k S).map (rwD N))) (.lst ((S.filter fun r=>decide (k∈r.2.2)).map (rwD N))) (rwD N r))):=by
  have ha:=o7 (i:=6) (ρ:=wst (.cel z (dk cs (n+1))) N H w most fl (W++[r.1]) U rest (sy N k) (.int room) (.lst ((chs fl k S).map (rwD N))) (.lst ((S.filter fun r=>decide (k∈r.2.2)).map (rwD N))) (rwD N r)) (xs:=U.map (sy N)) (f:=cL 8) (d:=sy N k) rfl rfl (by rw [List.length_map,a_];lia) rfl;refine ha.trans ?_;unfold wst;rw [show (U++[k]).map (sy N)=U.map (sy N)++[sy N k] from by rw [List.map_append];rfl];rfl
 have t5:wb5 (wst (.cel z (dk cs (n+1))) N H w most fl (W++[r.1]) (U++[k]) rest (sy N k) (.int room) (.lst ((chs fl k S).map (rwD N))) (.lst ((S.filter fun r=>decide (k∈r.2.2)).map (rwD N))) (rwD N r))=.ok (.nx (wst (.cel z (dk cs (n+1))) N H w most fl (W++[r.1]) (U++[k]) (r.2.2++rest) (sy N k) (.int room) (.lst ((chs fl k S).map (rwD N))) (.lst ((S.filter fun r=>decide (k∈r.2.2)).map (rwD N))) (rwD N r))):=by
  have hx:=aB1 (i:=7) (ρ:=wst (.cel z (dk cs (n+1))) N H w most fl (W++[r.1]) (U++[k]) rest (sy N k) (.int room) (.lst ((chs fl k S).map (rwD N))) (.lst ((S.filter fun r=>decide (k∈r.2.2)).map (rwD N))) (rwD N r)) (f:=b1 aAr (b2 getD gD m7)) (xs:=rest.reverse.map (sy N)) (ys:=r.2.2.reverse.map (sy N)) (zX (jJ (i:=12) (r:=r) rfl).2.2 (by
   show (if D.aW (r.2.2.map (sy N))&&decide ((r.2.2.map (sy N)).length<=lim) then Res.ok (D.lst (r.2.2.map (sy N)).reverse) else .bad)=_;rw [cT,List.length_map,a_,decide_eq_true (by lia),<-List.map_reverse];rfl)) rfl (by rw [List.length_map,List.length_reverse,List.length_map,List.length_reverse];lia) (cT ..)
  refine hx.trans ?_;have e7:((r.2.2++rest).reverse.map (sy N))=rest.reverse.map (sy N)++r.2.2.reverse.map (sy N):=by rw [List.reverse_append,List.map_append]
  unfold wst;rw [e7];rfl
 exact aF t0 (aF t1 (aF t2 (aF t7 (aF t8 (aF t3 (aF t4 (aF t6 t5)))))))
theorem aHa {cs:List Int} {H:List Rw} {w:D} {most:Nat} {fl:Bool} {m:Nat} (P:aIa m H) (hm:most<=400):∀(μ n fuel:Nat) (W U st:List Nat) (a b c g d:D),most-W.length=μ->U.length+μ<=900->μ<fuel->n+μ<=5000->W.length+st.length<=most->(∀k∈st,k<m)->
  ∃(V Y:List Nat) (n':Nat) (a' b' c' g' d':D),Run H st V Y/\V.length<=μ/\n'<=n+μ/\∀z,OD wc wb fuel (wst (.cel z (dk cs n)) N H w most fl W U st a b c g d)=.ok (.nx (wst (.cel z (dk cs n')) N H w most fl (W++V) (U++Y) [] a' b' c' g' d'))
 | μ,n,0,W,U,st,a,b,c,g,d,h1,_,h2,_,_,_=>absurd h2 (Nat.not_lt_zero _)
 | μ,n,fuel+1,W,U,[],a,b,c,g,d,h1,_,h2,_,_,_=>⟨[],[],n,a,b,c,g,d,.nil,Nat.zero_le _,by lia,fun z=>by
   rw [List.append_nil,List.append_nil];exact aDm (dG (aJ rfl rfl (aDo (N:=N) [])))⟩
 | 0,n,fuel+1,W,U,k::rest,a,b,c,g,d,h1,_,h2,_,h4,h5=>by
   rw [List.length_cons] at h4;lia
 | μ+1,n,fuel+1,W,U,k::rest,a,b,c,g,d,h1,hu,h2,h3,h4,h5=>by
   have hk:=h5 k (List.mem_cons_self ..);have hrest:∀k∈rest,k<m:=fun j hj=>h5 j (List.mem_cons_of_mem _ hj)
   rw [List.length_cons] at h4;obtain ⟨r,r1,r2,r3,a',b',c',g',d',r4⟩:=turn hN hd (cs:=cs) (n:=n) (w:=w) (most:=most) (fl:=fl) P (W:=W) (U:=U) (rest:=rest) (k:=k) hk (by lia) (by lia) (by lia) hm a b c g d;have hp:=(P.hg r r1).2.2.1;obtain ⟨V,Y,n',a2,b2,c2,g2,d2,q1,q2,q3,q4⟩:=aHa P hm μ (n+1) fuel (W++[r.1]) (U++[k]) (r.2.2++rest) a' b' c' g' d' (by rw [List.length_append,List.length_singleton];lia) (by rw [List.length_append,List.length_singleton];lia) (by lia) (by lia) (by rw [List.length_append,List.length_append,List.length_singleton];lia) (fun j hj=>by
    rcases List.mem_append.mp hj with h|h
    ·exact hp j h
    ·exact hrest j h)
   refine ⟨r.1::V,k::Y,n',a2,b2,c2,g2,d2,r2▸.step r1 q1,by rw [List.length_cons];lia,by lia,fun z=>?_⟩;refine ZM (dG (aJ rfl rfl ((aDo (N:=N) (k::rest).reverse).trans ?_))) (r4 z) ?_
   ·rw [List.reverse_cons];cases rest.reverse <;> rfl
   ·rw [q4 z,List.append_assoc,List.append_assoc];rfl
theorem ZP (cs:List Int) {n:Nat} {H:List Rw} {m:Nat} (P:aIa m H) {k most:Nat} (fl:Bool) (hk:k<m) (h1:1<=most) (hm:most<=400) (hn:n<=4000) :
  ∃(V Y:List Nat) (n':Nat),Run H [k] V Y/\V.length<=most/\n'<=n+400/\ch1 iD (dk cs n) [.lst (H.map (rwD N)),sy N k,.int most,.bl fl]=.ok (.lst [.lst (V.map (sy N)),.lst (Y.map (sy N))],dk cs n'):=by
 obtain ⟨V,Y,n',a',b',c',g',d',g1,g2,g3,g4⟩:=aHa hN hd (cs:=cs) (w:=sy N k) (most:=most) (fl:=fl) P hm most n 1000 [] [] [k] .uD .uD .uD .uD .uD (by simp) (by simp;lia) (by lia) (by lia) (by simpa using h1) (fun j hj=>by rw [List.mem_singleton] at hj;lia);refine ⟨V,Y,n',g1,by lia,by lia,JC fun z=>zR (k:=1) (ρ:=wst (.cel z (dk cs n')) N H (sy N k) most fl V Y [] a' b' c' g' d') ?_⟩;refine aF (ρ':=[.cel z (dk cs n),.lst (H.map (rwD N)),sy N k,.int most,.bl fl,.lst [],.uD,.uD,.uD,.uD,.uD,.uD,.uD]) (fY (i:=5) rfl rfl) ?_;refine aF (ρ':=[.cel z (dk cs n),.lst (H.map (rwD N)),sy N k,.int most,.bl fl,.lst [],.lst [],.uD,.uD,.uD,.uD,.uD,.uD]) (fY (i:=6) rfl rfl) ?_;refine aF (ρ':=wst (.cel z (dk cs n)) N H (sy N k) most fl [] [] [k] .uD .uD .uD .uD .uD) (fY (i:=7) rfl rfl) ?_;refine aF (g4 z) ?_;exact J0 (aD (ZL rfl rfl) (aD (ZL rfl rfl) rfl)) (show 2<=100 from by decide)
end
end Lk46
end
section
namespace Lk46
open PySem L2 Mi
theorem call_v {n m:Nat} {f:FS} {ds:List D} {d:D} (h:f (ds++List.replicate (m-n) D.uD)=.ok (.rt d)):fnS n m f ds=.ok d:=by
 unfold fnS;rw [h];rfl
theorem qT {a:FT} {ρ:List D} {b:Bool} (h:a ρ=.ok b):z8 a ρ=.ok (!b):=by
 unfold z8;rw [h,Res.aK];rfl
theorem N7 {a:FE} {ρ:List D} {b:Bool} (h:a ρ=.ok (.bl b)):bTr a ρ=.ok b:=by
 unfold bTr;rw [h,Res.aK];rfl
def hdV (N:List Str) (r:Rw):D:=.tup [sy N r.2.1,.tup (r.2.2.map (sy N))]
def hdD (N:List Str) (F:List Rw):List (D×D):=F.map fun r=>(sy N r.1,hdV N r)
def tr (t:Tk):Rw:=(t.1,t.2.1,t.2.2.1::t.2.2.2)
theorem wV (N:List Str) (r:Rw):(hdV N r).pure=true:=by
 show ((sy N r.2.1).pure&&((D.tup (r.2.2.map (sy N))).pure&&true))=true;rw [D.pure,cT];rfl
theorem wW {H:List Rw} {st w u:List Nat} (h:Run H st w u):st.length<=w.length/\w.length=u.length:=by
 induction h with
 | nil=>exact ⟨Nat.le_refl _,rfl⟩
 | step hr _ ih=>
  rw [List.length_append] at ih;rw [List.length_cons,List.length_cons,List.length_cons];lia
section
variable {N:List Str} (hN:N.length=26) (hd:N.Nodup)
include hN hd
theorem GD {α:Type} (nm:α->Nat) (g:α->D) {i:Nat} (hi:i<26) (v:D):∀(L:List α),(∀a∈L,nm a<26)->i∉L.map nm->putD (L.map fun a=>(sy N (nm a),g a)) (sy N i) v=(L.map fun a=>(sy N (nm a),g a))++[(sy N i,v)]
 | [],_,_=>rfl
 | a::L,h1,h2=>by
  rw [List.map_cons,List.mem_cons,not_or] at h2;rw [List.map_cons,putD,zW hN hd (h1 a (List.mem_cons_self ..)) hi,decide_eq_false (fun g=>h2.1 g.symm),if_neg (by simp),GD nm g hi v L (fun b hb=>h1 b (List.mem_cons_of_mem _ hb)) h2.2];rfl
omit hN hd in
theorem aB3 {α:Type} (nm:α->Nat) (g:α->D) (L:List α) (i:Nat):LC (L.map fun a=>(sy N (nm a),g a)) (sy N i)=true:=by
 show (true&&(L.map fun a=>(sy N (nm a),g a)).all fun p=>isTup p.1==false)=true;rw [Bool.true_and,List.all_eq_true];intro y hy;obtain ⟨k,_,rfl⟩:=List.mem_map.mp hy;rfl
theorem J2 {pr e f g h:D} (e5:D):∀(M L:List Rw),((L++M).map (·.1)).Nodup->(∀r∈L++M,r.1<26)->L.length+M.length<=1000->∀(a b c:D),∃a' b' c',nC (tgN [2,3,4]) (aC6 1 cN (lO (aB dH (aB dB aP)))) (M.map (rwD N)) [pr,.dct (hdD N L),a,b,c,e5,f]=.ok (.nx [pr,.dct (hdD N (L++M)),a',b',c',e5,f])
 | [],L,_,_,_,a,b,c=>⟨a,b,c,by rw [List.append_nil];rfl⟩
 | r::M,L,h1,h2,h3,a,b,c=>by
  have hr:r.1<26:=h2 r (by simp);have hn:r.1∉L.map (·.1):=fun hm=>by
   rw [List.map_append,List.map_cons,List.nodup_append] at h1;exact h1.2.2 _ hm _ (List.mem_cons_self ..) rfl
  have e1:hdD N (L++[r])=putD (hdD N L) (sy N r.1) (hdV N r):=by
   unfold hdD;rw [GD hN hd (fun r:Rw=>r.1) (hdV N) hr _ L (fun x hx=>h2 x (by simp [hx])) hn,List.map_append];rfl
  rw [List.length_cons] at h3;obtain ⟨a',b',c',q⟩:=J2 (pr:=pr) (e:=e) (f:=f) (g:=g) (h:=h) e5 M (L++[r]) (by rw [List.append_assoc];exact h1) (by rw [List.append_assoc];exact h2) (by rw [List.length_append,List.length_singleton];lia) (sy N r.1) (sy N r.2.1) (.tup (r.2.2.map (sy N)));refine ⟨a',b',c',?_⟩;rw [List.map_cons];rw [List.append_assoc] at q;refine fZ (ρ1:=[pr,.dct (hdD N L),sy N r.1,sy N r.2.1,.tup (r.2.2.map (sy N)),e5,f]) rfl (aAi (i:=1) (kvs:=hdD N L) (k:=sy N r.1) (d:=hdV N r) (iT (aD rfl (aD rfl rfl)) (by rw [a_];simp)) rfl rfl (by unfold hdD;rw [List.length_map,a_];lia) (aB3 ..) (wV ..)) ?_;rw [<-e1];exact q
theorem J3 {pr:D}:∀(T:List Tk) (L:List Rw),((L++T.map tr).map (·.1)).Nodup->(∀r∈L++T.map tr,r.1<26)->L.length+T.length<=1000->(∀t∈T,t.2.2.2.length<=10)->∀(a b c d e:D),∃a' b' c' d' e',nC (tgN [2,3,5,6]) (aC6 1 cN (lO (aB dH (aB (b2 aCp (lO (aB gC aP)) gF) aP)))) (T.map (tkD N)) [pr,.dct (hdD N L),a,b,c,d,e]=.ok (.nx [pr,.dct (hdD N (L++T.map tr)),a',b',c',d',e'])
 | [],L,_,_,_,_,a,b,c,d,e=>⟨a,b,c,d,e,by rw [show L++List.map tr []=L from List.append_nil L];rfl⟩
 | t::T,L,h1,h2,h3,h4,a,b,c,d,e=>by
  have hr:(tr t).1<26:=h2 (tr t) (by simp);have hn:(tr t).1∉L.map (·.1):=fun hm=>by
   rw [List.map_cons,List.map_append,List.map_cons,List.nodup_append] at h1;exact h1.2.2 _ hm _ (List.mem_cons_self ..) rfl
  have e1:hdD N (L++[tr t])=putD (hdD N L) (sy N (tr t).1) (hdV N (tr t)):=by
   unfold hdD;rw [GD hN hd (fun r:Rw=>r.1) (hdV N) hr _ L (fun x hx=>h2 x (List.mem_append_left _ hx)) hn,List.map_append];rfl
  rw [List.length_cons] at h3;obtain ⟨a',b',c',d',e',q⟩:=J3 (pr:=pr) T (L++[tr t]) (by rw [List.append_assoc];exact h1) (by rw [List.append_assoc];exact h2) (by rw [List.length_append,List.length_singleton];lia) (fun x hx=>h4 x (List.mem_cons_of_mem _ hx)) (sy N t.1) (sy N t.2.1) c (sy N t.2.2.1) (.tup (t.2.2.2.map (sy N)));refine ⟨a',b',c',d',e',?_⟩;rw [List.map_cons];rw [List.append_assoc] at q;have hl:=h4 t (List.mem_cons_self ..);have had:aCp (.tup [sy N t.2.2.1]) (.tup (t.2.2.2.map (sy N)))=.ok (.tup ((tr t).2.2.map (sy N))):=by
   show (if decide ([sy N t.2.2.1].length+(t.2.2.2.map (sy N)).length<=lim) then Res.ok (D.tup ([sy N t.2.2.1]++t.2.2.2.map (sy N))) else .bad)=_;rw [List.length_map,a_,decide_eq_true (by simp;lia)];rfl
  refine fZ (ρ1:=[pr,.dct (hdD N L),sy N t.1,sy N t.2.1,c,sy N t.2.2.1,.tup (t.2.2.2.map (sy N))]) rfl (aAi (i:=1) (kvs:=hdD N L) (k:=sy N (tr t).1) (d:=hdV N (tr t)) (iT (aD rfl (aD (aJ (iT (aD rfl rfl) (by rw [a_];simp)) rfl had) rfl)) (by rw [a_];simp)) rfl rfl (by unfold hdD;rw [List.length_map,a_];lia) (aB3 ..) (wV ..)) ?_;rw [<-e1];exact q
structure Hds (F:List Rw):Prop where
 nd:(F.map (·.1)).Nodup
 lt:∀r∈F,r.1<26/\r.2.1<26/\(∀i∈r.2.2,i<26)/\r.2.2.length<=10
 ln:F.length<=100
theorem J4 {M:List Rw} {T:List Tk} (F:Hds (M++T.map tr)) {P0 P3:D}:gP [.tup [P0,.tup (M.map (rwD N)),.tup (T.map (tkD N)),P3]]=.ok (.dct (hdD N (M++T.map tr))):=by
 have hl:=F.ln;rw [List.length_append,List.length_map] at hl;obtain ⟨a,b,c,q1⟩:=J2 hN hd (pr:=.tup [P0,.tup (M.map (rwD N)),.tup (T.map (tkD N)),P3]) (e:=.uD) (f:=.uD) (g:=.uD) (h:=.uD) .uD M [] (by have:=F.nd;rw [List.map_append,List.nodup_append] at this;exact this.1) (fun r hr=>(F.lt r (List.mem_append_left _ hr)).1) (by simp;lia) .uD .uD .uD;obtain ⟨a2,b2',c2,d2,e2,q2⟩:=J3 hN hd (pr:=.tup [P0,.tup (M.map (rwD N)),.tup (T.map (tkD N)),P3]) T M F.nd (fun r hr=>(F.lt r hr).1) (by lia) (fun t ht=>by have:=(F.lt (tr t) (List.mem_append_right _ (List.mem_map_of_mem ht))).2.2.2;have e:(tr t).2.2.length=t.2.2.2.length+1:=rfl;lia) a b c .uD .uD;refine call_v ?_;refine aF (ρ':=[.tup [P0,.tup (M.map (rwD N)),.tup (T.map (tkD N)),P3],.dct [],.uD,.uD,.uD,.uD,.uD]) (fY (i:=1) rfl rfl) ?_;refine aF (yP ((p_ (aJ rfl rfl rfl)).trans (by rw [dJ (fM N)];rfl)) q1) ?_;exact aF (yP ((p_ (aJ rfl rfl rfl)).trans (by rw [dJ (GC N)];rfl)) q2) rfl
theorem aB4 {F:List Rw} (hF:Hds F) {r:Rw} (hr:r∈F):getD (.dct (hdD N F)) (sy N r.1)=.ok (hdV N r):=by
 show (if true then Res.ofOpt (dU (hdD N F) (sy N r.1)) else .bad)=_;unfold hdD;rw [if_pos rfl,wU hN hd (fun r:Rw=>r.1) (hdV N) F hF.nd (fun a ha=>(hF.lt a ha).1) r hr];rfl
end
end Lk46
end
section
namespace Lk46
open PySem L2 Mi
inductive Pre (A:List Rw):List Nat->List Nat->List Nat->Prop
 | nil {st:List Nat}:Pre A st [] st
 | step {r:Rw} {rest W st':List Nat}:r∈A->Pre A (r.2.2++rest) W st'->Pre A (r.2.1::rest) (r.1::W) st'
theorem VG {A:List Rw} {st V Y:List Nat} (R:Run A st V Y):∀i,i<=V.length->∃st',Pre A st (V.take i) st'/\Run A st' (V.drop i) (Y.drop i):=by
 induction R with
 | nil=>exact fun i hi=>⟨[],by rw [List.take_nil];exact .nil,by simpa using Run.nil⟩
 | @step r rest W U hr R ih=>
  intro i hi;cases i with
  | zero=>exact ⟨_,.nil,.step hr R⟩
  | succ i=>
   obtain ⟨st',h1,h2⟩:=ih i (by simpa using hi);exact ⟨st',.step hr h1,h2⟩
theorem mV {f g:FS} {ρ:List D} {c:Str} {as:List D} (h:f ρ=.err c as):aQ f g ρ=.err c as:=by
 unfold aQ;rw [h];rfl
theorem tX {n m:Nat} {f:FS} {ds:List D} {c:Str} {as:List D} (h:f (ds++List.replicate (m-n) D.uD)=.err c as):fnS n m f ds=.err c as:=by
 unfold fnS;rw [h];rfl
theorem aHb {n m:Nat} {f:FS} {ds ρ':List D} (h:f (ds++List.replicate (m-n) D.uD)=.ok (.nx ρ')):fnS n m f ds=.ok .non:=by
 unfold fnS;rw [h];rfl
theorem wX {f:List D->Res D} {a:FA} {ρ ds:List D} {r:Res D} (h:a ρ=.ok ds) (h2:f ds=r):aU f a ρ=r:=by
 unfold aU;rw [h];exact h2
theorem rG {c f w:Str} {fe:FE} {ρ:List D} (h:fe ρ=.ok (.str w)):iU c [f] (noE (aB fe aP)) ρ=.err c [.exc c [(f,w)]]:=by
 unfold iU;have e:aB fe aP ρ=.ok [.str w]:=aD h rfl;rw [cF e,Res.aK];rfl
theorem aDr {c:FT} {f g:FS} {ρ:List D} {r:Res Fl} (h:c ρ=.ok true) (h2:f ρ=r):sIf (noE c) f g ρ=r:=by
 unfold sIf;rw [cF h];exact h2
theorem aDs {c:FT} {f g:FS} {ρ:List D} {r:Res Fl} (h:c ρ=.ok false) (h2:g ρ=r):sIf (noE c) f g ρ=r:=by
 unfold sIf;rw [cF h];exact h2
noncomputable def zb0:FS:=(sIf (noE (z8 (bTr dB))) (iU "BadKind" ["word"] (noE (aB gC aP))) fH)
noncomputable def zb1:FS:=(bD false 6 (aU (iH 3 fD) (noE (aB gB (aB gC (aB dH aP))))) true)
noncomputable def zb2:FS:=(YG (noE (xTB (x2R (cC .ne) (bPu (b2 getD gF gY)) (CW 4)))) (iU "BadKind" ["word"] (noE (aB gC aP))) fH)
def zb3:FS:=(noE (aCq 4 (b1 aAr (b2 getD gF eX))))
def zb:FS:=(aQ zb0 (aQ zb1 (aQ zb2 zb3)))
theorem J5:mJ=(aQ (noE (bD true 4 (iI (aB (bPu cN) aP)) true)) (aQ (mD 1 (noT (tg1 5)) zb) (sIf (noE (bTr dB)) (iU "BadKind" ["word"] (noE (aB (bC (.str "")) aP))) fH))):=rfl
noncomputable def kdD (N:List Str) (K:List Rw):List (D×D):=K.map fun r=>(sy N r.1,sy N r.2.1)
structure Kns (F K:List Rw):Prop where
 hF:Hds F
 nd:(K.map (·.1)).Nodup
 lt:∀r∈K,r.1<26/\r.2.1<26/\r.2.2=[]/\r.1∉F.map (·.1)
 ln:K.length<=10
def Unk (N:List Str) (A:List Rw) (w:Str):Prop:=∀r∈A,N.getD r.1 "" ≠ w
theorem wY {α:Type} {N:List Str} {w:Str} (nm:α->Nat) (g:α->D):∀(L:List α),(∀a∈L,N.getD (nm a) "" ≠ w)->dU (L.map fun a=>(sy N (nm a),g a)) (.str w)=none
 | [],_=>rfl
 | a::L,h=>by
  have:eqD (sy N (nm a)) (.str w)=false:=by
   show (N.getD (nm a) "" == w)=false;exact beq_eq_false_iff_ne.mpr (h a (List.mem_cons_self ..))
  rw [List.map_cons,dU,this,if_neg (by simp)];exact wY nm g L fun b hb=>h b (List.mem_cons_of_mem _ hb)
theorem aDt {α:Type} {N:List Str} (nm:α->Nat) (g:α->D) (L:List α) (w:Str):LC (L.map fun a=>(sy N (nm a),g a)) (.str w)=true:=by
 show (true&&(L.map fun a=>(sy N (nm a),g a)).all fun p=>isTup p.1==false)=true;rw [Bool.true_and,List.all_eq_true];intro y hy;obtain ⟨k,_,rfl⟩:=List.mem_map.mp hy;rfl
theorem tY {N:List Str} (L:List Rw) (g:Rw->D) (w:Str):inX (.str w) (.dct (L.map fun r=>(sy N r.1,g r)))=.ok (.bl (dU (L.map fun r=>(sy N r.1,g r)) (.str w)).isSome):=by
 show (if LC (L.map fun r=>(sy N r.1,g r)) (.str w) then Res.ok (D.bl (dU (L.map fun r=>(sy N r.1,g r)) (.str w)).isSome) else .bad)=_;rw [aDt];rfl
section
variable {N:List Str} (hN:N.length=26) (hd:N.Nodup)
include hN hd
theorem VH {α:Type} (nm:α->Nat) (g:α->D) {i:Nat} (hi:i<26):∀(L:List α),(∀a∈L,nm a<26)->i∉L.map nm->dU (L.map fun a=>(sy N (nm a),g a)) (sy N i)=none
 | [],_,_=>rfl
 | a::L,h1,h2=>by
  rw [List.map_cons,List.mem_cons,not_or] at h2;rw [List.map_cons,dU,zW hN hd (h1 a (List.mem_cons_self ..)) hi,decide_eq_false (fun g=>h2.1 g.symm),if_neg (by simp)];exact VH nm g hi L (fun b hb=>h1 b (List.mem_cons_of_mem _ hb)) h2.2
theorem J6 {F K:List Rw} (W:Kns F K) {r:Rw} (hr:r∈K++F):fD [.dct (hdD N F),sy N r.1,.dct (kdD N K)]=.ok (hdV N r):=by
 have hF:=W.hF;refine call_v ?_;rcases List.mem_append.mp hr with hk|hrF
 ·obtain ⟨o1,o3,hp,o2⟩:=W.lt r hk;have hno:dU (hdD N F) (sy N r.1)=none:=by
   unfold hdD;exact VH hN hd (fun r:Rw=>r.1) (hdV N) o1 F (fun a ha=>(hF.lt a ha).1) o2
  have hyes:dU (kdD N K) (sy N r.1)=some (sy N r.2.1):=by
   unfold kdD;exact wU hN hd (fun r:Rw=>r.1) (fun r=>sy N r.2.1) K W.nd (fun a ha=>(W.lt a ha).1) r hk
  have hv:hdV N r=.tup [sy N r.2.1,.tup []]:=by
   unfold hdV;rw [hp];rfl
  rw [hv];refine aF (cF (lU (dG (aJ rfl rfl ((tY F (hdV N) _).trans ?_))) rfl)) (qR (cF (qM (dG (aJ rfl rfl ((tY K (fun r=>sy N r.2.1) _).trans ?_))) (fB (iT (aD (x:=sy N r.2.1) (aJ rfl rfl ?_) (aD (iT (xs:=[]) rfl (by rw [a_];simp)) rfl)) (by rw [a_];simp)) rfl))))
  ·unfold hdD at hno;show Res.ok (D.bl (dU _ (sy N r.1)).isSome)=_;rw [hno];rfl
  ·unfold kdD at hyes;show Res.ok (D.bl (dU _ (sy N r.1)).isSome)=_;rw [hyes];rfl
  ·show (if true then Res.ofOpt (dU (kdD N K) (sy N r.1)) else .bad)=_;rw [if_pos rfl,hyes];rfl
 ·have hlk:dU (hdD N F) (sy N r.1)=some (hdV N r):=by
   unfold hdD;exact wU hN hd (fun r:Rw=>r.1) (hdV N) F hF.nd (fun a ha=>(hF.lt a ha).1) r hrF
  refine qR (cF (qM (dG (aJ rfl rfl ((tY F (hdV N) _).trans ?_))) (fB (aJ rfl rfl (aB4 hN hd hF hrF)) (wV ..))));unfold hdD at hlk;show Res.ok (D.bl (dU _ (sy N r.1)).isSome)=_;rw [hlk];rfl
omit hN hd in
theorem VJ {F K:List Rw} {w:Str} (hw:Unk N (K++F) w):fD [.dct (hdD N F),.str w,.dct (kdD N K)]=.err "NoName" [.exc "NoName" [("word",w)]]:=by
 refine tX ?_;refine aF (cF (lU (dG (aJ rfl rfl ((tY F (hdV N) _).trans ?_))) rfl)) (aF (cF (lU (dG (aJ rfl rfl ((tY K (fun r=>sy N r.2.1) _).trans ?_))) rfl)) (rG rfl))
 ·rw [wY (fun r:Rw=>r.1) (hdV N) F fun a ha=>hw a (List.mem_append_right _ ha)];rfl
 ·rw [wY (fun r:Rw=>r.1) (fun r=>sy N r.2.1) K fun a ha=>hw a (List.mem_append_left _ ha)];rfl
noncomputable abbrev zs (N:List Str) (F K:List Rw) (pa wd:D) (st:List Nat) (x y:D):List D:=[.dct (hdD N F),pa,wd,.dct (kdD N K),.lst (st.reverse.map (sy N)),x,y]
omit hN hd in
theorem aHc {F K:List Rw} {pa wd y:D} {w:Str}:zb (zs N F K pa wd [] (.str w) y)=.err "BadKind" [.exc "BadKind" [("word",w)]]:=
 mV (aDr (qT (b:=false) rfl) (rG rfl))
omit hN hd in
theorem z0 {F K:List Rw} {pa wd x y:D} {k:Nat} {rest:List Nat}:zb0 (zs N F K pa wd (k::rest) x y)=.ok (.nx (zs N F K pa wd (k::rest) x y)):=by
 have ht:bTr dB (zs N F K pa wd (k::rest) x y)=.ok true:=by
  show aIx (.lst ((k::rest).reverse.map (sy N)))=_;rw [List.reverse_cons,List.map_append];cases rest.reverse.map (sy N) <;> rfl
 exact aDs (qT (b:=true) ht) rfl
omit hN hd in
theorem aJo {F K:List Rw} {pa wd y:D} {k:Nat} {rest:List Nat} {w:Str} (hw:Unk N (K++F) w):zb (zs N F K pa wd (k::rest) (.str w) y)=.err "NoName" [.exc "NoName" [("word",w)]]:=by
 refine aF z0 (mV ?_);unfold zb1 bD;rw [show aU (iH 3 fD) (noE (aB gB (aB gC (aB dH aP)))) (zs N F K pa wd (k::rest) (.str w) y)=.err "NoName" [.exc "NoName" [("word",w)]] from wX (cF (aD rfl (aD rfl (aD rfl rfl)))) ((d_ rfl).trans (VJ hw))];rfl
end
end Lk46
end
section
namespace Lk46
open PySem L2 Mi
section
variable {N:List Str} (hN:N.length=26) (hd:N.Nodup)
include hN hd
omit hN hd in
theorem aLf {F K:List Rw} {pa wd x y:D} {k:Nat} {rest:List Nat}:CW 4 (zs N F K pa wd (k::rest) x y)=.ok (sy N k,zs N F K pa wd rest x y):=by
 unfold CW;rw [show (zs N F K pa wd (k::rest) x y).getD 4 .uD=.lst (rest.reverse.map (sy N)++[sy N k]) from by
  show D.lst ((k::rest).reverse.map (sy N))=_;rw [List.reverse_cons,List.map_append];rfl]
 dsimp only;rw [List.length_append,List.length_singleton,Nat.add_sub_cancel,List.getElem?_append_right (Nat.le_refl _),Nat.sub_self,List.dropLast_concat];rfl
theorem J7 {F K:List Rw} (W:Kns F K) {r:Rw} (hr:r∈K++F):r.1<26/\r.2.1<26/\(∀i∈r.2.2,i<26)/\r.2.2.length<=10:=by
 rcases List.mem_append.mp hr with g|g
 ·obtain ⟨h1,h2,h3,_⟩:=W.lt r g;rw [h3];exact ⟨h1,h2,fun i hi=>by simp at hi,by simp⟩
 ·exact W.hF.lt r g
theorem z1 {F K:List Rw} (W:Kns F K) {pa wd y:D} {st:List Nat} {r:Rw} (hr:r∈K++F):zb1 (zs N F K pa wd st (sy N r.1) y)=.ok (.nx (zs N F K pa wd st (sy N r.1) (hdV N r))):=
 bO (i:=6) (bF (cF (aD rfl (aD rfl (aD rfl rfl)))) ((d_ rfl).trans (J6 hN hd W hr)))
theorem z2 {F K:List Rw} (W:Kns F K) {pa wd:D} {k:Nat} (hk:k<26) {rest:List Nat} {r:Rw} (hr:r∈K++F):(noE (xTB (x2R (cC .ne) (bPu (b2 getD gF gY)) (CW 4)))) (zs N F K pa wd (k::rest) (sy N r.1) (hdV N r))=.ok (!decide (r.2.1=k),zs N F K pa wd rest (sy N r.1) (hdV N r)):=
 cF (aGw (aAv (x:=sy N r.2.1) (wO (aJ rfl rfl rfl) rfl) aLf (VF hN hd (J7 hN hd W hr).2.1 hk) rfl))
theorem aHd {F K:List Rw} (W:Kns F K) {pa wd y:D} {k:Nat} (hk:k<26) {rest:List Nat} {r:Rw} (hr:r∈K++F) (ne:r.2.1≠k):zb (zs N F K pa wd (k::rest) (sy N r.1) y)=.err "BadKind" [.exc "BadKind" [("word",N.getD r.1 "")]]:=by
 refine aF z0 (aF (z1 hN hd W hr) (mV ?_));refine aAw (z2 hN hd W hk hr) ?_;rw [decide_eq_false ne];exact rG rfl
theorem aJp {F K:List Rw} (W:Kns F K) {pa wd y:D} {rest:List Nat} (hl:rest.length<=5000) {r:Rw} (hr:r∈K++F):zb (zs N F K pa wd (r.2.1::rest) (sy N r.1) y)=.ok (.nx (zs N F K pa wd (r.2.2++rest) (sy N r.1) (hdV N r))):=by
 obtain ⟨l0,l1,l2,l3⟩:=J7 hN hd W hr;refine aF z0 (aF (z1 hN hd W hr) (aF (ρ':=zs N F K pa wd rest (sy N r.1) (hdV N r)) ?_ (cF ?_)))
 ·refine aAw (z2 hN hd W l1 hr) ?_;rw [decide_eq_true rfl];rfl
 ·have hx:=aB1 (i:=4) (ρ:=zs N F K pa wd rest (sy N r.1) (hdV N r)) (f:=b1 aAr (b2 getD gF eX)) (xs:=rest.reverse.map (sy N)) (ys:=r.2.2.reverse.map (sy N)) (zX (aJ rfl rfl (z:=.tup (r.2.2.map (sy N))) rfl) (by
   show (if D.aW (r.2.2.map (sy N))&&decide ((r.2.2.map (sy N)).length<=lim) then Res.ok (D.lst (r.2.2.map (sy N)).reverse) else .bad)=_;rw [cT,List.length_map,a_,decide_eq_true (by lia),<-List.map_reverse];rfl)) rfl (by rw [List.length_map,List.length_reverse,List.length_map,List.length_reverse];lia) (cT ..)
  refine hx.trans ?_;have e7:((r.2.2++rest).reverse.map (sy N))=rest.reverse.map (sy N)++r.2.2.reverse.map (sy N):=by rw [List.reverse_append,List.map_append]
  unfold zs;rw [e7];rfl
theorem pI {F K:List Rw} (Q:Kns F K) {pa wd:D} {st W st':List Nat} (R:Pre (K++F) st W st'):W.length*10+st.length<=5000->∀(x y:D) (X:List D),∃x' y',nC (noT (tg1 5)) zb (W.map (sy N)++X) (zs N F K pa wd st x y)=nC (noT (tg1 5)) zb X (zs N F K pa wd st' x' y'):=by
 induction R with
 | nil=>exact fun _ x y X=>⟨x,y,rfl⟩
 | @step r rest W st' hr R ih=>
  intro hl x y X;have l3:=(J7 hN hd Q hr).2.2.2;rw [List.length_cons,List.length_cons] at hl;obtain ⟨x',y',q⟩:=ih (by rw [List.length_append];lia) (sy N r.1) (hdV N r) X;refine ⟨x',y',?_⟩;rw [List.map_cons,List.cons_append];exact fZ (ρ1:=zs N F K pa wd (r.2.1::rest) (sy N r.1) y) (cF rfl) (aJp hN hd Q (by lia) hr) q
theorem wZ {F K:List Rw} {k:Nat} {ws:List D} {c:Str} {as:List D} (h:nC (noT (tg1 5)) zb ws (zs N F K (.tup ws) (sy N k) [k] .uD .uD)=.err c as):dO [.dct (hdD N F),.tup ws,sy N k,.dct (kdD N K)]=.err c as:=by
 refine tX ?_;rw [J5];refine aF (ρ':=zs N F K (.tup ws) (sy N k) [k] .uD .uD) (cF (fY (i:=4) rfl rfl)) (mV ?_);unfold mD;exact h
theorem J8 {F K:List Rw} {k:Nat} {ws:List D} {st:List Nat} {x y:D} (h:nC (noT (tg1 5)) zb ws (zs N F K (.tup ws) (sy N k) [k] .uD .uD)=.ok (.nx (zs N F K (.tup ws) (sy N k) st x y))):dO [.dct (hdD N F),.tup ws,sy N k,.dct (kdD N K)]=if st=[] then .ok .non else .err "BadKind" [.exc "BadKind" [("word", "")]]:=by
 have h0:∀r,(sIf (noE (bTr dB)) (iU "BadKind" ["word"] (noE (aB (bC (.str "")) aP))) fH) (zs N F K (.tup ws) (sy N k) st x y)=r->mJ ([.dct (hdD N F),.tup ws,sy N k,.dct (kdD N K)]++List.replicate (7-4) D.uD)=r:=fun r hr=>by
  rw [J5];refine aF (ρ':=zs N F K (.tup ws) (sy N k) [k] .uD .uD) (cF (fY (i:=4) rfl rfl)) (aF (ρ':=zs N F K (.tup ws) (sy N k) st x y) ?_ hr);unfold mD;exact h
 cases st with
 | nil=>
  rw [if_pos rfl];exact aHb (h0 _ (aDs rfl rfl))
 | cons j st=>
  rw [if_neg (by simp)];refine tX (h0 _ (aDr ?_ (rG rfl)));show aIx (.lst ((j::st).reverse.map (sy N)))=_;rw [List.reverse_cons,List.map_append];cases st.reverse.map (sy N) <;> rfl
end
end Lk46
end
section
namespace Lk46
open PySem L2 Mi
def nm (N:List Str) (i:Nat):Str:=N.getD i ""
theorem t_ (N:List Str) (l:List Nat):l.map (sy N)=(l.map (nm N)).map D.str:=by
 rw [List.map_map];rfl
inductive Out (N:List Str) (A:List Rw) (k:Nat):List Str->Nat->Str->Prop
 | all {W:List Nat} {w:Str}:Pre A [k] W []->W.length<=400->Out N A k (W.map (nm N)) 0 w
 | few {W st:List Nat} {j:Nat}:Pre A [k] W (j::st)->W.length<=400->Out N A k (W.map (nm N)) 2 ""
 | many {W:List Nat} {w:Str} {X:List Str}:Pre A [k] W []->W.length<=400->Out N A k (W.map (nm N)++w::X) 2 w
 | unk {W st:List Nat} {j:Nat} {w:Str} {X:List Str}:Pre A [k] W (j::st)->W.length<=400->Unk N A w->Out N A k (W.map (nm N)++w::X) 1 w
 | bad {W st:List Nat} {j:Nat} {r:Rw} {X:List Str}:Pre A [k] W (j::st)->W.length<=400->r∈A->r.2.1≠j->Out N A k (W.map (nm N)++nm N r.1::X) 2 (nm N r.1)
def ref (c w:Str):Res D:=.err c [.exc c [("word",w)]]
noncomputable def rsO:Nat->Str->Res D
 | 0,_=>.ok .non
 | 1,w=>ref "NoName" w
 | _,w=>ref "BadKind" w
section
variable {N:List Str} (hN:N.length=26) (hd:N.Nodup)
include hN hd
theorem aHe {F K:List Rw} (Q:Kns F K) {st W st':List Nat} (R:Pre (K++F) st W st'):(∀i∈st,i<26)->∀i∈st',i<26:=by
 induction R with
 | nil=>exact fun h=>h
 | @step r rest W st' hr R ih=>
  intro h;refine ih fun i hi=>?_
  rcases List.mem_append.mp hi with g|g
  ·exact (J7 hN hd Q hr).2.2.1 i g
  ·exact h i (List.mem_cons_of_mem _ g)
theorem ZQ {F K:List Rw} (Q:Kns F K) {k:Nat} (hk:k<26) {ws:List Str} {tag:Nat} {w:Str} (O:Out N (K++F) k ws tag w):dO [.dct (hdD N F),.tup (ws.map D.str),sy N k,.dct (kdD N K)]=rsO tag w:=by
 have h1:∀i∈[k],i<26:=fun i hi=>by rw [List.mem_singleton] at hi;lia
 cases O with
 | @all W w R hl=>
  obtain ⟨x,y,q⟩:=pI hN hd Q (pa:=.tup ((W.map (nm N)).map D.str)) (wd:=sy N k) R (by simp;lia) .uD .uD [];rw [List.append_nil] at q;have e:=J8 hN hd (F:=F) (K:=K) (k:=k) (ws:=(W.map (nm N)).map D.str) (st:=[]) (x:=x) (y:=y) (by rw [<-t_] at q ⊢;exact q);exact e
 | @few W st j R hl=>
  obtain ⟨x,y,q⟩:=pI hN hd Q (pa:=.tup ((W.map (nm N)).map D.str)) (wd:=sy N k) R (by simp;lia) .uD .uD [];rw [List.append_nil] at q;have e:=J8 hN hd (F:=F) (K:=K) (k:=k) (ws:=(W.map (nm N)).map D.str) (st:=j::st) (x:=x) (y:=y) (by rw [<-t_] at q ⊢;exact q);exact e
 | @many W w X R hl=>
  obtain ⟨x,y,q⟩:=pI hN hd Q (pa:=.tup ((W.map (nm N)++w::X).map D.str)) (wd:=sy N k) R (by simp;lia) .uD .uD (.str w::X.map D.str);refine wZ hN hd ?_;rw [List.map_append,<-t_] at q ⊢;refine q.trans ?_;show (noT (tg1 5) (.str w) _ >>= _)=_;rw [show noT (tg1 5) (.str w) (zs N F K (.tup (W.map (sy N)++List.map D.str (w::X))) (sy N k) [] x y)=.ok (zs N F K (.tup (W.map (sy N)++List.map D.str (w::X))) (sy N k) [] (.str w) y) from cF rfl,Res.aK,aHc];rfl
 | @unk W st j w X R hl hw=>
  obtain ⟨x,y,q⟩:=pI hN hd Q (pa:=.tup ((W.map (nm N)++w::X).map D.str)) (wd:=sy N k) R (by simp;lia) .uD .uD (.str w::X.map D.str);refine wZ hN hd ?_;rw [List.map_append,<-t_] at q ⊢;refine q.trans ?_;show (noT (tg1 5) (.str w) _ >>= _)=_;rw [show noT (tg1 5) (.str w) (zs N F K (.tup (W.map (sy N)++List.map D.str (w::X))) (sy N k) (j::st) x y)=.ok (zs N F K (.tup (W.map (sy N)++List.map D.str (w::X))) (sy N k) (j::st) (.str w) y) from cF rfl,Res.aK,aJo hw];rfl
 | @bad W st j r X R hl hr ne=>
  have hj:=aHe hN hd Q R h1 j (List.mem_cons_self ..);obtain ⟨x,y,q⟩:=pI hN hd Q (pa:=.tup ((W.map (nm N)++nm N r.1::X).map D.str)) (wd:=sy N k) R (by simp;lia) .uD .uD (sy N r.1::X.map D.str);refine wZ hN hd ?_;rw [List.map_append,<-t_] at q ⊢;refine q.trans ?_;show (noT (tg1 5) (sy N r.1) _ >>= _)=_;rw [show noT (tg1 5) (sy N r.1) (zs N F K (.tup (W.map (sy N)++List.map D.str (nm N r.1::X))) (sy N k) (j::st) x y)=.ok (zs N F K (.tup (W.map (sy N)++List.map D.str (nm N r.1::X))) (sy N k) (j::st) (sy N r.1) y) from cF rfl,Res.aK,aHd hN hd Q hj hr ne];rfl
end
end Lk46
end
section
namespace Lk46
open PySem L2 Mi
def codeOk (c:Nat):Bool:=decide (97<=c)&&decide (c<=122)
noncomputable def bW (x:Str):Bool:=decide (1<=x.length)&&decide (x.length<=8)&&x.cps.toList.all codeOk
theorem J9 (a b:Nat):([a]<[b])↔a<b:=by
 rw [List.cons_lt_cons_iff];simp
theorem aK9 (c:Nat):jV .le (.str "a") (.str (one c))=.ok (.bl (decide (97<=c))):=by
 show Res.ok (D.bl (!decide ((one c).cps.toList<("a" : Str).cps.toList)))=_;rw [show ("a" : Str).cps.toList=[97] from rfl,show (one c).cps.toList=[c] from rfl]
 congr 2
 by_cases h:c<97
 ·rw [decide_eq_true ((J9 c 97).mpr h),decide_eq_false (by lia)];rfl
 ·rw [decide_eq_false (fun z=>h ((J9 c 97).mp z)),decide_eq_true (by lia)];rfl
theorem aLg (c:Nat):jV .le (.str (one c)) (.str "z")=.ok (.bl (decide (c<=122))):=by
 show Res.ok (D.bl (!decide (("z" : Str).cps.toList<(one c).cps.toList)))=_;rw [show ("z" : Str).cps.toList=[122] from rfl,show (one c).cps.toList=[c] from rfl]
 congr 2
 by_cases h:122<c
 ·rw [decide_eq_true ((J9 122 c).mpr h),decide_eq_false (by lia)];rfl
 ·rw [decide_eq_false (fun z=>h ((J9 122 c).mp z)),decide_eq_true (by lia)];rfl
theorem VL {α:Type} (f:α->Bool):∀xs:List α,qL (xs.map fun x=>D.bl (f x))=some (xs.map f)
 | []=>rfl
 | x::xs=>by
  show (qL (xs.map fun x=>D.bl (f x))).map (f x::·)=_;rw [VL f xs];rfl
theorem ZR (x:Str) (hx:x.length<=lim):iH 1 dY [.str x]=.ok (.bl (x.cps.toList.all codeOk)):=by
 refine (d_ rfl).trans (call_v ?_);have hi:cV gB false [D.str x]=.ok (nG x,true):=by
  show (do let d <- cL 0 [D.str x];let xs <- u9 d;pure (xs,false||d.pure))=_;show (do let xs <- (if decide (x.length<=lim) then Res.ok (nG x) else .bad);(pure (xs,true):Res (List D×Bool)))=_;rw [if_pos (decide_eq_true hx)];rfl
 have hl:(nG x).length<=lim:=by
  unfold nG;rw [List.length_map];exact hx
 have hf:jE (rW 1 oM h_ (bCh (jV .le) (jV .le) (bC (.str "a")) dN (bC (.str "z"))) true [D.str x]) [] (nG x)=.ok (x.cps.toList.map fun c=>D.bl (codeOk c)):=by
  show jE _ [] (x.cps.toList.map fun c=>D.str (one c))=_;rw [yQ _ (fun c=>D.str (one c)) (fun _=>true) (fun c=>D.bl (codeOk c))]
  ·rw [List.filter_eq_self.mpr (fun _ _=>rfl)];rfl
  ·intro acc c;refine (sW (b:=true) (y:=.bl (codeOk c)) rfl rfl fun _=>⟨?_,rfl⟩);show bCh (jV .le) (jV .le) (bC (.str "a")) dN (bC (.str "z")) [D.str x,.str (one c)]=_;by_cases h:97<=c
   ·refine aJ9 (x:=.str "a") (y:=.str (one c)) (z:=.str "z") rfl rfl ((aK9 c).trans (by rw [decide_eq_true h])) rfl ((aLg c).trans ?_);unfold codeOk;rw [decide_eq_true h,Bool.true_and]
   ·refine (aK5 (x:=.str "a") (y:=.str (one c)) rfl rfl ((aK9 c).trans (by rw [decide_eq_false h]))).trans ?_;unfold codeOk;rw [decide_eq_false h,Bool.false_and]
 refine fB (d:=.bl (x.cps.toList.all codeOk)) (bF (xs:=[.lst (x.cps.toList.map fun c=>D.bl (codeOk c))]) (aD (v9 hi hl hf) rfl) ?_) rfl;show (match qL (x.cps.toList.map fun c=>D.bl (codeOk c)) with|some bs=>Res.ok (D.bl (bs.all id))|none=>.bad)=_;rw [VL];show Res.ok (D.bl ((x.cps.toList.map codeOk).all id))=_;rw [List.all_map];rfl
theorem J_ {a b:FE} {ρ:List D} {r:Res D} (h1:a ρ=.ok (.bl true)) (h2:b ρ=r):uE a b ρ=r:=by
 unfold uE;rw [h1];exact h2
theorem aB5 {a b:FE} {ρ:List D} (h1:a ρ=.ok (.bl false)):uE a b ρ=.ok (.bl false):=by
 unfold uE;rw [h1];rfl
theorem len_str (x:Str) (hx:x.length<=lim):eY [.str x]=.ok (.int x.length):=by
 show (if decide (x.length<=lim) then Res.ok (D.int x.length) else .bad)=_;rw [if_pos (decide_eq_true hx)]
theorem uA (o:xZ) (a b:Int):jV o (.int a) (.int b)=.ok (.bl (o.int a b)):=rfl
theorem aDu (x:Str) (hx:x.length<=lim):iH 1 mK [.str x]=.ok (.bl (bW x)):=by
 refine (d_ rfl).trans (call_v ?_);have hlen:aU eY (aB gB aP) [D.str x]=.ok (.int x.length):=bF (aD rfl rfl) (len_str x hx);refine fB (d:=.bl (bW x)) ?_ rfl;unfold bW;by_cases h1:1<=x.length
 ·by_cases h2:x.length<=8
  ·refine J_ (aJ9 (x:=.int 1) (z:=.int 8) rfl hlen ((uA .le 1 x.length).trans ?_) rfl ((uA .le x.length 8).trans ?_)) (bF (aD rfl rfl) ((ZR x hx).trans ?_))
   ·rw [show xZ.le.int 1 x.length=true from decide_eq_true (by lia)]
   ·rw [show xZ.le.int x.length 8=true from decide_eq_true (by lia)]
   ·rw [decide_eq_true h1,decide_eq_true h2];rfl
  ·refine (aB5 (aJ9 (x:=.int 1) (z:=.int 8) rfl hlen ((uA .le 1 x.length).trans ?_) rfl ((uA .le x.length 8).trans ?_))).trans ?_
   ·rw [show xZ.le.int 1 x.length=true from decide_eq_true (by lia)]
   ·rw [show xZ.le.int x.length 8=false from decide_eq_false (by lia)]
   ·rw [decide_eq_false h2,Bool.and_false,Bool.false_and]
 ·refine (aB5 (aK5 (x:=.int 1) rfl hlen ((uA .le 1 x.length).trans ?_))).trans ?_
  ·rw [show xZ.le.int 1 x.length=false from decide_eq_false (by lia)]
  ·rw [decide_eq_false h1,Bool.false_and,Bool.false_and]
theorem VM {w:Str} (h:Nm w):bW w=true:=by
 obtain ⟨h1,h2,h3⟩:=h;unfold bW;rw [decide_eq_true h1,decide_eq_true h2,Bool.true_and,Bool.true_and,List.all_eq_true];intro c hc;obtain ⟨a,b⟩:=h3 c hc;unfold codeOk;rw [decide_eq_true a,decide_eq_true b];rfl
theorem KC {α:Type} (g:List D->D->Res (List D)) (d y:α->D):∀(xs:List α) (acc:List D),(∀a∈xs,∀acc,g acc (d a)=.ok (acc++[y a]))->jE g acc (xs.map d)=.ok (acc++xs.map y)
 | [],acc,_=>by simp [jE]
 | x::xs,acc,h=>by
  rw [List.map_cons,jE,h x (List.mem_cons_self ..)];show jE g _ _=_;rw [KC g d y xs _ fun a ha=>h a (List.mem_cons_of_mem _ ha)];simp
theorem aDv {n:Nat} {t:D->Res (List D)} {f:FE} {k:Bool} {ρ acc bs:List D} {x y:D} (hρ:ρ.length=n) (ht:t x=.ok bs) (h2:f (ρ++bs)=.ok y) (h3:(k||y.pure)=true):rW n t h_ f k ρ acc x=.ok (acc++[y]):=by
 unfold rW;rw [ht,Res.aK,yO hρ,show h_ (ρ++bs)=.ok true from rfl,Res.aK,if_pos rfl,h2,Res.aK,if_pos h3];rfl
theorem VN {ws:List Str} (h:∀w∈ws,w.length<=1000) (hl:ws.length<=1000):iH 1 gQ [.tup (ws.map D.str)]=.ok (.bl (ws.all bW)):=by
 refine (d_ rfl).trans (call_v ?_);have hf:jE (rW 1 oM h_ (aU (iH 1 mK) (aB dN aP)) true [D.tup (ws.map D.str)]) [] (ws.map D.str)=.ok (ws.map fun w=>D.bl (bW w)):=
  KC _ D.str (fun w=>D.bl (bW w)) ws [] fun w hw acc=>aDv (n:=1) (bs:=[.str w]) rfl rfl (bF (xs:=[.str w]) (aD rfl rfl) (aDu w (by rw [a_];have:=h w hw;lia))) rfl
 refine fB (d:=.bl (ws.all bW)) (bF (xs:=[.lst (ws.map fun w=>D.bl (bW w))]) (aD (v9 (p_ rfl) (by rw [List.length_map,a_];lia) hf) rfl) ?_) rfl;show (match qL (ws.map fun w=>D.bl (bW w)) with|some bs=>Res.ok (D.bl (bs.all id))|none=>.bad)=_;rw [VL bW];show Res.ok (D.bl ((ws.map bW).all id))=_;rw [List.all_map];rfl
end Lk46
end
section
namespace Lk46
open PySem L2 Mi
theorem KD {c:Nat}:∀{a b r s:List Nat},c∉a->c∉b->a++c::r=b++c::s->a=b/\r=s
 | [],[],r,s,_,_,h=>by simpa using h
 | [],y::b,r,s,_,hb,h=>by
  injection h with h1 h2
  exact absurd (by rw [h1];exact List.mem_cons_self ..) hb
 | x::a,[],r,s,ha,_,h=>by
  injection h with h1 h2
  exact absurd (by rw [<-h1];exact List.mem_cons_self ..) ha
 | x::a,y::b,r,s,ha,hb,h=>by
  injection h with h1 h2
  obtain ⟨h3,h4⟩:=KD (fun z=>ha (List.mem_cons_of_mem _ z)) (fun z=>hb (List.mem_cons_of_mem _ z)) h2;exact ⟨by rw [h1,h3],h4⟩
theorem fW (c:Nat) (x y:Str) (r:List Str):(Str.join ⟨#[c]⟩ (x::y::r)).cps.toList=x.cps.toList++c::(Str.join ⟨#[c]⟩ (y::r)).cps.toList:=by
 show ((x.cps++#[c])++(Str.join ⟨#[c]⟩ (y::r)).cps).toList=_;simp
theorem uB {x y:Str} (h:x.cps.toList=y.cps.toList):x=y:=Str.ext' (Array.toList_inj.mp h)
theorem KH {c:Nat}:∀{ps qs:List Str},(∀p∈ps,c∉p.cps.toList)->(∀q∈qs,c∉q.cps.toList)->ps≠[]->qs≠[]->(Str.join ⟨#[c]⟩ ps).cps.toList=(Str.join ⟨#[c]⟩ qs).cps.toList->ps=qs
 | [],_,_,_,h,_,_=>absurd rfl h
 | _,[],_,_,_,h,_=>absurd rfl h
 | [p],[q],_,_,_,_,h=>by rw [uB (x:=p) (y:=q) h]
 | [p],q::q2::qs,hp,_,_,_,h=>by
  rw [fW] at h;have:c∈p.cps.toList:=by
   rw [show p.cps.toList=_ from h];exact List.mem_append_right _ (List.mem_cons_self ..)
  exact absurd this (hp p (List.mem_cons_self ..))
 | p::p2::ps,[q],_,hq,_,_,h=>by
  rw [fW] at h;have:c∈q.cps.toList:=by
   rw [show q.cps.toList=_ from h.symm];exact List.mem_append_right _ (List.mem_cons_self ..)
  exact absurd this (hq q (List.mem_cons_self ..))
 | p::p2::ps,q::q2::qs,hp,hq,_,_,h=>by
  rw [fW,fW] at h;obtain ⟨h1,h2⟩:=KD (hp p (List.mem_cons_self ..)) (hq q (List.mem_cons_self ..)) h;have:=KH (ps:=p2::ps) (qs:=q2::qs) (fun z hz=>hp z (List.mem_cons_of_mem _ hz)) (fun z hz=>hq z (List.mem_cons_of_mem _ hz)) (by simp) (by simp) h2;rw [uB h1,this]
theorem ZS (x:Str) (c:Nat):Txt.split x ⟨#[c]⟩≠[]:=fun h=>by
 have h1:=StrLaws.join_split x ⟨#[c]⟩;rw [h] at h1;have hx:x.length=0:=by rw [<-h1];rfl
 unfold Txt.split at h;rw [if_pos (by rw [Bool.or_eq_true,decide_eq_true_eq];left;rw [hx];exact Nat.zero_lt_one)] at h;cases h
theorem N8 {c:Nat} {ts:List Str} (hn:ts≠[]) (hf:∀t∈ts,c∉t.cps.toList):Txt.split (Txt.join ⟨#[c]⟩ ts) ⟨#[c]⟩=ts:=by
 have e:Txt.join ⟨#[c]⟩ ts=Str.join ⟨#[c]⟩ ts:=StrLaws.glued_eq_join _ _;rw [e];exact KH (StrLaws.split_free _ c) hf (ZS _ c) hn (by rw [StrLaws.join_split])
theorem KJ (c:Nat) (B:Nat):∀ts:List Str,(∀t∈ts,t.length<=B)->(Txt.join ⟨#[c]⟩ ts).length<=ts.length*(B+1):=by
 intro ts h;have e:Txt.join ⟨#[c]⟩ ts=Str.join ⟨#[c]⟩ ts:=StrLaws.glued_eq_join _ _;rw [e];have h1:=StrLaws.join_length_le ⟨#[c]⟩ ts;have h2:(ts.map (·.length)).sum<=ts.length*B:=by
  clear h1 e;induction ts with
  | nil=>simp
  | cons t ts ih=>
   have a:=h t (List.mem_cons_self ..);have b:=ih fun x hx=>h x (List.mem_cons_of_mem _ hx)
   simp only [List.map_cons,List.sum_cons,List.length_cons,Nat.succ_mul];lia
 have h3:(⟨#[c]⟩:Str).length=1:=rfl;rw [h3] at h1;have:ts.length*(B+1)=ts.length*B+ts.length*1:=by rw [Nat.mul_add]
 lia
theorem VP {c B:Nat} {ts:List Str} (h:∀t∈ts,t.length<=B) (hb:ts.length*B+ts.length<=1000000):JoinOk ⟨#[c]⟩ ts=true:=by
 unfold JoinOk;rw [Bool.not_eq_true'];exact StrLaws.joinFits h (by rw [show (⟨#[c]⟩:Str).length=1 from rfl,Nat.mul_one];lia)
theorem zY:∀ts:List Str,nH (ts.map D.str)=some ts
 | []=>rfl
 | t::ts=>by
  show (nH (ts.map D.str)).map (t::·)=_;rw [zY ts];rfl
theorem lL (c:Nat) (ts:List Str):Txt.join ⟨#[c]⟩ ts=Str.join ⟨#[c]⟩ ts:=StrLaws.glued_eq_join _ _
theorem w6 (c:Nat):∀(A:List Str),∃p:List Nat,∀(z:Str) (B:List Str),(Str.join ⟨#[c]⟩ (A++z::B)).cps.toList=p++(Str.join ⟨#[c]⟩ (z::B)).cps.toList
 | []=>⟨[],fun z B=>rfl⟩
 | [a]=>⟨a.cps.toList++[c],fun z B=>by rw [List.cons_append,List.nil_append,fW];simp⟩
 | a::a2::A=>by
  obtain ⟨p,h⟩:=w6 c (a2::A);exact ⟨a.cps.toList++c::p,fun z B=>by rw [List.cons_append,List.cons_append,fW];have:=h z B;rw [List.cons_append] at this;rw [this];simp⟩
theorem aDw (c:Nat) (B:List Str):∃s:List Nat,∀z:Str,(Str.join ⟨#[c]⟩ (z::B)).cps.toList=z.cps.toList++s:=by
 cases B with
 | nil=>exact ⟨[],fun z=>by rw [List.append_nil];rfl⟩
 | cons b B=>exact ⟨_,fun z=>fW ..⟩
theorem dM (x y:Str):(x++y).cps.toList=x.cps.toList++y.cps.toList:=by
 show (x.cps++y.cps).toList=_;simp
theorem aDx (A B:List Str) (x y:Str):Txt.join " " (A++[x])++("\n" : Str)++Txt.join " " (y::B)=Txt.join " " (A++(x++("\n" : Str)++y)::B):=by
 have e:(" " : Str)=⟨#[32]⟩:=rfl;rw [e,lL,lL,lL];apply uB;obtain ⟨p,hp⟩:=w6 32 A;obtain ⟨s,hs⟩:=aDw 32 B;rw [dM,dM,hp,hs,hp,hs,dM,dM];show p++x.cps.toList++_++(y.cps.toList++s)=_;simp
theorem VR (A:List Str) (x:Str):Txt.join " " (A++[x])++("\n" : Str)=Txt.join " " (A++[x++("\n" : Str)]):=by
 have e:(" " : Str)=⟨#[32]⟩:=rfl;rw [e,lL,lL];apply uB;obtain ⟨p,hp⟩:=w6 32 A;rw [dM,hp,hp];show p++x.cps.toList++_=p++(x++("\n" : Str)).cps.toList;rw [dM];simp
theorem zZ (y:Str) (B:List Str):("copy " : Str)++Txt.join " " (y::B)=Txt.join " " ("copy" :: y::B):=by
 have e:(" " : Str)=⟨#[32]⟩:=rfl;rw [e,lL,lL];apply uB;rw [dM,fW];rfl
end Lk46
end
section
namespace Lk46
open PySem L2 Mi
theorem ZV {x:Str} {y:Str} {ts:List Str} (hx:x.length<=100000) (hs:Txt.split x y=ts) (ht:ts.length<=1000) (hy:(y.length==0)=false):splitM (.str x) [.str y]=.ok (.lst (ts.map D.str)):=by
 show (if decide (x.length<=lim)&&decide ((Txt.split x y).length<=lim)&&!(y.length==0) then Res.ok (D.lst ((Txt.split x y).map D.str)) else .bad)=_;rw [hs,hy,decide_eq_true (by rw [a_];lia),decide_eq_true (by rw [a_];lia)];rfl
theorem aHf {f:D->D->Res D} {fa fb:FE} {ρ:List D} {x y d:D} (h1:fa ρ=.ok x) (h2:fb ρ=.ok y) (h3:f x y=.ok d) (hp:d.pure=true):DR f fa fb ρ=.ok d:=by
 unfold DR;rw [h1,Res.aK,cF h2,Res.aK,h3];exact if_pos hp
theorem aDy {f:D->D->Res D} {fa fb:FE} {ρ:List D} {c:Str} {as:List D} (h1:fa ρ=.err c as):DR f fa fb ρ=.err c as:=by
 unfold DR;rw [h1];rfl
theorem aB6 {a:FE} {b:FA} {ρ:List D} {x:D} {c:Str} {as:List D} (h1:a ρ=.ok x) (h2:b ρ=.err c as):aB a b ρ=.err c as:=by
 unfold aB;rw [h1,Res.aK,h2];rfl
theorem aHg {a:FE} {b:FA} {ρ:List D} {c:Str} {as:List D} (h1:a ρ=.err c as):aB a b ρ=.err c as:=by
 unfold aB;rw [h1];rfl
theorem aHh {f:List D->Res D} {a:FA} {ρ:List D} {c:Str} {as:List D} (h:a ρ=.err c as):aU f a ρ=.err c as:=by
 unfold aU;rw [h];rfl
theorem aDz {f:FE} {ρ:List D} {d:D} (h:f ρ=.ok d):pN f ρ=.ok (.nx ρ):=by
 unfold pN;rw [h];rfl
theorem xF {f:FE} {ρ:List D} {c:Str} {as:List D} (h:f ρ=.err c as):pN f ρ=.err c as:=by
 unfold pN;rw [h];rfl
noncomputable def tm0:FS:=(noE (bD false 2 (aU g_ (aB (bM splitM dN (aB (bC (.str " ")) aP)) aP)) false))
noncomputable def tmc:FT:=(bOr (bTB (b2 (jV .gt) (aU eY (aB cN aP)) BW)) (z8 (bTr (aU (iH 1 gQ) (aB cN aP)))))
def tm2:FS:=(noE (bD false 3 (aU (iH 1 gP) (aB gB aP)) true))
noncomputable def tmh:FE:=(DR getD (aU (iH 3 fD) (noE (aB dH (aB (b2 getD cN gY) (aB (bC (.dct [])) aP))))) gY)
noncomputable def tm3:FS:=(pN (aU (iH 4 dO) (aB (noE dH) (aB (noE cN) (aB tmh (noE (aB (bC (.dct [])) aP)))))))
def tm4:FS:=(noE (j8 cN false))
theorem aB7:JW=(aQ tm0 (aQ (sIf (noE tmc) (DQ "NoTerm") fH) (aQ tm2 (aQ tm3 tm4)))):=rfl
def nt:Res D:=.err "NoTerm" [.exc "NoTerm" []]
structure Tx (ts:List Str):Prop where
 ne:ts≠[]
 fr:∀t∈ts,32∉t.cps.toList
 ln:ts.length<=100
 wl:∀t∈ts,t.length<=50
theorem qG:∀L:List Str,D.aW (L.map D.str)=true
 | []=>rfl
 | x::L=>by
  show ((D.str x).pure&&D.aW (L.map D.str))=true;rw [qG L];rfl
theorem aB8 {P:D} {ts:List Str} (H:Tx ts) (d:D):tm0 [P,.str (Txt.join " " ts),.uD,d]=.ok (.nx [P,.str (Txt.join " " ts),.tup (ts.map D.str),d]):=by
 have hs:Txt.split (Txt.join " " ts) " " = ts:=N8 (c:=32) H.ne H.fr;have hl:=KJ 32 50 ts H.wl;have ln:=H.ln;have hx:(Txt.join " " ts).length<=100000:=by
  have:(Txt.join " " ts).length<=ts.length*51:=hl;lia
 refine cF (nZ (i:=2) (d:=.tup (ts.map D.str)) (bF (aD (ZF rfl (aD rfl rfl) (ZV hx hs (by lia) rfl)) rfl) rfl) ?_);show D.aW (ts.map D.str)=true;exact qG ts
theorem aB9 {P:D} {ts:List Str} (H:Tx ts) (x d:D):tmc [P,x,.tup (ts.map D.str),d]=.ok (decide (60<ts.length)||!(ts.all bW)):=by
 have ln:=H.ln;have c1:bTB (b2 (jV .gt) (aU eY (aB cN aP)) BW) [P,x,.tup (ts.map D.str),d]=.ok (decide (60<ts.length)):=by
  refine dG (aJ (x:=.int ts.length) (bF (aD rfl rfl) ?_) rfl ((cmp_gt _ _).trans ?_))
  ·show Res.ok (D.int ((ts.map D.str).length:Int))=_;rw [List.length_map]
  ·congr 2
   exact decide_eq_decide.mpr (by lia)
 have c2:z8 (bTr (aU (iH 1 gQ) (aB cN aP))) [P,x,.tup (ts.map D.str),d]=.ok (!(ts.all bW)):=qT (N7 (bF (aD rfl rfl) (VN (fun w hw=>by have:=H.wl w hw;lia) (by lia))));exact aDf c1 c2
theorem xG {P:D} {ts:List Str} (H:Tx ts) (bad:60<ts.length\/ts.all bW=false):gH [P,.str (Txt.join " " ts)]=nt:=by
 refine tX ?_;show JW [P,.str (Txt.join " " ts),.uD,.uD]=_;rw [aB7];refine aF (aB8 H _) (mV (aDr ((aB9 H _ _).trans ?_) rfl));rcases bad with h|h
 ·rw [decide_eq_true h,Bool.true_or]
 ·rw [h,Bool.not_false,Bool.or_true]
section
variable {N:List Str} (hN:N.length=26) (hd:N.Nodup)
include hN hd
theorem aE0 {F:List Rw} (hF:Hds F):Kns F []:=⟨hF,by simp,fun r hr=>absurd hr (by simp),by simp⟩
theorem ZW {M:List Rw} {T:List Tk} (hF:Hds (M++T.map tr)) {P0 P3:D} {ts:List Str} (H:Tx ts) (h60:ts.length<=60) (hnm:ts.all bW=true) {res:Res Fl} (h:(aQ tm3 tm4) [.tup [P0,.tup (M.map (rwD N)),.tup (T.map (tkD N)),P3],.str (Txt.join " " ts),.tup (ts.map D.str),.dct (hdD N (M++T.map tr))]=res):JW [.tup [P0,.tup (M.map (rwD N)),.tup (T.map (tkD N)),P3],.str (Txt.join " " ts),.uD,.uD]=res:=by
 rw [aB7];refine aF (aB8 H _) (aF (aDs ((aB9 H _ _).trans ?_) rfl) (aF ?_ h))
 ·rw [decide_eq_false (by lia),hnm];rfl
 ·exact cF (bO (i:=3) (bF (aD rfl rfl) ((d_ rfl).trans (J4 hN hd hF))))
theorem ZX {M:List Rw} {T:List Tk} (hF:Hds (M++T.map tr)) {P0 P3:D} {w:Str} {ts:List Str} (H:Tx (w::ts)) (h60:(w::ts).length<=60) (hnm:(w::ts).all bW=true) (hw:Unk N (M++T.map tr) w):gH [.tup [P0,.tup (M.map (rwD N)),.tup (T.map (tkD N)),P3],.str (Txt.join " " (w::ts))]=ref "NoName" w:=by
 refine tX (ZW hN hd hF H h60 hnm (mV (xF (aHh (aB6 (cF rfl) (aB6 (cF rfl) (aHg (aDy (wX (cF (aD rfl (aD (x:=.str w) (aJ (x:=.tup ((w::ts).map D.str)) rfl rfl (rF (i:=0) rfl rfl)) (aD rfl rfl)))) ((d_ rfl).trans ?_))))))))));exact VJ (K:=[]) (by rw [List.nil_append];exact hw)
theorem KN {M:List Rw} {T:List Tk} (hF:Hds (M++T.map tr)) {P0 P3:D} {r:Rw} (hr:r∈M++T.map tr) {ts:List Str} (H:Tx (nm N r.1::ts)) (h60:(nm N r.1::ts).length<=60) (hnm:(nm N r.1::ts).all bW=true) {tag:Nat} {w:Str} (O:Out N (M++T.map tr) r.2.1 (nm N r.1::ts) tag w):gH [.tup [P0,.tup (M.map (rwD N)),.tup (T.map (tkD N)),P3],.str (Txt.join " " (nm N r.1::ts))]=(do let _ <- rsO tag w;.ok (.tup ((nm N r.1::ts).map D.str))):=by
 have Q:=aE0 hN hd hF;have hk:r.2.1<26:=(hF.lt r hr).2.1;have hh:=J6 hN hd Q (r:=r) (by rw [List.nil_append];exact hr);have hwk:=ZQ hN hd Q hk (ws:=nm N r.1::ts) (tag:=tag) (w:=w) (by rw [List.nil_append];exact O);have hc:aU (iH 4 dO) (aB (noE dH) (aB (noE cN) (aB tmh (noE (aB (bC (.dct [])) aP))))) [.tup [P0,.tup (M.map (rwD N)),.tup (T.map (tkD N)),P3],.str (Txt.join " " (nm N r.1::ts)),.tup ((nm N r.1::ts).map D.str),.dct (hdD N (M++T.map tr))]=rsO tag w:=
  wX (aD (cF rfl) (aD (cF rfl) (aD (x:=sy N r.2.1) (aHf (x:=hdV N r) (bF (cF (aD rfl (aD (x:=sy N r.1) (aJ (x:=.tup ((nm N r.1::ts).map D.str)) rfl rfl (rF (f:=D.str) (i:=0) rfl rfl)) (aD rfl rfl)))) ((d_ rfl).trans hh)) rfl rfl rfl) (cF (aD rfl rfl))))) ((d_ rfl).trans hwk)
 cases tag with
 | zero=>
  have hc:_=Res.ok D.non:=hc;refine call_v (ZW hN hd hF H h60 hnm (aF (aDz hc) (cF (fB rfl ?_))));show D.aW ((nm N r.1::ts).map D.str)=true;exact qG _
 | succ n=>
  cases n with
  | zero=>exact tX (ZW hN hd hF H h60 hnm (mV (xF hc)))
  | succ n=>exact tX (ZW hN hd hF H h60 hnm (mV (xF hc)))
end
end Lk46
end
section
namespace Lk46
open PySem L2 Mi
noncomputable def sp0:FS:=(bD false 6 (b2 (aO .mod) dN (aU eY (aB cN aP))) true)
noncomputable def sp1:FS:=(bD false 1 (b2 (aO .fdiv) dN (aU eY (aB cN aP))) true)
noncomputable def sp2:FS:=(bD false 7 (b2 getD gC (b2 (aO .mod) dN (aU eY (aB gC aP)))) false)
noncomputable def sp3:FS:=(sIf (bTB (b2 (cC .eq) gB gY)) (j8 (iI (aB (iB cN cP (cD gF)) (aB m7 (aB (bC (.str "")) aP)))) true) fH)
noncomputable def sp4:FS:=(sIf (bTB (b2 (cC .eq) gB eX)) (aQ (bD false 8 (b2 (aO .add) gC (e_ 10 (cV dB false) oM h_ (b2 getD jK gY) false)) true) (aQ (bD false 7 (b2 getD j7 (b2 (aO .mod) dN (aU eY (aB j7 aP)))) false) (j8 (iI (aB (b2 (aO .add) cN (iI (aB (bPu gG) aP))) (aB m7 (aB (bPu gG) aP)))) true))) fH)
noncomputable def sp5:FS:=(bD false 9 (e_ 10 (cV dB false) oM (bTB (b2 (cC .ne) (b2 getD jK eX) (b2 getD dH gF))) (b2 getD jK gY) false) true)
noncomputable def spM (j:Int):FS:=(j8 (iI (aB (b2 (aO .add) (b2 (aO .add) (iB cN cP (cD gF)) (iI (aB (bPu gG) aP))) (iB cN (cD (b2 (aO .add) gF eX)) cP)) (aB (bC (.int j)) (aB (bPu gG) aP)))) true)
noncomputable def sp6:FS:=(sIf (z9 (bTB (b2 (cC .eq) gB gK)) (z9 (bTB (b2 (jV .gt) gF gY)) (bTB (b2 (cC .ne) pM (iI aP))))) (aQ (bD false 7 (b2 getD pM (b2 (aO .mod) (b2 (aO .fdiv) dN rC) (aU eY (aB pM aP)))) false) (spM 2)) fH)
theorem aHi:jQ=(aQ sp0 (aQ sp1 (aQ sp2 (aQ sp3 (aQ sp4 (aQ sp5 (aQ sp6 (spM 1)))))))):=rfl
theorem GF {f:FA} {ρ ds:List D} (h:f ρ=.ok ds) (hl:ds.length<=1000):iI f ρ=.ok (.lst ds):=by
 unfold iI;rw [h,Res.aK,a_,if_pos (decide_eq_true (by lia))];rfl
theorem GJ {i:Nat} {f:FE} {ρ:List D} {d:D} (h:f ρ=.ok d) (hp:d.pure=true):bD false i f false ρ=.ok (.nx (ρ.set i d)):=by
 unfold bD;rw [h,Res.aK,if_pos];simpa using hp
theorem oK:∀l:List Str,D.aW (l.map D.str)=true
 | []=>rfl
 | a::l=>by
  show (true&&D.aW (l.map D.str))=true;rw [oK l];rfl
theorem ZZ {l:List Str} {i:Nat} {x:Int} {a:Str} (hx:x=i) (h:l[i]?=some a):getD (.lst (l.map D.str)) (.int x)=.ok (.str a):=qF hx h
theorem GK {ρ:List D} {i:Nat} {xs:List D} (h:cL i ρ=.ok (.lst xs)):aU eY (aB (cL i) aP) ρ=.ok (.int xs.length):=bF (aD h rfl) rfl
noncomputable abbrev qs (N:List Str) (c m:Int) (V Y:List Nat) (A:List Rw) (S:List Str) (a b o d:D):List D:=[.int c,.int m,.lst (V.map (sy N)),.lst (Y.map (sy N)),.lst (A.map (rwD N)),.lst (S.map D.str),a,b,o,d]
theorem add_l {a b:List D} (ha:D.aW a=true) (hb:D.aW b=true) (h:a.length+b.length<=10000):aO .add (.lst a) (.lst b)=.ok (.lst (a++b)):=CN a b (by rw [a_];lia) ha hb
theorem aHj {A:List Rw} {k:Nat} {V Y:List Nat} (R:Run A [k] V Y) {i:Nat} (hi:i<V.length):∃st,Pre A [k] (V.take i) (Y.getD i 0::st):=by
 obtain ⟨st',h1,h2⟩:=VG R i (by lia);have hl:=(wW R).2;have e1:V.drop i=V[i]::V.drop (i+1):=List.drop_eq_getElem_cons hi;have e2:Y.drop i=Y[i]'(by lia)::Y.drop (i+1):=List.drop_eq_getElem_cons (by lia);rw [e1,e2] at h2;generalize V[i]=v at h2;obtain ⟨y,hy⟩:∃y,Y[i]'(by lia)=y:=⟨_,rfl⟩
 rw [hy] at h2;have e3:Y.getD i 0=y:=by rw [List.getD_eq_getElem?_getD,List.getElem?_eq_getElem (by lia),<-hy];rfl
 cases h2 with
 | @step r rest _ _ hr _=>exact ⟨rest,by rw [e3];exact h1⟩
theorem VV {A:List Rw} {k:Nat} {V Y:List Nat} (R:Run A [k] V Y):Pre A [k] V []:=by
 obtain ⟨st',h1,h2⟩:=VG R V.length (Nat.le_refl _);rw [List.take_length] at h1;rw [List.drop_length,List.drop_eq_nil_of_le (by rw [<-(wW R).2];exact Nat.le_refl _)] at h2;cases h2;exact h1
inductive Oc (N:List Str) (A:List Rw):List Str->Nat->Str->Prop
 | hd {r:Rw} {ts:List Str} {tag:Nat} {w:Str}:r∈A->Out N A r.2.1 (nm N r.1::ts) tag w->Oc N A (nm N r.1::ts) tag w
 | un {w:Str} {ts:List Str}:Unk N A w->Oc N A (w::ts) 1 w
theorem aBa {A:List Rw} {k:Nat} {V Y:List Nat} (R:Run A [k] V Y):∃r∈A,∃W,V=r.1::W/\r.2.1=k:=by
 cases R with
 | @step r rest W U hr _=>exact ⟨r,hr,W,rfl,rfl⟩
theorem Z0 {N:List Str} {A:List Rw} {k:Nat} {V Y:List Nat} (R:Run A [k] V Y) {i:Nat} (hi:0<i) {X:List Str} {tag:Nat} {w:Str} (O:Out N A k ((V.take i).map (nm N)++X) tag w):Oc N A ((V.take i).map (nm N)++X) tag w:=by
 obtain ⟨r,hr,W,rfl,rfl⟩:=aBa R;cases i with
 | zero=>exact absurd hi (Nat.lt_irrefl _)
 | succ i=>
  rw [List.take_succ_cons,List.map_cons,List.cons_append] at O ⊢;exact .hd hr O
section
variable {N:List Str} (hN:N.length=26) (hd:N.Nodup)
include hN hd
theorem Z1 {c m:Int} (c0:0<=c) (c3:c<=3) {k:Nat} {V Y:List Nat} {A:List Rw} {S:List Str} (R:Run A [k] V Y) (hV2:V.length<=400) (hS:S.length=5) (hU:∀s∈S,Unk N A s) (hA:A.length<=100) (hAl:∀r∈A,r.1<26/\r.2.1<26) (hYl:∀i∈Y,i<26) (hok:∀i,i<26->bW (nm N i)=true) (hSo:∀s∈S,bW s=true) (hVl:∀i∈V,i<26) :
  ∃(ws:List Str) (tag:Nat) (w:Str),(tag=1\/tag=2)/\(ws=[]\/Oc N A ws tag w)/\ws.length<=V.length+1/\ws.all bW=true/\bQ [.int c,.int m,.lst (V.map (sy N)),.lst (Y.map (sy N)),.lst (A.map (rwD N)),.lst (S.map D.str)]=.ok (.lst [.lst (ws.map D.str),.int tag,.str w]):=by
 have rl:=wW R;have hV:0<V.length:=by have:=rl.1;simp at this;lia
 obtain ⟨at_,a1,a2⟩:=kix (m:=V.length) hV m
 let m':Int:=m / (V.length:Int)
 obtain ⟨oi,o1,o2⟩:=kix (m:=5) (by lia) m';obtain ⟨odd,od⟩:∃odd,S[oi]?=some odd:=⟨_,List.getElem?_eq_getElem (by lia)⟩
 have hodd:odd∈S:=List.mem_of_getElem? od;have hu:=hU odd hodd;obtain ⟨st,hst⟩:=aHj R a1;have tl:(V.take at_).length<=400:=by rw [List.length_take];lia
 have hy:Y[at_]?=some (Y.getD at_ 0):=by rw [List.getD_eq_getElem?_getD,List.getElem?_eq_getElem (by lia)];rfl
 have hyl:Y.getD at_ 0<26:=hYl _ (List.mem_of_getElem? hy);obtain ⟨y,hy0⟩:∃y,Y.getD at_ 0=y:=⟨_,rfl⟩
 rw [hy0] at hy hyl hst;have okt:∀L:List Nat,(∀i∈L,i∈V)->(L.map (nm N)).all bW=true:=fun L hL=>by
  rw [List.all_map,List.all_eq_true];exact fun i hi=>hok i (hVl i (hL i hi))
 have okm:∀x:Str,bW x=true->((V.take at_).map (nm N)++x::(V.drop (at_+1)).map (nm N)).all bW=true:=fun x hx=>by
  rw [List.all_append,List.all_cons,okt _ (fun i hi=>List.mem_of_mem_take hi),hx,okt _ (fun i hi=>List.mem_of_mem_drop hi)];rfl
 have lnm:∀x:Str,((V.take at_).map (nm N)++x::(V.drop (at_+1)).map (nm N)).length<=V.length+1:=fun x=>by
  rw [List.length_append,List.length_cons,List.length_map,List.length_map,List.length_take,List.length_drop];lia
 have t0:sp0 (qs N c m V Y A S .uD .uD .uD .uD)=.ok (.nx (qs N c m V Y A S (.int at_) .uD .uD .uD)):=by
  rw [<-a2];exact bO (i:=6) (aJ rfl (GK rfl) ((bV _ _ (by rw [List.length_map];lia)).trans (by rw [List.length_map])))
 have t1:sp1 (qs N c m V Y A S (.int at_) .uD .uD .uD)=.ok (.nx (qs N c m' V Y A S (.int at_) .uD .uD .uD)):=
  bO (i:=1) (aJ rfl (GK rfl) ((cR _ _ (by rw [List.length_map];lia) (by rw [List.length_map];lia)).trans (by rw [List.length_map])))
 have t2:sp2 (qs N c m' V Y A S (.int at_) .uD .uD .uD)=.ok (.nx (qs N c m' V Y A S (.int at_) (.str odd) .uD .uD)):=
  GJ (i:=7) (aJ rfl (aJ rfl (GK rfl) ((bV _ _ (by rw [List.length_map,hS];decide)).trans (by rw [List.length_map,hS];exact congrArg (fun z=>Res.ok (D.int z)) o2))) (ZZ rfl od)) rfl
 have fin:∀d,(aQ sp3 (aQ sp4 (aQ sp5 (aQ sp6 (spM 1))))) (qs N c m' V Y A S (.int at_) (.str odd) .uD .uD)=.ok (.rt d)->bQ [.int c,.int m,.lst (V.map (sy N)),.lst (Y.map (sy N)),.lst (A.map (rwD N)),.lst (S.map D.str)]=.ok d:=fun d h=>by
  refine call_v ?_;rw [aHi];exact aF t0 (aF t1 (aF t2 h))
 have cA:∀ρ':List D,cL 2 ρ'=.ok (.lst (V.map (sy N)))->cL 6 ρ'=.ok (.int at_)->iB cN cP (cD gF) ρ'=.ok (.lst ((V.take at_).map (sy N))):=fun ρ' e1 e2=>by
  rw [mU e1 rfl (fL e2) (cT ..),JZ,List.map_take]
 have cB:∀ρ':List D,cL 2 ρ'=.ok (.lst (V.map (sy N)))->cL 6 ρ'=.ok (.int at_)->iB cN (cD (b2 (aO .add) gF eX)) cP ρ'=.ok (.lst ((V.drop (at_+1)).map (sy N))):=fun ρ' e1 e2=>by
  rw [mU e1 (fL (aJ e2 rfl (d7 _ _))) rfl (cT ..),show ((at_:Int)+1)=((at_+1:Nat):Int) from rfl,wR,List.map_drop]
 have mid:∀x:Str,((V.take at_).map (sy N)++[.str x])++(V.drop (at_+1)).map (sy N)=((V.take at_).map (nm N)++x::(V.drop (at_+1)).map (nm N)).map D.str:=fun x=>by
  rw [List.map_append,List.map_cons,<-t_,<-t_,List.append_assoc];rfl
 have eqc:∀(n:Int) (ρ:List D),cL 0 ρ=.ok (.int c)->bTB (b2 (cC .eq) gB (bC (.int n))) ρ=.ok (c==n):=fun n ρ h=>dG (aJ h rfl (eU _ _))
 have mret:∀(x:Str) (j:Int) (e f:D),spM j (qs N c m' V Y A S (.int at_) (.str x) e f)=.ok (.rt (.lst [.lst (((V.take at_).map (nm N)++x::(V.drop (at_+1)).map (nm N)).map D.str),.int j,.str x])):=fun x j e f=>by
  refine fB (GF (aD (aJ (aJ (cA _ rfl rfl) (GF (ds:=[.str x]) (aD (wO rfl rfl) rfl) (by simp)) (add_l (cT ..) rfl (by simp;lia))) (cB _ rfl rfl) ((add_l ?_ (cT ..) (by simp;lia)).trans (by rw [mid]))) (aD rfl (aD (wO rfl rfl) rfl))) (by simp)) rfl;rw [show (V.take at_).map (sy N)++[D.str x]=((V.take at_).map (nm N)++[x]).map D.str from by rw [List.map_append,<-t_];rfl];exact oK _
 by_cases h3:c=0
 ·refine ⟨(V.take at_).map (nm N),2, "",.inr rfl,?_,by rw [List.length_map,List.length_take];lia,okt _ (fun i hi=>List.mem_of_mem_take hi),fin _ (qR (qM ((eqc 0 _ rfl).trans (by rw [beq_iff_eq.mpr h3])) ?_))⟩
  ·by_cases z:at_=0
   ·left;rw [z];rfl
   ·right
    have O:Out N A k ((V.take at_).map (nm N)++[]) 2 "":=by rw [List.append_nil];exact .few hst tl
    have:=Z0 R (by lia) O;rwa [List.append_nil] at this
  ·rw [<-t_];exact fB (GF (aD (cA _ rfl rfl) (aD rfl (aD rfl rfl))) (by simp)) rfl
 have n3:sp3 (qs N c m' V Y A S (.int at_) (.str odd) .uD .uD)=.ok (.nx (qs N c m' V Y A S (.int at_) (.str odd) .uD .uD)):=lU ((eqc 0 _ rfl).trans (by rw [beq_eq_false_iff_ne.mpr h3])) rfl;by_cases h4:c=1
 ·let E:List Str:=S++A.map (fun r=>nm N r.1)
  have hE:E.length=5+A.length:=by show (S++_).length=_;rw [List.length_append,List.length_map,hS]
  obtain ⟨i,i1,i2⟩:=kix (m:=E.length) (by lia) m';obtain ⟨w,hw⟩:∃w,E[i]?=some w:=⟨_,List.getElem?_eq_getElem i1⟩
  have hwo:bW w=true:=by
   rcases List.mem_append.mp (List.mem_of_getElem? hw) with g|g
   ·exact hSo w g
   ·obtain ⟨r,hr,rfl⟩:=List.mem_map.mp g;exact hok _ (hAl r hr).1
  refine ⟨V.map (nm N)++[w],2,w,.inr rfl,.inr ?_,by rw [List.length_append,List.length_map,List.length_singleton];lia,?_,fin _ (aF n3 (qR (qM ((eqc 1 _ rfl).trans (by rw [beq_iff_eq.mpr h4])) ?_)))⟩
  ·have O:Out N A k ((V.take V.length).map (nm N)++[w]) 2 w:=by rw [List.take_length];exact .many (VV R) hV2
   have:=Z0 R hV O;rwa [List.take_length] at this
  ·rw [List.all_append,okt V fun _ h=>h,List.all_cons,hwo];rfl
  have s1:(bD false 8 (b2 (aO .add) gC (e_ 10 (cV dB false) oM h_ (b2 getD jK gY) false)) true) (qs N c m' V Y A S (.int at_) (.str odd) .uD .uD)=.ok (.nx (qs N c m' V Y A S (.int at_) (.str odd) (.lst (E.map D.str)) .uD)):=by
   have e:E.map D.str=S.map D.str++A.map (fun r=>sy N r.1):=by show (S++_).map _=_;rw [List.map_append,List.map_map];rfl
   rw [e];exact bO (i:=8) (aJ rfl (lK (n:=10) (rwD N) (fun r=>sy N r.1) A rfl (jD rfl) (by lia) (fun r hr=>⟨(jJ rfl).1,rfl⟩)) (add_l (oK _) (dJ (fun _=>rfl) _) (by simp;lia)))
  have s2:(bD false 7 (b2 getD j7 (b2 (aO .mod) dN (aU eY (aB j7 aP)))) false) (qs N c m' V Y A S (.int at_) (.str odd) (.lst (E.map D.str)) .uD)=.ok (.nx (qs N c m' V Y A S (.int at_) (.str w) (.lst (E.map D.str)) .uD)):=
   GJ (i:=7) (aJ rfl (aJ rfl (GK rfl) ((bV _ _ (by rw [List.length_map];lia)).trans (by rw [List.length_map];exact congrArg (fun z=>Res.ok (D.int z)) i2))) (ZZ rfl hw)) rfl
  refine aF s1 (aF s2 (fB (GF (aD (aJ rfl (GF (ds:=[.str w]) (aD (wO rfl rfl) rfl) (by simp)) ((add_l (cT ..) rfl (by simp;lia)).trans ?_)) (aD rfl (aD (wO rfl rfl) rfl))) (by simp)) rfl));rw [List.map_append,<-t_];rfl
 have n4:sp4 (qs N c m' V Y A S (.int at_) (.str odd) .uD .uD)=.ok (.nx (qs N c m' V Y A S (.int at_) (.str odd) .uD .uD)):=lU ((eqc 1 _ rfl).trans (by rw [beq_eq_false_iff_ne.mpr h4])) rfl
 let O:List Nat:=(A.filter (fun r=>!decide (r.2.1=y))).map (·.1)
 have hO:O.map (sy N)=(A.filter (fun r=>!decide (r.2.1=y))).map (fun r=>sy N r.1):=by show (List.map _ _).map _=_;rw [List.map_map];rfl
 have t5:sp5 (qs N c m' V Y A S (.int at_) (.str odd) .uD .uD)=.ok (.nx (qs N c m' V Y A S (.int at_) (.str odd) .uD (.lst (O.map (sy N))))):=by
  rw [hO];exact bO (i:=9) (F_ (n:=10) (rwD N) (fun r=>sy N r.1) _ A rfl (jD rfl) (by lia) (fun r hr=>dG (aJ (jJ rfl).2.1 (aJ rfl rfl (qF rfl hy)) (VF hN hd (hAl r hr).2 hyl))) fun r hr _=>⟨(jJ rfl).1,rfl⟩)
 have odone:sp6 (qs N c m' V Y A S (.int at_) (.str odd) .uD (.lst (O.map (sy N))))=.ok (.nx (qs N c m' V Y A S (.int at_) (.str odd) .uD (.lst (O.map (sy N)))))->∃(ws:List Str) (tag:Nat) (w:Str),(tag=1\/tag=2)/\(ws=[]\/Oc N A ws tag w)/\ws.length<=V.length+1/\ws.all bW=true/\bQ [.int c,.int m,.lst (V.map (sy N)),.lst (Y.map (sy N)),.lst (A.map (rwD N)),.lst (S.map D.str)]=.ok (.lst [.lst (ws.map D.str),.int tag,.str w]):=fun n6=>by
  refine ⟨_,1,odd,.inl rfl,.inr ?_,lnm odd,okm odd (hSo odd hodd),fin _ (aF n3 (aF n4 (aF t5 (aF n6 (mret odd 1 _ _)))))⟩;by_cases z:at_=0
  ·rw [z];exact .un hu
  ·exact Z0 R (by lia) (.unk hst tl hu)
 have hc3:(bTB (b2 (cC .eq) gB gK)) (qs N c m' V Y A S (.int at_) (.str odd) .uD (.lst (O.map (sy N))))=.ok (c==3):=eqc 3 _ rfl;have hca:(bTB (b2 (jV .gt) gF gY)) (qs N c m' V Y A S (.int at_) (.str odd) .uD (.lst (O.map (sy N))))=.ok (decide ((0:Int)<at_)):=dG (aJ rfl rfl (cmp_gt _ _));have hco:(bTB (b2 (cC .ne) pM (iI aP))) (qs N c m' V Y A S (.int at_) (.str odd) .uD (.lst (O.map (sy N))))=.ok (!O.isEmpty):=dG (aJ rfl rfl (aDo O));by_cases h5:c=3
 ·by_cases h6:0<at_
  ·cases hOe:O.isEmpty
   ·have hl:0<O.length:=by
     cases hq:O with
     | nil=>rw [hq] at hOe;cases hOe
     | cons _ _=>simp
    obtain ⟨j,j1,j2⟩:=kix (m:=O.length) hl (m' / 4);have hj:O[j]?=some O[j]:=List.getElem?_eq_getElem j1;obtain ⟨r,hr,er⟩:=List.mem_map.mp (List.getElem_mem j1);have hr2:=List.mem_filter.mp hr;refine ⟨_,2,nm N r.1,.inr rfl,.inr (Z0 R h6 (.bad hst tl hr2.1 (by simpa using hr2.2))),lnm (nm N r.1),okm _ (hok _ (hAl r hr2.1).1),fin _ (aF n3 (aF n4 (aF t5 (qR (qM ((sU (hc3.trans (by rw [beq_iff_eq.mpr h5])) (sU (hca.trans (by rw [decide_eq_true (by lia)])) hco)).trans (by rw [hOe];rfl)) (aF (ρ':=qs N c m' V Y A S (.int at_) (.str (nm N r.1)) .uD (.lst (O.map (sy N)))) ?_ (mret (nm N r.1) 2 _ _)))))))⟩;exact GJ (i:=7) (d:=.str (nm N r.1)) (aJ rfl (aJ (aJ rfl rfl (cR m' 4 (by decide) (by decide))) (GK rfl) ((bV _ _ (by rw [List.length_map];lia)).trans (by rw [List.length_map];exact congrArg (fun z=>Res.ok (D.int z)) j2))) ((qF rfl hj).trans (by rw [show O[j]=r.1 from er.symm];rfl))) rfl
   ·exact odone (lU ((sU (hc3.trans (by rw [beq_iff_eq.mpr h5])) (sU (hca.trans (by rw [decide_eq_true (by lia)])) hco)).trans (by rw [hOe];rfl)) rfl)
  ·exact odone (lU ((sU (hc3.trans (by rw [beq_iff_eq.mpr h5])) (MK (hca.trans (by rw [decide_eq_false (by lia)]))))) rfl)
 ·exact odone (lU (MK (hc3.trans (by rw [beq_eq_false_iff_ne.mpr h5]))) rfl)
end
end Lk46
end
section
namespace Lk46
open PySem L2 Mi
def ot0:FS:=(bD true 3 (aU XJ (aB cN aP)) true)
noncomputable def ot1:FS:=(bD false 4 (b2 (aO .mod) dN (aU eY (aB dH aP))) true)
noncomputable def ot2:FS:=(bD false 1 (b2 (aO .fdiv) dN (aU eY (aB dH aP))) true)
noncomputable def ot3:FS:=(sIf (bTB (b2 (cC .eq) gB gY)) (aFh 3 (b2 (aO .mod) dN (b2 (aO .add) (aU eY (aB dH aP)) eX)) (bC (.str ""))) fH)
noncomputable def oa0:FS:=(bD false 5 (bC (.str "!\"#$&'()*+,-./0123456789:;<=>?@ABCDEFGHIJKLM")) true)
noncomputable def oa1:FS:=(bD false 5 (b2 (aO .add) gC (bC (.str "NOPQRSTUVWXYZ[\\]^_`{|}~\n"))) true)
noncomputable def oa2:FS:=(bD false 6 (b2 (aO .mod) dN (aU eY (aB (b2 getD dH dB) aP))) true)
def oa3:FS:=(bD false 7 (b2 getD dH dB) false)
noncomputable def oa4:FS:=(sY 3 dB (b2 (aO .add) (b2 (aO .add) (iB gG cP (cD gF)) (b2 getD gC (b2 (aO .mod) (b2 (aO .fdiv) dN QM) aC4))) (iB gG (cD (b2 (aO .add) gF eX)) cP)))
noncomputable def ot4:FS:=(sIf (bOr (bTB (b2 (cC .eq) gB eX)) (bTB (b2 (cC .eq) gB rC))) (aQ oa0 (aQ oa1 (aQ oa2 (aQ oa3 oa4)))) fH)
noncomputable def ot5:FS:=(sIf (bTB (b2 (cC .eq) gB m7)) (sY 3 dB (iB (b2 (aO .add) (b2 getD dH dB) (bC (.str "ponmlkjih"))) cP (cD XF))) fH)
def ot6:FS:=(bD false 8 (bM joinM (bC (.str " ")) (aB dH aP)) true)
noncomputable def ot7:FS:=(sIf (bTB (b2 (cC .eq) gB rC)) (bD false 8 (b2 (aO .add) (bC (.str "copy ")) j7) true) fH)
def oc0:FS:=(bD false 9 (aU eY (aB dH aP)) true)
noncomputable def oc1:FS:=(bD false 8 (b2 (aO .add) (b2 (aO .add) (bM joinM (bC (.str " ")) (aB (iB dH cP (cD (b2 (aO .add) dB eX))) aP)) (bC (.str "\n"))) (bM joinM (bC (.str " ")) (aB (iB dH (cD (b2 (aO .add) dB eX)) cP) aP))) true)
noncomputable def oc2:FS:=(sIf (bTB (b2 (cC .eq) (b2 (aO .add) dB eX) pM)) (bD false 8 (b2 (aO .add) (bM joinM (bC (.str " ")) (aB dH aP)) (bC (.str "\n"))) true) fH)
def ot8:FS:=(sIf (bTB (b2 (cC .eq) gB gK)) (aQ oc0 (aQ oc1 oc2)) fH)
def ot9:FS:=(j8 j7 false)
theorem aHk:kJ=(aQ ot0 (aQ ot1 (aQ ot2 (aQ ot3 (aQ ot4 (aQ ot5 (aQ ot6 (aQ ot7 (aQ ot8 ot9))))))))):=rfl
theorem gU {x:Str} (h:bW x=true):Nm x:=by
 unfold bW at h;rw [Bool.and_eq_true,Bool.and_eq_true,decide_eq_true_eq,decide_eq_true_eq,List.all_eq_true] at h;refine ⟨h.1.1,h.1.2,fun c hc=>?_⟩;have:=h.2 c hc;unfold codeOk at this;rw [Bool.and_eq_true,decide_eq_true_eq,decide_eq_true_eq] at this;exact this
theorem GP {x:Str} (h:Nm x):32∉x.cps.toList:=fun hm=>by
 have:=h.2.2 32 hm;lia
theorem vG {A B:List Str} {x:Str} (hA:∀t∈A,Nm t) (hB:∀t∈B,Nm t) (hl:A.length+B.length<100) (hx:32∉x.cps.toList) (hxl:x.length<=50):Tx (A++x::B):=by
 refine ⟨by simp,fun t ht=>?_,by rw [List.length_append,List.length_cons];lia,fun t ht=>?_⟩
 ·rcases List.mem_append.mp ht with g|g
  ·exact GP (hA t g)
  ·rcases List.mem_cons.mp g with g|g
   ·exact g▸hx
   ·exact GP (hB t g)
 ·rcases List.mem_append.mp ht with g|g
  ·have:=(hA t g).2.1;lia
  ·rcases List.mem_cons.mp g with g|g
   ·exact g▸hxl
   ·have:=(hB t g).2.1;lia
theorem qH {A B:List Str} {x:Str} (h:bW x=false):(A++x::B).all bW=false:=by
 rw [List.all_append,List.all_cons,h,Bool.false_and,Bool.and_false]
noncomputable def sg:Str:=("!\"#$&'()*+,-./0123456789:;<=>?@ABCDEFGHIJKLM" : Str)++("NOPQRSTUVWXYZ[\\]^_`{|}~\n" : Str)
theorem aJq:∀i,i<68->∃c,c<200/\sg.cps.toList[i]?=some c/\¬(97<=c/\c<=122)/\c≠32:=by decide +kernel
theorem aBb:sg.cps.toList.length=68:=by decide +kernel
theorem aHl {x:Int} {i:Nat} (hx:x=i) (hi:i<68):∃c,getD (.str sg) (.int x)=.ok (.str (tx [c]))/\¬(97<=c/\c<=122)/\c≠32:=by
 obtain ⟨c,_,h1,h2,h3⟩:=aJq i hi;refine ⟨c,?_,h2,h3⟩;show (if decide (sg.length<=lim) then Res.ofOpt (((ixD sg.cps.toList.length x).bind fun j=>sg.cps.toList[j]?).map fun c=>D.str ⟨#[c]⟩) else .bad)=_;have hl:sg.length=68:=aBb;have e:ixD sg.cps.toList.length x=some i:=by
  unfold ixD;rw [aBb,if_pos (by lia),if_pos (by lia),hx];rfl
 rw [hl,e,a_,if_pos (by decide)];show Res.ofOpt ((sg.cps.toList[i]?).map fun c=>D.str ⟨#[c]⟩)=_;rw [h1];rfl
theorem Z2 {P Q:List Nat} {c:Nat} (h:¬(97<=c/\c<=122)):bW (tx (P++[c]++Q))=false:=by
 refine Bool.eq_false_iff.mpr fun z=>h ?_
 exact (gU z).2.2 c (show c∈P++[c]++Q by simp)
theorem aE1 {x:Str} (h:8<x.length):bW x=false:=by
 refine Bool.eq_false_iff.mpr fun z=>?_
 have:=(gU z).2.1;lia
theorem V0 {x:Str} {c:Nat} (hc:c∈x.cps.toList) (h:¬(97<=c/\c<=122)):bW x=false:=
 Bool.eq_false_iff.mpr fun z=>h ((gU z).2.2 c hc)
theorem V1 {ρ:List D} {f:FE} {ts:List Str} (h:f ρ=.ok (.lst (ts.map D.str))) (hl:ts.length<=100) (hw:∀t∈ts,t.length<=50):bM joinM (bC (.str " ")) (aB f aP) ρ=.ok (.str (Txt.join " " ts)):=by
 refine ZF (x:=.str " ") rfl (aD h rfl) ?_;show (match nH (ts.map D.str) with|some ts=>if JoinOk " " ts then Res.ok (D.str (Txt.join " " ts)) else .bad|none=>.bad)=_;rw [zY];show (if JoinOk " " ts then Res.ok (D.str (Txt.join " " ts)) else .bad)=_;have:JoinOk " " ts=true:=VP (c:=32) (B:=50) hw (by lia);rw [this,if_pos rfl]
theorem xH {ts:List Str} (hl:ts.length<=100) (hw:∀t∈ts,t.length<=50):(Txt.join " " ts).length<=5100:=by
 have:(Txt.join " " ts).length<=ts.length*51:=KJ 32 50 ts hw;lia
noncomputable abbrev os (c m:Int) (w:D) (ts:List Str) (a b e d f g:D):List D:=[.int c,.int m,w,.lst (ts.map D.str),a,b,e,d,f,g]
theorem aE2 {α:Type} (A:List α) (x y:α) (B:List α):(A++x::B).set A.length y=A++y::B:=by
 rw [List.set_append_right _ _ (Nat.le_refl _),Nat.sub_self];rfl
end Lk46
end
section
namespace Lk46
open PySem L2 Mi
theorem eqC {c n:Int} {ρ:List D} (h:cL 0 ρ=.ok (.int c)):bTB (b2 (cC .eq) gB (bC (.int n))) ρ=.ok (c==n):=dG (aJ h rfl (eU _ _))
theorem eqT {c n:Int} {ρ:List D} (h:cL 0 ρ=.ok (.int c)) (e:c=n):bTB (b2 (cC .eq) gB (bC (.int n))) ρ=.ok true:=(eqC h).trans (by rw [beq_iff_eq.mpr e])
theorem eqF {c n:Int} {ρ:List D} (h:cL 0 ρ=.ok (.int c)) (e:c≠n):bTB (b2 (cC .eq) gB (bC (.int n))) ρ=.ok false:=(eqC h).trans (by rw [beq_eq_false_iff_ne.mpr e])
theorem z6 {ρ:List D} {i:Nat} {W:List Str} (h:cL i ρ=.ok (.lst (W.map D.str))):aU eY (aB (cL i) aP) ρ=.ok (.int W.length):=(GK h).trans (by rw [List.length_map])
section
variable {c m:Int} {w:D}
theorem V2 {ts:List Str} (hl:ts.length<=100) (hw:∀t∈ts,t.length<=50) (a b e d g:D):ot6 (os c m w ts a b e d .uD g)=.ok (.nx (os c m w ts a b e d (.str (Txt.join " " ts)) g)):=bO (i:=8) (V1 rfl hl hw)
theorem n3 (h:c≠0) {ts:List Str} (a b e d f g:D):ot3 (os c m w ts a b e d f g)=.ok (.nx (os c m w ts a b e d f g)):=lU (eqF rfl h) rfl
theorem n4 (h:c≠1) (h2:c≠4) {ts:List Str} (a b e d f g:D):ot4 (os c m w ts a b e d f g)=.ok (.nx (os c m w ts a b e d f g)):=lU (aDe (eqF rfl h) (eqF rfl h2)) rfl
theorem n5 (h:c≠2) {ts:List Str} (a b e d f g:D):ot5 (os c m w ts a b e d f g)=.ok (.nx (os c m w ts a b e d f g)):=lU (eqF rfl h) rfl
theorem n7 (h:c≠4) {ts:List Str} (a b e d f g:D):ot7 (os c m w ts a b e d f g)=.ok (.nx (os c m w ts a b e d f g)):=lU (eqF rfl h) rfl
theorem n8 (h:c≠3) {ts:List Str} (a b e d f g:D):ot8 (os c m w ts a b e d f g)=.ok (.nx (os c m w ts a b e d f g)):=lU (eqF rfl h) rfl
theorem aE3 (h3:c≠3) (h4:c≠4) {ts:List Str} (H:Tx ts) (a b e d g:D):(aQ ot6 (aQ ot7 (aQ ot8 ot9))) (os c m w ts a b e d .uD g)=.ok (.rt (.str (Txt.join " " ts))):=
 aF (V2 H.ln H.wl ..) (aF (n7 h4 ..) (aF (n8 h3 ..) (fB rfl rfl)))
theorem V3 {A B:List Str} {x y:Str} {fv:FE} {a b e d f g:D} (ha:a=.int (A.length:Int)) (h:fv (os c m w (A++x::B) a b e d f g)=.ok (.str y)):sY 3 dB fv (os c m w (A++x::B) a b e d f g)=.ok (.nx (os c m w (A++y::B) a b e d f g)):=by
 subst ha;refine FQ (i:=3) (xs:=(A++x::B).map D.str) (k:=(A.length:Int)) (j:=A.length) (d:=.str y) h rfl rfl rfl ?_ ?_
 ·unfold ixD;rw [if_pos (by lia),List.length_map,List.length_append,List.length_cons,if_pos (by lia)];rfl
 ·have e1:((A++x::B).map D.str).set A.length (.str y)=(A++y::B).map D.str:=by
   rw [<-List.map_set,aE2]
  unfold os;rw [<-e1];rfl
theorem aE4 {A B:List Str} {x:Str} {a b e d f g:D} (ha:a=.int (A.length:Int)):b2 getD dH dB (os c m w (A++x::B) a b e d f g)=.ok (.str x):=by
 subst ha;refine aJ rfl rfl (ZZ (i:=A.length) rfl ?_);rw [List.getElem?_append_right (Nat.le_refl _),Nat.sub_self];rfl
end
theorem aE5 {c m:Int} (c0:0<=c) (c4:c<=4) {W:List Str} (hW:0<W.length) (hl:W.length<=62) (hn:∀t∈W,Nm t):∃ts,Tx ts/\ts.all bW=false/\cO [.int c,.int m,.lst (W.map D.str)]=.ok (.str (Txt.join " " ts)):=by
 obtain ⟨at_,a1,a2⟩:=kix (m:=W.length) hW m
 let m':Int:=m / (W.length:Int)
 have t0:ot0 [.int c,.int m,.lst (W.map D.str),.uD,.uD,.uD,.uD,.uD,.uD,.uD]=.ok (.nx (os c m (.lst (W.map D.str)) W .uD .uD .uD .uD .uD .uD)):=by
  refine fY (i:=3) (d:=.lst (W.map D.str)) (bF (aD rfl rfl) ?_) (oK W);show (if D.aW (W.map D.str) then Res.ok (D.lst (W.map D.str)) else .bad)=_;rw [oK];rfl
 have t1:ot1 (os c m (.lst (W.map D.str)) W .uD .uD .uD .uD .uD .uD)=.ok (.nx (os c m (.lst (W.map D.str)) W (.int at_) .uD .uD .uD .uD .uD)):=by
  rw [<-a2];exact bO (i:=4) (aJ rfl (z6 rfl) (bV _ _ (by lia)))
 have t2:ot2 (os c m (.lst (W.map D.str)) W (.int at_) .uD .uD .uD .uD .uD)=.ok (.nx (os c m' (.lst (W.map D.str)) W (.int at_) .uD .uD .uD .uD .uD)):=bO (i:=1) (aJ rfl (z6 rfl) (cR _ _ (by lia) (by lia)));have fin:∀d,(aQ ot3 (aQ ot4 (aQ ot5 (aQ ot6 (aQ ot7 (aQ ot8 ot9)))))) (os c m' (.lst (W.map D.str)) W (.int at_) .uD .uD .uD .uD .uD)=.ok (.rt d)->cO [.int c,.int m,.lst (W.map D.str)]=.ok d:=fun d h=>by
  refine call_v ?_;rw [aHk];exact aF t0 (aF t1 (aF t2 h))
 obtain ⟨w0,hw0⟩:∃w0:D,.lst (W.map D.str)=w0:=⟨_,rfl⟩
 rw [hw0] at fin ⊢;by_cases h0:c=0
 ·obtain ⟨j,j1,j2⟩:=kix (m:=W.length+1) (by lia) m';have hT:Tx (W.take j++("" : Str)::W.drop j):=vG (fun t ht=>hn t (List.mem_of_mem_take ht)) (fun t ht=>hn t (List.mem_of_mem_drop ht)) (by rw [List.length_take,List.length_drop];lia) (by decide) (by decide);refine ⟨W.take j++("" : Str)::W.drop j,hT,qH (by decide),fin _ ?_⟩;have s3:ot3 (os c m' w0 W (.int at_) .uD .uD .uD .uD .uD)=.ok (.nx (os c m' w0 (W.take j++("" : Str)::W.drop j) (.int at_) .uD .uD .uD .uD .uD)):=by
   refine qM (eqT rfl h0) ?_;have hi:=aFx (i:=3) (f:=b2 (aO .mod) dN (b2 (aO .add) (aU eY (aB dH aP)) eX)) (g:=bC (.str "")) (ρ:=os c m' w0 W (.int at_) .uD .uD .uD .uD .uD) (xs:=W.map D.str) (j:=(j:Int)) (d:=.str "") (aJ rfl (aJ (z6 rfl) rfl (d7 _ _)) ((bV _ _ (by lia)).trans (by rw [show ((W.length:Int)+1)=((W.length+1:Nat):Int) from rfl,j2]))) rfl rfl (by rw [List.length_map,a_];lia) rfl (by lia) (by rw [List.length_map];lia);refine hi.trans ?_;have e1:(W.take j++("" : Str)::W.drop j).map D.str=(W.map D.str).take j++D.str "" :: (W.map D.str).drop j:=by rw [List.map_append,List.map_cons,List.map_take,List.map_drop]
   unfold os;rw [e1];rfl
  exact aF s3 (aF (n4 (by lia) (by lia) ..) (aF (n5 (by lia) ..) (aE3 (by lia) (by lia) hT ..)))
 have e3:=n3 (c:=c) (m:=m') (w:=w0) h0 (ts:=W) (.int at_) .uD .uD .uD .uD .uD;obtain ⟨A,x,B,hAB,hAl⟩:∃A x B,W=A++x::B/\A.length=at_:=⟨W.take at_,W[at_],W.drop (at_+1),by rw [<-List.drop_eq_getElem_cons a1,List.take_append_drop],by rw [List.length_take];lia⟩
 have hA:∀t∈A,Nm t:=fun t ht=>hn t (by rw [hAB];exact List.mem_append_left _ ht)
 have hB:∀t∈B,Nm t:=fun t ht=>hn t (by rw [hAB];exact List.mem_append_right _ (List.mem_cons_of_mem _ ht))
 have hx:Nm x:=hn x (by rw [hAB];simp);have hlen:A.length+B.length+1=W.length:=by rw [hAB,List.length_append,List.length_cons];lia
 obtain ⟨x1,x2,x3⟩:=hx;obtain ⟨o,ho⟩:∃o,x=tx o:=⟨_,(U4 x).symm⟩
 have lo:x.length=o.length:=by rw [ho,dI]
 have smo:∀q∈o,97<=q/\q<=122:=fun q hq=>x3 q (by rw [ho];exact hq)
 rw [<-hAl] at fin e3
 clear_value m'
 by_cases h14:c=1\/c=4
 ·have h2:c≠2:=by lia
  have h3:c≠3:=by lia
  obtain ⟨cut,cu1,cu2⟩:=kix (m:=x.length) (by lia) m';obtain ⟨si,si1,si2⟩:=kix (m:=68) (by lia) (m' / 8);obtain ⟨s,sg1,sg2,sg3⟩:=aHl (x:=m' / 8 % 68) si2 si1;obtain ⟨y,hy⟩:∃y,tx (o.take cut++[s]++o.drop (cut+1))=y:=⟨_,rfl⟩
  have ly:y.length<=50:=by rw [<-hy,dI];simp;lia
  have by_:bW y=false:=by rw [<-hy];exact Z2 sg2
  have fy:32∉y.cps.toList:=fun hm=>by
   rw [<-hy] at hm;rcases List.mem_append.mp (show 32∈o.take cut++[s]++o.drop (cut+1) from hm) with g|g
   ·rcases List.mem_append.mp g with g|g
    ·have:=smo 32 (List.mem_of_mem_take g);lia
    ·rw [List.mem_singleton] at g;exact sg3 g.symm
   ·have:=smo 32 (List.mem_of_mem_drop g);lia
  have hT:=vG (x:=y) hA hB (by lia) fy ly;have s4:∃b5 c6,ot4 (os c m' w0 W (.int A.length) .uD .uD .uD .uD .uD)=.ok (.nx (os c m' w0 (A++y::B) (.int A.length) b5 c6 (.str x) .uD .uD)):=by
   refine ⟨.str sg,.int cut,qM ?_ ?_⟩
   ·rcases h14 with h|h
    ·exact aK8 (eqT rfl h)
    ·exact aDe (eqF rfl (by lia)) (eqT rfl h)
   rw [hAB];have r0:oa0 (os c m' w0 (A++x::B) (.int A.length) .uD .uD .uD .uD .uD)=.ok (.nx (os c m' w0 (A++x::B) (.int A.length) (.str "!\"#$&'()*+,-./0123456789:;<=>?@ABCDEFGHIJKLM") .uD .uD .uD .uD)):=bO (i:=5) rfl;have r1:oa1 (os c m' w0 (A++x::B) (.int A.length) (.str "!\"#$&'()*+,-./0123456789:;<=>?@ABCDEFGHIJKLM") .uD .uD .uD .uD)=.ok (.nx (os c m' w0 (A++x::B) (.int A.length) (.str sg) .uD .uD .uD .uD)):=bO (i:=5) (aJ rfl rfl (jX _ _ (by rw [a_];decide +kernel)));have r2:oa2 (os c m' w0 (A++x::B) (.int A.length) (.str sg) .uD .uD .uD .uD)=.ok (.nx (os c m' w0 (A++x::B) (.int A.length) (.str sg) (.int cut) .uD .uD .uD)):=by
    rw [<-cu2];exact bO (i:=6) (aJ rfl (bF (aD (aE4 rfl) rfl) (len_str x (by rw [a_];lia))) (bV _ _ (by lia)))
   have r3:oa3 (os c m' w0 (A++x::B) (.int A.length) (.str sg) (.int cut) .uD .uD .uD)=.ok (.nx (os c m' w0 (A++x::B) (.int A.length) (.str sg) (.int cut) (.str x) .uD .uD)):=GJ (i:=7) (aE4 rfl) rfl;have sl1:iB gG cP (cD gF) (os c m' w0 (A++x::B) (.int A.length) (.str sg) (.int cut) (.str x) .uD .uD)=.ok (.str (tx (o.take cut))):=(p8 (x:=x) rfl rfl (fL rfl) (by lia)).trans (by rw [ho,pG]);have sl2:iB gG (cD (b2 (aO .add) gF eX)) cP (os c m' w0 (A++x::B) (.int A.length) (.str sg) (.int cut) (.str x) .uD .uD)=.ok (.str (tx (o.drop (cut+1)))):=(p8 (x:=x) (l:=some ((cut+1:Nat):Int)) rfl (fL (aJ rfl rfl (d7 _ _))) rfl (by lia)).trans (by rw [ho,tV]);have sgx:b2 getD gC (b2 (aO .mod) (b2 (aO .fdiv) dN QM) aC4) (os c m' w0 (A++x::B) (.int A.length) (.str sg) (.int cut) (.str x) .uD .uD)=.ok (.str (tx [s])):=aJ rfl (aJ (aJ rfl rfl (cR m' 8 (by decide) (by decide))) rfl (bV _ 68 (by decide))) sg1;have r4:oa4 (os c m' w0 (A++x::B) (.int A.length) (.str sg) (.int cut) (.str x) .uD .uD)=.ok (.nx (os c m' w0 (A++y::B) (.int A.length) (.str sg) (.int cut) (.str x) .uD .uD)):=by
    refine V3 rfl ?_;rw [<-hy];refine aJ (aJ sl1 sgx (jX _ _ (by rw [dI,dI,a_];simp;lia))) sl2 ((jX _ _ (by rw [nP,dI,dI,a_];simp;lia)).trans ?_);rw [nP,nP]
   exact aF r0 (aF r1 (aF r2 (aF r3 r4)))
  obtain ⟨b5,c6,s4⟩:=s4;rcases h14 with h|h
  ·exact ⟨A++y::B,hT,qH by_,fin _ (aF e3 (aF s4 (aF (n5 h2 ..) (aE3 h3 (by lia) hT ..))))⟩
  ·have hcp:Nm "copy":=by unfold Nm;decide +kernel
   have hT2:Tx ((("copy" : Str)::A)++y::B):=vG (x:=y) (fun t ht=>by
    rcases List.mem_cons.mp ht with g|g
    ·exact g▸hcp
    ·exact hA t g) hB (by rw [List.length_cons];lia) fy ly
   refine ⟨(("copy" : Str)::A)++y::B,hT2,qH by_,fin _ (aF e3 (aF s4 (aF (n5 h2 ..) (aF (V2 hT.ln hT.wl ..) (aF (ρ':=os c m' w0 (A++y::B) (.int A.length) b5 c6 (.str x) (.str (Txt.join " " ((("copy" : Str)::A)++y::B))) .uD) (qM (eqT rfl h) (bO (i:=8) (aJ rfl rfl ((jX _ _ ?_).trans ?_)))) (aF (n8 h3 ..) (fB rfl rfl)))))))⟩
   ·have:=xH hT.ln hT.wl;rw [a_,show ("copy " : Str).length=5 from rfl];lia
   ·cases A with
    | nil=>rw [List.nil_append,zZ];rfl
    | cons a A=>rw [List.cons_append,zZ];rfl
 have e4:=n4 (c:=c) (m:=m') (w:=w0) (fun z=>h14 (.inl z)) (fun z=>h14 (.inr z)) (ts:=W) (.int A.length) .uD .uD .uD .uD .uD;by_cases h2:c=2
 ·obtain ⟨y,hy⟩:∃y,tx ((o++[112,111,110,109,108,107,106,105,104]).take 9)=y:=⟨_,rfl⟩
  have ly9:y.length=9:=by rw [<-hy,dI,List.length_take,List.length_append];show min 9 (o.length+9)=9;lia
  have fy:32∉y.cps.toList:=fun hm=>by
   rw [<-hy] at hm;have hm:=List.mem_of_mem_take (show 32∈(o++[112,111,110,109,108,107,106,105,104]).take 9 from hm);rcases List.mem_append.mp hm with g|g
   ·have:=smo 32 g;lia
   ·revert g;decide
  have hT:=vG (x:=y) hA hB (by lia) fy (by lia);have s5:ot5 (os c m' w0 W (.int A.length) .uD .uD .uD .uD .uD)=.ok (.nx (os c m' w0 (A++y::B) (.int A.length) .uD .uD .uD .uD .uD)):=by
   refine qM (eqT rfl h2) ?_;rw [hAB];refine V3 rfl ?_;have hpo:("ponmlkjih" : Str)=tx [112,111,110,109,108,107,106,105,104]:=by rfl
   refine (p8 (x:=x++("ponmlkjih" : Str)) (aJ (aE4 rfl) rfl (jX _ _ (by rw [a_,hpo,dI];show x.length+9<=_;lia))) rfl (fL rfl) ?_).trans ?_
   ·rw [ho,hpo,nP,dI,List.length_append];show o.length+9<=1000;lia
   ·rw [ho,hpo,nP,<-hy];exact congrArg (fun z=>Res.ok (D.str z)) (pG _ 9)
  exact ⟨A++y::B,hT,qH (aE1 (by lia)),fin _ (aF e3 (aF e4 (aF s5 (aE3 (by lia) (by lia) hT ..))))⟩
 have h3:c=3:=by lia
 have h4:c≠4:=by lia
 have e5:=n5 (c:=c) (m:=m') (w:=w0) h2 (ts:=W) (.int A.length) .uD .uD .uD .uD .uD;have wl:∀t∈W,t.length<=50:=fun t ht=>by have:=(hn t ht).2.1;lia
 have e6:=V2 (c:=c) (m:=m') (w:=w0) (ts:=W) (by lia) wl (.int A.length) .uD .uD .uD .uD;have e7:=n7 (c:=c) (m:=m') (w:=w0) h4 (ts:=W) (.int A.length) .uD .uD .uD (.str (Txt.join " " W)) .uD;have r0:oc0 (os c m' w0 W (.int A.length) .uD .uD .uD (.str (Txt.join " " W)) .uD)=.ok (.nx (os c m' w0 W (.int A.length) .uD .uD .uD (.str (Txt.join " " W)) (.int W.length))):=bO (i:=9) (z6 rfl);have hA1:W.take (A.length+1)=A++[x]:=by rw [hAB,show A++x::B=(A++[x])++B by simp];exact List.take_left' (by simp)
 have hB1:W.drop (A.length+1)=B:=by rw [hAB,show A++x::B=(A++[x])++B by simp];exact List.drop_left' (by simp)
 have wlA:∀t∈A++[x],t.length<=50:=fun t ht=>wl t (by rw [<-hA1] at ht;exact List.mem_of_mem_take ht)
 have wlB:∀t∈B,t.length<=50:=fun t ht=>wl t (by rw [<-hB1] at ht;exact List.mem_of_mem_drop ht)
 have jA:bM joinM (bC (.str " ")) (aB (iB dH cP (cD (b2 (aO .add) dB eX))) aP) (os c m' w0 W (.int A.length) .uD .uD .uD (.str (Txt.join " " W)) (.int W.length))=.ok (.str (Txt.join " " (A++[x]))):=by
  refine V1 ((mU (h:=some ((A.length+1:Nat):Int)) rfl rfl (fL (aJ rfl rfl (d7 _ _))) (oK W)).trans ?_) (by rw [List.length_append,List.length_singleton];lia) wlA;rw [JZ,<-List.map_take,hA1]
 have jB:bM joinM (bC (.str " ")) (aB (iB dH (cD (b2 (aO .add) dB eX)) cP) aP) (os c m' w0 W (.int A.length) .uD .uD .uD (.str (Txt.join " " W)) (.int W.length))=.ok (.str (Txt.join " " B)):=by
  refine V1 ((mU (l:=some ((A.length+1:Nat):Int)) rfl (fL (aJ rfl rfl (d7 _ _))) rfl (oK W)).trans ?_) (by lia) wlB;rw [wR,<-List.map_drop,hB1]
 have lA:=xH (ts:=A++[x]) (by rw [List.length_append,List.length_singleton];lia) wlA;have lB:=xH (ts:=B) (by lia) wlB;have lW:=xH (ts:=W) (by lia) wl;have ap:∀a b:Str,(a++b).length=a.length+b.length:=fun a b=>by
  show (a.cps++b.cps).size=a.cps.size+b.cps.size;rw [Array.size_append]
 have r1:oc1 (os c m' w0 W (.int A.length) .uD .uD .uD (.str (Txt.join " " W)) (.int W.length))=.ok (.nx (os c m' w0 W (.int A.length) .uD .uD .uD (.str (Txt.join " " (A++[x])++("\n" : Str)++Txt.join " " B)) (.int W.length))):=bO (i:=8) (aJ (aJ jA rfl (jX _ _ (by rw [a_,show ("\n" : Str).length=1 from rfl];lia))) jB (jX _ _ (by rw [ap,a_,show ("\n" : Str).length=1 from rfl];lia)));have hcm:bTB (b2 (cC .eq) (b2 (aO .add) dB eX) pM) (os c m' w0 W (.int A.length) .uD .uD .uD (.str (Txt.join " " (A++[x])++("\n" : Str)++Txt.join " " B)) (.int W.length))=.ok ((A.length:Int)+1==(W.length:Int)):=dG (aJ (aJ rfl rfl (d7 _ _)) rfl (eU _ _));cases B with
 | nil=>
  have hWA:W=A++[x]:=hAB;have fy:32∉(x++("\n" : Str)).cps.toList:=fun hm=>by
   rw [dM] at hm;rcases List.mem_append.mp hm with g|g
   ·have:=x3 32 g;lia
   ·revert g;decide
  have hT:=vG (x:=x++("\n" : Str)) hA hB (by lia) fy (by rw [ap,show ("\n" : Str).length=1 from rfl];lia);refine ⟨A++[x++("\n" : Str)],hT,qH (V0 (c:=10) (by rw [dM];exact List.mem_append_right _ (by decide)) (by decide)),fin _ (aF e3 (aF e4 (aF e5 (aF e6 (aF e7 (aF (ρ':=os c m' w0 W (.int A.length) .uD .uD .uD (.str (Txt.join " " (A++[x++("\n" : Str)]))) (.int W.length)) (qM (eqT rfl h3) (aF r0 (aF r1 (qM (hcm.trans ?_) ?_)))) (fB rfl rfl)))))))⟩
  ·rw [beq_iff_eq.mpr];simp at hlen;lia
  ·refine bO (i:=8) (aJ (V1 rfl (by lia) wl) rfl ((jX _ _ (by rw [a_,show ("\n" : Str).length=1 from rfl];lia)).trans ?_));rw [<-VR,hWA]
 | cons b B=>
  have hb:Nm b:=hB b (List.mem_cons_self ..);have lb:=hb.2.1;have fy:32∉(x++("\n" : Str)++b).cps.toList:=fun hm=>by
   rw [dM,dM] at hm;rcases List.mem_append.mp hm with g|g
   ·rcases List.mem_append.mp g with g|g
    ·have:=x3 32 g;lia
    ·revert g;decide
   ·have:=hb.2.2 32 g;lia
  rw [List.length_cons] at hlen;have hT:=vG (x:=x++("\n" : Str)++b) hA (B:=B) (fun t ht=>hB t (List.mem_cons_of_mem _ ht)) (by lia) fy (by rw [ap,ap,show ("\n" : Str).length=1 from rfl];lia);refine ⟨A++(x++("\n" : Str)++b)::B,hT,qH (V0 (c:=10) (by rw [dM,dM];exact List.mem_append_left _ (List.mem_append_right _ (by decide))) (by decide)),fin _ (aF e3 (aF e4 (aF e5 (aF e6 (aF e7 (aF (ρ':=os c m' w0 W (.int A.length) .uD .uD .uD (.str (Txt.join " " (A++(x++("\n" : Str)++b)::B))) (.int W.length)) (qM (eqT rfl h3) (aF r0 (aF r1 (lU (hcm.trans ?_) ?_)))) (fB rfl rfl)))))))⟩
  ·rw [beq_eq_false_iff_ne.mpr];lia
  ·rw [aDx];rfl
end Lk46
end
section
namespace Lk46
open PySem L2 Mi
def gc:FT:=(bTB (b2 (cC .eq) (b2 getD gF eX) (b2 getD gC m7)))
noncomputable def gb0:FS:=(bD false 7 (b2 getD dH (b2 (aO .add) gK (bM sX gB (aB (b2 getD gC eX) aP)))) false)
noncomputable def gb1:FS:=(bD false 8 (iB dH (cD LK) (cD (b2 (aO .add) (b2 (aO .add) LK (aU eY (aB (b2 getD gF m7) aP))) (aU eY (aB (b2 getD gC gK) aP))))) true)
noncomputable def gb2:FS:=(uF 4 (lO (aB (b2 getD gC gY) (aB (b2 getD gF gY) (aB (aU g_ (aB j7 aP)) (aB (lO (aB gG aP)) aP))))))
def gi:FS:=sIf gc (aQ gb0 (aQ gb1 gb2)) fH
theorem Z3 {α:Type} (f:α->D) (l:List α) (lo hi:Option Int):cutD (l.map f) lo hi=(cutD l lo hi).map f:=by
 unfold cutD;rw [List.length_map,List.map_take,List.map_drop]
noncomputable abbrev gs (N:List Str) (m:Nat) (M:List Rw) (T:List Tk) (R:List D) (a b c d:D):List D:=[.lst ((List.range m).map (sy N)),.lst (M.map (rwD N)),.lst (T.map (tkD N)),.lst ((List.range 26).map (sy N)),.lst R,a,b,c,d]
theorem qU {N:List Str} {ρ:List D} {i:Nat} {t:Tk} (h:cL i ρ=.ok (tkD N t)):b2 getD (cL i) gY ρ=.ok (sy N t.1)/\b2 getD (cL i) eX ρ=.ok (sy N t.2.1)/\b2 getD (cL i) m7 ρ=.ok (sy N t.2.2.1)/\b2 getD (cL i) gK ρ=.ok (.tup (t.2.2.2.map (sy N))):=⟨aJ h rfl rfl,aJ h rfl rfl,aJ h rfl rfl,aJ h rfl rfl⟩
theorem vH:∀{R:List D} {d:D},D.aW R=true->d.pure=true->D.aW (R++[d])=true
 | [],d,_,h=>by
  show (d.pure&&true)=true;rw [h];rfl
 | x::R,d,h1,h2=>by
  rw [D.aW,Bool.and_eq_true] at h1;rw [List.cons_append,D.aW,h1.1,vH h1.2 h2];rfl
section
variable {N:List Str} (hN:N.length=26) (hd:N.Nodup)
include hN hd
theorem aHm {m k:Nat} (h3:m<=3) (hk:k<m):sX (.lst ((List.range m).map (sy N))) [sy N k]=.ok (.int k):=by
 show (if (sy N k).b8 aZ&&D.cW aZ ((List.range m).map (sy N)) then (match aCs (sy N k) ((List.range m).map (sy N)) with|some j=>Res.ok (D.int j)|none=>.bad) else .bad)=_;have e:∀i j,i<3->j<3->eqD (sy N i) (sy N j)=decide (i=j):=fun i j hi hj=>zW hN hd (by lia) (by lia)
 have hx:aCs (sy N k) ((List.range m).map (sy N))=some k:=by
  have:(m=1/\k=0)\/(m=2/\k=0)\/(m=2/\k=1)\/(m=3/\k=0)\/(m=3/\k=1)\/(m=3/\k=2):=by lia
  have e00:=e 0 0 (by decide) (by decide);have e01:=e 0 1 (by decide) (by decide);have e02:=e 0 2 (by decide) (by decide);have e11:=e 1 1 (by decide) (by decide);have e12:=e 1 2 (by decide) (by decide);have e22:=e 2 2 (by decide) (by decide);rcases this with ⟨rfl,rfl⟩|⟨rfl,rfl⟩|⟨rfl,rfl⟩|⟨rfl,rfl⟩|⟨rfl,rfl⟩|⟨rfl,rfl⟩ <;> simp [List.range_succ,aCs,e00,e01,e02,e11,e12,e22]
 rw [hx,qD,pH];rfl
theorem aJr {m:Nat} {M:List Rw} {T:List Tk} (S:Sig m M T) {t:Tk} (ht:t∈T) {r:Rw} (hr:r∈M) {R:List D} (hR:D.aW R=true) (hl:R.length<=1000) (c d:D):∃(R':List D) (c' d':D),D.aW R'=true/\R'.length<=R.length+1/\gi (gs N m M T R (tkD N t) (rwD N r) c d)=.ok (.nx (gs N m M T R' (tkD N t) (rwD N r) c' d')):=by
 obtain ⟨u1,u2,u3⟩:=S.mg r hr;obtain ⟨v1,v2,v3,v4⟩:=S.tg t ht;have m3:=S.m3;have hc:gc (gs N m M T R (tkD N t) (rwD N r) c d)=.ok (decide (r.2.1=t.2.2.1)):=dG (aJ (jJ (i:=6) (r:=r) rfl).2.1 (qU (i:=5) (t:=t) rfl).2.2.1 (aB2 hN hd (by lia) (by lia)));by_cases hk:r.2.1=t.2.2.1
 ·let own:List Nat:=cutD (List.range 26) (some 13) (some (13+(r.2.2.length:Int)+(t.2.2.2.length:Int)))
  have lnR:∀l:List Nat,eY [.tup (l.map (sy N))]=.ok (.int l.length):=fun l=>by
   show Res.ok (D.int ((l.map (sy N)).length:Int))=_;rw [List.length_map]
  have s0:gb0 (gs N m M T R (tkD N t) (rwD N r) c d)=.ok (.nx (gs N m M T R (tkD N t) (rwD N r) (sy N (3+t.2.1)) d)):=GJ (i:=7) (aJ rfl (aJ rfl (ZF rfl (aD (qU (i:=5) (t:=t) rfl).2.1 rfl) (aHm hN hd m3 v1)) (d7 _ _)) (eV (i:=3+t.2.1) (by lia) (by lia))) rfl;have s1:gb1 (gs N m M T R (tkD N t) (rwD N r) (sy N (3+t.2.1)) d)=.ok (.nx (gs N m M T R (tkD N t) (rwD N r) (sy N (3+t.2.1)) (.lst (own.map (sy N))))):=by
   refine bO (i:=8) ?_;show _=Res.ok (D.lst ((cutD (List.range 26) (some 13) (some (13+(r.2.2.length:Int)+(t.2.2.2.length:Int)))).map (sy N)));rw [<-Z3];exact mU rfl (fL rfl) (fL (aJ (aJ rfl (bF (aD (jJ (i:=6) (r:=r) rfl).2.2 rfl) (lnR _)) (d7 _ _)) (bF (aD (qU (i:=5) (t:=t) rfl).2.2.2 rfl) (lnR _)) (d7 _ _))) (cT ..)
  have hpn:(D.tup [sy N t.1,sy N r.1,.tup (own.map (sy N)),.tup [sy N (3+t.2.1)]]).pure=true:=by
   show ((sy N t.1).pure&&((sy N r.1).pure&&((D.tup (own.map (sy N))).pure&&((D.tup [sy N (3+t.2.1)]).pure&&true))))=true;rw [D.pure.eq_def (.tup (own.map (sy N)))];show (true&&(true&&(D.aW (own.map (sy N))&&(true&&true))))=true;rw [cT];rfl
  have s2:=o7 (i:=4) (f:=lO (aB (b2 getD gC gY) (aB (b2 getD gF gY) (aB (aU g_ (aB j7 aP)) (aB (lO (aB gG aP)) aP))))) (ρ:=gs N m M T R (tkD N t) (rwD N r) (sy N (3+t.2.1)) (.lst (own.map (sy N)))) (xs:=R) (d:=.tup [sy N t.1,sy N r.1,.tup (own.map (sy N)),.tup [sy N (3+t.2.1)]]) (iT (aD (qU (i:=5) (t:=t) rfl).1 (aD (jJ (i:=6) (r:=r) rfl).1 (aD (bF (aD rfl rfl) rfl) (aD (iT (aD rfl rfl) (by rw [a_];simp)) rfl)))) (by rw [a_];simp)) rfl (by rw [a_];lia) hpn;have s2':gb2 (gs N m M T R (tkD N t) (rwD N r) (sy N (3+t.2.1)) (.lst (own.map (sy N))))=.ok (.nx (gs N m M T (R++[.tup [sy N t.1,sy N r.1,.tup (own.map (sy N)),.tup [sy N (3+t.2.1)]]]) (tkD N t) (rwD N r) (sy N (3+t.2.1)) (.lst (own.map (sy N))))):=s2;exact ⟨_,_,_,vH hR hpn,by simp,qM (hc.trans (by rw [decide_eq_true hk])) (aF s0 (aF s1 s2'))⟩
 ·exact ⟨R,c,d,hR,by lia,lU (hc.trans (by rw [decide_eq_false hk])) rfl⟩
theorem V4 {m:Nat} {M:List Rw} {T:List Tk} (S:Sig m M T) {t:Tk} (ht:t∈T):∀(L:List Rw),(∀r∈L,r∈M)->∀(R:List D),D.aW R=true->R.length+L.length<=1000->∀(b c d:D),∃(R':List D) (b' c' d':D),D.aW R'=true/\R'.length<=R.length+L.length/\nC (tg1 6) gi (L.map (rwD N)) (gs N m M T R (tkD N t) b c d)=.ok (.nx (gs N m M T R' (tkD N t) b' c' d'))
 | [],_,R,hR,_,b,c,d=>⟨R,b,c,d,hR,by lia,rfl⟩
 | r::L,h1,R,hR,hl,b,c,d=>by
  rw [List.length_cons] at hl;obtain ⟨R1,c1,d1,p1,p2,p3⟩:=aJr hN hd S ht (h1 r (List.mem_cons_self ..)) hR (by lia) c d;obtain ⟨R2,b2,c2,d2,q1,q2,q3⟩:=V4 S ht L (fun x hx=>h1 x (List.mem_cons_of_mem _ hx)) R1 p1 (by lia) (rwD N r) c1 d1;refine ⟨R2,b2,c2,d2,q1,by rw [List.length_cons];lia,?_⟩;rw [List.map_cons];exact fZ (ρ1:=gs N m M T R (tkD N t) (rwD N r) c d) rfl p3 q3
theorem V5 {m:Nat} {M:List Rw} {T:List Tk} (S:Sig m M T):∀(L:List Tk),(∀r∈L,r∈T)->∀(R:List D),D.aW R=true->R.length+10*L.length<=900->∀(a b c d:D),∃(R':List D) (a' b' c' d':D),D.aW R'=true/\R'.length<=R.length+10*L.length/\nC (tg1 5) (mD 1 (tg1 6) gi) (L.map (tkD N)) (gs N m M T R a b c d)=.ok (.nx (gs N m M T R' a' b' c' d'))
 | [],_,R,hR,_,a,b,c,d=>⟨R,a,b,c,d,hR,by lia,rfl⟩
 | t::L,h1,R,hR,hl,a,b,c,d=>by
  rw [List.length_cons] at hl;have ml:=S.ml;obtain ⟨R1,b1,c1,d1,p1,p2,p3⟩:=V4 hN hd S (h1 t (List.mem_cons_self ..)) M (fun _ h=>h) R hR (by lia) b c d;obtain ⟨R2,a2,b2,c2,d2,q1,q2,q3⟩:=V5 S L (fun x hx=>h1 x (List.mem_cons_of_mem _ hx)) R1 p1 (by lia) (tkD N t) b1 c1 d1;refine ⟨R2,a2,b2,c2,d2,q1,by rw [List.length_cons];lia,?_⟩;rw [List.map_cons];exact fZ (ρ1:=gs N m M T R (tkD N t) b c d) rfl (RJ rfl rfl p3) q3
noncomputable def pgD (N:List Str) (M:List Rw) (T:List Tk) (P0 P3:D):D:=.tup [P0,.tup (M.map (rwD N)),.tup (T.map (tkD N)),P3]
theorem aE6 {m:Nat} {M:List Rw} {T:List Tk} (S:Sig m M T):∃P0 P3:D,fC [.lst ((List.range m).map (sy N)),.lst (M.map (rwD N)),.lst (T.map (tkD N)),.lst ((List.range 26).map (sy N))]=.ok (pgD N M T P0 P3):=by
 have tl:=S.tl;obtain ⟨R,a,b,c,d,p1,p2,p3⟩:=V5 hN hd S T (fun _ h=>h) [] rfl (by simp;lia) .uD .uD .uD .uD;refine ⟨.tup ((List.range m).map (sy N)),.tup R,call_v ?_⟩;have s0:bD true 4 (iI aP) true [.lst ((List.range m).map (sy N)),.lst (M.map (rwD N)),.lst (T.map (tkD N)),.lst ((List.range 26).map (sy N)),.uD,.uD,.uD,.uD,.uD]=.ok (.nx (gs N m M T [] .uD .uD .uD .uD)):=fY (i:=4) rfl rfl;refine aF s0 (aF (RJ rfl rfl p3) (fB (iT (aD (bF (aD rfl rfl) rfl) (aD (bF (aD rfl rfl) rfl) (aD (bF (aD rfl rfl) rfl) (aD (bF (aD rfl rfl) rfl) rfl)))) (by rw [a_];simp)) ?_));show ((D.tup ((List.range m).map (sy N))).pure&&((D.tup (M.map (rwD N))).pure&&((D.tup (T.map (tkD N))).pure&&((D.tup R).pure&&true))))=true;rw [D.pure,D.pure,D.pure,D.pure,cT,dJ (fM N),dJ (GC N),p1];rfl
end
end Lk46
end
section
namespace Lk46
open PySem L2 Mi
theorem cmp_self (w:Str):cC .eq (.str w) (.str w)=.ok (.bl true):=by
 show Res.ok (D.bl (w==w))=_;rw [beq_self_eq_true]
theorem GQ (a b:Bool):cC .ne (.bl a) (.bl b)=.ok (.bl (!(a==b))):=rfl
noncomputable def rf2:FS:=(sIf (bTr (zB [("BadKind",false),("NoName",false),("NoTerm",false)] 4)) (j8 (bC (.bl false)) true) fH)
noncomputable def rf3:FS:=(sIf (bOr (bTr (zB [("BadKind",false),("NoName",false),("NoTerm",false)] 4)) (z8 (bTr (zB [("BadKind",true),("NoName",true),("NoTerm",true)] 4)))) (j8 (bC (.bl false)) true) fH)
noncomputable def rf4:FS:=(sIf (bOr (bTB (b2 (cC .ne) (zB [("BadKind",false),("NoName",true),("NoTerm",false)] 4) (b2 (cC .eq) cN eX))) (bTB (b2 (cC .ne) (zB [("BadKind",true),("NoName",false),("NoTerm",false)] 4) (b2 (cC .eq) cN m7)))) (j8 (bC (.bl false)) true) fH)
noncomputable def rf5:FS:=(sIf (bTB (b2 (cC .ne) (zB [("BadKind",false),("NoName",false),("NoTerm",true)] 4) (b2 (cC .eq) cN gK))) (j8 (bC (.bl false)) true) fH)
noncomputable def rf6:FS:=(j8 (aC5 (b2 (cC .eq) cN gK) (uE (b1 (vM .str) (M8 ["BadKind", "NoName", "NoTerm"] "word" 4)) (b2 (cC .eq) (M8 ["BadKind", "NoName", "NoTerm"] "word" 4) dH))) true)
theorem aHn:j0=(aQ (bD false 4 (bC .non) true) (aQ (aGm gH 2 (aB gB (aB dN aP)) ["BadKind", "NoName", "NoTerm"] 4 5) (aQ rf2 (aQ rf3 (aQ rf4 (aQ rf5 rf6)))))):=rfl
theorem GR {P x w:D} {fs:List (Str×Str)} (tag:Int) (c:Str) (b1 b2' b3:Bool) (h1:([("BadKind",false),("NoName",false),("NoTerm",false)]:List (Str×Bool)).lookup c=some false) (h2:([("BadKind",true),("NoName",true),("NoTerm",true)]:List (Str×Bool)).lookup c=some true) (g1:([("BadKind",false),("NoName",true),("NoTerm",false)]:List (Str×Bool)).lookup c=some b1) (g2:([("BadKind",true),("NoName",false),("NoTerm",false)]:List (Str×Bool)).lookup c=some b2') (g3:([("BadKind",false),("NoName",false),("NoTerm",true)]:List (Str×Bool)).lookup c=some b3)
  (k1:(tag==1)=b1) (k2:(tag==2)=b2') (k3:(tag==3)=b3) (hl:rf6 [P,x,.int tag,w,.exc c fs,.uD]=.ok (.rt (.bl true))):(aQ rf2 (aQ rf3 (aQ rf4 (aQ rf5 rf6)))) [P,x,.int tag,w,.exc c fs,.uD]=.ok (.rt (.bl true)):=by
 have is:∀(t:List (Str×Bool)) (b:Bool),t.lookup c=some b->zB t 4 [P,x,.int tag,w,.exc c fs,.uD]=.ok (.bl b):=fun t b h=>by
  show (match t.lookup c with|some b=>Res.ok (D.bl b)|none=>.bad)=_;rw [h]
 have s2:rf2 [P,x,.int tag,w,.exc c fs,.uD]=.ok (.nx [P,x,.int tag,w,.exc c fs,.uD]):=lU (N7 (is _ _ h1)) rfl;have s3:rf3 [P,x,.int tag,w,.exc c fs,.uD]=.ok (.nx [P,x,.int tag,w,.exc c fs,.uD]):=lU (aDe (N7 (is _ _ h1)) (qT (b:=true) (N7 (is _ _ h2)))) rfl;have s4:rf4 [P,x,.int tag,w,.exc c fs,.uD]=.ok (.nx [P,x,.int tag,w,.exc c fs,.uD]):=by
  refine lU (aDe (dG (k:=false) (aJ (is _ _ g1) (aJ rfl rfl (eU tag 1)) ?_)) (dG (k:=false) (aJ (is _ _ g2) (aJ rfl rfl (eU tag 2)) ?_))) rfl
  ·rw [GQ,k1,beq_self_eq_true];rfl
  ·rw [GQ,k2,beq_self_eq_true];rfl
 have s5:rf5 [P,x,.int tag,w,.exc c fs,.uD]=.ok (.nx [P,x,.int tag,w,.exc c fs,.uD]):=by
  refine lU (dG (k:=false) (aJ (is _ _ g3) (aJ rfl rfl (eU tag 3)) ?_)) rfl;rw [GQ,k3,beq_self_eq_true];rfl
 exact aF s2 (aF s3 (aF s4 (aF s5 hl)))
theorem V6 {P x w:D} {tag:Int} {c:Str} {fs:List (Str×Str)} {res:Res Fl} (hP:cL 0 [P,x,.int tag,w,.non,.uD]=.ok P) (hx:cL 1 [P,x,.int tag,w,.non,.uD]=.ok x) (hv:gH [P,x]=.err c [.exc c fs]) (hc:c = "BadKind"\/c = "NoName"\/c = "NoTerm") (h:(aQ rf2 (aQ rf3 (aQ rf4 (aQ rf5 rf6)))) [P,x,.int tag,w,.exc c fs,.uD]=res):j0 [P,x,.int tag,w,.uD,.uD]=res:=by
 rw [aHn];have s0:bD false 4 (bC .non) true [P,x,.int tag,w,.uD,.uD]=.ok (.nx [P,x,.int tag,w,.non,.uD]):=bO (i:=4) rfl;have s1:aGm gH 2 (aB gB (aB dN aP)) ["BadKind", "NoName", "NoTerm"] 4 5 [P,x,.int tag,w,.non,.uD]=.ok (.nx [P,x,.int tag,w,.exc c fs,.uD]):=by
  have ha:aB gB (aB dN aP) [P,x,.int tag,w,.non,.uD]=.ok [P,x]:=aD hP (aD hx rfl);unfold aGm;rw [ha,Res.aK,d_ (n:=2) (ds:=[P,x]) rfl,hv];rcases hc with rfl|rfl|rfl <;> rfl
 exact aF s0 (aF s1 h)
theorem aJs {a b:FE} {ρ:List D} (h1:a ρ=.ok (.bl true)):aC5 a b ρ=.ok (.bl true):=by
 unfold aC5;rw [h1];rfl
theorem aHo {a b:FE} {ρ:List D} {r:Res D} (h1:a ρ=.ok (.bl false)) (h2:b ρ=r):aC5 a b ρ=r:=by
 unfold aC5;rw [h1];exact h2
noncomputable def rsT:Nat->Str->Res D
 | 1,w=>ref "NoName" w
 | 2,w=>ref "BadKind" w
 | _,_=>nt
theorem N_ {N:List Str} {M:List Rw} {T:List Tk} {P0 P3:D} {x w:Str} {tag:Nat} (ht:tag=1\/tag=2\/tag=3) (hv:gH [pgD N M T P0 P3,.str x]=rsT tag w):fG [pgD N M T P0 P3,.str x,.int tag,.str w]=.ok (.bl true):=by
 rcases ht with rfl|rfl|rfl
 ·refine call_v (V6 rfl rfl hv (.inr (.inl rfl)) (GR ((1:Nat):Int) "NoName" true false false rfl rfl rfl rfl rfl rfl rfl rfl (fB (aHo (aJ rfl rfl (eU _ _)) (J_ (zX (x:=.str w) rfl rfl) (aJ (x:=.str w) rfl rfl (cmp_self w)))) rfl)))
 ·refine call_v (V6 rfl rfl hv (.inl rfl) (GR ((2:Nat):Int) "BadKind" false true false rfl rfl rfl rfl rfl rfl rfl rfl (fB (aHo (aJ rfl rfl (eU _ _)) (J_ (zX (x:=.str w) rfl rfl) (aJ (x:=.str w) rfl rfl (cmp_self w)))) rfl)))
 ·refine call_v (V6 rfl rfl hv (.inr (.inr rfl)) (GR ((3:Nat):Int) "NoTerm" false false true rfl rfl rfl rfl rfl rfl rfl rfl (fB (aJs (aJ rfl rfl (eU _ _))) rfl)))
noncomputable def rg0:FS:=(bD false 4 (aU (iH 2 gH) (noE (aB gB (aB dN aP)))) true)
noncomputable def rg1:FS:=(noE (sIf (bOr (z8 (bTr (b1 (vM .tuple) dB))) (bTB (b2 (cC .ne) (aU eY (aB dB aP)) (aU eY (aB cN aP))))) (j8 (bC (.bl false)) true) fH))
noncomputable def rgb:FS:=(sIf (bOr (z8 (bTr (b1 (vM .str) (b2 getD dB gC)))) (bTB (b2 (cC .ne) (b2 getD dB gC) (b2 getD cN gC)))) (j8 (bC (.bl false)) true) fH)
noncomputable def rg2:FS:=(noE (QR (lX (aB (aU eY (aB cN aP)) aP) jL) (tg1 5) rgb))
noncomputable def rg3:FS:=(noE (bD false 6 (aU (iH 2 mL) (aB gB (aB dB aP))) true))
noncomputable def rg4:FS:=(noE (j8 (uE (b1 (vM .str) gF) (b2 (cC .eq) gF dH)) true))
theorem aHp:mQ=(aQ rg0 (aQ rg1 (aQ rg2 (aQ rg3 rg4)))):=rfl
section
variable {N:List Str} (hN:N.length=26) (hd:N.Nodup)
include hN hd
theorem aE7 {M:List Rw} {T:List Tk} (hF:Hds (M++T.map tr)) {P0 P3:D} {r:Rw} (hr:r∈M++T.map tr) {ts:List Str}:mL [pgD N M T P0 P3,.tup ((nm N r.1::ts).map D.str)]=.ok (sy N r.2.1):=
 call_v (fB (aJ (aJ (bF (aD rfl rfl) ((d_ rfl).trans (J4 hN hd hF))) (y:=sy N r.1) (aJ (x:=.tup ((nm N r.1::ts).map D.str)) rfl rfl (rF (f:=D.str) (i:=0) rfl rfl)) (aB4 hN hd hF hr)) rfl rfl) rfl)
omit hN hd in
theorem V7 {P t wd kd:D} {ws:List Str} {z:D}:∀(l:List Nat),(∀i∈l,i<ws.length)->∀y:D,∃y',nC (tg1 5) rgb (l.map fun (k:Nat)=>D.int (0+(k:Int))) [P,t,.lst (ws.map D.str),kd,.tup (ws.map D.str),y,z]=.ok (.nx [P,t,.lst (ws.map D.str),kd,.tup (ws.map D.str),y',z])
 | [],_,y=>⟨y,rfl⟩
 | i::l,h,y=>by
  have hi:=h i (List.mem_cons_self ..);obtain ⟨y',q⟩:=V7 (P:=P) (t:=t) (wd:=wd) (kd:=kd) (ws:=ws) (z:=z) l (fun k hk=>h k (List.mem_cons_of_mem _ hk)) (.int (0+(i:Int)));have hw:ws[i]?=some ws[i]:=List.getElem?_eq_getElem hi;generalize ws[i]=w at hw;refine ⟨y',?_⟩;rw [List.map_cons];have g1:b2 getD dB gC [P,t,.lst (ws.map D.str),kd,.tup (ws.map D.str),.int (0+(i:Int)),z]=.ok (.str w):=aJ rfl rfl (rF (f:=D.str) (i:=i) (by lia) hw);have g2:b2 getD cN gC [P,t,.lst (ws.map D.str),kd,.tup (ws.map D.str),.int (0+(i:Int)),z]=.ok (.str w):=aJ rfl rfl (ZZ (i:=i) (by lia) hw);refine fZ (ρ1:=[P,t,.lst (ws.map D.str),kd,.tup (ws.map D.str),.int (0+(i:Int)),z]) rfl (lU (aDe (qT (b:=true) (N7 (zX g1 rfl))) (dG (k:=false) (aJ g1 g2 ?_))) rfl) q;show Res.ok (D.bl (!(w==w)))=_;rw [beq_self_eq_true];rfl
theorem Z4 {M:List Rw} {T:List Tk} (hF:Hds (M++T.map tr)) {P0 P3:D} {r:Rw} (hr:r∈M++T.map tr) {x:Str} {ts:List Str} (hl:ts.length<=100) (hv:gH [pgD N M T P0 P3,.str x]=.ok (.tup ((nm N r.1::ts).map D.str))):fP [pgD N M T P0 P3,.str x,.lst ((nm N r.1::ts).map D.str),sy N r.2.1]=.ok (.bl true):=by
 have hk:=aE7 hN hd hF (P0:=P0) (P3:=P3) hr (ts:=ts);generalize hws:nm N r.1::ts=ws at *;have lw:ws.length=ts.length+1:=by rw [<-hws];rfl
 obtain ⟨y,q⟩:=V7 (P:=pgD N M T P0 P3) (t:=.str x) (wd:=.uD) (kd:=sy N r.2.1) (ws:=ws) (z:=.uD) (List.range ws.length) (fun i hi=>List.mem_range.mp hi) .uD;refine call_v ?_;show mQ [pgD N M T P0 P3,.str x,.lst (ws.map D.str),sy N r.2.1,.uD,.uD,.uD]=_;rw [aHp];have lt4:∀ρ:List D,cL 4 ρ=.ok (.tup (ws.map D.str))->aU eY (aB dB aP) ρ=.ok (.int ws.length):=fun ρ h=>bF (aD h rfl) (by
  show Res.ok (D.int ((ws.map D.str).length:Int))=_;rw [List.length_map])
 have s0:rg0 [pgD N M T P0 P3,.str x,.lst (ws.map D.str),sy N r.2.1,.uD,.uD,.uD]=.ok (.nx [pgD N M T P0 P3,.str x,.lst (ws.map D.str),sy N r.2.1,.tup (ws.map D.str),.uD,.uD]):=bO (i:=4) (bF (cF (aD rfl (aD rfl rfl))) ((d_ rfl).trans hv));have s1:rg1 [pgD N M T P0 P3,.str x,.lst (ws.map D.str),sy N r.2.1,.tup (ws.map D.str),.uD,.uD]=.ok (.nx [pgD N M T P0 P3,.str x,.lst (ws.map D.str),sy N r.2.1,.tup (ws.map D.str),.uD,.uD]):=cF (lU (aDe (qT (b:=true) (N7 (zX rfl rfl))) (dG (k:=false) (aJ (lt4 _ rfl) (z6 rfl) ((aDb _ _).trans (by rw [beq_self_eq_true];rfl))))) rfl);have s2:rg2 [pgD N M T P0 P3,.str x,.lst (ws.map D.str),sy N r.2.1,.tup (ws.map D.str),.uD,.uD]=.ok (.nx [pgD N M T P0 P3,.str x,.lst (ws.map D.str),sy N r.2.1,.tup (ws.map D.str),y,.uD]):=cF (yP (sV (n:=(ws.length:Int)) (aD (z6 rfl) rfl) (by lia) (by lia)) (by rw [Int.toNat_natCast];exact q));have s3:rg3 [pgD N M T P0 P3,.str x,.lst (ws.map D.str),sy N r.2.1,.tup (ws.map D.str),y,.uD]=.ok (.nx [pgD N M T P0 P3,.str x,.lst (ws.map D.str),sy N r.2.1,.tup (ws.map D.str),y,sy N r.2.1]):=cF (bO (i:=6) (bF (aD rfl (aD rfl rfl)) ((d_ rfl).trans hk)));exact aF s0 (aF s1 (aF s2 (aF s3 (cF (fB (J_ (zX rfl rfl) (aJ rfl rfl (cmp_self _))) rfl)))))
end
end Lk46
end
section
namespace Lk46
open PySem L2 Mi
theorem V8 {f:FX} {ρ ρ1 xs:List D} {is:List Nat} (h:f ρ=.ok (.lst xs,ρ1)) (hl:xs.length=is.length) {ρ':List D} (he:vN is xs ρ1=ρ'):CZ f is ρ=.ok (.nx ρ'):=by
 subst he;unfold CZ;rw [h,Res.aK];dsimp only;rw [if_pos (decide_eq_true hl)]
theorem aHq {a:FA} {ρ:List D} {xs:List D} (h:a ρ=.ok xs) (hl:xs.length<=lim):iI a ρ=.ok (.lst xs):=by
 unfold iI;rw [h,Res.aK,if_pos (decide_eq_true hl)];rfl
theorem aLh (ns:List Int):(ns.map D.int).all isI=true:=by
 rw [List.all_eq_true];intro x hx;obtain ⟨i,_,rfl⟩:=List.mem_map.mp hx;rfl
noncomputable def lw0:FS:=(bD true 1 (aI8 (iI (aB (iB gB cP (cD G7)) (aB gY aP)))) true)
theorem aHr (ns:List Int) (r:List D):∃cs:List Int,lw0 (.scr (ns.map D.int)::.uD::r)=.ok (.nx (.scr (ns.map D.int)::.lst (dk cs 0)::r)):=by
 refine ⟨cutD ns none (some 120),fY (i:=1) (d:=.lst (dk (cutD ns none (some 120)) 0)) ?_ (pF _ _)⟩;have h1:iB gB cP (cD G7) (.scr (ns.map D.int)::.uD::r)=.ok (.lst ((cutD ns none (some 120)).map D.int)):=by
  rw [<-aCl];show (if D.aW (ns.map D.int) then Res.ok (D.lst (cutD (ns.map D.int) none (some 120))) else .bad)=_;rw [pX];rfl
 have h2:iI (aB (iB gB cP (cD G7)) (aB gY aP)) (.scr (ns.map D.int)::.uD::r)=.ok (.lst [.lst ((cutD ns none (some 120)).map D.int),.int 0]):=aHq (aD h1 rfl) (by rw [a_];simp);unfold aI8;rw [h2,Res.aK];show (do let r <- aCt [.lst ((cutD ns none (some 120)).map D.int),.int 0];Res.ok (D.lst r))=_;have h3:aCt [.lst ((cutD ns none (some 120)).map D.int),.int 0]=.ok (dk (cutD ns none (some 120)) 0):=by
  show (if ((cutD ns none (some 120)).map D.int).all isI&&D.aW [.int 0] then Res.ok (D.scr ((cutD ns none (some 120)).map D.int)::[.int 0]) else .bad)=_;rw [aLh];rfl
 rw [h3];rfl
theorem aHs {N:List Str} (hN:N.length=26) (hd:N.Nodup) {i j:Nat} (hi:i<26) (hj:j<26) (h:nm N i=nm N j):i=j:=by
 have e:=zW hN hd hi hj;have:eqD (sy N i) (sy N j)=true:=by
  show (nm N i==nm N j)=true;rw [h,beq_self_eq_true]
 rw [this] at e;exact of_decide_eq_true e.symm
theorem aE8 {v:List D->Res D} {n:Nat} {fa:FA} {is os:List Nat} {ρ ds xs:List D} (h1:fa ρ=.ok ds) (hn:ds.length=n) (h2:v ds=.ok (.lst xs)) (h3:xs.length=is.length) (h4:SX (.lst xs)=true) (h5:(os.all fun i=>aEd (ρ.getD i .uD))=true) {ρ':List D} (he:vN is xs ρ=ρ'):S5 v n fa is os ρ=.ok (.nx ρ'):=by
 subst he;unfold S5;rw [h1,Res.aK,d_ hn,h2,Res.aK];dsimp only;rw [h4,h5,decide_eq_true h3];rfl
theorem V9:∀l:List Str,(l.map D.str).all aGe=true
 | []=>rfl
 | a::l=>by
  show (true&&(l.map D.str).all aGe)=true;rw [V9 l];rfl
theorem V_ {N:List Str} {m:Nat} (h:1<=m) (h3:m<=3):getD (.lst ((List.range m).map (sy N))) (.int (-1))=.ok (.str (nm N (m-1))):=by
 match m,h,h3 with
 | 1,_,_=>rfl
 | 2,_,_=>rfl
 | 3,_,_=>rfl
set_option maxHeartbeats 2000000 in
theorem Z5 {f:FS} {m:Nat} {x1 x2:FX} {ρ ρ1 ρ2 xs ys:List D} {d:D} (h1:x1 ρ=.ok (.lst xs,ρ1)) (h2:x2 ρ1=.ok (d,ρ2)) (hp:D.aW xs=true) (hd:d.pure=true) (h3:chR f m xs [d]=.ok ys):SQ f m x1 x2 ρ=.ok (.lst ys,ρ2):=by
 unfold SQ;rw [h1,Res.aK];dsimp only;rw [h2,Res.aK];dsimp only;rw [if_pos (by rw [hp,hd];rfl),h3];rfl
theorem aJt {ρ:List D} {N:List Str} {m:Nat} (h:cL 3 ρ=.ok (.lst ((List.range m).map (sy N)))):(aU eY (aB dH aP)) ρ=.ok (.int m):=(GK h).trans (by rw [List.length_map,List.length_range])
section
variable {m:Nat} {M:List Rw} {T:List Tk} (S:Sig m M T)
include S
theorem z7 {r:Rw} (hr:r∈M++T.map tr):(3<=r.1/\r.1<13)/\r.2.1<m/\(∀i∈r.2.2,i<m)/\r.2.2.length<=3:=by
 rcases List.mem_append.mp hr with h|h
 ·obtain ⟨g1,g2,g3⟩:=S.mg r h;have:=S.mi r h;exact ⟨by lia,g1,g2,g3⟩
 ·obtain ⟨t,ht,rfl⟩:=List.mem_map.mp h;obtain ⟨g1,g2,g3,g4⟩:=S.tg t ht;have:=S.ti t ht;refine ⟨⟨by show 3<=t.1;lia,by show t.1<13;lia⟩,g1,fun i hi=>?_,by show (t.2.2.1::t.2.2.2).length<=3;rw [List.length_cons];lia⟩;rcases List.mem_cons.mp hi with e|e
  ·rw [e];exact g2
  ·exact g3 i e
theorem aE9:aIa m (M++T.map tr):=by
 have m3:=S.m3;have ml:=S.ml;have tl:=S.tl;refine ⟨m3,by rw [List.length_append,List.length_map];lia,fun r hr=>?_,fun k hk=>?_⟩
 ·obtain ⟨⟨_,h1⟩,h2,h3,h4⟩:=z7 S hr;exact ⟨by lia,by lia,h3,h4⟩
 ·obtain ⟨r,hr,h⟩:=S.ba k hk;exact ⟨r,List.mem_append_left _ hr,h⟩
theorem aBc:Hds (M++T.map tr):=by
 have m3:=S.m3;have ml:=S.ml;have tl:=S.tl;have hnd:((M++T.map tr).map (·.1)).Nodup:=by
  rw [List.map_append,List.map_map,List.nodup_append];refine ⟨S.mn,S.tn,fun a ha b hb e=>?_⟩;obtain ⟨r,hr,rfl⟩:=List.mem_map.mp ha;obtain ⟨t,ht,rfl⟩:=List.mem_map.mp hb;have h1:=S.mi r hr;have h2:=S.ti t ht;have e:r.1=t.1:=e;lia
 refine ⟨hnd,fun r hr=>?_,by rw [List.length_append,List.length_map];lia⟩;obtain ⟨⟨_,h1⟩,h2,h3,h4⟩:=z7 S hr;exact ⟨by lia,by lia,fun i hi=>by have:=h3 i hi;lia,by lia⟩
noncomputable def aEe (N:List Str) (m:Nat):List Str:=[nm N 18, "drop",nm N (m-1),nm N 13, "copy"]
theorem Z6 {N:List Str} (H:Nms N):∀s∈aEe N m,Unk N (M++T.map tr) s:=by
 have m3:=S.m3;have hl:=H.len;have no:∀i,i<26->(i<3\/13<=i)->Unk N (M++T.map tr) (nm N i):=fun i hi h r hr e=>by
  obtain ⟨⟨h0,h1⟩,_⟩:=z7 S hr;have:=aHs H.len H.nd (by lia) hi e;lia
 have mem:∀i,i<26->nm N i∈N:=fun i hi=>by
  unfold nm;rw [List.getD_eq_getElem?_getD,List.getElem?_eq_getElem (by lia)];exact List.getElem_mem _
 have nw:∀w:Str,¬w∈N->Unk N (M++T.map tr) w:=fun w hw r hr e=>by
  obtain ⟨⟨_,h1⟩,_⟩:=z7 S hr;exact hw (e▸mem r.1 (by lia))
 intro s hs;simp only [aEe,List.mem_cons,List.not_mem_nil,or_false] at hs;rcases hs with rfl|rfl|rfl|rfl|rfl
 ·exact no 18 (by lia) (by lia)
 ·exact nw _ H.nr
 ·exact no _ (by lia) (by lia)
 ·exact no 13 (by lia) (by lia)
 ·exact nw _ H.nc
omit S in
theorem uC {N:List Str} (H:Nms N) {i:Nat} (hi:i<26):Nm (nm N i):=by
 have hl:=H.len;refine H.nm _ ?_;unfold nm;rw [List.getD_eq_getElem?_getD,List.getElem?_eq_getElem (by lia)];exact List.getElem_mem _
theorem aEa {N:List Str} (H:Nms N):∀s∈aEe N m,bW s=true:=by
 have m3:=S.m3;intro s hs;simp only [aEe,List.mem_cons,List.not_mem_nil,or_false] at hs;rcases hs with rfl|rfl|rfl|rfl|rfl
 ·exact VM (uC H (by lia))
 ·decide +kernel
 ·exact VM (uC H (by lia))
 ·exact VM (uC H (by lia))
 ·decide +kernel
end
theorem aHt {A:List Rw} (hA:∀r∈A,r.1<26/\r.2.1<26) {st V Y:List Nat} (R:Run A st V Y):(∀i∈V,i<26)/\∀i∈Y,i<26:=by
 induction R with
 | nil=>exact ⟨fun i hi=>absurd hi (by simp),fun i hi=>absurd hi (by simp)⟩
 | @step r rest W U hr R ih=>
  refine ⟨fun i hi=>?_,fun i hi=>?_⟩
  ·rcases List.mem_cons.mp hi with e|e
   ·exact e▸(hA r hr).1
   ·exact ih.1 i e
  ·rcases List.mem_cons.mp hi with e|e
   ·exact e▸(hA r hr).2
   ·exact ih.2 i e
end Lk46
end
section
namespace Lk46
open PySem L2 Mi
noncomputable def lw1:FS:=(iZ false 2 (SQ d8 3 (cH eQ 1 1 aP) (cH aR 1 1 aP)))
def lw2:FS:=(CZ (cH jC 2 1 (aB cN aP)) [3,4,5])
noncomputable def lw3:FS:=(bD false 6 (b2 (aO .add) dB (e_ 19 (cV gC false) oM h_ (lO (aB (b2 getD yC gY) (aB (b2 getD yC eX) (aB (b2 aCp (lO (aB (b2 getD yC m7) aP)) (b2 getD yC gK)) aP)))) false)) true)
noncomputable def lw4:FS:=(bD false 7 (aU (iH 4 fC) (aB dH (aB dB (aB gC (aB cN aP))))) true)
def lw5:FS:=(iZ false 8 (cH aR 1 1 aP))
def lw6:FS:=(iZ false 9 (cH aR 1 1 aP))
noncomputable def lw7:FS:=(bD false 10 (b2 (cC .eq) (b2 (aO .mod) (b2 (aO .fdiv) j7 yD) m7) eX) true)
def lw8:FS:=(bD false 11 (b2 getD dH gY) false)
noncomputable def lw9:FS:=(sIf (z8 (bTr jK)) (bD false 11 (b2 getD dH (b2 (aO .mod) (b2 (aO .fdiv) j7 (bC (.int 96))) (aU eY (aB dH aP)))) false) fH)
noncomputable def lwm:FE:=(b2 getD (iI (aB QM (aB (bC (.int 30)) (aB BW (aB (bC (.int 61)) aP))))) (b2 (aO .mod) (b2 (aO .fdiv) j7 (bC (.int 24))) rC))
noncomputable def aKa:FS:=(CZ (cH iD 5 1 (aB gF (aB jR (aB (bPu lwm) (aB jK aP))))) [12,13])
def aKb:FS:=(bD false 14 gY true)
def aKc:FS:=(bD false 15 (bC (.str "")) true)
def aKd:FS:=(bD false 16 (b2 (aO .mod) j7 yD) true)
noncomputable def aKe:FS:=(bD false 17 (iI (aB (bPu (b2 getD cN XH)) (aB (bC (.str "drop")) (aB (bPu (b2 getD dH (b1 aI2 eX))) (aB (bPu (b2 getD cN LK)) (aB (bC (.str "copy")) aP)))))) true)
noncomputable def aKf:FT:=(z9 (bTB (b2 (jV .le) gK oX)) (bTB (b2 (jV .le) oX G6)))
noncomputable def aJu:FS:=(sIf aKf (S5 bQ 6 (aB (b2 (aO .sub) oX gK) (aB pM (aB gD (aB l_ (aB gF (aB (cL 17) aP)))))) [12,14,15] [1]) fH)
def aKg:FS:=(bD false 18 (bM joinM (bC (.str " ")) (aB gD aP)) true)
noncomputable def aKh:FS:=(sIf (bTB (b2 (jV .gt) oX G6)) (aQ (bD false 18 (aU (iH 3 cO) (aB (b2 (aO .sub) oX aI1) (aB pM (aB gD aP)))) true) (bD false 14 gK true)) fH)
noncomputable def aKi:FT:=(bOr (bTB (b2 (jV .gt) (aU eY (aB gD aP)) BW)) (bTB (b2 (cC .eq) (aU eY (aB gD aP)) gY)))
def aIb:FS:=(sIf aKi (bD false 14 gK true) fH)
noncomputable def aIc:FS:=(sIf (bTB (b2 (jV .gt) x_ gY)) (j8 (aU (iH 4 fG) (aB gG (aB (cL 18) (aB x_ (aB (cL 15) aP))))) true) fH)
noncomputable def aIe:FS:=(j8 (aU (iH 4 fP) (aB gG (aB (cL 18) (aB gD (aB jR aP))))) true)
theorem aHu:aD9=(aQ lw0 (aQ lw1 (aQ lw2 (aQ lw3 (aQ lw4 (aQ lw5 (aQ lw6 (aQ lw7 (aQ lw8 (aQ lw9 (aQ aKa (aQ aKb (aQ aKc (aQ aKd (aQ aKe (aQ aJu (aQ aKg (aQ aKh (aQ aIb (aQ aIc aIe)))))))))))))))))))):=rfl
noncomputable abbrev lb (sc:D) (h:List D) (N:List Str) (m:Nat) (M:List Rw) (T:List Tk) (x6 x7 x8 x9 x10 x11 x12 x13 x14 x15 x16 x17 x18:D):List D:=[sc,.lst h,.lst ((List.range 26).map (sy N)),.lst ((List.range m).map (sy N)),.lst (M.map (rwD N)),.lst (T.map (tkD N)),x6,x7,x8,x9,x10,x11,x12,x13,x14,x15,x16,x17,x18]
theorem four (x:Int):∃n:Nat,getD (.lst [.int 8,.int 30,.int 60,.int 61]) (.int (x % 4))=.ok (.int n)/\1<=n/\n<=61:=by
 have:x % 4=0\/x % 4=1\/x % 4=2\/x % 4=3:=by lia
 rcases this with h|h|h|h <;> rw [h]
 ·exact ⟨8,rfl,by lia,by lia⟩
 ·exact ⟨30,rfl,by lia,by lia⟩
 ·exact ⟨60,rfl,by lia,by lia⟩
 ·exact ⟨61,rfl,by lia,by lia⟩
structure End (N:List Str) (M:List Rw) (T:List Tk) (P0 P3:D) (k:Nat) (ws:List Str) (tag:Nat) (w x:Str):Prop where
 ln:ws.length<=100
 no:60<ws.length\/ws=[]->gH [pgD N M T P0 P3,.str x]=nt
 ye:¬(60<ws.length\/ws=[])->(tag=0/\fP [pgD N M T P0 P3,.str x,.lst (ws.map D.str),sy N k]=.ok (.bl true))\/((tag=1\/tag=2\/tag=3)/\gH [pgD N M T P0 P3,.str x]=rsT tag w)
theorem aEb {sc:D} {h:List D} {N:List Str} {m:Nat} {M:List Rw} {T:List Tk} {P0 P3:D} {k:Nat} {ws:List Str} {tag:Nat} {w x:Str} (E:End N M T P0 P3 k ws tag w x) (x6 x8 x9 x10 x13 x16 x17:D):(aQ aIb (aQ aIc aIe)) (lb sc h N m M T x6 (pgD N M T P0 P3) x8 x9 x10 (sy N k) (.lst (ws.map D.str)) x13 (.int tag) (.str w) x16 x17 (.str x))=.ok (.rt (.bl true)):=by
 have ln:=E.ln;have hc:aKi (lb sc h N m M T x6 (pgD N M T P0 P3) x8 x9 x10 (sy N k) (.lst (ws.map D.str)) x13 (.int tag) (.str w) x16 x17 (.str x))=.ok (decide ((60:Int)<ws.length)||((ws.length:Int)==0)):=aDf (dG (aJ (z6 rfl) rfl (cmp_gt _ _))) (dG (aJ (z6 rfl) rfl (eU _ _)));have ref:∀t:Nat,(t=1\/t=2\/t=3)->gH [pgD N M T P0 P3,.str x]=rsT t w->(aQ aIc aIe) (lb sc h N m M T x6 (pgD N M T P0 P3) x8 x9 x10 (sy N k) (.lst (ws.map D.str)) x13 (.int t) (.str w) x16 x17 (.str x))=.ok (.rt (.bl true)):=fun t ht hv=>qR (qM (dG (k:=true) (aJ rfl rfl ((cmp_gt _ _).trans (by rw [decide_eq_true (by lia)])))) (fB (bF (aD rfl (aD rfl (aD rfl (aD rfl rfl)))) ((d_ rfl).trans (N_ ht hv))) rfl))
 by_cases hb:60<ws.length\/ws=[]
 ·refine aF (ρ':=lb sc h N m M T x6 (pgD N M T P0 P3) x8 x9 x10 (sy N k) (.lst (ws.map D.str)) x13 (.int ((3:Nat):Int)) (.str w) x16 x17 (.str x)) (qM (hc.trans ?_) (bO (i:=14) rfl)) (ref 3 (.inr (.inr rfl)) (E.no hb));rcases hb with g|g
  ·rw [decide_eq_true (by lia)];rfl
  ·rw [g];rfl
 ·have hnx:aIb (lb sc h N m M T x6 (pgD N M T P0 P3) x8 x9 x10 (sy N k) (.lst (ws.map D.str)) x13 (.int tag) (.str w) x16 x17 (.str x))=.ok (.nx (lb sc h N m M T x6 (pgD N M T P0 P3) x8 x9 x10 (sy N k) (.lst (ws.map D.str)) x13 (.int tag) (.str w) x16 x17 (.str x))):=by
   refine lU (hc.trans ?_) rfl;have h1:¬60<ws.length:=fun z=>hb (.inl z)
   have h2:ws.length≠0:=fun z=>hb (.inr (List.length_eq_zero_iff.mp z))
   rw [decide_eq_false (by lia),beq_eq_false_iff_ne.mpr (by lia)];rfl
  refine aF hnx ?_;rcases E.ye hb with ⟨rfl,hr⟩|⟨ht,hv⟩
  ·exact aF (lU (dG (k:=false) (aJ rfl rfl (cmp_gt _ _))) rfl) (fB (bF (aD rfl (aD rfl (aD rfl (aD rfl rfl)))) ((d_ rfl).trans hr)) rfl)
  ·exact ref tag ht hv
end Lk46
end
section
namespace Lk46
open PySem L2 Mi
theorem WD:Txt.join " " []=Txt.join " " [("" : Str)]:=by rfl
theorem rH {ws:List Str} (hn:ws≠[]) (hl:ws.length<=100) (h:ws.all bW=true):Tx ws:=by
 rw [List.all_eq_true] at h;exact ⟨hn,fun t ht=>GP (gU (h t ht)),hl,fun t ht=>by have:=(gU (h t ht)).2.1;lia⟩
theorem aHv:Tx [("" : Str)]:=⟨by simp,fun t ht=>by rw [List.mem_singleton] at ht;subst ht;decide,by simp,fun t ht=>by rw [List.mem_singleton] at ht;subst ht;decide⟩
section
variable {N:List Str} (H:Nms N) {m:Nat} {M:List Rw} {T:List Tk} (S:Sig m M T) {P0 P3:D} {k:Nat}
include H S
theorem KQ {V:List Nat} (hV:∀i∈V,i<26):(V.map (nm N)).all bW=true:=by
 rw [List.all_map,List.all_eq_true];exact fun i hi=>VM (uC H (hV i hi))
theorem aBd {ws:List Str} (hl:ws.length<=100) (ho:ws.all bW=true) (h:60<ws.length\/ws=[]):gH [pgD N M T P0 P3,.str (Txt.join " " ws)]=nt:=by
 by_cases hz:ws=[]
 ·subst hz;rw [WD];exact xG aHv (.inr (by decide))
 ·exact xG (rH hz hl ho) (.inl (h.resolve_right hz))
theorem aJv {V Y:List Nat} (R:Run (M++T.map tr) [k] V Y) (hV:∀i∈V,i<26) (hl:V.length<=61):End N M T P0 P3 k (V.map (nm N)) 0 "" (Txt.join " " (V.map (nm N))):=by
 have ho:=KQ H S hV;have lw:(V.map (nm N)).length<=61:=by rw [List.length_map];exact hl
 refine ⟨by lia,aBd H S (by lia) ho,fun hb=>.inl ⟨rfl,?_⟩⟩;obtain ⟨r,hr,W,rfl,rfl⟩:=aBa R;have h1:¬60<((r.1::W).map (nm N)).length:=fun z=>hb (.inl z)
 have hF:=aBc S;have hT:=rH (by simp) (by lia) ho;have O:Out N (M++T.map tr) r.2.1 ((r.1::W).map (nm N)) 0 "":=.all (VV R) (by lia);rw [List.map_cons] at *;have hv:=KN H.len H.nd hF (P0:=P0) (P3:=P3) hr hT (by lia) ho O;exact Z4 H.len H.nd hF hr (by rw [List.length_cons] at lw;lia) hv
theorem aJw {ws:List Str} {tag:Nat} {w:Str} (ht:tag=1\/tag=2) (O:ws=[]\/Oc N (M++T.map tr) ws tag w) (hl:ws.length<=100) (ho:ws.all bW=true):End N M T P0 P3 k ws tag w (Txt.join " " ws):=by
 refine ⟨hl,aBd H S hl ho,fun hb=>.inr ⟨by lia,?_⟩⟩;have h1:¬60<ws.length:=fun z=>hb (.inl z)
 have hF:=aBc S;rcases O with O|O
 ·exact absurd (.inr O) hb
 ·cases O with
  | @hd r ts _ _ hr O=>
   have hv:=KN H.len H.nd hF (P0:=P0) (P3:=P3) hr (rH (by simp) hl ho) (by lia) ho O;refine hv.trans ?_;rcases ht with rfl|rfl <;> rfl
  | @un w ts hu=>exact ZX H.len H.nd hF (rH (by simp) hl ho) (by lia) ho hu
omit H S in
theorem aJx {ws ts:List Str} {w:Str} (hl:ws.length<=100) (hT:Tx ts) (hb:ts.all bW=false):End N M T P0 P3 k ws 3 w (Txt.join " " ts):=
 ⟨hl,fun _=>xG hT (.inr hb),fun _=>.inr ⟨.inr (.inr rfl),xG hT (.inr hb)⟩⟩
end
end Lk46
end
section
namespace Lk46
open PySem L2 Mi
theorem aHw {sc:D} {h:List D} {N:List Str} {m:Nat} {M:List Rw} {T:List Tk} (hM:M.length<=100) (hT:T.length<=100) (hm:∀t∈T,t.2.2.2.length<=10) (x7 x8 x9 x10 x11 x12 x13 x14 x15 x16 x17 x18:D):lw3 (lb sc h N m M T .uD x7 x8 x9 x10 x11 x12 x13 x14 x15 x16 x17 x18)=.ok (.nx (lb sc h N m M T (.lst ((M++T.map tr).map (rwD N))) x7 x8 x9 x10 x11 x12 x13 x14 x15 x16 x17 x18)):=by
 refine bO (i:=6) ?_;rw [List.map_append,List.map_map];refine aJ (x:=.lst (M.map (rwD N))) rfl (lK (n:=19) (tkD N) (fun t=>rwD N (tr t)) T rfl (jD rfl) (by lia) fun t ht=>?_) (CN _ _ (by rw [List.length_map,List.length_map,a_];lia) (dJ (fM N) _) ?_)
 ·refine ⟨iT (aD (qU (i:=19) (t:=t) rfl).1 (aD (qU (i:=19) (t:=t) rfl).2.1 (aD (aJ (iT (aD (qU (i:=19) (t:=t) rfl).2.2.1 rfl) (by rw [a_];simp)) (qU (i:=19) (t:=t) rfl).2.2.2 (z:=.tup ((tr t).2.2.map (sy N))) ?_) rfl))) (by rw [a_];simp),fM ..⟩;show (if decide ([sy N t.2.2.1].length+(t.2.2.2.map (sy N)).length<=lim) then Res.ok (D.tup ([sy N t.2.2.1]++t.2.2.2.map (sy N))) else .bad)=_;have:=hm t ht;rw [List.length_map,a_,decide_eq_true (by simp;lia)];rfl
 ·exact dJ (fun t=>fM N (tr t)) T
set_option maxHeartbeats 1000000 in
theorem main:∀ns:List Int,ns.length<=63->NP [.scr (ns.map D.int)]=.ok (.bl true):=fun ns _=>by
 obtain ⟨cs,e0⟩:=aHr ns [.uD,.uD,.uD,.uD,.uD,.uD,.uD,.uD,.uD,.uD,.uD,.uD,.uD,.uD,.uD,.uD,.uD];obtain ⟨N0,a1,a2,a3,q1⟩:=ZJ cs 0 (by lia);obtain ⟨c0,q2⟩:=jH cs 3 (by lia);obtain ⟨N,H,q3⟩:=U_ (N:=N0) ⟨a1,a2,a3.1,a3.2.1,a3.2.2⟩ c0;rw [aGz N H.len] at q3;obtain ⟨m,M,T,n1,S,hn1,q4⟩:=aH8 (N:=N) cs 4 (by lia);have m1:=S.m1;have m3:=S.m3;have ml:=S.ml;have tl:=S.tl;obtain ⟨P0,P3,q5⟩:=aE6 H.len H.nd S;obtain ⟨cell,q6⟩:=jH cs n1 (by lia);obtain ⟨more,q7⟩:=jH cs (n1+1) (by lia);obtain ⟨fl,hfl⟩:∃fl:Bool,(cell / 12 % 2==1)=fl:=⟨_,rfl⟩
 obtain ⟨k0,k01,k02⟩:=kix m1 (cell / 96);obtain ⟨k,k1,hk⟩:∃k,k<m/\k=(if fl then 0 else k0):=⟨if fl then 0 else k0,by split <;> lia,rfl⟩
 obtain ⟨most,g1,g2,g3⟩:=four (cell / 24);have P:=aE9 S;obtain ⟨V,Y,n2,R,vl,hn2,q8⟩:=ZP H.len H.nd cs (n:=n1+1+1) P fl k1 g2 (by lia) (by lia);have ral:∀r∈M++T.map tr,r.1<26/\r.2.1<26:=fun r hr=>by
  obtain ⟨⟨_,h1⟩,h2,_⟩:=z7 S hr;exact ⟨by lia,by lia⟩
 obtain ⟨hV,hY⟩:=aHt ral R;have rl:=wW R;have v0:0<V.length:=by have:=rl.1;simp at this;lia
 obtain ⟨sc,hsc⟩:∃sc:D,.scr (ns.map D.int)=sc:=⟨_,rfl⟩
 rw [hsc] at e0 ⊢;obtain ⟨PG,hPG⟩:∃PG:D,pgD N M T P0 P3=PG:=⟨_,rfl⟩
 rw [hPG] at q5;obtain ⟨HD,hHD⟩:∃HD:D,.lst ((M++T.map tr).map (rwD N))=HD:=⟨_,rfl⟩
 have s3:=aHw (sc:=sc) (h:=dk cs n1) (N:=N) (m:=m) (M:=M) (T:=T) (by lia) (by lia) (fun t ht=>by have:=(S.tg t ht).2.2.2;lia) .uD .uD .uD .uD .uD .uD .uD .uD .uD .uD .uD .uD;rw [hHD] at s3 q8;have pgok:cL 7 [PG]=cL 7 [PG]:=rfl;have hnm:cH eQ 1 1 aP [sc,.lst (dk cs 0),.uD,.uD,.uD,.uD,.uD,.uD,.uD,.uD,.uD,.uD,.uD,.uD,.uD,.uD,.uD,.uD,.uD]=.ok (.lst (N0.map D.str),[sc,.lst (dk cs 3),.uD,.uD,.uD,.uD,.uD,.uD,.uD,.uD,.uD,.uD,.uD,.uD,.uD,.uD,.uD,.uD,.uD]):=pD (fs:=aP) (i:=1) (rest:=[]) rfl rfl rfl q1 (pF ..) rfl;have s1:lw1 [sc,.lst (dk cs 0),.uD,.uD,.uD,.uD,.uD,.uD,.uD,.uD,.uD,.uD,.uD,.uD,.uD,.uD,.uD,.uD,.uD]=.ok (.nx [sc,.lst (dk cs 4),.lst ((List.range 26).map (sy N)),.uD,.uD,.uD,.uD,.uD,.uD,.uD,.uD,.uD,.uD,.uD,.uD,.uD,.uD,.uD,.uD]):=j4 (i:=2) (Z5 hnm (tU q2 rfl rfl) (kW _) rfl q3) rfl;have s2:lw2 [sc,.lst (dk cs 4),.lst ((List.range 26).map (sy N)),.uD,.uD,.uD,.uD,.uD,.uD,.uD,.uD,.uD,.uD,.uD,.uD,.uD,.uD,.uD,.uD]=.ok (.nx (lb sc (dk cs n1) N m M T .uD .uD .uD .uD .uD .uD .uD .uD .uD .uD .uD .uD .uD)):=V8 (pD (i:=1) (fs:=aB cN aP) (rest:=[.lst ((List.range 26).map (sy N))]) (aD rfl rfl) rfl rfl q4 (pF ..) rfl) rfl rfl;have s4:lw4 (lb sc (dk cs n1) N m M T HD .uD .uD .uD .uD .uD .uD .uD .uD .uD .uD .uD .uD)=.ok (.nx (lb sc (dk cs n1) N m M T HD PG .uD .uD .uD .uD .uD .uD .uD .uD .uD .uD .uD)):=bO (i:=7) (bF (aD rfl (aD rfl (aD rfl (aD rfl rfl)))) ((d_ rfl).trans q5));have s5:lw5 (lb sc (dk cs n1) N m M T HD PG .uD .uD .uD .uD .uD .uD .uD .uD .uD .uD .uD)=.ok (.nx (lb sc (dk cs (n1+1)) N m M T HD PG (.int cell) .uD .uD .uD .uD .uD .uD .uD .uD .uD .uD)):=j4 (i:=8) (tU q6 rfl rfl) rfl;have s6:lw6 (lb sc (dk cs (n1+1)) N m M T HD PG (.int cell) .uD .uD .uD .uD .uD .uD .uD .uD .uD .uD)=.ok (.nx (lb sc (dk cs (n1+1+1)) N m M T HD PG (.int cell) (.int more) .uD .uD .uD .uD .uD .uD .uD .uD .uD)):=j4 (i:=9) (tU q7 rfl rfl) rfl;have s7:lw7 (lb sc (dk cs (n1+1+1)) N m M T HD PG (.int cell) (.int more) .uD .uD .uD .uD .uD .uD .uD .uD .uD)=.ok (.nx (lb sc (dk cs (n1+1+1)) N m M T HD PG (.int cell) (.int more) (.bl fl) .uD .uD .uD .uD .uD .uD .uD .uD)):=by
  rw [<-hfl];exact bO (i:=10) (aJ (aJ (aJ rfl rfl (cR cell 12 (by decide) (by decide))) rfl (bV _ 2 (by decide))) rfl (eU _ _))
 have s8:lw8 (lb sc (dk cs (n1+1+1)) N m M T HD PG (.int cell) (.int more) (.bl fl) .uD .uD .uD .uD .uD .uD .uD .uD)=.ok (.nx (lb sc (dk cs (n1+1+1)) N m M T HD PG (.int cell) (.int more) (.bl fl) (sy N 0) .uD .uD .uD .uD .uD .uD .uD)):=GJ (i:=11) (aJ rfl rfl (eV (i:=0) rfl (by lia))) rfl;have s9:lw9 (lb sc (dk cs (n1+1+1)) N m M T HD PG (.int cell) (.int more) (.bl fl) (sy N 0) .uD .uD .uD .uD .uD .uD .uD)=.ok (.nx (lb sc (dk cs (n1+1+1)) N m M T HD PG (.int cell) (.int more) (.bl fl) (sy N k) .uD .uD .uD .uD .uD .uD .uD)):=by
  cases hf:fl
  ·have ek:k=k0:=by rw [hk,hf];rfl
   rw [ek];exact qM (qT (b:=false) rfl) (GJ (i:=11) (aJ rfl (aJ (aJ rfl rfl (cR cell 96 (by decide) (by decide))) (aJt rfl) (bV _ _ (by lia))) (eV k02 k01)) rfl)
  ·have ek:k=0:=by rw [hk,hf];rfl
   rw [ek];exact lU (qT (b:=true) rfl) rfl
 have hlm:lwm (lb sc (dk cs (n1+1+1)) N m M T HD PG (.int cell) (.int more) (.bl fl) (sy N k) .uD .uD .uD .uD .uD .uD .uD)=.ok (.int most):=aJ (GF (aD rfl (aD rfl (aD rfl (aD rfl rfl)))) (by simp)) (aJ (aJ rfl rfl (cR cell 24 (by decide) (by decide))) rfl (bV _ 4 (by decide))) g1;have hvHD:∀ρ:List D,ρ.getD 6 .uD=HD->cL 6 ρ=.ok HD:=fun ρ h=>by
  unfold cL;rw [h,<-hHD]
 have ha10:(aB gF (aB jR (aB (bPu lwm) (aB jK aP)))) (lb sc (dk cs (n1+1+1)) N m M T HD PG (.int cell) (.int more) (.bl fl) (sy N k) .uD .uD .uD .uD .uD .uD .uD)=.ok [HD,sy N k,.int most,.bl fl]:=aD (hvHD _ rfl) (aD rfl (aD (wO hlm rfl) (aD rfl rfl)));have s10:aKa (lb sc (dk cs (n1+1+1)) N m M T HD PG (.int cell) (.int more) (.bl fl) (sy N k) .uD .uD .uD .uD .uD .uD .uD)=.ok (.nx (lb sc (dk cs n2) N m M T HD PG (.int cell) (.int more) (.bl fl) (sy N k) (.lst (V.map (sy N))) (.lst (Y.map (sy N))) .uD .uD .uD .uD .uD)):=V8 (pD (i:=1) ha10 rfl rfl q8 (pF ..) rfl) rfl rfl;have s11:aKb (lb sc (dk cs n2) N m M T HD PG (.int cell) (.int more) (.bl fl) (sy N k) (.lst (V.map (sy N))) (.lst (Y.map (sy N))) .uD .uD .uD .uD .uD)=.ok (.nx (lb sc (dk cs n2) N m M T HD PG (.int cell) (.int more) (.bl fl) (sy N k) (.lst (V.map (sy N))) (.lst (Y.map (sy N))) (.int ((0:Nat):Int)) .uD .uD .uD .uD)):=bO (i:=14) rfl;have s12:aKc (lb sc (dk cs n2) N m M T HD PG (.int cell) (.int more) (.bl fl) (sy N k) (.lst (V.map (sy N))) (.lst (Y.map (sy N))) (.int ((0:Nat):Int)) .uD .uD .uD .uD)=.ok (.nx (lb sc (dk cs n2) N m M T HD PG (.int cell) (.int more) (.bl fl) (sy N k) (.lst (V.map (sy N))) (.lst (Y.map (sy N))) (.int ((0:Nat):Int)) (.str "") .uD .uD .uD)):=bO (i:=15) rfl;obtain ⟨ch,hch⟩:∃ch:Int,cell % 12=ch:=⟨_,rfl⟩
 have hch0:0<=ch/\ch<12:=by lia
 have s13:aKd (lb sc (dk cs n2) N m M T HD PG (.int cell) (.int more) (.bl fl) (sy N k) (.lst (V.map (sy N))) (.lst (Y.map (sy N))) (.int ((0:Nat):Int)) (.str "") .uD .uD .uD)=.ok (.nx (lb sc (dk cs n2) N m M T HD PG (.int cell) (.int more) (.bl fl) (sy N k) (.lst (V.map (sy N))) (.lst (Y.map (sy N))) (.int ((0:Nat):Int)) (.str "") (.int ch) .uD .uD)):=by
  rw [<-hch];exact bO (i:=16) (aJ rfl rfl (bV cell 12 (by decide)))
 obtain ⟨SD,hSD⟩:∃SD:List D,(aEe N m).map D.str=SD:=⟨_,rfl⟩
 have s14:aKe (lb sc (dk cs n2) N m M T HD PG (.int cell) (.int more) (.bl fl) (sy N k) (.lst (V.map (sy N))) (.lst (Y.map (sy N))) (.int ((0:Nat):Int)) (.str "") (.int ch) .uD .uD)=.ok (.nx (lb sc (dk cs n2) N m M T HD PG (.int cell) (.int more) (.bl fl) (sy N k) (.lst (V.map (sy N))) (.lst (Y.map (sy N))) (.int ((0:Nat):Int)) (.str "") (.int ch) (.lst SD) .uD)):=by
  rw [<-hSD];exact bO (i:=17) (GF (ds:=[.str (nm N 18),.str "drop",.str (nm N (m-1)),.str (nm N 13),.str "copy"]) (aD (wO (aJ rfl rfl (eV (i:=18) rfl (by decide))) rfl) (aD rfl (aD (wO (aJ rfl (zX rfl rfl) (V_ m1 m3)) rfl) (aD (wO (aJ rfl rfl (eV (i:=13) rfl (by decide))) rfl) (aD rfl rfl))))) (by simp))
 refine call_v ?_;show aD9 [sc,.uD,.uD,.uD,.uD,.uD,.uD,.uD,.uD,.uD,.uD,.uD,.uD,.uD,.uD,.uD,.uD,.uD,.uD]=_;rw [aHu];refine aF e0 (aF s1 (aF s2 (aF s3 (aF s4 (aF s5 (aF s6 (aF s7 (aF s8 (aF s9 (aF s10 (aF s11 (aF s12 (aF s13 (aF s14 ?_))))))))))))));have gt6:∀(ws:List Str) (t w x:D),bTB (b2 (jV .gt) oX G6) (lb sc (dk cs n2) N m M T HD PG (.int cell) (.int more) (.bl fl) (sy N k) (.lst (ws.map D.str)) (.lst (Y.map (sy N))) t w (.int ch) (.lst SD) x)=.ok (decide (6<ch)):=fun ws t w x=>dG (aJ rfl rfl (cmp_gt _ _))
 have hc15:aKf (lb sc (dk cs n2) N m M T HD PG (.int cell) (.int more) (.bl fl) (sy N k) (.lst (V.map (sy N))) (.lst (Y.map (sy N))) (.int ((0:Nat):Int)) (.str "") (.int ch) (.lst SD) .uD)=.ok (decide (3<=ch)&&decide (ch<=6)):=by
  have c1:bTB (b2 (jV .le) gK oX) (lb sc (dk cs n2) N m M T HD PG (.int cell) (.int more) (.bl fl) (sy N k) (.lst (V.map (sy N))) (.lst (Y.map (sy N))) (.int ((0:Nat):Int)) (.str "") (.int ch) (.lst SD) .uD)=.ok (decide (3<=ch)):=dG (aJ rfl rfl (U0 _ _));have c2:bTB (b2 (jV .le) oX G6) (lb sc (dk cs n2) N m M T HD PG (.int cell) (.int more) (.bl fl) (sy N k) (.lst (V.map (sy N))) (.lst (Y.map (sy N))) (.int ((0:Nat):Int)) (.str "") (.int ch) (.lst SD) .uD)=.ok (decide (ch<=6)):=dG (aJ rfl rfl (U0 _ _));cases hh:decide (3<=ch)
  ·exact MK (c1.trans (by rw [hh]))
  ·exact sU (c1.trans (by rw [hh])) c2
 have ho:=KQ H S hV;have hvl:V.length<=61:=by lia
 have j16:∀(ws:List Str) (t w:D),ws.length<=100->ws.all bW=true->aKg (lb sc (dk cs n2) N m M T HD PG (.int cell) (.int more) (.bl fl) (sy N k) (.lst (ws.map D.str)) (.lst (Y.map (sy N))) t w (.int ch) (.lst SD) .uD)=.ok (.nx (lb sc (dk cs n2) N m M T HD PG (.int cell) (.int more) (.bl fl) (sy N k) (.lst (ws.map D.str)) (.lst (Y.map (sy N))) t w (.int ch) (.lst SD) (.str (Txt.join " " ws)))):=fun ws t w hl hw=>bO (i:=18) (V1 rfl hl fun x hx=>by
  rw [List.all_eq_true] at hw;have:=(gU (hw x hx)).2.1;lia)
 have fin:∀(ws:List Str) (tag:Nat) (w x:Str),End N M T P0 P3 k ws tag w x->(aQ aIb (aQ aIc aIe)) (lb sc (dk cs n2) N m M T HD PG (.int cell) (.int more) (.bl fl) (sy N k) (.lst (ws.map D.str)) (.lst (Y.map (sy N))) (.int tag) (.str w) (.int ch) (.lst SD) (.str x))=.ok (.rt (.bl true)):=fun ws tag w x E=>by
  rw [<-hPG];exact aEb E ..
 have lW:(V.map (nm N)).length<=100:=by rw [List.length_map];lia
 have lW2:(V.map (nm N)).length=V.length:=List.length_map _;by_cases h1:3<=ch/\ch<=6
 ·obtain ⟨ws,tag,w,t1,O,wl,wo,qo⟩:=Z1 H.len H.nd (c:=ch-3) (m:=more) (by lia) (by lia) R (by lia) (S:=aEe N m) rfl (Z6 S H) (by rw [List.length_append,List.length_map];lia) ral hY (fun i hi=>VM (uC H hi)) (aEa S H) hV;rw [hHD,hSD] at qo;have ha5:(aB (b2 (aO .sub) oX gK) (aB pM (aB gD (aB l_ (aB gF (aB (cL 17) aP)))))) (lb sc (dk cs n2) N m M T HD PG (.int cell) (.int more) (.bl fl) (sy N k) (.lst (V.map (sy N))) (.lst (Y.map (sy N))) (.int ((0:Nat):Int)) (.str "") (.int ch) (.lst SD) .uD)=.ok [.int (ch-3),.int more,.lst (V.map (sy N)),.lst (Y.map (sy N)),HD,.lst SD]:=aD (aJ rfl rfl (yR _ _)) (aD rfl (aD rfl (aD rfl (aD (hvHD _ rfl) (aD rfl rfl)))));have hn5:SX (.lst [.lst (ws.map D.str),.int tag,.str w])=true:=by
   show ((ws.map D.str).all aGe&&(true&&true))=true;rw [V9];rfl
  have s15:aJu (lb sc (dk cs n2) N m M T HD PG (.int cell) (.int more) (.bl fl) (sy N k) (.lst (V.map (sy N))) (.lst (Y.map (sy N))) (.int ((0:Nat):Int)) (.str "") (.int ch) (.lst SD) .uD)=.ok (.nx (lb sc (dk cs n2) N m M T HD PG (.int cell) (.int more) (.bl fl) (sy N k) (.lst (ws.map D.str)) (.lst (Y.map (sy N))) (.int tag) (.str w) (.int ch) (.lst SD) .uD)):=qM (hc15.trans (by rw [decide_eq_true h1.1,decide_eq_true h1.2];rfl)) (aE8 (v:=bQ) (n:=6) (is:=[12,14,15]) (os:=[1]) ha5 rfl qo rfl hn5 rfl rfl);exact aF s15 (aF (j16 ws _ _ (by lia) wo) (aF (lU ((gt6 ws _ _ _).trans (by rw [decide_eq_false (by lia)])) rfl) (fin ws tag w _ (aJw H S t1 O (by lia) wo))))
 ·have s15:aJu (lb sc (dk cs n2) N m M T HD PG (.int cell) (.int more) (.bl fl) (sy N k) (.lst (V.map (sy N))) (.lst (Y.map (sy N))) (.int ((0:Nat):Int)) (.str "") (.int ch) (.lst SD) .uD)=.ok (.nx (lb sc (dk cs n2) N m M T HD PG (.int cell) (.int more) (.bl fl) (sy N k) (.lst ((V.map (nm N)).map D.str)) (.lst (Y.map (sy N))) (.int ((0:Nat):Int)) (.str "") (.int ch) (.lst SD) .uD)):=by
   rw [<-t_];refine lU (hc15.trans ?_) rfl;by_cases g:3<=ch
   ·rw [decide_eq_true g,decide_eq_false (by lia)];rfl
   ·rw [decide_eq_false g];rfl
  refine aF s15 (aF (j16 _ _ _ lW ho) ?_);by_cases h6:6<ch
  ·obtain ⟨ts,hT,hb,qt⟩:=aE5 (c:=ch-7) (m:=more) (by lia) (by lia) (W:=V.map (nm N)) (by lia) (by lia) (fun t ht=>by
    rw [List.all_eq_true] at ho;exact gU (ho t ht))
   have s17:aKh (lb sc (dk cs n2) N m M T HD PG (.int cell) (.int more) (.bl fl) (sy N k) (.lst ((V.map (nm N)).map D.str)) (.lst (Y.map (sy N))) (.int ((0:Nat):Int)) (.str "") (.int ch) (.lst SD) (.str (Txt.join " " (V.map (nm N)))))=.ok (.nx (lb sc (dk cs n2) N m M T HD PG (.int cell) (.int more) (.bl fl) (sy N k) (.lst ((V.map (nm N)).map D.str)) (.lst (Y.map (sy N))) (.int ((3:Nat):Int)) (.str "") (.int ch) (.lst SD) (.str (Txt.join " " ts)))):=by
    refine qM ((gt6 _ _ _ _).trans (by rw [decide_eq_true h6])) ?_;refine aF (ρ':=lb sc (dk cs n2) N m M T HD PG (.int cell) (.int more) (.bl fl) (sy N k) (.lst ((V.map (nm N)).map D.str)) (.lst (Y.map (sy N))) (.int ((0:Nat):Int)) (.str "") (.int ch) (.lst SD) (.str (Txt.join " " ts))) (bO (i:=18) (bF (aD (aJ rfl rfl (yR _ _)) (aD rfl (aD rfl rfl))) ((d_ rfl).trans qt))) (bO (i:=14) rfl)
   exact aF s17 (fin _ 3 "" _ (aJx lW hT hb))
  ·exact aF (lU ((gt6 _ _ _ _).trans (by rw [decide_eq_false h6])) rfl) (fin _ 0 "" _ (aJv H S R hV hvl))
end Lk46
end
section
open PySem PySem.W PyProof.Rows
def PySem.W.Fast.tw3482067438059362227 : Unit:=()
def PySem.W.Fast.tw15016312036837407160 : Unit:=()
def PySem.W.Fast.tw4531189367190539850 : Unit:=()
def PySem.W.Fast.tw241234126856826316 : Unit:=()
def PySem.W.Fast.tw16636736041008557865 : Unit:=()
def PySem.W.Fast.tw15188777257353127345 : Unit:=()
def PySem.W.Fast.tw4161757398685603389 : Unit:=()
def PySem.W.Fast.tw3393782862972387360 : Unit:=()
def PySem.W.Fast.tw705489266968783707 : Unit:=()
def PySem.W.Fast.tw11718542457008297424 : Unit:=()
def PySem.W.Fast.tw5414819674610688479 : Unit:=()
def PySem.W.Fast.tw4672021268534096821 : Unit:=()
def PySem.W.Fast.tw5685929157532972558 : Unit:=()
def PySem.W.Fast.tw1864046446036508732 : Unit:=()
def PySem.W.Fast.tw1273404364030753958 : Unit:=()
def PySem.W.Fast.tw14062857695278029487 : Unit:=()
def PySem.W.Fast.tw5560716224336191310 : Unit:=()
def PySem.W.Fast.tw1175678557952655222 : Unit:=()
def PySem.W.Fast.tw9417311525998318722 : Unit:=()
def PySem.W.Fast.tw7883057839620484658 : Unit:=()
def PySem.W.Fast.tw17493166486514319871 : Unit:=()
def PySem.W.Fast.tw4341739353993575024 : Unit:=()
def PySem.W.Fast.tw15252113805370946208 : Unit:=()
def PySem.W.Fast.tw18079903428393298995 : Unit:=()
def PySem.W.Fast.tw16343998477356253144 : Unit:=()
def PySem.W.Fast.tw2654120923444213481 : Unit:=()
def PySem.W.Fast.tw3366113408731567726 : Unit:=()
def PySem.W.Fast.tw1708307371123454199 : Unit:=()
def PySem.W.Fast.tw14249119243258862632 : Unit:=()
def PySem.W.Fast.tw4833011814939345748 : Unit:=()
def PySem.W.Fast.tw2812758860572380449 : Unit:=()
def PySem.W.Fast.tw485035915054929513 : Unit:=()
def PySem.W.Fast.tw3863216027710641732 : Unit:=()
def PySem.W.Fast.tw9787789783069175818 : Unit:=()
def PySem.W.Fast.tw14382678802383495493 : Unit:=()
def PySem.W.Fast.tw17466319024926246464 : Unit:=()
def PySem.W.Fast.tw16811292396463770277 : Unit:=()
def PySem.W.Fast.tw10356274444961106060 : Unit:=()
def PySem.W.Fast.tw17770291822102847239 : Unit:=()
def PySem.W.Fast.tw10883880902007081102 : Unit:=()
def PySem.W.Fast.tw3292393397437396628 : Unit:=()
def PySem.W.Fast.tw15560275364592366347 : Unit:=()
def PySem.W.Fast.tw2071691117780019248 : Unit:=()
def PySem.W.Fast.tw11003880809083528608 : Unit:=()
def PySem.W.Fast.tw5090129246600485209 : Unit:=()
def PySem.W.Fast.tw597704071649980012 : Unit:=()
def PySem.W.Fast.tw9649077518956341985 : Unit:=()
def PySem.W.Fast.tw17772618051023084476 : Unit:=()
def PySem.W.Fast.tw130447575650384898 : Unit:=()
def PySem.W.Fast.tw990265911680948192 : Unit:=()
set_option maxRecDepth 100000 in
set_option maxHeartbeats 0 in
theorem PySem.Challenge.cw_hookmill_k46_terms_holds : PySem.Challenge.rw_hookmill_k46_terms.Holds := by
 w_on;o_law;k_head;(case hw=>w_witness2)
 k_fill
 refine Lk46.walk (l:=PySem.Challenge.rw_hookmill_k46_terms) Lk46.main rfl rfl (fun w h Y=>PySem.W.kIn_of Y) ?F
 case F=>
  intro w mg fa h KX G hmg
  refine' Lk46.aGv KX G hmg ?a0 ?a1 ?a2 ?a3 ?a4 ?a5 ?a6 ?a7 ?a8 ?a9 ?a10 ?a11 ?a12 ?a13 ?a14 ?a15 ?a16 ?a17 ?a18 ?l18 ?c18 ?k18 ?z_len ?z_min ?z_max ?z_list ?z_tuple ?z_sorted ?z_range ?z_isinstance ?z_int ?z_bool ?z_str ?z_dict ?z_all ?z_enumerate ?z_sum ?z_zip ?z_abs ?z_reversed ?g_NoTerm ?g_MillError ?g_Spent ?g_NoValue ?g_NoRule ?g_NoPair ?g_NoNet ?g_NoEnd ?g_Lacking ?g_BadRow ?g_Unfit ?g_Uneven ?g_TwoRules ?g_Twice ?g_Stuck ?g_NoName ?g_BadKind ?xp_NoTerm ?zz_ValueError ?xm_BadKind_MillError ?xm_NoName_MillError ?xm_NoTerm_MillError ?w1_BadKind ?w2_BadKind ?w3_BadKind ?w4_BadKind ?w5_BadKind ?w6_BadKind ?w7_BadKind ?w8_BadKind ?kt_BadKind_BadRow ?w1_NoName ?w2_NoName ?w3_NoName ?w4_NoName ?w5_NoName ?w6_NoName ?w7_NoName ?w8_NoName ?kt_NoName_BadRow ?w1_NoTerm ?w2_NoTerm ?w3_NoTerm ?w4_NoTerm ?w5_NoTerm ?w6_NoTerm ?w7_NoTerm ?w8_NoTerm ?kt_NoTerm_BadRow ?kt_BadKind_Stuck ?kt_NoName_Stuck ?kt_NoTerm_Stuck ?ko_BadKind_ValueError ?ko_NoName_ValueError ?ko_NoTerm_ValueError ?ko_BadKind_NoName ?ko_NoName_NoName ?ko_NoTerm_NoName ?ko_BadKind_BadKind ?ko_NoName_BadKind ?ko_NoTerm_BadKind ?ko_BadKind_NoTerm ?ko_NoName_NoTerm ?ko_NoTerm_NoTerm ?hd_BadKind ?no_BadKind_word ?hd_NoName ?no_NoName_word ?hd_NoTerm ?no_NoTerm_word ?xe_NoName ?in_NoName ?fn_NoName ?kp_NoName ?sa_NoName ?li_NoName ?ci_NoName ?ki_NoName ?b1_MillError ?b2_MillError ?b3_MillError ?xe_BadKind ?in_BadKind ?fn_BadKind ?kp_BadKind ?sa_BadKind ?li_BadKind ?ci_BadKind ?ki_BadKind
  (case a0|a1|a2|a3|a4|a5|a6|a7|a8|a9|a10|a11|a12|a13|a14|a15|a16|a17=>refine' Lk46.aJk ?a ?b ?c ?d;(case a=>k_is);(case b=>k_is);(case c=>k_is);case d=>k_is)
  (case a18|l18|c18|k18|z_len|z_min|z_max|z_list|z_tuple|z_sorted|z_range|z_isinstance|z_int|z_bool|z_str|z_dict|z_all|z_enumerate|z_sum|z_zip|z_abs|z_reversed|g_NoTerm|g_MillError|g_Spent|g_NoValue|g_NoRule|g_NoPair|g_NoNet|g_NoEnd|g_Lacking|g_BadRow|g_Unfit|g_Uneven|g_TwoRules|g_Twice|g_Stuck|g_NoName|g_BadKind|zz_ValueError|w1_BadKind|w2_BadKind|w3_BadKind|w4_BadKind|w5_BadKind|w6_BadKind|w7_BadKind|w8_BadKind|w1_NoName|w2_NoName|w3_NoName|w4_NoName|w5_NoName|w6_NoName|w7_NoName|w8_NoName|w1_NoTerm|w2_NoTerm|w3_NoTerm|w4_NoTerm|w5_NoTerm|w6_NoTerm|w7_NoTerm|w8_NoTerm|hd_BadKind|no_BadKind_word|hd_NoName|no_NoName_word|hd_NoTerm|no_NoTerm_word|in_NoName|fn_NoName|kp_NoName|sa_NoName|li_NoName|ci_NoName|ki_NoName|b1_MillError|b2_MillError|b3_MillError|in_BadKind|fn_BadKind|kp_BadKind|sa_BadKind|li_BadKind|ci_BadKind|ki_BadKind=>k_is)
  (case xp_NoTerm=>k_exc)
  (case xm_BadKind_MillError=>kts_exm)
  (case xm_NoName_MillError=>kts_exm)
  (case xm_NoTerm_MillError=>kts_exm)
  (case kt_BadKind_BadRow=>kit_is)
  (case kt_NoName_BadRow=>kit_is)
  (case kt_NoTerm_BadRow=>kit_is)
  (case kt_BadKind_Stuck=>kit_is)
  (case kt_NoName_Stuck=>kit_is)
  (case kt_NoTerm_Stuck=>kit_is)
  (case ko_BadKind_ValueError=>kit_is)
  (case ko_NoName_ValueError=>kit_is)
  (case ko_NoTerm_ValueError=>kit_is)
  (case ko_BadKind_NoName=>kit_is)
  (case ko_NoName_NoName=>kit_is)
  (case ko_NoTerm_NoName=>kit_is)
  (case ko_BadKind_BadKind=>kit_is)
  (case ko_NoName_BadKind=>kit_is)
  (case ko_NoTerm_BadKind=>kit_is)
  (case ko_BadKind_NoTerm=>kit_is)
  (case ko_NoName_NoTerm=>kit_is)
  (case ko_NoTerm_NoTerm=>kit_is)
  (case xe_NoName=>kernel_rfl)
  (case xe_BadKind=>kernel_rfl)
end
