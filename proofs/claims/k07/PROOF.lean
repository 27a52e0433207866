import PyProof.Rows.All
import Wide.All
import OpenK.AllK
import Wide.FinOn
import PyProof.EqAt
import PyProof.EqKinds
import PyProof.TupleCall
import Lean
import PyProof.Rows.SortRuns
import PySem.Syntax
import PyProof.NeKinds
import PyProof.WalkInts
import KE.KDictList
import PyProof.CompUse
import PyProof.StrWalks
import PyProof.EnumMake
import PyProof.EnumFor
import PyProof.StrCalls2
import PyProof.StrBlock2
import PyProof.StrBlockI
import PyProof.SliceStr2
import PyProof.ConsumeWalk
import PyProof.StrLawsJoin
import KE.KTryMore
import KE.KTryDeep
import OpenK.KOwn
import PyProof.ExcClass3
import KE.KIsAll
import PyProof.ExcArgsOwn
import PyProof.NsDelKeeps
import PyProof.ListRange
import PyProof.DictWalks
import KE.KEqDict
import PyProof.DictRoadsH
import PyProof.DictList
import KE.KDictSum
import PyProof.TupleOfSeq
import PyProof.Rows.TupAdd
import PyProof.DictIter
import PyProof.AttrMissHeap
import PyProof.ZipIter
import PyProof.TupleIter
import PyProof.WalksMore
import PyProof.FactsAll.zip
import KE.KDictOf
import PyProof.Conv_int
import PyProof.Conv_int_bool
import PyProof.StrBlockL
import PyProof.MakeMany
import PyProof.MeetsStr2
import PyProof.CallRoads3
import PyProof.Rows.TupIn
import PySem.Challenge.RW_hookmill_k07_is_net
set_option Elab.async false
set_option maxRecDepth 100000
set_option maxHeartbeats 4000000
noncomputable section
set_option linter.all false
set_option autoImplicit false
set_option genSizeOfSpec false
set_option genInjectivity true
abbrev nDb (x:PySem.Str):Prop := (x==("__debug__" : PySem.Str))=false
abbrev nCd (x:PySem.Str):Prop := (x==("__classdict__" : PySem.Str))=false
section
namespace L2
open PySem PySem.Spec PyProof.Rows
abbrev Key:=Sum Int Str
noncomputable def IV:Key->Value->Bool
 | .inl k,v=>Value.isInt k v
 | .inr x,v=>Value.isStrOf x v
noncomputable def aJd (w:World):Key->Int
 | .inl k=>hashInt k
 | .inr x=>hashStr w x
theorem dB:∀{k:Key} {v:Value},IV k v=true->(∃i t,k=Sum.inl i/\v=Value.int i t)\/(∃x t,k=Sum.inr x/\v=Value.str x t)
 | .inl i,v,h=>by
  obtain ⟨t,e⟩:=Value.isInt_shape (k:=i) (v:=v) h;exact .inl ⟨i,t,rfl,e⟩
 | .inr x,v,h=>by
  obtain ⟨t,e⟩:=Value.isStrOf_shape (x:=x) (v:=v) h;exact .inr ⟨x,t,rfl,e⟩
theorem TF (i:Int) (t:Tok):IV (.inl i) (.int i t)=true:=by simp [IV,Value.isInt]
theorem TJ (x:Str) (t:Tok):IV (.inr x) (.str x t)=true:=by simp [IV,Value.isStrOf]
theorem aF2 (a b:Int):decide ((Sum.inl a:Key)=Sum.inl b)=(a==b):=by
 by_cases e:a=b
 ·subst e;simp
 ·have h:¬(Sum.inl a:Key)=Sum.inl b:=fun q=>e (Sum.inl.inj q)
  rw [decide_eq_false h];exact (beq_eq_false_iff_ne.mpr e).symm
theorem aF3 (a b:Str):decide ((Sum.inr a:Key)=Sum.inr b)=decide (a=b):=by
 by_cases e:a=b
 ·subst e;simp
 ·have h:¬(Sum.inr a:Key)=Sum.inr b:=fun q=>e (Sum.inr.inj q)
  rw [decide_eq_false h,decide_eq_false e]
theorem aF4 (a:Int) (b:Str):decide ((Sum.inl a:Key)=Sum.inr b)=false:=decide_eq_false (fun q=>nomatch q)
theorem aF5 (a:Str) (b:Int):decide ((Sum.inr a:Key)=Sum.inl b)=false:=decide_eq_false (fun q=>nomatch q)
noncomputable def cY (prog:Program) (w:World):PySem.KeyKind prog w Key where
 is:=IV
 hash:=aJd w
 inj:=fun v a b ha hb=>by
  rcases dB ha with ⟨i,t,rfl,rfl⟩|⟨x,t,rfl,rfl⟩
  ·rcases dB hb with ⟨j,u,rfl,e⟩|⟨y,u,rfl,e⟩
   ·injection e with e1 _;rw [e1]
   ·exact nomatch e
  ·rcases dB hb with ⟨j,u,rfl,e⟩|⟨y,u,rfl,e⟩
   ·exact nomatch e
   ·injection e with e1 _;rw [e1]
 byValue:=fun k v h=>by
  rcases dB h with ⟨i,t,rfl,rfl⟩|⟨x,t,rfl,rfl⟩ <;> rfl
 pyHash:=fun hv h=>by
  rcases dB hv with ⟨i,t,rfl,rfl⟩|⟨x,t,rfl,rfl⟩
  ·exact wpAny_pyHash_int h
  ·exact wpAny_pyHash_str h
 eqBool:=fun hu hv h=>by
  rcases dB hu with ⟨i,t,rfl,rfl⟩|⟨x,t,rfl,rfl⟩
  ·rcases dB hv with ⟨j,u,rfl,rfl⟩|⟨y,u,rfl,rfl⟩
   ·rw [aF2] at h;exact wpAny_eqBool_int h
   ·rw [aF4] at h;exact SeqAt.EqAt.int_str i t y u _ _ _ _ h
  ·rcases dB hv with ⟨j,u,rfl,rfl⟩|⟨y,u,rfl,rfl⟩
   ·rw [aF5] at h;exact SeqAt.EqAt.str_int x t j u _ _ _ _ h
   ·rw [aF3] at h;exact wpAny_eqBool_str h
 «strs»:=fun k x t v h=>by
  rcases dB h with ⟨i,u,rfl,e⟩|⟨y,u,rfl,e⟩
  ·exact nomatch e
  ·injection e with e1 _
   subst e1;cases v <;> rfl
theorem IW (prog:Program) (w:World) (i:Int) (t:Tok):(cY prog w).is (.inl i) (.int i t)=true:=TF i t
theorem I_ (prog:Program) (w:World) (x:Str) (t:Tok):(cY prog w).is (.inr x) (.str x t)=true:=TJ x t
end L2
namespace L2
open PySem PySem.Spec PyProof.Rows
inductive V where
 | non|bl (b:Bool)|int (i:Int)|str (x:Str)|byt (b:Array UInt8)|flt (b:UInt64)|ref (a:Addr)|ty (n:String)
 deriving DecidableEq
noncomputable def RelV:V->Value->Prop
 | .non,u=>u=Value.none
 | .bl b,u=>u=Value.bool b
 | .int i,u=>∃t,u=Value.int i t
 | .str x,u=>∃t,u=Value.str x t
 | .byt b,u=>∃t,u=Value.bytes b t
 | .flt b,u=>∃t,u=Value.float b t
 | .ref a,u=>u=Value.ref a
 | .ty n,u=>u=Value.type n
abbrev Vals:List V->List Value->Prop:=Paired RelV
theorem Vals.length {xs:List V} {us:List Value} (r:Vals xs us):xs.length=us.length:=Paired.length r
theorem Vals.get:∀{xs:List V} {us:List Value} {i:Nat} {x:V},Vals xs us->xs[i]?=some x->∃u,us[i]?=some u/\RelV x u
 | _,_,_,_,.nil,e=>by simp at e
 | _,_,0,_,.cons r _,e=>by simp at e;subst e;exact ⟨_,rfl,r⟩
 | _,_,i+1,x,.cons _ t,e=>by
  obtain ⟨u,h1,h2⟩:=Vals.get (i:=i) (x:=x) t (by simpa using e);exact ⟨u,by simpa using h1,h2⟩
theorem Vals.append:∀{xs ys:List V} {us ws:List Value},Vals xs us->Vals ys ws->Vals (xs++ys) (us++ws)
 | _,_,_,_,.nil,s=>s
 | _,_,_,_,.cons r t,s=>.cons r (Vals.append t s)
theorem Vals.take:∀{xs:List V} {us:List Value} (n:Nat),Vals xs us->Vals (xs.take n) (us.take n)
 | _,_,0,_=>.nil
 | _,_,_+1,.nil=>.nil
 | _,_,n+1,.cons r t=>.cons r (Vals.take n t)
theorem Vals.drop:∀{xs:List V} {us:List Value} (n:Nat),Vals xs us->Vals (xs.drop n) (us.drop n)
 | _,_,0,r=>r
 | _,_,_+1,.nil=>.nil
 | _,_,n+1,.cons _ t=>Vals.drop n t
noncomputable def TQ:Option V->Option Value->Prop
 | some v,some u=>RelV v u
 | none,none=>True
 | _,_=>False
noncomputable def KV {κ:Type}:List (κ×V)->List (κ×Value)->Prop:=Paired fun (p:κ×V) (q:κ×Value)=>p.1=q.1/\RelV p.2 q.2
noncomputable def kV:Key->V
 | .inl i=>.int i
 | .inr x=>.str x
inductive HO where
 | lst (xs:List V)
 | tup (xs:List V)
 | dK (kvs:List (Key×V))|dT (kvs:List (List Key×V))
 | set (S:Int->Bool) (n:Nat)
 | ins (C dx:Addr) (fs:List (Str×V))
 | own (x:Addr)
 | xd (fs:List (Str×V))
 | met (f x:Addr)
 | rng (lo hi:Int)
 | frz (o:Obj) (u:HO)
 | tbl (ps:Array Value)
 | ext (φ:Heap->Prop)
abbrev Hp:=Addr->Option HO
def upd (H:Hp) (a:Addr) (o:HO):Hp:=fun b=>if b=a then some o else H b
theorem aM {H:Hp} {a:Addr} {o:HO}:upd H a o a=some o:=by unfold upd;rw [if_pos rfl]
theorem bJ {H:Hp} {a b:Addr} {o:HO} (h:b≠a):upd H a o b=H b:=by unfold upd;rw [if_neg h]
theorem JB {H:Hp} {a:Addr} {o u:HO}:upd (upd H a o) a u=upd H a u:=by
 funext b;unfold upd;split <;> rfl
theorem aCs {H:Hp} {a b:Addr} {o u:HO} (h:H a=some o) (h':H b=some u) (d:o≠u):a≠b:=by
 intro e;subst e;rw [h] at h';exact d (Option.some.inj h')
theorem e_ {H:Hp} {a b:Addr} {o:HO} (h:H a=some o) (h':H b=none):a≠b:=by
 intro e;subst e;rw [h] at h';cases h'
noncomputable def lD (h:Heap) (a:Addr) (its:Array Value):Prop:=∃o,h.get? a=some o/\o.cls=.type "tuple"/\∃n,(o.data,o.dict)=(Data.seq its n,none)
theorem lD.tup {h:Heap} {a:Addr} {its:Array Value} (t:lD h a its):IsTup h a its:=let ⟨o,e,c,n,d⟩:=t;⟨o,e,c,n,congrArg (·.1) d⟩
theorem lD.bare {h:Heap} {a:Addr} {its:Array Value} (t:lD h a its):∃o,h.get? a=some o/\o.dict=none:=let ⟨o,e,_,_,d⟩:=t;⟨o,e,congrArg (·.2) d⟩
theorem lD.new (h:Heap) (items:Array Value):lD (h.push {cls:=.type "tuple",data:=.seq items}) h.objs.size items:=⟨_,Heap.get?_push_size _ rfl,rfl,_,rfl⟩
section
variable (P:Program) (w:World)
noncomputable def jO (H:Hp) (h:Heap) (a:Addr):HO->Prop
 | .lst xs=>xs.length<=sizeLine/\∃(its:List Value) (n:Nat),Vals xs its/\h.get? a=some {cls:=.type "list",data:=.seq its.toArray n}
 | .tup xs=>xs.length<=sizeLine/\∃its:List Value,Vals xs its/\lD h a its.toArray
 | .dK kvs=>kvs.length<=sizeLine/\(a==sysModules)=false/\∃vs,KV kvs vs/\h.DictOf (cY P w) a vs
 | .dT kvs=>kvs.length<=sizeLine/\(a==sysModules)=false/\∃xs:List (List Key×Addr×Value),
   Paired (fun (p:List Key×V) (q:List Key×Addr×Value)=>p.1=q.1/\H q.2.1=some (.tup (p.1.map kV))/\RelV p.2 q.2.2) kvs xs/\
   ∃o es ep,h.get? a=some o/\o.ExactDict/\o.data=.dict es ep/\es.toList=xs.map (entryOfKey (tupleKind (cY P w)))/\(xs.map (·.1)).Nodup
 | .set S n=>h.SetOf (intKind P w) a S n
 | .ins C dx fs=>H dx=some (.own a)/\fs.length<=1000/\dx≠a/\h.get? a=some (PySem.W.instObj C dx)/\
   ∃mA,h.Ns1 dx mA/\(∀f,TQ (fs.lookup f) (mA f))/\PySem.Within mA (fs.map (·.1))
 | .own _=>∃o,h.get? a=some o
 | .xd fs=>∃mA,h.Ns1 a mA/\∀f,TQ (fs.lookup f) (mA f)
 | .rng lo hi=>∃t u v,h.get? a=some {cls:=.type "range",data:=.fields #[.int lo t,.int hi u,.int 1 v]}
 | .frz o u=>h.get? a=some o/\jO H h a u
 | .tbl ps=>h.get? a=some {cls:=.none,data:=.fields ps}
 | .met f x=>h.get? a=some (PySem.W.methodObj (.ref f) (.ref x))
 | .ext φ=>φ h/\(∃o,h.get? a=some o)/\∀h1 h2:Heap,φ h1->(∀o,h1.get? a=some o->h2.get? a=some o)->φ h2
def HOk (H:Hp) (h:Heap):Prop:=∀a o,H a=some o->jO P w H h a o
end
section
variable {P:Program} {w:World} {H H':Hp} {h h':Heap} {a:Addr} {o:HO}
theorem jO.lt (x:jO P w H h a o):a<h.objs.size:=by
 cases o with
 | lst xs=>obtain ⟨_,_,_,_,e⟩:=x;exact Heap.lt_size e
 | tup xs=>obtain ⟨_,_,_,p⟩:=x;exact p.tup.lt
 | dK kvs=>obtain ⟨_,_,_,_,o,_,_,e,_⟩:=x;exact Heap.lt_size e
 | dT kvs=>obtain ⟨_,_,_,_,o,_,_,e,_⟩:=x;exact Heap.lt_size e
 | set S n=>obtain ⟨o,_,_,_,e,_⟩:=x;exact Heap.lt_size e
 | ins C dx fs=>obtain ⟨_,_,_,e,_⟩:=x;exact Heap.lt_size e
 | own y=>obtain ⟨_,e⟩:=x;exact Heap.lt_size e
 | xd fs=>obtain ⟨_,⟨_,_,_,e,_⟩,_⟩:=x;exact Heap.lt_size e
 | rng lo hi=>obtain ⟨_,_,_,e⟩:=x;exact Heap.lt_size e
 | frz ob u=>obtain ⟨e,_⟩:=x;exact Heap.lt_size e
 | tbl ps=>exact Heap.lt_size (show h.get? a=some _ from x)
 | met f y=>exact Heap.lt_size (show h.get? a=some _ from x)
 | ext φ=>obtain ⟨_,⟨_,e⟩,_⟩:=x;exact Heap.lt_size e
theorem Paired.aHt {α β:Type} {F G:α->β->Prop}:∀{l₁:List α} {l₂:List β},Paired F l₁ l₂->(∀a b,F a b->G a b)->Paired G l₁ l₂
 | _,_,.nil,_=>.nil
 | _,_,.cons r t,f=>.cons (f _ _ r) (Paired.aHt t f)
theorem jO.stay (x:jO P w H h a o) (k:∀b u,(b=a\/H b=some (.own a))->h.get? b=some u->h'.get? b=some u)
  (ho:∀b,H b=some (.own a)->H' b=some (.own a)) (ht:∀b xs,H b=some (.tup xs)->H' b=some (.tup xs)):jO P w H' h' a o:=by
 induction o with
 | lst xs=>obtain ⟨z,its,n,r,e⟩:=x;exact ⟨z,its,n,r,k _ _ (.inl rfl) e⟩
 | tup xs=>obtain ⟨z,its,r,ob,e,c⟩:=x;exact ⟨z,its,r,ob,k _ _ (.inl rfl) e,c⟩
 | dK kvs=>obtain ⟨z,y,vs,r,ob,es,ep,e,c⟩:=x;exact ⟨z,y,vs,r,ob,es,ep,k _ _ (.inl rfl) e,c⟩
 | dT kvs=>
  obtain ⟨z,y,xs,r,ob,es,ep,e,c⟩:=x;exact ⟨z,y,xs,Paired.aHt r fun p q z=>⟨z.1,ht _ _ z.2.1,z.2.2⟩,ob,es,ep,k _ _ (.inl rfl) e,c⟩
 | set S n=>obtain ⟨ob,es,ep,t,e,c⟩:=x;exact ⟨ob,es,ep,t,k _ _ (.inl rfl) e,c⟩
 | ins C dx fs=>
  obtain ⟨d,z,ne,e,mA,⟨od,es,ep,e2,c⟩,r⟩:=x;exact ⟨ho _ d,z,ne,k _ _ (.inl rfl) e,mA,⟨od,es,ep,k _ _ (.inr d) e2,c⟩,r⟩
 | own y=>obtain ⟨ob,e⟩:=x;exact ⟨ob,k _ _ (.inl rfl) e⟩
 | xd fs=>obtain ⟨mA,⟨od,es,ep,e,c⟩,r⟩:=x;exact ⟨mA,⟨od,es,ep,k _ _ (.inl rfl) e,c⟩,r⟩
 | rng lo hi=>obtain ⟨t,u,v,e⟩:=x;exact ⟨t,u,v,k _ _ (.inl rfl) e⟩
 | frz ob u ih=>obtain ⟨e,q⟩:=x;exact ⟨k _ _ (.inl rfl) e,ih q⟩
 | tbl ps=>
  have e:h.get? a=some {cls:=.none,data:=.fields ps}:=x;show h'.get? a=some {cls:=.none,data:=.fields ps};exact k a _ (.inl rfl) e
 | met f y=>
  have e:h.get? a=some (PySem.W.methodObj (.ref f) (.ref y)):=x;show h'.get? a=some (PySem.W.methodObj (.ref f) (.ref y));exact k a _ (.inl rfl) e
 | ext φ=>obtain ⟨p,⟨o,e⟩,st⟩:=x;exact ⟨st _ _ p fun o q=>k _ _ (.inl rfl) q,⟨o,k _ _ (.inl rfl) e⟩,st⟩
theorem HOk.lt (x:HOk P w H h) (e:H a=some o):a<h.objs.size:=(x a o e).lt
theorem HOk.fresh (x:HOk P w H h) (e:h.objs.size<=a):H a=none:=by
 cases q:H a with
 | none=>rfl
 | some u=>exact absurd (Nat.lt_of_lt_of_le (x.lt q) e) (Nat.lt_irrefl _)
theorem HOk.kept (x:HOk P w H h) (k:∀b u,h.get? b=some u->h'.get? b=some u):HOk P w H h':=fun a o e=>
 (x a o e).stay (fun b u _ q=>k b u q) (fun _ q=>q) fun _ _ q=>q
theorem HOk.laid (x:HOk P w H h) (k:∀b u,h.get? b=some u->h'.get? b=some u) (hp:h.objs.size<=a) (new:jO P w (upd H a o) h' a o):HOk P w (upd H a o) h':=fun b u e=>by
 have hn:=x.fresh hp;by_cases hb:b=a
 ·subst hb;rw [aM] at e;cases e;exact new
 ·rw [bJ hb] at e;exact (x b u e).stay (fun c v _ q=>k c v q) (fun c q=>by rw [bJ (e_ q hn)];exact q) fun c xs q=>by rw [bJ (e_ q hn)];exact q
end
def Rd (H:Hp) (a:Addr) (u:HO):Prop:=H a=some u\/∃o,H a=some (.frz o u)
theorem Rd.of {H:Hp} {a:Addr} {u:HO} (h:H a=some u):Rd H a u:=.inl h
theorem Rd.ok {P:Program} {w:World} {H:Hp} {h:Heap} {a:Addr} {u:HO} (r:Rd H a u) (x:HOk P w H h):jO P w H h a u:=by
 rcases r with r|⟨o,r⟩
 ·exact x a u r
 ·obtain ⟨_,q⟩:=x a _ r;exact q
noncomputable def Mut:Option HO->Prop
 | some (.lst _)=>True
 | some (.dK _)=>True
 | some (.dT _)=>True
 | some (.set _ _)=>True
 | some (.ins _ _ _)=>True
 | some (.ext _)=>True
 | _=>False
section
variable {P:Program} {w:World} {H:Hp} {h h':Heap} {x e:Addr} {o':HO}
theorem HOk.write (ok:HOk P w H h) (mu:Mut (H x)) (he:e=x\/H e=some (.own x)) (k:∀b u,b≠e->h.get? b=some u->h'.get? b=some u) (heo:∃u,h'.get? e=some u)
  (new:jO P w (upd H x o') h' x o'):HOk P w (upd H x o') h':=fun b u q=>by
 have nown:∀c y,H c=some (.own y)->c≠x:=fun c y r z=>by subst z;rw [r] at mu;exact mu
 have ntup:∀c xs,H c=some (.tup xs)->c≠x:=fun c xs r z=>by subst z;rw [r] at mu;exact mu
 by_cases hb:b=x
 ·subst hb;rw [aM] at q;cases q;exact new
 ·rw [bJ hb] at q;by_cases hbe:b=e
  ·have q':H b=some (.own x):=by
    rcases he with z|z
    ·exact absurd (hbe.trans z) hb
    ·rw [hbe];exact z
   rw [q] at q';cases q';obtain ⟨v,hv⟩:=heo;exact ⟨v,by rw [hbe];exact hv⟩
  ·refine (ok b u q).stay (fun c v hc r=>k c v ?_ r) (fun c r=>by rw [bJ (nown c b r)];exact r) fun c xs r=>by rw [bJ (ntup c xs r)];exact r
   rcases hc with rfl|hc
   ·exact hbe
   ·rintro rfl;rcases he with z|z
    ·exact nown c b hc z
    ·rw [hc] at z;cases z;exact hb rfl
end
structure Un (fs ex:List Addr) (H H':Hp) (h h':Heap):Prop where
 keep:∀b o,h.get? b=some o->H b=none->b∉fs->b∉ex->h'.get? b=some o
 slot:∀b o,h.get? b=some o->H b=none->b∈fs->b∉ex->∃sl,h'.get? b=some {o with slots:=sl}
 free:∀b o,h.get? b=some o->H b=none->b∉ex->H' b=none
 there:∀b o,h.get? b=some o->b∉ex->∃o',h'.get? b=some o'
 tups:∀b xs,H b=some (.tup xs)->H' b=some (.tup xs)
 frzs:∀b o u,H b=some (.frz o u)->H' b=some (.frz o u)
 tbls:∀b ps,H b=some (.tbl ps)->∃more,H' b=some (.tbl (ps++more))
section
variable {fs fs' ex ex':List Addr} {H H1 H2:Hp} {h h1 h2 h':Heap} {a x e:Addr} {o:HO}
theorem Un.any (u:Un fs ex H H1 h h1) {b:Addr} {ob:Obj} (q:h.get? b=some ob) (n:H b=none) (hx:b∉ex):∃sl,h1.get? b=some {ob with slots:=sl}:=by
 by_cases hb:b∈fs
 ·exact u.slot b ob q n hb hx
 ·exact ⟨ob.slots,u.keep b ob q n hb hx⟩
theorem Un.kept (k:∀b u,h.get? b=some u->h'.get? b=some u):Un fs ex H H h h':=
 ⟨fun b ob q _ _ _=>k b ob q,fun b ob q _ _ _=>⟨ob.slots,k b ob q⟩,fun _ _ _ n _=>n,fun b ob q _=>⟨ob,k b ob q⟩,fun _ _ q=>q,fun _ _ _ q=>q,fun _ ps q=>⟨#[],by rw [q];simp⟩⟩
theorem Un.refl:Un fs ex H H h h:=Un.kept fun _ _ q=>q
theorem Un.laid (k:∀b u,h.get? b=some u->h'.get? b=some u) (hp:h.objs.size<=a) (hn:H a=none):Un fs ex H (upd H a o) h h' where
 keep:=fun b u q _ _ _=>k b u q
 slot:=fun b u q _ _ _=>⟨u.slots,k b u q⟩
 free:=fun b u q n _=>by rw [bJ (Nat.ne_of_lt (Nat.lt_of_lt_of_le (Heap.lt_size q) hp))];exact n
 there:=fun b u q _=>⟨u,k b u q⟩
 tups:=fun b xs q=>by rw [bJ (e_ q hn)];exact q
 frzs:=fun b u xs q=>by rw [bJ (e_ q hn)];exact q
 tbls:=fun b ps q=>⟨#[],by rw [bJ (e_ q hn),q];simp⟩
theorem Un.write (mu:Mut (H x)) (he:e=x\/H e=some (.own x)) (k:∀b u,b≠e->h.get? b=some u->h'.get? b=some u) (heo:∃u,h'.get? e=some u):Un fs ex H (upd H x o) h h':=by
 have hx:∀b,H b=none->b≠x:=fun b n z=>by subst z;rw [n] at mu;exact mu
 have hb:∀b,H b=none->b≠e:=fun b n z=>by
  subst z;rcases he with r|r
  ·exact hx b n r
  ·rw [n] at r;cases r
 have hm:∀b u,H b=some u->¬Mut (some u)->b≠x:=fun b u q nm z=>by subst z;rw [q] at mu;exact nm mu
 refine ⟨fun b u q n _ _=>k b u (hb b n) q,fun b u q n _ _=>⟨u.slots,k b u (hb b n) q⟩,fun b u q n _=>by rw [bJ (hx b n)];exact n,fun b u q _=>?_,
  fun b xs q=>by rw [bJ (hm b _ q fun z=>z)];exact q,fun b u xs q=>by rw [bJ (hm b _ q fun z=>z)];exact q,fun b ps q=>⟨#[],by rw [bJ (hm b _ q fun z=>z),q];simp⟩⟩
 by_cases hbe:b=e
 ·subst hbe;exact heo
 ·exact ⟨u,k b u hbe q⟩
end
noncomputable def trk (h:Heap) (H:Hp):List Addr:=(List.range h.objs.size).filter fun a=>(H a).isSome
def ZL (h:Heap) (H:Hp):Heap:=PySem.W.hideAll h (trk h H)
theorem TV (h:Heap) (H:Hp):(ZL h H).objs.size=h.objs.size:=PySem.W.hideAll_size _ _
theorem ZM {h:Heap} {H:Hp} {b:Addr} {o:Obj} (e:h.get? b=some o) (n:H b=none):(ZL h H).get? b=some o:=
 PySem.W.hideAll_get _ e fun hm=>by
  have q:(H b).isSome=true:=(List.mem_filter.mp hm).2;rw [n] at q;simp at q
theorem aCt {h:Heap} {H:Hp} {b:Addr} {o:Obj} (e:(ZL h H).get? b=some o):h.get? b=some o/\H b=none:=by
 have e':h.get? b=some o:=PySem.W.of_hideAll (trk h H) e;refine ⟨e',?_⟩;cases q:H b with
 | none=>rfl
 | some x=>
  have hm:b∈trk h H:=List.mem_filter.mpr ⟨List.mem_range.mpr (Heap.lt_size e'),by simp [q]⟩;have z:(ZL h H).get? b=none:=PySem.W.hideAll_none (trk h H) hm;rw [z] at e;cases e
end L2
namespace L2
open PySem PySem.Spec PyProof.Rows
structure Mod (K:PySem.W.Frag) (mg:Str->Option Value) (base:Heap):Prop where
 kin:K.In base
 glob:base.Ns mainGlobals mg
 blt:∃mb,base.Ns builtinsNs mb/\∀x:Str,x ≠ "__name__"->mb x=bootBuiltins x
 nolimit:base.NoLimit
/-- the context: a def's body (or a comprehension's block) running. base: fixed through the whole law; s₀, H₀: the entry; outer: the frames whose slots others may change (a def's callers); stack: all frames that run;
   ex: iterators that were made ahead of the entry and are walked here (a comprehension's); fn: the names whose cells were made at the entry (a def: all; a comprehension's block: its own); calm: not within an except suite; pn: pins that every state bears; xe: what is wanted of an exception that leaves the code -/
structure Cx where
 prog:Program
 w:World
 K:PySem.W.Frag
 mg:Str->Option Value
 base:Heap
 A:Around
 N:List Str
 s₀:Shared
 H₀:Hp
 env:Env
 outer:List Env
 stack:List Env
 ex:List Addr
 fn:Str->Bool
 calm:Bool
 pn:List (Addr×Obj)
 xe:Value->Shared->Prop
def frs (l:List Env):List Addr:=l.filterMap (·.frame)
abbrev Cx.fs (X:Cx):List Addr:=frs X.outer
noncomputable def Vis (sc:Scope) (x:Str):Prop:=sc.names.lookup x=some .local\/sc.names.lookup x=some .cell\/sc.names.lookup x=some .free
noncomputable def Loc (sc:Scope) (x:Str):Prop:=sc.names.lookup x=some .local\/sc.names.lookup x=some .cell
noncomputable def Look (env:Env) (h:Heap) (m:Str->Option Value) (x:Str) (u:Value):Prop:=
 (env.kindOf x=some .local/\m x=some u)\/((env.kindOf x=some .cell\/env.kindOf x=some .free)/\∃c,env.cells.lookup x=some c/\h.IsCell c (some u))
structure Cx.Ok (X:Cx):Prop where
 mod:Mod X.K X.mg X.base
 kind:X.env.scope.kind=.function
 glob:X.env.globals=mainGlobals
 blt:X.env.builtins=builtinsNs
 above:X.s₀.heap.objs.size<=X.env.locals
 inj:∀x y c,X.env.cells.lookup x=some c->X.env.cells.lookup y=some c->x=y
 has:∀x,(X.env.kindOf x=some .cell\/X.env.kindOf x=some .free)->∃c,X.env.cells.lookup x=some c
 cab:∀x c,X.fn x=true->X.env.cells.lookup x=some c->X.s₀.heap.objs.size<=c
 hd:X.calm=true->X.A.handled=none
 frames:X.A.frames=some X.stack
 stk:X.stack=X.outer\/(X.stack=X.env::X.outer/\X.env.frame=some X.env.locals)
 exf:∀b∈X.ex,b≠X.env.locals/\∀x c,X.env.cells.lookup x=some c->c≠b
 bs:∀b o,X.base.get? b=some o->X.s₀.heap.get? b=some o/\X.H₀ b=none
 bsz:X.base.objs.size<=X.s₀.heap.objs.size
 noex:∀b o,X.base.get? b=some o->b∉X.ex
 exfs:∀b∈X.ex,b∉X.fs
 S6:X.s₀.heap.FunFrames X.base X.outer
 frf:∀b∈X.fs,X.H₀ b=none
structure Inv (X:Cx) (pins:List (Addr×Obj)) (σ:List (Option V)) (H:Hp) (s:Shared):Prop where
 ok:X.Ok
 os:s.os=X.s₀.os
 bare:AllBare s.gens
 base:Un X.fs X.ex X.H₀ H X.s₀.heap s.heap
 loc:∃m,s.heap.Ns X.env.locals m/\∀(i:Nat) (x:Str) (v:V),X.N[i]?=some x->σ[i]?=some (some v)->Vis X.env.scope x->∃u,RelV v u/\Look X.env s.heap m x u
 cell:∀x c,X.env.cells.lookup x=some c->∃v,s.heap.IsCell c v
 free:H X.env.locals=none
 freeC:∀x c,X.env.cells.lookup x=some c->H c=none
 pin:∀p∈X.pn++pins,s.heap.get? p.1=some p.2/\H p.1=none/\p.1≠X.env.locals/\p.1∉X.fs/\∀v,p.2.data≠.cell v
 hok:HOk X.prog X.w H s.heap
 len:σ.length=X.N.length
section
variable {X:Cx} {pins:List (Addr×Obj)} {σ:List (Option V)} {H H':Hp} {s:Shared} {h':Heap}
theorem Cx.Ok.aJe (ok:X.Ok) {b:Addr} {o:Obj} (e:X.base.get? b=some o):b∉X.fs:=fun hb=>by
 have:=(ok.S6.mem hb).1;rw [e] at this;cases this
theorem Inv.bs (I:Inv X pins σ H s):∀b o,X.base.get? b=some o->s.heap.get? b=some o/\H b=none:=fun b o e=>
 ⟨I.base.keep b o (I.ok.bs b o e).1 (I.ok.bs b o e).2 (I.ok.aJe e) (I.ok.noex b o e),I.base.free b o (I.ok.bs b o e).1 (I.ok.bs b o e).2 (I.ok.noex b o e)⟩
theorem Inv.bk (I:Inv X pins σ H s):∀b o,X.base.get? b=some o->s.heap.get? b=some o:=fun b o e=>(I.bs b o e).1
theorem Inv.mod (I:Inv X pins σ H s):Mod X.K X.mg X.base:=I.ok.mod
theorem Inv.kIn (I:Inv X pins σ H s):X.K.In s.heap:=I.ok.mod.kin.keeps I.bk
theorem Inv.lt (I:Inv X pins σ H s):X.env.locals<s.heap.objs.size:=let ⟨_,hn,_⟩:=I.loc;hn.lt
theorem Inv.sz (I:Inv X pins σ H s):X.s₀.heap.objs.size<=s.heap.objs.size:=Nat.le_trans I.ok.above (Nat.le_of_lt I.lt)
theorem Inv.aJ4 (I:Inv X pins σ H s) {a:Addr} (h:s.heap.objs.size<=a):a∉X.fs:=fun hb=>by
 obtain ⟨_,o,ho,_⟩:=I.ok.S6.mem hb;exact absurd (Nat.lt_of_lt_of_le (Heap.lt_size ho) (Nat.le_trans I.sz h)) (Nat.lt_irrefl _)
theorem Inv.cne (I:Inv X pins σ H s):∀x c,X.env.cells.lookup x=some c->c≠X.env.locals:=fun x c e z=>by
 obtain ⟨v,o,ho,hd⟩:=I.cell x c e;obtain ⟨m,⟨o',es,ep,ho',hd',_⟩,_⟩:=I.loc;rw [z,ho'] at ho;cases ho;rw [hd'] at hd;cases hd
theorem Inv.S6 (I:Inv X pins σ H s):s.heap.FunFrames X.base X.outer:=by
 have all:∀(l:List Env),(∀b∈frs l,b∈X.fs)->X.s₀.heap.FunFrames X.base l->s.heap.FunFrames X.base l:=by
  intro l;induction l with
  | nil=>intro _ _;trivial
  | cons env r ih=>
   intro hs hl;obtain ⟨hk,⟨L,o,hf,hn,ho,hd⟩,hr⟩:=hl;have hL:L∈X.fs:=hs L (by unfold frs;rw [List.filterMap_cons,hf];exact List.mem_cons_self);obtain ⟨sl,e⟩:=I.base.slot L o ho (I.ok.frf L hL) hL fun z=>I.ok.exfs L z hL
   exact ⟨hk,⟨L,_,hf,hn,e,hd⟩,ih (fun b hb=>hs b (by unfold frs;rw [List.filterMap_cons,hf];exact List.mem_cons_of_mem _ hb)) hr⟩
 exact all X.outer (fun _ hb=>hb) I.ok.S6
theorem Inv.stack (I:Inv X pins σ H s):s.heap.FunFrames X.base X.stack:=by
 rcases I.ok.stk with e|⟨e,hf⟩
 ·rw [e];exact I.S6
 ·rw [e];obtain ⟨m,hn,_⟩:=I.loc;refine .cons (by rw [I.ok.kind];decide) hf hn ?_ I.S6;exact Heap.get?_none_of_le (Nat.le_trans I.ok.bsz I.ok.above)
theorem Inv.M5 (I:Inv X pins σ H s):∀b∈frs X.stack,b∈X.env.locals::X.fs:=fun b hb=>by
 rcases I.ok.stk with e|⟨e,hf⟩
 ·rw [e] at hb;exact List.mem_cons_of_mem _ hb
 ·rw [e] at hb;unfold frs at hb;rw [List.filterMap_cons,hf] at hb;exact hb
theorem Inv.JC (I:Inv X pins σ H s):∀b∈frs X.stack,H b=none:=fun b hb=>by
 rcases List.mem_cons.mp (I.M5 b hb) with e|hb
 ·rw [e];exact I.free
 ·obtain ⟨_,o,ho,_⟩:=I.ok.S6.mem hb;exact I.base.free b o ho (I.ok.frf b hb) fun z=>I.ok.exfs b z hb
theorem Inv.step {g':Array GenState} {t':Nat} {d':Drawn} {ch:List Addr} (I:Inv X pins σ H s)
  (hch:∀b∈ch,(b∈X.ex\/X.s₀.heap.objs.size<=b)/\b≠X.env.locals/\(∀x c,X.env.cells.lookup x=some c->c≠b)/\∀p∈X.pn++pins,p.1≠b)
  (keep:∀b o,b≠X.env.locals->b∉X.fs->b∉ch->s.heap.get? b=some o->H b=none->h'.get? b=some o)
  (slot:∀b o,b≠X.env.locals->b∈X.fs->b∉ch->s.heap.get? b=some o->H b=none->∃sl,h'.get? b=some {o with slots:=sl}) (free:∀b o,b∉ch->s.heap.get? b=some o->H b=none->H' b=none)
  (there:∀b o,b∉ch->s.heap.get? b=some o->∃o',h'.get? b=some o')
  (tups:∀b xs,H b=some (.tup xs)->H' b=some (.tup xs)) (frzs:∀b o u,H b=some (.frz o u)->H' b=some (.frz o u)) (tbls:∀b ps,H b=some (.tbl ps)->∃more,H' b=some (.tbl (ps++more)))
  (ns:∀m,s.heap.Ns X.env.locals m->h'.Ns X.env.locals m) (hok:HOk X.prog X.w H' h') (hg:AllBare g') :
  Inv X pins σ H' {s with heap:=h',gens:=g',drawn:=d',toks:=t'}:=by
 have neL:∀b o,X.s₀.heap.get? b=some o->b≠X.env.locals:=fun b o e=>Nat.ne_of_lt (Nat.lt_of_lt_of_le (Heap.lt_size e) I.ok.above)
 have neC:∀b o,X.s₀.heap.get? b=some o->b∉X.ex->b∉ch:=fun b o e hx hb=>by
  rcases (hch b hb).1 with z|z
  ·exact hx z
  ·exact absurd (Nat.lt_of_lt_of_le (Heap.lt_size e) z) (Nat.lt_irrefl _)
 have cellK:∀x c,X.env.cells.lookup x=some c->∀v,s.heap.IsCell c v->h'.IsCell c v:=fun x c e v ⟨o,ho,hd⟩=>by
  have nch:c∉ch:=fun z=>(hch c z).2.2.1 x c e rfl
  by_cases hc:c∈X.fs
  ·obtain ⟨sl,q⟩:=slot c o (I.cne x c e) hc nch ho (I.freeC x c e);exact ⟨_,q,hd⟩
  ·exact ⟨o,keep c o (I.cne x c e) hc nch ho (I.freeC x c e),hd⟩
 refine ⟨I.ok,I.os,hg,⟨fun b o e n hb hx=>?_,fun b o e n hb hx=>?_,fun b o e n hx=>?_,fun b o e hx=>?_,fun b xs e=>tups b xs (I.base.tups b xs e),fun b o xs e=>frzs b o xs (I.base.frzs b o xs e),fun b ps e=>?_⟩,?_,fun x c e=>?_,?_,fun x c e=>?_,fun p hp=>?_,hok,I.len⟩
 ·exact keep b o (neL b o e) hb (neC b o e hx) (I.base.keep b o e n hb hx) (I.base.free b o e n hx)
 ·obtain ⟨sl,e1⟩:=I.base.slot b o e n hb hx;obtain ⟨sl',e2⟩:=slot b _ (neL b o e) hb (neC b o e hx) e1 (I.base.free b o e n hx);exact ⟨sl',e2⟩
 ·obtain ⟨o',e1⟩:=I.base.there b o e hx;exact free b o' (neC b o e hx) e1 (I.base.free b o e n hx)
 ·obtain ⟨o',e1⟩:=I.base.there b o e hx;exact there b o' (neC b o e hx) e1
 ·obtain ⟨m1,e1⟩:=I.base.tbls b ps e;obtain ⟨m2,e2⟩:=tbls b _ e1;exact ⟨m1++m2,by rw [e2,Array.append_assoc]⟩
 ·obtain ⟨m,hn,hl⟩:=I.loc;refine ⟨m,ns m hn,fun i x v e1 e2 e3=>?_⟩;obtain ⟨u,r,l⟩:=hl i x v e1 e2 e3;refine ⟨u,r,?_⟩;rcases l with l|⟨k,c,e,z⟩
  ·exact .inl l
  ·exact .inr ⟨k,c,e,cellK x c e _ z⟩
 ·obtain ⟨v,z⟩:=I.cell x c e;exact ⟨v,cellK x c e v z⟩
 ·obtain ⟨m,⟨o,_,_,ho,_⟩,_⟩:=I.loc;exact free _ o (fun z=>(hch _ z).2.1 rfl) ho I.free
 ·obtain ⟨v,o,ho,hd⟩:=I.cell x c e;exact free c o (fun z=>(hch c z).2.2.1 x c e rfl) ho (I.freeC x c e)
 ·obtain ⟨e,n,ne,nf,d⟩:=I.pin p hp;have nch:p.1∉ch:=fun z=>(hch p.1 z).2.2.2 p hp rfl
  exact ⟨keep p.1 p.2 ne nf nch e n,free p.1 p.2 nch e n,ne,nf,d⟩
theorem Inv.un {t':Nat} (I:Inv X pins σ H s) (u:Un X.fs [] H H' s.heap h') (hok:HOk X.prog X.w H' h'):Inv X pins σ H' {s with heap:=h',toks:=t'}:=by
 obtain ⟨m,⟨o,es,ep,ho,r⟩,_⟩:=id I.loc;obtain ⟨sl,hL⟩:=u.any ho I.free (by simp);exact I.step (g':=s.gens) (d':=s.drawn) (ch:=[]) (fun _ z=>nomatch z) (fun b o _ hb _ e n=>u.keep b o e n hb (by simp)) (fun b o _ hb _ e n=>u.slot b o e n hb (by simp)) (fun b o _ e n=>u.free b o e n (by simp)) (fun b o _ e=>u.there b o e (by simp)) u.tups u.frzs u.tbls (fun m' hm=>by
  obtain ⟨o',es',ep',ho',r'⟩:=hm;rw [ho] at ho';cases ho';exact ⟨_,es',ep',hL,r'⟩) hok I.bare
theorem Inv.call {g':Array GenState} {t':Nat} {d':Drawn} {ch:List Addr} (I:Inv X pins σ H s) (u:Un (frs X.stack) ch H H' s.heap h') (hok:HOk X.prog X.w H' h') (hg:AllBare g')
  (hch:∀b∈ch,(b∈X.ex\/X.s₀.heap.objs.size<=b)/\b≠X.env.locals/\(∀x c,X.env.cells.lookup x=some c->c≠b)/\∀p∈X.pn++pins,p.1≠b) :
  Inv X pins σ H' {s with heap:=h',gens:=g',drawn:=d',toks:=t'}:=by
 obtain ⟨m,⟨o,es,ep,ho,r⟩,_⟩:=id I.loc;obtain ⟨sl,hL⟩:=u.any ho I.free fun z=>(hch _ z).2.1 rfl
 exact I.step (ch:=ch) hch (fun b o hL hb hc e n=>u.keep b o e n (fun z=>(List.mem_cons.mp (I.M5 b z)).elim hL hb) hc) (fun b o _ _ hc e n=>u.any e n hc) (fun b o hc e n=>u.free b o e n hc) (fun b o hc e=>u.there b o e hc) u.tups u.frzs u.tbls (fun m' hm=>by
  obtain ⟨o',es',ep',ho',r'⟩:=hm;rw [ho] at ho';cases ho';exact ⟨_,es',ep',hL,r'⟩) hok hg
theorem Inv.turned {t':Nat} {it:Addr} (I:Inv X pins σ H s) (k:∀b o,b≠it->s.heap.get? b=some o->h'.get? b=some o) (hn:H it=none) (hL:it≠X.env.locals)
  (h1:it∈X.ex\/X.s₀.heap.objs.size<=it) (h2:∀x c,X.env.cells.lookup x=some c->c≠it) (h3:∀p∈X.pn++pins,p.1≠it):Inv X pins σ H {s with heap:=h',toks:=t'}:=by
 have nit:∀b u,H b=some u->b≠it:=fun b u e z=>by rw [z,hn] at e;cases e
 refine I.step (g':=s.gens) (d':=s.drawn) (ch:=[it]) (fun b hb=>?_) (fun b o _ _ hc e _=>k b o (fun z=>hc (by simp [z])) e) (fun b o _ _ hc e _=>⟨o.slots,k b o (fun z=>hc (by simp [z])) e⟩) (fun _ _ _ _ n=>n)
  (fun b o hc e=>⟨o,k b o (fun z=>hc (by simp [z])) e⟩) (fun _ _ e=>e) (fun _ _ _ e=>e) (fun b ps e=>⟨#[],by rw [e];simp⟩) (fun m hm=>?_) (fun b u e=>?_) I.bare
 ·have e:b=it:=by simpa using hb
  subst e;exact ⟨h1,hL,h2,h3⟩
 ·obtain ⟨o,es,ep,ho,r⟩:=hm;exact ⟨o,es,ep,k _ o (Ne.symm hL) ho,r⟩
 ·refine (I.hok b u e).stay (fun c v hc q=>k c v ?_ q) (fun _ q=>q) fun _ _ q=>q
  rcases hc with z|z
  ·rw [z];exact nit b u e
  ·exact nit c _ z
theorem Inv.tok (I:Inv X pins σ H s) (t:Nat):Inv X pins σ H {s with toks:=t}:=I.un (h':=s.heap) (t':=t) Un.refl I.hok
theorem Inv.kept {t':Nat} (I:Inv X pins σ H s) (k:∀b u,s.heap.get? b=some u->h'.get? b=some u):Inv X pins σ H {s with heap:=h',toks:=t'}:=I.un (Un.kept k) (I.hok.kept k)
theorem Inv.laid {a:Addr} {o:HO} {t':Nat} (I:Inv X pins σ H s) (k:∀b u,s.heap.get? b=some u->h'.get? b=some u) (hp:s.heap.objs.size<=a) (new:jO X.prog X.w (upd H a o) h' a o) :
  Inv X pins σ (upd H a o) {s with heap:=h',toks:=t'}:=I.un (Un.laid k hp (I.hok.fresh hp)) (I.hok.laid k hp new)
theorem Inv.write {x e:Addr} {o:HO} {t':Nat} (I:Inv X pins σ H s) (mu:Mut (H x)) (he:e=x\/H e=some (.own x)) (k:∀b u,b≠e->s.heap.get? b=some u->h'.get? b=some u) (heo:∃u,h'.get? e=some u)
  (new:jO X.prog X.w (upd H x o) h' x o):Inv X pins σ (upd H x o) {s with heap:=h',toks:=t'}:=I.un (Un.write mu he k heo) (I.hok.write mu he k heo new)
theorem Inv.weak {σ':List (Option V)} (I:Inv X pins σ H s) (hl:σ'.length=σ.length) (w:∀(i:Nat) v,σ'[i]?=some (some v)->σ[i]?=some (some v)):Inv X pins σ' H s:=
 ⟨I.ok,I.os,I.bare,I.base,let ⟨m,hn,hl'⟩:=I.loc;⟨m,hn,fun i x v e1 e2 e3=>hl' i x v e1 (w i v e2) e3⟩,I.cell,I.free,I.freeC,I.pin,I.hok,hl.trans I.len⟩
theorem Inv.JD {pins':List (Addr×Obj)} (I:Inv X pins σ H s) (h:∀p∈pins',s.heap.get? p.1=some p.2/\H p.1=none/\p.1≠X.env.locals/\p.1∉X.fs/\∀v,p.2.data≠.cell v):Inv X pins' σ H s:=
 ⟨I.ok,I.os,I.bare,I.base,I.loc,I.cell,I.free,I.freeC,fun p hp=>(List.mem_append.mp hp).elim (fun z=>I.pin p (List.mem_append_left _ z)) (h p),I.hok,I.len⟩
theorem M6 {N:List Str} (hN:N.Nodup) {i j:Nat} {x:Str} (a:N[i]?=some x) (b:N[j]?=some x):i=j:=by
 obtain ⟨h1,e1⟩:=List.getElem?_eq_some_iff.mp a;obtain ⟨h2,e2⟩:=List.getElem?_eq_some_iff.mp b;exact (List.getElem_inj hN).mp (e1.trans e2.symm)
theorem TX {M:Model} {A:Around} {E:Value->Shared->Prop} {i:Nat} {x:Str} {v:V} {u:Value} {Q:Unit->Shared->Prop} (I:Inv X pins σ H s) (hN:X.N.Nodup) (hi:X.N[i]?=some x) (hx:Loc X.env.scope x) (r:RelV v u)
  (h:∀s',Inv X pins (σ.set i (some v)) H s'->(∃a,Heap.SameBut a s.heap s'.heap/\(a=X.env.locals\/X.env.cells.lookup x=some a))->Q () s') (hf:X.fn x=true\/X.env.scope.names.lookup x=some .local:=by first|exact .inl rfl|exact .inr rfl|assumption):wpAny M A (storeName X.env x u) Q E s:=by
 obtain ⟨m,hn,hl⟩:=id I.loc;have hcls:(X.env.scope.kind==.class||(X.env.scope.kind==.module&&X.env.locals != X.env.globals))=false:=by rw [I.ok.kind];rfl
 have hiσ:i<σ.length:=by rw [I.len];exact (List.getElem?_eq_some_iff.mp hi).1
 have cne:=I.cne;have tracked:∀{a:Addr} {h':Heap},(∃o,s.heap.get? a=some o/\H a=none)->Heap.SameBut a s.heap h'->HOk X.prog X.w H h':=fun {a h'} ha hs b ob e=>by
  obtain ⟨_,_,hfree⟩:=ha;refine (I.hok b ob e).stay (fun c w' hc q=>(hs.2 c ?_).trans q) (fun _ q=>q) fun _ _ q=>q
  rintro rfl;rcases hc with rfl|hc
  ·rw [hfree] at e;cases e
  ·rw [hfree] at hc;cases hc
 rcases hx with hk|hk
 ·refine wpAny_storeName_local hk hn (fun h' hn' hs=>?_) hcls;obtain ⟨oL,_,_,hoL,_⟩:=id hn;refine h _ ⟨I.ok,I.os,I.bare,⟨fun b o e n hb hx=>?_,fun b o e n hb hx=>?_,I.base.free,fun b o e hx=>?_,I.base.tups,I.base.frzs,I.base.tbls⟩,⟨_,hn',fun j y v' e1 e2 e3=>?_⟩,fun y c e=>?_,I.free,I.freeC,fun p hp=>?_,tracked ⟨oL,hoL,I.free⟩ hs,by simpa using I.len⟩ ⟨_,hs,.inl rfl⟩
  ·exact (hs.2 b (Nat.ne_of_lt (Nat.lt_of_lt_of_le (Heap.lt_size e) I.ok.above))).trans (I.base.keep b o e n hb hx)
  ·obtain ⟨sl,e1⟩:=I.base.slot b o e n hb hx;exact ⟨sl,(hs.2 b (Nat.ne_of_lt (Nat.lt_of_lt_of_le (Heap.lt_size e) I.ok.above))).trans e1⟩
  ·obtain ⟨o',e1⟩:=I.base.there b o e hx;exact ⟨o',(hs.2 b (Nat.ne_of_lt (Nat.lt_of_lt_of_le (Heap.lt_size e) I.ok.above))).trans e1⟩
  ·by_cases hj:j=i
   ·subst hj;rw [hi] at e1;cases e1;rw [List.getElem?_set_self hiσ] at e2;cases e2;exact ⟨u,r,.inl ⟨hk,by simp⟩⟩
   ·rw [List.getElem?_set_ne (Ne.symm hj)] at e2;obtain ⟨u',r',q⟩:=hl j y v' e1 e2 e3;refine ⟨u',r',?_⟩;rcases q with ⟨k,e⟩|⟨k,c,e,z⟩
    ·refine .inl ⟨k,?_⟩;have:y≠x:=fun e=>hj (M6 hN e1 (e▸hi))
     simp [this,e]
    ·exact .inr ⟨k,c,e,z.sameBut hs (cne y c e)⟩
  ·obtain ⟨w',z⟩:=I.cell y c e;exact ⟨w',z.sameBut hs (cne y c e)⟩
  ·obtain ⟨e,n,ne,nf,d⟩:=I.pin p hp;exact ⟨(hs.2 p.1 ne).trans e,n,ne,nf,d⟩
 ·have hfn:X.fn x=true:=by
   rcases hf with z|z
   ·exact z
   ·rw [z] at hk;cases hk
  obtain ⟨c,hc⟩:=I.ok.has x (.inl hk);obtain ⟨w',z⟩:=I.cell x c hc;refine wpAny_storeName_cell I.ok.kind hk hc z (fun h' hc' hs=>?_);obtain ⟨oc,hoc,hocd⟩:=id z;refine h {s with heap:=h'} ⟨I.ok,I.os,I.bare,⟨fun b o e n hb hx=>?_,fun b o e n hb hx=>?_,I.base.free,fun b o e hx=>?_,I.base.tups,I.base.frzs,I.base.tbls⟩,⟨m,hn.sameBut hs (Ne.symm (cne x c hc)),fun j y v' e1 e2 e3=>?_⟩,fun y c' e=>?_,I.free,I.freeC,fun p hp=>?_,tracked ⟨oc,hoc,I.freeC x c hc⟩ hs,by simpa using I.len⟩ ⟨c,hs,.inr hc⟩
  ·exact (hs.2 b (Nat.ne_of_lt (Nat.lt_of_lt_of_le (Heap.lt_size e) (I.ok.cab x c hfn hc)))).trans (I.base.keep b o e n hb hx)
  ·obtain ⟨sl,e1⟩:=I.base.slot b o e n hb hx;exact ⟨sl,(hs.2 b (Nat.ne_of_lt (Nat.lt_of_lt_of_le (Heap.lt_size e) (I.ok.cab x c hfn hc)))).trans e1⟩
  ·obtain ⟨o',e1⟩:=I.base.there b o e hx;exact ⟨o',(hs.2 b (Nat.ne_of_lt (Nat.lt_of_lt_of_le (Heap.lt_size e) (I.ok.cab x c hfn hc)))).trans e1⟩
  ·by_cases hj:j=i
   ·subst hj;rw [hi] at e1;cases e1;rw [List.getElem?_set_self hiσ] at e2;cases e2;exact ⟨u,r,.inr ⟨.inl hk,c,hc,hc'⟩⟩
   ·rw [List.getElem?_set_ne (Ne.symm hj)] at e2;obtain ⟨u',r',q⟩:=hl j y v' e1 e2 e3;refine ⟨u',r',?_⟩;rcases q with q|⟨k,c',e,z'⟩
    ·exact .inl q
    ·refine .inr ⟨k,c',e,z'.sameBut hs ?_⟩;rintro rfl;exact hj (M6 hN e1 (I.ok.inj _ _ _ e hc▸hi))
  ·by_cases hcc:c'=c
   ·subst hcc;exact ⟨_,hc'⟩
   ·obtain ⟨w2,z2⟩:=I.cell y c' e;exact ⟨w2,z2.sameBut hs hcc⟩
  ·obtain ⟨e,n,ne,nf,d⟩:=I.pin p hp;refine ⟨(hs.2 p.1 ?_).trans e,n,ne,nf,d⟩;intro q;rw [q,hoc] at e;have q':oc=p.2:=Option.some.inj e;exact d w' (by rw [<-q'];exact hocd)
theorem M7 {M:Model} {A:Around} {E:Value->Shared->Prop} {i:Nat} {x:Str} {v:V} {u:Value} {Q:Unit->Shared->Prop} (I:Inv X pins σ H s) (hN:X.N.Nodup) (hi:X.N[i]?=some x) (hx:Loc X.env.scope x) (r:RelV v u)
  (h:∀s',Inv X pins (σ.set i (some v)) H s'->Q () s') (hf:X.fn x=true\/X.env.scope.names.lookup x=some .local:=by first|exact .inl rfl|exact .inr rfl|assumption):wpAny M A (storeName X.env x u) Q E s:=
 TX I hN hi hx r (fun s' I' _=>h s' I') hf
theorem Inv.call' {s':Shared} {ch:List Addr} (I:Inv X pins σ H s) (ho:s'.os=s.os) (u:Un (frs X.stack) ch H H' s.heap s'.heap) (hok:HOk X.prog X.w H' s'.heap) (hg:AllBare s'.gens)
  (hch:∀b∈ch,(b∈X.ex\/X.s₀.heap.objs.size<=b)/\b≠X.env.locals/\(∀x c,X.env.cells.lookup x=some c->c≠b)/\∀p∈X.pn++pins,p.1≠b):Inv X pins σ H' s':=by
 obtain ⟨h',g',d',t',o'⟩:=s';have e:o'=s.os:=ho;subst e;exact I.call (g':=g') (t':=t') (d':=d') u hok hg hch
end
abbrev XK:=Value->Option Addr->Hp->Prop
abbrev St:=List (Option V)
abbrev VK:=V->Hp->Prop
abbrev TE:=St->Hp->VK->Prop
abbrev TT:=St->Hp->(Bool->Hp->Prop)->Prop
abbrev TA:=St->Hp->(List V->Hp->Prop)->Prop
structure Ends where
 nx:St->Hp->Prop
 rt:VK
 bk:St->Hp->Prop:=fun _ _=>False
 ct:St->Hp->Prop:=fun _ _=>False
abbrev TS:=Ends->St->Hp->Prop
noncomputable def EP (X:Cx) (pins:List (Addr×Obj)) (σ:St) (Q:VK) (u:Value) (s':Shared):Prop:=∃v H',Inv X pins σ H' s'/\RelV v u/\Q v H'
noncomputable def TP (X:Cx) (pins:List (Addr×Obj)) (σ:St) (Q:Bool->Hp->Prop) (b:Bool) (s':Shared):Prop:=∃H',Inv X pins σ H' s'/\Q b H'
noncomputable def AP (X:Cx) (pins:List (Addr×Obj)) (σ:St) (Q:List V->Hp->Prop) (us:List Value) (s':Shared):Prop:=∃vs H',Inv X pins σ H' s'/\Vals vs us/\Q vs H'
noncomputable def SP (X:Cx) (pins:List (Addr×Obj)) (D:Ends) (f:Flow) (s':Shared):Prop:=
 match f with
 | .next=>∃σ' H',Inv X pins σ' H' s'/\D.nx σ' H'
 | .brk=>∃σ' H',Inv X pins σ' H' s'/\D.bk σ' H'
 | .cont=>∃σ' H',Inv X pins σ' H' s'/\D.ct σ' H'
 | .ret u=>∃v σ' H',Inv X pins σ' H' s'/\RelV v u/\D.rt v H'
noncomputable def PE (X:Cx) (e:Expr) (t:TE):Prop:=
 ∀(pins:List (Addr×Obj)) (s:Shared) (σ:St) (H:Hp) (Q:VK),Inv X pins σ H s->t σ H Q->wpAny (model X.prog X.w) X.A (eval e X.env) (EP X pins σ Q) X.xe s
noncomputable def PT (X:Cx) (e:Expr) (t:TT):Prop:=
 ∀(pins:List (Addr×Obj)) (s:Shared) (σ:St) (H:Hp) (Q:Bool->Hp->Prop),Inv X pins σ H s->t σ H Q->wpAny (model X.prog X.w) X.A (isTrue e X.env (eval e X.env)) (TP X pins σ Q) X.xe s
noncomputable def PW (X:Cx) (e:Expr) (t:TT):Prop:=
 ∀(whole:Sem Value) (pins:List (Addr×Obj)) (s:Shared) (σ:St) (H:Hp) (Q:Bool->Hp->Prop),Inv X pins σ H s->t σ H Q->wpAny (model X.prog X.w) X.A (isTrue e X.env whole) (TP X pins σ Q) X.xe s
theorem PW.pt {X:Cx} {e:Expr} {t:TT} (h:PW X e t):PT X e t:=h _
noncomputable def PA (X:Cx) (es:List Expr) (t:TA):Prop:=
 ∀(pos:Pos) (pins:List (Addr×Obj)) (s:Shared) (σ:St) (H:Hp) (Q:List V->Hp->Prop),Inv X pins σ H s->t σ H Q->wpAny (model X.prog X.w) X.A (spliced (backTo pos (starEach es X.env))) (AP X pins σ Q) X.xe s
noncomputable def PS (X:Cx) (st:Stmt) (t:TS):Prop:=
 ∀(pins:List (Addr×Obj)) (s:Shared) (σ:St) (H:Hp) (D:Ends),Inv X pins σ H s->t D σ H->wpAny (model X.prog X.w) X.A (exec st X.env) (SP X pins D) X.xe s
noncomputable def PSs (X:Cx) (st:List Stmt) (t:TS):Prop:=
 ∀(pins:List (Addr×Obj)) (s:Shared) (σ:St) (H:Hp) (D:Ends),Inv X pins σ H s->t D σ H->wpAny (model X.prog X.w) X.A (execs st X.env) (SP X pins D) X.xe s
theorem thn {α:Type} {t:Sem α} {Q Q':α->Shared->Prop} {M:Model} {A:Around} {E:Value->Shared->Prop} {s:Shared} (h:wpAny M A t Q E s) (hQ:∀a s,Q a s->Q' a s):wpAny M A t Q' E s:=wpAny_mono h hQ fun _ _ x=>x
end L2
namespace L2
open PySem PySem.Spec PyProof.Rows
section
variable {X:Cx}
def aJf (i:Nat):TE:=fun σ H Q=>∃v,σ[i]?=some (some v)/\Q v H
def tC (v:V):TE:=fun _ H Q=>Q v H
theorem nT {i:Nat} {x:Str} {pos:Pos} (hN:X.N[i]?=some x) (hv:Vis X.env.scope x) (hd:nDb x:=by decide) (hcd:nCd x:=by decide):PE X (.Name x pos) (aJf i):=by
 intro pins s σ H Q I h;obtain ⟨v,e,h⟩:=h;obtain ⟨m,hn,hl⟩:=I.loc;obtain ⟨u,r,l⟩:=hl i x v hN e hv;have fin:EP X pins σ Q u s:=⟨v,H,I,r,h⟩
 rcases l with ⟨hk,hm⟩|⟨hk,c,hc,hcell⟩
 ·exact wpAny_Name (wpAny_loadName_local I.ok.kind hk hn hm fin) hd
 ·rcases hk with hk|hk
  ·exact wpAny_Name (wpAny_loadName_cell I.ok.kind hk hc hcell fin) hd
  ·exact wpAny_Name (wpAny_loadName_free I.ok.kind hk hc hcell fin hcd) hd
theorem aF6 {i j pos}:PE X (.Constant (.int i) j pos) (tC (.int i)):=fun _ _ _ H _ I h=>wpAny_Constant_int ⟨.int i,H,I.tok _,⟨_,rfl⟩,h⟩
theorem aF7 {b j pos}:PE X (.Constant (.bool b) j pos) (tC (.bl b)):=fun _ _ _ H _ I h=>Constant_bool ⟨.bl b,H,I,rfl,h⟩
theorem aBo {x j pos}:PE X (.Constant (.str x) j pos) (tC (.str x)):=fun _ _ _ H _ I h=>Calls.Constant_str ⟨.str x,H,I.tok _,⟨_,rfl⟩,h⟩
def Gl (X:Cx) (x:Str):Prop:=X.env.kindOf x=some .globalImplicit
theorem x_ {E:Value->Shared->Prop} {pins:List (Addr×Obj)} {s:Shared} {σ:St} {H:Hp} {x:Str} {u:Value} {pos:Pos} {Q:Value->Shared->Prop} (I:Inv X pins σ H s) (hg:Gl X x) (hm:X.mg x=some u) (h:Q u s)
  (hd:nDb x:=by decide):wpAny (model X.prog X.w) X.A (eval (.Name x pos) X.env) Q E s:=
 Calls.Name_function_global I.ok.kind hg (Calls.loadGlobal_global (by rw [I.ok.glob];exact I.mod.glob.keeps I.bk) hm h) hd
theorem M8 {E:Value->Shared->Prop} {pins:List (Addr×Obj)} {s:Shared} {σ:St} {H:Hp} {x:Str} {u:Value} {pos:Pos} {Q:Value->Shared->Prop} (I:Inv X pins σ H s) (hg:Gl X x) (hm:X.mg x=none) (hv:bootBuiltins x=some u) (h:Q u s)
  (hn:x ≠ "__name__":=by decide) (hd:nDb x:=by decide):wpAny (model X.prog X.w) X.A (eval (.Name x pos) X.env) Q E s:=by
 obtain ⟨mb,h1,h2⟩:=I.mod.blt;exact Calls.Name_function_global I.ok.kind hg (Calls.loadGlobal_builtin (by rw [I.ok.glob];exact I.mod.glob.keeps I.bk) hm (by rw [I.ok.blt];exact h1.keeps I.bk) ((h2 x hn).trans hv) h) hd
theorem aCu {x:Str} {v:V} {u:Value} {pos:Pos} (hg:Gl X x) (hm:X.mg x=none) (hv:bootBuiltins x=some u) (r:RelV v u) (hn:x ≠ "__name__":=by decide) (hd:nDb x:=by decide):PE X (.Name x pos) (tC v):=
 fun _ _ _ H _ I h=>M8 I hg hm hv ⟨v,H,I,r,h⟩ hn hd
variable {a b:Expr} {ta tb:TE} {pos:Pos}
variable {tA tB':TT} {rest:List Expr}
noncomputable def aJg (t u:TT):TT:=fun σ H Q=>t σ H fun c H1=>if c=true then u σ H1 Q else Q false H1
noncomputable def tOr (t u:TT):TT:=fun σ H Q=>t σ H fun c H1=>if c=true then Q true H1 else u σ H1 Q
def aJh (t:TT):TT:=fun σ H Q=>t σ H fun c H1=>Q (!c) H1
theorem aCv (ha:PT X a tA):PW X (.BoolOp .And [a] pos) tA:=by
 intro wh pins s σ H Q I h;refine isTrue_and (thn (ha pins s σ H Q I h) fun c s1 e=>?_);cases c with
 | true=>exact isTrue_and_nil e
 | false=>exact e
theorem aF8 (ha:PT X a tA):PW X (.BoolOp .Or [a] pos) tA:=by
 intro wh pins s σ H Q I h;refine isTrue_or (thn (ha pins s σ H Q I h) fun c s1 e=>?_);cases c with
 | false=>exact isTrue_or_nil e
 | true=>exact e
theorem aF9 (ha:PT X a tA) (hb:PW X (.BoolOp .And (b::rest) pos) tB'):PW X (.BoolOp .And (a::b::rest) pos) (aJg tA tB'):=by
 intro wh pins s σ H Q I h;refine isTrue_and (thn (ha pins s σ H _ I h) fun c s1 ⟨H1,I1,q1⟩=>?_);cases c with
 | true=>exact hb wh pins s1 σ H1 Q I1 q1
 | false=>exact ⟨H1,I1,q1⟩
theorem aHu (ha:PT X a tA) (hb:PW X (.BoolOp .Or (b::rest) pos) tB'):PW X (.BoolOp .Or (a::b::rest) pos) (tOr tA tB'):=by
 intro wh pins s σ H Q I h;refine isTrue_or (thn (ha pins s σ H _ I h) fun c s1 ⟨H1,I1,q1⟩=>?_);cases c with
 | true=>exact ⟨H1,I1,q1⟩
 | false=>exact hb wh pins s1 σ H1 Q I1 q1
theorem aFa (ha:PT X a tA):PT X (.UnaryOp .Not a pos) (aJh tA):=by
 intro pins s σ H Q I h;exact isTrue_not (ha pins s σ H (fun c H1=>Q (!c) H1) I h)
noncomputable def aHv (ta tb:TE):TE:=fun σ H Q=>ta σ H fun x H1=>∃c,x=.bl c/\if c=true then tb σ H1 Q else Q (.bl false) H1
theorem aFb {op} {t:TE} (h:PE X a t):PE X (.BoolOp op [a] pos) t:=fun pins s σ H Q I hw=>BoolOp_one (h pins s σ H Q I hw)
theorem aFc (ha:PE X a ta) (hb:PE X (.BoolOp .And (b::rest) pos) tb):PE X (.BoolOp .And (a::b::rest) pos) (aHv ta tb):=by
 intro pins s σ H Q I h;refine BoolOp_and (thn (ha pins s σ H _ I h) fun v s1 ⟨x,H1,I1,r1,q1⟩=>?_);obtain ⟨c,rfl,q1⟩:=q1;cases r1;refine wpAny_truthy_bool ?_;cases c with
 | true=>exact hb pins s1 σ H1 Q I1 q1
 | false=>exact ⟨.bl false,H1,I1,rfl,q1⟩
end
end L2
namespace L2
open PySem PySem.Spec PyProof.Rows
noncomputable def SqL (K:PySem.W.Frag) (H:Hp) (a:Addr) (xs:List V):Prop:=
 Rd H a (.lst xs)\/
  ∃(o:Obj) (its:Array Value) (n:Nat),K.lookup a=some o/\o.cls=.type "list"/\o.dict=none/\o.data=.seq its n/\its.size<=sizeLine/\Vals xs its.toList
noncomputable def SqT (K:PySem.W.Frag) (H:Hp) (a:Addr) (xs:List V):Prop:=
 Rd H a (.tup xs)\/
  ∃(o:Obj) (its:Array Value) (n:Nat),K.lookup a=some o/\o.cls=.type "tuple"/\o.data=.seq its n/\its.size<=sizeLine/\Vals xs its.toList
noncomputable def aJi:Value->Option V
 | .none=>some .non
 | .bool b=>some (.bl b)
 | .int i _=>some (.int i)
 | .str x _=>some (.str x)
 | .bytes b _=>some (.byt b)
 | .float b _=>some (.flt b)
 | .ref a=>some (.ref a)
 | .type n=>some (.ty n)
 | _=>none
theorem RelV.abs {x:V} {u:Value} (r:RelV x u):aJi u=some x:=by
 cases x with
 | non=>cases r;rfl
 | bl _=>cases r;rfl
 | int _=>obtain ⟨t,rfl⟩:=r;rfl
 | str _=>obtain ⟨t,rfl⟩:=r;rfl
 | byt _=>obtain ⟨t,rfl⟩:=r;rfl
 | flt _=>obtain ⟨t,rfl⟩:=r;rfl
 | ref _=>cases r;rfl
 | ty _=>cases r;rfl
theorem RelV.inj {x y:V} {u:Value} (r:RelV x u) (q:RelV y u):x=y:=Option.some.inj (r.abs.symm.trans q.abs)
theorem Vals.inj:∀{xs ys:List V} {us:List Value},Vals xs us->Vals ys us->xs=ys
 | _,_,_,.nil,.nil=>rfl
 | _,_,_,.cons r t,.cons r' t'=>by rw [r.inj r',Vals.inj t t']
section
variable {X:Cx} {pins:List (Addr×Obj)} {σ:St} {H:Hp} {s:Shared} {a:Addr} {xs ys:List V}
theorem SqL.of {K:PySem.W.Frag} (h:H a=some (.lst xs)):SqL K H a xs:=.inl (.inl h)
theorem SqT.of {K:PySem.W.Frag} (h:H a=some (.tup xs)):SqT K H a xs:=.inl (.inl h)
theorem Inv.list (I:Inv X pins σ H s) (h:SqL X.K H a xs):∃its:List Value,Vals xs its/\PlainL s.heap a its.toArray/\xs.length<=sizeLine:=by
 rcases h with h|⟨o,its,n,hk,hc,hd,hs,hz,r⟩
 ·obtain ⟨z,its,n,r,e⟩:=h.ok I.hok;exact ⟨its,r,⟨_,n,e,rfl,rfl,rfl⟩,z⟩
 ·refine ⟨its.toList,r,⟨o,n,I.kIn a o hk,hc,hd,by simpa using hs⟩,?_⟩;have e:=r.length;simp only [Array.length_toList] at e;lia
theorem Inv.tuple (I:Inv X pins σ H s) (h:SqT X.K H a xs):∃its:List Value,Vals xs its/\IsTup s.heap a its.toArray/\xs.length<=sizeLine:=by
 rcases h with h|⟨o,its,n,hk,hc,hs,hz,r⟩
 ·obtain ⟨z,its,r,p⟩:=h.ok I.hok;exact ⟨its,r,p.tup,z⟩
 ·refine ⟨its.toList,r,⟨o,I.kIn a o hk,hc,n,by simpa using hs⟩,?_⟩;have e:=r.length;simp only [Array.length_toList] at e;lia
theorem Inv.ZP (I:Inv X pins σ H s) (h:SqL X.K H a xs) (h':SqL X.K H a ys):xs=ys:=by
 obtain ⟨its,r,⟨o,n,e,_,_,d⟩,_⟩:=I.list h;obtain ⟨its',r',⟨o',n',e',_,_,d'⟩,_⟩:=I.list h';rw [e] at e';cases e';rw [d] at d';injection d' with d1 _
 have:its=its':=by simpa using congrArg Array.toList d1
 subst this;exact r.inj r'
theorem Inv.TY (I:Inv X pins σ H s) (h:SqT X.K H a xs) (h':SqT X.K H a ys):xs=ys:=by
 obtain ⟨its,r,⟨o,e,_,n,d⟩,_⟩:=I.tuple h;obtain ⟨its',r',⟨o',e',_,n',d'⟩,_⟩:=I.tuple h';rw [e] at e';cases e';rw [d] at d';injection d' with d1 _
 have:its=its':=by simpa using congrArg Array.toList d1
 subst this;exact r.inj r'
end
abbrev Cx.wish (X:Cx) (E:Value->Shared->Prop):Cx:={X with xe:=E}
abbrev Cx.nox (X:Cx):Cx:=X.wish fun _ _=>False
theorem Cx.Ok.wish {X:Cx} (ok:X.Ok) (E:Value->Shared->Prop):(X.wish E).Ok:=
 ⟨ok.mod,ok.kind,ok.glob,ok.blt,ok.above,ok.inj,ok.has,ok.cab,ok.hd,ok.frames,ok.stk,ok.exf,ok.bs,ok.bsz,ok.noex,ok.exfs,ok.S6,ok.frf⟩
theorem Cx.Ok.pB {X:Cx} {E:Value->Shared->Prop} (ok:(X.wish E).Ok):X.Ok:=
 ⟨ok.mod,ok.kind,ok.glob,ok.blt,ok.above,ok.inj,ok.has,ok.cab,ok.hd,ok.frames,ok.stk,ok.exf,ok.bs,ok.bsz,ok.noex,ok.exfs,ok.S6,ok.frf⟩
section
variable {X:Cx} {pins:List (Addr×Obj)} {σ:St} {H:Hp} {s:Shared} {E:Value->Shared->Prop}
theorem Inv.wish (I:Inv X pins σ H s) (E:Value->Shared->Prop):Inv (X.wish E) pins σ H s:=⟨I.ok.wish E,I.os,I.bare,I.base,I.loc,I.cell,I.free,I.freeC,I.pin,I.hok,I.len⟩
theorem Inv.pB (I:Inv (X.wish E) pins σ H s):Inv X pins σ H s:=⟨I.ok.pB,I.os,I.bare,I.base,I.loc,I.cell,I.free,I.freeC,I.pin,I.hok,I.len⟩
theorem SP.pB {D:Ends} {f:Flow} {s':Shared} (h:SP (X.wish E) pins D f s'):SP X pins D f s':=by
 cases f with
 | next=>obtain ⟨σ',H',I,q⟩:=h;exact ⟨σ',H',I.pB,q⟩
 | brk=>obtain ⟨σ',H',I,q⟩:=h;exact ⟨σ',H',I.pB,q⟩
 | cont=>obtain ⟨σ',H',I,q⟩:=h;exact ⟨σ',H',I.pB,q⟩
 | ret u=>obtain ⟨v,σ',H',I,r,q⟩:=h;exact ⟨v,σ',H',I.pB,r,q⟩
theorem PSs.nox {st:List Stmt} {t:TS} (h:PSs X.nox st t):PSs X st t:=fun pins s σ H D I hw=>
 wpAny_mono (h pins s σ H D (I.wish _) hw) (fun _ _ q=>q.pB) fun _ _ z=>False.elim z
end
section
variable {X:Cx} {st:Stmt} {rest:List Stmt} {t u:TS} {e:Expr} {te:TE} {pos:Pos}
def aHw:TS:=fun D σ H=>D.nx σ H
def aJ5 (t u:TS):TS:=fun D σ H=>t {D with nx:=u D} σ H
theorem T3:PSs X [] aHw:=fun _ _ σ H _ I h=>wpAny_execs_nil ⟨σ,H,I,h⟩
theorem yC (h1:PS X st t) (h2:PSs X rest u):PSs X (st::rest) (aJ5 t u):=by
 intro pins s σ H D I h;refine wpAny_execs_cons (thn (h1 pins s σ H {D with nx:=u D} I h) fun f s1 q=>?_);cases f with
 | next=>
  obtain ⟨σ',H',I',q⟩:=q;exact h2 pins s1 σ' H' D I' q
 | ret v=>exact q
 | brk=>exact q
 | cont=>exact q
theorem yD (h1:PS X st t):PSs X [st] t:=by
 intro pins s σ H D I h;refine wpAny_execs_cons (thn (h1 pins s σ H D I h) fun f s1 q=>?_);cases f with
 | next=>exact wpAny_execs_nil q
 | ret v=>exact q
 | brk=>exact q
 | cont=>exact q
theorem Inv.quiet {pins:List (Addr×Obj)} {σ:St} {H:Hp} {s:Shared} (I:Inv X pins σ H s):interactive X.env=false:=by simp [interactive,I.ok.kind]
def aHx (te:TE):TS:=fun D σ H=>te σ H fun _ H1=>D.nx σ H1
theorem rN (he:PE X e te) (hs:swapsWith e none pos.line X.env=pure false:=by rfl):PS X (.Expr e pos) (aHx te):=by
 intro pins s σ H D I h;exact wpAny_Expr_any (thn (he pins s σ H _ I h) fun v s1 ⟨x,H1,I1,r1,q1⟩=>⟨σ,H1,I1,q1⟩) I.quiet hs
def aJj (te:TE):TS:=fun D σ H=>te σ H D.rt
theorem aBp (he:PE X e te):PS X (.Return (some e) pos) (aJj te):=by
 intro pins s σ H D I h;exact wpAny_Return_some (thn (he pins s σ H _ I h) fun v s1 ⟨x,H1,I1,r1,q1⟩=>⟨x,σ,H1,I1,r1,q1⟩)
noncomputable def aJk (c:TT) (t u:TS):TS:=fun D σ H=>c σ H fun b H1=>if b=true then t D σ H1 else u D σ H1
theorem aFd {c:Expr} {a b:List Stmt} {tc:TT} (hc:PT X c tc) (ha:PSs X a t) (hb:PSs X b u):PS X (.If c a b pos) (aJk tc t u):=by
 intro pins s σ H D I h;refine wpAny_If (thn (hc pins s σ H _ I h) fun d s1 ⟨H1,I1,q1⟩=>?_);cases d with
 | true=>exact ha pins s1 σ H1 D I1 q1
 | false=>exact hb pins s1 σ H1 D I1 q1
end
abbrev TG:=V->St->Hp->(St->Hp->Prop)->Prop
abbrev TGs:=List V->St->Hp->(St->Hp->Prop)->Prop
noncomputable def PG (X:Cx) (target:Expr) (t:TG):Prop:=
 ∀(pins:List (Addr×Obj)) (s:Shared) (σ:St) (H:Hp) (v:V) (u:Value) (Q:St->Hp->Prop),Inv X pins σ H s->RelV v u->t v σ H Q->
  wpAny (model X.prog X.w) X.A (assign target X.env u) (fun _ s'=>∃σ' H',Inv X pins σ' H' s'/\Q σ' H') X.xe s
noncomputable def PGs (X:Cx) (ts:List Expr) (t:TGs):Prop:=
 ∀(pins:List (Addr×Obj)) (s:Shared) (σ:St) (H:Hp) (vs:List V) (us:List Value) (Q:St->Hp->Prop),Inv X pins σ H s->Vals vs us->t vs σ H Q->
  wpAny (model X.prog X.w) X.A (assignInOrder ((assignEach ts X.env).map (·.2)) us) (fun _ s'=>∃σ' H',Inv X pins σ' H' s'/\Q σ' H') X.xe s
section
variable {X:Cx} {pos:Pos}
def tO (i:Nat):TG:=fun v σ H Q=>Q (σ.set i (some v)) H
theorem bA {i:Nat} {x:Str} (hN:X.N.Nodup) (hi:X.N[i]?=some x) (hx:Loc X.env.scope x) (hf:X.fn x=true\/X.env.scope.names.lookup x=some .local:=by first|exact .inl rfl|exact .inr rfl|assumption):PG X (.Name x pos) (tO i):=by
 intro pins s σ H v u Q I r h;exact wpAny_assign_Name (M7 I hN hi hx r (fun s' I'=>⟨_,H,I',h⟩) hf)
def aJ6:TGs:=fun vs σ H Q=>vs=[]/\Q σ H
noncomputable def aFe (t:TG) (u:TGs):TGs:=fun vs σ H Q=>∃v r,vs=v::r/\t v σ H fun σ' H'=>u r σ' H' Q
theorem kW:PGs X [] aJ6:=by
 intro pins s σ H vs us Q I r h;obtain ⟨e,h⟩:=h;subst e;cases r;exact assignInOrder_nil ⟨σ,H,I,h⟩
theorem cH {e:Expr} {es:List Expr} {t:TG} {u:TGs} (h1:PG X e t) (h2:PGs X es u)
  (hs:(assignEach (e::es) X.env).map (·.2)=assign e X.env::(assignEach es X.env).map (·.2):=by rfl):PGs X (e::es) (aFe t u):=by
 intro pins s σ H vs us Q I r h;obtain ⟨v,vr,e1,h⟩:=h;subst e1;cases r with
 | cons r rr=>
  rw [hs];refine assignInOrder_cons (thn (h1 pins s σ H _ _ _ I r h) fun _ s1 ⟨σ1,H1,I1,q1⟩=>?_);exact h2 pins s1 σ1 H1 _ _ Q I1 rr q1
noncomputable def aHy (K:PySem.W.Frag) (n:Nat) (t:TGs):TG:=fun v σ H Q=>∃a xs,v=.ref a/\SqT K H a xs/\xs.length=n/\t xs σ H Q
theorem pC {es:List Expr} {k:Nat} {t:TGs} {n:Nat} (hc:X.calm=true) (h:PGs X es t)
  (hn:(assignEach es X.env).length=n:=by rfl) (hst:(assignEach es X.env).findIdx? (·.1)=none:=by rfl):PG X (.Tuple es k pos) (aHy X.K n t):=by
 intro pins s σ H v u Q I r hw;obtain ⟨a,xs,e1,hq,hl,hw⟩:=hw;subst e1;cases r;obtain ⟨its,rv,ht,hz⟩:=I.tuple hq;refine assign_Tuple_tuple (I.ok.hd hc) ht (by simp [hn,<-hl,rv.length]) hst fun h' hx=>?_
 have I1:Inv X pins σ H {s with heap:=h'}:=I.kept (t':=s.toks) fun b o e=>hx b o (Nat.ne_of_lt (Heap.lt_size e)) e
 exact h pins _ σ H xs _ Q I1 (by simpa using rv) hw
def aEt (te:TE) (g:TG):TS:=fun D σ H=>te σ H fun x H1=>g x σ H1 D.nx
theorem aFf {tg e:Expr} {te:TE} {g:TG} (he:PE X e te) (hg:PG X tg g) (hs:swapsWithSole [tg] e pos.line X.env=pure false:=by rfl) (hw:swappedStores [tg] e X.env=pure none:=by rfl)
  (h1:(assignEach [tg] X.env).map (·.2)=[assign tg X.env]:=by rfl):PS X (.Assign [tg] e pos) (aEt te g):=by
 intro pins s σ H D I h;refine wpAny_Assign_stores (thn (he pins s σ H _ I h) fun v s1 ⟨x,H1,I1,r1,q1⟩=>?_) hs hw;rw [h1];exact thn (hg pins s1 σ H1 x v _ I1 r1 q1) fun _ s2 q=>q
theorem aBq {i:Nat} {x:Str} {e:Expr} {te:TE} {pos':Pos} (hN:X.N.Nodup) (hi:X.N[i]?=some x) (hx:Loc X.env.scope x) (he:PE X e te) (hs:swapsWith e (some (.Name x pos')) pos.line X.env=pure false:=by rfl) (hf:X.fn x=true\/X.env.scope.names.lookup x=some .local:=by first|exact .inl rfl|exact .inr rfl|assumption) :
  PS X (.Assign [.Name x pos'] e pos) (aEt te (tO i)):=by
 intro pins s σ H D I h;refine wpAny_Assign_Name (thn (he pins s σ H _ I h) fun v s1 ⟨y,H1,I1,r1,q1⟩=>?_) hs;exact M7 I1 hN hi hx r1 (fun s2 I2=>⟨_,H1,I2,q1⟩) hf
end
section
variable {X:Cx} {pos:Pos}
end
structure It where
 go:Nat->Hp->Prop
 yld:Nat->Hp->V->Hp->Prop
 stop:Nat->Hp->Prop
noncomputable def T4 (X:Cx) (pins:List (Addr×Obj)) (H:Hp) (b:Addr):Prop:=
 H b=none/\b≠X.env.locals/\b∉X.fs/\(b∈X.ex\/X.s₀.heap.objs.size<=b)/\(∀x c,X.env.cells.lookup x=some c->c≠b)/\∀p∈X.pn++pins,p.1≠b
theorem Inv.aFg {X:Cx} {pins:List (Addr×Obj)} {σ:St} {H H':Hp} {s:Shared} {b:Addr} (I:Inv X pins σ H s) (hb:s.heap.objs.size<=b) (hn:H' b=none):T4 X pins H' b:=by
 refine ⟨hn,Nat.ne_of_gt (Nat.lt_of_lt_of_le I.lt hb),I.aJ4 hb,.inr (Nat.le_trans I.sz hb),fun x c e z=>?_,fun p hp z=>?_⟩
 ·obtain ⟨v,q⟩:=I.cell x c e;exact absurd (Nat.lt_of_lt_of_le q.lt (by rw [z];exact hb)) (Nat.lt_irrefl _)
 ·exact absurd (Nat.lt_of_lt_of_le (Heap.lt_size (I.pin p hp).1) (by rw [z];exact hb)) (Nat.lt_irrefl _)
structure Turn (P:Program) (w:World) (K:PySem.W.Frag) (tg:Expr) (J:It) (fp:List Addr) (it:Addr) (tn:Nat->Heap->Prop):Prop where
 mem:it∈fp
 obj:∀i h,tn i h->∀b∈fp,∃o,h.get? b=some o/\∀v,o.data≠.cell v
 keep:∀i h h',tn i h->(∀b∈fp,∀o,h.get? b=some o->h'.get? b=some o)->tn i h'
 item:∀(X:Cx),X.prog=P->X.w=w->X.K=K->X.calm=true->∀(i:Nat) (pins:List (Addr×Obj)) (s:Shared) (σ:St) (H:Hp) (E:Value->Shared->Prop),Inv X pins σ H s->(∀b∈fp,T4 X pins H b)->tn i s.heap->J.go i H->
  wpAny (model P w) X.A (pyNext (.ref it)) (fun r s1=>∃u,r=some u/\
   wpAny (model P w) X.A (letOwnedTupleGo tg (.ref it) u) (fun _ s2=>∃x H',Inv X pins σ H' s2/\RelV x u/\J.yld i H x H'/\tn (i+1) s2.heap/\∀b∈fp,H' b=none) E s1) E s
 done:∀(X:Cx),X.prog=P->X.w=w->X.K=K->X.calm=true->∀(i:Nat) (pins:List (Addr×Obj)) (s:Shared) (σ:St) (H:Hp) (E:Value->Shared->Prop),Inv X pins σ H s->(∀b∈fp,T4 X pins H b)->tn i s.heap->J.stop i H->
  wpAny (model P w) X.A (pyNext (.ref it)) (fun r s1=>r=none/\Inv X pins σ H s1) E s
 self:∀(A:Around) (i:Nat) (s:Shared) (Q:Value->Shared->Prop) (E:Value->Shared->Prop),tn i s.heap->Q (.ref it) s->wpAny (model P w) A (pyIter (.ref it)) Q E s
abbrev TI:=St->Hp->(It->Hp->Prop)->Prop
noncomputable def PIE (X:Cx) (pins:List (Addr×Obj)) (σ:St) (tg:Expr) (R:It->Hp->Prop) (itv:Value) (s2:Shared):Prop:=
 ∃(it:Addr) (fp:List Addr) (tn:Nat->Heap->Prop) (J:It) (H':Hp),itv=.ref it/\Inv X pins σ H' s2/\Turn X.prog X.w X.K tg J fp it tn/\tn 0 s2.heap/\(∀b∈fp,T4 X pins H' b)/\R J H'
noncomputable def PI (X:Cx) (tg iter:Expr) (wi:TI):Prop:=
 ∀(pins:List (Addr×Obj)) (s:Shared) (σ:St) (H:Hp) (R:It->Hp->Prop),Inv X pins σ H s->wi σ H R->
  wpAny (model X.prog X.w) X.A (eval iter X.env) (fun v s1=>wpAny (model X.prog X.w) X.A (pyIter v) (PIE X pins σ tg R) X.xe s1) X.xe s
theorem T5 {M:Model} {A:Around} {E:Value -> Shared -> Prop} {s:Shared} {tg:Expr} {it:Addr} {u:Value} {o:Obj} {n:String} {vs:Array Value} {Q:Unit -> Shared -> Prop} (ho:s.heap.get? it=some o) (hc:o.cls=.type n) (hd:o.data=.fields vs)
    (hn:["enumerate", "zip", "dict_itemiterator", "dict_reverseitemiterator", "odict_iterator", "itertools.zip_longest", "itertools.pairwise"].contains n=false) (hQ:Q () s):wpAny M A (letOwnedTupleGo tg (.ref it) u) Q E s := by
  unfold letOwnedTupleGo;cases tg <;> first
    | exact wpAny_pure hQ
    | (cases u <;> first
        | exact wpAny_pure hQ
        | (refine wpAny_bind (wpAny_load ho ?_)
           rw [hc, hd];show wpAny M A (if (["enumerate", "zip", "dict_itemiterator", "dict_reverseitemiterator", "odict_iterator", "itertools.zip_longest", "itertools.pairwise"].contains n&&vs[0]?==some (rawInt _))=true then _ else _) Q E s;rw [if_neg (by intro h; rw [hn, Bool.false_and] at h; cases h)];exact wpAny_pure hQ))
noncomputable def Itl (K:PySem.W.Frag) (a:Addr):It:=
 ⟨fun i H=>∃xs x,SqL K H a xs/\xs[i]?=some x,fun i H x H'=>H'=H/\∀xs,SqL K H a xs->xs[i]?=some x,fun i H=>∃xs,SqL K H a xs/\xs.length<=i⟩
noncomputable def Itt (K:PySem.W.Frag) (a:Addr):It:=
 ⟨fun i H=>∃xs x,SqT K H a xs/\xs[i]?=some x,fun i H x H'=>H'=H/\∀xs,SqT K H a xs->xs[i]?=some x,fun i H=>∃xs,SqT K H a xs/\xs.length<=i⟩
noncomputable def Itr (lo:Int) (n:Nat):It:=⟨fun i _=>i<n,fun i H x H'=>H'=H/\x=.int (lo+i),fun i _=>n<=i⟩
theorem T6 {P:Program} {w:World} {K:PySem.W.Frag} {tg:Expr} (a it:Addr):Turn P w K tg (Itl K a) [it] it (fun i h=>h.IsListIter it a i) where
 mem:=by simp
 obj:=fun i h st b hb=>by
  have e:b=it:=by simpa using hb
  subst e;obtain ⟨o,e,c,d⟩:=st;exact ⟨o,e,fun v z=>by rw [d] at z;cases z⟩
 keep:=fun i h h' st k=>st.at fun o e=>k it (by simp) o e
 item:=by
  intro X hP hw hK hc i pins s σ H E I hf st hg;subst hP hw hK;obtain ⟨xs,x,hq,hx⟩:=hg;obtain ⟨its,rv,p,hz⟩:=I.list hq;obtain ⟨u,hu,ru⟩:=rv.get hx;obtain ⟨f0,f1,f2,f3,f4,f5⟩:=hf it (by simp);refine wpAny_pyNext_list_item st p.isList (x:=u) (by simpa using hu) fun h' st' sb=>?_
  have I1:Inv X pins σ H {s with heap:=h'}:=I.turned (t':=s.toks) (fun b o hb e=>(sb.2 b hb).trans e) f0 f1 f3 f4 f5;obtain ⟨o,e,c,d⟩:=id st';exact ⟨u,rfl,T5 (s:={s with heap:=h'}) e c d (by decide) ⟨x,H,I1,ru,⟨rfl,fun ys hy=>by rw [I.ZP hy hq];exact hx⟩,st',fun b hb=>(hf b hb).1⟩⟩
 done:=by
  intro X hP hw hK hc i pins s σ H E I hf st hg;subst hP hw hK;obtain ⟨xs,hq,hx⟩:=hg;obtain ⟨its,rv,p,hz⟩:=I.list hq;obtain ⟨f0,f1,f2,f3,f4,f5⟩:=hf it (by simp);have hl:=rv.length;exact wpAny_pyNext_list_end (I.ok.hd hc) st p.isList (by simp;lia) fun h' eb=>⟨rfl,I.turned (t':=s.toks) (fun b o hb e=>eb b o hb e) f0 f1 f3 f4 f5⟩
 self:=fun _ _ _ _ _ st h=>wpAny_pyIter_listiter st h
theorem QX {P:Program} {w:World} {K:PySem.W.Frag} {tg:Expr} (a it:Addr):Turn P w K tg (Itt K a) [it] it (fun i h=>h.IsTupleIter it a i) where
 mem:=by simp
 obj:=fun i h st b hb=>by
  have e:b=it:=by simpa using hb
  subst e;obtain ⟨o,e,c,d⟩:=st;exact ⟨o,e,fun v z=>by rw [d] at z;cases z⟩
 keep:=fun i h h' st k=>st.at fun o e=>k it (by simp) o e
 item:=by
  intro X hP hw hK hc i pins s σ H E I hf st hg;subst hP hw hK;obtain ⟨xs,x,hq,hx⟩:=hg;obtain ⟨its,rv,p,hz⟩:=I.tuple hq;obtain ⟨u,hu,ru⟩:=rv.get hx;obtain ⟨f0,f1,f2,f3,f4,f5⟩:=hf it (by simp);refine wpAny_pyNext_tuple_item st (show s.heap.IsTuple a its.toArray from p) (x:=u) (by simpa using hu) fun h' st' sb=>?_
  have I1:Inv X pins σ H {s with heap:=h'}:=I.turned (t':=s.toks) (fun b o hb e=>(sb.2 b hb).trans e) f0 f1 f3 f4 f5;obtain ⟨o,e,c,d⟩:=id st';exact ⟨u,rfl,T5 (s:={s with heap:=h'}) e c d (by decide) ⟨x,H,I1,ru,⟨rfl,fun ys hy=>by rw [I.TY hy hq];exact hx⟩,st',fun b hb=>(hf b hb).1⟩⟩
 done:=by
  intro X hP hw hK hc i pins s σ H E I hf st hg;subst hP hw hK;obtain ⟨xs,hq,hx⟩:=hg;obtain ⟨its,rv,p,hz⟩:=I.tuple hq;obtain ⟨f0,f1,f2,f3,f4,f5⟩:=hf it (by simp);have hl:=rv.length;exact wpAny_pyNext_tuple_end (I.ok.hd hc) st (show s.heap.IsTuple a its.toArray from p) (by simp;lia) fun h' eb=>⟨rfl,I.turned (t':=s.toks) (fun b o hb e=>eb b o hb e) f0 f1 f3 f4 f5⟩
 self:=fun _ _ _ _ _ st h=>wpAny_pyIter_tupleiter st h
theorem QZ {P:Program} {w:World} {K:PySem.W.Frag} {tg:Expr} (it:Addr) (lo:Int) (n:Nat):Turn P w K tg (Itr lo n) [it] it (fun i h=>IsRangeIter h it (lo+(i:Nat)*1) ((n:Int)-(i:Nat)) 1) where
 mem:=by simp
 obj:=fun i h st b hb=>by
  have e:b=it:=by simpa using hb
  subst e;exact ⟨_,st,fun v z=>by
   have z':Data.fields _=Data.cell v:=z;cases z'⟩
 keep:=fun i h h' st k=>k it (by simp) _ st
 item:=by
  intro X hP hw hK hc i pins s σ H E I hf st hg;subst hP hw hK;obtain ⟨f0,f1,f2,f3,f4,f5⟩:=hf it (by simp);have W:=Walks.range (prog:=X.prog) (w:=X.w) (I.ok.hd hc) it lo 1 n;refine W.item i s _ _ hg st fun v h' tk hv st' kk=>?_
  obtain ⟨t,rfl⟩:=hv;have I1:Inv X pins σ H {s with heap:=h',toks:=tk}:=I.turned (fun b o hb e=>kk b o (by simpa using hb) e) f0 f1 f3 f4 f5;refine ⟨_,rfl,T5 (s:={s with heap:=h',toks:=tk}) (n := "range_iterator") st' rfl rfl (by decide) ⟨.int (lo+i),H,I1,⟨t,?_⟩,⟨rfl,rfl⟩,st',fun b hb=>(hf b hb).1⟩⟩;rw [Int.mul_one]
 done:=by
  intro X hP hw hK hc i pins s σ H E I hf st hg;subst hP hw hK;obtain ⟨f0,f1,f2,f3,f4,f5⟩:=hf it (by simp);exact wpAny_pyNext_range_end (I.ok.hd hc) st (by have:n<=i:=hg;lia) fun h' eb=>⟨rfl,I.turned (t':=s.toks) (fun b o hb e=>eb b o hb e) f0 f1 f3 f4 f5⟩
 self:=fun _ _ _ _ _ st h=>wpAny_pyIter_rangeiter st h
end L2
namespace L2
open PySem PySem.Spec PyProof.Rows
section
variable {X:Cx} {tg:Expr}
theorem ZQ {pins:List (Addr×Obj)} {σ:St} {H:Hp} {s:Shared} {R:It->Hp->Prop} {E:Value->Shared->Prop} {lo hi:Int} {t u v:Tok} {tk:Nat} (I:Inv X pins σ H s) (h1:-(2 ^ 62)<=lo) (h2:lo<2 ^ 62) (h3:-(2 ^ 62)<=hi) (h4:hi<2 ^ 62)
  (q:R (Itr lo (hi-lo).toNat) H):wpAny (model X.prog X.w) X.A (pyIter (.ref s.heap.objs.size)) (PIE X pins σ tg R) E {s with heap:=s.heap.push {cls:=.type "range",data:=.fields #[.int lo t,.int hi u,.int 1 v]},toks:=tk}:=by
 refine wpAny_pyIter_range (IsRange.new ..) (small_one h1 h2 h3 h4) ?_;have I1:Inv X pins σ H {s with heap:=s.heap.push {cls:=.type "range",data:=.fields #[.int lo t,.int hi u,.int 1 v]},toks:=tk}:=I.kept fun b o e=>Heap.get?_push_of_some _ e
 refine ⟨(s.heap.push {cls:=.type "range",data:=.fields #[.int lo t,.int hi u,.int 1 v]}).objs.size,[(s.heap.push {cls:=.type "range",data:=.fields #[.int lo t,.int hi u,.int 1 v]}).objs.size],_,_,H,rfl,
  I1.kept (t':=tk) fun b o e=>Heap.get?_push_of_some _ e,QZ _ lo (hi-lo).toNat,?_,fun b hb=>?_,q⟩
 ·have e1:lo+((0:Nat):Int)*1=lo:=by simp
  have e2:(((hi-lo).toNat:Nat):Int)-((0:Nat):Int)=Builtin.Range.rangeSize lo hi 1:=by rw [rangeSize_one];split <;> lia
  show IsRangeIter _ _ (lo+((0:Nat):Int)*1) ((((hi-lo).toNat:Nat):Int)-((0:Nat):Int)) 1;rw [e1,e2];exact Heap.get?_push_size _ rfl
 ·have e:b=(s.heap.push {cls:=.type "range",data:=.fields #[.int lo t,.int hi u,.int 1 v]}).objs.size:=by simpa using hb
  subst e;exact I1.aFg (Nat.le_refl _) (I1.hok.fresh (Nat.le_refl _))
noncomputable def aHz (ta:TA):TI:=fun σ H R=>ta σ H fun vs H1=>∃j:Int,vs=[.int j]/\-(2 ^ 62)<=j/\j<2 ^ 62/\R (Itr 0 j.toNat) H1
theorem T7 {a:Expr} {ta:TA} {p pos:Pos} (hg:Gl X "range") (hm:X.mg "range" = none) (ha:PA X [a] ta) (hs:starEach [a] X.env=[(false,eval a X.env)]:=by rfl):PI X tg (.Call (.Name "range" p) [a] [] pos) (aHz ta):=by
 intro pins s σ H R I h;refine Call_ (M8 I hg hm boot_range (PyProof.Rows.callWith_type1 (thn (ha pos pins s σ H _ I h) fun us s1 ⟨vs,H1,I1,r1,q1⟩=>?_) hs rfl));obtain ⟨j,e,q1,q2,q⟩:=q1;subst e;cases r1 with
 | cons r rr=>
  cases rr;obtain ⟨t,rfl⟩:=r;exact call_range_1 (ZQ I1 (by lia) (by lia) q1 q2 (by simpa using q))
noncomputable def aJl (wi:TI) (g:TG) (tb:TS):TS:=fun D σ H=>wi σ H fun J H1=>∃W:Nat->Nat->St->Hp->Prop,(∃m,W 0 m σ H1)/\∀i m σ H,W i m σ H->
 (J.stop i H/\D.nx σ H)\/(J.go i H/\∃N:St->Hp->Prop,(∀σ' H',N σ' H'->∃m',m'<m/\W (i+1) m' σ' H')/\∀x H',J.yld i H x H'->g x σ H' fun σ2 H2=>tb {D with nx:=N,ct:=N,bk:=D.nx} σ2 H2)
noncomputable def uA (fp:List Addr) (h:Heap):List (Addr×Obj):=fp.filterMap fun b=>(h.get? b).map fun o=>(b,o)
theorem oW {fp:List Addr} {h:Heap} {b:Addr} {o:Obj} (hb:b∈fp) (e:h.get? b=some o):(b,o)∈uA fp h:=List.mem_filterMap.mpr ⟨b,hb,by rw [e];rfl⟩
theorem T8 {fp:List Addr} {h:Heap} {p:Addr×Obj} (hp:p∈uA fp h):p.1∈fp/\h.get? p.1=some p.2:=by
 obtain ⟨b,hb,e⟩:=List.mem_filterMap.mp hp;cases q:h.get? b with
 | none=>rw [q] at e;cases e
 | some o=>
  rw [q] at e;have e':(b,o)=p:=Option.some.inj e;subst e';exact ⟨hb,q⟩
theorem Inv.pinned {pins:List (Addr×Obj)} {σ:St} {H:Hp} {s:Shared} {fp:List Addr} (I:Inv X pins σ H s) (hf:∀b∈fp,T4 X pins H b) (ho:∀b∈fp,∃o,s.heap.get? b=some o/\∀v,o.data≠.cell v):Inv X (pins++uA fp s.heap) σ H s:=
 I.JD fun p hp=>(List.mem_append.mp hp).elim (fun z=>I.pin p (List.mem_append_right _ z)) fun z=>by
  obtain ⟨hb,e⟩:=T8 z;obtain ⟨f0,f1,f2,_⟩:=hf p.1 hb;obtain ⟨o,e',d⟩:=ho p.1 hb;rw [e] at e';cases e';exact ⟨e,f0,f1,f2,d⟩
theorem Inv.qC {pins pl:List (Addr×Obj)} {σ:St} {H:Hp} {s:Shared} (I:Inv X (pins++pl) σ H s):Inv X pins σ H s:=I.JD fun p hp=>I.pin p (List.mem_append_right _ (List.mem_append_left _ hp))
theorem T9 {iter:Expr} {body:List Stmt} {wi:TI} {g:TG} {tb:TS} {pos:Pos} (hp:PassesOwn (model X.prog X.w) X.A X.env X.xe) (hc:X.calm=true) (hi:PI X tg iter wi) (hg:PG X tg g) (hb:PSs X body tb)
  (hs:∀x,foldedSetIterable iter X.env x=pure x:=by intro _;rfl):PS X (.For tg iter body [] pos) (aJl wi g tb):=by
 intro pins s σ H D I h;refine wpAny_For (thn (hi pins s σ H _ I h) fun v s1 h1=>thn h1 fun itv s2 h2=>?_) hs;obtain ⟨it,fp,tn,J,H2,e,I2,T,st2,f2,W,⟨m0,w0⟩,turn⟩:=h2;subst e
 -- what stays true of the iterator's objects through the loop
 have stat:∀{H':Hp},(∀b∈fp,H' b=none)->∀b∈fp,T4 X pins H' b:=fun hn b hb=>⟨hn b hb,(f2 b hb).2⟩
 refine codeAny_forLoop_any (fun n s'=>∃i σ' H',Inv X pins σ' H' s'/\tn i s'.heap/\(∀b∈fp,H' b=none)/\W i n σ' H') ?_ m0 ⟨0,σ,H2,I2,st2,fun b hb=>(f2 b hb).1,w0⟩;rintro n s3 ⟨i,σ3,H3,I3,st3,fr3,w3⟩;rcases turn i n σ3 H3 w3 with ⟨stop,qn⟩|⟨go,N,hN,step⟩
 ·refine wpAny_passesOwn hp (thn (T.done X rfl rfl rfl hc i pins s3 σ3 H3 X.xe I3 (stat fr3) st3 stop) fun r s4 ⟨hr,I4⟩=>?_);subst hr;exact wpAny_execs_nil ⟨σ3,H3,I4,qn⟩
 ·refine wpAny_passesOwn hp (thn (T.item X rfl rfl rfl hc i pins s3 σ3 H3 X.xe I3 (stat fr3) st3 go) fun r s4 ⟨u,hr,h4⟩=>?_);subst hr;refine wpAny_passesOwn hp (thn h4 fun _ s5 ⟨x,H5,I5,r5,y5,st5,fr5⟩=>?_);have I5':=I5.pinned (stat fr5) (T.obj _ _ st5);refine wpAny_passesOwn hp (thn (hg _ s5 σ3 H5 x u _ I5' r5 (step x H5 y5)) fun _ s6 ⟨σ6,H6,I6,q6⟩=>?_);refine wpAny_passesOwn hp (thn (hb _ s6 σ6 H6 _ I6 q6) fun f s7 q7=>?_);have again:∀{σ7:St} {H7:Hp},Inv X (pins++uA fp s5.heap) σ7 H7 s7->N σ7 H7->∃m,m<n/\∃i σ' H',Inv X pins σ' H' s7/\tn i s7.heap/\(∀b∈fp,H' b=none)/\W i m σ' H':=fun {σ7 H7} I7 n7=>by
   obtain ⟨m',hm,w7⟩:=hN σ7 H7 n7;refine ⟨m',hm,i+1,σ7,H7,I7.qC,T.keep _ _ _ st5 fun b hb o e=>(I7.pin (b,o) (List.mem_append_right _ (List.mem_append_right _ (oW hb e)))).1,fun b hb=>?_,w7⟩;obtain ⟨o,e,d⟩:=T.obj _ _ st5 b hb;exact (I7.pin (b,o) (List.mem_append_right _ (List.mem_append_right _ (oW hb e)))).2.1
  cases f with
  | next=>obtain ⟨σ7,H7,I7,n7⟩:=q7;exact again I7 n7
  | cont=>obtain ⟨σ7,H7,I7,n7⟩:=q7;exact again I7 n7
  | brk=>obtain ⟨σ7,H7,I7,q7⟩:=q7;exact ⟨σ7,H7,I7.qC,q7⟩
  | ret v=>obtain ⟨x7,σ7,H7,I7,r7,q7⟩:=q7;exact ⟨x7,σ7,H7,I7.qC,r7,q7⟩
end
end L2
namespace L2
open PySem PySem.Spec PyProof.Rows
abbrev R2:=V->V->Hp->VK->Prop
noncomputable def OpR (X:Cx) (f:Value->Value->Sem Value) (r:R2):Prop:=
 ∀(pins:List (Addr×Obj)) (s:Shared) (σ:St) (H:Hp) (x y:V) (v u:Value) (Q:VK),Inv X pins σ H s->RelV x v->RelV y u->r x y H Q->
  wpAny (model X.prog X.w) X.A (f v u) (EP X pins σ Q) X.xe s
noncomputable def UnR (X:Cx) (f:Value->Sem Value) (r:V->Hp->VK->Prop):Prop:=
 ∀(pins:List (Addr×Obj)) (s:Shared) (σ:St) (H:Hp) (x:V) (v:Value) (Q:VK),Inv X pins σ H s->RelV x v->r x H Q->
  wpAny (model X.prog X.w) X.A (f v) (EP X pins σ Q) X.xe s
noncomputable def lG (X:Cx) (f:Value) (r:List V->Hp->VK->Prop):Prop:=
 ∀(pins:List (Addr×Obj)) (s:Shared) (σ:St) (H:Hp) (xs:List V) (us:List Value) (Q:VK),Inv X pins σ H s->Vals xs us->r xs H Q->
  wpAny (model X.prog X.w) X.A (call f us) (EP X pins σ Q) X.xe s
noncomputable def aJm (X:Cx) (r:V->Hp->(Bool->Hp->Prop)->Prop):Prop:=
 ∀(pins:List (Addr×Obj)) (s:Shared) (σ:St) (H:Hp) (x:V) (v:Value) (Q:Bool->Hp->Prop),Inv X pins σ H s->RelV x v->r x H Q->
  wpAny (model X.prog X.w) X.A (truthy v) (TP X pins σ Q) X.xe s
noncomputable def tOp (r:R2) (ta tb:TE):TE:=fun σ H Q=>ta σ H fun x H1=>tb σ H1 fun y H2=>r x y H2 Q
def tUn (r:V->Hp->VK->Prop) (ta:TE):TE:=fun σ H Q=>ta σ H fun x H1=>r x H1 Q
noncomputable def rI (C:Int->Int->Prop) (g:Int->Int->V):R2:=fun x y H Q=>∃i j,x=.int i/\y=.int j/\C i j/\Q (g i j) H
noncomputable def rI0 (g:Int->Int->V):R2:=fun x y H Q=>∃i j,x=.int i/\y=.int j/\Q (g i j) H
def rU (g:Int->V):V->Hp->VK->Prop:=fun x H Q=>∃i,x=.int i/\Q (g i) H
section
variable {X:Cx} {a b c:Expr} {ta tb tc:TE} {pos:Pos}
theorem aI0 (ha:PE X a ta) (hb:PE X b tb) {pins:List (Addr×Obj)} {s:Shared} {σ:St} {H:Hp} {R:V->V->Hp->Prop} (I:Inv X pins σ H s)
  (h:ta σ H fun x H1=>tb σ H1 fun y H2=>R x y H2) {Q:Value->Shared->Prop} {f:Value->Value->Sem Value}
  (hf:∀v u s2 x y H2,Inv X pins σ H2 s2->RelV x v->RelV y u->R x y H2->wpAny (model X.prog X.w) X.A (f v u) Q X.xe s2) :
  wpAny (model X.prog X.w) X.A (eval a X.env) (fun v s₁=>wpAny (model X.prog X.w) X.A (eval b X.env) (fun u s₂=>wpAny (model X.prog X.w) X.A (f v u) Q X.xe s₂) X.xe s₁) X.xe s:=by
 refine thn (ha pins s σ H _ I h) fun v s1 ⟨x,H1,I1,r1,q1⟩=>?_
 refine thn (hb pins s1 σ H1 _ I1 q1) fun u s2 ⟨y,H2,I2,r2,q2⟩=>?_
 exact hf v u s2 x y H2 I2 r1 r2 q2
theorem aI1 {op:Operator} {r:R2} (ho:OpR X (binaryOp op) r) (ha:PE X a ta) (hb:PE X b tb):PE X (.BinOp a op b pos) (tOp r ta tb):=by
 intro pins s σ H Q I h;exact wpAny_BinOp (aI0 ha hb I h fun v u s2 x y H2 I2 rx ry q=>ho pins s2 σ H2 x y v u Q I2 rx ry q)
theorem aI2 {op:UnaryOp} {r:V->Hp->VK->Prop} (ho:UnR X (unaryOp op) r) (ha:PE X a ta):PE X (.UnaryOp op a pos) (tUn r ta):=by
 intro pins s σ H Q I h;exact UnaryOp_ (thn (ha pins s σ H _ I h) fun v s1 ⟨x,H1,I1,r1,q1⟩=>ho pins s1 σ H1 x v Q I1 r1 q1)
theorem opI {f:Value->Value->Sem Value} {C:Int->Int->Prop} {g:Int->Int->Int}
  (rule:∀(i j:Int) (t u:Tok) (s:Shared) (Q:Value->Shared->Prop) (E:Value->Shared->Prop),C i j->Q (.int (g i j) s.toks) {s with toks:=s.toks+1}->wpAny (model X.prog X.w) X.A (f (.int i t) (.int j u)) Q E s) :
  OpR X f (rI C fun i j=>.int (g i j)):=by
 intro pins s σ H x y v u Q I rx ry h;obtain ⟨i,j,rfl,rfl,hc,q⟩:=h;obtain ⟨t,rfl⟩:=rx;obtain ⟨t',rfl⟩:=ry;exact rule i j t t' s _ _ hc ⟨.int (g i j),H,I.tok _,⟨_,rfl⟩,q⟩
theorem aJ7 {f:Value->Value->Sem Value} {g:Int->Int->Int}
  (rule:∀(i j:Int) (t u:Tok) (s:Shared) (Q:Value->Shared->Prop) (E:Value->Shared->Prop),Q (.int (g i j) s.toks) {s with toks:=s.toks+1}->wpAny (model X.prog X.w) X.A (f (.int i t) (.int j u)) Q E s) :
  OpR X f (rI0 fun i j=>.int (g i j)):=by
 intro pins s σ H x y v u Q I rx ry h;obtain ⟨i,j,rfl,rfl,q⟩:=h;obtain ⟨t,rfl⟩:=rx;obtain ⟨t',rfl⟩:=ry;exact rule i j t t' s _ _ ⟨.int (g i j),H,I.tok _,⟨_,rfl⟩,q⟩
def aJn (i j:Int):Prop:=0<j/\j<1073741824
def aJo (i j:Int):Prop:=0<=j/\j<=1000000/\i.natAbs<2 ^ 64
def aI3 (i j:Int):Prop:=(-(2 ^ 64)<i/\i<2 ^ 64)\/(-(2 ^ 64)<j/\j<2 ^ 64)
theorem aI3.ok {i j:Int} (h:aI3 i j):IntMulOk i j:=by
 rcases h with ⟨h1,h2⟩|⟨h1,h2⟩
 ·exact .of_left (intBits_le_64 h1 h2)
 ·exact .of_right (intBits_le_64 h1 h2)
theorem aFh:OpR X (binaryOp .Add) (rI0 fun i j=>.int (i+j)):=aJ7 fun _ _ _ _ _ _ _ q=>add_int q
theorem aFi:OpR X (binaryOp .Sub) (rI0 fun i j=>.int (i-j)):=aJ7 fun _ _ _ _ _ _ _ q=>sub_int q
theorem aFj:OpR X (binaryOp .Mult) (rI aI3 fun i j=>.int (i*j)):=opI fun _ _ _ _ _ _ _ hc q=>mul_int q hc.ok
theorem aCw:OpR X (binaryOp .FloorDiv) (rI aJn fun i j=>.int (i / j)):=opI fun i j _ _ _ _ _ hc q=>by
 have h1:(0:Int)<j:=hc.1;have h2:j<1073741824:=hc.2;exact floordiv_int (by lia) (by rw [Int.fdiv_eq_ediv_of_nonneg i (by lia)];exact q) (.inl (PyProof.noPylong_small (by lia)))
theorem aFk:OpR X (binaryOp .Mod) (rI (fun _ j=>0<j) fun i j=>.int (i % j)):=opI fun i j _ _ _ _ _ hc q=>by
 have h1:(0:Int)<j:=hc;exact mod_int' (by lia) (by rw [Int.fmod_eq_emod_of_nonneg i (by lia)];exact q)
theorem aFl:OpR X (binaryOp .Pow) (rI aJo fun i j=>.int (i ^ j.toNat)):=opI fun _ _ _ _ _ _ _ hc q=>pow_int_small hc.1 hc.2.1 hc.2.2 q
theorem unI {f:Value->Sem Value} {g:Int->Int}
  (rule:∀(i:Int) (t:Tok) (s:Shared) (Q:Value->Shared->Prop) (E:Value->Shared->Prop),Q (.int (g i) s.toks) {s with toks:=s.toks+1}->wpAny (model X.prog X.w) X.A (f (.int i t)) Q E s) :
  UnR X f (rU fun i=>.int (g i)):=by
 intro pins s σ H x v Q I rx h;obtain ⟨i,rfl,q⟩:=h;obtain ⟨t,rfl⟩:=rx;exact rule i t s _ _ ⟨.int (g i),H,I.tok _,⟨_,rfl⟩,q⟩
theorem aFm:UnR X (unaryOp .USub) (rU fun i=>.int (-i)):=unI fun _ _ _ _ _ q=>neg_int q
end
section
variable {X:Cx} {a b c:Expr} {ta tb tc:TE} {pos:Pos}
theorem cQ (b:Expr) {op:CmpOp} (h:op≠.In:=by decide) (h2:op≠.NotIn:=by decide):behindInMarks op b=false:=by
 have e1:(op==CmpOp.In)=false:=by cases op <;> first|rfl|exact absurd rfl h
 have e2:(op==CmpOp.NotIn)=false:=by cases op <;> first|rfl|exact absurd rfl h2
 cases b <;> simp [behindInMarks,e1,e2]
theorem aCx {op:CmpOp} {r:R2} (ho:OpR X (compareOp op) r) (ha:PE X a ta) (hb:PE X b tb) (hm:behindInMarks op b=false):PE X (.Compare a [op] [b] pos) (tOp r ta tb):=by
 intro pins s σ H Q I h;exact wpAny_Compare1 (aI0 ha hb I h fun v u s2 x y H2 I2 rx ry q=>ho pins s2 σ H2 x y v u Q I2 rx ry q) hm
def aFn (t:TE):TT:=fun σ H Q=>t σ H fun x H'=>∃k,x=.bl k/\Q k H'
theorem aCy {op:CmpOp} {r:R2} (ho:OpR X (compareOp op) r) (ha:PE X a ta) (hb:PE X b tb) (hm:behindInMarks op b=false):PT X (.Compare a [op] [b] pos) (aFn (tOp r ta tb)):=by
 intro pins s σ H Q I h;refine wpAny_isTrue_Compare1 (thn (ha pins s σ H _ I h) fun v s1 ⟨x,H1,I1,r1,q1⟩=>thn (hb pins s1 σ H1 _ I1 q1) fun u s2 ⟨y,H2,I2,r2,q2⟩=>
  thn (ho pins s2 σ H2 x y v u _ I2 r1 r2 q2) fun c s3 ⟨z,H3,I3,r3,k,e,q3⟩=>?_) hm
 subst e;cases r3;exact wpAny_truthy_bool ⟨H3,I3,q3⟩
noncomputable def T_ (r r':R2) (ta tb tc:TE):TE:=fun σ H Q=>ta σ H fun x H1=>tb σ H1 fun y H2=>r x y H2 fun z H3=>∃k,z=.bl k/\
 (if k=true then tc σ H3 fun w' H4=>r' y w' H4 Q else Q (.bl false) H3)
theorem ZR {op op':CmpOp} {r r':R2} (ho:OpR X (compareOp op) r) (ho':OpR X (compareOp op') r') (ha:PE X a ta) (hb:PE X b tb) (hc:PE X c tc)
  (hm:lastMarks [op,op'] [b,c]=false:=by with_unfolding_all rfl):PE X (.Compare a [op,op'] [b,c] pos) (T_ r r' ta tb tc):=by
 intro pins s σ H Q I h;refine Compare_chain (thn (ha pins s σ H _ I h) fun v s1 ⟨x,H1,I1,r1,q1⟩=>chain_link (thn (hb pins s1 σ H1 _ I1 q1) fun u s2 ⟨y,H2,I2,r2,q2⟩=>
  thn (ho pins s2 σ H2 x y v u _ I2 r1 r2 q2) fun d s3 ⟨z,H3,I3,r3,k,e,q3⟩=>?_)) hm
 subst e;cases r3;refine wpAny_truthy_bool ?_;cases k with
 | false=>exact ite_ff ⟨.bl false,H3,I3,rfl,q3⟩
 | true=>exact ite_tt (chain_last (thn (hc pins s3 σ H3 _ I3 q3) fun w' s4 ⟨z',H4,I4,r4,q4⟩=>ho' pins s4 σ H4 y z' u w' Q I4 r2 r4 q4))
theorem ZS {op op':CmpOp} {r r':R2} (ho:OpR X (compareOp op) r) (ho':OpR X (compareOp op') r') (ha:PE X a ta) (hb:PE X b tb) (hc:PE X c tc)
  (hm:lastMarks [op,op'] [b,c]=false:=by with_unfolding_all rfl):PT X (.Compare a [op,op'] [b,c] pos) (aFn (T_ r r' ta tb tc)):=by
 intro pins s σ H Q I h;refine isTrue_chain (thn (ha pins s σ H _ I h) fun v s1 ⟨x,H1,I1,r1,q1⟩=>test_link (thn (hb pins s1 σ H1 _ I1 q1) fun u s2 ⟨y,H2,I2,r2,q2⟩=>
  thn (ho pins s2 σ H2 x y v u _ I2 r1 r2 q2) fun d s3 ⟨z,H3,I3,r3,k,e,q3⟩=>?_)) hm
 subst e;cases r3;refine wpAny_truthy_bool ?_;cases k with
 | false=>
  obtain ⟨k',e',q'⟩:=q3;cases e';exact ite_ff ⟨H3,I3,q'⟩
 | true=>
  refine ite_tt (test_last (thn (hc pins s3 σ H3 _ I3 q3) fun w' s4 ⟨z',H4,I4,r4,q4⟩=>thn (ho' pins s4 σ H4 y z' u w' _ I4 r2 r4 q4) fun d' s5 ⟨z2,H5,I5,r5,k2,e2,q5⟩=>?_));subst e2;cases r5;exact wpAny_truthy_bool ⟨H5,I5,q5⟩
noncomputable def aI4 (K:PySem.W.Frag) (x:V) (H:Hp) (k:Bool):Prop:=
 match x with
 | .non=>k=false
 | .bl b=>k=b
 | .int i=>k=(i != 0)
 | .str y=>y.length<=sizeLine/\k=((y.length:Int) != 0)
 | .byt y=>y.size<=sizeLine/\k=((y.size:Int) != 0)
 | .ref p=>(∃xs,SqL K H p xs/\k=!xs.isEmpty)\/(∃xs,SqT K H p xs/\k=!xs.isEmpty)\/∃kvs,H p=some (.dK kvs)/\k=!kvs.isEmpty
 | _=>False
theorem Q0 {κ:Type} {kvs:List (κ×V)} {vs:List (κ×Value)} (r:KV kvs vs):(!vs.isEmpty)=!kvs.isEmpty:=by
 cases r <;> rfl
theorem wR {xs:List V} {its:List Value} (r:Vals xs its):(!its.toArray.isEmpty)=!xs.isEmpty:=by
 cases r <;> simp
theorem wU:(sizeLine:Nat)<2 ^ 63:=by rw [sizeLine_eq];decide
theorem aFo:aJm X (fun x H Q=>∃k,aI4 X.K x H k/\Q k H):=by
 intro pins s σ H x v Q I rx h;obtain ⟨k,e,q⟩:=h;have hl:=wU;have hs:sizeLine=16777216:=sizeLine_eq;cases x with
 | non=>
  cases rx;have e':k=false:=e;subst e';exact truthy_none ⟨H,I,q⟩
 | bl b=>
  cases rx;have e':k=b:=e;subst e';exact wpAny_truthy_bool ⟨H,I,q⟩
 | int i=>
  obtain ⟨t,rfl⟩:=rx;have e':k=(i != 0):=e;subst e';exact PySem.P.truthy_int ⟨H,I,q⟩
 | str y=>
  obtain ⟨t,rfl⟩:=rx;obtain ⟨hy,e'⟩:y.length<=sizeLine/\k=((y.length:Int) != 0):=e;subst e';exact PySem.P.truthy_str (by lia) ⟨H,I.tok _,q⟩
 | byt y=>
  obtain ⟨t,rfl⟩:=rx;obtain ⟨hy,e'⟩:y.size<=sizeLine/\k=((y.size:Int) != 0):=e;subst e';exact PySem.W.truthy_bytes (by lia) ⟨H,I.tok _,q⟩
 | ref p=>
  cases rx;have e':(∃xs,SqL X.K H p xs/\k=!xs.isEmpty)\/(∃xs,SqT X.K H p xs/\k=!xs.isEmpty)\/∃kvs,H p=some (.dK kvs)/\k=!kvs.isEmpty:=e;rcases e' with ⟨xs,hx,e'⟩|⟨xs,hx,e'⟩|⟨kvs,hx,e'⟩
  ·subst e';obtain ⟨its,r,pl,hz⟩:=I.list hx;have hlen:=r.length;exact wpAny_truthy_list pl.isList (by simp only [List.size_toArray];lia) ⟨H,I.tok _,by rw [wR r];exact q⟩
  ·subst e';obtain ⟨its,r,pl,hz⟩:=I.tuple hx;have hlen:=r.length;exact truthy_tuple pl (by simp only [List.size_toArray];lia) ⟨H,I.tok _,by rw [wR r];exact q⟩
  ·subst e';obtain ⟨hz,hS,vs,r,m⟩:kvs.length<=sizeLine/\(p==sysModules)=false/\∃vs,KV kvs vs/\s.heap.DictOf (cY X.prog X.w) p vs:=I.hok p _ hx;have hlen:kvs.length=vs.length:=Paired.length r;exact wpAny_truthy_dict hS m (by lia) ⟨H,I.tok _,by rw [Q0 r];exact q⟩
 | _=>exact (show False from e).elim
theorem ZV (ha:PE X a ta) (he:∀whole,isTrue a X.env whole=(do let v <- whole;standAt a.pos;holding [v] (truthy v))) :
  PT X a (fun σ H Q=>ta σ H fun x H'=>∃k,aI4 X.K x H' k/\Q k H'):=by
 intro pins s σ H Q I h;exact isTrue_plain (thn (ha pins s σ H _ I h) fun v s1 ⟨x,H1,I1,r1,q1⟩=>aFo pins s1 σ H1 x v Q I1 r1 q1) (he _)
theorem Q3:OpR X (binaryOp .Add) (fun x y H Q=>∃i j,x=.str i/\y=.str j/\i.length+j.length<=sizeLine/\Q (.str (i++j)) H):=by
 intro pins s σ H x y v u Q I rx ry h;obtain ⟨i,j,rfl,rfl,hz,q⟩:=h;obtain ⟨t,rfl⟩:=rx;obtain ⟨t',rfl⟩:=ry;exact add_str (fun t' tk=>⟨.str (i++j),H,I.tok _,⟨_,rfl⟩,q⟩) hz
theorem vals1 {x:V} {us:List Value} (r:Vals [x] us):∃u,us=[u]/\RelV x u:=by
 cases r with
 | cons r1 r2=>cases r2;exact ⟨_,rfl,r1⟩
end
end L2
namespace L2
open PySem PySem.Spec PyProof.Rows
section
variable {prog:Program} {w:World} {A:Around} {E:Value->Shared->Prop} {s:Shared} {K:PySem.W.Frag} {x dx C f:Addr} {mA:Str->Option Value} {name:Str} {v:Value}
end
theorem TQ.some_of {v:V} {o:Option Value} (r:TQ (some v) o):∃u,o=some u/\RelV v u:=by
 cases o with
 | none=>exact (show False from r).elim
 | some u=>exact ⟨u,rfl,r⟩
section
variable {P:Program} {w:World} {H H':Hp} {h h':Heap} {a C dx:Addr} {fs fs':List (Str×V)}
end
section
variable {X:Cx} {pins:List (Addr×Obj)} {σ:St} {H:Hp} {s:Shared} {a C dx:Addr} {fs:List (Str×V)} {f:Str} {v:V} {A:Around} {E:Value->Shared->Prop}
end
section
variable {X:Cx} {o e value:Expr} {f:Str} {pos pos' tpos:Pos} {ta tv:TE}
end
section
variable {X:Cx} {pins:List (Addr×Obj)} {σ:St} {H:Hp} {s:Shared} {A:Around} {E:Value->Shared->Prop} {Q:Value->Shared->Prop} {c:Value} {b:Bool}
end
end L2
namespace L2
open PySem PySem.Spec PyProof.Rows
structure rM (k:Nat) (A:Around):Prop where
 hd:A.handled=none
 dp:A.depth+3*k+5<recursionLimit
 un:A.units+16*k+200<cLine
theorem rM.mono {j k:Nat} {A:Around} (r:rM k A) (h:j<=k):rM j A:=⟨r.hd,by have:=r.dp;lia,by have:=r.un;lia⟩
theorem rM.deeper {k:Nat} {A:Around} (r:rM (k+1) A) (env:Env):rM k (A.deeper env):=
 ⟨r.hd,by have:=r.dp;show A.depth+1+3*k+5<_;lia,by have:=r.un;show A.units+3+16*k+200<_;lia⟩
theorem rM.depth {k:Nat} {A:Around} (r:rM k A):A.depth<recursionLimit:=by have:=r.dp;lia
theorem rM.units {k:Nat} {A:Around} (r:rM k A):A.units+64<cLine:=by have:=r.un;lia
def aJp:TA:=fun _ H Q=>Q [] H
noncomputable def aI5 (ta:TE) (tr:TA):TA:=fun σ H Q=>ta σ H fun x H1=>tr σ H1 fun xs H2=>Q (x::xs) H2
section
variable {X:Cx} {e:Expr} {es:List Expr} {te:TE} {t:TA} {pos:Pos}
theorem uB:PA X [] aJp:=fun _ _ _ _ H Q I h=>Calls.spliced_nil ⟨[],H,I,.nil,h⟩
theorem kY (ha:PE X e te) (hr:PA X es t) (hs:starEach (e::es) X.env=(false,eval e X.env)::starEach es X.env:=by rfl):PA X (e::es) (aI5 te t):=by
 intro pos pins s σ H Q I h;rw [hs];show wpAny _ _ (spliced ((false,eval e X.env)::backTo pos (starEach es X.env))) _ _ s;refine Calls.spliced_cons (thn (ha pins s σ H _ I h) fun u s1 ⟨x,H1,I1,r1,q1⟩=>?_);exact thn (hr pos pins s1 σ H1 _ I1 q1) fun us s2 ⟨xs,H2,I2,r2,q2⟩=>⟨x::xs,H2,I2,.cons r1 r2,q2⟩
noncomputable def aJq (t:TA):TE:=fun σ H Q=>t σ H fun xs H1=>xs.length<=sizeLine/\∀p,H1 p=none->Q (.ref p) (upd H1 p (.tup xs))
noncomputable def aJr (t:TA):TE:=fun σ H Q=>t σ H fun xs H1=>xs.length<=sizeLine/\∀p,H1 p=none->Q (.ref p) (upd H1 p (.lst xs))
theorem aFp {x1} (h:PA X es t):PE X (.Tuple es x1 pos) (aJq t):=by
 intro pins s σ H Q I hq;refine wpAny_Tuple_spliced (thn (h pos pins s σ H _ I hq) fun us s1 ⟨xs,H1,I1,r,z,q⟩=>⟨by rw [<-r.length];exact z,?_⟩);have hf:H1 s1.heap.objs.size=none:=I1.hok.fresh (Nat.le_refl _);refine ⟨.ref s1.heap.objs.size,upd H1 s1.heap.objs.size (.tup xs),I1.laid (t':=s1.toks) (fun b u e=>Heap.get?_push_of_some _ e) (Nat.le_refl _) ?_,rfl,q _ hf⟩;exact ⟨z,us,r,⟨_,Heap.get?_push_size _ rfl,rfl,_,rfl⟩⟩
theorem aBr (h:PA X es t):PE X (.List es pos) (aJr t):=by
 intro pins s σ H Q I hq;refine wpAny_List_spliced (thn (h pos pins s σ H _ I hq) fun us s1 ⟨xs,H1,I1,r,z,q⟩=>⟨by rw [<-r.length];exact z,?_⟩);have hf:H1 s1.heap.objs.size=none:=I1.hok.fresh (Nat.le_refl _);refine ⟨.ref s1.heap.objs.size,upd H1 s1.heap.objs.size (.lst xs),I1.laid (t':=s1.toks) (fun b u e=>Heap.get?_push_of_some _ e) (Nat.le_refl _) ?_,rfl,q _ hf⟩;exact ⟨z,us,0,r,Heap.get?_push_size _ rfl⟩
end
abbrev Sp:=List V->Hp->VK->XK->Prop
abbrev CXT:=List Env->Hp->Shared->XK->Value->Shared->Prop
structure aHj (P:Program) (w:World) (K:PySem.W.Frag) (mg:Str->Option Value) (base:Heap) (A:Around) (outer:List Env) (s:Shared) (H:Hp):Prop where
 frames:A.frames=some outer
 mod:Mod K mg base
 bs:∀b o,base.get? b=some o->s.heap.get? b=some o/\H b=none
 bsz:base.objs.size<=s.heap.objs.size
 S6:s.heap.FunFrames base outer
 frf:∀b∈frs outer,H b=none
 hok:HOk P w H s.heap
 bare:AllBare s.gens
noncomputable def CE (outer:List Env) (P:Program) (w:World) (H:Hp) (s:Shared) (Q:VK) (u:Value) (s':Shared):Prop:=
 ∃v H',s'.os=s.os/\AllBare s'.gens/\Un (frs outer) [] H H' s.heap s'.heap/\HOk P w H' s'.heap/\RelV v u/\Q v H'
noncomputable def CR (CX:CXT) (outer:List Env) (P:Program) (w:World) (H:Hp) (s:Shared) (Q:VK) (E:XK) (r:Result) (s':Shared):Prop:=
 match r with
 | .ok (.ret u)=>CE outer P w H s Q u s'
 | .ok _=>False
 | .error e=>CX outer H s E e s'
structure HY (P:Program) (w:World) (K:PySem.W.Frag) (mg:Str->Option Value) (base:Heap) (CX:CXT) (k:Nat) (f:Addr) (fd:FuncData) (ps:List Str) (sp:Sp):Prop where
 len:∀vs H Q E,sp vs H Q E->vs.length=ps.length
 run:∀(A:Around) (outer:List Env) (s:Shared) (H:Hp) (args:Args) (us:List Value) (vs:List V) (Q:VK) (E:XK),rM k A->aHj P w K mg base A outer s H->BindsTo s fd args (ps.zip us)->Vals vs us->sp vs H Q E->
  codeAny (model P w) A (.call (.ref f) args) (CR CX outer P w H s Q E) s
section
variable {X:Cx} {pins:List (Addr×Obj)} {σ:St} {H:Hp} {s s':Shared}
theorem Inv.env0 (I:Inv X pins σ H s):aHj X.prog X.w X.K X.mg X.base X.A X.stack s H:=
 ⟨I.ok.frames,I.ok.mod,I.bs,Nat.le_trans I.ok.bsz I.sz,I.stack,I.JC,I.hok,I.bare⟩
theorem Inv.after {Q:VK} {u:Value} (I:Inv X pins σ H s) (h:CE X.stack X.prog X.w H s Q u s'):EP X pins σ Q u s':=by
 obtain ⟨v,H',os,bare,un,hok,r,q⟩:=h;obtain ⟨hh,g,d,t,os'⟩:=s';obtain rfl:os'=s.os:=os;exact ⟨v,H',I.call (h':=hh) (g':=g) (d':=d) (t':=t) (ch:=[]) un hok bare (fun b z=>absurd z (by simp)),r,q⟩
end
noncomputable def aI6 (sp:Sp) (dvs:List V) (E:XK) (t:TA):TE:=fun σ H Q=>t σ H fun vs H1=>sp (vs++dvs) H1 Q E
noncomputable def Binds (K:PySem.W.Frag) (fd:FuncData) (ps:List Str) (ds:List Value):Prop:=
 ∀(s:Shared) (us:List Value),K.In s.heap->(us++ds).length=ps.length->BindsTo s fd ⟨us,[]⟩ (ps.zip (us++ds))
theorem Binds.all {K:PySem.W.Frag} {fd:FuncData} {ps:List Str} (h:∀us:List Value,us.length=ps.length->bindArgs fd ⟨us,[]⟩=pure (ps.zip us)):Binds K fd ps []:=fun s us _ hl=>by
 rw [List.append_nil] at hl ⊢;exact .of_eq (h us hl)
noncomputable def M9 (CX:CXT) (X:Cx) (E:XK):Prop:=∀(pins:List (Addr×Obj)) (σ:St) (H:Hp) (s:Shared) (e:Value) (s':Shared),Inv X pins σ H s->CX X.stack H s E e s'->X.xe e s'
section
variable {X:Cx} {CX:CXT} {k:Nat} {f C:Addr} {fd:FuncData} {ps:List Str} {sp:Sp} {dvs:List V} {ds:List Value} {E:XK} {x m:Str} {p pos apos:Pos} {e o:Expr} {es:List Expr} {ta:TE} {t:TA}
theorem aFq {pins:List (Addr×Obj)} {σ:St} {H:Hp} {s:Shared} {Q:VK} {us:List Value} {vs:List V} (F:HY X.prog X.w X.K X.mg X.base CX k f fd ps sp) (hr:rM k X.A) (hb:Binds X.K fd ps ds) (hd:Vals dvs ds) (hx:M9 CX X E)
  (I:Inv X pins σ H s) (r:Vals vs us) (h:sp (vs++dvs) H Q E):wpAny (model X.prog X.w) X.A (call (.ref f) us) (EP X pins σ Q) X.xe s:=by
 have r2:Vals (vs++dvs) (us++ds):=r.append hd;have hl:(us++ds).length=ps.length:=by rw [<-r2.length];exact F.len _ _ _ _ h
 refine wpAny_call (codeAny_mono (F.run X.A X.stack s H ⟨us,[]⟩ (us++ds) (vs++dvs) Q E hr I.env0 (hb s us I.kIn hl) r2 h) fun r s' hq=>?_);cases r with
 | error e=>exact hx pins σ H s e s' I hq
 | ok fl=>
  cases fl with
  | ret u=>exact I.after hq
  | next=>exact False.elim hq
  | brk=>exact False.elim hq
  | cont=>exact False.elim hq
theorem JF (F:HY X.prog X.w X.K X.mg X.base CX k f fd ps sp) (hr:rM k X.A) (hg:Gl X x) (hm:X.mg x=some (.ref f)) (hk:PySem.W.keepIn X.K (.ref f)=true) (hb:Binds X.K fd ps ds) (hd:Vals dvs ds) (hx:M9 CX X E)
  (ha:PA X (e::es) t) (hdb:nDb x:=by decide) (he:starEach (e::es) X.env=(false,eval e X.env)::starEach es X.env:=by rfl) (hpl:(backTo pos (starEach es X.env)).any (·.1)=false:=by rfl) :
  PE X (.Call (.Name x p) (e::es) [] pos) (aI6 sp dvs E t):=by
 intro pins s σ H Q I h;refine wpAny_Call_Name_kw (x_ I hg hm ?_ hdb);refine PySem.W.callWith_K (h₀:=X.base) I.ok.mod.kin hk (thn (ha pos pins s σ H _ I h) fun us s1 ⟨vs,H1,I1,r,q⟩=>⟨I1.kIn,?_⟩) he hpl;exact aFq F hr hb hd hx I1 r q
end
section
variable {X:Cx} {CX:CXT} {k:Nat} {f C:Addr} {fd:FuncData} {ps ks:List Str} {sp:Sp} {E:XK} {x m:Str} {p pos apos kpos:Pos} {e o:Expr} {es:List Expr} {kws:List Keyword} {te ta:TE} {t tk:TA} {nm:Option Str}
variable {g:List Value->List Value->List Value} {gV:List V->List V->List V}
end
structure cN (N P:List Str) (sc:Scope):Prop where
 kind:sc.kind=.function
 co:sc.isCoroutine=false
 gen:sc.isGenerator=false
 nd:N.Nodup
 pre:N.take P.length=P
 par:∀x∈P,sc.names.lookup x=some .local\/sc.names.lookup x=some .cell
 nofree:∀y∈sc.names,y.2≠.free
theorem BV {kindOf:Str->Option NameKind} {x:Str}:∀{binds:List (Str×Value)} {m:Str->Option Value},(∀v,(x,v)∉binds)->bindL kindOf binds m x=m x
 | [],_,_=>rfl
 | (n,v)::r,m,h=>by
  unfold bindL;rw [BV fun w hw=>h w (List.mem_cons_of_mem _ hw)];split
  ·have:x≠n:=by rintro rfl;exact h v List.mem_cons_self
   simp [this]
  ·rfl
theorem BW {kindOf:Str->Option NameKind} {x:Str}:∀{binds:List (Str×Value)} {m:Str->Option Value},(∀v,(x,v)∉binds)->bindC kindOf binds m x=m x
 | [],_,_=>rfl
 | (n,v)::r,m,h=>by
  unfold bindC;rw [BW fun w hw=>h w (List.mem_cons_of_mem _ hw)];split
  ·rfl
  ·have:x≠n:=by rintro rfl;exact h v List.mem_cons_self
   simp [this]
theorem BX {kindOf:Str->Option NameKind} {x:Str} {v:Value}:∀{P:List Str} {vs:List Value} {i:Nat} {m:Str->Option Value},P.Nodup->P[i]?=some x->vs[i]?=some v->kindOf x=some .local->
  bindL kindOf (P.zip vs) m x=some v
 | [],_,_,_,_,h,_,_=>by simp at h
 | _::_,[],_,_,_,_,h,_=>by simp at h
 | p::P,w::vs,0,m,nd,h1,h2,hk=>by
  simp at h1 h2;subst h1;subst h2;show bindL kindOf ((p,w)::P.zip vs) m p=_;unfold bindL;rw [BV fun v hv=>(List.nodup_cons.mp nd).1 (List.of_mem_zip hv).1,if_pos hk];simp
 | p::P,w::vs,i+1,m,nd,h1,h2,hk=>by
  show bindL kindOf ((p,w)::P.zip vs) m x=_;unfold bindL;exact BX (i:=i) (List.nodup_cons.mp nd).2 (by simpa using h1) (by simpa using h2) hk
theorem BZ {kindOf:Str->Option NameKind} {x:Str} {v:Value}:∀{P:List Str} {vs:List Value} {i:Nat} {m:Str->Option Value},P.Nodup->P[i]?=some x->vs[i]?=some v->kindOf x≠some .local->
  bindC kindOf (P.zip vs) m x=some v
 | [],_,_,_,_,h,_,_=>by simp at h
 | _::_,[],_,_,_,_,h,_=>by simp at h
 | p::P,w::vs,0,m,nd,h1,h2,hk=>by
  simp at h1 h2;subst h1;subst h2;show bindC kindOf ((p,w)::P.zip vs) m p=_;unfold bindC;rw [BW fun v hv=>(List.nodup_cons.mp nd).1 (List.of_mem_zip hv).1,if_neg hk];simp
 | p::P,w::vs,i+1,m,nd,h1,h2,hk=>by
  show bindC kindOf ((p,w)::P.zip vs) m x=_;unfold bindC;exact BZ (i:=i) (List.nodup_cons.mp nd).2 (by simpa using h1) (by simpa using h2) hk
noncomputable def start (N:List Str) (vs:List V):St:=vs.map some++List.replicate (N.length-vs.length) none
noncomputable def jW (CX:CXT) (P:Program) (w:World) (K:PySem.W.Frag) (mg:Str->Option Value) (base:Heap) (N:List Str) (qual:Str) (scope:Scope) (f:Addr) (cd:Value) (A:Around) (outer:List Env) (s:Shared) (H:Hp) (E:XK):Cx where
 prog:=P
 w:=w
 K:=K
 mg:=mg
 base:=base
 A:=A.deeper (envOfC qual scope s.heap.objs.size f cd)
 N:=N
 s₀:=s
 H₀:=H
 env:=envOfC qual scope s.heap.objs.size f cd
 outer:=outer
 stack:=envOfC qual scope s.heap.objs.size f cd::outer
 ex:=[]
 calm:=true
 fn:=fun _=>true
 pn:=[]
 xe:=fun e s'=>wpAny (model P w) (A.deeper (envOfC qual scope s.heap.objs.size f cd)) (leaving (envOfC qual scope s.heap.objs.size f cd) e) (fun _ s''=>CX outer H s E e s'') (fun e' s''=>CX outer H s E e' s'') s'
theorem M_ {sc:Scope} {n:Nat} {x:Str} (h:sc.names.lookup x=some .cell):∃c,(cellsFrom n sc.names []).lookup x=some c:=by
 have q:=PySem.W.cellsFrom_some sc.names n [] (.inl h);exact Option.isSome_iff_exists.mp q
theorem UG {CX:CXT} {P:Program} {w:World} {K:PySem.W.Frag} {mg:Str->Option Value} {base:Heap} {N ps:List Str} {qual:Str} {scope:Scope} {f:Addr} {cd:Value} {A:Around} {outer:List Env} {s s1:Shared} {H:Hp} {E:XK} {us:List Value} {vs:List V}
  (S:cN N ps scope) (hd:A.handled=none) (e0:aHj P w K mg base A outer s H) (hl:vs.length=ps.length) (r:Vals vs us)
  (x:InCallC s s.heap.objs.size (bindL (envOfC qual scope s.heap.objs.size f cd).kindOf (ps.zip us) fun _=>none) (cellsFrom (s.heap.objs.size+1) scope.names []) (bindC (envOfC qual scope s.heap.objs.size f cd).kindOf (ps.zip us) fun _=>none) s1) :
  Inv (jW CX P w K mg base N qual scope f cd A outer s H E) [] (start N vs) H s1:=by
 have hpl:ps.length<=N.length:=by have:=congrArg List.length S.pre;rw [List.length_take] at this;lia
 obtain ⟨h1,tk,rfl,hk⟩:=x.done;have noA:∀b:Addr,b∉(jW CX P w K mg base N qual scope f cd A outer s H E).ex:=fun b z=>absurd (show b∈([]:List Addr) from z) (by simp)
 refine ⟨⟨e0.mod,S.kind,rfl,rfl,Nat.le_refl _,fun y z c h1 h2=>?_,fun y hy=>?_,fun y c _ h=>?_,fun _=>hd,Around.frames_deeper e0.frames,.inr ⟨rfl,rfl⟩,fun b z=>absurd z (noA b),e0.bs,e0.bsz,fun b _ _=>noA b,fun b z=>absurd z (noA b),e0.S6,e0.frf⟩,
  rfl,e0.bare,Un.kept hk,⟨_,x.toInCall.ns,fun i y v h1 h2 h3=>?_⟩,fun y c h=>⟨_,x.cell y c h⟩,e0.hok.fresh (Nat.le_refl _),fun y c h=>?_,fun p hp=>absurd (show p∈([]:List (Addr×Obj)) from hp) (by simp),e0.hok.kept hk,?_⟩
 ·exact name_of_addr x.apart (PySem.mem_of_lookup h1) (PySem.mem_of_lookup h2)
 ·have hy:scope.names.lookup y=some .cell\/scope.names.lookup y=some .free:=hy;rcases hy with hy|hy
  ·exact M_ hy
  ·exact absurd rfl (S.nofree _ (PySem.mem_of_lookup hy))
 ·exact Nat.le_of_lt (x.above y c (PySem.mem_of_lookup h))
 ·have hi:i<vs.length:=by
   unfold start at h2;by_cases hi:i<vs.length
   ·exact hi
   ·rw [List.getElem?_append_right (by simpa using hi)] at h2;rw [List.getElem?_replicate] at h2;split at h2 <;> cases h2
  have ha:vs[i]?=some v:=by
   unfold start at h2;rw [List.getElem?_append_left (by simpa using hi),List.getElem?_map] at h2;cases e:vs[i]? with
   | none=>rw [e] at h2;cases h2
   | some a=>rw [e] at h2;cases h2;rfl
  obtain ⟨u,hu,rv⟩:=r.get ha;have hp:ps[i]?=some y:=by
   rw [<-S.pre,List.getElem?_take_of_lt (by lia)];exact h1
  have ndP:ps.Nodup:=by rw [<-S.pre];exact S.nd.sublist (List.take_sublist _ _)
  refine ⟨u,rv,?_⟩;rcases S.par y (List.mem_of_getElem? hp) with k|k
  ·exact .inl ⟨k,BX ndP hp hu k⟩
  ·obtain ⟨c,e⟩:=M_ (n:=s.heap.objs.size+1) k;refine .inr ⟨.inl k,c,e,?_⟩;have q:=x.cell y c e;rw [BZ ndP hp hu (by show scope.names.lookup y≠_;rw [k];decide)] at q;exact q
 ·exact e0.hok.fresh (Nat.le_of_lt (x.above y c (PySem.mem_of_lookup h)))
 ·unfold start;show _=N.length;rw [List.length_append,List.length_map,List.length_replicate];lia
theorem ZW {CX:CXT} {P:Program} {w:World} {K:PySem.W.Frag} {mg:Str->Option Value} {base:Heap} {k:Nat} {f:Addr} {name qual:Str} {params:Arguments} {body:List Stmt} {scope:Scope} {dV kV doc pm cdv ct oc:Value} {an od:Option Addr}
  {osl:Array (Option Value)} {N ps:List Str} {sp:Sp} (lk:K.lookup f=some ⟨oc,od,.func (PySem.W.fnOf name qual params body scope dV kV doc pm an cdv ct),osl⟩) (hcd:PySem.W.codeIn K cdv qual=true) (S:cN N ps scope)
  (len:∀vs H Q E,sp vs H Q E->vs.length=ps.length)
  (hbody:∀(A:Around) (outer:List Env) (s:Shared) (H:Hp) (vs:List V) (Q:VK) (E:XK),rM k (A.deeper (envOfC qual scope s.heap.objs.size f cdv))->sp vs H Q E->
   ∃t,PSs (jW CX P w K mg base N qual scope f cdv A outer s H E) body t/\t {nx:=fun _ H'=>Q .non H',rt:=Q} (start N vs) H) :
  HY P w K mg base CX (k+1) f (PySem.W.fnOf name qual params body scope dV kV doc pm an cdv ct) ps sp:=by
 refine ⟨len,fun A outer s H args us vs Q E hr e0 hb r hsp=>?_⟩;have hl:=len _ _ _ _ hsp;have KX:K.In s.heap:=e0.mod.kin.keeps fun b o e=>(e0.bs b o e).1
 have lim:s.heap.NoLimit:=e0.mod.nolimit.keeps fun b o e=>(e0.bs b o e).1
 have hkind:∀y∈ps.zip us,scope.names.lookup y.1=some .local\/(scope.names.lookup y.1=some .cell/\((cellsFrom (s.heap.objs.size+1) scope.names []).lookup y.1).isSome=true):=fun ⟨n,v⟩ hy=>by
  rcases S.par n (List.of_mem_zip hy).1 with q|q
  ·exact .inl q
  ·exact .inr ⟨q,PySem.W.cellsFrom_some _ _ _ (.inl q)⟩
 refine codeAny_call_function hr.depth (KX _ _ lk) rfl S.co S.gen rfl (PySem.W.codeRec_of KX hcd) (hb _ _ _ _ ?_);refine wpAny_newFunctionEnv_cells S.kind hkind fun env he s1 x=>?_
 subst he;refine ⟨lim.keeps x.toInCall.keep,codeAny_func ?_⟩;obtain ⟨t,ht,hq⟩:=hbody A outer s H vs Q E (hr.deeper _) hsp;have I:Inv (jW CX P w K mg base N qual scope f cdv A outer s H E) [] (start N vs) H s1:=UG S hr.hd e0 hl r x;refine wpAny_mono (ht [] s1 (start N vs) H _ I hq) (fun fl s' hs=>?_) fun e s' hs=>hs
 have fin:∀{σ':St} {H':Hp} {v:V} {u:Value},Inv (jW CX P w K mg base N qual scope f cdv A outer s H E) [] σ' H' s'->RelV v u->Q v H'->CE outer P w H s Q u s':=
  fun {σ' H' v u} J rv q=>⟨v,H',J.os,J.bare,J.base,J.hok,rv,q⟩
 cases fl with
 | ret u=>
  obtain ⟨v,σ',H',J,rv,q⟩:=hs;exact fin J rv q
 | next=>
  obtain ⟨σ',H',J,q⟩:=hs;exact fin (v:=V.non) (u:=Value.none) J rfl q
 | brk=>
  obtain ⟨_,_,_,q⟩:=hs;exact False.elim q
 | cont=>
  obtain ⟨_,_,_,q⟩:=hs;exact False.elim q
end L2
namespace L2
open PySem PySem.Spec PyProof.Rows
section
variable {X:Cx} {x:Str} {p pos:Pos} {e:Expr} {es:List Expr} {t:TA} {id T:String} {r:List V->Hp->VK->Prop}
noncomputable def tCB (r:List V->Hp->VK->Prop) (t:TA):TE:=fun σ H Q=>t σ H fun vs H1=>r vs H1 Q
theorem NB (hc:lG X (.builtin id) r) (hg:Gl X x) (hm:X.mg x=none) (hv:bootBuiltins x=some (.builtin id)) (ha:PA X (e::es) t) (hn:x ≠ "__name__":=by decide) (hdb:nDb x:=by decide)
  (he:starEach (e::es) X.env=(false,eval e X.env)::starEach es X.env:=by rfl) (hpl:(backTo pos (starEach es X.env)).any (·.1)=false:=by rfl):PE X (.Call (.Name x p) (e::es) [] pos) (tCB r t):=by
 intro pins s σ H Q I h;refine wpAny_Call_Name_kw (M8 I hg hm hv ?_ hn hdb);exact PyProof.Rows.callWith_builtin1 (thn (ha pos pins s σ H _ I h) fun us s1 ⟨vs,H1,I1,r1,q1⟩=>hc pins s1 σ H1 vs us Q I1 r1 q1) he hpl
theorem UJ (hc:lG X (.type T) r) (hg:Gl X x) (hm:X.mg x=none) (hv:bootBuiltins x=some (.type T)) (ha:PA X (e::es) t) (hn:x ≠ "__name__":=by decide) (hdb:nDb x:=by decide)
  (he:starEach (e::es) X.env=(false,eval e X.env)::starEach es X.env:=by rfl) (hpl:(backTo pos (starEach es X.env)).any (·.1)=false:=by rfl):PE X (.Call (.Name x p) (e::es) [] pos) (tCB r t):=by
 intro pins s σ H Q I h;refine wpAny_Call_Name_kw (M8 I hg hm hv ?_ hn hdb);exact PyProof.Rows.callWith_type1 (thn (ha pos pins s σ H _ I h) fun us s1 ⟨vs,H1,I1,r1,q1⟩=>hc pins s1 σ H1 vs us Q I1 r1 q1) he hpl
end
end L2
namespace HT
open PySem PyProof.Rows
section
open PySem.SeqAt
open PySem.AutoSeq1 (wpAny_loadPart')
open PySem.MeetsSeq PySem.MeetsSeq2 PySem.MeetsSeq3
end
section
variable {prog:Program} {w:World} {A:Around} {E:Value->Shared->Prop} {s:Shared}
theorem aCz {t b:Addr} {vs ws:List Value} {Q:Value->Shared->Prop} (ht:IsTup s.heap t vs.toArray) (hb:IsTup s.heap b ws.toArray) (hv:vs≠[])
  (h1:ws=[]->Q (.ref t) s) (h2:ws≠[]->Q (.ref s.heap.objs.size) {s with heap:=s.heap.push {cls:=.type "tuple",data:=.seq (vs++ws).toArray}})
  (hsz:vs.length+ws.length<=sizeLine):wpAny (model prog w) A (binaryOp .Add (.ref t) (.ref b)) Q E s:=by
 obtain ⟨⟨cls,dd,data,sl⟩,ho,hc,n,hd⟩:=id ht;obtain ⟨⟨cls2,dd2,data2,sl2⟩,ho2,hc2,n2,hd2⟩:=id hb;simp only at hc hd hc2 hd2;subst hc hd hc2 hd2;have e:vs.toArray++ws.toArray=(vs++ws).toArray:=by simp
 by_cases hw:ws=[]
 ·exact concat_meets ⟨_,ho,rfl⟩ ⟨_,ho2,rfl⟩ noFill_tuple_add seq_tuple_add PySem.F.slot_tuple_add PySem.F.entry_tuple_add (PySem.F.args_tuple_add_2 _ _)
   (tuple_addW1 t b vs.toArray ws.toArray n n2 dd dd2 sl sl2 (by simpa using hv) (by simp [hw])) ⟨ho,ho2,h1 hw⟩
 ·refine concat_meets ⟨_,ho,rfl⟩ ⟨_,ho2,rfl⟩ noFill_tuple_add seq_tuple_add PySem.F.slot_tuple_add PySem.F.entry_tuple_add (PySem.F.args_tuple_add_2 _ _)
   (tuple_addW2 t b vs.toArray ws.toArray n n2 dd dd2 sl sl2 (by simpa using hv) (by simpa using hw) (by rw [List.size_toArray,List.size_toArray];exact hsz)) ⟨ho,ho2,?_⟩
  rw [e];exact h2 hw
noncomputable def sIx (n d:Nat):Option Int->Nat
 | none=>d
 | some v=>if v<0 then (v+(n:Int)).toNat else min v.toNat n
theorem aFr (n d:Nat) (hd:d<=n) (o:Option Int):sIx n d o<=n:=by
 cases o with
 | none=>exact hd
 | some v=>
  show (if v<0 then (v+(n:Int)).toNat else min v.toNat n)<=n;by_cases hv:v<0
  ·rw [if_pos hv];lia
  ·rw [if_neg hv];exact Nat.min_le_right _ _
theorem UL (v:Int) (n d:Nat):(if v<0 then max (v+(n:Int)) 0 else min v (n:Int))=((sIx n d (some v):Nat):Int):=by
 show (if v<0 then max (v+(n:Int)) 0 else min v (n:Int))=(((if v<0 then (v+(n:Int)).toNat else min v.toNat n):Nat):Int);by_cases hv:v<0
 ·simp only [if_pos hv];lia
 ·simp only [if_neg hv];lia
theorem Q4 (lo hi:Option Int) (n:Nat):Builtin.Slice.sliceAdjust lo hi 1 (n:Int)=(((sIx n 0 lo:Nat):Int),((sIx n n hi:Nat):Int)):=by
 have h1:¬((1:Int)<0):=by lia
 unfold Builtin.Slice.sliceAdjust;simp only [h1,if_false];refine Prod.ext ?_ ?_
 ·cases lo with
  | none=>rfl
  | some v=>exact UL v n 0
 ·cases hi with
  | none=>rfl
  | some v=>exact UL v n n
theorem Q5 (i j:Nat):Builtin.Slice.slicePlaces (i:Int) (j:Int) 1=j-i:=by
 unfold Builtin.Slice.slicePlaces;have h1:(1:Int) > 0:=by lia
 simp only [h1,if_true,Int.ediv_one];split <;> lia
theorem wV {v:Value} {o:Option Int} {Q:Option Int->Shared->Prop} (p:IsPart v o) (h:Q o s):wpAny (model prog w) A (Builtin.Slice.slicePartIndex v) Q E s:=by
 cases p with
 | none=>exact slicePart_none h
 | int i t=>exact slicePart_int h
theorem nH {sl:Addr} {vl vu:Value} {lo hi:Option Int} {n:Nat} {Q:Int×Int×Nat->Shared->Prop} (hs:s.heap.IsSliceOf sl vl vu .none) (pl:IsPart vl lo) (pu:IsPart vu hi)
  (h:Q (((sIx n 0 lo:Nat):Int),1,sIx n n hi-sIx n 0 lo) s):wpAny (model prog w) A (Builtin.Slice.sliceApplied (.ref sl) (pure (n:Int))) Q E s:=by
 obtain ⟨os,hos,hcs,hds⟩:=id hs;unfold Builtin.Slice.sliceApplied Builtin.Slice.sliceFields;refine wpAny_bind (wpAny_bind (wpAny_field hos hds (x:=vl) rfl (wpAny_bind (wpAny_field hos hds (x:=vu) rfl (wpAny_bind (wpAny_field hos hds (x:=.none) rfl (wpAny_pure ?_)))))));refine wpAny_bind (slicePart_none ?_);show wpAny _ _ (if ((1:Int)==0)=true then _ else _) _ _ s;rw [if_neg (by decide)];refine wpAny_bind (wV pl (wpAny_bind (wV pu (wpAny_bind (wpAny_pure ?_)))));show wpAny _ _ (match Builtin.Slice.sliceAdjust lo hi 1 (n:Int) with|(lo,hi)=>pure (lo,(1:Int),Builtin.Slice.slicePlaces lo hi 1)) _ _ s;rw [Q4 lo hi n];show wpAny _ _ (pure (((sIx n 0 lo:Nat):Int),(1:Int),Builtin.Slice.slicePlaces ((sIx n 0 lo:Nat):Int) ((sIx n n hi:Nat):Int) 1)) _ _ s;rw [Q5];exact wpAny_pure h
theorem ZX (xs:Array Value) (i k:Nat):((List.range k).filterMap fun (m:Nat)=>xs[((i:Int)+(m:Int)*1).toNat]?).toArray=((xs.toList.drop i).take k).toArray:=by
 have e:(fun (m:Nat)=>xs[((i:Int)+(m:Int)*1).toNat]?)=fun m=>xs[i+m]?:=by
  funext m
  have:((i:Int)+(m:Int)*1).toNat=i+m:=by lia
  rw [this]
 rw [e];have:=pick_run xs i k;rw [List.filterMap_map] at this;have e2:((fun x=>xs[x]?) ∘ fun x=>i+x)=fun m=>xs[i+m]?:=rfl
 rw [e2] at this;rw [this]
theorem rO {t sl:Addr} {items:Array Value} {vl vu:Value} {lo hi:Option Int} {Q:Value->Shared->Prop} (ht:IsTup s.heap t items) (hs:s.heap.IsSliceOf sl vl vu .none) (pl:IsPart vl lo) (pu:IsPart vu hi)
  (hw:¬(sIx items.size 0 lo=0/\sIx items.size items.size hi=items.size))
  (h:Q (.ref s.heap.objs.size) {s with heap:=s.heap.push {cls:=.type "tuple",data:=.seq ((items.toList.drop (sIx items.size 0 lo)).take (sIx items.size items.size hi-sIx items.size 0 lo)).toArray}})
  (hsz:items.size<=sizeLine):wpAny (model prog w) A (getItem (.ref t) (.ref sl)) Q E s:=by
 have htake:sizeOk (.seq ((items.toList.drop (sIx items.size 0 lo)).take (sIx items.size items.size hi-sIx items.size 0 lo)).toArray):=by
  show ((items.toList.drop (sIx items.size 0 lo)).take (sIx items.size items.size hi-sIx items.size 0 lo)).toArray.size<=sizeLine;rw [List.size_toArray,List.length_take,List.length_drop,Array.length_toList];lia
 have hj:sIx items.size items.size hi<=items.size:=aFr _ _ (Nat.le_refl _) hi;obtain ⟨os,hos,hcs,hds⟩:=id hs;have hTs:s.TypeIs (.ref sl) "slice":=⟨os,hos,hcs⟩
 unfold getItem
 try with_reducible refine wpAny_holding ?_
 first|refine wpAny_bind (wpAny_pure ?_)|skip
 refine wpAny_bind (wpAny_sequenceKey ht.typeIs (by decide) ?_);refine wpAny_bind (wpAny_callSpecial?_slot (name:=Str.ofString "__getitem__") ht.typeIs PyProof.Rows.slot_tuple_getitem
  (wpAny_call_entry PyProof.Rows.slot_tuple_getitem ht.typeIs entry_tuple_getitem ?_ (args_tuple_getitem _ _)))
 show wpAny _ _ (Builtin.Tuple.tupleItemsOf (.ref t) >>= _) _ _ s;refine wpAny_bind (tupleItemsOf_ ht ?_);refine wpAny_bind (wpAny_typeOf hTs ?_);rw [if_pos (by decide)];refine wpAny_bind (nH hs pl pu ?_);have hno:¬((((sIx items.size 0 lo:Nat):Int)==0&&(1:Int)==1&&(sIx items.size items.size hi-sIx items.size 0 lo)==items.size)=true):=by
  intro q;rw [Bool.and_eq_true,Bool.and_eq_true] at q;have q1:((sIx items.size 0 lo:Nat):Int)=0:=eq_of_beq q.1.1;have q2:sIx items.size items.size hi-sIx items.size 0 lo=items.size:=eq_of_beq q.2;exact hw ⟨by lia,by lia⟩
 show wpAny _ _ (if (((sIx items.size 0 lo:Nat):Int)==0&&(1:Int)==1&&(sIx items.size items.size hi-sIx items.size 0 lo)==items.size)=true then _ else _) _ _ s;rw [if_neg hno,ZX]
 first
  | exact wpAny_bind (m:=Builtin.Tuple.tupleExact _) (wpAny_newObj_type (wpAny_pure ⟨_,rfl,wpAny_pure h⟩) htake)
  | exact wpAny_bind (m:=Builtin.Tuple.tupleExact _) (wpAny_newObj_type (wpAny_bind (wpAny_pure (wpAny_pure ⟨_,rfl,wpAny_pure h⟩))) htake)
  | exact wpAny_bind (wpAny_bind (m:=Builtin.Tuple.tupleExact _) (wpAny_newObj_type (wpAny_pure (wpAny_pure ⟨_,rfl,wpAny_pure h⟩)) htake))
  | exact wpAny_bind (wpAny_bind (m:=Builtin.Tuple.tupleExact _) (wpAny_newObj_type (wpAny_pure ⟨_,rfl,wpAny_pure h⟩) htake))
end
end HT
namespace L2
open PySem PySem.Spec PyProof.Rows
abbrev TO:=St->Hp->(Option Int->Hp->Prop)->Prop
noncomputable def PO (X:Cx) (e:Option Expr) (t:TO):Prop:=
 ∀(pins:List (Addr×Obj)) (s:Shared) (σ:St) (H:Hp) (Q:Option Int->Hp->Prop),Inv X pins σ H s->t σ H Q->
  wpAny (model X.prog X.w) X.A (evalPart e X.env) (fun u s'=>∃o H',Inv X pins σ H' s'/\IsPart u o/\Q o H') X.xe s
def aD0:TO:=fun _ H Q=>Q none H
def aI7 (t:TE):TO:=fun σ H Q=>t σ H fun x H1=>∃i,x=.int i/\Q (some i) H1
section
variable {X:Cx} {e:Expr} {te:TE} {lo hi:Option Expr} {tl th:TO} {pos p2:Pos}
theorem aD1:PO X none aD0:=by
 intro pins s σ H Q I h;rw [evalPart_none];exact wpAny_pure ⟨none,H,I,.none,h⟩
theorem aD2 (h:PE X e te):PO X (some e) (aI7 te):=by
 intro pins s σ H Q I hw;rw [evalPart_some];refine thn (h pins s σ H _ I hw) fun u s1 ⟨x,H1,I1,r1,q1⟩=>?_
 obtain ⟨i,rfl,q⟩:=q1;obtain ⟨t,rfl⟩:=r1;exact ⟨some i,H1,I1,.int i t,q⟩
noncomputable def SlR (X:Cx) (r:V->Option Int->Option Int->Hp->VK->Prop):Prop:=
 ∀(pins:List (Addr×Obj)) (s:Shared) (σ:St) (H:Hp) (x:V) (v vl vu:Value) (lo hi:Option Int) (sl:Addr) (Q:VK),Inv X pins σ H s->RelV x v->s.heap.IsSliceOf sl vl vu .none->IsPart vl lo->IsPart vu hi->r x lo hi H Q->
  ∃T id,typeLookup (.type T) "__getitem__" = pure (some (.builtin id))/\s.TypeIs v T/\wpAny (model X.prog X.w) X.A (getItem v (.ref sl)) (EP X pins σ Q) X.xe s
noncomputable def tSl (r:V->Option Int->Option Int->Hp->VK->Prop) (te:TE) (tl th:TO):TE:=fun σ H Q=>te σ H fun x H1=>tl σ H1 fun l H2=>th σ H2 fun u H3=>r x l u H3 Q
theorem ZZ {r:V->Option Int->Option Int->Hp->VK->Prop} (hr:SlR X r) (he:PE X e te) (hl:PO X lo tl) (hu:PO X hi th):PE X (.Subscript e (.Slice lo hi none p2) pos) (tSl r te tl th):=by
 intro pins s σ H Q I h;refine Subscript_ (thn (he pins s σ H _ I h) fun v s1 ⟨x,H1,I1,r1,q1⟩=>?_);refine wpAny_Slice (thn (hl pins s1 σ H1 _ I1 q1) fun vl s2 ⟨l,H2,I2,pl,q2⟩=>thn (hu pins s2 σ H2 _ I2 q2) fun vu s3 ⟨u,H3,I3,pu,q3⟩=>?_);rw [evalPart_none];refine wpAny_pure ?_;have I4:Inv X pins σ H3 {s3 with heap:=s3.heap.push {cls:=.type "slice",data:=.fields #[vl,vu,.none]}}:=I3.kept (t':=s3.toks) fun b ob q=>Heap.get?_push_of_some _ q
 obtain ⟨T,id,hT,ht,hg⟩:=hr pins {s3 with heap:=s3.heap.push {cls:=.type "slice",data:=.fields #[vl,vu,.none]}} σ H3 x v vl vu l u s3.heap.objs.size Q I4 r1 (Heap.IsSliceOf.new ..) pl pu q3;show wpAny (model X.prog X.w) X.A (subscriptTail e (.Slice lo hi none p2) v (.ref s3.heap.objs.size)) (EP X pins σ Q) X.xe {s3 with heap:=s3.heap.push {cls:=.type "slice",data:=.fields #[vl,vu,.none]}};exact tail_any (ops:=[.ref s3.heap.objs.size,v]) ht hT hg (by with_unfolding_all rfl)
noncomputable def UT (xs:List V) (lo hi:Option Int):List V:=(xs.drop (HT.sIx xs.length 0 lo)).take (HT.sIx xs.length xs.length hi-HT.sIx xs.length 0 lo)
theorem uC (xs:List V) (lo hi:Option Int):(UT xs lo hi).length<=xs.length:=by
 unfold UT;rw [List.length_take,List.length_drop];lia
noncomputable def aJs (K:PySem.W.Frag):V->Option Int->Option Int->Hp->VK->Prop:=fun x lo hi H Q=>∃a xs,x=.ref a/\SqT K H a xs/\
 ¬(HT.sIx xs.length 0 lo=0/\HT.sIx xs.length xs.length hi=xs.length)/\∀p,H p=none->Q (.ref p) (upd H p (.tup (UT xs lo hi)))
theorem aFs:SlR X (aJs X.K):=by
 intro pins s σ H x v vl vu lo hi sl Q I rx hs pl pu h;obtain ⟨a,xs,rfl,hx,hw,q⟩:=h;cases rx;obtain ⟨its,r,ht,hz⟩:=I.tuple hx;have hlen:its.toArray.size=xs.length:=by rw [List.size_toArray];exact r.length.symm
 refine ⟨"tuple",_,PyProof.Rows.slot_tuple_getitem.lookup,ht.typeIs,?_⟩;refine HT.rO ht hs pl pu (by rw [hlen];exact hw) ?_ (by rw [hlen];exact hz);rw [hlen];refine ⟨.ref s.heap.objs.size,_,I.laid (t':=s.toks) (o:=.tup (UT xs lo hi)) (fun b ob q=>Heap.get?_push_of_some _ q) (Nat.le_refl _) ?_,rfl,q _ (I.hok.fresh (Nat.le_refl _))⟩;exact ⟨Nat.le_trans (uC xs lo hi) hz,_,(r.drop (HT.sIx xs.length 0 lo)).take (HT.sIx xs.length xs.length hi-HT.sIx xs.length 0 lo),lD.new _ _⟩
noncomputable def aI8 (K:PySem.W.Frag):R2:=fun x y H Q=>∃a b xs ys,x=.ref a/\y=.ref b/\SqT K H a xs/\SqT K H b ys/\xs≠[]/\xs.length+ys.length<=sizeLine/\
 (ys=[]->Q (.ref a) H)/\(ys≠[]->∀p,H p=none->Q (.ref p) (upd H p (.tup (xs++ys))))
theorem Vals.uE {xs:List V} {us:List Value} (r:Vals xs us):us=[]↔xs=[]:=by
 cases r with
 | nil=>simp
 | cons _ _=>simp
theorem aD3:OpR X (binaryOp .Add) (aI8 X.K):=by
 intro pins s σ H x y v u Q I rx ry h;obtain ⟨a,b,xs,ys,rfl,rfl,ha,hb,hx,hz,q1,q2⟩:=h;cases rx;cases ry;obtain ⟨its,r1,p1,_⟩:=I.tuple ha;obtain ⟨its2,r2,p2,_⟩:=I.tuple hb;refine HT.aCz p1 p2 (fun z=>hx (r1.uE.mp z)) (fun z=>⟨.ref a,H,I,rfl,q1 (r2.uE.mp z)⟩) (fun z=>?_) (by rw [<-r1.length,<-r2.length];exact hz);refine ⟨.ref s.heap.objs.size,_,I.laid (t':=s.toks) (o:=.tup (xs++ys)) (fun b ob q=>Heap.get?_push_of_some _ q) (Nat.le_refl _) ?_,rfl,q2 (fun w=>z (r2.uE.mpr w)) _ (I.hok.fresh (Nat.le_refl _))⟩;exact ⟨by rw [List.length_append];exact hz,_,r1.append r2,lD.new _ _⟩
end
end L2
namespace L2
open PySem PySem.Spec PyProof.Rows
noncomputable def ixN (n:Nat) (i:Int):Option Nat:=if 0<=i then (if i<n then some i.toNat else none) else if -(n:Int)<=i then some (i+n).toNat else none
noncomputable def atI {α:Type} (xs:List α) (i:Int):Option α:=(ixN xs.length i).bind fun j=>xs[j]?
theorem aD4 {n:Nat} {i:Int} {j:Nat} (h:ixN n i=some j):seqIndex? i n=some j/\j<n/\-(n:Int)<=i/\i<n:=by
 unfold ixN at h;by_cases h0:0<=i
 ·rw [if_pos h0] at h;by_cases h1:i<n
  ·rw [if_pos h1] at h;have e:i.toNat=j:=Option.some.inj h;exact ⟨by rw [seqIndex_of h0 h1,e],by lia,by lia,h1⟩
  ·rw [if_neg h1] at h;cases h
 ·rw [if_neg h0] at h;by_cases h1:-(n:Int)<=i
  ·rw [if_pos h1] at h;have e:(i+n).toNat=j:=Option.some.inj h;exact ⟨by rw [seqIndex_neg (by lia) h1,e],by lia,h1,by lia⟩
  ·rw [if_neg h1] at h;cases h
theorem JG {α:Type} {xs:List α} {i:Int} {v:α} (h:atI xs i=some v):∃j,seqIndex? i xs.length=some j/\xs[j]?=some v/\j<xs.length/\-(xs.length:Int)<=i/\i<xs.length:=by
 unfold atI at h;cases e:ixN xs.length i with
 | none=>rw [e] at h;cases h
 | some j=>
  rw [e] at h;obtain ⟨h1,h2,h3,h4⟩:=aD4 e;exact ⟨j,h1,h,h2,h3,h4⟩
noncomputable def UV (b:Expr):Prop:=∀o i,subscripted b false o i=operate [o,i] (getItem o i)
noncomputable def IxR (X:Cx) (r:R2):Prop:=
 ∀(value slice:Expr) (pins:List (Addr×Obj)) (s:Shared) (σ:St) (H:Hp) (x y:V) (v u:Value) (Q:VK),Inv X pins σ H s->RelV x v->RelV y u->r x y H Q->
  subscripted slice false v u=operate [v,u] (getItem v u)->wpAny (model X.prog X.w) X.A (subscriptTail value slice v u) (EP X pins σ Q) X.xe s
noncomputable def MtR (X:Cx) (id:String) (r:V->List V->Hp->VK->Prop):Prop:=
 ∀(pins:List (Addr×Obj)) (s:Shared) (σ:St) (H:Hp) (x:V) (xs:List V) (v:Value) (us:List Value) (Q:VK),Inv X pins σ H s->RelV x v->Vals xs us->r x xs H Q->
  wpAny (model X.prog X.w) X.A (call (.builtin id) (v::us)) (EP X pins σ Q) X.xe s
section
variable {X:Cx} {a b:Expr} {ta tb:TE} {pos:Pos}
theorem aI9 {r:R2} (hr:IxR X r) (ha:PE X a ta) (hb:PE X b tb) (hs:UV b):PE X (.Subscript a b pos) (tOp r ta tb):=by
 intro pins s σ H Q I h;exact Subscript_ (aI0 ha hb I h fun v u s2 x y H2 I2 rx ry q=>hr a b pins s2 σ H2 x y v u Q I2 rx ry q (hs _ _))
noncomputable def aJt (K:PySem.W.Frag):R2:=fun x y H Q=>∃p xs i v,x=.ref p/\y=.int i/\SqL K H p xs/\atI xs i=some v/\Q v H
noncomputable def aJu (K:PySem.W.Frag):R2:=fun x y H Q=>∃p xs i v,x=.ref p/\y=.int i/\SqT K H p xs/\atI xs i=some v/\Q v H
noncomputable def aJv:R2:=fun x y H Q=>∃z i c,x=.str z/\y=.int i/\z.length<=sizeLine/\atI z.cps.toList i=some c/\Q (.str ⟨#[c]⟩) H
theorem JK:IxR X (aJt X.K):=by
 intro value slice pins s σ H x y v u Q I rx ry h hs;obtain ⟨p,xs,i,z,rfl,rfl,hq,he,q⟩:=h;cases rx;obtain ⟨t,rfl⟩:=ry;obtain ⟨its,r,pl,hz⟩:=I.list hq;obtain ⟨j,h1,h2,h3,h4,h5⟩:=JG he;obtain ⟨w,ew,rw'⟩:=r.get h2;have hl:=r.length;have hn:=wU;have fin:EP X pins σ Q w s:=⟨z,H,I,rw',q⟩
 by_cases h0:0<=i
 ·have hj:i.toNat=j:=by
   rw [seqIndex_of h0 h5] at h1;exact Option.some.inj h1
  exact item_listR pl.isList h0 (by lia) (by rw [hj];simpa using ew) fin hs
 ·have hj:(i+(its.toArray.size:Int)).toNat=j:=by
   rw [seqIndex_neg (by lia) h4] at h1;rw [List.size_toArray,<-hl];exact Option.some.inj h1
  exact subscriptTail_builtinR (x:=w) pl.isList.typeIs slot_list_getitem.lookup
   (wpAny_getItem_list_neg (Q:=fun r s'=>r=w/\EP X pins σ Q r s') pl.isList (by lia) (by rw [List.size_toArray] <;> lia) (by lia) (by rw [hj];simpa using ew) ⟨rfl,fin⟩) hs
theorem aFt:IxR X (aJu X.K):=by
 intro value slice pins s σ H x y v u Q I rx ry h hs;obtain ⟨p,xs,i,z,rfl,rfl,hq,he,q⟩:=h;cases rx;obtain ⟨t,rfl⟩:=ry;obtain ⟨its,r,pl,hz⟩:=I.tuple hq;obtain ⟨j,h1,h2,h3,h4,h5⟩:=JG he;obtain ⟨w,ew,rw'⟩:=r.get h2;have hl:=r.length;have hn:=wU;have fin:EP X pins σ Q w s:=⟨z,H,I,rw',q⟩
 exact subscriptTail_builtinR (x:=w) pl.typeIs slot_tuple_getitem.lookup
  (getItem_tuple (j:=j) (Q:=fun r s'=>r=w/\EP X pins σ Q r s') pl (by lia) (by lia) (by rw [List.size_toArray,<-hl];exact h1) (by simpa using ew) ⟨rfl,fin⟩) hs
theorem aFu:IxR X aJv:=by
 intro value slice pins s σ H x y v u Q I rx ry h hs;obtain ⟨z,i,c,rfl,rfl,hz,he,q⟩:=h;obtain ⟨t,rfl⟩:=rx;obtain ⟨t',rfl⟩:=ry;obtain ⟨j,h1,h2,h3,h4,h5⟩:=JG he;have hl:z.cps.toList.length=z.length:=by simp [Str.length]
 rw [hl] at h1 h4 h5;have hn:=wU;exact tail_any (typeIs_str s z t) slot_str_getitem.lookup (getItem_str (c:=c) (by
  have e1:decide (i < -(2 ^ 63:Int))=false:=decide_eq_false (by lia);have e2:decide (i >= 2 ^ 63)=false:=decide_eq_false (by lia);rw [e1,e2,Bool.or_false]) (by rw [h1];simpa using h2) ⟨.str ⟨#[c]⟩,H,I.tok _,⟨_,rfl⟩,q⟩) hs
theorem B_ (lo hi:Option Int) (n:Nat):(sliceBounds lo hi none n).1=((HT.sIx n 0 lo:Nat):Int)/\(sliceBounds lo hi none n).2.1=((HT.sIx n n hi:Nat):Int)/\(sliceBounds lo hi none n).2.2=1:=by
 refine ⟨?_,?_,rfl⟩
 ·cases lo with
  | none=>simp [sliceBounds,HT.sIx]
  | some i=>
   simp only [sliceBounds,HT.sIx,Option.getD_none,show (1:Int) > 0 by decide,if_true];by_cases h:i<0
   ·simp only [h,if_true] <;> lia
   ·simp only [h,if_false] <;> lia
 ·cases hi with
  | none=>simp [sliceBounds,HT.sIx]
  | some i=>
   simp only [sliceBounds,HT.sIx,Option.getD_none,show (1:Int) > 0 by decide,if_true];by_cases h:i<0
   ·simp only [h,if_true] <;> lia
   ·simp only [h,if_false] <;> lia
theorem yE (its:List Value) (lo hi:Option Int):slicePick its.toArray lo hi none=((its.drop (HT.sIx its.length 0 lo)).take (HT.sIx its.length its.length hi-HT.sIx its.length 0 lo)).toArray:=by
 obtain ⟨h1,h2,h3⟩:=B_ lo hi its.toArray.size;unfold slicePick;rw [h1,h2,h3];simp only [sliceRange_one,pick_run,List.size_toArray] <;> rfl
noncomputable def aJw (K:PySem.W.Frag):V->Option Int->Option Int->Hp->VK->Prop:=fun x lo hi H Q=>∃a xs,x=.ref a/\SqL K H a xs/\∀p,H p=none->Q (.ref p) (upd H p (.lst (UT xs lo hi)))
theorem UW:SlR X (aJw X.K):=by
 intro pins s σ H x v vl vu lo hi sl Q I rx hs pl pu h;obtain ⟨a,xs,rfl,hx,q⟩:=h;cases rx;obtain ⟨its,r,ht,hz⟩:=I.list hx;have hlen:=r.length;refine ⟨"list",_,slot_list_getitem.lookup,ht.isList.typeIs,?_⟩;refine wpAny_getItem_list_slice ht.isList hs pl pu .none (by simp) ?_ (by rw [List.size_toArray] <;> lia);rw [yE,<-hlen];refine ⟨.ref s.heap.objs.size,_,I.laid (t':=s.toks) (o:=.lst (UT xs lo hi)) (fun b ob q=>Heap.get?_push_of_some _ q) (Nat.le_refl _) ?_,rfl,q _ (I.hok.fresh (Nat.le_refl _))⟩;exact ⟨Nat.le_trans (uC xs lo hi) hz,_,0,(r.drop (HT.sIx xs.length 0 lo)).take (HT.sIx xs.length xs.length hi-HT.sIx xs.length 0 lo),Heap.get?_push_size _ rfl⟩
theorem j8:lG X (.builtin "len") (fun xs H Q=>∃p ys,xs=[.ref p]/\(SqL X.K H p ys\/SqT X.K H p ys)/\Q (.int ys.length) H):=by
 intro pins s σ H xs us Q I r h;obtain ⟨p,ys,rfl,hq,q⟩:=h;obtain ⟨u,rfl,rx⟩:=vals1 r;cases rx;have hn:=wU;rcases hq with hq|hq
 ·obtain ⟨its,r',pl,hz⟩:=I.list hq;have hlen:=r'.length;exact Calls.call_len_list pl.isList (by simp only [List.size_toArray] <;> lia) ⟨.int ys.length,H,I.tok _,⟨s.toks+1,by rw [List.size_toArray,hlen]⟩,q⟩
 ·obtain ⟨its,r',pl,hz⟩:=I.tuple hq;have hlen:=r'.length;exact len_tuple pl (by simp only [List.size_toArray] <;> lia) ⟨.int ys.length,H,I.tok _,⟨s.toks+1,by rw [List.size_toArray,hlen]⟩,q⟩
theorem CG:lG X (.builtin "len") (fun xs H Q=>∃z,xs=[.str z]/\z.length<=sizeLine/\Q (.int z.length) H):=by
 intro pins s σ H xs us Q I r h;obtain ⟨z,rfl,hz,q⟩:=h;obtain ⟨u,rfl,t,rfl⟩:=vals1 r;have hn:=wU;exact len_str (by lia) ⟨.int z.length,H,I.tok _,⟨_,rfl⟩,q⟩
theorem sY:lG X (.type "list") (fun xs H Q=>∃p ys,xs=[.ref p]/\(SqL X.K H p ys\/SqT X.K H p ys)/\∀l,H l=none->Q (.ref l) (upd H l (.lst ys))):=by
 intro pins s σ H xs us Q I r h;obtain ⟨p,ys,rfl,hq,q⟩:=h;obtain ⟨u,rfl,rx⟩:=vals1 r;cases rx;have fin:∀(its:List Value),Vals ys its->ys.length<=sizeLine->∀(h':Heap) (c':Nat),(∀b o',s.heap.get? b=some o'->h'.get? b=some o')->
   h'.get? s.heap.objs.size=some {cls:=.type "list",dict:=none,data:=.seq its.toArray c',slots:=#[]}->EP X pins σ Q (.ref s.heap.objs.size) {s with heap:=h'}:=fun its r' hz h' c' kp e=>
  ⟨.ref s.heap.objs.size,_,I.laid (t':=s.toks) kp (Nat.le_refl _) (show jO X.prog X.w _ h' _ (.lst ys) from ⟨hz,its,c',r',e⟩),rfl,q _ (I.hok.fresh (Nat.le_refl _))⟩
 rcases hq with hq|hq
 ·obtain ⟨its,r',pl,hz⟩:=I.list hq;have hlen:=r'.length;obtain ⟨o,ho,hc,n,hd⟩:=pl.isList;exact call_list_seq p (.inl rfl) ho hc hd (fun h' c' kp e=>fin its r' hz h' c' kp e) (by simp only [List.size_toArray] <;> lia)
 ·obtain ⟨its,r',pl,hz⟩:=I.tuple hq;have hlen:=r'.length;obtain ⟨o,ho,hc,n,hd⟩:=pl;exact call_list_seq p (.inr rfl) ho hc hd (fun h' c' kp e=>fin its r' hz h' c' kp e) (by simp only [List.size_toArray] <;> lia)
theorem qD:lG X (.type "tuple") (fun xs H Q=>∃p ys,xs=[.ref p]/\((SqL X.K H p ys/\∀l,H l=none->Q (.ref l) (upd H l (.tup ys)))\/(SqT X.K H p ys/\Q (.ref p) H))):=by
 intro pins s σ H xs us Q I r h;obtain ⟨p,ys,rfl,h⟩:=h;obtain ⟨u,rfl,rx⟩:=vals1 r;cases rx;rcases h with ⟨hq,q⟩|⟨hq,q⟩
 ·obtain ⟨its,r',pl,hz⟩:=I.list hq;have hlen:=r'.length;refine call_tuple_list pl.isList (fun h' kp=>?_) (by simp only [List.size_toArray] <;> lia);have I1:Inv X pins σ H {s with heap:=h'}:=I.kept (t':=s.toks) kp;have I2:Inv X pins σ (upd H h'.objs.size (.tup ys)) {s with heap:=h'.push {cls:=.type "tuple",data:=.seq its.toArray}}:=
   I1.laid (t':=s.toks) (fun b o e=>Heap.get?_push_of_some _ e) (Nat.le_refl _) (show jO X.prog X.w _ _ _ (.tup ys) from ⟨hz,its,r',lD.new _ _⟩)
  exact ⟨.ref h'.objs.size,_,I2,rfl,q _ (I1.hok.fresh (Nat.le_refl _))⟩
 ·obtain ⟨its,r',pl,hz⟩:=I.tuple hq;exact call_tuple_same pl ⟨.ref p,H,I,rfl,q⟩
noncomputable def tyV (K:PySem.W.Frag) (T:String) (x:V) (H:Hp):Prop:=match x with
 | .str _=>T = "str"
 | .int _=>T = "int"
 | .ref p=>(T = "list"/\∃xs,SqL K H p xs)\/(T = "tuple"/\((∃o,K.lookup p=some o/\o.cls=.type "tuple"/\o.dict=none)\/∃xs,H p=some (.tup xs)))\/
   (T = "dict"/\((∃kvs,H p=some (.dK kvs))\/∃kvs,H p=some (.dT kvs)))\/(T = "set"/\∃S n,H p=some (.set S n))
 | _=>False
theorem aBs {pins:List (Addr×Obj)} {σ:St} {H:Hp} {s:Shared} {T:String} {x:V} {v:Value} (I:Inv X pins σ H s) (r:RelV x v) (ty:tyV X.K T x H) :
  s.TypeIs v T/\∀a,v=.ref a->∃ob,s.heap.get? a=some ob/\ob.dict=none:=by
 cases x with
 | str z=>
  obtain ⟨t,rfl⟩:=r;cases (show T = "str" from ty);exact ⟨typeIs_str s z t,fun _ e=>nomatch e⟩
 | int i=>
  obtain ⟨t,rfl⟩:=r;cases (show T = "int" from ty);exact ⟨typeIs_int s i t,fun _ e=>nomatch e⟩
 | ref p=>
  cases r;rcases ty with ⟨rfl,xs,hq⟩|⟨rfl,⟨o,hk,hc,hd⟩|⟨xs,hk⟩⟩|⟨rfl,hk⟩|⟨rfl,S,n,hk⟩
  ·obtain ⟨its,_,pl,_⟩:=I.list hq;refine ⟨pl.isList.typeIs,fun a e=>?_⟩;cases e;obtain ⟨o,n,e,c,hd,_⟩:=pl;exact ⟨o,e,hd⟩
  ·refine ⟨⟨o,I.kIn p o hk,hc⟩,fun a e=>?_⟩;cases e;exact ⟨o,I.kIn _ o hk,hd⟩
  ·obtain ⟨_,its,_,pl⟩:=I.hok p _ hk;refine ⟨(lD.tup pl).typeIs,fun a e=>?_⟩;cases e;exact lD.bare pl
  ·have z:∃o,s.heap.get? p=some o/\o.ExactDict:=by
    rcases hk with ⟨kvs,hk⟩|⟨kvs,hk⟩
    ·obtain ⟨_,_,_,_,o,_,_,e,ex,_⟩:=I.hok p _ hk;exact ⟨o,e,ex⟩
    ·obtain ⟨_,_,_,_,o,_,_,e,ex,_⟩:=I.hok p _ hk;exact ⟨o,e,ex⟩
   obtain ⟨o,e,ex⟩:=z;refine ⟨⟨o,e,ex.1⟩,fun a e2=>?_⟩;cases e2;exact ⟨o,e,ex.2.1⟩
  ·obtain ⟨o,_,_,_,e,ex,_⟩:=I.hok p _ hk;refine ⟨⟨o,e,ex.1⟩,fun a e2=>?_⟩;cases e2;exact ⟨o,e,ex.2.1⟩
 | _=>exact False.elim ty
noncomputable def aJx (K:PySem.W.Frag) (T:String) (r:V->List V->Hp->VK->Prop) (to:TE):TE:=fun σ H Q=>to σ H fun x H1=>tyV K T x H1/\r x [] H1 Q
noncomputable def tBM (K:PySem.W.Frag) (T:String) (r:V->List V->Hp->VK->Prop) (to:TE) (t:TA):TE:=fun σ H Q=>to σ H fun x H1=>tyV K T x H1/\t σ H1 fun xs H2=>r x xs H2 Q
variable {o e:Expr} {es:List Expr} {to:TE} {t:TA} {name:Str} {apos cpos:Pos} {T id:String} {r:V->List V->Hp->VK->Prop}
theorem aFv (pa:PlainAttrs T) (slot:Slot T name id) (hty:typeOf (.builtin id)=pure (.type "method_descriptor")) (hm:MtR X id r) (ho:PE X o to)
  (hbase:attributeBase o name X.env (eval o X.env)=eval o X.env:=by rfl) (hline:(apos.endLine==cpos.line)=true:=by rfl):PE X (.Call (.Attribute o name apos) [] [] cpos) (aJx X.K T r to):=by
 intro pins s σ H Q I h;refine wpAny_Call_method0_late hbase hline (thn (ho pins s σ H _ I h) fun v s1 ⟨x,H1,I1,r1,ty,q1⟩=>?_);obtain ⟨h1,h2⟩:=aBs I1 r1 ty;exact ⟨T,id,pa,slot,hty,h1,h2,Calls.callWith_builtin rfl (PySem.evalArgs_none (hm pins s1 σ H1 x [] v [] Q I1 r1 .nil q1))⟩
theorem Z0 (pa:PlainAttrs T) (slot:Slot T name id) (hty:typeOf (.builtin id)=pure (.type "method_descriptor")) (hm:MtR X id r) (ho:PE X o to) (ha:PA X (e::es) t)
  (hbase:attributeBase o name X.env (eval o X.env)=eval o X.env:=by rfl)
  (hfew:((backTo cpos (starEach (e::es) X.env)).all (fun x=>!x.1)&&(backToKw cpos (keywordEach [] X.env)).all (fun x=>x.1.isSome)
   && decide ((e::es).length+([]:List Keyword).length+(if ([]:List Keyword).isEmpty then 0 else 1)<30))=true:=by rfl)
  (hline:(apos.endLine==cpos.line)=true:=by rfl) (hs:starEach (e::es) X.env=(false,eval e X.env)::starEach es X.env:=by rfl) (hplain:(backTo cpos (starEach es X.env)).any (·.1)=false:=by rfl) :
  PE X (.Call (.Attribute o name apos) (e::es) [] cpos) (tBM X.K T r to t):=by
 intro pins s σ H Q I h;refine wpAny_Call_method_late hbase hfew hline rfl (thn (ho pins s σ H _ I h) fun v s1 ⟨x,H1,I1,r1,ty,q1⟩=>?_);obtain ⟨h1,h2⟩:=aBs I1 r1 ty;refine ⟨T,id,pa,slot,hty,h1,h2,?_⟩;have hA:=ha cpos pins s1 σ H1 _ I1 q1;rw [hs] at hA ⊢;refine Calls.callWith_builtin (by show (false||(backTo cpos (starEach es X.env)).any (·.1))=false;rw [hplain] <;> rfl) (Calls.evalArgs_plain ?_);exact thn hA fun us s2 ⟨vs,H2,I2,r2,q2⟩=>hm pins s2 σ H2 x vs v us Q I2 r1 r2 q2
end
end L2
namespace L2
open PySem PySem.Spec PyProof.Rows
noncomputable def MtM (X:Cx) (id:String) (r:V->List V->Hp->VK->Prop):Prop:=
 ∀(pins:List (Addr×Obj)) (s:Shared) (σ:St) (H:Hp) (x:V) (xs:List V) (v:Value) (us:List Value) (Q:VK),Inv X pins σ H s->RelV x v->Vals xs us->r x xs H Q->
  wpAny (model X.prog X.w) X.A (call (.builtin id) (v::us)) (EP X pins σ Q) X.xe s
theorem Vals.one:∀{x:V} {us:List Value},Vals [x] us->∃u,us=[u]/\RelV x u
 | _,_,.cons r .nil=>⟨_,rfl,r⟩
section
variable {X:Cx} {pins:List (Addr×Obj)} {σ:St} {H:Hp} {s:Shared} {l b:Addr} {xs ys zs:List V}
theorem Inv.aIa {its its':List Value} {n:Nat} {f:Array Value->Array Value} {t':Nat} (I:Inv X pins σ H s) (hH:H l=some (.lst xs))
  (e:s.heap.get? l=some {cls:=.type "list",data:=.seq its.toArray n}) (hf:f its.toArray=its'.toArray) (hv:Vals ys its') (hz:ys.length<=sizeLine) :
  Inv X pins σ (upd H l (.lst ys)) {s with heap:=s.heap.update l (Obj.mapSeq f),toks:=t'}:=by
 have q:=PySem.IsL.update e f;rw [hf] at q;refine I.write (x:=l) (e:=l) (by rw [hH];exact trivial) (.inl rfl) (fun b' u hb hu=>(Heap.get?_update_other s.heap (Obj.mapSeq f) (Ne.symm hb)).trans hu) ⟨_,q⟩ ?_;exact ⟨hz,its',_,hv,q⟩
theorem Inv.aJy {its:List Value} {t':Nat} (I:Inv X pins σ H s) (hv:Vals ys its) (hz:ys.length<=sizeLine) :
  Inv X pins σ (upd H s.heap.objs.size (.lst ys)) {s with heap:=s.heap.push {cls:=.type "list",data:=.seq its.toArray},toks:=t'}:=
 I.laid (fun _ _ q=>Heap.get?_push_of_some _ q) (Nat.le_refl _) ⟨hz,its,0,hv,Heap.get?_push_size _ rfl⟩
theorem Inv.fresh (I:Inv X pins σ H s):H s.heap.objs.size=none:=I.hok.fresh (Nat.le_refl _)
theorem Inv.aHk (I:Inv X pins σ H s) (hH:H l=some (.lst xs)):xs.length<=sizeLine/\∃(its:List Value) (n:Nat),Vals xs its/\xs.length=its.length/\s.heap.get? l=some {cls:=.type "list",data:=.seq its.toArray n}:=by
 obtain ⟨z,its,n,r,e⟩:=I.hok l _ hH;exact ⟨z,its,n,r,r.length,e⟩
theorem Z1 {n:Nat} (h:n<=sizeLine):Builtin.List.listTooLong n=false:=by
 unfold Builtin.List.listTooLong;exact decide_eq_false (by lia)
end
section
variable {X:Cx}
noncomputable def aD5:V->List V->Hp->VK->Prop:=fun x vs H Q=>∃l xs y,x=.ref l/\vs=[y]/\H l=some (.lst xs)/\xs.length<sizeLine/\Q .non (upd H l (.lst (xs++[y])))
theorem CJ:MtM X "list.append" aD5:=by
 intro pins s σ H x vs v us Q I rx rv h;obtain ⟨l,xs,y,rfl,rfl,hH,hz,q⟩:=h;cases rx;obtain ⟨u,rfl,ru⟩:=rv.one;obtain ⟨z,its,n,r,hl,e⟩:=I.aHk hH;refine call_meets F.slot_list_append ⟨_,e,rfl⟩ F.entry_list_append (F.args_list_append_2 _ _) (PySem.list_append l its.toArray n u (by rw [List.size_toArray];lia)) ⟨e,?_⟩;refine ⟨.non,_,I.aIa (its':=its++[u]) hH e (by simp) (r.append (.cons ru .nil)) ?_,rfl,q⟩;rw [List.length_append,List.length_singleton];lia
noncomputable def aD6:V->List V->Hp->VK->Prop:=fun x vs H Q=>∃l b xs zs,x=.ref l/\vs=[.ref b]/\H l=some (.lst xs)/\H b=some (.lst zs)/\xs.length+zs.length<=sizeLine/\Q .non (upd H l (.lst (xs++zs)))
theorem U0:MtM X "list.extend" aD6:=by
 intro pins s σ H x vs v us Q I rx rv h;obtain ⟨l,b,xs,zs,rfl,rfl,hH,hB,hz,q⟩:=h;cases rx;obtain ⟨u,rfl,ru⟩:=rv.one;cases ru;obtain ⟨z,its,n,r,hl,e⟩:=I.aHk hH;obtain ⟨z2,its2,n2,r2,hl2,e2⟩:=I.aHk hB;have hsz:its.toArray.size+its2.toArray.size<=sizeLine:=by rw [List.size_toArray,List.size_toArray];lia
 have hlong:¬(!its.toArray.isEmpty&&Builtin.List.listTooLong (its.toArray.size+its2.toArray.size))=true:=by
  rw [Z1 hsz,Bool.and_false];exact Bool.false_ne_true
 refine call_meets F.slot_list_extend ⟨_,e,rfl⟩ F.entry_list_extend (F.args_list_extend_2 _ _)
  (AutoSeq1.list_extend_list_list_0 l its.toArray n b its2.toArray n2 hlong (by rw [List.size_toArray];lia) (by lia)) ⟨e,e2,?_⟩
 refine ⟨.non,_,I.aIa (its':=its++its2) hH e (by simp) (r.append r2) ?_,rfl,q⟩;rw [List.length_append];lia
end
section
variable {prog:Program} {w:World} {A:Around} {E:Value->Shared->Prop} {s:Shared}
end
section
variable {X:Cx}
end
end L2
namespace L2
open PySem PySem.Spec PyProof.Rows
section
variable {κ:Type} [DecidableEq κ]
noncomputable def vZ (kvs:List (κ×V)) (k:κ):Option V:=(kvs.find? fun kv=>decide (kv.1=k)).map (·.2)
noncomputable def putK (kvs:List (κ×V)) (k:κ) (v:V):List (κ×V):=
 if (kvs.any fun kv=>decide (kv.1=k))=true then kvs.map (fun kv=>if kv.1=k then (kv.1,v) else kv) else kvs++[(k,v)]
noncomputable def v7 (kvs:List (κ×V)) (k:κ):List (κ×V):=kvs.filter fun kv=>decide (kv.1≠k)
theorem qF {p:κ×V} {r:List (κ×V)} {k:κ} (e:p.1=k):vZ (p::r) k=some p.2:=by simp [vZ,List.find?_cons,e]
theorem qG {p:κ×V} {r:List (κ×V)} {k:κ} (e:¬p.1=k):vZ (p::r) k=vZ r k:=by simp [vZ,List.find?_cons,e]
theorem qH (k:κ):∀kvs:List (κ×V),(kvs.any fun kv=>decide (kv.1=k))=(vZ kvs k).isSome
 | []=>rfl
 | p::r=>by
  rw [List.any_cons];by_cases e:p.1=k
  ·simp only [qF e,decide_eq_true e,Bool.true_or,Option.isSome_some]
  ·rw [qG e,decide_eq_false e,Bool.false_or];exact qH k r
theorem uF (kvs:List (κ×V)) (k:κ) (v:V):(putK kvs k v).length<=kvs.length+1:=by
 unfold putK;split
 ·rw [List.length_map];lia
 ·rw [List.length_append,List.length_cons,List.length_nil];lia
theorem Z4 {kvs:List (κ×V)} {k:κ} (v:V) (h:vZ kvs k=none):putK kvs k v=kvs++[(k,v)]:=by
 unfold putK;rw [qH,h];exact if_neg (by decide)
theorem TQ.nU {o:Option V} {u:Option Value} (r:TQ o u):o.isSome=u.isSome:=by
 cases o with
 | none=>cases u with
  | none=>rfl
  | some _=>exact (show False from r).elim
 | some _=>cases u with
  | none=>exact (show False from r).elim
  | some _=>rfl
theorem KV.val {kvs:List (κ×V)} {vs:List (κ×Value)} (r:KV kvs vs) (k:κ):TQ (vZ kvs k) (valueAt vs k):=by
 unfold KV at r;induction r with
 | nil=>exact True.intro
 | @cons p q ps qs h t ih=>
  obtain ⟨h1,h2⟩:=h;by_cases e:p.1=k
  ·have e':q.1=k:=h1.symm.trans e;have b:valueAt (q::qs) k=some q.2:=by simp [valueAt,List.find?_cons,e']
   rw [qF e,b];exact h2
  ·have e':¬q.1=k:=fun z=>e (h1.trans z)
   have b:valueAt (q::qs) k=valueAt qs k:=by simp [valueAt,List.find?_cons,e']
   rw [qG e,b];exact ih
theorem KV.any {kvs:List (κ×V)} {vs:List (κ×Value)} (r:KV kvs vs) (k:κ):(kvs.any fun kv=>decide (kv.1=k))=vs.any fun kv=>decide (kv.1=k):=by
 unfold KV at r;induction r with
 | nil=>rfl
 | cons h t ih=>rw [List.any_cons,List.any_cons,ih,h.1]
theorem KV.repl {kvs:List (κ×V)} {vs:List (κ×Value)} (r:KV kvs vs) (k:κ) {y:V} {u:Value} (ry:RelV y u) :
  KV (kvs.map fun kv=>if kv.1=k then (kv.1,y) else kv) (vs.map fun kv=>if kv.1=k then (kv.1,u) else kv):=by
 unfold KV at r ⊢;induction r with
 | nil=>exact .nil
 | @cons p q ps qs h t ih=>
  rw [List.map_cons,List.map_cons];refine .cons ?_ ih;obtain ⟨h1,h2⟩:=h;by_cases e:p.1=k
  ·rw [if_pos e,if_pos (h1.symm.trans e)];exact ⟨h1,ry⟩
  ·rw [if_neg e,if_neg (fun z=>e (h1.trans z))];exact ⟨h1,h2⟩
theorem KV.put {kvs:List (κ×V)} {vs:List (κ×Value)} (r:KV kvs vs) (k:κ) {y:V} {u:Value} (ry:RelV y u):KV (putK kvs k y) (stored vs k u):=by
 unfold putK stored;rw [r.any k];by_cases e:(vs.any fun kv=>decide (kv.1=k))=true
 ·rw [if_pos e,if_pos e];exact r.repl k ry
 ·rw [if_neg e,if_neg e];exact Paired.snoc r ⟨rfl,ry⟩
theorem KV.drop {kvs:List (κ×V)} {vs:List (κ×Value)} (r:KV kvs vs) (k:κ):KV (v7 kvs k) (without vs k):=by
 unfold KV at r ⊢;unfold v7 without;induction r with
 | nil=>exact .nil
 | @cons p q ps qs h t ih=>
  obtain ⟨h1,h2⟩:=h;rw [List.filter_cons,List.filter_cons];by_cases e:p.1=k
  ·have a:¬decide (p.1≠k)=true:=by simp [e]
   have b:¬decide (q.1≠k)=true:=by simp [h1.symm.trans e]
   rw [if_neg a,if_neg b];exact ih
  ·have e':¬q.1=k:=fun z=>e (h1.trans z)
   have a:decide (p.1≠k)=true:=by simp [e]
   have b:decide (q.1≠k)=true:=by simp [e']
   rw [if_pos a,if_pos b];exact .cons ⟨h1,h2⟩ ih
theorem KV.length {kvs:List (κ×V)} {vs:List (κ×Value)} (r:KV kvs vs):kvs.length=vs.length:=Paired.length r
theorem Z5 (kvs:List (κ×V)) (k:κ):(v7 kvs k).length<=kvs.length:=List.length_filter_le _ _
end
theorem Q6 {P:Program} {w:World} {k:Key} {u:Value} (r:RelV (kV k) u):(cY P w).is k u=true:=by
 cases k with
 | inl i=>obtain ⟨t,e⟩:=(show ∃t,u=Value.int i t from r);subst e;exact IW P w i t
 | inr x=>obtain ⟨t,e⟩:=(show ∃t,u=Value.str x t from r);subst e;exact I_ P w x t
theorem CK {P:Program} {w:World}:∀{ks:List Key} {us:List Value},Vals (ks.map kV) us->ItemsAre (cY P w) ks us
 | [],_,r=>by rw [List.map_nil] at r;cases r;exact .nil
 | k::ks,_,r=>by
  rw [List.map_cons] at r;cases r with
  | cons h t=>exact .cons (Q6 h) (CK t)
noncomputable abbrev KT (H:Hp):List (List Key×V)->List (List Key×Addr×Value)->Prop:=Paired fun p q=>p.1=q.1/\H q.2.1=some (.tup (p.1.map kV))/\RelV p.2 q.2.2
theorem KT.val {H:Hp} {kvs:List (List Key×V)} {xs:List (List Key×Addr×Value)} (r:KT H kvs xs) (k:List Key):TQ (vZ kvs k) ((atKey xs k).map (·.2)):=by
 induction r with
 | nil=>exact True.intro
 | @cons p q ps qs h t ih=>
  obtain ⟨h1,_,h2⟩:=h;by_cases e:p.1=k
  ·have e':q.1=k:=h1.symm.trans e;have b:atKey (q::qs) k=some q.2:=by simp [atKey,List.find?_cons,e']
   rw [qF e,b];exact h2
  ·have e':¬q.1=k:=fun z=>e (h1.trans z)
   have b:atKey (q::qs) k=atKey qs k:=by simp [atKey,List.find?_cons,e']
   rw [qG e,b];exact ih
theorem KT.repl {H:Hp} {kvs:List (List Key×V)} {xs:List (List Key×Addr×Value)} (r:KT H kvs xs) (k:List Key) {y:V} {u:Value} (ry:RelV y u) :
  KT H (kvs.map fun kv=>if kv.1=k then (kv.1,y) else kv) (xs.map (putAt k u)):=by
 induction r with
 | nil=>exact .nil
 | @cons p q ps qs h t ih=>
  rw [List.map_cons,List.map_cons];refine .cons ?_ ih;obtain ⟨h1,h2,h3⟩:=h;unfold putAt;by_cases e:p.1=k
  ·rw [if_pos e,if_pos (h1.symm.trans e)];exact ⟨h1,h2,ry⟩
  ·rw [if_neg e,if_neg (fun z=>e (h1.trans z))];exact ⟨h1,h2,h3⟩
theorem KT.put {H:Hp} {kvs:List (List Key×V)} {xs:List (List Key×Addr×Value)} (r:KT H kvs xs) (k:List Key) {b:Addr} {y:V} {u:Value} (hb:H b=some (.tup (k.map kV))) (ry:RelV y u) :
  KT H (putK kvs k y) (storedH xs k b u):=by
 have e:(kvs.any fun kv=>decide (kv.1=k))=(atKey xs k).isSome:=by
  rw [qH,(r.val k).nU,Option.isSome_map]
 unfold putK storedH;rw [e];by_cases q:(atKey xs k).isSome=true
 ·rw [if_pos q,if_pos q];exact r.repl k ry
 ·rw [if_neg q,if_neg q];exact Paired.snoc r ⟨rfl,hb,ry⟩
theorem KT.keeps {H H':Hp} {kvs:List (List Key×V)} {xs:List (List Key×Addr×Value)} (r:KT H kvs xs) (ht:∀b ys,H b=some (.tup ys)->H' b=some (.tup ys)):KT H' kvs xs:=
 Paired.aHt r fun _ _ z=>⟨z.1,ht _ _ z.2.1,z.2.2⟩
section
variable {P:Program} {w:World} {H:Hp} {h:Heap} {a:Addr}
theorem aFw {u:HO} (ok:HOk P w H h) (e:Rd H a u):jO P w H h a u:=e.ok ok
theorem Q7 {kvs:List (Key×V)} (ok:HOk P w H h) (e:Rd H a (.dK kvs)):kvs.length<=sizeLine/\(a==sysModules)=false/\∃vs,KV kvs vs/\h.DictOf (cY P w) a vs:=
 show jO P w H h a (.dK kvs) from aFw ok e
theorem CN {kvs:List (Key×V)} (ok:HOk P w H h) (e:H a=some (.dK kvs)):kvs.length<=sizeLine/\(a==sysModules)=false/\∃vs,KV kvs vs/\h.DictOf (cY P w) a vs:=Q7 ok (.inl e)
theorem CP {ks:List Key} (ok:HOk P w H h) (e:H a=some (.tup (ks.map kV))):(tupleKind (cY P w)).is h ks a:=by
 obtain ⟨_,its,r,o,h1,h2,n,h3⟩:=(show jO P w H h a (.tup (ks.map kV)) from ok a _ e)
 exact ⟨o,its.toArray,n,h1,h2,congrArg (·.1) h3,by simpa using CK r⟩
theorem U3 {kvs:List (List Key×V)} (ok:HOk P w H h) (e:Rd H a (.dT kvs)):kvs.length<=sizeLine/\(a==sysModules)=false/\
  ∃xs,KT H kvs xs/\h.DictOfH (tupleKind (cY P w)) a xs:=by
 obtain ⟨z,y,xs,r,o,es,ep,h1,h2,h3,h4,h5⟩:=(show jO P w H h a (.dT kvs) from aFw ok e)
 refine ⟨z,y,xs,r,o,es,ep,h1,h2,h3,h4,fun x hx=>?_,h5⟩;have all:∀{l:List (List Key×V)} {m:List (List Key×Addr×Value)},KT H l m->∀x∈m,(tupleKind (cY P w)).is h x.1 x.2.1:=by
  intro l m q;induction q with
  | nil=>intro x hx;exact nomatch hx
  | @cons p q ps qs hq t ih=>
   intro x hx;rcases List.mem_cons.mp hx with e|hx
   ·subst e;exact CP ok (by rw [<-hq.1];exact hq.2.1)
   ·exact ih x hx
 exact all r x hx
theorem Z6 {kvs:List (List Key×V)} (ok:HOk P w H h) (e:H a=some (.dT kvs)):kvs.length<=sizeLine/\(a==sysModules)=false/\
  ∃xs,KT H kvs xs/\h.DictOfH (tupleKind (cY P w)) a xs:=U3 ok (.inl e)
end
noncomputable def U4 (H:Hp) (a:Addr) (y:V) (r:Option V):Prop:=
 (∃kvs k,Rd H a (.dK kvs)/\y=kV k/\r=vZ kvs k)\/∃kvs k b,Rd H a (.dT kvs)/\y=.ref b/\H b=some (.tup (k.map kV))/\r=vZ kvs k
noncomputable def aBt (H:Hp) (a:Addr) (y v:V) (H':Hp):Prop:=
 (∃kvs k,H a=some (.dK kvs)/\y=kV k/\kvs.length<sizeLine/\H'=upd H a (.dK (putK kvs k v)))\/
 ∃kvs k b,H a=some (.dT kvs)/\y=.ref b/\H b=some (.tup (k.map kV))/\kvs.length<sizeLine/\H'=upd H a (.dT (putK kvs k v))
theorem U4.k {H:Hp} {a:Addr} {kvs:List (Key×V)} {k:Key} (e:H a=some (.dK kvs)):U4 H a (kV k) (vZ kvs k):=.inl ⟨kvs,k,.inl e,rfl,rfl⟩
theorem U4.t {H:Hp} {a b:Addr} {kvs:List (List Key×V)} {k:List Key} (e:H a=some (.dT kvs)) (eb:H b=some (.tup (k.map kV))):U4 H a (.ref b) (vZ kvs k):=.inr ⟨kvs,k,b,.inl e,rfl,eb,rfl⟩
theorem aBt.k {H:Hp} {a:Addr} {kvs:List (Key×V)} {k:Key} {v:V} (e:H a=some (.dK kvs)) (hl:kvs.length<sizeLine):aBt H a (kV k) v (upd H a (.dK (putK kvs k v))):=.inl ⟨kvs,k,e,rfl,hl,rfl⟩
theorem aBt.t {H:Hp} {a b:Addr} {kvs:List (List Key×V)} {k:List Key} {v:V} (e:H a=some (.dT kvs)) (eb:H b=some (.tup (k.map kV))) (hl:kvs.length<sizeLine) :
  aBt H a (.ref b) v (upd H a (.dT (putK kvs k v))):=.inr ⟨kvs,k,b,e,rfl,eb,hl,rfl⟩
section
variable {X:Cx} {pins:List (Addr×Obj)} {σ:St} {H:Hp} {s:Shared} {a:Addr} {y v:V} {u r:Value} {o:Option V} {A:Around} {E:Value->Shared->Prop}
theorem Inv.big (I:Inv X pins σ H s):sysModules<s.heap.objs.size:=by
 have h:mainGlobals<s.heap.objs.size:=(I.mod.glob.keeps I.bk).lt;exact Nat.lt_trans (by decide) h
theorem U5 {Q:Value->Shared->Prop} (hu:A.units+1<cLine) (I:Inv X pins σ H s) (g:U4 H a y (some v)) (ry:RelV y u) (h:∀w' s',Inv X pins σ H s'->RelV v w'->Q w' s') :
  wpAny (model X.prog X.w) A (getItem (.ref a) u) Q E s:=by
 rcases g with ⟨kvs,k,e,ey,l⟩|⟨kvs,k,b,e,ey,eb,l⟩
 ·subst ey;obtain ⟨z,hd,vs,rel,dd⟩:=Q7 I.hok e;obtain ⟨w',hw,rw'⟩:=TQ.some_of (v:=v) (o:=valueAt vs k) (by rw [l];exact rel.val k);exact wpAny_getItem_of (Q6 ry) dd.mapOf hw (h w' _ (I.tok _) rw')
 ·subst ey;cases (show u=Value.ref b from ry);obtain ⟨z,hd,xs,rel,dd⟩:=U3 I.hok e;obtain ⟨w',hw,rw'⟩:=TQ.some_of (v:=v) (o:=(atKey xs k).map (·.2)) (by rw [l];exact rel.val k);obtain ⟨p,hp,hp2⟩:=Option.map_eq_some_iff.mp hw;refine wpAny_getItem_heap (tupleKind_room_in1 hu) (CP I.hok eb) dd hp ?_;rw [hp2];exact h w' _ (I.tok _) rw'
theorem aJz {Q:Value->Shared->Prop} (hu:A.units+1<cLine) (I:Inv X pins σ H s) (g:U4 H a y o) (ry:RelV y u) (h:∀s',Inv X pins σ H s'->Q (.bool o.isSome) s') :
  wpAny (model X.prog X.w) A (compareOp .In u (.ref a)) Q E s:=by
 rcases g with ⟨kvs,k,e,ey,l⟩|⟨kvs,k,b,e,ey,eb,l⟩
 ·subst ey;obtain ⟨z,hd,vs,rel,dd⟩:=Q7 I.hok e;refine wpAny_in_of (Q6 ry) hd dd.mapOf ?_;rw [<-(rel.val k).nU,<-l];exact h _ (I.tok _)
 ·subst ey;cases (show u=Value.ref b from ry);obtain ⟨z,hd,xs,rel,dd⟩:=U3 I.hok e;refine wpAny_in_heap (tupleKind_room_in1 hu) (CP I.hok eb) hd dd ?_;have q:=(rel.val k).nU;rw [Option.isSome_map] at q;rw [<-q,<-l];exact h _ (I.tok _)
theorem aD7 {Q:Value->Shared->Prop} (hu:A.units+1<cLine) (I:Inv X pins σ H s) (g:U4 H a y o) (ry:RelV y u) (h:∀s',Inv X pins σ H s'->Q (.bool (!o.isSome)) s') :
  wpAny (model X.prog X.w) A (compareOp .NotIn u (.ref a)) Q E s:=by
 rcases g with ⟨kvs,k,e,ey,l⟩|⟨kvs,k,b,e,ey,eb,l⟩
 ·subst ey;obtain ⟨z,hd,vs,rel,dd⟩:=Q7 I.hok e;refine wpAny_notIn_of (Q6 ry) hd dd.mapOf ?_;rw [<-(rel.val k).nU,<-l];exact h _ (I.tok _)
 ·subst ey;cases (show u=Value.ref b from ry);obtain ⟨z,hd,xs,rel,dd⟩:=U3 I.hok e;refine wpAny_notIn_heap (tupleKind_room_in1 hu) (CP I.hok eb) hd dd ?_;have q:=(rel.val k).nU;rw [Option.isSome_map] at q;rw [<-q,<-l];exact h _ (I.tok _)
theorem JL {h':Heap} {t':Nat} {ob:HO} (I:Inv X pins σ H s) (mu:Mut (H a)) (hs:Heap.SameBut a s.heap h') (he:∃q,h'.get? a=some q) (new:jO X.prog X.w (upd H a ob) h' a ob) :
  Inv X pins σ (upd H a ob) {s with heap:=h',toks:=t'}:=
 I.write (x:=a) (e:=a) mu (.inl rfl) (fun b q hb z=>(hs.2 b hb).trans z) he new
theorem U6 {P:Program} {w:World} {H':Hp} {h':Heap} {kvs:List (Key×V)} {vs:List (Key×Value)} (z:kvs.length<=sizeLine) (hd:(a==sysModules)=false) (rel:KV kvs vs) (dd:h'.DictOf (cY P w) a vs) :
  jO P w H' h' a (.dK kvs):=⟨z,hd,vs,rel,dd⟩
theorem U7 {H':Hp} {Q:Unit->Shared->Prop} (hu:A.units+1<cLine) (I:Inv X pins σ H s) (g:aBt H a y v H') (ry:RelV y u) (rv:RelV v r) (h:∀s',Inv X pins σ H' s'->Q () s') :
  wpAny (model X.prog X.w) A (setItem (.ref a) u r) Q E s:=by
 rcases g with ⟨kvs,k,e,ey,l,eH⟩|⟨kvs,k,b,e,ey,eb,l,eH⟩
 ·subst ey eH;obtain ⟨z,hd,vs,rel,dd⟩:=CN I.hok e;have hz:vs.length<=sizeLine:=by rw [<-rel.length];exact z
  have hl:(putK kvs k v).length<=sizeLine:=by have:=uF kvs k v;lia
  refine wpAny_setItem_pairs (hsz:=hz) (Q6 ry) dd fun h' dd' hs=>h _ ?_
  have he:∃q,h'.get? a=some q:=let ⟨q,_,_,hq,_⟩:=dd';⟨q,hq⟩
  exact JL I (by rw [e];exact True.intro) hs he (U6 hl hd (rel.put k rv) dd')
 ·subst ey eH;cases (show u=Value.ref b from ry);obtain ⟨z,hd,xs,rel,dd⟩:=Z6 I.hok e;have hz:xs.length<=sizeLine:=by rw [<-Paired.length rel];exact z
  have hl:(putK kvs k v).length<=sizeLine:=by have:=uF kvs k v;lia
  refine wpAny_setItem_heap (hsz:=hz) (tupleKind_room_in1 hu) (CP I.hok eb) dd fun h' dd' hs=>h _ ?_
  obtain ⟨q,es,ep,hq,h2,h3,h4,_,h5⟩:=dd';refine JL I (by rw [e];exact True.intro) hs ⟨q,hq⟩ ⟨hl,hd,_,(rel.put k eb rv).keeps fun c ys ec=>?_,q,es,ep,hq,h2,h3,h4,h5⟩;rw [bJ (aCs ec e (fun z=>nomatch z))];exact ec
end
section
variable {X:Cx} {pins:List (Addr×Obj)} {σ:St} {H:Hp} {s:Shared} {a:Addr} {kvs:List (Key×V)} {k:Key} {u:Value} {A:Around} {E:Value->Shared->Prop}
theorem aIb {v:V} {more:List Value} {Q:Value->Shared->Prop} (I:Inv X pins σ H s) (e:H a=some (.dK kvs)) (ry:RelV (kV k) u) (l:vZ kvs k=some v) (hm:more=[]\/∃x,more=[x])
  (h:∀w' s',Inv X pins σ (upd H a (.dK (v7 kvs k))) s'->RelV v w'->Q w' s'):wpAny (model X.prog X.w) A (call (.builtin "dict.pop") (.ref a::u::more)) Q E s:=by
 obtain ⟨z,hd,vs,rel,dd⟩:=CN I.hok e;obtain ⟨w',hw,rw'⟩:=TQ.some_of (v:=v) (o:=valueAt vs k) (by rw [<-l];exact rel.val k);have hp:(keyPart u).isSome=true:=by
  cases k with
  | inl i=>obtain ⟨t,q⟩:=(show ∃t,u=Value.int i t from ry);subst q;rfl
  | inr x=>obtain ⟨t,q⟩:=(show ∃t,u=Value.str x t from ry);subst q;rfl
 have ha:argsOk "dict.pop" ⟨.ref a::u::more,[]⟩:=by
  rcases hm with q|⟨x,q⟩
  ·subst q;exact PySem.F.args_dict_pop_2 _ _
  ·subst q;exact PySem.F.args_dict_pop_3 _ _ _
 refine call_meetsIn PySem.F.slot_dict_pop dd.typeIs PySem.F.entry_dict_pop ha (meets_dict_pop_there (cY X.prog X.w) a (Q6 ry) more hm hp)
  ⟨vs,w',dd,by rw [<-rel.length];exact z,hw,fun h' dd' hs=>h w' _ ?_ rw'⟩
 have he:∃q,h'.get? a=some q:=let ⟨q,_,_,hq,_⟩:=dd';⟨q,hq⟩
 exact JL I (by rw [e];exact True.intro) hs he (U6 (Nat.le_trans (Z5 kvs k) z) hd (rel.drop k) dd')
end
theorem JM {X:Cx} {pins:List (Addr×Obj)} {σ:St} {H:Hp} {s:Shared} {a:Addr} {y:V} {o:Option V} (I:Inv X pins σ H s) (g:U4 H a y o):s.TypeIs (.ref a) "dict":=by
 rcases g with ⟨kvs,k,e,_,_⟩|⟨kvs,k,b,e,_,_,_⟩
 ·obtain ⟨_,_,vs,_,dd⟩:=Q7 I.hok e;exact dd.typeIs
 ·obtain ⟨_,_,xs,_,dd⟩:=U3 I.hok e;exact dd.typeIs
section
variable {X:Cx} {o i e value:Expr} {pos pos' tpos:Pos} {td ty tv:TE}
end
theorem Z7 {P:Program} {w:World} {H:Hp} (h:Heap) (hb:sysModules<h.objs.size):jO P w H (h.push {cls:=.type "dict",data:=.dict #[]}) h.objs.size (.dK []):=
 ⟨Nat.zero_le _,beq_eq_false_iff_ne.mpr (Ne.symm (Nat.ne_of_lt hb)),[],.nil,Heap.DictOf.new h⟩
def aFx:TE:=fun _ H Q=>∀p,H p=none->Q (.ref p) (upd H p (.dK []))
section
variable {X:Cx} {pos:Pos}
theorem Z8:PE X (.Dict [] [] pos) aFx:=fun pins s σ H Q I h=>
 wpAny_Dict_empty ⟨.ref s.heap.objs.size,_,I.laid (a:=s.heap.objs.size) (o:=.dK []) (t':=s.toks) (fun _ _ q=>Heap.get?_push_of_some _ q) (Nat.le_refl _) (Z7 s.heap I.big),rfl,h _ (I.hok.fresh (Nat.le_refl _))⟩
end
section
variable {X:Cx} {pins:List (Addr×Obj)} {σ:St} {H:Hp} {s:Shared} {a:Addr} {y d:V} {u r:Value} {o:Option V} {A:Around} {E:Value->Shared->Prop}
end
section
variable {X:Cx} {o e f:Expr} {apos cpos:Pos} {td ty tx:TE}
end
section
variable {X:Cx} {pins:List (Addr×Obj)} {σ:St} {H:Hp} {s:Shared} {a:Addr} {kvs:List (Key×V)} {A:Around} {E:Value->Shared->Prop}
theorem Z9 {Q:Value->Shared->Prop} (I:Inv X pins σ H s) (e:Rd H a (.dK kvs)) (h:∀p s',H p=none->Inv X pins σ (upd H p (.dK kvs)) s'->Q (.ref p) s'):wpAny (model X.prog X.w) A (call (.type "dict") [.ref a]) Q E s:=by
 obtain ⟨z,hd,vs,rel,dd⟩:=Q7 I.hok e;refine kt_call_dict hd dd (by rw [<-rel.length];exact z) fun h' dd' hs=>?_
 refine h _ _ (I.hok.fresh (Nat.le_refl _)) (I.laid (a:=s.heap.objs.size) (o:=.dK kvs) (t':=s.toks) (fun b q hq=>?_) (Nat.le_refl _) (U6 z (beq_eq_false_iff_ne.mpr (Ne.symm (Nat.ne_of_lt I.big))) rel dd'));exact (hs.2 b (Nat.ne_of_lt (Heap.lt_size hq))).trans (Heap.get?_push_of_some _ hq)
end
section
variable {X:Cx} {pins:List (Addr×Obj)} {σ:St} {H:Hp} {s:Shared} {a:Addr} {y:V} {u:Value} {A:Around} {E:Value->Shared->Prop}
end
end L2
namespace Att
open PySem PySem.W PySem.Calls PyProof.Rows
theorem uG {P:Params} {h:Heap}:∀(ns:List Int) (vs:List Value),WellAll P h vs (ns.map WData.int)->IntsAre vs ns:=by
 intro ns;induction ns with
 | nil=>
  intro vs w;rw [List.map_nil] at w;cases w;exact .nil
 | cons n ns ih=>
  intro vs w;rw [List.map_cons] at w;cases w with
  | cons a b=>
   cases a;exact .cons _ _ (ih _ b)
theorem U8 {l:OpenLaw} {n:Nat} (hn:l.most=some n) {P:Params} {h:Heap} {args:List WData} {vals:List Value}
  (hpre:l.row.toRowW.claim.pre args=true) (hwl:WellAll P h vals args) :
  ∃a vs ns,vals=[Value.ref a]/\args=[WData.list (ns.map WData.int)]/\h.get? a=some {cls:=.type "list",data:=.seq vs.toArray}/\IntsAre vs ns/\ns.length<=n:=by
 have hsh:WShape.hasAll [] args [.list .int]=true:=(pre_splitW hpre).1;have hc:l.pre.holds [] {args:=args}=true:=(pre_splitW hpre).2;obtain ⟨d,r,rfl,h1,h2⟩:=hasAllW_cons hsh;obtain rfl:=hasAllW_nil h2;obtain ⟨xs,rfl,h3⟩:=hasW_list h1;obtain ⟨ns,rfl⟩:=items_int h3;have hlen:ns.length<=n:=by
  unfold OpenLaw.pre at hc;have h4:(WTm.not (.lt (.lit (.int (n:Int))) (.len (.arg 0)))).holds [] {args:=[.list (ns.map .int)]}=true:=by
   have h4:=(holds_andW hc).1;rw [hn] at h4;exact h4
  have h5:=condW_of h4 (w_not (w_lt w_lit (w_len_list (w_arg rfl))));rw [List.length_map] at h5;refine Nat.le_of_not_lt fun q=>?_
  have q':(n:Int)<((ns.length:Nat):Int):=by lia
  first
   | (rw [decide_eq_true q'] at h5;exact absurd h5 (by decide))
   | (simp at h5;lia)
 cases hwl with
 | cons w1 w2=>
  cases w2;cases w1 with
  | list ho hall=>exact ⟨_,_,ns,rfl,rfl,ho,uG ns _ hall,hlen⟩
theorem U9 (l:OpenLaw) (args:List WData):l.row.toRowW.claim.post args (.bool true) args=true:=
 postW_of (r:=l.row.toRowW) (X:=(true==true))
  (show WShape.has [] (.bool true) .bool=true by first|rfl|decide|simp [WShape.has,WShape.arms,WShape.armsAll])
  (show (WTm.eq .res (.lit (.bool true))).value [] {args:=args,res:=some (.bool true),after:=args}=some (.bool (true==true)) from w_eq_bool (w_res rfl) w_lit) rfl
theorem JN {l:OpenLaw} {n:Nat} {q:Program} {loose:List Str} {XP:(Str->Option Value)->Heap->Prop} {YP:World->Heap->Prop} {d:DefRec}
  (hn:l.most=some n) (hdf:d.params.defaults=[])
  (call:∀(w:World) (s₀ s₁:Shared) (mg mb:Str->Option Value) (fa:Addr) (o:Obj) (pm cd doc:Value) (a:Addr) (vs:List Value) (ns:List Int),
   Ground q loose [] XP w s₀ mg mb s₁.heap->YP w s₁.heap->
   s₁.heap.get? fa=some o->o.data=.func (docDef d.name d.params d.body d.scope pm cd doc)->s₁.heap.CodeRec cd d.name->mg d.name=some (.ref fa)->
   s₁.heap.get? a=some {cls:=.type "list",data:=.seq vs.toArray}->IntsAre vs ns->ns.length<=n->s₁.gens=#[]->
   codeAny (model l.prog w) callerA (.call (.ref fa) ⟨[.ref a],[]⟩) (fun r s'=>r=.ok (.ret (.bool true))/\OldK s₁.heap s'.heap/\s'.os=s₁.os/\AllBare s'.gens) s₁) :
  WalkO q loose XP YP l.row.toRowW d [] (fun f vs=>PySem.call f vs):=by
 intro w s₀ s₁ mg mb G Y fa o pm cd doc dV kV ho hd hcd hD hmg hg args vals as hpre hlay hrd hwl hlo;obtain rfl:dV=.none:=Dflts.none hD hdf;obtain rfl:kV=.none:=Dflts.noKw hD;obtain ⟨a,vs,ns,rfl,rfl,hobj,hints,hlen⟩:=U8 hn hpre hwl;refine enter_call (codeAny_mono (call w s₀ s₁ mg mb fa o pm cd doc a vs ns G Y ho (fd_plain hd) hcd hmg hobj hints hlen hg) fun r s' hq=>?_);obtain ⟨rfl,h2,h3,h4⟩:=hq;exact ⟨.inl ⟨.bool true,.bool true,[],rfl,fun _=>rfl,.bool true,U9 l _,fun _=>⟨List.Pairwise.nil,fun _ hm=>(nomatch hm)⟩⟩,h2,h3,h4⟩
section
variable {prog:Program} {w:World} {A:Around} {E:Value->Shared->Prop} {s:Shared} {K:Frag}
end
end Att
namespace L2
open PySem PySem.Spec PyProof.Rows
theorem nW:∀{vs:List Value} {ns:List Int},IntsAre vs ns->Vals (ns.map V.int) vs
 | _,_,.nil=>.nil
 | _,_,.cons n t h=>.cons ⟨t,rfl⟩ (nW h)
def Only (H:Hp):Prop:=∀b,H b=none\/∃o xs,H b=some (.frz o (.lst xs))
theorem Z_ {P:Program} {w:World} {K:PySem.W.Frag} {mg mb:Str->Option Value} {CX:CXT} {k:Nat} {fa a:Addr} {fd:FuncData} {x:Str} {sp:Sp} {s₁:Shared} {vs:List Value} {ns:List Int}
  (KX:K.In s₁.heap) (hns:s₁.heap.Ns mainGlobals mg) (hb:s₁.heap.Ns builtinsNs mb) (hbb:∀x:Str,x ≠ "__name__"->mb x=bootBuiltins x) (hlim:s₁.heap.NoLimit) (hg:s₁.gens=#[])
  (ha:s₁.heap.get? a=some {cls:=.type "list",data:=.seq vs.toArray}) (hi:IntsAre vs ns) (hl:ns.length<=sizeLine) (hr:rM k callerA)
  (F:∀base:Heap,K.In base->base.Ns mainGlobals mg->HY P w K mg base CX k fa fd [x] sp) (hbind:∀(s:Shared) (u:Value),BindsTo s fd ⟨[u],[]⟩ [(x,u)])
  (hsp:∀H:Hp,Only H->SqL K H a (ns.map V.int)->sp [.ref a] H (fun v _=>v=.bl true) fun _ _ _=>False)
  (hCX:∀H e s',CX [] H s₁ (fun _ _ _=>False) e s'->False) :
  codeAny (model P w) callerA (.call (.ref fa) ⟨[.ref a],[]⟩) (fun r s'=>r=.ok (.ret (.bool true))/\OldK s₁.heap s'.heap/\s'.os=s₁.os/\AllBare s'.gens) s₁:=by
 have rv:=nW hi;have lenV:=hi.length
 -- from an abstract heap in which nothing but the script may be tracked
 have core:∀H:Hp,Only H->SqL K H a (ns.map V.int)->HOk P w H s₁.heap->(∀b,H b≠none->b=a)->(H a≠none->K.lookup a=none)->
   codeAny (model P w) callerA (.call (.ref fa) ⟨[.ref a],[]⟩) (fun r s'=>r=.ok (.ret (.bool true))/\OldK s₁.heap s'.heap/\s'.os=s₁.os/\AllBare s'.gens) s₁:=by
  intro H hO hS hok hA hK;have base_of:∀{b:Addr} {o:Obj},s₁.heap.get? b=some o->H b=none->(ZL s₁.heap H).get? b=some o:=fun e n=>ZM e n
  have noA:∀{b:Addr} {o:Obj} {es:Array DictEntry} {ep:Nat},s₁.heap.get? b=some o->o.data=.dict es ep->H b=none:=fun {b o es ep} e d=>by
   cases q:H b with
   | none=>rfl
   | some u=>
    have e':b=a:=hA b (by rw [q];simp);subst e';rw [ha] at e;cases e;have d':Data.seq vs.toArray _=Data.dict es ep:=d;cases d'
  have nsK:∀{b:Addr} {m:Str->Option Value},s₁.heap.Ns b m->(ZL s₁.heap H).Ns b m:=fun {b m} ⟨o,es,ep,e,d,r⟩=>⟨o,es,ep,base_of e (noA e d),d,r⟩
  have hKb:K.In (ZL s₁.heap H):=fun b o e=>base_of (KX b o e) (by
   cases q:H b with
   | none=>rfl
   | some u=>
    have e':b=a:=hA b (by rw [q];simp);subst e';rw [hK (by rw [q];simp)] at e;cases e)
  have hM:Mod K mg (ZL s₁.heap H):=⟨hKb,nsK hns,⟨mb,nsK hb,hbb⟩,let ⟨mc,h1,h2⟩:=hlim;⟨mc,nsK h1,h2⟩⟩
  have e0:aHj P w K mg (ZL s₁.heap H) callerA [] s₁ H:=⟨rfl,hM,fun b o e=>aCt e,Nat.le_of_eq (TV _ _),trivial,fun b hb=>absurd (show b∈([]:List Addr) from hb) (by simp),hok,.of_eq hg⟩
  refine codeAny_mono ((F _ hKb (nsK hns)).run callerA [] s₁ H ⟨[.ref a],[]⟩ [.ref a] [.ref a] _ _ hr e0 (hbind s₁ (.ref a)) (.cons rfl .nil) (hsp H hO hS)) fun r s' h=>?_
  cases r with
  | error e=>exact (hCX H e s' h).elim
  | ok fl=>
   cases fl with
   | next=>exact False.elim h
   | brk=>exact False.elim h
   | cont=>exact False.elim h
   | ret u=>
    obtain ⟨v,H',os,bare,un,hok',r',q⟩:=h;have q':v=.bl true:=q;subst q';obtain rfl:u=Value.bool true:=r';refine ⟨rfl,OldK.of_keep fun b o e=>?_,os,bare⟩;cases q:H b with
    | none=>exact un.keep b o e q (by intro z;exact absurd (show b∈([]:List Addr) from z) (by simp)) (by simp)
    | some u=>
     rcases hO b with z|⟨ob,xs,z⟩
     ·rw [q] at z;cases z
     ·have z2:=un.frzs b ob _ z;obtain ⟨e1,_⟩:=hok b _ z;obtain ⟨e2,_⟩:=hok' b _ z2;rw [e] at e1;cases e1;exact e2
 cases hk:K.lookup a with
 | some o=>
  -- the script is one of the module's own objects
  have e:=KX a o hk;rw [ha] at e;cases e;refine core (fun _=>none) (fun _=>.inl rfl) (.inr ⟨_,vs.toArray,_,hk,rfl,rfl,rfl,by rw [List.size_toArray,lenV];exact hl,by simpa using rv⟩) (fun b u z=>by have z':(none:Option HO)=some u:=z;cases z') (fun b z=>absurd rfl z) fun z=>absurd rfl z
 | none=>
  refine core (fun b=>if b=a then some (.frz {cls:=.type "list",data:=.seq vs.toArray} (.lst (ns.map V.int))) else none) (fun b=>?_) (.inl (.inr ⟨{cls:=.type "list",data:=.seq vs.toArray},if_pos rfl⟩)) (fun b u z=>?_) (fun b z=>?_) fun _=>hk
  ·by_cases hb:b=a
   ·exact .inr ⟨_,_,if_pos hb⟩
   ·exact .inl (if_neg hb)
  ·by_cases hb:b=a
   ·have z':=(if_pos hb).symm.trans z;cases z';subst hb;exact ⟨ha,by rw [List.length_map];exact hl,vs,_,rv,ha⟩
   ·have z':=(if_neg hb).symm.trans z;cases z'
  ·by_cases hb:b=a
   ·exact hb
   ·exact absurd (if_neg hb) z
end L2
namespace L2
open PySem PySem.Spec PyProof.Rows
theorem aD8 {l:PySem.W.OpenLaw} {n k:Nat} {q:Program} {loose:List Str} {XP:(Str->Option Value)->Heap->Prop} {YP:World->Heap->Prop} {d:DefRec} {K:Params->PySem.W.Frag} {CX:World->CXT} {sp:World->Sp} {x:Str}
  (hn:l.most=some n) (hn2:n<=sizeLine) (hdf:d.params.defaults=[]) (hr:rM k callerA)
  (hY:∀(w:World) (h:Heap),YP w h->(K w.params).In h)
  (F:∀(w:World) (mg:Str->Option Value) (fa:Addr) (h:Heap),(K w.params).In h->h.Ns mainGlobals mg->mg d.name=some (.ref fa)->
   ∃fd:FuncData,(∀(s:Shared) (u:Value),BindsTo s fd ⟨[u],[]⟩ [(x,u)])/\
    ∀base:Heap,(K w.params).In base->base.Ns mainGlobals mg->HY l.prog w (K w.params) mg base (CX w) k fa fd [x] (sp w))
  (hsp:∀(w:World) (H:Hp) (a:Addr) (ns:List Int),ns.length<=n->Only H->SqL (K w.params) H a (ns.map V.int)->sp w [.ref a] H (fun v _=>v=.bl true) fun _ _ _=>False)
  (hCX:∀(w:World) (H:Hp) (s:Shared) (e:Value) (s':Shared),CX w [] H s (fun _ _ _=>False) e s'->False) :
  PySem.W.WalkO q loose XP YP l.row.toRowW d [] (fun f vs=>PySem.call f vs):=by
 refine Att.JN hn hdf fun w s₀ s₁ mg mb fa o pm cd doc a vs ns G Y ho hd hcd hmg hobj hints hlen hg=>?_
 have KX:=hY w _ Y;obtain ⟨fd,hb,hF⟩:=F w mg fa _ KX G.T.g hmg;exact Z_ KX G.T.g G.T.b G.T.builtins G.T.nolimit hg hobj hints (Nat.le_trans hlen hn2) hr hF hb (fun H hO hS=>hsp w H a ns hlen hO hS) fun H e s'=>hCX w H s₁ e s'
end L2
namespace L2
open PySem PySem.Spec PyProof.Rows
noncomputable def mJ (s:Stmt):Arguments:=match s with
 | .FunctionDef _ a _ _ _ _ _ _ _ _=>a
 | _=>{posonlyargs:=[],args:=[],vararg:=none,kwonlyargs:=[],kw_defaults:=[],kwarg:=none,defaults:=[]}
noncomputable def g_ (s:Stmt):List Stmt:=match s with
 | .FunctionDef _ _ b _ _ _ _ _ _ _=>b
 | _=>[]
noncomputable def aQ (s:Stmt):Scope:=match s with
 | .FunctionDef _ _ _ _ _ _ sc _ _ _=>sc
 | _=>{kind:=.function,names:=[],isGenerator:=false,isCoroutine:=false}
abbrev CX0:CXT:=fun _ _ _ _ _ _=>False
abbrev E0:XK:=fun _ _ _=>False
theorem aIc {X:Cx}:M9 CX0 X E0:=fun _ _ _ _ _ _ _ h=>h.elim
structure Fun (K:PySem.W.Frag) (x qual:Str) (st:Stmt) (f:Addr) (fd:FuncData):Prop where
 ex:∃(oc:Value) (od:Option Addr) (kV doc pm:Value) (an:Option Addr) (cdv ct:Value) (osl:Array (Option Value)),
  fd=PySem.W.fnOf x qual (mJ st) (g_ st) (aQ st) .none kV doc pm an cdv ct/\K.lookup f=some ⟨oc,od,.func fd,osl⟩/\PySem.W.codeIn K cdv qual=true
 kp:PySem.W.keepIn K (.ref f)=true
section
variable {P:Program} {w:World} {K:PySem.W.Frag} {mg:Str->Option Value} {base:Heap}
theorem Fun.ok {x qual:Str} {st:Stmt} {f:Addr} {fd:FuncData} {N ps:List Str} {k:Nat} {sp:Sp} (F:Fun K x qual st f fd) (S:cN N ps (aQ st)) (len:∀vs H Q E,sp vs H Q E->vs.length=ps.length)
  (hbody:∀(cdv:Value) (A:Around) (outer:List Env) (s:Shared) (H:Hp) (vs:List V) (Q:VK) (E:XK),rM k (A.deeper (envOfC qual (aQ st) s.heap.objs.size f cdv))->sp vs H Q E->
   ∃t,PSs (jW CX0 P w K mg base N qual (aQ st) f cdv A outer s H E).nox (g_ st) t/\t {nx:=fun _ H'=>Q .non H',rt:=Q} (start N vs) H):HY P w K mg base CX0 (k+1) f fd ps sp:=by
 obtain ⟨oc,od,kV,doc,pm,an,cdv,ct,osl,rfl,lk,hcd⟩:=F.ex;refine ZW lk hcd S len fun A outer s H vs Q E hr hsp=>?_
 obtain ⟨t,h,q⟩:=hbody cdv A outer s H vs Q E hr hsp;exact ⟨t,h.nox,q⟩
theorem Fun.binds {x qual:Str} {st:Stmt} {f:Addr} {fd:FuncData} {ps:List Str} (F:Fun K x qual st f fd)
  (h:∀(kV doc pm:Value) (an:Option Addr) (cdv ct:Value) (us:List Value),us.length=ps.length->bindArgs (PySem.W.fnOf x qual (mJ st) (g_ st) (aQ st) .none kV doc pm an cdv ct) ⟨us,[]⟩=pure (ps.zip us)):Binds K fd ps []:=by
 obtain ⟨oc,od,kV,doc,pm,an,cdv,ct,osl,rfl,lk,hcd⟩:=F.ex;exact .all (h kV doc pm an cdv ct)
theorem aBu {x qual:Str} {st:Stmt} {f:Addr} {oc:Value} {od an:Option Addr} {osl:Array (Option Value)} {kV doc pm cdv ct:Value} (l:K.lookup f=some ⟨oc,od,.func (PySem.W.fnOf x qual (mJ st) (g_ st) (aQ st) .none kV doc pm an cdv ct),osl⟩)
  (c:PySem.W.codeIn K cdv qual=true) (k:PySem.W.keepIn K (.ref f)=true):Fun K x qual st f (PySem.W.fnOf x qual (mJ st) (g_ st) (aQ st) .none kV doc pm an cdv ct):=⟨⟨oc,od,kV,doc,pm,an,cdv,ct,osl,rfl,l,c⟩,k⟩
end
section
variable {X:Cx}
end
def cZ (H H':Hp):Prop:=∀b o,H b=some o->H' b=some o
theorem cZ.refl (H:Hp):cZ H H:=fun _ _ h=>h
theorem cZ.trans {H H1 H2:Hp} (a:cZ H H1) (b:cZ H1 H2):cZ H H2:=fun c o h=>b c o (a c o h)
theorem cZ.free {H H':Hp} (e:cZ H H') {l:Addr} (h:H' l=Option.none):H l=Option.none:=by
 cases q:H l with
 | none=>rfl
 | some o=>
  rw [e l o q] at h;cases h
section
variable {X:Cx}
end
section
variable {κ:Type} [DecidableEq κ]
theorem aA0 {kvs:List (κ×V)} {k:κ} (h:vZ kvs k=none):¬k∈kvs.map (·.1):=by
 intro m;obtain ⟨p,hp,e⟩:=List.mem_map.mp m;have q:(kvs.any fun kv=>decide (kv.1=k))=true:=List.any_eq_true.mpr ⟨p,hp,decide_eq_true e⟩;rw [qH,h] at q;exact absurd q (by simp)
theorem U_:∀{l:List κ} {k:κ},l.Nodup->¬k∈l->(l++[k]).Nodup
 | [],k,_,_=>by simp
 | a::r,k,h,hk=>by
  obtain ⟨h1,h2⟩:=List.nodup_cons.mp h;show (a::(r++[k])).Nodup;refine List.nodup_cons.mpr ⟨fun m=>?_,U_ h2 fun m=>hk (List.mem_cons.mpr (Or.inr m))⟩;rcases List.mem_append.mp m with q|q
  ·exact h1 q
  ·exact hk (List.mem_cons.mpr (Or.inl (List.mem_singleton.mp q).symm))
theorem aD9 {kvs:List (κ×V)} {k:κ} (v:V) (hn:(kvs.map (·.1)).Nodup) (h:vZ kvs k=none):((putK kvs k v).map (·.1)).Nodup:=by
 rw [Z4 v h,List.map_append];exact U_ hn (aA0 h)
end
end L2
end
section
namespace TS
open PySem PyProof.Rows
noncomputable def VB:Bool->Keyed->Array Keyed->Nat->Nat->Nat->StateT SortSt Sem (Option Nat):=sortPriv% PySem.Builtin.gallop
def yF:Nat->StateT SortSt Sem Unit:=sortPriv% PySem.Builtin.setMinGallop
noncomputable def aA1:Array Keyed->Array Keyed->StateT SortSt Sem (Array Keyed):=sortPriv% PySem.Builtin.mergeLo
noncomputable def aA2:Array Keyed->Array Keyed->StateT SortSt Sem (Array Keyed):=sortPriv% PySem.Builtin.mergeHi
noncomputable def JP (left:Bool) (key:Keyed) (arr:Array Keyed) (base i:Nat):StateT SortSt Sem (Option Bool):=
 elem' arr (base+i) >>= fun x=>if left=true then lt' x key else lt' key x >>= fun r=>pure (Option.map (fun b=>!b) r)
theorem jU {prog:Program} {w:World} {A:Around} {E:Value->Shared->Prop} {s:Shared} {g:Nat} {st:SortSt} {Q:Unit->SortSt->Prop}
  (h:Q () (SortSt.mk' (kindOf st) (arrOf st) (pendingOf st) g (failedOf st))):wpS (model prog w) A E s (yF g) Q st:=wpS_modify h
end TS
end
section
namespace TS
open PySem PyProof.Rows
section
variable {prog:Program} {w:World} {A:Around} {E:Value->Shared->Prop} {s:Shared}
theorem Q8 {left:Bool} {key:Keyed} {arr:Array Keyed} {base n hint:Nat} {st:SortSt} {Q:Option Nat->SortSt->Prop} (p:Nat->Bool)
  (hp:∀i (R:Option Bool->SortSt->Prop),i<n->R (some (p i)) st->wpS (model prog w) A E s (JP left key arr base i) R st)
  (hm:∀i j,i<=j->j<n->p j=true->p i=true) (hh:hint<n)
  (h:∀k,k<=n->(∀i,i<k->p i=true)->(∀i,k<=i->i<n->p i=false)->Q (some k) st) :
  wpS (model prog w) A E s (VB left key arr base n hint) Q st:=by
 with_unfolding_all refine wpS_bind (hp _ _ hh ?_)
 dsimp only;cases hr:p hint with
 | true=>
  simp only [if_true];refine wpS_bind (wpS_mono (wpS_forRange
   (I:=fun x c st'=>st'=st/\∃l o,c=(none,l,o)/\l<o/\x+1<=o/\hint+l<n/\p (hint+l)=true)
   (Q:=fun c st'=>st'=st/\∃l o,c=(none,l,o)/\l<o/\hint+l<n/\p (hint+l)=true/\(n-hint<=o\/(hint+o<n/\p (hint+o)=false))) ?step ?fin ?init) ?post)
  case init=>exact ⟨rfl,0,1,rfl,by lia,by lia,hh,hr⟩
  case fin=>
   rintro c st' ⟨rfl,l,o,rfl,a1,a2,a3,a4⟩;exact ⟨rfl,l,o,rfl,a1,a3,a4,.inl (by lia)⟩
  case step=>
   rintro x c st' _ hx ⟨rfl,l,o,rfl,a1,a2,a3,a4⟩;dsimp only;by_cases hge:o >= n-hint
   ·rw [if_pos hge];exact wpS_pure ⟨rfl,l,o,rfl,a1,a3,a4,.inl hge⟩
   ·rw [if_neg hge];refine wpS_bind (hp _ _ (by lia) ?_);dsimp only;cases hb:p (hint+o) with
    | true=>
     simp only [Bool.not_true,Bool.false_eq_true,if_false];exact wpS_pure ⟨rfl,_,_,rfl,by lia,by lia,by lia,hb⟩
    | false=>
     simp only [Bool.not_false,if_true];exact wpS_pure ⟨rfl,_,_,rfl,a1,a3,a4,.inr ⟨by lia,hb⟩⟩
  case post=>
   rintro c st₀ ⟨rfl,l,o,rfl,a1,a3,a4,a5⟩;dsimp only;have H1:∀i,i<hint+l+1->p i=true:=fun i hi=>hm i (hint+l) (by lia) a3 a4
   have H2:∀i,hint+min o (n-hint)<=i->i<n->p i=false:=by
    intro i i1 i2;rcases a5 with a5|⟨a5,a6⟩
    ·lia
    ·cases hq:p i with
     | false=>rfl
     | true=>rw [hm (hint+o) i (by lia) i2 hq] at a6;cases a6
   refine wpS_bind (wpS_mono (wpS_forRange
    (I:=fun x c st'=>st'=st₀/\∃l r,c=(none,l,r)/\l<=r/\r<=n/\r-l<=n-x/\(∀i,i<l->p i=true)/\(∀i,r<=i->i<n->p i=false))
    (Q:=fun c st'=>st'=st₀/\∃l r,c=(none,l,r)/\l=r/\r<=n/\(∀i,i<l->p i=true)/\(∀i,r<=i->i<n->p i=false)) ?step2 ?fin2 ?init2) ?post2)
   case init2=>exact ⟨rfl,_,_,rfl,by lia,by lia,by lia,H1,H2⟩
   case fin2=>
    rintro c st' ⟨rfl,l,r,rfl,a1,a2,a3,a4,a5⟩;exact ⟨rfl,l,r,rfl,by lia,a2,a4,a5⟩
   case step2=>
    rintro x c st' _ hx ⟨rfl,l,r,rfl,a1,a2,a3,a4,a5⟩;dsimp only;by_cases hge:l >= r
    ·rw [if_pos hge];exact wpS_pure ⟨rfl,l,r,rfl,by lia,a2,a4,a5⟩
    ·rw [if_neg hge];refine wpS_bind (hp _ _ (by lia) ?_);dsimp only;cases hb:p (l+(r-l) / 2) with
     | true=>
      simp only [if_true];exact wpS_pure ⟨rfl,_,_,rfl,by lia,a2,by lia,fun i hi=>hm i _ (by lia) (by lia) hb,a5⟩
     | false=>
      simp only [Bool.false_eq_true,if_false];refine wpS_pure ⟨rfl,_,_,rfl,by lia,by lia,by lia,a4,fun i i1 i2=>?_⟩;cases hq:p i with
      | false=>rfl
      | true=>rw [hm _ i i1 i2 hq] at hb;cases hb
   case post2=>
    rintro c st' ⟨rfl,l,r,rfl,rfl,a2,a4,a5⟩;exact wpS_pure (h l a2 a4 a5)
 | false=>
  simp only [Bool.false_eq_true,if_false];refine wpS_bind (wpS_mono (wpS_forRange
   (I:=fun x c st'=>st'=st/\∃l o,c=(none,l,o)/\l<o/\x+1<=o/\l<=hint/\p (hint-l)=false)
   (Q:=fun c st'=>st'=st/\∃l o,c=(none,l,o)/\l<o/\l<=hint/\p (hint-l)=false/\(hint+1<=o\/(o<=hint/\p (hint-o)=true))) ?step ?fin ?init) ?post)
  case init=>exact ⟨rfl,0,1,rfl,by lia,by lia,by lia,hr⟩
  case fin=>
   rintro c st' ⟨rfl,l,o,rfl,a1,a2,a3,a4⟩;exact ⟨rfl,l,o,rfl,a1,a3,a4,.inl (by lia)⟩
  case step=>
   rintro x c st' _ hx ⟨rfl,l,o,rfl,a1,a2,a3,a4⟩;dsimp only;by_cases hge:o >= hint+1
   ·rw [if_pos hge];exact wpS_pure ⟨rfl,l,o,rfl,a1,a3,a4,.inl hge⟩
   ·rw [if_neg hge];refine wpS_bind (hp _ _ (by lia) ?_);dsimp only;cases hb:p (hint-o) with
    | false=>
     simp only [Bool.false_eq_true,if_false];exact wpS_pure ⟨rfl,_,_,rfl,by lia,by lia,by lia,hb⟩
    | true=>
     simp only [if_true];exact wpS_pure ⟨rfl,_,_,rfl,a1,a3,a4,.inr ⟨by lia,hb⟩⟩
  case post=>
   rintro c st₀ ⟨rfl,l,o,rfl,a1,a3,a4,a5⟩;dsimp only;have H1:∀i,i<hint+1-min o (hint+1)->p i=true:=by
    intro i hi;rcases a5 with a5|⟨a5,a6⟩
    ·lia
    ·exact hm i (hint-o) (by lia) (by lia) a6
   have H2:∀i,hint-l<=i->i<n->p i=false:=by
    intro i i1 i2;cases hq:p i with
    | false=>rfl
    | true=>rw [hm (hint-l) i (by lia) i2 hq] at a4;cases a4
   refine wpS_bind (wpS_mono (wpS_forRange
    (I:=fun x c st'=>st'=st₀/\∃l r,c=(none,l,r)/\l<=r/\r<=n/\r-l<=n-x/\(∀i,i<l->p i=true)/\(∀i,r<=i->i<n->p i=false))
    (Q:=fun c st'=>st'=st₀/\∃l r,c=(none,l,r)/\l=r/\r<=n/\(∀i,i<l->p i=true)/\(∀i,r<=i->i<n->p i=false)) ?step2 ?fin2 ?init2) ?post2)
   case init2=>exact ⟨rfl,_,_,rfl,by lia,by lia,by lia,H1,H2⟩
   case fin2=>
    rintro c st' ⟨rfl,l,r,rfl,a1,a2,a3,a4,a5⟩;exact ⟨rfl,l,r,rfl,by lia,a2,a4,a5⟩
   case step2=>
    rintro x c st' _ hx ⟨rfl,l,r,rfl,a1,a2,a3,a4,a5⟩;dsimp only;by_cases hge:l >= r
    ·rw [if_pos hge];exact wpS_pure ⟨rfl,l,r,rfl,by lia,a2,a4,a5⟩
    ·rw [if_neg hge];refine wpS_bind (hp _ _ (by lia) ?_);dsimp only;cases hb:p (l+(r-l) / 2) with
     | true=>
      simp only [if_true];exact wpS_pure ⟨rfl,_,_,rfl,by lia,a2,by lia,fun i hi=>hm i _ (by lia) (by lia) hb,a5⟩
     | false=>
      simp only [Bool.false_eq_true,if_false];refine wpS_pure ⟨rfl,_,_,rfl,by lia,by lia,by lia,a4,fun i i1 i2=>?_⟩;cases hq:p i with
      | false=>rfl
      | true=>rw [hm _ i i1 i2 hq] at hb;cases hb
   case post2=>
    rintro c st' ⟨rfl,l,r,rfl,rfl,a2,a4,a5⟩;exact wpS_pure (h l a2 a4 a5)
end
end TS
end
section
namespace TS
open PySem PyProof.Rows
structure Ord (U:Keyed->Prop) (blt:Keyed->Keyed->Bool):Prop where
 irr:∀x,U x->blt x x=false
 tr:∀x y z,U x->U y->U z->blt x y=true->blt y z=true->blt x z=true
 ntr:∀x y z,U x->U y->U z->blt x z=true->blt x y=true\/blt y z=true
abbrev dk:Keyed:=(.none,.none)
def gt (a:Array Keyed) (i:Nat):Keyed:=a.getD i dk
theorem nY {a:Array Keyed} {i:Nat} (h:i<a.size):a[i]?=some (gt a i):=by
 unfold gt;simp [Array.getD,h]
def qI (U:Keyed->Prop) (a:Array Keyed):Prop:=∀i,i<a.size->U (gt a i)
noncomputable def Srt (blt:Keyed->Keyed->Bool) (a:Array Keyed) (lo hi:Nat):Prop:=∀i j,lo<=i->i<=j->j<hi->blt (gt a j) (gt a i)=false
noncomputable def Q9 (prog:Program) (w:World) (A:Around) (E:Value->Shared->Prop) (s:Shared) (kd:SortKind) (U:Keyed->Prop) (blt:Keyed->Keyed->Bool):Prop:=
 ∀(x y:Keyed) (st:SortSt) (Q:Option Bool->SortSt->Prop),U x->U y->kindOf st=kd->Q (some (blt x y)) st->wpS (model prog w) A E s (lt' x y) Q st
section
variable {prog:Program} {w:World} {A:Around} {E:Value->Shared->Prop} {s:Shared} {kd:SortKind} {U:Keyed->Prop} {blt:Keyed->Keyed->Bool}
theorem aW {arr:Array Keyed} {i:Nat} {st:SortSt} {Q:Keyed->SortSt->Prop} (hi:i<arr.size) (h:Q (gt arr i) st):wpS (model prog w) A E s (elem' arr i) Q st:=by
 rw [elem'_eq,nY hi];exact wpS_pure h
noncomputable def gp (blt:Keyed->Keyed->Bool) (left:Bool) (key:Keyed) (arr:Array Keyed) (base i:Nat):Bool:=if left then blt (gt arr (base+i)) key else !blt key (gt arr (base+i))
theorem Q_ (hL:Q9 prog w A E s kd U blt) {left:Bool} {key:Keyed} {arr:Array Keyed} {base i:Nat} {st:SortSt} {R:Option Bool->SortSt->Prop} (hk:kindOf st=kd) (hi:base+i<arr.size) (hU:qI U arr) (hK:U key)
  (h:R (some (gp blt left key arr base i)) st):wpS (model prog w) A E s (JP left key arr base i) R st:=by
 unfold JP;refine wpS_bind (aW hi ?_);unfold gp at h;cases left with
 | true=>
  simp only [if_true] at h ⊢;exact hL _ _ _ _ (hU _ hi) hK hk h
 | false=>
  simp only [Bool.false_eq_true,if_false] at h ⊢;refine wpS_bind (hL _ _ _ _ hK (hU _ hi) hk (wpS_pure ?_));exact h
theorem aDa (O:Ord U blt) {left:Bool} {key:Keyed} {arr:Array Keyed} {base n:Nat} (hn:base+n<=arr.size) (hU:qI U arr) (hK:U key) (hs:Srt blt arr base (base+n)) :
  ∀i j,i<=j->j<n->gp blt left key arr base j=true->gp blt left key arr base i=true:=by
 intro i j hij hj h;have h0:=hs (base+i) (base+j) (by lia) (by lia) (by lia);have ui:=hU (base+i) (by lia);have uj:=hU (base+j) (by lia);unfold gp at h ⊢;cases left with
 | true=>
  simp only [if_true] at h ⊢;rcases O.ntr _ (gt arr (base+i)) _ uj ui hK h with q|q
  ·rw [h0] at q;cases q
  ·exact q
 | false=>
  simp only [Bool.false_eq_true,if_false] at h ⊢;cases q:blt key (gt arr (base+i)) with
  | false=>rfl
  | true=>
   rcases O.ntr _ (gt arr (base+j)) _ hK uj ui q with z|z
   ·rw [z] at h;cases h
   ·rw [h0] at z;cases z
theorem iG (O:Ord U blt) (hL:Q9 prog w A E s kd U blt) {left:Bool} {key:Keyed} {arr:Array Keyed} {base n hint:Nat} {st:SortSt} {Q:Option Nat->SortSt->Prop} (hk:kindOf st=kd) (hn:base+n<=arr.size) (hU:qI U arr) (hK:U key)
  (hs:Srt blt arr base (base+n)) (hh:hint<n)
  (h:∀k,k<=n->(∀i,i<k->gp blt left key arr base i=true)->(∀i,k<=i->i<n->gp blt left key arr base i=false)->Q (some k) st):wpS (model prog w) A E s (VB left key arr base n hint) Q st:=
 Q8 (gp blt left key arr base) (fun i R hi r=>Q_ hL hk (by lia) hU hK r) (aDa O hn hU hK hs) hh h
end
section
variable (blt:Keyed->Keyed->Bool)
abbrev le (x y:Keyed):Bool:=!blt y x
def mrg (xs ys:List Keyed):List Keyed:=xs.merge ys (le blt)
variable {blt}
theorem nZ {a:Array Keyed} {i:Nat} (h:i<a.size):a.toList.drop i=gt a i::a.toList.drop (i+1):=by
 rw [List.drop_eq_getElem_cons (by simpa using h)]
 congr 1
 unfold gt;simp [Array.getD,h]
theorem yG {a:Array Keyed} {i:Nat} (h:a.size<=i):a.toList.drop i=[]:=List.drop_of_length_le (by simpa using h)
theorem n6 (xs:List Keyed):mrg blt xs []=xs:=List.merge_right xs
theorem pH (ys:List Keyed):mrg blt [] ys=ys:=List.nil_merge ys
theorem jA (x y:Keyed) (xs ys:List Keyed):mrg blt (x::xs) (y::ys)=if blt y x then y::mrg blt (x::xs) ys else x::mrg blt xs (y::ys):=by
 unfold mrg;rw [List.cons_merge_cons];cases h:blt y x <;> simp [le,h]
noncomputable def J (blt:Keyed->Keyed->Bool) (a b:Array Keyed) (out:Array Keyed) (ia ib:Nat):Prop:=
 out.toList++mrg blt (a.toList.drop ia) (b.toList.drop ib)=mrg blt a.toList b.toList
variable {a b out:Array Keyed} {ia ib:Nat}
theorem J.pb (h:J blt a b out ia ib) (ha:ia<a.size) (hb:ib<b.size) (q:blt (gt b ib) (gt a ia)=true):J blt a b (out.push (gt b ib)) ia (ib+1):=by
 unfold J at h ⊢;rw [<-h,nZ ha,nZ hb,jA,if_pos q,<-nZ ha];simp
theorem J.pa (h:J blt a b out ia ib) (ha:ia<a.size) (hb:ib<b.size) (q:blt (gt b ib) (gt a ia)=false):J blt a b (out.push (gt a ia)) (ia+1) ib:=by
 unfold J at h ⊢;rw [<-h,nZ ha,nZ hb,jA,if_neg (by simp [q]),<-nZ hb];simp
theorem NK {a:Array Keyed} {i k:Nat} (h:i+k<a.size) (out:Array Keyed):out++a.extract i (i+(k+1))=(out++a.extract i (i+k)).push (gt a (i+k)):=by
 apply Array.toList_inj.mp;simp only [Array.toList_append,Array.toList_extract,List.extract_eq_take_drop,Array.toList_push];rw [show i+(k+1)-i=k+1 by lia,show i+k-i=k by lia,List.take_add_one,List.append_assoc]
 congr 2
 rw [List.getElem?_drop];have:a.toList[i+k]?=some (gt a (i+k)):=by rw [Array.getElem?_toList];exact nY h
 rw [this];rfl
theorem NP (a:Array Keyed) (i:Nat) (out:Array Keyed):out++a.extract i (i+0)=out:=by
 apply Array.toList_inj.mp;simp
theorem J.ga (h:J blt a b out ia ib) (hb:ib<b.size):∀k,ia+k<=a.size->(∀i,i<k->blt (gt b ib) (gt a (ia+i))=false)->J blt a b (out++a.extract ia (ia+k)) (ia+k) ib
 | 0,_,_=>by rw [NP];exact h
 | k+1,hk,q=>by
  have ih:=J.ga h hb k (by lia) fun i hi=>q i (by lia)
  rw [NK (by lia)];exact J.pa ih (by lia) hb (q k (by lia))
theorem J.gb (h:J blt a b out ia ib) (ha:ia<a.size):∀k,ib+k<=b.size->(∀i,i<k->blt (gt b (ib+i)) (gt a ia)=true)->J blt a b (out++b.extract ib (ib+k)) ia (ib+k)
 | 0,_,_=>by rw [NP];exact h
 | k+1,hk,q=>by
  have ih:=J.gb h ha k (by lia) fun i hi=>q i (by lia)
  rw [NK (by lia)];exact J.pb ih ha (by lia) (q k (by lia))
theorem oX (a:Array Keyed) (i:Nat):(a.extract i a.size).toList=a.toList.drop i:=by
 simp [Array.toList_extract,List.extract_eq_take_drop,List.take_of_length_le]
theorem J.pI (h:J blt a b out ia ib) (hb:ib=b.size):(out++a.extract ia a.size++b.extract ib b.size).toList=mrg blt a.toList b.toList:=by
 rw [<-h,Array.toList_append,Array.toList_append,oX,oX,yG (Nat.le_of_eq hb.symm),n6];simp
theorem J.pJ (h:J blt a b out ia ib) (ha:ia=a.size):(out++a.extract ia a.size++b.extract ib b.size).toList=mrg blt a.toList b.toList:=by
 rw [<-h,Array.toList_append,Array.toList_append,oX,oX,yG (Nat.le_of_eq ha.symm),pH];simp
theorem yH (x:Keyed):∀ys:List Keyed,(∀y∈ys,blt y x=true)->mrg blt [x] ys=ys++[x]
 | [],_=>n6 _
 | y::ys,h=>by
  rw [jA,if_pos (h y (List.mem_cons_self ..)),yH x ys fun z hz=>h z (List.mem_cons_of_mem _ hz)];rfl
theorem aBv {a:Array Keyed} {x:Keyed} (h:x∈a.toList):∃i,i<a.size/\x=gt a i:=by
 obtain ⟨i,hi,e⟩:=List.getElem_of_mem h;refine ⟨i,by simpa using hi,?_⟩;unfold gt;rw [<-e];have hi':i<a.size:=by simpa using hi
 simp [Array.getD,hi']
theorem J.last (h:J blt a b out ia ib) (ha:ia+1=a.size) (q:∀i,i<b.size->blt (gt b i) (gt a ia)=true):(out++b.extract ib b.size++a.extract ia a.size).toList=mrg blt a.toList b.toList:=by
 rw [<-h,Array.toList_append,Array.toList_append,oX,oX,nZ (by lia:ia<a.size),yG (a:=a) (i:=ia+1) (by lia),yH,List.append_assoc];intro y hy;obtain ⟨i,hi,e⟩:=aBv (List.mem_of_mem_drop hy);rw [e];exact q i hi
end
end TS
end
section
namespace TS
open PySem PyProof.Rows
structure Sim (st st':SortSt):Prop where
 kd:kindOf st'=kindOf st
 ar:arrOf st'=arrOf st
 pd:pendingOf st'=pendingOf st
 fl:failedOf st'=failedOf st
section
variable {prog:Program} {w:World} {A:Around} {E:Value->Shared->Prop} {s:Shared} {kd:SortKind} {U:Keyed->Prop} {blt:Keyed->Keyed->Bool}
theorem JQ (O:Ord U blt) (hL:Q9 prog w A E s kd U blt) {a b:Array Keyed} {st:SortSt} {Q:Array Keyed->SortSt->Prop} (hk:kindOf st=kd) (hUa:qI U a) (hUb:qI U b) (hsa:Srt blt a 0 a.size) (hsb:Srt blt b 0 b.size)
  (ha:0<a.size) (hb:0<b.size) (hf:blt (gt b 0) (gt a 0)=true) (hl:∀i,i<b.size->blt (gt b i) (gt a (a.size-1))=true)
  (h:∀r st',Sim st st'->r.toList=mrg blt a.toList b.toList->Q r st'):wpS (model prog w) A E s (aA1 a b) Q st:=by
 have lastAt:∀{j:Nat},j+1=a.size->∀i,i<b.size->blt (gt b i) (gt a j)=true:=fun {j} hj i hi=>by
  have:=hl i hi;rwa [show a.size-1=j by lia] at this
 with_unfolding_all refine wpS_bind (wpS_lift (wpAny_rule ⟨rfl,?_⟩))
 dsimp only;refine wpS_bind (aW hb ?_)
 try dsimp only
 have J0:J blt a b #[gt b 0] 0 1:=J.pb (out:=#[]) (by unfold J;simp) ha hb hf;have sim0:Sim st st:=⟨rfl,rfl,rfl,rfl⟩
 by_cases e1:1=b.size
 ·rw [if_pos (by simpa using e1)];exact wpS_pure (h _ _ sim0 (J0.pI e1))
 rw [if_neg (by simpa using e1)];by_cases e2:0+1=a.size
 ·rw [if_pos (by simpa using e2)];exact wpS_pure (h _ _ sim0 (J0.last e2 (lastAt e2)))
 rw [if_neg (by simpa using e2)];refine wpS_bind (wpS_get ?_);refine wpS_bind (wpS_mono (wpS_forRange
  (I:=fun x c st'=>Sim st st'/\∃out ia ib mg,c=(none,out,ia,ib,mg)/\J blt a b out ia ib/\ia+1<a.size/\ib<b.size/\x<=ia+ib)
  (Q:=fun c st'=>Sim st st'/\∃r,c.1=some r/\r.toList=mrg blt a.toList b.toList) ?step ?fin ?init) ?post)
 case init=>exact ⟨sim0,_,_,_,_,rfl,J0,by lia,by lia,by lia⟩
 case fin=>
  rintro c st' ⟨_,out,ia,ib,mg,rfl,_,h1,h2,h3⟩;lia
 case post=>
  rintro ⟨c1,c2⟩ st' ⟨sim,r,e,hr⟩;dsimp only at e;subst e;exact wpS_pure (h r st' sim hr)
 case step=>
  rintro x₀ c st1 _ hx0 ⟨sim,out,ia,ib,mg,rfl,j1,h1,h2,h3⟩;dsimp only;refine wpS_bind (wpS_mono (wpS_forRange
   (I:=fun x c st'=>Sim st st'/\∃out ia ib ac bc,c=(none,out,ia,ib,ac,bc)/\J blt a b out ia ib/\ia+1<a.size/\ib<b.size/\x₀<=ia+ib/\x<=ia+ib)
   (Q:=fun c st'=>Sim st st'/\((∃r,c.1=some r/\r.toList=mrg blt a.toList b.toList)\/∃out ia ib ac bc,c=(none,out,ia,ib,ac,bc)/\J blt a b out ia ib/\ia+1<a.size/\ib<b.size/\x₀+1<=ia+ib)) ?step2 ?fin2 ?init2) ?post2)
  case init2=>exact ⟨sim,_,_,_,_,_,rfl,j1,h1,h2,h3,by lia⟩
  case fin2=>
   rintro c st' ⟨_,out,ia,ib,ac,bc,rfl,_,h1,h2,_,h3⟩;lia
  case step2=>
   rintro x c st2 _ hx ⟨sim,out,ia,ib,ac,bc,rfl,j2,h1,h2,h3,h4⟩;dsimp only;refine wpS_bind (aW h2 (wpS_bind (aW (by lia) (wpS_bind (hL _ _ _ _ (hUb _ h2) (hUa _ (by lia)) (sim.1.trans hk) ?_)))));dsimp only;cases q:blt (gt b ib) (gt a ia) with
   | true=>
    simp only [if_true];refine wpS_bind (aW h2 ?_);have j3:=J.pb j2 (by lia) h2 q;by_cases e3:ib+1=b.size
    ·rw [if_pos (by simpa using e3)];exact wpS_pure ⟨sim,.inl ⟨_,rfl,j3.pI e3⟩⟩
    ·rw [if_neg (by simpa using e3)];split
     ·exact wpS_pure ⟨sim,.inr ⟨_,_,_,_,_,rfl,j3,by lia,by lia,by lia⟩⟩
     ·exact wpS_pure ⟨sim,_,_,_,_,_,rfl,j3,by lia,by lia,by lia,by lia⟩
   | false=>
    simp only [Bool.false_eq_true,if_false];refine wpS_bind (aW (by lia) ?_);have j3:=J.pa j2 (by lia) h2 q;by_cases e3:ia+1+1=a.size
    ·rw [if_pos (by simpa using e3)];exact wpS_pure ⟨sim,.inl ⟨_,rfl,j3.last e3 (lastAt e3)⟩⟩
    ·rw [if_neg (by simpa using e3)];split
     ·exact wpS_pure ⟨sim,.inr ⟨_,_,_,_,_,rfl,j3,by lia,by lia,by lia⟩⟩
     ·exact wpS_pure ⟨sim,_,_,_,_,_,rfl,j3,by lia,by lia,by lia,by lia⟩
  case post2=>
   rintro ⟨c1,c2⟩ st2 ⟨sim,⟨r,e,hr⟩|⟨out,ia,ib,ac,bc,e,j2,h1,h2,h3⟩⟩
   ·dsimp only at e;subst e;exact wpS_pure ⟨sim,r,rfl,hr⟩
   ·cases e;dsimp only;refine wpS_bind (wpS_lift (wpAny_rule ⟨rfl,?_⟩));refine wpS_bind (wpS_mono (wpS_forRange
     (I:=fun x c st'=>Sim st st'/\∃out ia ib mg ac bc,c=(none,out,ia,ib,mg,ac,bc)/\J blt a b out ia ib/\ia+1<a.size/\ib<b.size/\x₀+1<=ia+ib/\x<=ia+ib)
     (Q:=fun c st'=>Sim st st'/\((∃r,c.1=some r/\r.toList=mrg blt a.toList b.toList)\/∃out ia ib mg ac bc,c=(none,out,ia,ib,mg,ac,bc)/\J blt a b out ia ib/\ia+1<a.size/\ib<b.size/\x₀+1<=ia+ib)) ?step3 ?fin3 ?init3) ?post3)
    case init3=>exact ⟨sim,_,_,_,_,_,_,rfl,j2,h1,h2,h3,by lia⟩
    case fin3=>
     rintro c st' ⟨_,out,ia,ib,mg,ac,bc,rfl,_,h1,h2,_,h3⟩;lia
    case post3=>
     rintro ⟨c1,c2⟩ st3 ⟨sim,⟨r,e,hr⟩|⟨out,ia,ib,mg,ac,bc,e,j3,h1,h2,h3⟩⟩
     ·dsimp only at e;subst e;exact wpS_pure ⟨sim,r,rfl,hr⟩
     ·cases e;dsimp only;refine wpS_bind (jU (wpS_pure ⟨⟨sim.1,sim.2,sim.3,sim.4⟩,_,_,_,_,rfl,j3,h1,h2,by lia⟩))
    case step3=>
     rintro x c st3 _ hx ⟨sim,out,ia,ib,mg,ac,bc,rfl,j3,h1,h2,h3,h4⟩;dsimp only;by_cases hg:mg > 1
     ·rw [if_pos hg];refine wpS_bind (jU ?_);have sim':Sim st (SortSt.mk' (kindOf st3) (arrOf st3) (pendingOf st3) (mg-1) (failedOf st3)):=⟨sim.1,sim.2,sim.3,sim.4⟩
      have hk':kindOf (SortSt.mk' (kindOf st3) (arrOf st3) (pendingOf st3) (mg-1) (failedOf st3))=kd:=sim.1.trans hk;refine wpS_bind (aW (by lia) ?_);refine wpS_bind (iG O hL hk' (by lia) hUa (hUb _ (by lia)) (fun i j i1 i2 i3=>hsa i j (by lia) i2 (by lia)) (by lia) fun k hk1 y1 y2=>?_)
      try dsimp only
      by_cases kp:k > 0
      ·rw [if_pos kp];have J1:=J.ga j3 (by lia) k (by lia) (fun i hi=>by have:=y1 i hi;simpa [gp] using this);by_cases e1:ia+k+1=a.size
       ·rw [if_pos (by simpa using e1)];exact wpS_pure ⟨sim',.inl ⟨_,rfl,J1.last e1 (lastAt (by lia))⟩⟩
       ·rw [if_neg (by simpa using e1)];by_cases e1':ia+k=a.size
        ·rw [if_pos (by simpa using e1')];exact wpS_pure ⟨sim',.inl ⟨_,rfl,J1.pJ e1'⟩⟩
        ·rw [if_neg (by simpa using e1')];have hz1:blt (gt b ib) (gt a (ia+k))=true:=(by have:=y2 k (Nat.le_refl _) (by lia);simpa [gp] using this)
         refine wpS_bind (aW (by lia) ?_)
         try dsimp only
         have J2:=J.pb J1 (by lia) (by lia) hz1;by_cases e2:ib+1=b.size
         ·rw [if_pos (by simpa using e2)];exact wpS_pure ⟨sim',.inl ⟨_,rfl,J2.pI e2⟩⟩
         ·rw [if_neg (by simpa using e2)];refine wpS_bind (aW (by lia) ?_);refine wpS_bind (iG O hL hk' (by lia) hUb (hUa _ (by lia)) (fun i j i1 i2 i3=>hsb i j (by lia) i2 (by lia)) (by lia) fun k1 hk1 y1 y2=>?_)
          try dsimp only
          by_cases k1p:k1 > 0
          ·rw [if_pos k1p];have J3:=J.gb J2 (by lia) k1 (by lia) (fun i hi=>by have:=y1 i hi;simpa [gp] using this);by_cases e3:ib+1+k1=b.size
           ·rw [if_pos (by simpa using e3)];exact wpS_pure ⟨sim',.inl ⟨_,rfl,J3.pI e3⟩⟩
           ·rw [if_neg (by simpa using e3)];have hz2:blt (gt b (ib+1+k1)) (gt a (ia+k))=false:=(by have:=y2 k1 (Nat.le_refl _) (by lia);simpa [gp] using this)
            refine wpS_bind (aW (by lia) ?_)
            try dsimp only
            have J4:=J.pa J3 (by lia) (by lia) hz2;by_cases e4:(ia+k)+1+1=a.size
            ·rw [if_pos (by simpa using e4)];exact wpS_pure ⟨sim',.inl ⟨_,rfl,J4.last e4 (lastAt (by lia))⟩⟩
            ·rw [if_neg (by simpa using e4)];split
             ·exact wpS_pure ⟨sim',.inr ⟨_,_,_,_,_,_,rfl,J4,by lia,by lia,by lia⟩⟩
             ·exact wpS_pure ⟨sim',_,_,_,_,_,_,rfl,J4,by lia,by lia,by lia,by lia⟩
          ·rw [if_neg k1p];obtain rfl:k1=0:=by lia
           have J3:=J2;have hz2:blt (gt b (ib+1)) (gt a (ia+k))=false:=(by have:=y2 0 (Nat.le_refl _) (by lia);simpa [gp] using this)
           refine wpS_bind (aW (by lia) ?_)
           try dsimp only
           have J4:=J.pa J3 (by lia) (by lia) hz2;by_cases e4:(ia+k)+1+1=a.size
           ·rw [if_pos (by simpa using e4)];exact wpS_pure ⟨sim',.inl ⟨_,rfl,J4.last e4 (lastAt (by lia))⟩⟩
           ·rw [if_neg (by simpa using e4)];split
            ·exact wpS_pure ⟨sim',.inr ⟨_,_,_,_,_,_,rfl,J4,by lia,by lia,by lia⟩⟩
            ·exact wpS_pure ⟨sim',_,_,_,_,_,_,rfl,J4,by lia,by lia,by lia,by lia⟩
      ·rw [if_neg kp];obtain rfl:k=0:=by lia
       have J1:=j3;have hz1:blt (gt b ib) (gt a ia)=true:=(by have:=y2 0 (Nat.le_refl _) (by lia);simpa [gp] using this)
       refine wpS_bind (aW (by lia) ?_)
       try dsimp only
       have J2:=J.pb J1 (by lia) (by lia) hz1;by_cases e2:ib+1=b.size
       ·rw [if_pos (by simpa using e2)];exact wpS_pure ⟨sim',.inl ⟨_,rfl,J2.pI e2⟩⟩
       ·rw [if_neg (by simpa using e2)];refine wpS_bind (aW (by lia) ?_);refine wpS_bind (iG O hL hk' (by lia) hUb (hUa _ (by lia)) (fun i j i1 i2 i3=>hsb i j (by lia) i2 (by lia)) (by lia) fun k1 hk1 y1 y2=>?_)
        try dsimp only
        by_cases k1p:k1 > 0
        ·rw [if_pos k1p];have J3:=J.gb J2 (by lia) k1 (by lia) (fun i hi=>by have:=y1 i hi;simpa [gp] using this);by_cases e3:ib+1+k1=b.size
         ·rw [if_pos (by simpa using e3)];exact wpS_pure ⟨sim',.inl ⟨_,rfl,J3.pI e3⟩⟩
         ·rw [if_neg (by simpa using e3)];have hz2:blt (gt b (ib+1+k1)) (gt a ia)=false:=(by have:=y2 k1 (Nat.le_refl _) (by lia);simpa [gp] using this)
          refine wpS_bind (aW (by lia) ?_)
          try dsimp only
          have J4:=J.pa J3 (by lia) (by lia) hz2;by_cases e4:ia+1+1=a.size
          ·rw [if_pos (by simpa using e4)];exact wpS_pure ⟨sim',.inl ⟨_,rfl,J4.last e4 (lastAt (by lia))⟩⟩
          ·rw [if_neg (by simpa using e4)];split
           ·exact wpS_pure ⟨sim',.inr ⟨_,_,_,_,_,_,rfl,J4,by lia,by lia,by lia⟩⟩
           ·exact wpS_pure ⟨sim',_,_,_,_,_,_,rfl,J4,by lia,by lia,by lia,by lia⟩
        ·rw [if_neg k1p];obtain rfl:k1=0:=by lia
         have J3:=J2;have hz2:blt (gt b (ib+1)) (gt a ia)=false:=(by have:=y2 0 (Nat.le_refl _) (by lia);simpa [gp] using this)
         refine wpS_bind (aW (by lia) ?_)
         try dsimp only
         have J4:=J.pa J3 (by lia) (by lia) hz2;by_cases e4:ia+1+1=a.size
         ·rw [if_pos (by simpa using e4)];exact wpS_pure ⟨sim',.inl ⟨_,rfl,J4.last e4 (lastAt (by lia))⟩⟩
         ·rw [if_neg (by simpa using e4)];split
          ·exact wpS_pure ⟨sim',.inr ⟨_,_,_,_,_,_,rfl,J4,by lia,by lia,by lia⟩⟩
          ·exact wpS_pure ⟨sim',_,_,_,_,_,_,rfl,J4,by lia,by lia,by lia,by lia⟩
     ·rw [if_neg hg];refine wpS_bind (jU ?_);have sim':Sim st (SortSt.mk' (kindOf st3) (arrOf st3) (pendingOf st3) mg (failedOf st3)):=⟨sim.1,sim.2,sim.3,sim.4⟩
      have hk':kindOf (SortSt.mk' (kindOf st3) (arrOf st3) (pendingOf st3) mg (failedOf st3))=kd:=sim.1.trans hk;refine wpS_bind (aW (by lia) ?_);refine wpS_bind (iG O hL hk' (by lia) hUa (hUb _ (by lia)) (fun i j i1 i2 i3=>hsa i j (by lia) i2 (by lia)) (by lia) fun k hk1 y1 y2=>?_)
      try dsimp only
      by_cases kp:k > 0
      ·rw [if_pos kp];have J1:=J.ga j3 (by lia) k (by lia) (fun i hi=>by have:=y1 i hi;simpa [gp] using this);by_cases e1:ia+k+1=a.size
       ·rw [if_pos (by simpa using e1)];exact wpS_pure ⟨sim',.inl ⟨_,rfl,J1.last e1 (lastAt (by lia))⟩⟩
       ·rw [if_neg (by simpa using e1)];by_cases e1':ia+k=a.size
        ·rw [if_pos (by simpa using e1')];exact wpS_pure ⟨sim',.inl ⟨_,rfl,J1.pJ e1'⟩⟩
        ·rw [if_neg (by simpa using e1')];have hz1:blt (gt b ib) (gt a (ia+k))=true:=(by have:=y2 k (Nat.le_refl _) (by lia);simpa [gp] using this)
         refine wpS_bind (aW (by lia) ?_)
         try dsimp only
         have J2:=J.pb J1 (by lia) (by lia) hz1;by_cases e2:ib+1=b.size
         ·rw [if_pos (by simpa using e2)];exact wpS_pure ⟨sim',.inl ⟨_,rfl,J2.pI e2⟩⟩
         ·rw [if_neg (by simpa using e2)];refine wpS_bind (aW (by lia) ?_);refine wpS_bind (iG O hL hk' (by lia) hUb (hUa _ (by lia)) (fun i j i1 i2 i3=>hsb i j (by lia) i2 (by lia)) (by lia) fun k1 hk1 y1 y2=>?_)
          try dsimp only
          by_cases k1p:k1 > 0
          ·rw [if_pos k1p];have J3:=J.gb J2 (by lia) k1 (by lia) (fun i hi=>by have:=y1 i hi;simpa [gp] using this);by_cases e3:ib+1+k1=b.size
           ·rw [if_pos (by simpa using e3)];exact wpS_pure ⟨sim',.inl ⟨_,rfl,J3.pI e3⟩⟩
           ·rw [if_neg (by simpa using e3)];have hz2:blt (gt b (ib+1+k1)) (gt a (ia+k))=false:=(by have:=y2 k1 (Nat.le_refl _) (by lia);simpa [gp] using this)
            refine wpS_bind (aW (by lia) ?_)
            try dsimp only
            have J4:=J.pa J3 (by lia) (by lia) hz2;by_cases e4:(ia+k)+1+1=a.size
            ·rw [if_pos (by simpa using e4)];exact wpS_pure ⟨sim',.inl ⟨_,rfl,J4.last e4 (lastAt (by lia))⟩⟩
            ·rw [if_neg (by simpa using e4)];split
             ·exact wpS_pure ⟨sim',.inr ⟨_,_,_,_,_,_,rfl,J4,by lia,by lia,by lia⟩⟩
             ·exact wpS_pure ⟨sim',_,_,_,_,_,_,rfl,J4,by lia,by lia,by lia,by lia⟩
          ·rw [if_neg k1p];obtain rfl:k1=0:=by lia
           have J3:=J2;have hz2:blt (gt b (ib+1)) (gt a (ia+k))=false:=(by have:=y2 0 (Nat.le_refl _) (by lia);simpa [gp] using this)
           refine wpS_bind (aW (by lia) ?_)
           try dsimp only
           have J4:=J.pa J3 (by lia) (by lia) hz2;by_cases e4:(ia+k)+1+1=a.size
           ·rw [if_pos (by simpa using e4)];exact wpS_pure ⟨sim',.inl ⟨_,rfl,J4.last e4 (lastAt (by lia))⟩⟩
           ·rw [if_neg (by simpa using e4)];split
            ·exact wpS_pure ⟨sim',.inr ⟨_,_,_,_,_,_,rfl,J4,by lia,by lia,by lia⟩⟩
            ·exact wpS_pure ⟨sim',_,_,_,_,_,_,rfl,J4,by lia,by lia,by lia,by lia⟩
      ·rw [if_neg kp];obtain rfl:k=0:=by lia
       have J1:=j3;have hz1:blt (gt b ib) (gt a ia)=true:=(by have:=y2 0 (Nat.le_refl _) (by lia);simpa [gp] using this)
       refine wpS_bind (aW (by lia) ?_)
       try dsimp only
       have J2:=J.pb J1 (by lia) (by lia) hz1;by_cases e2:ib+1=b.size
       ·rw [if_pos (by simpa using e2)];exact wpS_pure ⟨sim',.inl ⟨_,rfl,J2.pI e2⟩⟩
       ·rw [if_neg (by simpa using e2)];refine wpS_bind (aW (by lia) ?_);refine wpS_bind (iG O hL hk' (by lia) hUb (hUa _ (by lia)) (fun i j i1 i2 i3=>hsb i j (by lia) i2 (by lia)) (by lia) fun k1 hk1 y1 y2=>?_)
        try dsimp only
        by_cases k1p:k1 > 0
        ·rw [if_pos k1p];have J3:=J.gb J2 (by lia) k1 (by lia) (fun i hi=>by have:=y1 i hi;simpa [gp] using this);by_cases e3:ib+1+k1=b.size
         ·rw [if_pos (by simpa using e3)];exact wpS_pure ⟨sim',.inl ⟨_,rfl,J3.pI e3⟩⟩
         ·rw [if_neg (by simpa using e3)];have hz2:blt (gt b (ib+1+k1)) (gt a ia)=false:=(by have:=y2 k1 (Nat.le_refl _) (by lia);simpa [gp] using this)
          refine wpS_bind (aW (by lia) ?_)
          try dsimp only
          have J4:=J.pa J3 (by lia) (by lia) hz2;by_cases e4:ia+1+1=a.size
          ·rw [if_pos (by simpa using e4)];exact wpS_pure ⟨sim',.inl ⟨_,rfl,J4.last e4 (lastAt (by lia))⟩⟩
          ·rw [if_neg (by simpa using e4)];split
           ·exact wpS_pure ⟨sim',.inr ⟨_,_,_,_,_,_,rfl,J4,by lia,by lia,by lia⟩⟩
           ·exact wpS_pure ⟨sim',_,_,_,_,_,_,rfl,J4,by lia,by lia,by lia,by lia⟩
        ·rw [if_neg k1p];obtain rfl:k1=0:=by lia
         have J3:=J2;have hz2:blt (gt b (ib+1)) (gt a ia)=false:=(by have:=y2 0 (Nat.le_refl _) (by lia);simpa [gp] using this)
         refine wpS_bind (aW (by lia) ?_)
         try dsimp only
         have J4:=J.pa J3 (by lia) (by lia) hz2;by_cases e4:ia+1+1=a.size
         ·rw [if_pos (by simpa using e4)];exact wpS_pure ⟨sim',.inl ⟨_,rfl,J4.last e4 (lastAt (by lia))⟩⟩
         ·rw [if_neg (by simpa using e4)];split
          ·exact wpS_pure ⟨sim',.inr ⟨_,_,_,_,_,_,rfl,J4,by lia,by lia,by lia⟩⟩
          ·exact wpS_pure ⟨sim',_,_,_,_,_,_,rfl,J4,by lia,by lia,by lia,by lia⟩
end
end TS
end
section
namespace TS
open PySem PyProof.Rows
section
variable {blt:Keyed->Keyed->Bool}
theorem JR {a:Array Keyed} {n:Nat} (h:n<a.size):a.toList.take (n+1)=a.toList.take n++[gt a n]:=by
 rw [List.take_add_one];have:a.toList[n]?=some (gt a n):=by rw [Array.getElem?_toList];exact nY h
 rw [this];rfl
theorem uH {a:Array Keyed} {n:Nat} {z:Keyed} (h:z∈a.toList.take n):∃i, i<n /\ i<a.size /\ z=gt a i := by
  obtain ⟨i, hi, e⟩ := List.getElem_of_mem h;rw [List.length_take] at hi;have h2:i<a.size := by simpa using (show i<a.toList.length by lia)
  refine ⟨i, by lia, h2, ?_⟩;rw [<-e, List.getElem_take];unfold gt;simp [Array.getD, h2]
theorem uI (x:Keyed):∀(xs zs:List Keyed),(∀z∈zs,blt z x=true)->mrg blt (xs++[x]) zs=mrg blt xs zs++[x]
 | [],zs,h=>by rw [List.nil_append,yH x zs h,pH]
 | x0::xs,[],_=>by rw [n6,n6]
 | x0::xs,z::zs,h=>by
  rw [List.cons_append,jA,jA];by_cases q:blt z x0=true
  ·rw [if_pos q,if_pos q,<-List.cons_append,uI x (x0::xs) zs fun y hy=>h y (List.mem_cons_of_mem _ hy)];rfl
  ·rw [if_neg q,if_neg q,uI x xs (z::zs) h];rfl
 termination_by xs zs=>xs.length+zs.length
theorem CQ (y:Keyed):∀zs:List Keyed,(∀z∈zs,blt y z=false)->mrg blt zs [y]=zs++[y]
 | [],_=>pH _
 | z::zs,h=>by
  rw [jA,if_neg (by simp [h z (List.mem_cons_self ..)]),CQ y zs fun u hu=>h u (List.mem_cons_of_mem _ hu)];rfl
theorem uJ (y:Keyed):∀(zs ys:List Keyed),(∀z∈zs,blt y z=false)->mrg blt zs (ys++[y])=mrg blt zs ys++[y]
 | zs,[],h=>by rw [List.nil_append,CQ y zs h,n6]
 | [],y0::ys,_=>by rw [pH,pH]
 | z::zs,y0::ys,h=>by
  rw [List.cons_append,jA,jA];by_cases q:blt y0 z=true
  ·rw [if_pos q,if_pos q,uJ y (z::zs) ys h];rfl
  ·rw [if_neg q,if_neg q,<-List.cons_append,uJ y zs (y0::ys) fun u hu=>h u (List.mem_cons_of_mem _ hu)];rfl
 termination_by zs ys=>zs.length+ys.length
noncomputable def JH (blt:Keyed->Keyed->Bool) (a b:Array Keyed) (out:Array Keyed) (na nb:Nat):Prop:=
 mrg blt (a.toList.take na) (b.toList.take nb)++out.toList.reverse=mrg blt a.toList b.toList
variable {a b out:Array Keyed} {na nb:Nat}
theorem JH.pa (h:JH blt a b out na nb) (ha:0<na) (h1:na<=a.size) (h2:nb<=b.size) (q:∀i,i<nb->blt (gt b i) (gt a (na-1))=true):JH blt a b (out.push (gt a (na-1))) (na-1) nb:=by
 unfold JH at h ⊢;obtain ⟨n,rfl⟩:∃n,na=n+1:=⟨na-1,by lia⟩
 rw [JR (by lia),uI _ _ _ (fun z hz=>by obtain ⟨i,i1,i2,rfl⟩:=uH hz;exact q i i1)] at h;rw [<-h];simp
theorem JH.pb (h:JH blt a b out na nb) (hb:0<nb) (h1:na<=a.size) (h2:nb<=b.size) (q:∀i,i<na->blt (gt b (nb-1)) (gt a i)=false):JH blt a b (out.push (gt b (nb-1))) na (nb-1):=by
 unfold JH at h ⊢;obtain ⟨n,rfl⟩:∃n,nb=n+1:=⟨nb-1,by lia⟩
 rw [JR (by lia),uJ _ _ _ (fun z hz=>by obtain ⟨i,i1,i2,rfl⟩:=uH hz;exact q i i1)] at h;rw [<-h];simp
theorem VD {a:Array Keyed} {i n:Nat} (h:i<n) (hn:n<=a.size) (out:Array Keyed):out++(a.extract i n).reverse=(out.push (gt a (n-1)))++(a.extract i (n-1)).reverse:=by
 apply Array.toList_inj.mp;simp only [Array.toList_append,Array.toList_reverse,Array.toList_extract,List.extract_eq_take_drop,Array.toList_push];obtain ⟨m,rfl⟩:∃m,n=m+1:=⟨n-1,by lia⟩
 rw [show m+1-i=(m-i)+1 by lia,List.take_add_one,List.getElem?_drop,show i+(m-i)=m by lia];have:a.toList[m]?=some (gt a m):=by rw [Array.getElem?_toList];exact nY (by lia)
 rw [this];simp
theorem tZ {a:Array Keyed} {i:Nat} (out:Array Keyed):out++(a.extract i i).reverse=out:=by
 apply Array.toList_inj.mp;simp
theorem JH.ga:∀{na:Nat} {out:Array Keyed},JH blt a b out na nb->na<=a.size->nb<=b.size->∀at_,at_<=na->(∀i,at_<=i->i<na->∀z,z<nb->blt (gt b z) (gt a i)=true)->JH blt a b (out++(a.extract at_ na).reverse) at_ nb
 | 0,out,h,_,_,at_,h0,_=>by
  obtain rfl:at_=0:=by lia
  rw [tZ];exact h
 | n+1,out,h,h1,h2,at_,h0,q=>by
  by_cases e:at_=n+1
  ·subst e;rw [tZ];exact h
  ·rw [VD (by lia) h1];exact JH.ga (na:=n) (JH.pa h (by lia) h1 h2 (q n (by lia) (by lia))) (by lia) h2 at_ (by lia) fun i i1 i2=>q i i1 (by lia)
theorem JH.gb:∀{nb:Nat} {out:Array Keyed},JH blt a b out na nb->na<=a.size->nb<=b.size->∀at_,at_<=nb->(∀i,at_<=i->i<nb->∀z,z<na->blt (gt b i) (gt a z)=false)->JH blt a b (out++(b.extract at_ nb).reverse) na at_
 | 0,out,h,_,_,at_,h0,_=>by
  obtain rfl:at_=0:=by lia
  rw [tZ];exact h
 | n+1,out,h,h1,h2,at_,h0,q=>by
  by_cases e:at_=n+1
  ·subst e;rw [tZ];exact h
  ·rw [VD (by lia) h2];exact JH.gb (nb:=n) (JH.pb h (by lia) h1 h2 (q n (by lia) (by lia))) h1 (by lia) at_ (by lia) fun i i1 i2=>q i i1 (by lia)
theorem oY (a:Array Keyed) (n:Nat):(a.extract 0 n).toList=a.toList.take n:=by
 simp [Array.toList_extract,List.extract_eq_take_drop]
theorem JH.pJ (h:JH blt a b out na nb) (e:na=0):(a.extract 0 na++b.extract 0 nb++out.reverse).toList=mrg blt a.toList b.toList:=by
 subst e;rw [<-h,Array.toList_append,Array.toList_append,oY,oY,Array.toList_reverse,List.take_zero,pH];rfl
theorem JH.pI (h:JH blt a b out na nb) (e:nb=0):(a.extract 0 na++b.extract 0 nb++out.reverse).toList=mrg blt a.toList b.toList:=by
 subst e;rw [<-h,Array.toList_append,Array.toList_append,oY,oY,Array.toList_reverse,List.take_zero,n6,List.append_nil]
theorem JH.first (h:JH blt a b out na nb) (e:nb=1) (ha:0<a.size) (hb:0<b.size) (hf:blt (gt b 0) (gt a 0)=true) (hn:0<na):(b.extract 0 nb++a.extract 0 na++out.reverse).toList=mrg blt a.toList b.toList:=by
 subst e;rw [<-h,Array.toList_append,Array.toList_append,oY,oY,Array.toList_reverse];have e1:b.toList.take 1=[gt b 0]:=by rw [JR (a:=b) (n:=0) hb];rfl
 obtain ⟨m,rfl⟩:∃m,na=m+1:=⟨na-1,by lia⟩
 have e2:a.toList.take (m+1)=gt a 0::(a.toList.drop 1).take m:=by
  have:=nZ (a:=a) (i:=0) ha;rw [List.drop_zero] at this;rw [this];rfl
 rw [e1,e2,jA,if_pos hf,n6];rfl
variable {U:Keyed->Prop}
theorem leA (O:Ord U blt) (hUa:qI U a) (hUb:qI U b) (hsa:Srt blt a 0 a.size) {n i z:Nat} (hn:n<=a.size) (hi:i<b.size) (hz:z<n) (q:blt (gt b i) (gt a (n-1))=false):blt (gt b i) (gt a z)=false:=by
 cases e:blt (gt b i) (gt a z) with
 | false=>rfl
 | true=>
  rcases O.ntr _ (gt a (n-1)) _ (hUb i hi) (hUa _ (by lia)) (hUa z (by lia)) e with p|p
  ·rw [q] at p;cases p
  ·rw [hsa z (n-1) (by lia) (by lia) (by lia)] at p;cases p
theorem aIe (O:Ord U blt) (hUa:qI U a) (hUb:qI U b) (hsb:Srt blt b 0 b.size) {n i z:Nat} (hn:n<=b.size) (hi:i<a.size) (hz:z<n) (q:blt (gt b (n-1)) (gt a i)=true):blt (gt b z) (gt a i)=true:=by
 rcases O.ntr _ (gt b z) _ (hUb (n-1) (by lia)) (hUb z (by lia)) (hUa i hi) q with p|p
 ·rw [hsb z (n-1) (by lia) (by lia) (by lia)] at p;cases p
 ·exact p
end
section
variable {prog:Program} {w:World} {A:Around} {E:Value->Shared->Prop} {s:Shared} {kd:SortKind} {U:Keyed->Prop} {blt:Keyed->Keyed->Bool}
theorem JS (O:Ord U blt) (hL:Q9 prog w A E s kd U blt) {a b:Array Keyed} {st:SortSt} {Q:Array Keyed->SortSt->Prop} (hk:kindOf st=kd) (hUa:qI U a) (hUb:qI U b) (hsa:Srt blt a 0 a.size) (hsb:Srt blt b 0 b.size)
  (ha:0<a.size) (hb:0<b.size) (hf:blt (gt b 0) (gt a 0)=true) (hl:∀i,i<b.size->blt (gt b i) (gt a (a.size-1))=true)
  (h:∀r st',Sim st st'->r.toList=mrg blt a.toList b.toList->Q r st'):wpS (model prog w) A E s (aA2 a b) Q st:=by
 with_unfolding_all refine wpS_bind (wpS_lift (wpAny_rule ⟨rfl,?_⟩))
 dsimp only;refine wpS_bind (aW (by lia) ?_)
 try dsimp only
 have J0:JH blt a b #[gt a (a.size-1)] (a.size-1) b.size:=JH.pa (out:=#[]) (na:=a.size) (by unfold JH;simp [List.take_of_length_le]) ha (Nat.le_refl _) (Nat.le_refl _) hl;have sim0:Sim st st:=⟨rfl,rfl,rfl,rfl⟩
 by_cases e1:a.size-1=0
 ·rw [if_pos (by simpa using e1)];exact wpS_pure (h _ _ sim0 (J0.pJ e1))
 rw [if_neg (by simpa using e1)];by_cases e2:b.size=1
 ·rw [if_pos (by simpa using e2)];exact wpS_pure (h _ _ sim0 (J0.first e2 ha hb hf (by lia)))
 rw [if_neg (by simpa using e2)];refine wpS_bind (wpS_get ?_);refine wpS_bind (wpS_mono (wpS_forRange
  (I:=fun x c st'=>Sim st st'/\∃out na nb mg,c=(none,na,nb,out,mg)/\JH blt a b out na nb/\0<na/\1<nb/\na<a.size/\nb<=b.size/\x+na+nb<=a.size+b.size)
  (Q:=fun c st'=>Sim st st'/\∃r,c.1=some r/\r.toList=mrg blt a.toList b.toList) ?step ?fin ?init) ?post)
 case init=>exact ⟨sim0,_,_,_,_,rfl,J0,by lia,by lia,by lia,by lia,by lia⟩
 case fin=>
  rintro c st' ⟨_,out,na,nb,mg,rfl,_,h1,h2,h3,h4,h5⟩;lia
 case post=>
  rintro ⟨c1,c2⟩ st' ⟨sim,r,e,hr⟩;dsimp only at e;subst e;exact wpS_pure (h r st' sim hr)
 case step=>
  rintro x₀ c st1 _ hx0 ⟨sim,out,na,nb,mg,rfl,j1,h1,h2,h3,h4,h5⟩;dsimp only;refine wpS_bind (wpS_mono (wpS_forRange
   (I:=fun x c st'=>Sim st st'/\∃out na nb ac bc,c=(none,na,nb,out,ac,bc)/\JH blt a b out na nb/\0<na/\1<nb/\na<a.size/\nb<=b.size/\x₀+na+nb<=a.size+b.size/\x+na+nb<=a.size+b.size)
   (Q:=fun c st'=>Sim st st'/\((∃r,c.1=some r/\r.toList=mrg blt a.toList b.toList)\/∃out na nb ac bc,c=(none,na,nb,out,ac,bc)/\JH blt a b out na nb/\0<na/\1<nb/\na<a.size/\nb<=b.size/\x₀+1+na+nb<=a.size+b.size)) ?step2 ?fin2 ?init2) ?post2)
  case init2=>exact ⟨sim,_,_,_,_,_,rfl,j1,h1,h2,h3,h4,h5,by lia⟩
  case fin2=>
   rintro c st' ⟨_,out,na,nb,ac,bc,rfl,_,h1,h2,h3,h4,_,h5⟩;lia
  case step2=>
   rintro x c st2 _ hx ⟨sim,out,na,nb,ac,bc,rfl,j2,h1,h2,h3,h4,h5,h6⟩;dsimp only;refine wpS_bind (aW (by lia) (wpS_bind (aW (by lia) (wpS_bind (hL _ _ _ _ (hUb _ (by lia)) (hUa _ (by lia)) (sim.1.trans hk) ?_)))));dsimp only;cases q:blt (gt b (nb-1)) (gt a (na-1)) with
   | true=>
    simp only [if_true];refine wpS_bind (aW (by lia) ?_);have j3:=JH.pa j2 (by lia) (by lia) h4 (fun i hi=>aIe O hUa hUb hsb h4 (by lia) hi q);by_cases e3:na-1=0
    ·rw [if_pos (by simpa using e3)];exact wpS_pure ⟨sim,.inl ⟨_,rfl,j3.pJ e3⟩⟩
    ·rw [if_neg (by simpa using e3)];split
     ·exact wpS_pure ⟨sim,.inr ⟨_,_,_,_,_,rfl,j3,by lia,by lia,by lia,by lia,by lia⟩⟩
     ·exact wpS_pure ⟨sim,_,_,_,_,_,rfl,j3,by lia,by lia,by lia,by lia,by lia,by lia⟩
   | false=>
    simp only [Bool.false_eq_true,if_false];refine wpS_bind (aW (by lia) ?_);have j3:=JH.pb j2 (by lia) (by lia) h4 (fun i hi=>leA O hUa hUb hsa (by lia) (by lia) hi q);by_cases e3:nb-1=1
    ·rw [if_pos (by simpa using e3)];exact wpS_pure ⟨sim,.inl ⟨_,rfl,j3.first e3 ha hb hf (by lia)⟩⟩
    ·rw [if_neg (by simpa using e3)];split
     ·exact wpS_pure ⟨sim,.inr ⟨_,_,_,_,_,rfl,j3,by lia,by lia,by lia,by lia,by lia⟩⟩
     ·exact wpS_pure ⟨sim,_,_,_,_,_,rfl,j3,by lia,by lia,by lia,by lia,by lia,by lia⟩
  case post2=>
   rintro ⟨c1,c2⟩ st2 ⟨sim,⟨r,e,hr⟩|⟨out,na,nb,ac,bc,e,j2,h1,h2,h3,h4,h5⟩⟩
   ·dsimp only at e;subst e;exact wpS_pure ⟨sim,r,rfl,hr⟩
   ·cases e;dsimp only;refine wpS_bind (wpS_lift (wpAny_rule ⟨rfl,?_⟩));refine wpS_bind (wpS_mono (wpS_forRange
     (I:=fun x c st'=>Sim st st'/\∃out na nb mg ac bc,c=(none,na,nb,out,mg,ac,bc)/\JH blt a b out na nb/\0<na/\1<nb/\na<a.size/\nb<=b.size/\x₀+1+na+nb<=a.size+b.size/\x+na+nb<=a.size+b.size)
     (Q:=fun c st'=>Sim st st'/\((∃r,c.1=some r/\r.toList=mrg blt a.toList b.toList)\/∃out na nb mg ac bc,c=(none,na,nb,out,mg,ac,bc)/\JH blt a b out na nb/\0<na/\1<nb/\na<a.size/\nb<=b.size/\x₀+1+na+nb<=a.size+b.size)) ?step3 ?fin3 ?init3) ?post3)
    case init3=>exact ⟨sim,_,_,_,_,_,_,rfl,j2,h1,h2,h3,h4,h5,by lia⟩
    case fin3=>
     rintro c st' ⟨_,out,na,nb,mg,ac,bc,rfl,_,h1,h2,h3,h4,_,h5⟩;lia
    case post3=>
     rintro ⟨c1,c2⟩ st3 ⟨sim,⟨r,e,hr⟩|⟨out,na,nb,mg,ac,bc,e,j3,h1,h2,h3,h4,h5⟩⟩
     ·dsimp only at e;subst e;exact wpS_pure ⟨sim,r,rfl,hr⟩
     ·cases e;dsimp only;refine wpS_bind (jU (wpS_pure ⟨⟨sim.1,sim.2,sim.3,sim.4⟩,_,_,_,_,rfl,j3,h1,h2,h3,h4,by lia⟩))
    case step3=>
     rintro x c st3 _ hx ⟨sim,out,na,nb,mg,ac,bc,rfl,j3,h1,h2,h3,h4,h5,h6⟩;dsimp only;by_cases hg:mg > 1
     ·rw [if_pos hg];refine wpS_bind (jU ?_);have sim':Sim st (SortSt.mk' (kindOf st3) (arrOf st3) (pendingOf st3) (mg-1) (failedOf st3)):=⟨sim.1,sim.2,sim.3,sim.4⟩
      have hk':kindOf (SortSt.mk' (kindOf st3) (arrOf st3) (pendingOf st3) (mg-1) (failedOf st3))=kd:=sim.1.trans hk;refine wpS_bind (aW (by lia) ?_);refine wpS_bind (iG O hL hk' (by lia) hUa (hUb _ (by lia)) (fun i j i1 i2 i3=>hsa i j (by lia) i2 (by lia)) (by lia) fun at_ hk1 y1 y2=>?_)
      try dsimp only
      have y1':∀i,i<at_->blt (gt b (nb-1)) (gt a i)=false:=fun i hi=>by have:=y1 i hi;simpa [gp] using this
      have y2':∀i,at_<=i->i<na->blt (gt b (nb-1)) (gt a i)=true:=fun i i1 i2=>by have:=y2 i i1 i2;simpa [gp] using this
      by_cases kp:na-at_ > 0
      ·rw [if_pos kp];have J1:=JH.ga j3 (by lia) (by lia) at_ (by lia) (fun i i1 i2 z hz=>aIe O hUa hUb hsb (by lia) (by lia) hz (y2' i i1 i2));by_cases e1:at_=0
       ·rw [if_pos (by simpa using e1)];exact wpS_pure ⟨sim',.inl ⟨_,rfl,J1.pJ e1⟩⟩
       ·rw [if_neg (by simpa using e1)];have J2:=JH.pb J1 (by lia) (by lia) (by lia) (fun z hz=>y1' z hz);refine wpS_bind (aW (by lia) ?_)
        try dsimp only
        by_cases e2:nb-1=1
        ·rw [if_pos (by simpa using e2)];exact wpS_pure ⟨sim',.inl ⟨_,rfl,J2.first e2 ha hb hf (by lia)⟩⟩
        ·rw [if_neg (by simpa using e2)];refine wpS_bind (aW (by lia) ?_);refine wpS_bind (iG O hL hk' (by lia) hUb (hUa _ (by lia)) (fun i j i1 i2 i3=>hsb i j (by lia) i2 (by lia)) (by lia) fun k1 hk1 y1 y2=>?_)
         try dsimp only
         have y1':∀i,i<k1->blt (gt b i) (gt a (at_-1))=true:=fun i hi=>by have:=y1 i hi;simpa [gp] using this
         have y2':∀i,k1<=i->i<nb-1->blt (gt b i) (gt a (at_-1))=false:=fun i i1 i2=>by have:=y2 i i1 i2;simpa [gp] using this
         by_cases k1p:nb-1-k1 > 0
         ·rw [if_pos k1p];have J3:=JH.gb J2 (by lia) (by lia) k1 (by lia) (fun i i1 i2 z hz=>leA O hUa hUb hsa (by lia) (by lia) hz (y2' i i1 i2));by_cases e3:k1=1
          ·rw [if_pos (by simpa using e3)];exact wpS_pure ⟨sim',.inl ⟨_,rfl,J3.first e3 ha hb hf (by lia)⟩⟩
          ·rw [if_neg (by simpa using e3)];by_cases e3':k1=0
           ·rw [if_pos (by simpa using e3')];exact wpS_pure ⟨sim',.inl ⟨_,rfl,J3.pI e3'⟩⟩
           ·rw [if_neg (by simpa using e3')];have J4:=JH.pa J3 (by lia) (by lia) (by lia) (fun z hz=>y1' z hz);refine wpS_bind (aW (by lia) ?_)
            try dsimp only
            by_cases e4:at_-1=0
            ·rw [if_pos (by simpa using e4)];exact wpS_pure ⟨sim',.inl ⟨_,rfl,J4.pJ e4⟩⟩
            ·rw [if_neg (by simpa using e4)];split
             ·exact wpS_pure ⟨sim',.inr ⟨_,_,_,_,_,_,rfl,J4,by lia,by lia,by lia,by lia,by lia⟩⟩
             ·exact wpS_pure ⟨sim',_,_,_,_,_,_,rfl,J4,by lia,by lia,by lia,by lia,by lia,by lia⟩
         ·rw [if_neg k1p];obtain rfl:k1=nb-1:=by lia
          have J3:=J2;have J4:=JH.pa J3 (by lia) (by lia) (by lia) (fun z hz=>y1' z hz);refine wpS_bind (aW (by lia) ?_)
          try dsimp only
          by_cases e4:at_-1=0
          ·rw [if_pos (by simpa using e4)];exact wpS_pure ⟨sim',.inl ⟨_,rfl,J4.pJ e4⟩⟩
          ·rw [if_neg (by simpa using e4)];split
           ·exact wpS_pure ⟨sim',.inr ⟨_,_,_,_,_,_,rfl,J4,by lia,by lia,by lia,by lia,by lia⟩⟩
           ·exact wpS_pure ⟨sim',_,_,_,_,_,_,rfl,J4,by lia,by lia,by lia,by lia,by lia,by lia⟩
      ·rw [if_neg kp];obtain rfl:at_=na:=by lia
       have J1:=j3;have J2:=JH.pb J1 (by lia) (by lia) (by lia) (fun z hz=>y1' z hz);refine wpS_bind (aW (by lia) ?_)
       try dsimp only
       by_cases e2:nb-1=1
       ·rw [if_pos (by simpa using e2)];exact wpS_pure ⟨sim',.inl ⟨_,rfl,J2.first e2 ha hb hf (by lia)⟩⟩
       ·rw [if_neg (by simpa using e2)];refine wpS_bind (aW (by lia) ?_);refine wpS_bind (iG O hL hk' (by lia) hUb (hUa _ (by lia)) (fun i j i1 i2 i3=>hsb i j (by lia) i2 (by lia)) (by lia) fun k1 hk1 y1 y2=>?_)
        try dsimp only
        have y1':∀i,i<k1->blt (gt b i) (gt a (at_-1))=true:=fun i hi=>by have:=y1 i hi;simpa [gp] using this
        have y2':∀i,k1<=i->i<nb-1->blt (gt b i) (gt a (at_-1))=false:=fun i i1 i2=>by have:=y2 i i1 i2;simpa [gp] using this
        by_cases k1p:nb-1-k1 > 0
        ·rw [if_pos k1p];have J3:=JH.gb J2 (by lia) (by lia) k1 (by lia) (fun i i1 i2 z hz=>leA O hUa hUb hsa (by lia) (by lia) hz (y2' i i1 i2));by_cases e3:k1=1
         ·rw [if_pos (by simpa using e3)];exact wpS_pure ⟨sim',.inl ⟨_,rfl,J3.first e3 ha hb hf (by lia)⟩⟩
         ·rw [if_neg (by simpa using e3)];by_cases e3':k1=0
          ·rw [if_pos (by simpa using e3')];exact wpS_pure ⟨sim',.inl ⟨_,rfl,J3.pI e3'⟩⟩
          ·rw [if_neg (by simpa using e3')];have J4:=JH.pa J3 (by lia) (by lia) (by lia) (fun z hz=>y1' z hz);refine wpS_bind (aW (by lia) ?_)
           try dsimp only
           by_cases e4:at_-1=0
           ·rw [if_pos (by simpa using e4)];exact wpS_pure ⟨sim',.inl ⟨_,rfl,J4.pJ e4⟩⟩
           ·rw [if_neg (by simpa using e4)];split
            ·exact wpS_pure ⟨sim',.inr ⟨_,_,_,_,_,_,rfl,J4,by lia,by lia,by lia,by lia,by lia⟩⟩
            ·exact wpS_pure ⟨sim',_,_,_,_,_,_,rfl,J4,by lia,by lia,by lia,by lia,by lia,by lia⟩
        ·rw [if_neg k1p];obtain rfl:k1=nb-1:=by lia
         have J3:=J2;have J4:=JH.pa J3 (by lia) (by lia) (by lia) (fun z hz=>y1' z hz);refine wpS_bind (aW (by lia) ?_)
         try dsimp only
         by_cases e4:at_-1=0
         ·rw [if_pos (by simpa using e4)];exact wpS_pure ⟨sim',.inl ⟨_,rfl,J4.pJ e4⟩⟩
         ·rw [if_neg (by simpa using e4)];split
          ·exact wpS_pure ⟨sim',.inr ⟨_,_,_,_,_,_,rfl,J4,by lia,by lia,by lia,by lia,by lia⟩⟩
          ·exact wpS_pure ⟨sim',_,_,_,_,_,_,rfl,J4,by lia,by lia,by lia,by lia,by lia,by lia⟩
     ·rw [if_neg hg];refine wpS_bind (jU ?_);have sim':Sim st (SortSt.mk' (kindOf st3) (arrOf st3) (pendingOf st3) mg (failedOf st3)):=⟨sim.1,sim.2,sim.3,sim.4⟩
      have hk':kindOf (SortSt.mk' (kindOf st3) (arrOf st3) (pendingOf st3) mg (failedOf st3))=kd:=sim.1.trans hk;refine wpS_bind (aW (by lia) ?_);refine wpS_bind (iG O hL hk' (by lia) hUa (hUb _ (by lia)) (fun i j i1 i2 i3=>hsa i j (by lia) i2 (by lia)) (by lia) fun at_ hk1 y1 y2=>?_)
      try dsimp only
      have y1':∀i,i<at_->blt (gt b (nb-1)) (gt a i)=false:=fun i hi=>by have:=y1 i hi;simpa [gp] using this
      have y2':∀i,at_<=i->i<na->blt (gt b (nb-1)) (gt a i)=true:=fun i i1 i2=>by have:=y2 i i1 i2;simpa [gp] using this
      by_cases kp:na-at_ > 0
      ·rw [if_pos kp];have J1:=JH.ga j3 (by lia) (by lia) at_ (by lia) (fun i i1 i2 z hz=>aIe O hUa hUb hsb (by lia) (by lia) hz (y2' i i1 i2));by_cases e1:at_=0
       ·rw [if_pos (by simpa using e1)];exact wpS_pure ⟨sim',.inl ⟨_,rfl,J1.pJ e1⟩⟩
       ·rw [if_neg (by simpa using e1)];have J2:=JH.pb J1 (by lia) (by lia) (by lia) (fun z hz=>y1' z hz);refine wpS_bind (aW (by lia) ?_)
        try dsimp only
        by_cases e2:nb-1=1
        ·rw [if_pos (by simpa using e2)];exact wpS_pure ⟨sim',.inl ⟨_,rfl,J2.first e2 ha hb hf (by lia)⟩⟩
        ·rw [if_neg (by simpa using e2)];refine wpS_bind (aW (by lia) ?_);refine wpS_bind (iG O hL hk' (by lia) hUb (hUa _ (by lia)) (fun i j i1 i2 i3=>hsb i j (by lia) i2 (by lia)) (by lia) fun k1 hk1 y1 y2=>?_)
         try dsimp only
         have y1':∀i,i<k1->blt (gt b i) (gt a (at_-1))=true:=fun i hi=>by have:=y1 i hi;simpa [gp] using this
         have y2':∀i,k1<=i->i<nb-1->blt (gt b i) (gt a (at_-1))=false:=fun i i1 i2=>by have:=y2 i i1 i2;simpa [gp] using this
         by_cases k1p:nb-1-k1 > 0
         ·rw [if_pos k1p];have J3:=JH.gb J2 (by lia) (by lia) k1 (by lia) (fun i i1 i2 z hz=>leA O hUa hUb hsa (by lia) (by lia) hz (y2' i i1 i2));by_cases e3:k1=1
          ·rw [if_pos (by simpa using e3)];exact wpS_pure ⟨sim',.inl ⟨_,rfl,J3.first e3 ha hb hf (by lia)⟩⟩
          ·rw [if_neg (by simpa using e3)];by_cases e3':k1=0
           ·rw [if_pos (by simpa using e3')];exact wpS_pure ⟨sim',.inl ⟨_,rfl,J3.pI e3'⟩⟩
           ·rw [if_neg (by simpa using e3')];have J4:=JH.pa J3 (by lia) (by lia) (by lia) (fun z hz=>y1' z hz);refine wpS_bind (aW (by lia) ?_)
            try dsimp only
            by_cases e4:at_-1=0
            ·rw [if_pos (by simpa using e4)];exact wpS_pure ⟨sim',.inl ⟨_,rfl,J4.pJ e4⟩⟩
            ·rw [if_neg (by simpa using e4)];split
             ·exact wpS_pure ⟨sim',.inr ⟨_,_,_,_,_,_,rfl,J4,by lia,by lia,by lia,by lia,by lia⟩⟩
             ·exact wpS_pure ⟨sim',_,_,_,_,_,_,rfl,J4,by lia,by lia,by lia,by lia,by lia,by lia⟩
         ·rw [if_neg k1p];obtain rfl:k1=nb-1:=by lia
          have J3:=J2;have J4:=JH.pa J3 (by lia) (by lia) (by lia) (fun z hz=>y1' z hz);refine wpS_bind (aW (by lia) ?_)
          try dsimp only
          by_cases e4:at_-1=0
          ·rw [if_pos (by simpa using e4)];exact wpS_pure ⟨sim',.inl ⟨_,rfl,J4.pJ e4⟩⟩
          ·rw [if_neg (by simpa using e4)];split
           ·exact wpS_pure ⟨sim',.inr ⟨_,_,_,_,_,_,rfl,J4,by lia,by lia,by lia,by lia,by lia⟩⟩
           ·exact wpS_pure ⟨sim',_,_,_,_,_,_,rfl,J4,by lia,by lia,by lia,by lia,by lia,by lia⟩
      ·rw [if_neg kp];obtain rfl:at_=na:=by lia
       have J1:=j3;have J2:=JH.pb J1 (by lia) (by lia) (by lia) (fun z hz=>y1' z hz);refine wpS_bind (aW (by lia) ?_)
       try dsimp only
       by_cases e2:nb-1=1
       ·rw [if_pos (by simpa using e2)];exact wpS_pure ⟨sim',.inl ⟨_,rfl,J2.first e2 ha hb hf (by lia)⟩⟩
       ·rw [if_neg (by simpa using e2)];refine wpS_bind (aW (by lia) ?_);refine wpS_bind (iG O hL hk' (by lia) hUb (hUa _ (by lia)) (fun i j i1 i2 i3=>hsb i j (by lia) i2 (by lia)) (by lia) fun k1 hk1 y1 y2=>?_)
        try dsimp only
        have y1':∀i,i<k1->blt (gt b i) (gt a (at_-1))=true:=fun i hi=>by have:=y1 i hi;simpa [gp] using this
        have y2':∀i,k1<=i->i<nb-1->blt (gt b i) (gt a (at_-1))=false:=fun i i1 i2=>by have:=y2 i i1 i2;simpa [gp] using this
        by_cases k1p:nb-1-k1 > 0
        ·rw [if_pos k1p];have J3:=JH.gb J2 (by lia) (by lia) k1 (by lia) (fun i i1 i2 z hz=>leA O hUa hUb hsa (by lia) (by lia) hz (y2' i i1 i2));by_cases e3:k1=1
         ·rw [if_pos (by simpa using e3)];exact wpS_pure ⟨sim',.inl ⟨_,rfl,J3.first e3 ha hb hf (by lia)⟩⟩
         ·rw [if_neg (by simpa using e3)];by_cases e3':k1=0
          ·rw [if_pos (by simpa using e3')];exact wpS_pure ⟨sim',.inl ⟨_,rfl,J3.pI e3'⟩⟩
          ·rw [if_neg (by simpa using e3')];have J4:=JH.pa J3 (by lia) (by lia) (by lia) (fun z hz=>y1' z hz);refine wpS_bind (aW (by lia) ?_)
           try dsimp only
           by_cases e4:at_-1=0
           ·rw [if_pos (by simpa using e4)];exact wpS_pure ⟨sim',.inl ⟨_,rfl,J4.pJ e4⟩⟩
           ·rw [if_neg (by simpa using e4)];split
            ·exact wpS_pure ⟨sim',.inr ⟨_,_,_,_,_,_,rfl,J4,by lia,by lia,by lia,by lia,by lia⟩⟩
            ·exact wpS_pure ⟨sim',_,_,_,_,_,_,rfl,J4,by lia,by lia,by lia,by lia,by lia,by lia⟩
        ·rw [if_neg k1p];obtain rfl:k1=nb-1:=by lia
         have J3:=J2;have J4:=JH.pa J3 (by lia) (by lia) (by lia) (fun z hz=>y1' z hz);refine wpS_bind (aW (by lia) ?_)
         try dsimp only
         by_cases e4:at_-1=0
         ·rw [if_pos (by simpa using e4)];exact wpS_pure ⟨sim',.inl ⟨_,rfl,J4.pJ e4⟩⟩
         ·rw [if_neg (by simpa using e4)];split
          ·exact wpS_pure ⟨sim',.inr ⟨_,_,_,_,_,_,rfl,J4,by lia,by lia,by lia,by lia,by lia⟩⟩
          ·exact wpS_pure ⟨sim',_,_,_,_,_,_,rfl,J4,by lia,by lia,by lia,by lia,by lia,by lia⟩
end
end TS
end
section
namespace TS
open PySem PyProof.Rows
section
variable {blt:Keyed->Keyed->Bool} {U:Keyed->Prop}
noncomputable def SL (blt:Keyed->Keyed->Bool) (l:List Keyed):Prop:=l.Pairwise fun u v=>blt v u=false
theorem yI (xs ys:List Keyed):(mrg blt xs ys).Perm (xs++ys):=List.merge_perm_append _
theorem JT {xs ys:List Keyed} {z:Keyed}:z∈mrg blt xs ys↔z∈xs\/z∈ys:=by
 rw [(yI xs ys).mem_iff,List.mem_append]
theorem Ord.le_trans (O:Ord U blt) {x y z:Keyed} (hx:U x) (hy:U y) (hz:U z) (h1:blt y x=false) (h2:blt z y=false):blt z x=false:=by
 cases e:blt z x with
 | false=>rfl
 | true=>
  rcases O.ntr _ y _ hz hy hx e with p|p
  ·rw [h2] at p;cases p
  ·rw [h1] at p;cases p
theorem Ord.ZF (O:Ord U blt) {x y:Keyed} (hx:U x) (hy:U y) (h:blt x y=true):blt y x=false:=by
 cases e:blt y x with
 | false=>rfl
 | true=>
  have:=O.tr _ _ _ hx hy hx h e;rw [O.irr x hx] at this;cases this
theorem VF (O:Ord U blt):∀(xs ys:List Keyed),(∀z∈xs,U z)->(∀z∈ys,U z)->SL blt xs->SL blt ys->SL blt (mrg blt xs ys)
 | [],ys,_,_,_,h=>by rw [pH];exact h
 | x::xs,[],_,_,h,_=>by rw [n6];exact h
 | x::xs,y::ys,ux,uy,sx,sy=>by
  rw [jA];have ux0:=ux x (List.mem_cons_self ..);have uy0:=uy y (List.mem_cons_self ..);have sx':=List.pairwise_cons.mp sx;have sy':=List.pairwise_cons.mp sy;by_cases q:blt y x=true
  ·rw [if_pos q];refine List.pairwise_cons.mpr ⟨fun z hz=>?_,VF O (x::xs) ys ux (fun z hz=>uy z (List.mem_cons_of_mem _ hz)) sx sy'.2⟩;rcases JT.mp hz with hz|hz
   ·rcases List.mem_cons.mp hz with rfl|hz
    ·exact O.ZF uy0 ux0 q
    ·exact O.le_trans uy0 ux0 (ux z (List.mem_cons_of_mem _ hz)) (O.ZF uy0 ux0 q) (sx'.1 z hz)
   ·exact sy'.1 z hz
  ·rw [if_neg q];have q':blt y x=false:=by simpa using q
   refine List.pairwise_cons.mpr ⟨fun z hz=>?_,VF O xs (y::ys) (fun z hz=>ux z (List.mem_cons_of_mem _ hz)) uy sx'.2 sy⟩;rcases JT.mp hz with hz|hz
   ·exact sx'.1 z hz
   ·rcases List.mem_cons.mp hz with rfl|hz
    ·exact q'
    ·exact O.le_trans ux0 uy0 (uy z (List.mem_cons_of_mem _ hz)) q' (sy'.1 z hz)
 termination_by xs ys=>xs.length+ys.length
def str (a:Array Keyed) (lo n:Nat):List Keyed:=(a.toList.drop lo).take n
theorem mK {a:Array Keyed} {lo n i:Nat} (hi:i<n) (h:lo+n<=a.size):(str a lo n)[i]?=some (gt a (lo+i)):=by
 unfold str;rw [List.getElem?_take_of_lt hi,List.getElem?_drop,Array.getElem?_toList];exact nY (by lia)
theorem str_len {a:Array Keyed} {lo n:Nat} (h:lo+n<=a.size):(str a lo n).length=n:=by
 unfold str;rw [List.length_take,List.length_drop,Array.length_toList];lia
theorem Srt.sl {a:Array Keyed} {lo n:Nat} (h:Srt blt a lo (lo+n)) (hn:lo+n<=a.size):SL blt (str a lo n):=by
 unfold SL;rw [List.pairwise_iff_getElem];intro i j hi hj hij;rw [str_len hn] at hi hj;have e1:=mK (a:=a) (lo:=lo) hi hn;have e2:=mK (a:=a) (lo:=lo) hj hn;rw [List.getElem?_eq_getElem (by rw [str_len hn];exact hi)] at e1;rw [List.getElem?_eq_getElem (by rw [str_len hn];exact hj)] at e2;rw [Option.some.inj e1,Option.some.inj e2];exact h _ _ (by lia) (by lia) (by lia)
theorem SL.srt {a:Array Keyed} {lo n:Nat} (O:Ord U blt) (hU:qI U a) (h:SL blt (str a lo n)) (hn:lo+n<=a.size):Srt blt a lo (lo+n):=by
 intro i j h1 h2 h3;by_cases e:i=j
 ·subst e;exact O.irr _ (hU _ (by lia))
 ·unfold SL at h;rw [List.pairwise_iff_getElem] at h;have q:=h (i-lo) (j-lo) (by rw [str_len hn];lia) (by rw [str_len hn];lia) (by lia);have e1:=mK (a:=a) (lo:=lo) (i:=i-lo) (n:=n) (by lia) hn;have e2:=mK (a:=a) (lo:=lo) (i:=j-lo) (n:=n) (by lia) hn;rw [List.getElem?_eq_getElem (by rw [str_len hn];lia)] at e1 e2;rw [Option.some.inj e1,Option.some.inj e2,show lo+(i-lo)=i by lia,show lo+(j-lo)=j by lia] at q;exact q
theorem JV (a:Array Keyed) (lo m n:Nat):str a lo (m+n)=str a lo m++str a (lo+m) n:=by
 unfold str;rw [List.take_add,List.drop_drop]
theorem yJ {a:Array Keyed} {lo n:Nat} {z:Keyed} (h:z∈str a lo n):∃i,lo<=i/\i<lo+n/\i<a.size/\z=gt a i:=by
 obtain ⟨i,hi,e⟩:=List.getElem_of_mem h;unfold str at hi;rw [List.length_take,List.length_drop,Array.length_toList] at hi;refine ⟨lo+i,by lia,by lia,by lia,?_⟩;have h2:(str a lo n)[i]?=some z:=by rw [<-e];exact List.getElem?_eq_getElem _
 unfold str at h2;rw [List.getElem?_take_of_lt (by lia),List.getElem?_drop,Array.getElem?_toList,nY (by lia)] at h2;exact (Option.some.inj h2).symm
theorem VG (a:Array Keyed) (i j:Nat):(a.extract i j).toList=str a i (j-i):=by
 unfold str;rw [Array.toList_extract,List.extract_eq_take_drop]
noncomputable def put (a:Array Keyed) (off:Nat) (l:List Keyed):Array Keyed:=l.zipIdx.foldl (fun a (p,j)=>a.setIfInBounds (off+j) p) a
theorem aBw (off:Nat):∀(l:List Keyed) (k:Nat) (a:Array Keyed),off+k+l.length<=a.size->
  ((l.zipIdx k).foldl (fun a (p,j)=>a.setIfInBounds (off+j) p) a).toList=a.toList.take (off+k)++l++a.toList.drop (off+k+l.length)
 | [],k,a,_=>by simp
 | x::l,k,a,h=>by
  rw [List.zipIdx_cons,List.foldl_cons];rw [List.length_cons] at h;rw [aBw off l (k+1) _ (by rw [Array.size_setIfInBounds];lia)];rw [Array.toList_setIfInBounds];have e1:(a.toList.set (off+k) x).take (off+(k+1))=a.toList.take (off+k)++[x]:=by
   rw [show off+(k+1)=(off+k)+1 by lia,List.take_add_one,List.take_set_of_le (Nat.le_refl _),List.getElem?_set_self (by rw [Array.length_toList];lia)];rfl
  have e2:(a.toList.set (off+k) x).drop (off+(k+1)+l.length)=a.toList.drop (off+k+(x::l).length):=by
   rw [List.drop_set_of_lt (by lia),List.length_cons]
   congr 1
   lia
  rw [e1,e2];simp
theorem yK {a:Array Keyed} {off:Nat} {l:List Keyed} (h:off+l.length<=a.size):(put a off l).toList=a.toList.take off++l++a.toList.drop (off+l.length):=by
 have:=aBw off l 0 a (by lia);rw [Nat.add_zero] at this;exact this
theorem JW {a:Array Keyed} {i:Nat}:gt a i=a.toList.getD i dk:=by
 unfold gt;by_cases h:i<a.size
 ·simp [Array.getD,h]
 ·simp [Array.getD,h]
structure Stp (lo hi:Nat) (st st':SortSt):Prop where
 kd:kindOf st'=kindOf st
 fl:failedOf st'=failedOf st
 pm:(arrOf st').Perm (arrOf st)
 out:∀j,j<lo\/hi<=j->gt (arrOf st') j=gt (arrOf st) j
theorem Stp.sz {lo hi:Nat} {st st':SortSt} (h:Stp lo hi st st'):(arrOf st').size=(arrOf st).size:=h.pm.size_eq
theorem bM {a b:Array Keyed} (hU:qI U a) (p:b.Perm a):qI U b:=fun i hi=>by
 have:gt b i∈b.toList:=by
  rw [JW,List.getD_eq_getElem?_getD,List.getElem?_eq_getElem (by simpa using hi)];exact List.getElem_mem _
 obtain ⟨j,hj,e⟩:=aBv ((Array.perm_iff_toList_perm.mp p).mem_iff.mp this);rw [e];exact hU j hj
theorem Srt.mono {a:Array Keyed} {lo hi lo' hi':Nat} (h:Srt blt a lo hi) (h1:lo<=lo') (h2:hi'<=hi):Srt blt a lo' hi':=fun i j a1 a2 a3=>h i j (by lia) a2 (by lia)
theorem Srt.out {a b:Array Keyed} {lo hi:Nat} (h:Srt blt a lo hi) (e:∀j,lo<=j->j<hi->gt b j=gt a j):Srt blt b lo hi:=fun i j a1 a2 a3=>by
 rw [e i (by lia) (by lia),e j (by lia) a3];exact h i j a1 a2 a3
theorem RB (a:Array Keyed) (i m n:Nat):a.toList=a.toList.take i++(str a i m++str a (i+m) n)++a.toList.drop (i+(m+n)):=by
 rw [<-JV];unfold str;rw [List.append_assoc,<-List.drop_drop,List.take_append_drop,List.take_append_drop]
theorem aDb {a:Array Keyed} {off:Nat} {l:List Keyed} (h:off+l.length<=a.size):str (put a off l) off l.length=l:=by
 unfold str;rw [yK h,List.append_assoc,List.drop_left' (by rw [List.length_take,Array.length_toList];lia),List.take_left' rfl]
theorem uK {a:Array Keyed} {off:Nat} {l:List Keyed} (h:off+l.length<=a.size) {j:Nat} (hj:j<off\/off+l.length<=j):gt (put a off l) j=gt a j:=by
 rw [JW,JW,yK h,List.getD_eq_getElem?_getD,List.getD_eq_getElem?_getD]
 congr 1
 have hl:(a.toList.take off).length=off:=by rw [List.length_take,Array.length_toList];lia
 rcases hj with hj|hj
 ·rw [List.append_assoc,List.getElem?_append_left (by lia),List.getElem?_take_of_lt hj]
 ·rw [List.getElem?_append_right (by rw [List.length_append];lia),List.length_append,hl,List.getElem?_drop]
  congr 1
  lia
end
section
variable {prog:Program} {w:World} {A:Around} {E:Value->Shared->Prop} {s:Shared} {kd:SortKind} {U:Keyed->Prop} {blt:Keyed->Keyed->Bool}
theorem aDc {σ:Type} {M:Model} {st st':σ} {Q:PUnit->σ->Prop} (h:Q ⟨⟩ st'):wpS M A E s (set st':StateT σ Sem PUnit) Q st:=by
 unfold wpS;rw [StateT.run_set];exact wpAny_pure ⟨rfl,h⟩
theorem JX (O:Ord U blt) (hL:Q9 prog w A E s kd U blt) {i:Nat} {st:SortSt} {Q:Bool->SortSt->Prop} (hk:kindOf st=kd) (hU:qI U (arrOf st)) (hF:failedOf st=none) {sa na pw sb nb pw2:Nat}
  (p1:(pendingOf st)[i]?=some (sa,na,pw)) (p2:(pendingOf st)[i+1]?=some (sb,nb,pw2)) (hsb:sb=sa+na) (hsz:sb+nb<=(arrOf st).size) (hna:0<na) (hnb:0<nb)
  (s1:Srt blt (arrOf st) sa (sa+na)) (s2:Srt blt (arrOf st) sb (sb+nb))
  (h:∀st',Stp sa (sb+nb) st st'->Srt blt (arrOf st') sa (sb+nb)->pendingOf st'=((pendingOf st).setIfInBounds i (sa,na+nb,pw)).eraseIdxIfInBounds (i+1)->Q true st') :
  wpS (model prog w) A E s (mergeAt' i) Q st:=by
 subst hsb
 with_unfolding_all refine wpS_bind (wpS_get ?_)
 dsimp only;rw [p1,p2];dsimp only;refine wpS_bind (aDc ?_);have hk':kindOf (setPending st (((pendingOf st).setIfInBounds i (sa,na+nb,pw)).eraseIdxIfInBounds (i+1)))=kd:=hk;refine wpS_bind (aW (arr:=arrOf st) (by lia) ?_);refine wpS_bind (iG (arr:=arrOf st) O hL hk' (by lia) hU (hU _ (by lia)) (s1.mono (Nat.le_refl _) (by lia)) (by lia) fun k hk1 y1 y2=>?_);dsimp only;have y1':∀i,i<k->blt (gt (arrOf st) (sa+na)) (gt (arrOf st) (sa+i))=false:=fun i hi=>by have:=y1 i hi;simpa [gp] using this
 have y2':∀i,k<=i->i<na->blt (gt (arrOf st) (sa+na)) (gt (arrOf st) (sa+i))=true:=fun i i1 i2=>by have:=y2 i i1 i2;simpa [gp] using this
 -- the whole stretch is sorted as soon as the first part's last is no more than the second's first
 have whole:(∀i j,sa<=i->i<sa+na->sa+na<=j->j<sa+na+nb->blt (gt (arrOf st) j) (gt (arrOf st) i)=false)->Srt blt (arrOf st) sa (sa+na+nb):=fun q i j a1 a2 a3=>by
  by_cases c1:j<sa+na
  ·exact s1 i j a1 a2 c1
  ·by_cases c2:sa+na<=i
   ·exact s2 i j c2 a2 a3
   ·exact q i j a1 (by lia) (by lia) a3
 have stp0:Stp sa (sa+na+nb) st (setPending st (((pendingOf st).setIfInBounds i (sa,na+nb,pw)).eraseIdxIfInBounds (i+1))):=⟨rfl,rfl,Array.Perm.refl _,fun _ _=>rfl⟩
 by_cases e1:na-k=0
 ·rw [if_pos (by simpa using e1)];refine wpS_pure (h _ stp0 (whole fun i j i1 i2 j1 j2=>?_) rfl);have q:=y1' (i-sa) (by lia);rw [show sa+(i-sa)=i by lia] at q;exact O.le_trans (hU _ (by lia)) (hU _ (by lia)) (hU _ (by lia)) q (s2 _ _ (Nat.le_refl _) j1 j2)
 rw [if_neg (by simpa using e1)];refine wpS_bind (aW (arr:=arrOf st) (by lia) ?_);refine wpS_bind (iG (arr:=arrOf st) O hL hk' (by lia) hU (hU _ (by lia)) (s2.mono (Nat.le_refl _) (by lia)) (by lia) fun nb' hnb1 z1 z2=>?_);dsimp only;have ez:sa+k+(na-k)-1=sa+na-1:=by lia
 have z1':∀i,i<nb'->blt (gt (arrOf st) (sa+na+i)) (gt (arrOf st) (sa+na-1))=true:=fun i hi=>by have:=z1 i hi;rw [ez] at this;simpa [gp] using this
 have z2':∀i,nb'<=i->i<nb->blt (gt (arrOf st) (sa+na+i)) (gt (arrOf st) (sa+na-1))=false:=fun i i1 i2=>by have:=z2 i i1 i2;rw [ez] at this;simpa [gp] using this
 by_cases e2:nb'=0
 ·rw [if_pos (by simpa using e2)];refine wpS_pure (h _ stp0 (whole fun i j i1 i2 j1 j2=>?_) rfl);have q:=z2' (j-(sa+na)) (by lia) (by lia);rw [show sa+na+(j-(sa+na))=j by lia] at q;exact O.le_trans (hU _ (by lia)) (hU (sa+na-1) (by lia)) (hU _ (by lia)) (s1 i (sa+na-1) i1 (by lia) (by lia)) q
 rw [if_neg (by simpa using e2)];have ex:((arrOf st).extract (sa+k) (sa+na)).toList=str (arrOf st) (sa+k) (na-k):=by rw [VG];congr 1;lia
 have ey:((arrOf st).extract (sa+na) (sa+na+nb')).toList=str (arrOf st) (sa+na) nb':=by rw [VG];congr 1;lia
 have zx:((arrOf st).extract (sa+k) (sa+na)).size=na-k:=by rw [Array.size_extract];lia
 have zy:((arrOf st).extract (sa+na) (sa+na+nb')).size=nb':=by rw [Array.size_extract];lia
 have gx:∀i,i<na-k->gt ((arrOf st).extract (sa+k) (sa+na)) i=gt (arrOf st) (sa+k+i):=fun i hi=>by
  have e:=mK (a:=arrOf st) (lo:=sa+k) (i:=i) (n:=na-k) hi (by lia);rw [<-ex,Array.getElem?_toList,nY (by lia)] at e;exact Option.some.inj e
 have gy:∀i,i<nb'->gt ((arrOf st).extract (sa+na) (sa+na+nb')) i=gt (arrOf st) (sa+na+i):=fun i hi=>by
  have e:=mK (a:=arrOf st) (lo:=sa+na) (i:=i) (n:=nb') hi (by lia);rw [<-ey,Array.getElem?_toList,nY (by lia)] at e;exact Option.some.inj e
 have fin:∀(r:Array Keyed) (st2:SortSt),Sim (setPending st (((pendingOf st).setIfInBounds i (sa,na+nb,pw)).eraseIdxIfInBounds (i+1))) st2->
   r.toList=mrg blt ((arrOf st).extract (sa+k) (sa+na)).toList ((arrOf st).extract (sa+na) (sa+na+nb')).toList->
   wpS (model prog w) A E s (do
    modify fun s=>setArr s (r.toList.zipIdx.foldl (fun a (p,j)=>a.setIfInBounds (sa+k+j) p) (arrOf s))
    return (failedOf (<- get)).isNone) Q st2:=by
  intro r st2 sim hr;rw [ex,ey] at hr;have hlen:r.toList.length=(na-k)+nb':=by
   rw [hr,(yI _ _).length_eq,List.length_append,str_len (by lia),str_len (by lia)]
  have hfit:sa+k+r.toList.length<=(arrOf st).size:=by lia
  have ear:arrOf st2=arrOf st:=sim.ar;refine wpS_bind (wpS_modify (wpS_bind (wpS_get (wpS_pure ?_))));show Q (failedOf st2).isNone (setArr st2 (put (arrOf st2) (sa+k) r.toList));rw [sim.fl,show failedOf (setPending st _)=none from hF,ear];have hp:(put (arrOf st) (sa+k) r.toList).Perm (arrOf st):=by
   rw [Array.perm_iff_toList_perm,yK hfit,hlen];have sp:=RB (arrOf st) (sa+k) (na-k) nb';rw [show sa+k+(na-k)=sa+na by lia] at sp
   conv=>rhs;rw [sp]
   rw [hr];exact (((yI _ _).append_left _).append_right _)
  have hU':=bM hU hp;refine h _ ⟨sim.kd,sim.fl,hp,fun j hj=>?_⟩ ?_ ?_
  ·show gt (put (arrOf st) (sa+k) r.toList) j=gt (arrOf st) j;exact uK hfit (by lia)
  ·show Srt blt (put (arrOf st) (sa+k) r.toList) sa (sa+na+nb);have hsz':(put (arrOf st) (sa+k) r.toList).size=(arrOf st).size:=hp.size_eq;have e0:str (put (arrOf st) (sa+k) r.toList) (sa+k) ((na-k)+nb')=mrg blt (str (arrOf st) (sa+k) (na-k)) (str (arrOf st) (sa+na) nb'):=by
    rw [<-hlen,aDb hfit,hr]
   have ux:∀z∈str (arrOf st) (sa+k) (na-k),U z:=fun z hz=>by obtain ⟨i,_,_,i3,rfl⟩:=yJ hz;exact hU i i3
   have uy:∀z∈str (arrOf st) (sa+na) nb',U z:=fun z hz=>by obtain ⟨i,_,_,i3,rfl⟩:=yJ hz;exact hU i i3
   have sm:SL blt (mrg blt (str (arrOf st) (sa+k) (na-k)) (str (arrOf st) (sa+na) nb')):=
    VF O _ _ ux uy (Srt.sl (s1.mono (by lia) (by lia)) (by lia)) (Srt.sl (s2.mono (Nat.le_refl _) (by lia)) (by lia))
   have mid:Srt blt (put (arrOf st) (sa+k) r.toList) (sa+k) (sa+k+((na-k)+nb')):=SL.srt O hU' (by rw [e0];exact sm) (by lia);have inmid:∀j,sa+k<=j->j<sa+na+nb'->∃q,gt (put (arrOf st) (sa+k) r.toList) j=gt (arrOf st) q/\((sa+k<=q/\q<sa+na)\/(sa+na<=q/\q<sa+na+nb')):=by
    intro j j1 j2;have e:=mK (a:=put (arrOf st) (sa+k) r.toList) (lo:=sa+k) (i:=j-(sa+k)) (n:=(na-k)+nb') (by lia) (by lia);rw [e0,show sa+k+(j-(sa+k))=j by lia] at e;have hm:=List.mem_of_getElem? e;rcases JT.mp hm with hm|hm
    ·obtain ⟨q,q1,q2,q3,q4⟩:=yJ hm;exact ⟨q,q4,.inl ⟨q1,by lia⟩⟩
    ·obtain ⟨q,q1,q2,q3,q4⟩:=yJ hm;exact ⟨q,q4,.inr ⟨q1,q2⟩⟩
   intro i j a1 a2 a3
   -- three zones
   by_cases ci:i<sa+k
   ·have ei:gt (put (arrOf st) (sa+k) r.toList) i=gt (arrOf st) i:=uK hfit (by lia);by_cases cj:j<sa+k
    ·have ej:gt (put (arrOf st) (sa+k) r.toList) j=gt (arrOf st) j:=uK hfit (by lia);rw [ei,ej];exact s1 i j a1 a2 (by lia)
    ·have yi:=y1' (i-sa) (by lia);rw [show sa+(i-sa)=i by lia] at yi;have leB:∀q,sa+na<=q->q<sa+na+nb->blt (gt (arrOf st) q) (gt (arrOf st) i)=false:=fun q q1 q2=>
      O.le_trans (hU _ (by lia)) (hU _ (by lia)) (hU _ (by lia)) yi (s2 _ _ (Nat.le_refl _) q1 q2)
     by_cases cj2:j<sa+na+nb'
     ·obtain ⟨q,eq,hq⟩:=inmid j (by lia) cj2;rw [ei,eq];rcases hq with ⟨q1,q2⟩|⟨q1,q2⟩
      ·exact s1 i q a1 (by lia) q2
      ·exact leB q q1 (by lia)
     ·have ej:gt (put (arrOf st) (sa+k) r.toList) j=gt (arrOf st) j:=uK hfit (by lia);rw [ei,ej];exact leB j (by lia) a3
   ·by_cases ci2:i<sa+na+nb'
    ·by_cases cj2:j<sa+na+nb'
     ·exact mid i j (by lia) a2 (by lia)
     ·have ej:gt (put (arrOf st) (sa+k) r.toList) j=gt (arrOf st) j:=uK hfit (by lia);obtain ⟨q,eq,hq⟩:=inmid i (by lia) ci2;rw [eq,ej];rcases hq with ⟨q1,q2⟩|⟨q1,q2⟩
      ·have zj:=z2' (j-(sa+na)) (by lia) (by lia);rw [show sa+na+(j-(sa+na))=j by lia] at zj;exact O.le_trans (hU _ (by lia)) (hU (sa+na-1) (by lia)) (hU _ (by lia)) (s1 q (sa+na-1) (by lia) (by lia) (by lia)) zj
      ·exact s2 q j q1 (by lia) a3
    ·have ei:gt (put (arrOf st) (sa+k) r.toList) i=gt (arrOf st) i:=uK hfit (by lia);have ej:gt (put (arrOf st) (sa+k) r.toList) j=gt (arrOf st) j:=uK hfit (by lia);rw [ei,ej];exact s2 i j (by lia) a2 a3
  ·show pendingOf st2=_;exact sim.pd
 have hUx:qI U ((arrOf st).extract (sa+k) (sa+na)):=fun i hi=>by rw [zx] at hi;rw [gx i hi];exact hU _ (by lia)
 have hUy:qI U ((arrOf st).extract (sa+na) (sa+na+nb')):=fun i hi=>by rw [zy] at hi;rw [gy i hi];exact hU _ (by lia)
 have hsx:Srt blt ((arrOf st).extract (sa+k) (sa+na)) 0 ((arrOf st).extract (sa+k) (sa+na)).size:=fun i j a1 a2 a3=>by
  rw [zx] at a3;rw [gx i (by lia),gx j a3];exact s1 _ _ (by lia) (by lia) (by lia)
 have hsy:Srt blt ((arrOf st).extract (sa+na) (sa+na+nb')) 0 ((arrOf st).extract (sa+na) (sa+na+nb')).size:=fun i j a1 a2 a3=>by
  rw [zy] at a3;rw [gy i (by lia),gy j a3];exact s2 _ _ (by lia) (by lia) (by lia)
 have hfst:blt (gt ((arrOf st).extract (sa+na) (sa+na+nb')) 0) (gt ((arrOf st).extract (sa+k) (sa+na)) 0)=true:=by
  rw [gx 0 (by lia),gy 0 (by lia)];exact y2' k (Nat.le_refl _) (by lia)
 have hlst:∀i,i<((arrOf st).extract (sa+na) (sa+na+nb')).size->blt (gt ((arrOf st).extract (sa+na) (sa+na+nb')) i) (gt ((arrOf st).extract (sa+k) (sa+na)) (((arrOf st).extract (sa+k) (sa+na)).size-1))=true:=fun i hi=>by
  rw [zy] at hi;rw [zx,gx (na-k-1) (by lia),gy i hi,show sa+k+(na-k-1)=sa+na-1 by lia];exact z1' i hi
 by_cases ce:na-k<=nb'
 ·rw [if_pos ce];exact wpS_bind (JQ (a:=(arrOf st).extract (sa+k) (sa+na)) (b:=(arrOf st).extract (sa+na) (sa+na+nb')) O hL hk' hUx hUy hsx hsy (by lia) (by lia) hfst hlst fin)
 ·rw [if_neg ce];exact wpS_bind (JS (a:=(arrOf st).extract (sa+k) (sa+na)) (b:=(arrOf st).extract (sa+na) (sa+na+nb')) O hL hk' hUx hUy hsx hsy (by lia) (by lia) hfst hlst fin)
end
end TS
end
section
namespace TS
open PySem PyProof.Rows
section
variable {blt:Keyed->Keyed->Bool} {U:Keyed->Prop}
noncomputable def Eqv (blt:Keyed->Keyed->Bool) (x y:Keyed):Prop:=blt x y=false/\blt y x=false
theorem Eqv.ZG (O:Ord U blt) {x:Keyed} (h:U x):Eqv blt x x:=⟨O.irr x h,O.irr x h⟩
theorem Eqv.symm {x y:Keyed} (h:Eqv blt x y):Eqv blt y x:=⟨h.2,h.1⟩
theorem Eqv.trans (O:Ord U blt) {x y z:Keyed} (hx:U x) (hy:U y) (hz:U z) (h:Eqv blt x y) (g:Eqv blt y z):Eqv blt x z:=⟨O.le_trans hz hy hx g.1 h.1,O.le_trans hx hy hz h.2 g.2⟩
noncomputable def NonInc (blt:Keyed->Keyed->Bool) (a:Array Keyed) (lo n:Nat):Prop:=∀i j,lo<=i->i<=j->j<lo+n->blt (gt a i) (gt a j)=false
theorem aHl (a:Array Keyed) (i:Nat):gt a i=(a[i]?).getD dk:=by
 unfold gt;by_cases h:i<a.size
 ·simp [Array.getD,h]
 ·simp [Array.getD,h]
theorem n8 {a:Array Keyed} {i j:Nat} (hj:j<=a.size) (k:Nat):gt (mirror a i j ((j-i) / 2)) k=if i<=k/\k<j then gt a (i+j-1-k) else gt a k:=by
 rw [aHl,getElem?_mirror_all hj];split <;> rw [aHl]
theorem Stp.mir {lo hi:Nat} {st st':SortSt} (h:Stp lo hi st st') {i j:Nat} (hi':lo<=i) (hj:j<=hi) (hs:j<=(arrOf st').size):Stp lo hi st (setArr st' (mirror (arrOf st') i j ((j-i) / 2))):=
 ⟨h.kd,h.fl,(mirror_perm _ _ _ _).trans h.pm,fun k hk=>by
  show gt (mirror (arrOf st') i j ((j-i) / 2)) k=_;rw [n8 hs,if_neg (by lia)];exact h.out k hk⟩
theorem qJ (O:Ord U blt) {a:Array Keyed} {lo x:Nat} (hU:qI U a) (hx:lo+x<a.size) (h0:1<=x) (h:Srt blt a lo (lo+x)) (e:blt (gt a (lo+x)) (gt a (lo+x-1))=false):Srt blt a lo (lo+(x+1)):=fun i j a1 a2 a3=>by
 by_cases c:j<lo+x
 ·exact h i j a1 a2 c
 ·obtain rfl:j=lo+x:=by lia
  by_cases d:i=lo+x
  ·rw [d];exact O.irr _ (hU _ hx)
  ·exact O.le_trans (hU _ (by lia)) (hU _ (by lia)) (hU _ hx) (h i (lo+x-1) a1 (by lia) (by lia)) e
theorem rP (O:Ord U blt) {a:Array Keyed} {lo x:Nat} (hU:qI U a) (hx:lo+x<a.size) (h0:1<=x) (h:NonInc blt a lo x) (e:blt (gt a (lo+x-1)) (gt a (lo+x))=false):NonInc blt a lo (x+1):=fun i j a1 a2 a3=>by
 by_cases c:j<lo+x
 ·exact h i j a1 a2 c
 ·obtain rfl:j=lo+x:=by lia
  by_cases d:i=lo+x
  ·rw [d];exact O.irr _ (hU _ hx)
  ·exact O.le_trans (hU _ hx) (hU _ (by lia)) (hU _ (by lia)) e (h i (lo+x-1) a1 (by lia) (by lia))
theorem yL {a:Array Keyed} {lo m:Nat} (hs:lo+m<=a.size) (h:NonInc blt a lo m):Srt blt (mirror a lo (lo+m) ((lo+m-lo) / 2)) lo (lo+m):=fun i j a1 a2 a3=>by
 rw [n8 hs,n8 hs,if_pos (by lia),if_pos (by lia)];exact h _ _ (by lia) (by lia) (by lia)
theorem yM (O:Ord U blt) {a:Array Keyed} {lo m neq:Nat} (hU:qI U a) (hs:lo+m<=a.size) (hq:neq+1<=m) (h:∀i,lo+m-(neq+1)<=i->i<lo+m->Eqv blt (gt a i) (gt a (lo+m-1))) :
  ∀k,k<a.size->Eqv blt (gt (mirror a (lo+m-(neq+1)) (lo+m) ((lo+m-(lo+m-(neq+1))) / 2)) k) (gt a k):=fun k hk=>by
 rw [n8 hs];by_cases c:lo+m-(neq+1)<=k/\k<lo+m
 ·rw [if_pos c];exact (h _ (by lia) (by lia)).trans O (hU _ (by lia)) (hU _ (by lia)) (hU _ (by lia)) (h k c.1 c.2).symm
 ·rw [if_neg c];exact Eqv.ZG O (hU _ hk)
theorem CT (O:Ord U blt) {a b:Array Keyed} {lo n:Nat} (hU:qI U a) (hV:qI U b) (hs:lo+n<=a.size) (ht:lo+n<=b.size) (h:NonInc blt a lo n) (e:∀k,k<a.size->Eqv blt (gt b k) (gt a k)):NonInc blt b lo n:=fun i j a1 a2 a3=>
 O.le_trans (hV j (by lia)) (hU j (by lia)) (hV i (by lia)) (e j (by lia)).2 (O.le_trans (hU j (by lia)) (hU i (by lia)) (hV i (by lia)) (h i j a1 a2 a3) (e i (by lia)).1)
end
section
variable {prog:Program} {w:World} {A:Around} {E:Value->Shared->Prop} {s:Shared} {kd:SortKind} {U:Keyed->Prop} {blt:Keyed->Keyed->Bool}
theorem wpS_ltAt (hL:Q9 prog w A E s kd U blt) {i j:Nat} {st:SortSt} {Q:Option Bool->SortSt->Prop} (hk:kindOf st=kd) (hU:qI U (arrOf st)) (hi:i<(arrOf st).size) (hj:j<(arrOf st).size)
  (h:Q (some (blt (gt (arrOf st) i) (gt (arrOf st) j))) st):wpS (model prog w) A E s (ltAt' i j) Q st:=by
 rw [ltAt'_eq];exact wpS_bind (wpS_get (wpS_bind (aW hi (wpS_bind (aW hj (hL _ _ _ _ (hU _ hi) (hU _ hj) hk h))))))
noncomputable abbrev mrA (st3:SortSt) (lo m neq:Nat):SortSt:=setArr st3 (mirror (arrOf st3) (lo+m-(neq+1)) (lo+m) ((lo+m-(lo+m-(neq+1))) / 2))
noncomputable abbrev mrB (st3:SortSt) (lo m:Nat):SortSt:=setArr st3 (mirror (arrOf st3) lo (lo+m) ((lo+m-lo) / 2))
theorem wpS_countRun (O:Ord U blt) (hL:Q9 prog w A E s kd U blt) {lo nrem:Nat} {st:SortSt} {Q:Option Nat->SortSt->Prop} (hk:kindOf st=kd) (hU:qI U (arrOf st)) (hn:lo+nrem<=(arrOf st).size) (h1:1<=nrem)
  (h:∀m st',Stp lo (lo+nrem) st st'->pendingOf st'=pendingOf st->1<=m->m<=nrem->Srt blt (arrOf st') lo (lo+m)->Q (some m) st'):wpS (model prog w) A E s (countRun' lo nrem) Q st:=by
 rw [countRun'_eq];have stp0:Stp lo (lo+nrem) st st:=⟨rfl,rfl,Array.Perm.refl _,fun _ _=>rfl⟩
 refine wpS_bind (wpS_mono (wpS_forRange
  (I:=fun x c st'=>st'=st/\c=(none,x)/\Srt blt (arrOf st) lo (lo+x))
  (Q:=fun c st'=>st'=st/\∃m,c=(none,m)/\1<=m/\m<=nrem/\Srt blt (arrOf st) lo (lo+m)/\(m=nrem\/(m<nrem/\blt (gt (arrOf st) (lo+m)) (gt (arrOf st) (lo+m-1))=true))) ?step ?fin ?init) ?post)
 case init=>exact ⟨rfl,rfl,fun i j a1 a2 a3=>by rw [show i=lo by lia,show j=lo by lia];exact O.irr _ (hU _ (by lia))⟩
 case fin=>
  rintro c st' ⟨rfl,rfl,q⟩;rw [show max 1 nrem=nrem by lia] at q ⊢;exact ⟨rfl,nrem,rfl,h1,Nat.le_refl _,q,.inl rfl⟩
 case step=>
  rintro x c st' x1 x2 ⟨rfl,rfl,q⟩;dsimp only;refine wpS_bind (wpS_ltAt hL hk hU (by lia) (by lia) ?_);dsimp only;cases e:blt (gt (arrOf st') (lo+x)) (gt (arrOf st') (lo+x-1)) with
  | true=>
   simp only [if_true];exact wpS_pure ⟨rfl,x,rfl,x1,by lia,q,.inr ⟨x2,e⟩⟩
  | false=>
   simp only [Bool.false_eq_true,if_false];exact wpS_pure ⟨rfl,rfl,qJ O hU (by lia) x1 q e⟩
 case post=>
  rintro c st ⟨hst,n,rfl,n1,n2,q,hor⟩;have hst:=hst.symm;subst hst;dsimp only;by_cases hnn:n=nrem
  ·rw [if_pos (by simpa using hnn)];exact wpS_pure (h n _ stp0 rfl n1 n2 q)
  rw [if_neg (by simpa using hnn)];obtain ⟨n3,hlt⟩:=hor.resolve_left hnn;by_cases hgt:n > 1
  ·rw [if_pos hgt];refine wpS_bind (wpS_ltAt hL hk hU (by lia) (by lia) ?_);dsimp only;cases e:blt (gt (arrOf st) lo) (gt (arrOf st) (lo+n-1)) with
   | true=>
    simp only [if_true];exact wpS_pure (h n _ stp0 rfl n1 n2 q)
   | false=>
    simp only [Bool.false_eq_true,if_false];refine wpS_bind (wpS_reverse ?_);have stp2:Stp lo (lo+nrem) st (setArr st (mirror (arrOf st) lo (lo+n) ((lo+n-lo) / 2))):=stp0.mir (Nat.le_refl _) (by lia) (by lia);have pd2:pendingOf (setArr st (mirror (arrOf st) lo (lo+n) ((lo+n-lo) / 2)))=pendingOf st:=rfl;have ev:∀i,lo<=i->i<lo+n->Eqv blt (gt (arrOf st) i) (gt (arrOf st) (lo+n-1)):=fun i i1 i2=>by
     refine ⟨?_,q i (lo+n-1) i1 (by lia) (by lia)⟩
     ·cases z:blt (gt (arrOf st) i) (gt (arrOf st) (lo+n-1)) with
      | false=>rfl
      | true=>
       rcases O.ntr _ (gt (arrOf st) lo) _ (hU i (by lia)) (hU lo (by lia)) (hU (lo+n-1) (by lia)) z with p|p
       ·rw [q lo i (Nat.le_refl _) i1 i2] at p;cases p
       ·rw [e] at p;cases p
    have hm:∀k,k<(arrOf st).size->Eqv blt (gt (mirror (arrOf st) lo (lo+n) ((lo+n-lo) / 2)) k) (gt (arrOf st) k):=fun k hk'=>by
     rw [n8 (by lia)];by_cases c:lo<=k/\k<lo+n
     ·rw [if_pos c];exact (ev _ (by lia) (by lia)).trans O (hU _ (by lia)) (hU _ (by lia)) (hU _ (by lia)) (ev k c.1 c.2).symm
     ·rw [if_neg c];exact Eqv.ZG O (hU _ hk')
    have ni1:NonInc blt (arrOf st) lo n:=fun i j a1 a2 a3=>((ev i a1 (by lia)).trans O (hU _ (by lia)) (hU _ (by lia)) (hU _ (by lia)) (ev j (by lia) a3).symm).1
    have ni2:NonInc blt (arrOf (setArr st (mirror (arrOf st) lo (lo+n) ((lo+n-lo) / 2)))) lo (n+1):=
     CT O hU (bM hU (mirror_perm _ _ _ _)) (by lia) (by show lo+(n+1)<=(mirror _ _ _ _).size;rw [mirror_size];lia) (rP O hU (by lia) n1 ni1 (O.ZF (hU _ (by lia)) (hU _ (by lia)) hlt)) hm
    refine wpS_bind (wpS_lift (wpAny_rule ⟨rfl,?_⟩));refine wpS_bind (wpS_mono (wpS_forRange
     (I:=fun x c st'=>∃neq,c=(none,x,neq)/\Stp lo (lo+nrem) st st'/\pendingOf st'=pendingOf st/\NonInc blt (arrOf st') lo x/\neq+1<=x/\∀i,lo+x-(neq+1)<=i->i<lo+x->Eqv blt (gt (arrOf st') i) (gt (arrOf st') (lo+x-1)))
     (Q:=fun c st'=>∃m neq,c=(none,m,neq)/\n+1<=m/\m<=nrem/\Stp lo (lo+nrem) st st'/\pendingOf st'=pendingOf st/\NonInc blt (arrOf st') lo m/\neq+1<=m/\∀i,lo+m-(neq+1)<=i->i<lo+m->Eqv blt (gt (arrOf st') i) (gt (arrOf st') (lo+m-1))) ?dstep ?dfin ?dinit) ?dpost)
    case dinit=>exact ⟨0,rfl,stp2,pd2,ni2,by lia,fun i i1 i2=>by rw [show i=lo+(n+1)-1 by lia];exact Eqv.ZG O (bM hU stp2.pm _ (by rw [stp2.sz];lia))⟩
    case dfin=>
     rintro c st' ⟨neq,rfl,q1,q2,q3,q4,q5⟩;rw [show max (n+1) nrem=nrem by lia] at q3 q4 q5 ⊢;exact ⟨nrem,neq,rfl,by lia,Nat.le_refl _,q1,q2,q3,q4,q5⟩
    case dstep=>
     rintro x c st' x1 x2 ⟨neq,rfl,q1,q2,q3,q4,q5⟩;dsimp only;have hUx:=bM hU q1.pm;have hzx:lo+nrem<=(arrOf st').size:=by rw [q1.sz];lia
     refine wpS_bind (wpS_ltAt hL (q1.kd.trans hk) hUx (by lia) (by lia) ?_);dsimp only;cases e:blt (gt (arrOf st') (lo+x)) (gt (arrOf st') (lo+x-1)) with
     | true=>
      simp only [if_true];have ni':NonInc blt (arrOf st') lo (x+1):=rP O hUx (by lia) (by lia) q3 (O.ZF (hUx _ (by lia)) (hUx _ (by lia)) e);by_cases hq:neq > 0
      ·rw [if_pos hq];refine wpS_bind (wpS_reverse (wpS_pure ⟨0,rfl,q1.mir (by lia) (by lia) (by lia),q2,?_,by lia,fun i i1 i2=>?_⟩))
       ·exact CT O hUx (bM hUx (mirror_perm _ _ _ _)) (by lia) (by rw [mirror_size];lia) ni' (yM O hUx (by lia) (by lia) q5)
       ·rw [show i=lo+(x+1)-1 by lia];exact Eqv.ZG O (bM hUx (mirror_perm _ _ _ _) _ (by rw [mirror_size];lia))
      ·rw [if_neg hq];exact wpS_pure ⟨0,rfl,q1,q2,ni',by lia,fun i i1 i2=>by rw [show i=lo+(x+1)-1 by lia];exact Eqv.ZG O (hUx _ (by lia))⟩
     | false=>
      simp only [Bool.false_eq_true,if_false];refine wpS_bind (wpS_ltAt hL (q1.kd.trans hk) hUx (by lia) (by lia) ?_);dsimp only;cases e2:blt (gt (arrOf st') (lo+x-1)) (gt (arrOf st') (lo+x)) with
      | true=>
       simp only [if_true];exact wpS_pure ⟨x,neq,rfl,x1,by lia,q1,q2,q3,q4,q5⟩
      | false=>
       simp only [Bool.false_eq_true,if_false];refine wpS_pure ⟨neq+1,rfl,q1,q2,rP O hUx (by lia) (by lia) q3 e2,by lia,fun i i1 i2=>?_⟩;rw [show lo+(x+1)-1=lo+x by lia];by_cases c:i=lo+x
       ·rw [c];exact Eqv.ZG O (hUx _ (by lia))
       ·exact (q5 i (by lia) (by lia)).trans O (hUx _ (by lia)) (hUx _ (by lia)) (hUx _ (by lia)) ⟨e2,e⟩
    case dpost=>
     rintro c st3 ⟨m,neq,rfl,m1,m2,q1,q2,q3,q4,q5⟩;dsimp only;have hU3:=bM hU q1.pm;have hz3:lo+nrem<=(arrOf st3).size:=by rw [q1.sz];lia
     by_cases hq:neq > 0
     ·rw [if_pos hq];refine wpS_bind (wpS_reverse ?_);have stp4:=q1.mir (i:=lo+m-(neq+1)) (j:=lo+m) (by lia) (by lia) (by lia);have ni4:NonInc blt (mirror (arrOf st3) (lo+m-(neq+1)) (lo+m) ((lo+m-(lo+m-(neq+1))) / 2)) lo m:=
       CT O hU3 (bM hU3 (mirror_perm _ _ _ _)) (by lia) (by rw [mirror_size];lia) q3 (yM O hU3 (by lia) (by lia) q5)
      refine wpS_bind (wpS_reverse ?_);have stpA:Stp lo (lo+nrem) st (setArr (mrA st3 lo m neq) (mirror (arrOf (mrA st3 lo m neq)) lo (lo+m) ((lo+m-lo) / 2))):=stp4.mir (Nat.le_refl _) (by lia) (by rw [stp4.sz];lia);have pdA:pendingOf (setArr (mrA st3 lo m neq) (mirror (arrOf (mrA st3 lo m neq)) lo (lo+m) ((lo+m-lo) / 2)))=pendingOf st:=q2;have hsA:Srt blt (arrOf (setArr (mrA st3 lo m neq) (mirror (arrOf (mrA st3 lo m neq)) lo (lo+m) ((lo+m-lo) / 2)))) lo (lo+m):=yL (by rw [stp4.sz];lia) ni4;refine wpS_bind (wpS_mono (wpS_forRange
       (I:=fun x c st'=>st'=(setArr (mrA st3 lo m neq) (mirror (arrOf (mrA st3 lo m neq)) lo (lo+m) ((lo+m-lo) / 2)))/\c=(none,x)/\Srt blt (arrOf (setArr (mrA st3 lo m neq) (mirror (arrOf (mrA st3 lo m neq)) lo (lo+m) ((lo+m-lo) / 2)))) lo (lo+x))
       (Q:=fun c st'=>st'=(setArr (mrA st3 lo m neq) (mirror (arrOf (mrA st3 lo m neq)) lo (lo+m) ((lo+m-lo) / 2)))/\∃mm,c=(none,mm)/\m<=mm/\mm<=nrem/\Srt blt (arrOf (setArr (mrA st3 lo m neq) (mirror (arrOf (mrA st3 lo m neq)) lo (lo+m) ((lo+m-lo) / 2)))) lo (lo+mm)) ?stepA ?finA ?initA) ?postA)
      case initA=>exact ⟨rfl,rfl,hsA⟩
      case finA=>
       rintro c st' ⟨rfl,rfl,q⟩;rw [show max m nrem=nrem by lia] at q ⊢;exact ⟨rfl,nrem,rfl,by lia,Nat.le_refl _,q⟩
      case postA=>
       rintro c st' ⟨rfl,mm,rfl,mm1,mm2,q⟩;exact wpS_pure (h mm _ stpA pdA (by lia) mm2 q)
      case stepA=>
       rintro x c st' x1 x2 ⟨rfl,rfl,q⟩;dsimp only;refine wpS_bind (wpS_ltAt hL (stpA.kd.trans hk) (bM hU stpA.pm) (by rw [stpA.sz];lia) (by rw [stpA.sz];lia) ?_);dsimp only;cases e:blt (gt (arrOf (setArr (mrA st3 lo m neq) (mirror (arrOf (mrA st3 lo m neq)) lo (lo+m) ((lo+m-lo) / 2)))) (lo+x)) (gt (arrOf (setArr (mrA st3 lo m neq) (mirror (arrOf (mrA st3 lo m neq)) lo (lo+m) ((lo+m-lo) / 2)))) (lo+x-1)) with
       | true=>
        simp only [if_true];exact wpS_pure ⟨rfl,x,rfl,x1,by lia,q⟩
       | false=>
        simp only [Bool.false_eq_true,if_false];exact wpS_pure ⟨rfl,rfl,qJ O (bM hU stpA.pm) (by rw [stpA.sz];lia) (by lia) q e⟩
     ·rw [if_neg hq];refine wpS_bind (wpS_reverse ?_);have stpB:Stp lo (lo+nrem) st (mrB st3 lo m):=q1.mir (Nat.le_refl _) (by lia) (by rw [q1.sz];lia);have pdB:pendingOf (mrB st3 lo m)=pendingOf st:=q2;have hsB:Srt blt (arrOf (mrB st3 lo m)) lo (lo+m):=yL (by rw [q1.sz];lia) q3;refine wpS_bind (wpS_mono (wpS_forRange
       (I:=fun x c st'=>st'=(mrB st3 lo m)/\c=(none,x)/\Srt blt (arrOf (mrB st3 lo m)) lo (lo+x))
       (Q:=fun c st'=>st'=(mrB st3 lo m)/\∃mm,c=(none,mm)/\m<=mm/\mm<=nrem/\Srt blt (arrOf (mrB st3 lo m)) lo (lo+mm)) ?stepB ?finB ?initB) ?postB)
      case initB=>exact ⟨rfl,rfl,hsB⟩
      case finB=>
       rintro c st' ⟨rfl,rfl,q⟩;rw [show max m nrem=nrem by lia] at q ⊢;exact ⟨rfl,nrem,rfl,by lia,Nat.le_refl _,q⟩
      case postB=>
       rintro c st' ⟨rfl,mm,rfl,mm1,mm2,q⟩;exact wpS_pure (h mm _ stpB pdB (by lia) mm2 q)
      case stepB=>
       rintro x c st' x1 x2 ⟨rfl,rfl,q⟩;dsimp only;refine wpS_bind (wpS_ltAt hL (stpB.kd.trans hk) (bM hU stpB.pm) (by rw [stpB.sz];lia) (by rw [stpB.sz];lia) ?_);dsimp only;cases e:blt (gt (arrOf (mrB st3 lo m)) (lo+x)) (gt (arrOf (mrB st3 lo m)) (lo+x-1)) with
       | true=>
        simp only [if_true];exact wpS_pure ⟨rfl,x,rfl,x1,by lia,q⟩
       | false=>
        simp only [Bool.false_eq_true,if_false];exact wpS_pure ⟨rfl,rfl,qJ O (bM hU stpB.pm) (by rw [stpB.sz];lia) (by lia) q e⟩
  ·rw [if_neg hgt];obtain rfl:n=1:=by lia
   have stp2:=stp0;have pd2:pendingOf st=pendingOf st:=rfl;have ni2:NonInc blt (arrOf st) lo (1+1):=rP O hU (by lia) (Nat.le_refl _) (fun i j a1 a2 a3=>by rw [show i=lo by lia,show j=lo by lia];exact O.irr _ (hU _ (by lia))) (O.ZF (hU _ (by lia)) (hU _ (by lia)) hlt);refine wpS_bind (wpS_lift (wpAny_rule ⟨rfl,?_⟩));refine wpS_bind (wpS_mono (wpS_forRange
    (I:=fun x c st'=>∃neq,c=(none,x,neq)/\Stp lo (lo+nrem) st st'/\pendingOf st'=pendingOf st/\NonInc blt (arrOf st') lo x/\neq+1<=x/\∀i,lo+x-(neq+1)<=i->i<lo+x->Eqv blt (gt (arrOf st') i) (gt (arrOf st') (lo+x-1)))
    (Q:=fun c st'=>∃m neq,c=(none,m,neq)/\1+1<=m/\m<=nrem/\Stp lo (lo+nrem) st st'/\pendingOf st'=pendingOf st/\NonInc blt (arrOf st') lo m/\neq+1<=m/\∀i,lo+m-(neq+1)<=i->i<lo+m->Eqv blt (gt (arrOf st') i) (gt (arrOf st') (lo+m-1))) ?dstep ?dfin ?dinit) ?dpost)
   case dinit=>exact ⟨0,rfl,stp2,pd2,ni2,by lia,fun i i1 i2=>by rw [show i=lo+(1+1)-1 by lia];exact Eqv.ZG O (bM hU stp2.pm _ (by rw [stp2.sz];lia))⟩
   case dfin=>
    rintro c st' ⟨neq,rfl,q1,q2,q3,q4,q5⟩;rw [show max (1+1) nrem=nrem by lia] at q3 q4 q5 ⊢;exact ⟨nrem,neq,rfl,by lia,Nat.le_refl _,q1,q2,q3,q4,q5⟩
   case dstep=>
    rintro x c st' x1 x2 ⟨neq,rfl,q1,q2,q3,q4,q5⟩;dsimp only;have hUx:=bM hU q1.pm;have hzx:lo+nrem<=(arrOf st').size:=by rw [q1.sz];lia
    refine wpS_bind (wpS_ltAt hL (q1.kd.trans hk) hUx (by lia) (by lia) ?_);dsimp only;cases e:blt (gt (arrOf st') (lo+x)) (gt (arrOf st') (lo+x-1)) with
    | true=>
     simp only [if_true];have ni':NonInc blt (arrOf st') lo (x+1):=rP O hUx (by lia) (by lia) q3 (O.ZF (hUx _ (by lia)) (hUx _ (by lia)) e);by_cases hq:neq > 0
     ·rw [if_pos hq];refine wpS_bind (wpS_reverse (wpS_pure ⟨0,rfl,q1.mir (by lia) (by lia) (by lia),q2,?_,by lia,fun i i1 i2=>?_⟩))
      ·exact CT O hUx (bM hUx (mirror_perm _ _ _ _)) (by lia) (by rw [mirror_size];lia) ni' (yM O hUx (by lia) (by lia) q5)
      ·rw [show i=lo+(x+1)-1 by lia];exact Eqv.ZG O (bM hUx (mirror_perm _ _ _ _) _ (by rw [mirror_size];lia))
     ·rw [if_neg hq];exact wpS_pure ⟨0,rfl,q1,q2,ni',by lia,fun i i1 i2=>by rw [show i=lo+(x+1)-1 by lia];exact Eqv.ZG O (hUx _ (by lia))⟩
    | false=>
     simp only [Bool.false_eq_true,if_false];refine wpS_bind (wpS_ltAt hL (q1.kd.trans hk) hUx (by lia) (by lia) ?_);dsimp only;cases e2:blt (gt (arrOf st') (lo+x-1)) (gt (arrOf st') (lo+x)) with
     | true=>
      simp only [if_true];exact wpS_pure ⟨x,neq,rfl,x1,by lia,q1,q2,q3,q4,q5⟩
     | false=>
      simp only [Bool.false_eq_true,if_false];refine wpS_pure ⟨neq+1,rfl,q1,q2,rP O hUx (by lia) (by lia) q3 e2,by lia,fun i i1 i2=>?_⟩;rw [show lo+(x+1)-1=lo+x by lia];by_cases c:i=lo+x
      ·rw [c];exact Eqv.ZG O (hUx _ (by lia))
      ·exact (q5 i (by lia) (by lia)).trans O (hUx _ (by lia)) (hUx _ (by lia)) (hUx _ (by lia)) ⟨e2,e⟩
   case dpost=>
    rintro c st3 ⟨m,neq,rfl,m1,m2,q1,q2,q3,q4,q5⟩;dsimp only;have hU3:=bM hU q1.pm;have hz3:lo+nrem<=(arrOf st3).size:=by rw [q1.sz];lia
    by_cases hq:neq > 0
    ·rw [if_pos hq];refine wpS_bind (wpS_reverse ?_);have stp4:=q1.mir (i:=lo+m-(neq+1)) (j:=lo+m) (by lia) (by lia) (by lia);have ni4:NonInc blt (mirror (arrOf st3) (lo+m-(neq+1)) (lo+m) ((lo+m-(lo+m-(neq+1))) / 2)) lo m:=
      CT O hU3 (bM hU3 (mirror_perm _ _ _ _)) (by lia) (by rw [mirror_size];lia) q3 (yM O hU3 (by lia) (by lia) q5)
     refine wpS_bind (wpS_reverse ?_);have stpA:Stp lo (lo+nrem) st (setArr (mrA st3 lo m neq) (mirror (arrOf (mrA st3 lo m neq)) lo (lo+m) ((lo+m-lo) / 2))):=stp4.mir (Nat.le_refl _) (by lia) (by rw [stp4.sz];lia);have pdA:pendingOf (setArr (mrA st3 lo m neq) (mirror (arrOf (mrA st3 lo m neq)) lo (lo+m) ((lo+m-lo) / 2)))=pendingOf st:=q2;have hsA:Srt blt (arrOf (setArr (mrA st3 lo m neq) (mirror (arrOf (mrA st3 lo m neq)) lo (lo+m) ((lo+m-lo) / 2)))) lo (lo+m):=yL (by rw [stp4.sz];lia) ni4;refine wpS_bind (wpS_mono (wpS_forRange
      (I:=fun x c st'=>st'=(setArr (mrA st3 lo m neq) (mirror (arrOf (mrA st3 lo m neq)) lo (lo+m) ((lo+m-lo) / 2)))/\c=(none,x)/\Srt blt (arrOf (setArr (mrA st3 lo m neq) (mirror (arrOf (mrA st3 lo m neq)) lo (lo+m) ((lo+m-lo) / 2)))) lo (lo+x))
      (Q:=fun c st'=>st'=(setArr (mrA st3 lo m neq) (mirror (arrOf (mrA st3 lo m neq)) lo (lo+m) ((lo+m-lo) / 2)))/\∃mm,c=(none,mm)/\m<=mm/\mm<=nrem/\Srt blt (arrOf (setArr (mrA st3 lo m neq) (mirror (arrOf (mrA st3 lo m neq)) lo (lo+m) ((lo+m-lo) / 2)))) lo (lo+mm)) ?stepA ?finA ?initA) ?postA)
     case initA=>exact ⟨rfl,rfl,hsA⟩
     case finA=>
      rintro c st' ⟨rfl,rfl,q⟩;rw [show max m nrem=nrem by lia] at q ⊢;exact ⟨rfl,nrem,rfl,by lia,Nat.le_refl _,q⟩
     case postA=>
      rintro c st' ⟨rfl,mm,rfl,mm1,mm2,q⟩;exact wpS_pure (h mm _ stpA pdA (by lia) mm2 q)
     case stepA=>
      rintro x c st' x1 x2 ⟨rfl,rfl,q⟩;dsimp only;refine wpS_bind (wpS_ltAt hL (stpA.kd.trans hk) (bM hU stpA.pm) (by rw [stpA.sz];lia) (by rw [stpA.sz];lia) ?_);dsimp only;cases e:blt (gt (arrOf (setArr (mrA st3 lo m neq) (mirror (arrOf (mrA st3 lo m neq)) lo (lo+m) ((lo+m-lo) / 2)))) (lo+x)) (gt (arrOf (setArr (mrA st3 lo m neq) (mirror (arrOf (mrA st3 lo m neq)) lo (lo+m) ((lo+m-lo) / 2)))) (lo+x-1)) with
      | true=>
       simp only [if_true];exact wpS_pure ⟨rfl,x,rfl,x1,by lia,q⟩
      | false=>
       simp only [Bool.false_eq_true,if_false];exact wpS_pure ⟨rfl,rfl,qJ O (bM hU stpA.pm) (by rw [stpA.sz];lia) (by lia) q e⟩
    ·rw [if_neg hq];refine wpS_bind (wpS_reverse ?_);have stpB:Stp lo (lo+nrem) st (mrB st3 lo m):=q1.mir (Nat.le_refl _) (by lia) (by rw [q1.sz];lia);have pdB:pendingOf (mrB st3 lo m)=pendingOf st:=q2;have hsB:Srt blt (arrOf (mrB st3 lo m)) lo (lo+m):=yL (by rw [q1.sz];lia) q3;refine wpS_bind (wpS_mono (wpS_forRange
      (I:=fun x c st'=>st'=(mrB st3 lo m)/\c=(none,x)/\Srt blt (arrOf (mrB st3 lo m)) lo (lo+x))
      (Q:=fun c st'=>st'=(mrB st3 lo m)/\∃mm,c=(none,mm)/\m<=mm/\mm<=nrem/\Srt blt (arrOf (mrB st3 lo m)) lo (lo+mm)) ?stepB ?finB ?initB) ?postB)
     case initB=>exact ⟨rfl,rfl,hsB⟩
     case finB=>
      rintro c st' ⟨rfl,rfl,q⟩;rw [show max m nrem=nrem by lia] at q ⊢;exact ⟨rfl,nrem,rfl,by lia,Nat.le_refl _,q⟩
     case postB=>
      rintro c st' ⟨rfl,mm,rfl,mm1,mm2,q⟩;exact wpS_pure (h mm _ stpB pdB (by lia) mm2 q)
     case stepB=>
      rintro x c st' x1 x2 ⟨rfl,rfl,q⟩;dsimp only;refine wpS_bind (wpS_ltAt hL (stpB.kd.trans hk) (bM hU stpB.pm) (by rw [stpB.sz];lia) (by rw [stpB.sz];lia) ?_);dsimp only;cases e:blt (gt (arrOf (mrB st3 lo m)) (lo+x)) (gt (arrOf (mrB st3 lo m)) (lo+x-1)) with
      | true=>
       simp only [if_true];exact wpS_pure ⟨rfl,x,rfl,x1,by lia,q⟩
      | false=>
       simp only [Bool.false_eq_true,if_false];exact wpS_pure ⟨rfl,rfl,qJ O (bM hU stpB.pm) (by rw [stpB.sz];lia) (by lia) q e⟩
end
end TS
end
section
namespace TS
open PySem PyProof.Rows
section
variable {blt:Keyed->Keyed->Bool} {U:Keyed->Prop}
theorem uL {a:Array Keyed} {src d:Nat} (hs:src<a.size) (hd:d<=src) (k:Nat) :
  gt (bubble a src d) k=if k=src-d then gt a src else if src-d<k/\k<=src then gt a (k-1) else gt a k:=by
 rw [aHl,getElem?_bubble hs d hd]
 repeat' split
 all_goals rw [aHl]
end
section
variable {prog:Program} {w:World} {A:Around} {E:Value->Shared->Prop} {s:Shared} {kd:SortKind} {U:Keyed->Prop} {blt:Keyed->Keyed->Bool}
theorem wpS_binarySort (O:Ord U blt) (hL:Q9 prog w A E s kd U blt) {lo n ok:Nat} {st:SortSt} {Q:Bool->SortSt->Prop} (hk:kindOf st=kd) (hU:qI U (arrOf st)) (hn:lo+n<=(arrOf st).size) (hok:ok<=n)
  (hs:Srt blt (arrOf st) lo (lo+ok))
  (h:∀st',Stp lo (lo+n) st st'->pendingOf st'=pendingOf st->Srt blt (arrOf st') lo (lo+n)->Q true st'):wpS (model prog w) A E s (binarySort' lo n ok) Q st:=by
 rw [binarySort'_eq];have stp0:Stp lo (lo+n) st st:=⟨rfl,rfl,Array.Perm.refl _,fun _ _=>rfl⟩
 refine wpS_bind (wpS_mono (wpS_forRange (I:=fun k c st'=>c=(none,())/\Stp lo (lo+n) st st'/\pendingOf st'=pendingOf st/\Srt blt (arrOf st') lo (lo+min k n))
  (Q:=fun c st'=>c=(none,())/\Stp lo (lo+n) st st'/\pendingOf st'=pendingOf st/\Srt blt (arrOf st') lo (lo+n)) ?step ?fin ?init) ?post)
 case post=>
  rintro c st' ⟨rfl,q1,q2,q3⟩;exact wpS_pure (h st' q1 q2 q3)
 case init=>
  refine ⟨rfl,stp0,rfl,fun i j a1 a2 a3=>?_⟩;by_cases h1:ok=0
  ·rw [show i=j by lia];exact O.irr _ (hU _ (by lia))
  ·exact hs i j a1 a2 (by lia)
 case fin=>
  rintro c st' ⟨hc,q1,q2,q3⟩;rw [show min (max (max ok 1) n) n=n by lia] at q3;exact ⟨hc,q1,q2,q3⟩
 case step=>
  rintro k c st' k1 k2 ⟨rfl,q1,q2,q3⟩;rw [show min k n=k by lia] at q3;have hU':=bM hU q1.pm;have hz:lo+n<=(arrOf st').size:=by rw [q1.sz];exact hn
  refine wpS_bind (wpS_mono (wpS_forRange (I:=fun x c st''=>st''=st'/\∃l r,c=(none,l,r)/\l<=r/\r<=k/\r-l<=k-x/\
    (∀i,lo<=i->i<lo+l->blt (gt (arrOf st') (lo+k)) (gt (arrOf st') i)=false)/\(∀i,lo+r<=i->i<lo+k->blt (gt (arrOf st') (lo+k)) (gt (arrOf st') i)=true))
   (Q:=fun c st''=>st''=st'/\∃l r,c=(none,l,r)/\l<=k/\
    (∀i,lo<=i->i<lo+l->blt (gt (arrOf st') (lo+k)) (gt (arrOf st') i)=false)/\(∀i,lo+l<=i->i<lo+k->blt (gt (arrOf st') (lo+k)) (gt (arrOf st') i)=true)) ?istep ?ifin ?iinit) ?ipost)
  case iinit=>exact ⟨rfl,0,k,rfl,by lia,by lia,by lia,fun i i1 i2=>by lia,fun i i1 i2=>by lia⟩
  case ifin=>
   rintro c st'' ⟨rfl,l,r,rfl,b1,b2,b3,b4,b5⟩;obtain rfl:l=r:=by lia
   exact ⟨rfl,l,l,rfl,b2,b4,b5⟩
  case istep=>
   rintro x c st'' _ hx ⟨rfl,l,r,rfl,b1,b2,b3,b4,b5⟩;dsimp only;by_cases hge:l >= r
   ·rw [if_pos hge];obtain rfl:l=r:=by lia
    exact wpS_pure ⟨rfl,l,l,rfl,b2,b4,b5⟩
   ·rw [if_neg hge];refine wpS_bind (wpS_ltAt hL (q1.kd.trans hk) hU' (by lia) (by lia) ?_);dsimp only;cases e:blt (gt (arrOf st'') (lo+k)) (gt (arrOf st'') (lo+(l+r) / 2)) with
    | true=>
     simp only [if_true];refine wpS_pure ⟨rfl,l,(l+r) / 2,rfl,by lia,by lia,by lia,b4,fun i i1 i2=>?_⟩;rcases O.ntr _ (gt (arrOf st'') i) _ (hU' _ (by lia)) (hU' i (by lia)) (hU' _ (by lia)) e with p|p
     ·exact p
     ·rw [q3 _ i (by lia) i1 (by lia)] at p;cases p
    | false=>
     simp only [Bool.false_eq_true,if_false];refine wpS_pure ⟨rfl,(l+r) / 2+1,r,rfl,by lia,by lia,by lia,fun i i1 i2=>?_,b5⟩;exact O.le_trans (hU' _ (by lia)) (hU' (lo+(l+r) / 2) (by lia)) (hU' _ (by lia)) (q3 i (lo+(l+r) / 2) i1 (by lia) (by lia)) e
  case ipost=>
   rintro c st'' ⟨rfl,l,r,rfl,b1,b4,b5⟩;show wpS _ _ _ _ (moveDown' (lo+k) (lo+l) >>= fun _=>pure (ForInStep.yield (none,()))) _ _;rw [moveDown'_eq];refine wpS_bind (wpS_modify (wpS_pure ⟨rfl,⟨q1.kd,q1.fl,(bubble_perm _ _ _).trans q1.pm,fun j hj=>?_⟩,q2,?_⟩))
   ·show gt (bubble (arrOf st'') (lo+k) (lo+k-(lo+l))) j=_;rw [uL (by lia) (by lia),if_neg (by lia),if_neg (by lia)];exact q1.out j hj
   ·rw [show min (k+1) n=k+1 by lia];intro i j a1 a2 a3;show blt (gt (bubble (arrOf st'') (lo+k) (lo+k-(lo+l))) j) (gt (bubble (arrOf st'') (lo+k) (lo+k-(lo+l))) i)=false;rw [uL (by lia) (by lia),uL (by lia) (by lia),show lo+k-(lo+k-(lo+l))=lo+l by lia]
    repeat' split
    all_goals first
     | (exfalso;lia)
     | exact O.irr _ (hU' _ (by lia))
     | exact b4 _ (by lia) (by lia)
     | exact O.ZF (hU' _ (by lia)) (hU' _ (by lia)) (b5 _ (by lia) (by lia))
     | exact q3 _ _ (by lia) (by lia) (by lia)
end
section
variable {blt:Keyed->Keyed->Bool} {U:Keyed->Prop}
noncomputable def Runs (blt:Keyed->Keyed->Bool) (a:Array Keyed):List (Nat×Nat×Nat)->Nat->Nat->Prop
 | [],b,e=>b=e
 | (s,n,_)::r,b,e=>s=b/\0<n/\Srt blt a b (b+n)/\Runs blt a r (b+n) e
theorem Runs.le {a:Array Keyed}:∀{l:List (Nat×Nat×Nat)} {b e:Nat},Runs blt a l b e->b+l.length<=e
 | [],b,e,h=>by have:b=e:=h;simp;lia
 | (s,n,p)::r,b,e,h=>by
  obtain ⟨_,h1,_,h2⟩:=h;have:=Runs.le h2;rw [List.length_cons];lia
theorem Runs.app {a:Array Keyed}:∀{l r:List (Nat×Nat×Nat)} {b e:Nat},Runs blt a (l++r) b e↔∃m,Runs blt a l b m/\Runs blt a r m e
 | [],r,b,e=>⟨fun h=>⟨b,rfl,h⟩,fun ⟨m,h1,h2⟩=>by have:b=m:=h1;subst this;exact h2⟩
 | (s,n,p)::l,r,b,e=>by
  constructor
  ·rintro ⟨h1,h2,h3,h4⟩;obtain ⟨m,h5,h6⟩:=Runs.app.mp h4;exact ⟨m,⟨h1,h2,h3,h5⟩,h6⟩
  ·rintro ⟨m,⟨h1,h2,h3,h5⟩,h6⟩;exact ⟨h1,h2,h3,Runs.app.mpr ⟨m,h5,h6⟩⟩
theorem Runs.out {a a':Array Keyed}:∀{l:List (Nat×Nat×Nat)} {b e:Nat},Runs blt a l b e->(∀j,b<=j->j<e->gt a' j=gt a j)->Runs blt a' l b e
 | [],b,e,h,_=>h
 | (s,n,p)::l,b,e,⟨h1,h2,h3,h4⟩,q=>by
  have:=h4.le;exact ⟨h1,h2,h3.out fun j j1 j2=>q j j1 (by lia),Runs.out h4 fun j j1 j2=>q j (by lia) j2⟩
theorem Runs.two {a : Array Keyed} {l1 l2 : List (Nat × Nat × Nat)} {sa na p sb nb q b e : Nat} (h : Runs blt a (l1 ++ (sa,na,p) :: (sb,nb,q) :: l2) b e) :
  b<=sa/\sb=sa+na/\0<na/\0<nb/\sb+nb<=e/\Srt blt a sa (sa+na)/\Srt blt a sb (sb+nb):=by
 obtain ⟨m,h1,h2,h3,h4,h5,h6,h7,h8⟩:=Runs.app.mp h;subst h2 h5;have e1:=h1.le;have e2:=h8.le;exact ⟨by lia,rfl,h3,h6,by lia,h4,h7⟩
theorem Runs.merge {a a':Array Keyed} {l1 l2:List (Nat×Nat×Nat)} {sa na p sb nb q b e:Nat} (h:Runs blt a (l1++(sa,na,p)::(sb,nb,q)::l2) b e)
  (ho:∀j,j<sa\/sb+nb<=j->gt a' j=gt a j) (hs:Srt blt a' sa (sb+nb)):Runs blt a' (l1++(sa,na+nb,p)::l2) b e:=by
 obtain ⟨m,h1,h2,h3,h4,h5,h6,h7,h8⟩:=Runs.app.mp h;subst h2 h5;have e1:=h1.le;have e2:=h8.le;refine Runs.app.mpr ⟨sa,h1.out fun j _ j2=>ho j (by lia),rfl,by lia,?_,?_⟩
 ·rw [<-Nat.add_assoc];exact hs
 ·rw [<-Nat.add_assoc];exact h8.out fun j j1 _=>ho j (by lia)
theorem ers {p:Array (Nat×Nat×Nat)} {i:Nat} {x y v:Nat×Nat×Nat} {l1 l2:List (Nat×Nat×Nat)} (h:p.toList=l1++x::y::l2) (hi:l1.length=i) :
  ((p.setIfInBounds i v).eraseIdxIfInBounds (i+1)).toList=l1++v::l2:=by
 have hz:p.size=l1.length+(l2.length+2):=by
  have:=congrArg List.length h;simpa using this
 have:i+1<(p.setIfInBounds i v).size:=by rw [Array.size_setIfInBounds];lia
 rw [Array.eraseIdxIfInBounds,dif_pos this,Array.toList_eraseIdx,Array.toList_setIfInBounds,h,List.set_append_right _ _ (by lia),show i-l1.length=0 by lia,List.set_cons_zero,
  List.eraseIdx_append_of_length_le (by lia),show i+1-l1.length=1 by lia]
 rfl
theorem aFy {p:Array (Nat×Nat×Nat)} {i:Nat} (h:i+1<p.size):∃x y l1 l2,p.toList=l1++x::y::l2/\l1.length=i/\p[i]?=some x/\p[i+1]?=some y:=by
 refine ⟨p[i],p[i+1],p.toList.take i,p.toList.drop (i+2),?_,?_,by simp,by simp⟩
 ·conv=>lhs;rw [<-List.take_append_drop i p.toList]
  rw [List.drop_eq_getElem_cons (by simp;lia),List.drop_eq_getElem_cons (i:=i+1) (by simp;lia)];rfl
 ·simp;lia
end
end TS
end
section
namespace TS
open PySem PyProof.Rows
section
variable {prog:Program} {w:World} {A:Around} {E:Value->Shared->Prop} {s:Shared} {kd:SortKind} {U:Keyed->Prop} {blt:Keyed->Keyed->Bool}
structure Bs (U:Keyed->Prop) (kd:SortKind) (a₀:Array Keyed) (st:SortSt):Prop where
 kd:kindOf st=kd
 fl:failedOf st=none
 pm:(arrOf st).Perm a₀
theorem Bs.stp {a₀:Array Keyed} {st st':SortSt} {lo hi:Nat} (b:Bs U kd a₀ st) (h:Stp lo hi st st'):Bs U kd a₀ st':=⟨h.kd.trans b.kd,h.fl.trans b.fl,h.pm.trans b.pm⟩
theorem yN {a:Array Keyed} (pw:Nat):∀(i:Nat) {l:List (Nat×Nat×Nat)} {b e:Nat},Runs blt a l b e->Runs blt a (l.modify i fun x=>(x.1,x.2.1,pw)) b e
 | _,[],_,_,h=>by
  rw [List.modify_nil];exact h
 | 0,(s,n,p)::l,b,e,h=>h
 | i+1,(s,n,p)::l,b,e,⟨h1,h2,h3,h4⟩=>⟨h1,h2,h3,yN pw i h4⟩
theorem uM (O:Ord U blt) (hL:Q9 prog w A E s kd U blt) {a₀:Array Keyed} (hU:qI U a₀) {st:SortSt} {e i:Nat} {Q:Bool->SortSt->Prop} (B:Bs U kd a₀ st) (he:e<=a₀.size) (R:Runs blt (arrOf st) (pendingOf st).toList 0 e)
  (hi:i+1<(pendingOf st).size)
  (h:∀st',Bs U kd a₀ st'->Runs blt (arrOf st') (pendingOf st').toList 0 e->(pendingOf st').size+1=(pendingOf st).size->(∀j,e<=j->gt (arrOf st') j=gt (arrOf st) j)->Q true st'):wpS (model prog w) A E s (mergeAt' i) Q st:=by
 obtain ⟨⟨sa,na,p⟩,⟨sb,nb,q⟩,l1,l2,e1,e2,e3,e4⟩:=aFy hi;rw [e1] at R;obtain ⟨r1,r2,r3,r4,r5,r6,r7⟩:=R.two;have hz:(arrOf st).size=a₀.size:=B.pm.size_eq;refine JX O hL B.kd (bM hU B.pm) B.fl e3 e4 r2 (by lia) r3 r4 r6 r7 fun st' S Z P=>?_
 have P':(pendingOf st').toList=l1++(sa,na+nb,p)::l2:=by rw [P];exact ers e1 e2
 refine h st' (B.stp S) ?_ ?_ fun j hj=>S.out j (by lia)
 ·rw [P'];exact R.merge S.out Z
 ·have h1:=congrArg List.length P';have h2:=congrArg List.length e1;simp at h1 h2;lia
theorem wpS_sortRuns (O:Ord U blt) (hL:Q9 prog w A E s kd U blt) {a₀:Array Keyed} (hU:qI U a₀) {st:SortSt} {Q:Unit->SortSt->Prop} (B:Bs U kd a₀ st) (hp:pendingOf st=#[]) (hz:0<a₀.size)
  (h:∀st',Bs U kd a₀ st'->Srt blt (arrOf st') 0 a₀.size->Q () st'):wpS (model prog w) A E s sortRuns' Q st:=by
 have sz:∀{st':SortSt},Bs U kd a₀ st'->(arrOf st').size=a₀.size:=fun b=>b.pm.size_eq
 rw [sortRuns'_eq];refine wpS_bind (wpS_get ?_);dsimp only;rw [sz B];generalize minRun' a₀.size a₀.size 0=minrun;refine wpS_bind (wpS_mono (wpS_forRange
  (I:=fun x c st'=>∃lo,c=(none,lo)/\lo<=a₀.size/\(x<=lo\/lo=a₀.size)/\Bs U kd a₀ st'/\Runs blt (arrOf st') (pendingOf st').toList 0 lo)
  (Q:=fun c st'=>c=(none,a₀.size)/\Bs U kd a₀ st'/\Runs blt (arrOf st') (pendingOf st').toList 0 a₀.size) ?step ?fin ?init) ?post)
 case init=>exact ⟨0,rfl,Nat.zero_le _,.inl (Nat.le_refl _),B,by rw [hp];rfl⟩
 case fin=>
  rintro c st' ⟨lo,rfl,a1,a2,b,r⟩;obtain rfl:lo=a₀.size:=by lia
  exact ⟨rfl,b,r⟩
 case step=>
  rintro x c st1 _ hx ⟨lo,rfl,a1,a2,b,r⟩;dsimp only;by_cases hge:lo >= a₀.size
  ·rw [if_pos hge];obtain rfl:lo=a₀.size:=by lia
   exact wpS_pure ⟨rfl,b,r⟩
  rw [if_neg hge];refine wpS_bind (wpS_countRun O hL b.kd (bM hU b.pm) (by rw [sz b];lia) (by lia) fun m st2 S2 P2 m1 m2 Z2=>?_);dsimp only;have b2:=b.stp S2;have r2:Runs blt (arrOf st2) (pendingOf st2).toList 0 lo:=by rw [P2];exact r.out fun j _ j2=>S2.out j (.inl j2)
  have rest:∀(n:Nat),1<=n->lo+n<=a₀.size->∀(st4:SortSt),Bs U kd a₀ st4->∀l,(pendingOf st4).toList=l++[(lo,n,0)]->Runs blt (arrOf st4) l 0 lo->Srt blt (arrOf st4) lo (lo+n)->
    ∃lo',((none,lo+n):Option Unit×Nat)=(none,lo')/\lo'<=a₀.size/\(x+1<=lo'\/lo'=a₀.size)/\Bs U kd a₀ st4/\Runs blt (arrOf st4) (pendingOf st4).toList 0 lo':=by
   intro n n1 n2 st4 b4 l e r4 z4;refine ⟨lo+n,rfl,n2,?_,b4,?_⟩
   ·rcases a2 with a2|a2
    ·exact .inl (by lia)
    ·lia
   ·rw [e];exact Runs.app.mpr ⟨lo,r4,rfl,by lia,z4,rfl⟩
  by_cases hm:m<minrun
  ·rw [if_pos hm];refine wpS_bind (wpS_lift (wpAny_rule ⟨rfl,?_⟩));refine wpS_bind (wpS_binarySort O hL b2.kd (bM hU b2.pm) (by rw [sz b2];lia) (by lia) Z2 fun st3 S3 P3 Z3=>?_);simp only [Bool.not_true,Bool.false_eq_true,if_false];have b3:=b2.stp S3;have r3:Runs blt (arrOf st3) (pendingOf st3).toList 0 lo:=by rw [P3];exact r2.out fun j _ j2=>S3.out j (.inl j2)
   have hmm:1<=min (a₀.size-lo) minrun/\lo+min (a₀.size-lo) minrun<=a₀.size:=⟨by lia,by lia⟩
   refine wpS_bind (wpS_get ?_);cases hbk:(pendingOf st3).back? with
   | none=>
    dsimp only;refine wpS_bind (wpS_modify (wpS_pure (rest (min (a₀.size-lo) minrun) (by lia) (by lia) _ ⟨b3.kd,b3.fl,b3.pm⟩ _ ?_ r3 Z3)));show ((pendingOf st3).push (lo,(min (a₀.size-lo) minrun),0)).toList=_;rw [Array.toList_push]
   | some t=>
    obtain ⟨s1,n1',pw1⟩:=t;dsimp only;refine wpS_bind (wpS_mono (wpS_forRange
     (I:=fun y c st'=>c=(none,())/\Bs U kd a₀ st'/\Runs blt (arrOf st') (pendingOf st').toList 0 lo/\∀j,lo<=j->gt (arrOf st') j=gt (arrOf st3) j)
     (Q:=fun c st'=>c=(none,())/\Bs U kd a₀ st'/\Runs blt (arrOf st') (pendingOf st').toList 0 lo/\∀j,lo<=j->gt (arrOf st') j=gt (arrOf st3) j) ?mstep (fun c st' q=>q) ⟨rfl,b3,r3,fun _ _=>rfl⟩) ?mpost)
    case mpost=>
     rintro c st4 ⟨rfl,b4,r4,o4⟩;dsimp only;refine wpS_bind (wpS_modify (wpS_bind (wpS_modify (wpS_pure (rest (min (a₀.size-lo) minrun) (by lia) (by lia) _ ⟨b4.kd,b4.fl,b4.pm⟩ _ ?_ (yN (power' a₀.size (2*s1+n1') (2*s1+n1'+n1'+min (a₀.size-lo) minrun) a₀.size) ((pendingOf st4).size-1) r4) (Z3.out fun j j1 j2=>o4 j j1))))));show (((pendingOf st4).modify _ _).push (lo,(min (a₀.size-lo) minrun),0)).toList=_;rw [Array.toList_push,Array.toList_modify]
    case mstep=>
     rintro y c st4 _ hy ⟨rfl,b4,r4,o4⟩;refine wpS_bind (wpS_get ?_);by_cases hp:(pendingOf st4).size > 1
     ·rw [if_pos hp];obtain ⟨t,ht⟩:∃t,(pendingOf st4)[(pendingOf st4).size-2]?=some t:=⟨_,getElem?_pos _ _ (by lia)⟩
      rw [ht];obtain ⟨t1,t2,older⟩:=t;dsimp only;split
      ·exact wpS_pure ⟨rfl,b4,r4,o4⟩
      ·refine wpS_bind (uM O hL hU b4 (by lia) r4 (by lia) fun st5 b5 r5 _ o5=>?_);simp only [Bool.not_true,Bool.false_eq_true,if_false];exact wpS_pure ⟨rfl,b5,r5,fun j hj=>(o5 j hj).trans (o4 j hj)⟩
     ·rw [if_neg hp];exact wpS_pure ⟨rfl,b4,r4,o4⟩
  ·rw [if_neg hm];refine wpS_bind (wpS_get ?_);cases hbk:(pendingOf st2).back? with
   | none=>
    dsimp only;refine wpS_bind (wpS_modify (wpS_pure (rest m (by lia) (by lia) _ ⟨b2.kd,b2.fl,b2.pm⟩ _ ?_ r2 Z2)));show ((pendingOf st2).push (lo,m,0)).toList=_;rw [Array.toList_push]
   | some t=>
    obtain ⟨s1,n1',pw1⟩:=t;dsimp only;refine wpS_bind (wpS_mono (wpS_forRange
     (I:=fun y c st'=>c=(none,())/\Bs U kd a₀ st'/\Runs blt (arrOf st') (pendingOf st').toList 0 lo/\∀j,lo<=j->gt (arrOf st') j=gt (arrOf st2) j)
     (Q:=fun c st'=>c=(none,())/\Bs U kd a₀ st'/\Runs blt (arrOf st') (pendingOf st').toList 0 lo/\∀j,lo<=j->gt (arrOf st') j=gt (arrOf st2) j) ?mstep (fun c st' q=>q) ⟨rfl,b2,r2,fun _ _=>rfl⟩) ?mpost)
    case mpost=>
     rintro c st4 ⟨rfl,b4,r4,o4⟩;dsimp only;refine wpS_bind (wpS_modify (wpS_bind (wpS_modify (wpS_pure (rest m (by lia) (by lia) _ ⟨b4.kd,b4.fl,b4.pm⟩ _ ?_ (yN (power' a₀.size (2*s1+n1') (2*s1+n1'+n1'+m) a₀.size) ((pendingOf st4).size-1) r4) (Z2.out fun j j1 j2=>o4 j j1))))));show (((pendingOf st4).modify _ _).push (lo,m,0)).toList=_;rw [Array.toList_push,Array.toList_modify]
    case mstep=>
     rintro y c st4 _ hy ⟨rfl,b4,r4,o4⟩;refine wpS_bind (wpS_get ?_);by_cases hp:(pendingOf st4).size > 1
     ·rw [if_pos hp];obtain ⟨t,ht⟩:∃t,(pendingOf st4)[(pendingOf st4).size-2]?=some t:=⟨_,getElem?_pos _ _ (by lia)⟩
      rw [ht];obtain ⟨t1,t2,older⟩:=t;dsimp only;split
      ·exact wpS_pure ⟨rfl,b4,r4,o4⟩
      ·refine wpS_bind (uM O hL hU b4 (by lia) r4 (by lia) fun st5 b5 r5 _ o5=>?_);simp only [Bool.not_true,Bool.false_eq_true,if_false];exact wpS_pure ⟨rfl,b5,r5,fun j hj=>(o5 j hj).trans (o4 j hj)⟩
     ·rw [if_neg hp];exact wpS_pure ⟨rfl,b4,r4,o4⟩
 case post=>
  rintro c st1 ⟨rfl,b,r⟩;dsimp only;have hle:=r.le;rw [Array.length_toList] at hle;refine wpS_bind (wpS_mono (wpS_forRange
   (I:=fun x c st'=>c=(none,())/\Bs U kd a₀ st'/\Runs blt (arrOf st') (pendingOf st').toList 0 a₀.size/\((pendingOf st').size+x<=a₀.size\/(pendingOf st').size<=1))
   (Q:=fun c st'=>c=(none,())/\Bs U kd a₀ st'/\Runs blt (arrOf st') (pendingOf st').toList 0 a₀.size/\(pendingOf st').size<=1) ?fstep ?ffin ?finit) ?fpost)
  case finit=>exact ⟨rfl,b,r,.inl (by lia)⟩
  case ffin=>
   rintro c st' ⟨rfl,q1,q2,q3⟩;exact ⟨rfl,q1,q2,by lia⟩
  case fpost=>
   rintro c st' ⟨rfl,q1,q2,q3⟩;refine wpS_pure (h st' q1 ?_)
   match hl:(pendingOf st').toList with
   | []=>rw [hl] at q2;have:0=a₀.size:=q2;lia
   | [(s0,n0,p0)]=>
    rw [hl] at q2;obtain ⟨_,_,z,e⟩:=q2;have e:0+n0=a₀.size:=e;rw [e] at z;exact z
   | _::_::_=>
    have:=congrArg List.length hl;rw [Array.length_toList] at this;simp at this;lia
  case fstep=>
   rintro x c st4 _ hx ⟨rfl,b4,r4,o4⟩;refine wpS_bind (wpS_get ?_);by_cases hp1:(pendingOf st4).size<=1
   ·rw [if_pos hp1];exact wpS_pure ⟨rfl,b4,r4,hp1⟩
   rw [if_neg hp1];refine wpS_bind (uM O hL hU b4 (Nat.le_refl _) r4 ?hi fun st5 b5 r5 e5 _=>?_)
   case hi=>
    repeat' split
    all_goals lia
   simp only [Bool.not_true,Bool.false_eq_true,if_false];exact wpS_pure ⟨rfl,b5,r5,by lia⟩
end
end TS
end
section
namespace Mi
open PySem
inductive D where
 | uD|non|bl (b:Bool)|int (i:Int)|str (x:Str)
 | tup (xs:List D)|lst (xs:List D)|dct (kvs:List (D×D))|scr (xs:List D)|fdc (kvs:List (D×D))|cel (a:Nat) (xs:List D)
 deriving Inhabited
mutual
noncomputable def D.pure:D->Bool
 | .tup xs=>D.a_ xs
 | .lst _=>false
 | .dct _=>false
 | .uD=>false
 | .scr xs=>D.a_ xs
 | .fdc _=>false
 | .cel _ _=>false
 | _=>true
noncomputable def D.a_:List D->Bool
 | []=>true
 | x::xs=>x.pure&&D.a_ xs
end
mutual
noncomputable def eqD:D->D->Bool
 | .non,.non=>true
 | .bl a,.bl b=>a==b
 | .int a,.int b=>a==b
 | .bl a,.int b=>(if a then (1:Int) else 0)==b
 | .int a,.bl b=>a==(if b then (1:Int) else 0)
 | .str a,.str b=>a==b
 | .tup xs,.tup ys=>v4 xs ys
 | .lst xs,.lst ys=>v4 xs ys
 | _,_=>false
noncomputable def v4:List D->List D->Bool
 | [],[]=>true
 | x::xs,y::ys=>eqD x y&&v4 xs ys
 | _,_=>false
end
mutual
noncomputable def D.cG:Nat->D->Bool
 | n+1,.tup xs=>D.iQ n xs
 | n+1,.lst xs=>D.iQ n xs
 | 0,.tup _=>false
 | 0,.lst _=>false
 | _,.dct _=>false
 | _,.uD=>false
 | _,.scr _=>false
 | _,.fdc _=>false
 | _,.cel _ _=>false
 | _,_=>true
noncomputable def D.iQ:Nat->List D->Bool
 | _,[]=>true
 | n,x::xs=>D.cG n x&&D.iQ n xs
end
inductive jE where|lt|le|gt|ge
 deriving DecidableEq
noncomputable def jE.int:jE->Int->Int->Bool
 | .lt,a,b=>decide (a<b)|.le,a,b=>decide (a<=b)|.gt,a,b=>decide (b<a)|.ge,a,b=>decide (b<=a)
noncomputable def jE.nat:jE->Nat->Nat->Bool
 | .lt,a,b=>decide (a<b)|.le,a,b=>decide (a<=b)|.gt,a,b=>decide (b<a)|.ge,a,b=>decide (b<=a)
def VH (a b:Str):Bool:=decide (a.cps.toList<b.cps.toList)
noncomputable def jE.str:jE->Str->Str->Bool
 | .lt,a,b=>VH a b|.le,a,b=>!VH b a|.gt,a,b=>VH b a|.ge,a,b=>!VH a b
mutual
noncomputable def fG (o:jE):D->D->Option Bool
 | .int a,.int b=>some (o.int a b)
 | .str a,.str b=>some (o.str a b)
 | .tup xs,.tup ys=>eE o xs ys
 | _,_=>none
noncomputable def eE (o:jE):List D->List D->Option Bool
 | [],ys=>some (o.nat 0 ys.length)
 | x::xs,[]=>some (o.nat (x::xs).length 0)
 | x::xs,y::ys=>if eqD x y then eE o xs ys else fG o x y
end
inductive Res (α:Type) where
 | ok (a:α)|err (c:Str) (as:List D)|bad
noncomputable def Res.bind {α β:Type}:Res α->(α->Res β)->Res β
 | .ok a,f=>f a
 | .err c as,_=>.err c as
 | .bad,_=>.bad
noncomputable instance:Monad Res where
 pure:=.ok
 bind:=Res.bind
@[simp] theorem Res.aY {α β:Type} (a:α) (f:α->Res β):((Res.ok a) >>= f)=f a:=rfl
@[simp] theorem Res.aHm {α β:Type} (c:Str) (as:List D) (f:α->Res β):((Res.err c as:Res α) >>= f)=.err c as:=rfl
@[simp] theorem Res.aHn {α β:Type} (f:α->Res β):((Res.bad:Res α) >>= f)=.bad:=rfl
@[simp] theorem Res.pure_eq {α:Type} (a:α):(pure a:Res α)=.ok a:=rfl
theorem Res.aDd {α β:Type} {m:Res α} {f:α->Res β} {b:β} (h:(m >>= f)=.ok b):∃a,m=.ok a/\f a=.ok b:=by
 cases m with
 | ok a=>exact ⟨a,rfl,h⟩
 | err c as=>cases h
 | bad=>cases h
noncomputable def Res.ofOpt {α:Type}:Option α->Res α
 | some a=>.ok a
 | none=>.bad
@[simp] theorem Res.aEu {α:Type} (a:α):Res.ofOpt (some a)=.ok a:=rfl
theorem Res.mL {α:Type} {o:Option α} {a:α} (h:Res.ofOpt o=.ok a):o=some a:=by
 cases o with
 | none=>cases h
 | some b=>cases h;rfl
def lim:Nat:=1000000
inductive Bop where|add|sub|mul|fdiv|mod|pow
 deriving DecidableEq
inductive Cop where|eq|ne|ord (o:jE)|isin|notin|isN|notN
 deriving DecidableEq
def uN (i:Int):Bool:=decide (-(2 ^ 64)<i)&&decide (i<2 ^ 64)
noncomputable def aU:Bop->D->D->Res D
 | .add,.int a,.int b=>.ok (.int (a+b))
 | .sub,.int a,.int b=>.ok (.int (a-b))
 | .mul,.int a,.int b=>if uN a||uN b then .ok (.int (a*b)) else .bad
 | .fdiv,.int a,.int b=>if decide (0<b)&&decide (b<1073741824) then .ok (.int (a / b)) else .bad
 | .mod,.int a,.int b=>if decide (0<b) then .ok (.int (a % b)) else .bad
 | .pow,.int a,.int b=>if decide (0<=b)&&decide (b<=1000000)&&decide (a.natAbs<2 ^ 64) then .ok (.int (a ^ b.toNat)) else .bad
 | .add,.str a,.str b=>if decide (a.length+b.length<=lim) then .ok (.str (a++b)) else .bad
 | .add,.lst a,.lst b=>if decide (a.length+b.length<=lim)&&D.a_ a&&D.a_ b then .ok (.lst (a++b)) else .bad
 | _,_,_=>.bad
noncomputable def aIf:D->Res Bool
 | .non=>.ok false
 | .bl b=>.ok b
 | .int i=>.ok (i != 0)
 | .str x=>if decide (x.length<=lim) then .ok ((x.length:Int) != 0) else .bad
 | .tup xs=>.ok (!xs.isEmpty)
 | .lst xs=>.ok (!xs.isEmpty)
 | .dct kvs=>.ok (!kvs.isEmpty)
 | .uD=>.bad
 | .fdc _=>.bad
 | .cel _ _=>.bad
 | .scr xs=>.ok (!xs.isEmpty)
noncomputable def yO:D->Bool
 | .int _=>true
 | .str _=>true
 | _=>false
noncomputable def keyOk:D->Bool
 | .int _=>true
 | .str _=>true
 | .tup xs=>xs.all yO
 | _=>false
noncomputable def isTup:D->Bool
 | .tup _=>true
 | _=>false
noncomputable def bN:List (D×D)->D->Option D
 | [],_=>none
 | (k,v)::r,q=>if eqD k q then some v else bN r q
noncomputable def putD:List (D×D)->D->D->List (D×D)
 | [],q,w=>[(q,w)]
 | (k,v)::r,q,w=>if eqD k q then (k,w)::r else (k,v)::putD r q w
noncomputable def sZ (kvs:List (D×D)) (k:D):Bool:=keyOk k&&kvs.all (fun p=>isTup p.1==isTup k)
def aZ:Nat:=12
noncomputable def bL:Cop->D->D->Res D
 | .eq,a,b=>if a.cG aZ&&b.cG aZ then .ok (.bl (eqD a b)) else .bad
 | .ne,a,b=>if a.cG aZ&&b.cG aZ then .ok (.bl (!eqD a b)) else .bad
 | .ord o,a,b=>if a.cG aZ&&b.cG aZ then (match fG o a b with|some k=>.ok (.bl k)|none=>.bad) else .bad
 | .isin,a,.tup ys=>if a.cG aZ&&D.iQ aZ ys then .ok (.bl (ys.any fun y=>eqD y a)) else .bad
 | .isin,a,.lst ys=>if a.cG aZ&&D.iQ aZ ys then .ok (.bl (ys.any fun y=>eqD y a)) else .bad
 | .isin,a,.dct kvs=>if sZ kvs a then .ok (.bl (bN kvs a).isSome) else .bad
 | .notin,a,.tup ys=>if a.cG aZ&&D.iQ aZ ys then .ok (.bl (!(ys.any fun y=>eqD y a))) else .bad
 | .notin,a,.lst ys=>if a.cG aZ&&D.iQ aZ ys then .ok (.bl (!(ys.any fun y=>eqD y a))) else .bad
 | .notin,a,.dct kvs=>if sZ kvs a then .ok (.bl (!(bN kvs a).isSome)) else .bad
 | .isN,.scr _,.non=>.bad
 | .notN,.scr _,.non=>.bad
 | .isN,.fdc _,.non=>.bad
 | .notN,.fdc _,.non=>.bad
 | .isN,.cel _ _,.non=>.bad
 | .notN,.cel _ _,.non=>.bad
 | .isN,.non,.non=>.ok (.bl true)
 | .isN,a,.non=>.ok (.bl false)
 | .notN,.non,.non=>.ok (.bl false)
 | .notN,a,.non=>.ok (.bl true)
 | _,_,_=>.bad
noncomputable def ixD (n:Nat) (i:Int):Option Nat:=if 0<=i then (if i<n then some i.toNat else none) else if -(n:Int)<=i then some (i+n).toNat else none
noncomputable def getD (d i:D):Res D:=
 match d,i with
 | .tup xs,.int i=>Res.ofOpt ((ixD xs.length i).bind fun j=>xs[j]?)
 | .lst xs,.int i=>Res.ofOpt ((ixD xs.length i).bind fun j=>xs[j]?)
 | .scr xs,.int i=>Res.ofOpt ((ixD xs.length i).bind fun j=>xs[j]?)
 | .cel _ xs,.int i=>Res.ofOpt ((ixD xs.length i).bind fun j=>xs[j]?)
 | .str x,.int i=>if decide (x.length<=lim) then Res.ofOpt (((ixD x.cps.toList.length i).bind fun j=>x.cps.toList[j]?).map fun c=>D.str ⟨#[c]⟩) else .bad
 | .dct kvs,k=>if keyOk k then Res.ofOpt (bN kvs k) else .bad
 | .fdc kvs,k=>if keyOk k then Res.ofOpt (bN kvs k) else .bad
 | _,_=>.bad
noncomputable def wW (n d:Nat):Option Int->Nat
 | none=>d
 | some v=>if v<0 then (max (v+(n:Int)) 0).toNat else (min v (n:Int)).toNat
noncomputable def cutD {α:Type} (xs:List α) (lo hi:Option Int):List α:=(xs.drop (wW xs.length 0 lo)).take (wW xs.length xs.length hi-wW xs.length 0 lo)
inductive Ty where|int|str|bool|list|tuple|dict
 deriving DecidableEq
noncomputable def VJ:Ty->D->Res Bool
 | _,.uD=>.bad
 | _,.scr _=>.bad
 | _,.fdc _=>.bad
 | _,.cel _ _=>.bad
 | .int,.int _=>.ok true
 | .int,.bl _=>.ok true
 | .bool,.bl _=>.ok true
 | .str,.str _=>.ok true
 | .tuple,.tup _=>.ok true
 | .list,.lst _=>.ok true
 | .dict,.dct _=>.ok true
 | _,_=>.ok false
mutual
noncomputable def D.plain:D->Bool
 | .int _=>true
 | .str _=>true
 | .tup xs=>D.iH xs
 | _=>false
noncomputable def D.iH:List D->Bool
 | []=>true
 | x::xs=>x.plain&&D.iH xs
end
mutual
noncomputable def enc:D->List Int
 | .int i=>[0,i]
 | .str x=>1::(x.cps.toList.map (fun (c:Nat)=>(c:Int)+1)++[0])
 | .tup xs=>2::H_ xs
 | _=>[]
noncomputable def H_:List D->List Int
 | []=>[0]
 | x::xs=>1::(enc x++H_ xs)
end
noncomputable def gK:D->Nat
 | .int _=>1
 | .str _=>2
 | .tup (.int _::_)=>3
 | .tup (.str _::_)=>4
 | .tup (.tup _::_)=>5
 | _=>0
noncomputable def bI (xs:List D):Bool:=xs.all fun a=>a.plain&&a.cG aZ&&gK a != 0&&gK a==gK (xs.headD .non)&&xs.all fun b=>(fG .lt a b).isSome
def leE (a b:D):Bool:=!decide (enc b<enc a)
def iR (xs:List D):List D:=xs.mergeSort leE
def uO (i:Int):Bool:=decide (-(2 ^ 62)<=i)&&decide (i<2 ^ 62)
noncomputable def asB:D->Res Bool
 | .bl b=>.ok b
 | _=>.bad
noncomputable def asI:D->Res Int
 | .int i=>.ok i
 | _=>.bad
inductive Fl where
 | nx (ρ:List D)|rt (d:D)|bk (ρ:List D)|ct (ρ:List D)
noncomputable def aBx:Fl->Res D
 | .rt d=>.ok d
 | .nx _=>.ok .non
 | _=>.bad
abbrev FE:=List D->Res D
abbrev FT:=List D->Res Bool
abbrev FA:=List D->Res (List D)
def jX (i:Nat):FE:=fun ρ=>match ρ.getD i .uD with|.uD=>.bad|d=>.ok d
def bC (d:D):FE:=fun _=>.ok d
abbrev gM:FE := jX 1
abbrev dY:FE := jX 0
abbrev bQ:FE := jX 3
abbrev tB:FE := jX 8
abbrev dX:FE := jX 4
abbrev nQ:FE := jX 7
abbrev gD:FE := jX 2
abbrev mH:FE := jX 6
abbrev JZ:FE := jX 9
abbrev fK:FE := jX 5
abbrev iI:FE := jX 10
abbrev iW:FE := jX 13
abbrev nO:FE := jX 11
abbrev o9:FE := jX 12
abbrev pK:FE := jX 19
abbrev cU:FE := bC (.int 0)
abbrev cV:FE := bC (.int 1)
abbrev yP:FE := bC (.int 8)
abbrev aEv:FE := bC (.int 3)
abbrev VL:FE := bC (.int 192)
abbrev v5:FE := bC (.int 2)
abbrev CV:FE := bC (.int 384)
abbrev VM:FE := bC (.int 26)
abbrev aDe:FE := bC (.int 7)
abbrev aHo:FE := bC (.int 5)
abbrev aEw:FE := bC (.int 4)
abbrev v8:FE := bC (.int 10)
abbrev aIg:FE := bC (.int 9)
abbrev aFz:FE := bC (.int 6)
abbrev aA3:FE := bC (.int 50)
def b2 (f:D->D->Res D) (a b:FE):FE:=fun ρ=>do let x <- a ρ;let y <- b ρ;f x y
def b1 (f:D->Res D) (a:FE):FE:=fun ρ=>do let x <- a ρ;f x
def bTB (a:FE):FT:=fun ρ=>do let x <- a ρ;asB x
def CW (a:FT):FT:=fun ρ=>do let x <- a ρ;pure (!x)
def VN (a b:FT):FT:=fun ρ=>do let x <- a ρ;if x then b ρ else pure false
def bOr (a b:FT):FT:=fun ρ=>do let x <- a ρ;if x then pure true else b ρ
noncomputable def J5 (a b:FE):FE:=fun ρ=>do let x <- a ρ;let k <- asB x;if k then b ρ else pure (.bl false)
noncomputable def bCh (f g:D->D->Res D) (a b c:FE):FE:=fun ρ=>do let x <- a ρ;let y <- b ρ;let z <- f x y;let k <- asB z;if k then (do let u <- c ρ;g y u) else pure (.bl false)
def aO:FA:=fun _=>.ok []
def aC (a:FE) (b:FA):FA:=fun ρ=>do let x <- a ρ;let xs <- b ρ;pure (x::xs)
noncomputable def cJ (a:FA):FE:=fun ρ=>do let xs <- a ρ;if decide (xs.length<=lim) then pure (.tup xs) else .bad
noncomputable def ZJ (a:FA):FE:=fun ρ=>do let xs <- a ρ;if decide (xs.length<=lim) then pure (.lst xs) else .bad
def aL (f:List D->Res D) (a:FA):FE:=fun ρ=>do let xs <- a ρ;f xs
noncomputable def dH (a:FE):List D->Res (Option Int):=fun ρ=>do let x <- a ρ;let i <- asI x;pure (some i)
def fH:List D->Res (Option Int):=fun _=>.ok none
noncomputable def aJ8:D->Res Bool
 | .dct _=>.bad
 | .scr _=>.bad
 | .fdc _=>.bad
 | d=>aIf d
def bTr (a:FE):FT:=fun ρ=>do let x <- a ρ;aJ8 x
noncomputable def S7:D->Res D
 | .int i=>.ok (.int (-i))
 | _=>.bad
noncomputable def aEx:D->Option Int->Option Int->Res D
 | .lst xs,lo,hi=>if D.a_ xs then .ok (.lst (cutD xs lo hi)) else .bad
 | .scr xs,lo,hi=>if D.a_ xs then .ok (.lst (cutD xs lo hi)) else .bad
 | .tup xs,lo,hi=>if !D.a_ xs||decide (wW xs.length 0 lo=0/\wW xs.length xs.length hi=xs.length) then .bad else .ok (.tup (cutD xs lo hi))
 | _,_,_=>.bad
noncomputable def pL (o:jE):List D->Res D
 | []=>.bad
 | x::xs=>if ((x::xs).all fun a=>a.cG aZ&&(x::xs).all fun b=>(fG o a b).isSome) then .ok (xs.foldl (fun m y=>if (fG o y m).getD false then y else m) x) else .bad
noncomputable def btD (o:jE) (ds:List D) (i j:Nat):Bool:=(fG o (ds.getD i .non) (ds.getD j .non)).getD false
noncomputable def cP (o:jE):List D->Res D
 | [.lst xs]=>pL o xs
 | [.tup xs]=>pL o xs
 | [a,b]=>pL o [a,b]
 | _=>.bad
noncomputable def iD:List D->Res D
 | [.tup xs]=>.ok (.int xs.length)
 | [.lst xs]=>.ok (.int xs.length)
 | [.scr xs]=>.ok (.int xs.length)
 | [.cel _ xs]=>.ok (.int xs.length)
 | [.str x]=>if decide (x.length<=lim) then .ok (.int x.length) else .bad
 | _=>.bad
def eO (kvs:List (D×D)):List D:=kvs.map (·.1)
noncomputable def v9:List D->Res D
 | [.tup xs]=>if D.a_ xs then .ok (.lst xs) else .bad
 | [.lst xs]=>if D.a_ xs then .ok (.lst xs) else .bad
 | [.dct kvs]=>if kvs.all (fun p=>!isTup p.1) then .ok (.lst (eO kvs)) else .bad
 | _=>.bad
noncomputable def gP:List D->Res D
 | [.tup xs]=>.ok (.tup xs)
 | [.lst xs]=>.ok (.tup xs)
 | _=>.bad
noncomputable def fL:List D->Res D
 | [.lst xs]=>if bI xs then .ok (.lst (iR xs)) else .bad
 | _=>.bad
noncomputable def Ty.nm:Ty->String
 | .int => "int" | .str => "str" | .bool => "bool" | .list => "list" | .tuple => "tuple" | .dict => "dict"
def aG0 (t:Ty) (d:D):Res D:=do let k <- VJ t d;pure (.bl k)
noncomputable def dI (n:Nat) (f:List D->Res D):List D->Res D:=fun ds=>if decide (ds.length=n) then f ds else .bad
abbrev FI:=List D->Res (List D×Bool)
noncomputable def qK:D->Res (List D)
 | .lst xs=>.ok xs
 | .tup xs=>.ok xs
 | _=>.bad
noncomputable def eQ (a:FE) (fr:Bool):FI:=fun ρ=>do let x <- a ρ;let xs <- qK x;pure (xs,fr||x.pure)
noncomputable def qL:List D->Res (List D×Bool)
 | [.int n]=>if uO n then .ok ((List.range n.toNat).map fun (k:Nat)=>D.int (0+(k:Int)),true) else .bad
 | _=>.bad
noncomputable def rQ (f:FA) (g:List D->Res (List D×Bool)):FI:=fun ρ=>do let xs <- f ρ;g xs
def J6 (n:Nat) (ρ:List D):List D:=(List.range n).map fun i=>ρ.getD i .uD
def pM:D->Res (List D):=fun d=>.ok [d]
noncomputable def aG1 (m:Nat):D->Res (List D)
 | .tup ds=>if decide (ds.length=m) then .ok ds else .bad
 | _=>.bad
noncomputable def qM (n:Nat) (t:D->Res (List D)) (c:FT) (f:FE) (k:Bool) (ρ:List D) (acc:List D) (x:D):Res (List D):=do
 let bs <- t x
 let ok <- c (J6 n ρ++bs)
 if ok then (do
  let y <- f (J6 n ρ++bs)
  if k||y.pure then pure (acc++[y]) else .bad)
 else pure acc
noncomputable def rR (g:List D->D->Res (List D)):List D->List D->Res (List D)
 | acc,[]=>.ok acc
 | acc,x::xs=>do let a <- g acc x;rR g a xs
noncomputable def gF (n:Nat) (it:FI) (t:D->Res (List D)) (c:FT) (f:FE) (k:Bool):FE:=fun ρ=>do
 let xs <- it ρ
 if decide (xs.1.length<=lim) then (do
  let ys <- rR (qM n t c f k ρ) [] xs.1
  pure (.lst ys)) else .bad
def n_:FT:=fun _=>.ok true
abbrev FS:=List D->Res Fl
noncomputable def inner:D->Bool
 | .lst xs=>D.a_ xs
 | .dct kvs=>D.a_ (kvs.map (·.2))
 | .cel _ xs=>D.a_ xs
 | _=>false
def iT:FS:=fun ρ=>.ok (.nx ρ)
noncomputable def bT (f g:FS):FS:=fun ρ=>do
 let r <- f ρ
 match r with
 | .nx ρ'=>g ρ'
 | r=>.ok r
noncomputable def cL (o:Bool) (i:Nat) (f:FE) (k:Bool):FS:=fun ρ=>do
 let d <- f ρ
 if (if o then k&&inner d else k||d.pure) then .ok (.nx (ρ.set i d)) else .bad
noncomputable def sAl (i j:Nat):FS:=fun ρ=>do
 let d <- jX j ρ
 .ok (.nx (ρ.set i d))
noncomputable def sIf (c:FT) (f g:FS):FS:=fun ρ=>do
 let k <- c ρ
 if k then f ρ else g ρ
noncomputable def v_ (f:FE) (k:Bool):FS:=fun ρ=>do
 let d <- f ρ
 if k||d.pure then .ok (.rt d) else .bad
noncomputable def CZ (i:Nat):FS:=fun ρ=>do
 let d <- jX i ρ
 .ok (.rt d)
def rtX:Nat:=1000000
noncomputable def aA4 (f:FE):FS:=fun ρ=>do
 let _ <- f ρ
 .ok (.nx ρ)
noncomputable def nJ (i:Nat) (f:FE):FS:=fun ρ=>do
 let d <- f ρ
 match ρ.getD i .uD with
 | .lst xs=>if decide (xs.length<lim)&&d.pure then .ok (.nx (ρ.set i (.lst (xs++[d])))) else .bad
 | _=>.bad
noncomputable def aG2 (i:Nat) (f:FE) (g:FE):FS:=fun ρ=>do
 let j <- f ρ
 let d <- g ρ
 match ρ.getD i .uD,j with
 | .lst xs,.int j=>if decide (xs.length<lim)&&d.pure&&decide (0<=j)&&decide (j<=xs.length) then .ok (.nx (ρ.set i (.lst (xs.take j.toNat++d::xs.drop j.toNat)))) else .bad
 | _,_=>.bad
noncomputable def S8 (i:Nat) (f:FE) (g:FE):FS:=fun ρ=>do
 let d <- g ρ
 let k <- f ρ
 match ρ.getD i .uD with
 | .dct kvs=>if decide (kvs.length<lim)&&sZ kvs k&&d.pure then .ok (.nx (ρ.set i (.dct (putD kvs k d)))) else .bad
 | _=>.bad
def tg1 (i:Nat):D->List D->Res (List D):=fun d ρ=>.ok (ρ.set i d)
noncomputable def VP:List Nat->List D->List D->List D
 | i::is,d::ds,ρ=>VP is ds (ρ.set i d)
 | _,_,ρ=>ρ
noncomputable def tgN (is:List Nat):D->List D->Res (List D)
 | .tup ds,ρ=>if decide (ds.length=is.length) then .ok (VP is ds ρ) else .bad
 | _,_=>.bad
noncomputable def qN (t:D->List D->Res (List D)) (body:FS):List D->List D->Res Fl
 | [],ρ=>.ok (.nx ρ)
 | x::xs,ρ=>do
  let ρ1 <- t x ρ
  let r <- body ρ1
  match r with
  | .nx ρ'=>qN t body xs ρ'
  | .ct ρ'=>qN t body xs ρ'
  | .bk ρ'=>.ok (.nx ρ')
  | .rt d=>.ok (.rt d)
noncomputable def RC (it:FI) (t:D->List D->Res (List D)) (body:FS):FS:=fun ρ=>do
 let xs <- it ρ
 if xs.2 then qN t body xs.1 ρ else .bad
noncomputable def uP (i:Nat) (t:D->List D->Res (List D)) (body:FS):FS:=fun ρ=>do
 let d <- jX i ρ
 let xs <- qK d
 qN t body xs ρ
noncomputable def fnS (n m:Nat) (f:FS):List D->Res D:=fun ds=>do
 let r <- f (ds++List.replicate (m-n) .uD)
 aBx r
end Mi
end
section
namespace Mi
open PySem
mutual
theorem VR:∀(a b:D),a.plain=true->b.plain=true->eqD a b=true->a=b
 | .int i,.int j,_,_,h=>by rw [eqD] at h;rw [eq_of_beq h]
 | .str i,.str j,_,_,h=>by rw [eqD] at h;rw [eq_of_beq h]
 | .tup xs,.tup ys,h1,h2,h=>by
  rw [D.plain] at h1 h2;rw [eqD] at h;rw [VV xs ys h1 h2 h]
 | .int _,.str _,_,_,h=>by simp [eqD] at h
 | .int _,.tup _,_,_,h=>by simp [eqD] at h
 | .str _,.int _,_,_,h=>by simp [eqD] at h
 | .str _,.tup _,_,_,h=>by simp [eqD] at h
 | .tup _,.int _,_,_,h=>by simp [eqD] at h
 | .tup _,.str _,_,_,h=>by simp [eqD] at h
 | .uD,_,h,_,_=>by simp [D.plain] at h
 | .scr _,_,h,_,_=>by simp [D.plain] at h
 | .non,_,h,_,_=>by simp [D.plain] at h
 | .bl _,_,h,_,_=>by simp [D.plain] at h
 | .lst _,_,h,_,_=>by simp [D.plain] at h
 | .dct _,_,h,_,_=>by simp [D.plain] at h
 | .int _,.uD,_,h,_=>by simp [D.plain] at h
 | .int _,.scr _,_,h,_=>by simp [D.plain] at h
 | .int _,.non,_,h,_=>by simp [D.plain] at h
 | .int _,.bl _,_,h,_=>by simp [D.plain] at h
 | .int _,.lst _,_,h,_=>by simp [D.plain] at h
 | .int _,.dct _,_,h,_=>by simp [D.plain] at h
 | .str _,.uD,_,h,_=>by simp [D.plain] at h
 | .str _,.scr _,_,h,_=>by simp [D.plain] at h
 | .str _,.non,_,h,_=>by simp [D.plain] at h
 | .str _,.bl _,_,h,_=>by simp [D.plain] at h
 | .str _,.lst _,_,h,_=>by simp [D.plain] at h
 | .str _,.dct _,_,h,_=>by simp [D.plain] at h
 | .tup _,.uD,_,h,_=>by simp [D.plain] at h
 | .tup _,.scr _,_,h,_=>by simp [D.plain] at h
 | .tup _,.non,_,h,_=>by simp [D.plain] at h
 | .tup _,.bl _,_,h,_=>by simp [D.plain] at h
 | .tup _,.lst _,_,h,_=>by simp [D.plain] at h
 | .tup _,.dct _,_,h,_=>by simp [D.plain] at h
theorem VV:∀(a b:List D),D.iH a=true->D.iH b=true->v4 a b=true->a=b
 | [],[],_,_,_=>rfl
 | x::xs,y::ys,h1,h2,h=>by
  rw [D.iH,Bool.and_eq_true] at h1 h2;rw [v4,Bool.and_eq_true] at h;rw [VR x y h1.1 h2.1 h.1,VV xs ys h1.2 h2.2 h.2]
 | [],_::_,_,_,h=>by simp [v4] at h
 | _::_,[],_,_,h=>by simp [v4] at h
end
mutual
theorem yQ:∀(a:D),a.plain=true->eqD a a=true
 | .int i,_=>by simp [eqD]
 | .str i,_=>by simp [eqD]
 | .tup xs,h=>by rw [D.plain] at h;rw [eqD];exact C_ xs h
 | .uD,h=>by simp [D.plain] at h
 | .scr _,h=>by simp [D.plain] at h
 | .non,h=>by simp [D.plain] at h
 | .bl _,h=>by simp [D.plain] at h
 | .lst _,h=>by simp [D.plain] at h
 | .dct _,h=>by simp [D.plain] at h
theorem C_:∀(a:List D),D.iH a=true->v4 a a=true
 | [],_=>rfl
 | x::xs,h=>by
  rw [D.iH,Bool.and_eq_true] at h;rw [v4,yQ x h.1,C_ xs h.2];rfl
end
theorem V0:∀(a b:List Nat) (r t:List Int),(a.map (fun (c:Nat)=>(c:Int)+1)++[0])++r=(b.map (fun (c:Nat)=>(c:Int)+1)++[0])++t->a=b/\r=t
 | [],[],r,t,h=>by simpa using h
 | [],c::b,r,t,h=>by
  simp only [List.map_nil,List.nil_append,List.cons_append,List.map_cons,List.cons.injEq] at h;lia
 | c::a,[],r,t,h=>by
  simp only [List.map_nil,List.nil_append,List.cons_append,List.map_cons,List.cons.injEq] at h;lia
 | c::a,d::b,r,t,h=>by
  simp only [List.cons_append,List.map_cons,List.cons.injEq] at h;obtain ⟨e1,e2⟩:=V0 a b r t h.2;exact ⟨by rw [e1,show c=d by lia],e2⟩
mutual
theorem yR:∀(a b:D) (r t:List Int),a.plain=true->b.plain=true->enc a++r=enc b++t->a=b/\r=t
 | .int i,b,r,t,_,h2,h=>by
  cases b <;> simp only [enc,D.plain,Bool.false_eq_true,List.cons_append,List.cons.injEq,List.nil_append] at h h2 <;> try omega
  ·exact ⟨by rw [h.2.1],h.2.2⟩
 | .str x,b,r,t,_,h2,h=>by
  cases b with
  | str y=>
   simp only [enc,List.cons_append,List.cons.injEq,true_and] at h;obtain ⟨e1,e2⟩:=V0 _ _ _ _ h;refine ⟨?_,e2⟩;cases x;cases y;simp only [] at e1
   congr 2
   exact Array.toList_inj.mp e1
  | _=>simp [enc,D.plain] at h h2
 | .tup xs,b,r,t,h1,h2,h=>by
  cases b with
  | tup ys=>
   rw [D.plain] at h1 h2;simp only [enc,List.cons_append,List.cons.injEq,true_and] at h;obtain ⟨e1,e2⟩:=NQ xs ys r t h1 h2 h;exact ⟨by rw [e1],e2⟩
  | _=>simp [enc,D.plain] at h h2
 | .uD,_,_,_,h,_,_=>by simp [D.plain] at h
 | .scr _,_,_,_,h,_,_=>by simp [D.plain] at h
 | .non,_,_,_,h,_,_=>by simp [D.plain] at h
 | .bl _,_,_,_,h,_,_=>by simp [D.plain] at h
 | .lst _,_,_,_,h,_,_=>by simp [D.plain] at h
 | .dct _,_,_,_,h,_,_=>by simp [D.plain] at h
theorem NQ:∀(a b:List D) (r t:List Int),D.iH a=true->D.iH b=true->H_ a++r=H_ b++t->a=b/\r=t
 | [],[],r,t,_,_,h=>by simpa [H_] using h
 | [],_::_,r,t,_,_,h=>by simp [H_] at h
 | _::_,[],r,t,_,_,h=>by simp [H_] at h
 | x::xs,y::ys,r,t,h1,h2,h=>by
  rw [D.iH,Bool.and_eq_true] at h1 h2;simp only [H_,List.cons_append,List.cons.injEq,true_and,List.append_assoc] at h;obtain ⟨e1,e2⟩:=yR x y _ _ h1.1 h2.1 h;obtain ⟨e3,e4⟩:=NQ xs ys r t h1.2 h2.2 e2;exact ⟨by rw [e1,e3],e4⟩
end
theorem aDf {a b:D} (h1:a.plain=true) (h2:b.plain=true) (h:enc a=enc b):a=b:=(yR a b [] [] h1 h2 (by rw [h])).1
theorem J7 (p:List Int) (r t:List Int):p++r<p++t↔r<t:=by
 induction p with
 | nil=>rfl
 | cons x p ih=>rw [List.cons_append,List.cons_append,List.cons_lt_cons_iff];simp [ih]
theorem aBy:∀(u v r t:List Int),(∀z,u++z≠v)->(∀z,v++z≠u)->(u++r<v++t↔u<v)
 | [],v,_,_,h,_=>absurd rfl (h v)
 | u,[],_,_,_,h=>absurd rfl (h u)
 | x::u,y::v,r,t,h1,h2=>by
  rw [List.cons_append,List.cons_append,List.cons_lt_cons_iff,List.cons_lt_cons_iff];by_cases e:x=y
  ·subst e;have:=aBy u v r t (fun z hz=>h1 z (by rw [List.cons_append,hz])) (fun z hz=>h2 z (by rw [List.cons_append,hz]));simp [this]
  ·simp [e]
theorem V1:∀(a b:List Nat),(a.map (fun (c:Nat)=>(c:Int)+1)++[0]<b.map (fun (c:Nat)=>(c:Int)+1)++[0])↔a<b
 | [],[]=>by simp
 | [],c::b=>by
  simp only [List.map_nil,List.nil_append,List.map_cons,List.cons_append,List.cons_lt_cons_iff,List.nil_lt_cons,iff_true]
  left;lia
 | c::a,[]=>by
  simp only [List.map_nil,List.nil_append,List.map_cons,List.cons_append,List.cons_lt_cons_iff,List.not_lt_nil,iff_false,not_or,not_and];exact ⟨by lia,fun h=>by lia⟩
 | c::a,d::b=>by
  simp only [List.map_cons,List.cons_append,List.cons_lt_cons_iff,V1 a b];constructor
  ·rintro (h|⟨h,k⟩)
   ·left;lia
   ·right;exact ⟨by lia,k⟩
  ·rintro (h|⟨h,k⟩)
   ·left;lia
   ·right;exact ⟨by lia,k⟩
mutual
theorem yS:∀(a b:D) (k:Bool),a.plain=true->b.plain=true->fG .lt a b=some k->k=decide (enc a<enc b)
 | .int i,.int j,k,_,_,h=>by
  rw [fG] at h;rw [<-Option.some.inj h];simp [enc,jE.int,List.cons_lt_cons_iff]
 | .str x,.str y,k,_,_,h=>by
  rw [fG] at h;rw [<-Option.some.inj h];have:=V1 x.cps.toList y.cps.toList;simp only [enc,jE.str,VH,List.cons_lt_cons_iff,true_and];simp [this]
 | .tup xs,.tup ys,k,h1,h2,h=>by
  rw [D.plain] at h1 h2;rw [fG] at h;rw [NT xs ys k h1 h2 h];simp [enc,List.cons_lt_cons_iff]
 | .int _,.str _,_,_,_,h=>by simp [fG] at h
 | .int _,.tup _,_,_,_,h=>by simp [fG] at h
 | .int _,.uD,_,_,_,h=>by simp [fG] at h
 | .int _,.scr _,_,_,_,h=>by simp [fG] at h
 | .int _,.non,_,_,_,h=>by simp [fG] at h
 | .int _,.bl _,_,_,_,h=>by simp [fG] at h
 | .int _,.lst _,_,_,_,h=>by simp [fG] at h
 | .int _,.dct _,_,_,_,h=>by simp [fG] at h
 | .str _,.int _,_,_,_,h=>by simp [fG] at h
 | .str _,.tup _,_,_,_,h=>by simp [fG] at h
 | .str _,.uD,_,_,_,h=>by simp [fG] at h
 | .str _,.scr _,_,_,_,h=>by simp [fG] at h
 | .str _,.non,_,_,_,h=>by simp [fG] at h
 | .str _,.bl _,_,_,_,h=>by simp [fG] at h
 | .str _,.lst _,_,_,_,h=>by simp [fG] at h
 | .str _,.dct _,_,_,_,h=>by simp [fG] at h
 | .tup _,.int _,_,_,_,h=>by simp [fG] at h
 | .tup _,.str _,_,_,_,h=>by simp [fG] at h
 | .tup _,.uD,_,_,_,h=>by simp [fG] at h
 | .tup _,.scr _,_,_,_,h=>by simp [fG] at h
 | .tup _,.non,_,_,_,h=>by simp [fG] at h
 | .tup _,.bl _,_,_,_,h=>by simp [fG] at h
 | .tup _,.lst _,_,_,_,h=>by simp [fG] at h
 | .tup _,.dct _,_,_,_,h=>by simp [fG] at h
 | .uD,_,_,h,_,_=>by simp [D.plain] at h
 | .scr _,_,_,h,_,_=>by simp [D.plain] at h
 | .non,_,_,h,_,_=>by simp [D.plain] at h
 | .bl _,_,_,h,_,_=>by simp [D.plain] at h
 | .lst _,_,_,h,_,_=>by simp [D.plain] at h
 | .dct _,_,_,h,_,_=>by simp [D.plain] at h
theorem NT:∀(a b:List D) (k:Bool),D.iH a=true->D.iH b=true->eE .lt a b=some k->k=decide (H_ a<H_ b)
 | [],[],k,_,_,h=>by rw [eE] at h;rw [<-Option.some.inj h];simp [H_,jE.nat]
 | [],y::ys,k,_,_,h=>by rw [eE] at h;rw [<-Option.some.inj h];simp [H_,jE.nat,List.cons_lt_cons_iff]
 | x::xs,[],k,_,_,h=>by rw [eE] at h;rw [<-Option.some.inj h];simp [H_,jE.nat,List.cons_lt_cons_iff]
 | x::xs,y::ys,k,h1,h2,h=>by
  rw [D.iH,Bool.and_eq_true] at h1 h2;rw [eE] at h;simp only [H_,List.cons_lt_cons_iff,true_and,Int.lt_irrefl,false_or];cases e:eqD x y with
  | true=>
   rw [e,if_pos rfl] at h;have:=VR x y h1.1 h2.1 e;subst this;rw [NT xs ys k h1.2 h2.2 h];simp [J7]
  | false=>
   rw [e,if_neg (by simp)] at h;rw [yS x y k h1.1 h2.1 h];have hne:x≠y:=fun z=>by subst z;rw [yQ x h1.1] at e;cases e
   have:=aBy (enc x) (enc y) (H_ xs) (H_ ys) (fun z hz=>hne (yR x y z [] h1.1 h2.1 (by simpa using hz)).1) (fun z hz=>hne (yR y x z [] h2.1 h1.1 (by simpa using hz)).1.symm);simp [this]
end
theorem V2 (a b c:D) (h1:leE a b=true) (h2:leE b c=true):leE a c=true:=by
 simp only [leE,Bool.not_eq_true',decide_eq_false_iff_not] at *;exact fun h=>by
  rcases (inferInstance:Std.Trichotomous (α:=List Int) (·<·)) with _
  exact h1 (List.lt_of_le_of_lt (List.not_lt.mp h2) h)
theorem V3 (a b:D):(leE a b||leE b a)=true:=by
 simp only [leE,Bool.or_eq_true,Bool.not_eq_true',decide_eq_false_iff_not];by_cases h:enc b<enc a
 ·right;exact List.lt_asymm h
 ·left;exact h
theorem dW (ds:List D):(iR ds).Perm ds:=List.mergeSort_perm ds leE
theorem j9 (ds:List D):(iR ds).Pairwise fun a b=>leE a b=true:=List.pairwise_mergeSort (fun a b c=>V2 a b c) (fun a b=>V3 a b) ds
theorem uQ {ds es:List D} (hp:∀d∈ds,d.plain=true) (h:ds.Perm es) (h1:ds.Pairwise fun a b=>leE a b=true) (h2:es.Pairwise fun a b=>leE a b=true):ds=es:=by
 refine List.Perm.eq_of_pairwise (le:=fun a b=>leE a b=true) (fun a b ha hb h1 h2=>?_) h1 h2 h;simp only [leE,Bool.not_eq_true',decide_eq_false_iff_not] at h1 h2;exact aDf (hp a ha) (hp b (h.mem_iff.mpr hb)) (List.le_antisymm h1 h2)
end Mi
end
section
namespace Mi
open PySem L2
class KFrag where
 K:PySem.W.Frag
variable [KFrag]
noncomputable def aDg (H:Hp) (a:Addr) (xs:List V):Prop:=(∃o,H a=some (.frz o (.lst xs)))\/
 ∃(o:Obj) (its:Array Value) (n:Nat),KFrag.K.lookup a=some o/\o.cls=.type "list"/\o.dict=none/\o.data=.seq its n/\its.size<=sizeLine/\Vals xs its.toList
theorem aDg.sq {H:Hp} {a:Addr} {xs:List V} {K:PySem.W.Frag} (h:aDg H a xs) (hK:KFrag.K=K):SqL K H a xs:=by
 subst hK;rcases h with ⟨o,h⟩|h
 ·exact .inl (.inr ⟨o,h⟩)
 ·exact .inr h
noncomputable def kD:Key->D
 | .inl i=>.int i
 | .inr x=>.str x
noncomputable def S9:HO->Bool
 | .lst _=>true
 | .dK _=>true
 | .dT _=>true
 | _=>false
mutual
inductive Rep (P:Addr->Prop) (H:Hp):V->D->Prop
 | non:Rep P H .non .non
 | bl (b:Bool):Rep P H (.bl b) (.bl b)
 | int (i:Int):Rep P H (.int i) (.int i)
 | str (x:Str):Rep P H (.str x) (.str x)
 | tup {a:Addr} {xs:List V} {ds:List D}:H a=some (.tup xs)->b_ P H xs ds->Rep P H (.ref a) (.tup ds)
 | lst {a:Addr} {xs:List V} {ds:List D}:H a=some (.lst xs)->P a->b_ P H xs ds->Rep P H (.ref a) (.lst ds)
 | cel {a:Addr} {xs:List V} {ds:List D}:H a=some (.lst xs)->P a->b_ P H xs ds->Rep P H (.ref a) (.cel a ds)
 | frz {a:Addr} {xs:List V} {ds:List D}:aDg H a xs->b_ P H xs ds->Rep P H (.ref a) (.scr ds)
 | dK {a:Addr} {kvs:List (Key×V)} {ds:List (D×D)}:H a=some (.dK kvs)->P a->nM P H kvs ds->(kvs.map (·.1)).Nodup->Rep P H (.ref a) (.dct ds)
 | dT {a:Addr} {kvs:List (List Key×V)} {ds:List (D×D)}:H a=some (.dT kvs)->P a->pN P H kvs ds->(kvs.map (·.1)).Nodup->Rep P H (.ref a) (.dct ds)
 | fdK {a:Addr} {o:Obj} {kvs:List (Key×V)} {ds:List (D×D)}:H a=some (.frz o (.dK kvs))->nM P H kvs ds->(kvs.map (·.1)).Nodup->Rep P H (.ref a) (.fdc ds)
 | fdT {a:Addr} {o:Obj} {kvs:List (List Key×V)} {ds:List (D×D)}:H a=some (.frz o (.dT kvs))->pN P H kvs ds->(kvs.map (·.1)).Nodup->Rep P H (.ref a) (.fdc ds)
inductive b_ (P:Addr->Prop) (H:Hp):List V->List D->Prop
 | nil:b_ P H [] []
 | cons {v:V} {d:D} {vs:List V} {ds:List D}:Rep P H v d->b_ P H vs ds->b_ P H (v::vs) (d::ds)
inductive nM (P:Addr->Prop) (H:Hp):List (Key×V)->List (D×D)->Prop
 | nil:nM P H [] []
 | cons {k:Key} {v:V} {d:D} {r:List (Key×V)} {ds:List (D×D)}:Rep P H v d->nM P H r ds->nM P H ((k,v)::r) ((kD k,d)::ds)
inductive pN (P:Addr->Prop) (H:Hp):List (List Key×V)->List (D×D)->Prop
 | nil:pN P H [] []
 | cons {k:List Key} {v:V} {d:D} {r:List (List Key×V)} {ds:List (D×D)}:Rep P H v d->pN P H r ds->pN P H ((k,v)::r) ((.tup (k.map kD),d)::ds)
end
noncomputable def aA5 (P:Addr->Prop) (H H':Hp):Prop:=∀a o,H a=some o->(P a\/S9 o=false)->H' a=some o
theorem aA5.same {P:Addr->Prop} {H H':Hp} (h:cZ H H'):aA5 P H H':=fun a o e _=>h a o e
mutual
theorem Rep.keep {P P':Addr->Prop} {H H':Hp} (k:aA5 P H H') (m:∀a,P a->P' a):∀{v:V} {d:D},Rep P H v d->Rep P' H' v d
 | _,_,.non=>.non
 | _,_,.bl b=>.bl b
 | _,_,.int i=>.int i
 | _,_,.str x=>.str x
 | _,_,.tup e r=>.tup (k _ _ e (.inr rfl)) (b_.keep k m r)
 | _,_,.lst e p r=>.lst (k _ _ e (.inl p)) (m _ p) (b_.keep k m r)
 | _,_,.cel e p r=>.cel (k _ _ e (.inl p)) (m _ p) (b_.keep k m r)
 | _,_,.frz e r=>.frz (e.imp (fun ⟨o,e⟩=>⟨o,k _ _ e (.inr rfl)⟩) id) (b_.keep k m r)
 | _,_,.dK e p r n=>.dK (k _ _ e (.inl p)) (m _ p) (nM.keep k m r) n
 | _,_,.dT e p r n=>.dT (k _ _ e (.inl p)) (m _ p) (pN.keep k m r) n
 | _,_,.fdK e r n=>.fdK (k _ _ e (.inr rfl)) (nM.keep k m r) n
 | _,_,.fdT e r n=>.fdT (k _ _ e (.inr rfl)) (pN.keep k m r) n
theorem b_.keep {P P':Addr->Prop} {H H':Hp} (k:aA5 P H H') (m:∀a,P a->P' a):∀{v:List V} {d:List D},b_ P H v d->b_ P' H' v d
 | _,_,.nil=>.nil
 | _,_,.cons r t=>.cons (Rep.keep k m r) (b_.keep k m t)
theorem nM.keep {P P':Addr->Prop} {H H':Hp} (k:aA5 P H H') (m:∀a,P a->P' a):∀{v:List (Key×V)} {d:List (D×D)},nM P H v d->nM P' H' v d
 | _,_,.nil=>.nil
 | _,_,.cons r t=>.cons (Rep.keep k m r) (nM.keep k m t)
theorem pN.keep {P P':Addr->Prop} {H H':Hp} (k:aA5 P H H') (m:∀a,P a->P' a):∀{v:List (List Key×V)} {d:List (D×D)},pN P H v d->pN P' H' v d
 | _,_,.nil=>.nil
 | _,_,.cons r t=>.cons (Rep.keep k m r) (pN.keep k m t)
end
theorem Rep.mono {P P':Addr->Prop} {H:Hp} {v:V} {d:D} (r:Rep P H v d) (m:∀a,P a->P' a):Rep P' H v d:=r.keep (fun _ _ e _=>e) m
theorem b_.mono {P P':Addr->Prop} {H:Hp} {v:List V} {d:List D} (r:b_ P H v d) (m:∀a,P a->P' a):b_ P' H v d:=r.keep (fun _ _ e _=>e) m
theorem Rep.same {P:Addr->Prop} {H H':Hp} {v:V} {d:D} (r:Rep P H v d) (s:cZ H H'):Rep P H' v d:=r.keep (.same s) fun _ h=>h
theorem b_.same {P:Addr->Prop} {H H':Hp} {v:List V} {d:List D} (r:b_ P H v d) (s:cZ H H'):b_ P H' v d:=r.keep (.same s) fun _ h=>h
mutual
theorem Rep.cC {P P':Addr->Prop} {H:Hp}:∀{v:V} {d:D},Rep P H v d->d.pure=true->Rep P' H v d
 | _,_,.non,_=>.non
 | _,_,.bl b,_=>.bl b
 | _,_,.int i,_=>.int i
 | _,_,.str x,_=>.str x
 | _,_,.tup e r,h=>.tup e (b_.cC r (by rw [D.pure] at h;exact h))
 | _,_,.lst _ _ _,h=>by rw [D.pure] at h;cases h
 | _,_,.cel _ _ _,h=>by rw [D.pure] at h;cases h
 | _,_,.frz e r,h=>.frz e (b_.cC r (by rw [D.pure] at h;exact h))
 | _,_,.dK _ _ _ _,h=>by rw [D.pure] at h;cases h
 | _,_,.dT _ _ _ _,h=>by rw [D.pure] at h;cases h
 | _,_,.fdK _ _ _,h=>by rw [D.pure] at h;cases h
 | _,_,.fdT _ _ _,h=>by rw [D.pure] at h;cases h
theorem b_.cC {P P':Addr->Prop} {H:Hp}:∀{v:List V} {d:List D},b_ P H v d->D.a_ d=true->b_ P' H v d
 | _,_,.nil,_=>.nil
 | _,_,.cons r t,h=>by
  rw [D.a_,Bool.and_eq_true] at h;exact .cons (Rep.cC r h.1) (b_.cC t h.2)
end
theorem b_.length {P:Addr->Prop} {H:Hp}:∀{v:List V} {d:List D},b_ P H v d->v.length=d.length
 | _,_,.nil=>rfl
 | _,_,.cons _ t=>by rw [List.length_cons,List.length_cons,b_.length t]
theorem b_.get {P:Addr->Prop} {H:Hp}:∀{vs:List V} {ds:List D} {i:Nat} {d:D},b_ P H vs ds->ds[i]?=some d->∃v,vs[i]?=some v/\Rep P H v d
 | _,_,_,_,.nil,e=>by simp at e
 | _,_,0,_,.cons r _,e=>by simp at e;subst e;exact ⟨_,rfl,r⟩
 | _,_,i+1,d,.cons _ t,e=>by
  obtain ⟨v,h1,h2⟩:=b_.get (i:=i) (d:=d) t (by simpa using e);exact ⟨v,by simpa using h1,h2⟩
theorem b_.at {P:Addr->Prop} {H:Hp}:∀{vs:List V} {ds:List D} {i:Nat} {v:V},b_ P H vs ds->vs[i]?=some v->∃d,ds[i]?=some d/\Rep P H v d
 | _,_,_,_,.nil,e=>by simp at e
 | _,_,0,_,.cons r _,e=>by simp at e;subst e;exact ⟨_,rfl,r⟩
 | _,_,i+1,d,.cons _ t,e=>by
  obtain ⟨v,h1,h2⟩:=b_.at (i:=i) (v:=d) t (by simpa using e);exact ⟨v,by simpa using h1,h2⟩
theorem b_.append {P:Addr->Prop} {H:Hp}:∀{vs ws:List V} {ds es:List D},b_ P H vs ds->b_ P H ws es->b_ P H (vs++ws) (ds++es)
 | _,_,_,_,.nil,s=>s
 | _,_,_,_,.cons r t,s=>.cons r (b_.append t s)
theorem b_.take {P:Addr->Prop} {H:Hp}:∀{vs:List V} {ds:List D} (n:Nat),b_ P H vs ds->b_ P H (vs.take n) (ds.take n)
 | _,_,0,_=>.nil
 | _,_,_+1,.nil=>.nil
 | _,_,n+1,.cons r t=>.cons r (b_.take n t)
theorem b_.drop {P:Addr->Prop} {H:Hp}:∀{vs:List V} {ds:List D} (n:Nat),b_ P H vs ds->b_ P H (vs.drop n) (ds.drop n)
 | _,_,0,r=>r
 | _,_,_+1,.nil=>.nil
 | _,_,n+1,.cons _ t=>b_.drop n t
theorem b_.snoc {P:Addr->Prop} {H:Hp} {vs:List V} {ds:List D} {v:V} {d:D} (t:b_ P H vs ds) (r:Rep P H v d):b_ P H (vs++[v]) (ds++[d]):=t.append (.cons r .nil)
theorem Rep.uD {P:Addr->Prop} {H:Hp} {v:V}:¬Rep P H v .uD:=fun h=>by cases h
abbrev All:Addr->Prop:=fun _=>True
abbrev New (H:Hp):Addr->Prop:=fun a=>H a=none
theorem Rep.all {P:Addr->Prop} {H:Hp} {v:V} {d:D} (r:Rep P H v d):Rep All H v d:=r.mono fun _ _=>trivial
theorem b_.all {P:Addr->Prop} {H:Hp} {v:List V} {d:List D} (r:b_ P H v d):b_ All H v d:=r.mono fun _ _=>trivial
theorem cZ.new {H H':Hp} (s:cZ H H'):∀a,New H' a->New H a:=fun a h=>s.free h
theorem cZ.upd {H:Hp} {a:Addr} {o:HO} (h:H a=none):cZ H (upd H a o):=fun b u e=>by rw [bJ (e_ e h)];exact e
noncomputable def ER (H:Hp) (σ:St) (ρ:List D):Prop:=∀i,ρ.getD i .uD≠.uD->∃v,σ[i]?=some (some v)/\Rep All H v (ρ.getD i .uD)
theorem ER.same {H H':Hp} {σ:St} {ρ:List D} (e:ER H σ ρ) (s:cZ H H'):ER H' σ ρ:=fun i h=>by
 obtain ⟨v,h1,h2⟩:=e i h;exact ⟨v,h1,h2.same s⟩
section
variable (cf:Nat->List D->Res D) (ff:Nat->Bool)
end
theorem PE.imp {X:Cx} {e:PySem.Expr} {t t':TE} (h:PE X e t) (i:∀σ H Q,t' σ H Q->t σ H Q):PE X e t':=fun pins s σ H Q I q=>h pins s σ H Q I (i σ H Q q)
theorem PT.imp {X:Cx} {e:PySem.Expr} {t t':TT} (h:PT X e t) (i:∀σ H Q,t' σ H Q->t σ H Q):PT X e t':=fun pins s σ H Q I q=>h pins s σ H Q I (i σ H Q q)
theorem PA.imp {X:Cx} {e:List PySem.Expr} {t t':TA} (h:PA X e t) (i:∀σ H Q,t' σ H Q->t σ H Q):PA X e t':=fun pos pins s σ H Q I q=>h pos pins s σ H Q I (i σ H Q q)
end Mi
end
section
namespace L2
open PySem PySem.Spec PyProof.Rows
noncomputable def j7 (own:List Str) (x:Str):Str:=if own.contains x then x++(" " : Str) else x
noncomputable def clF (env:Env):List (Str×NameKind)->List (Str×Addr)->List (Str×Addr)
 | [],acc=>acc
 | (n,k)::r,acc=>clF env r (if k==.free then (n,(env.cells.lookup n).getD 0)::acc else acc)
theorem rW {env:Env}:∀(names:List (Str×NameKind)) (acc:List (Str×Addr)),(∀y∈names,y.2=.free->∃c,env.cells.lookup y.1=some c)->
  (forIn names acc fun x cs=>(match x with
   | (name,kind)=>if (kind==.free)=true then cellOf env name >>= fun c=>pure (ForInStep.yield ((name,c)::cs)) else pure (ForInStep.yield cs):Sem (ForInStep (List (Str×Addr)))))=(pure (clF env names acc):Sem _)
 | [],acc,_=>by rw [List.forIn_nil];rfl
 | (n,k)::r,acc,h=>by
  rw [List.forIn_cons];by_cases hk:(k==.free)=true
  ·have hk':k=.free:=by simpa using hk
   obtain ⟨c,e⟩:=h (n,k) (List.mem_cons_self ..) hk';have e':cellOf env n=pure c:=by
    unfold cellOf;have e2:env.cells.lookup n=some c:=e;rw [e2]
   dsimp only;rw [if_pos hk,e',pure_bind,pure_bind];dsimp only;rw [rW r _ fun y hy=>h y (List.mem_cons_of_mem _ hy)];have e2:env.cells.lookup n=some c:=e;simp only [clF,hk,if_true,e2,Option.getD_some]
  ·dsimp only;rw [if_neg hk,pure_bind];dsimp only;rw [rW r _ fun y hy=>h y (List.mem_cons_of_mem _ hy)];simp only [clF,hk,Bool.false_eq_true,if_false]
theorem RD {env:Env} {scope:Scope} (h:∀y∈scope.names,y.2=.free->∃c,env.cells.lookup y.1=some c):closureFor scope env=pure (clF env scope.names []):=by
 unfold closureFor;have:=rW (env:=env) scope.names [] h;simp only [bind_pure] at *;exact this
theorem J8 {env:Env}:∀{names:List (Str×NameKind)} {acc:List (Str×Addr)} {x:Str} {c:Addr},(∀y∈names,y.2=.free->∃c,env.cells.lookup y.1=some c)->(∀x c,acc.lookup x=some c->env.cells.lookup x=some c)->
  (clF env names acc).lookup x=some c->env.cells.lookup x=some c
 | [],acc,x,c,_,h,e=>h x c e
 | (n,k)::r,acc,x,c,q,h,e=>by
  unfold clF at e;refine J8 (fun y hy=>q y (List.mem_cons_of_mem _ hy)) (fun y d hy=>?_) e;by_cases hk:(k==.free)=true
  ·rw [if_pos hk,List.lookup_cons] at hy;obtain ⟨c',e'⟩:=q (n,k) (List.mem_cons_self ..) (by simpa using hk);have e2:env.cells.lookup n=some c':=e';cases hyn:y==n with
   | true=>
    rw [hyn] at hy;have:y=n:=by simpa using hyn
    subst this;rw [e2] at hy;simp only [Option.getD_some] at hy;rw [e2];exact hy
   | false=>rw [hyn] at hy;exact h y d hy
  ·rw [if_neg hk] at hy;exact h y d hy
theorem V4 {env:Env}:∀{names:List (Str×NameKind)} {acc:List (Str×Addr)} {x:Str},(∃c,acc.lookup x=some c)->∃c,(clF env names acc).lookup x=some c
 | [],_,_,h=>h
 | (n,k)::r,acc,x,⟨c,h⟩=>by
  unfold clF;refine V4 ?_;by_cases hk:(k==.free)=true
  ·rw [if_pos hk,List.lookup_cons];cases x==n with
   | true=>exact ⟨_,rfl⟩
   | false=>exact ⟨c,h⟩
  ·rw [if_neg hk];exact ⟨c,h⟩
theorem J9 {env:Env}:∀{names:List (Str×NameKind)} {acc:List (Str×Addr)} {x:Str},(x,NameKind.free)∈names->∃c,(clF env names acc).lookup x=some c
 | (n,k)::r,acc,x,h=>by
  unfold clF;rcases List.mem_cons.mp h with e|h
  ·cases e;refine V4 ?_;rw [if_pos (by decide),List.lookup_cons];simp
  ·exact J9 h
structure dG (N:List Str) (sc scope:Scope) (own:List Str):Prop where
 kind:scope.kind=.function
 nocell:∀y∈scope.names,y.2≠.cell
 names:∀y∈scope.names,y.2=.local->scope.names.lookup y.1=some .local
 free:∀y∈scope.names,y.2=.free->sc.names.lookup y.1=some .cell\/sc.names.lookup y.1=some .free
 ownl:∀x∈own,scope.names.lookup x=some .local
 hid:∀x∈own,scope.names.lookup (x++(" " : Str))=none
 loc:∀y∈scope.names,y.2=.local->y.1∈own\/y.1∉N
structure dM (X X':Cx) (scope:Scope) (own:List Str):Prop where
 prog:X'.prog=X.prog
 w:X'.w=X.w
 K:X'.K=X.K
 mg:X'.mg=X.mg
 base:X'.base=X.base
 A:X'.A=X.A
 N:X'.N=X.N.map (j7 own)++own
 scope:X'.env.scope=relabel scope X.env
 calm:X'.calm=X.calm
 xe:X'.xe=fun _ _=>False
noncomputable def NZ (X:Cx) (scope:Scope) (cl:List (Str×Addr)) (C:Addr) (own:List Str) (s₂:Shared) (H₂:Hp) (fp:List Addr):Cx:=
 {X with N:=X.N.map (j7 own)++own,s₀:=s₂,H₀:=H₂,env:=compEnvC scope cl C X.env,outer:=X.stack,stack:=X.stack,ex:=fp,fn:=fun _=>false,pn:=[],xe:=fun _ _=>False}
theorem V5 {X:Cx} {scope:Scope} {cl:List (Str×Addr)} {C:Addr} {own:List Str} {s₂:Shared} {H₂:Hp} {fp:List Addr}:dM X (NZ X scope cl C own s₂ H₂ fp) scope own:=
 ⟨rfl,rfl,rfl,rfl,rfl,rfl,rfl,rfl,rfl,rfl⟩
noncomputable def Ext (σ σ2:St):Prop:=σ2.length=σ.length/\∀(i:Nat) v,σ[i]?=some (some v)->σ2[i]?=some (some v)
noncomputable def J_ (wi:TI) (g:TG) (tc:TT) (te:TE) (m:Nat):TE:=fun σ H Q=>wi σ H fun J H1=>∀p,H1 p=none->
 ∃W:Nat->Nat->List V->Hp->Prop,(∃n,W 0 n [] (upd H1 p (.lst [])))/\∀i n ys H,W i n ys H->H p=some (.lst ys)/\((J.stop i H/\Q (.ref p) H)\/(J.go i H/\ys.length<sizeLine/\
  ∀x H2,J.yld i H x H2->g x (σ++List.replicate m none) H2 fun σ2 H3=>Ext (σ++List.replicate m none) σ2/\tc σ2 H3 fun b H4=>if b=true then te σ2 H4 fun y H5=>H5 p=some (.lst ys)/\∃n',n'<n/\W (i+1) n' (ys++[y]) (upd H5 p (.lst (ys++[y])))
   else ∃n',n'<n/\W (i+1) n' ys H4))
section
variable {X:Cx} {scope:Scope} {own:List Str}
theorem Inv.comp {pins:List (Addr×Obj)} {σ:St} {H2:Hp} {s2:Shared} {fp:List Addr} {h1:Heap} {t1:Nat} (I:Inv X pins σ H2 s2) (S:dG X.N X.env.scope scope own) (hf:∀b∈fp,T4 X pins H2 b)
  (hfx:∀b∈fp,b<s2.heap.objs.size) (hns:h1.Ns (s2.heap.objs.size+1) (fun _=>none))
  (hk:∀b o,s2.heap.get? b=some o->h1.get? b=some o) (hacc:h1.get? s2.heap.objs.size=some {cls:=.type "list",data:=.seq #[]}) :
  Inv (NZ X scope (clF X.env scope.names []) (s2.heap.objs.size+1) own s2 H2 fp) [] (σ++List.replicate own.length none) (upd H2 s2.heap.objs.size (.lst [])) {s2 with heap:=h1,toks:=t1}:=by
 have hD:H2 s2.heap.objs.size=none:=I.hok.fresh (Nat.le_refl _);have hC:H2 (s2.heap.objs.size+1)=none:=I.hok.fresh (Nat.le_succ _);have cells:∀y∈scope.names,y.2=.free->∃c,X.env.cells.lookup y.1=some c:=fun y hy hk=>I.ok.has y.1 (S.free y hy hk)
 have sub:∀x c,(clF X.env scope.names []).lookup x=some c->X.env.cells.lookup x=some c:=fun x c e=>J8 cells (fun _ _ h=>by simp at h) e
 have relk:∀x,(relabel scope X.env).names.lookup x=some .cell\/(relabel scope X.env).names.lookup x=some .free->(x,NameKind.free)∈scope.names:=by
  intro x hx;have go:∀(l:List (Str×NameKind)),(∀y∈l,y.2≠.cell)->((l.map fun (n,k)=>if (k==NameKind.free&&X.env.scope.kind==.function&&X.env.kindOf n==some .cell) then (n,NameKind.cell) else (n,k)).lookup x=some .cell\/(l.map fun (n,k)=>if (k==NameKind.free&&X.env.scope.kind==.function&&X.env.kindOf n==some .cell) then (n,NameKind.cell) else (n,k)).lookup x=some .free)->(x,NameKind.free)∈l:=by
   intro l;induction l with
   | nil=>intro _ h;rcases h with h|h <;> simp at h
   | cons p l ih=>
    obtain ⟨n,k⟩:=p;intro nc h;rw [List.map_cons] at h;dsimp only at h;by_cases hc:(k==NameKind.free&&X.env.scope.kind==.function&&X.env.kindOf n==some .cell)=true
    ·rw [if_pos hc] at h;rw [List.lookup_cons] at h;cases e:x==n with
     | true=>
      have:x=n:=by simpa using e
      subst this;simp only [Bool.and_eq_true] at hc;have:k=.free:=by simpa using hc.1.1
      subst this;exact List.mem_cons_self ..
     | false=>
      rw [e] at h;exact List.mem_cons_of_mem _ (ih (fun y hy=>nc y (List.mem_cons_of_mem _ hy)) h)
    ·rw [if_neg hc] at h;rw [List.lookup_cons] at h;cases e:x==n with
     | true=>
      have:x=n:=by simpa using e
      subst this;rw [e] at h;dsimp only at h;rcases h with h|h
      ·exact absurd (Option.some.inj h) (nc (x,k) (List.mem_cons_self ..))
      ·have:=Option.some.inj h;subst this;exact List.mem_cons_self ..
     | false=>
      rw [e] at h;exact List.mem_cons_of_mem _ (ih (fun y hy=>nc y (List.mem_cons_of_mem _ hy)) h)
  exact go scope.names S.nocell hx
 have hne:s2.heap.objs.size≠s2.heap.objs.size+1:=Nat.ne_of_lt (Nat.lt_succ_self _);have hlt:∀b o,s2.heap.get? b=some o->b<s2.heap.objs.size:=fun b o e=>Heap.lt_size e
 have hstk:∀b∈frs X.stack,b<s2.heap.objs.size:=fun b hb=>by
  obtain ⟨_,o,ho,_⟩:=I.stack.mem hb;exact hlt b o ho
 refine ⟨⟨I.mod,?_,I.ok.glob,I.ok.blt,Nat.le_succ _,fun x y c e1 e2=>I.ok.inj x y c (sub x c e1) (sub y c e2),fun x hx=>?_,fun _ _ h=>(by cases h),I.ok.hd,I.ok.frames,.inl rfl,fun b hb=>?_,fun b o e=>I.bs b o e,?_,fun b o e hb=>?_,fun b hb hz=>?_,I.stack,I.JC⟩,
  rfl,I.bare,Un.laid hk (Nat.le_refl _) hD,?_,fun x c e=>?_,?_,fun x c e=>?_,fun p hp=>(by simp [NZ] at hp),?_,?_⟩
 ·exact S.kind
 ·have hx':(relabel scope X.env).names.lookup x=some .cell\/(relabel scope X.env).names.lookup x=some .free:=hx;exact J9 (relk x hx')
 ·refine ⟨Nat.ne_of_lt (Nat.lt_succ_of_lt (hfx b hb)),fun x c e z=>?_⟩;exact (hf b hb).2.2.2.2.1 x c (sub x c e) z
 ·exact Nat.le_trans I.ok.bsz I.sz
 ·rcases (hf b hb).2.2.2.1 with z|z
  ·exact I.ok.noex b o e z
  ·exact absurd (Nat.lt_of_lt_of_le (Heap.lt_size e) (Nat.le_trans I.ok.bsz z)) (Nat.lt_irrefl _)
 ·rcases List.mem_cons.mp (I.M5 b hz) with z'|z'
  ·exact (hf b hb).2.1 z'
  ·exact (hf b hb).2.2.1 z'
 ·refine ⟨_,hns,fun i x v e1 e2 e3=>?_⟩;have hi:i<σ.length:=by
   rcases Nat.lt_or_ge i σ.length with h|h
   ·exact h
   ·rw [List.getElem?_append_right h,List.getElem?_replicate] at e2;split at e2 <;> cases e2
  rw [List.getElem?_append_left hi] at e2;have hiN:i<X.N.length:=by rw [<-I.len];exact hi
  have e1':(X.N.map (j7 own))[i]?=some x:=by
   have:(X.N.map (j7 own)++own)[i]?=some x:=e1;rwa [List.getElem?_append_left (by rw [List.length_map];exact hiN)] at this
  rw [List.getElem?_map] at e1';obtain ⟨y,hy,ey⟩:=Option.map_eq_some_iff.mp e1';have hyN:y∈X.N:=List.mem_of_getElem? hy;have e3':(relabel scope X.env).names.lookup x=some .local\/(relabel scope X.env).names.lookup x=some .cell\/(relabel scope X.env).names.lookup x=some .free:=e3;have keys:∀z k,(relabel scope X.env).names.lookup z=some k->∃k',scope.names.lookup z=some k'/\(k=.local->k'=.local):=by
   intro z k;show (scope.names.map fun (n,k)=>if (k==NameKind.free&&X.env.scope.kind==.function&&X.env.kindOf n==some .cell) then (n,NameKind.cell) else (n,k)).lookup z=some k->_;generalize scope.names=l;induction l with
   | nil=>intro h;simp at h
   | cons p l ih=>
    obtain ⟨n,k0⟩:=p;intro h;rw [List.map_cons] at h;dsimp only at h;by_cases hc:(k0==NameKind.free&&X.env.scope.kind==.function&&X.env.kindOf n==some .cell)=true
    ·rw [if_pos hc,List.lookup_cons] at h;rw [List.lookup_cons];cases e:z==n with
     | true=>
      rw [e] at h;dsimp only at h;cases h;exact ⟨k0,rfl,fun q=>by cases q⟩
     | false=>rw [e] at h;exact ih h
    ·rw [if_neg hc,List.lookup_cons] at h;rw [List.lookup_cons];cases e:z==n with
     | true=>
      rw [e] at h;dsimp only at h;cases h;exact ⟨_,rfl,fun q=>q⟩
     | false=>rw [e] at h;exact ih h
  by_cases hown:own.contains y=true
  ·exfalso;have ex:x=y++(" " : Str):=by rw [<-ey];unfold j7;rw [if_pos hown]
   have hn:=S.hid y (by simpa using hown);rw [<-ex] at hn;rcases e3' with q|q|q
   all_goals
    obtain ⟨k',hk',_⟩:=keys _ _ q;rw [hn] at hk';cases hk'
  ·have ex:x=y:=by rw [<-ey];unfold j7;rw [if_neg hown]
   subst ex;rcases e3' with q|q
   ·exfalso;obtain ⟨k',hk',hl⟩:=keys _ _ q;have:=hl rfl;subst this;rcases S.loc _ (PySem.mem_of_lookup hk') rfl with z|z
    ·exact hown (by simpa using z)
    ·exact z hyN
   ·have hfr:=relk x q;have hv:=S.free _ hfr rfl;obtain ⟨m,_,hl⟩:=I.loc;obtain ⟨u,ru,lk⟩:=hl i x v hy e2 (.inr hv);refine ⟨u,ru,.inr ⟨q,?_⟩⟩;rcases lk with ⟨z,_⟩|⟨_,c,hc,o,ho,hd⟩
    ·have z':X.env.scope.names.lookup x=some .local:=z;rcases hv with hv|hv <;> (rw [z'] at hv;cases hv)
    ·obtain ⟨c',hc'⟩:=J9 (env:=X.env) (acc:=[]) hfr;have:=sub x c' hc';rw [hc] at this;cases this;exact ⟨c,hc',o,hk c o ho,hd⟩
 ·obtain ⟨v,z⟩:=I.cell x c (sub x c e);obtain ⟨o,ho,hd⟩:=z;exact ⟨v,o,hk c o ho,hd⟩
 ·show upd H2 _ _ (s2.heap.objs.size+1)=none;rw [bJ (Ne.symm hne)];exact hC
 ·obtain ⟨v,o,ho,_⟩:=I.cell x c (sub x c e);show upd H2 _ _ c=none;rw [bJ (Nat.ne_of_lt (hlt c o ho))];exact I.freeC x c (sub x c e)
 ·exact I.hok.laid hk (Nat.le_refl _) ⟨Nat.zero_le _,[],0,.nil,hacc⟩
 ·show (σ++List.replicate own.length none).length=(X.N.map (j7 own)++own).length;rw [List.length_append,List.length_append,List.length_replicate,List.length_map,I.len]
end
section
variable {X:Cx} {scope:Scope} {own:List Str}
noncomputable def cI (X':Cx) (σ:St) (fp:List Addr) (tn:Nat->Heap->Prop) (W:Nat->Nat->List V->Hp->Prop) (n:Nat) (s:Shared):Prop:=∃i ys H',Inv X' [] σ H' s/\tn i s.heap/\(∀b∈fp,H' b=none)/\W i n ys H'
noncomputable abbrev cE (X X':Cx) (use:Option (Value->Sem Unit)) (QQ:Value->Shared->Prop) (p:Addr):Value->Shared->Prop:=notedBy (model X.prog X.w) X.A X'.env fun e s'=>compPost (model X.prog X.w) X.A X.xe use QQ (.ref p) (p+1) (.error e) s'
noncomputable def cB (X':Cx) (σ:St) (fp:List Addr) (tn:Nat->Heap->Prop) (W:Nat->Nat->List V->Hp->Prop) (n i:Nat) (h:Heap):Prop:=∀{ys':List V} {H9:Hp} {s9:Shared} {σ9:St},Ext σ σ9->Inv X' ([]++uA fp h) σ9 H9 s9->(∃n',n'<n/\W (i+1) n' ys' H9)->∃m,m<n/\cI X' σ fp tn W m s9
theorem KC {elt iter tg:Expr} {ifs:List Expr} {wi:TI} {g:TG} {tc:TT} {te:TE} {pos ps:Pos} {use:Option (Value->Sem Unit)} {QQ:Value->Shared->Prop} {pins:List (Addr×Obj)} {s:Shared} {σ:St} {H:Hp} {R:VK} (S:dG X.N X.env.scope scope own) (hcalm:X.calm=true) (hi:PI X tg iter wi)
  (hg:∀X',dM X X' scope own->PG X' tg g) (hc:(ifs=[]/\tc=fun _ H Q=>Q true H)\/∃c,ifs=[c]/\∀X',dM X X' scope own->PT X' c tc) (he:∀X',dM X X' scope own->PE X' elt te)
  (hs:∀x,foldedSetIterable iter X.env x=pure x) (I:Inv X pins σ H s) (h:J_ wi g tc te own.length σ H R)
  (last:∀{p C:Addr} {H5:Hp} {s6:Shared} {m6:Str->Option Value},Inv X pins σ H5 s6->T4 X pins H5 C->s6.heap.Ns C m6->R (.ref p) H5->compPost (model X.prog X.w) X.A X.xe use QQ (.ref p) C (.ok .next) s6) :
  wpAny (model X.prog X.w) X.A (comprehension (.ListComp elt [⟨tg,iter,ifs,0⟩] scope pos) scope X.env ps (newList []) false (eval iter X.env) use) QQ X.xe s:=by
 have cells:∀y∈scope.names,y.2=.free->∃c,X.env.cells.lookup y.1=some c:=fun y hy hk=>I.ok.has y.1 (S.free y hy hk)
 refine wpAny_comprehension_free rfl hs (RD cells) S.kind S.names (thn (hi pins s σ H _ I h) fun xv s1 h1=>thn h1 fun itv s2 h2=>?_);obtain ⟨it,fp,tn,J,H2,e,I2,T,st2,f2,hW⟩:=h2;subst e;have hD:H2 s2.heap.objs.size=none:=I2.hok.fresh (Nat.le_refl _);obtain ⟨W,⟨n0,w0⟩,turn⟩:=hW _ hD;have hfx:∀b∈fp,b<s2.heap.objs.size:=fun b hb=>by
  obtain ⟨o,ho,_⟩:=T.obj 0 _ st2 b hb;exact Heap.lt_size ho
 refine wpAny_newObj_type (wpAny_newFunctionEnv S.nocell (by intro y hy;simp at hy) (fun h₁ hns₁ hsb₁=>?_) S.kind);dsimp only at hns₁ hsb₁ ⊢;have hC:(s2.heap.push {cls:=.type "list",dict:=none,data:=.seq ([]:List Value).toArray}).objs.size=s2.heap.objs.size+1:=Heap.size_push ..;have hne:s2.heap.objs.size≠s2.heap.objs.size+1:=Nat.ne_of_lt (Nat.lt_succ_self _);rw [hC] at hns₁ hsb₁ ⊢;have old:∀b o,s2.heap.get? b=some o->h₁.get? b=some o:=fun b o e=>hsb₁.extBut b o (Nat.ne_of_lt (Nat.lt_succ_of_lt (Heap.lt_size e))) (Heap.get?_push_of_some _ (Heap.get?_push_of_some _ e))
 have hacc:h₁.get? s2.heap.objs.size=some {cls:=.type "list",data:=.seq #[]}:=hsb₁.extBut _ _ hne (Heap.get?_push_of_some _ (Heap.get?_push_size _ rfl));have I4:=Inv.comp (t1:=s2.toks+([]:List (Str×Value)).length) I2 S f2 hfx hns₁ old hacc;generalize hX':NZ X scope (clF X.env scope.names []) (s2.heap.objs.size+1) own s2 H2 fp=X' at I4;have cc:dM X X' scope own:=by rw [<-hX'];exact V5
 have eenv:X'.env=compEnvC scope (clF X.env scope.names []) (s2.heap.objs.size+1) X.env:=by rw [<-hX'];rfl
 have eA:X'.A=X.A:=cc.A;have ep:X'.prog=X.prog:=cc.prog;have ew:X'.w=X.w:=cc.w;have efs:X'.fs=frs X.stack:=by rw [<-hX'];rfl
 have eex:X'.ex=fp:=by rw [<-hX'];rfl
 have es0:X'.s₀=s2:=by rw [<-hX'];rfl
 have eH0:X'.H₀=H2:=by rw [<-hX'];rfl
 have epn:X'.pn=[]:=by rw [<-hX'];rfl
 have eK:X'.K=X.K:=cc.K;have exe:=cc.xe;have ecalm:X'.calm=true:=cc.calm.trans hcalm
 -- the iterator's records within the block
 have fpok:∀{H':Hp},(∀b∈fp,H' b=none)->∀b∈fp,T4 X' [] H' b:=fun {H'} hn b hb=>by
  obtain ⟨_,f1,f3,_,f5,_⟩:=f2 b hb;refine ⟨hn b hb,?_,?_,.inl (by rw [eex];exact hb),fun x c e=>?_,fun p hp=>by rw [epn] at hp;simp at hp⟩
  ·rw [eenv];exact Nat.ne_of_lt (Nat.lt_succ_of_lt (hfx b hb))
  ·rw [efs];intro z;rcases List.mem_cons.mp (I2.M5 b z) with z|z
   ·exact f1 z
   ·exact f3 z
  ·rw [eenv] at e;exact f5 x c (J8 cells (fun _ _ h=>by simp at h) e)
 have st4:tn 0 h₁:=T.keep _ _ _ st2 fun b _ o e=>old b o e
 have fr4:∀b∈fp,(upd H2 s2.heap.objs.size (.lst [])) b=none:=fun b hb=>by rw [bJ (Nat.ne_of_lt (hfx b hb))];exact (f2 b hb).1
 have loop:∀s4:Shared,s4={s2 with heap:=h₁,toks:=s2.toks+([]:List (Str×Value)).length}->
   codeAny (model X.prog X.w) X.A (.compLoop (.ListComp elt [⟨tg,iter,ifs,0⟩] scope pos) 0 (.ref it) (.ref s2.heap.objs.size) X'.env)
    (compPost (model X.prog X.w) X.A X.xe use QQ (.ref s2.heap.objs.size) (s2.heap.objs.size+1)) s4:=by
  rintro s4 rfl;have put:∀(n i:Nat) (ys:List V) (s7:Shared) (σ8:St) (H8:Hp) (s8:Shared),cB X' (σ++List.replicate own.length none) fp tn W n i s7.heap->Inv X' ([]++uA fp s7.heap) σ8 H8 s8->Ext (σ++List.replicate own.length none) σ8->ys.length<sizeLine->(te σ8 H8 fun y H5=>H5 s2.heap.objs.size=some (.lst ys)/\∃n',n'<n/\W (i+1) n' (ys++[y]) (upd H5 s2.heap.objs.size (.lst (ys++[y]))))->
    wpAny (model X.prog X.w) X.A (eval elt X'.env) (fun x s₄=>wpAny (model X.prog X.w) X.A (call (.builtin "list.append") [.ref s2.heap.objs.size,x]) (fun _ s₅=>∃m,m<n/\cI X' (σ++List.replicate own.length none) fp tn W m s₅) (cE X X' use QQ s2.heap.objs.size) s₄) (cE X X' use QQ s2.heap.objs.size) s8:=by
   intro n i ys s7 σ8 H8 s8 back I8 ext8 hlen q8;have he':=he X' cc _ s8 _ H8 _ I8 q8;rw [ep,ew,eA,exe] at he';refine wpAny_mono he' (fun yv s10 ⟨y,H10,I10,r10,p10,q10⟩=>?_) fun _ _ z=>False.elim z
   have hm:=CJ (X:=X') _ s10 σ8 H10 (.ref s2.heap.objs.size) [y] (.ref s2.heap.objs.size) [yv] (fun _ H11=>∃n',n'<n/\W (i+1) n' (ys++[y]) H11) I10 rfl (.cons r10 .nil) ⟨s2.heap.objs.size,ys,y,rfl,rfl,p10,hlen,q10⟩;rw [ep,ew,eA,exe] at hm;exact wpAny_mono hm (fun _ s11 ⟨_,H11,I11,_,q11⟩=>back ext8 I11 q11) fun _ _ z=>False.elim z
  have key:∀(PO:Nat->Shared->Prop),(∀(n i:Nat) (ys:List V) (s7:Shared) (σ8:St) (H8:Hp) (s8:Shared),cB X' (σ++List.replicate own.length none) fp tn W n i s7.heap->Inv X' ([]++uA fp s7.heap) σ8 H8 s8->Ext (σ++List.replicate own.length none) σ8->ys.length<sizeLine->(tc σ8 H8 fun b H4=>if b=true then te σ8 H4 fun y H5=>H5 s2.heap.objs.size=some (.lst ys)/\∃n',n'<n/\W (i+1) n' (ys++[y]) (upd H5 s2.heap.objs.size (.lst (ys++[y]))) else ∃n',n'<n/\W (i+1) n' ys H4)->PO n s8)->
    ∀n s5,(cI X' (σ++List.replicate own.length none) fp tn W n s5)->wpAny (model X.prog X.w) X.A (pyNext (.ref it)) (fun r s₁=>match r with
     | none=>compPost (model X.prog X.w) X.A X.xe use QQ (.ref s2.heap.objs.size) (s2.heap.objs.size+1) (.ok .next) s₁
     | some v=>wpAny (model X.prog X.w) X.A (letOwnedTupleGo tg (.ref it) v) (fun _ s₀=>wpAny (model X.prog X.w) X.A (assign tg X'.env v) (fun _ s₂=>PO n s₂) (cE X X' use QQ s2.heap.objs.size) s₀) (cE X X' use QQ s2.heap.objs.size) s₁) (cE X X' use QQ s2.heap.objs.size) s5:=by
   intro PO hPO;rintro n s5 ⟨i,ys,H5,I5,st5,fr5,w5⟩;obtain ⟨hacc5,tr⟩:=turn i n ys H5 w5;rcases tr with ⟨stop,q⟩|⟨go,hlen,step⟩
   ·have done:=T.done X' ep ew eK ecalm i [] s5 _ H5 (cE X X' use QQ s2.heap.objs.size) I5 (fpok fr5) st5 stop;rw [eA] at done;refine thn done fun r s6 ⟨hr,I6⟩=>?_
    subst hr;obtain ⟨m6,hn6,_⟩:=id I6.loc;rw [eenv] at hn6;have u6:Un (frs X.stack) fp H2 H5 s2.heap s6.heap:=by
     have:=I6.base;rw [efs,eex,eH0,es0] at this;exact this
    have hCn:H5 (s2.heap.objs.size+1)=none:=by
     have:=I6.free;rw [eenv] at this;exact this
    have hok6:HOk X.prog X.w H5 s6.heap:=by
     have:=I6.hok;rw [ep,ew] at this;exact this
    have hos:s6.os=s2.os:=by have:=I6.os;rw [es0] at this;exact this
    obtain ⟨hh,gg,dd,tt,oo⟩:=s6;obtain rfl:oo=s2.os:=hos;have fin:=Inv.call (h':=hh) (g':=gg) (d':=dd) (t':=tt) (ch:=fp) I2 u6 hok6 I6.bare fun b hb=>⟨(f2 b hb).2.2.2.1,(f2 b hb).2.1,(f2 b hb).2.2.2.2.1,(f2 b hb).2.2.2.2.2⟩
    refine last fin ⟨hCn,Nat.ne_of_gt (Nat.lt_succ_of_lt I2.lt),I2.aJ4 (Nat.le_succ _),.inr (Nat.le_trans I2.sz (Nat.le_succ _)),fun x c e z=>?_,fun p hp z=>?_⟩ hn6 q
    ·obtain ⟨v,qq⟩:=I2.cell x c e;exact absurd (Nat.lt_succ_of_lt qq.lt) (by rw [z];exact Nat.lt_irrefl _)
    ·exact absurd (Nat.lt_succ_of_lt (Heap.lt_size (I2.pin p hp).1)) (by rw [z];exact Nat.lt_irrefl _)
   ·have item:=T.item X' ep ew eK ecalm i [] s5 _ H5 (cE X X' use QQ s2.heap.objs.size) I5 (fpok fr5) st5 go;rw [eA] at item;refine thn item fun r s6 ⟨u,hr,h6⟩=>?_
    subst hr;refine thn h6 fun _ s7 ⟨x,H7,I7,r7,y7,st7,fr7⟩=>?_
    have I7':=I7.pinned (fpok fr7) (T.obj _ _ st7);have hg':=hg X' cc _ s7 _ H7 x u _ I7' r7 (step x H7 y7);rw [ep,ew,eA,exe] at hg';refine wpAny_mono hg' (fun _ s8 ⟨σ8,H8,I8,ext8,q8⟩=>?_) fun _ _ z=>False.elim z
    have back:cB X' (σ++List.replicate own.length none) fp tn W n i s7.heap:=by
     rintro ys' H9 s9 σ9 ex9 I9 ⟨n',hn',w9⟩;refine ⟨n',hn',i+1,ys',H9,(I9.weak ex9.1.symm ex9.2).qC,T.keep _ _ _ st7 fun b hb o e=>(I9.pin (b,o) (List.mem_append_right _ (List.mem_append_right _ (oW hb e)))).1,fun b hb=>?_,w9⟩;obtain ⟨o,e,d⟩:=T.obj _ _ st7 b hb;exact (I9.pin (b,o) (List.mem_append_right _ (List.mem_append_right _ (oW hb e)))).2.1
    exact hPO n i ys s7 σ8 H8 s8 back I8 ext8 hlen q8
  rcases hc with ⟨rfl,rfl⟩|⟨c,rfl,hc⟩
  ·refine PySem.W.kcp_loop _ (key _ fun n i ys s7 σ8 H8 s8 back I8 ext8 hlen q8=>?_) n0 ⟨0,[],_,I4,st4,fr4,w0⟩;simp only [if_true] at q8;exact put n i ys s7 σ8 H8 s8 back I8 ext8 hlen q8
  ·refine PySem.W.kct_loop _ (key _ fun n i ys s7 σ8 H8 s8 back I8 ext8 hlen q8=>?_) n0 ⟨0,[],_,I4,st4,fr4,w0⟩;have hc':=hc X' cc _ s8 _ H8 _ I8 q8;rw [ep,ew,eA,exe] at hc';refine wpAny_mono hc' (fun b s9 ⟨H9,I9,q9⟩=>?_) fun _ _ z=>False.elim z
   cases b with
   | false=>
    simp only [Bool.false_eq_true,if_false] at q9 ⊢;exact back ext8 I9 q9
   | true=>
    simp only [if_true] at q9 ⊢;exact put n i ys s7 σ8 H9 s9 back I9 ext8 hlen q9
 have l4:=loop _ rfl;rw [eenv] at l4;exact codeAny_compStart_list l4 (T.self X.A 0 _ _ _ st4 l4)
theorem N5 {pins:List (Addr×Obj)} {σ:St} {Q:VK} {p C:Addr} {H5:Hp} {s6:Shared} {m6:Str->Option Value} (f:Inv X pins σ H5 s6) (k:T4 X pins H5 C) (n:s6.heap.Ns C m6) (q:Q (.ref p) H5):compPost (model X.prog X.w) X.A X.xe none (EP X pins σ Q) (.ref p) C (.ok .next) s6:=
 ⟨m6,n,fun h' sb=>⟨.ref p,H5,Inv.turned (t':=s6.toks) f (fun b o hb e=>sb.extBut b o hb e) k.1 k.2.1 k.2.2.2.1 k.2.2.2.2.1 k.2.2.2.2.2,rfl,q⟩⟩
theorem V6 {elt iter tg c:Expr} {wi:TI} {g:TG} {tc:TT} {te:TE} {pos:Pos} (S:dG X.N X.env.scope scope own) (hcalm:X.calm=true) (hi:PI X tg iter wi)
  (hg:∀X',dM X X' scope own->PG X' tg g) (hc:∀X',dM X X' scope own->PT X' c tc) (he:∀X',dM X X' scope own->PE X' elt te)
  (hs:∀x,foldedSetIterable iter X.env x=pure x):PE X (.ListComp elt [⟨tg,iter,[c],0⟩] scope pos) (J_ wi g tc te own.length):=by
 intro pins s σ H Q I h;rw [eval_ListComp];exact KC S hcalm hi hg (.inr ⟨c,rfl,hc⟩) he hs I h N5
theorem N6 {elt iter tg:Expr} {wi:TI} {g:TG} {te:TE} {pos:Pos} (S:dG X.N X.env.scope scope own) (hcalm:X.calm=true) (hi:PI X tg iter wi)
  (hg:∀X',dM X X' scope own->PG X' tg g) (he:∀X',dM X X' scope own->PE X' elt te)
  (hs:∀x,foldedSetIterable iter X.env x=pure x):PE X (.ListComp elt [⟨tg,iter,[],0⟩] scope pos) (J_ wi g (fun _ H Q=>Q true H) te own.length):=by
 intro pins s σ H Q I h;rw [eval_ListComp];exact KC S hcalm hi hg (.inl ⟨rfl,rfl⟩) he hs I h N5
end
end L2
end
section
namespace Mi
open PySem L2 PySem.SeqAt
variable [KFrag]
theorem iU {X:Cx} {pins:List (Addr×Obj)} {σ:St} {H:Hp} {s:Shared} {a:Addr} {xs:List V} (I:Inv X pins σ H s) (e:H a=some (.tup xs)):∃its:List Value,Vals xs its/\s.heap.IsTuple a its.toArray:=by
 obtain ⟨_,its,r,p⟩:xs.length<=sizeLine/\∃its:List Value,Vals xs its/\lD s.heap a its.toArray:=I.hok a _ e;exact ⟨its,r,p.tup⟩
theorem oA {X:Cx} {pins:List (Addr×Obj)} {σ:St} {H:Hp} {s:Shared} {a:Addr} {xs:List V} (I:Inv X pins σ H s) (e:SqL X.K H a xs):∃its:List Value,Vals xs its/\s.heap.IsList a its.toArray:=by
 obtain ⟨its,r,p,_⟩:=I.list e;exact ⟨its,r,p.isList⟩
theorem Rep.jR {P:Addr->Prop} {H:Hp} {K:PySem.W.Frag} {v:V} {ds:List D} (r:Rep P H v (.lst ds)):∃a xs,v=.ref a/\SqL K H a xs/\b_ P H xs ds:=by
 cases r with
 | lst e p r=>exact ⟨_,_,rfl,.inl (.inl e),r⟩
theorem Rep.gQ {P:Addr->Prop} {H:Hp} {v:V} {ds:List D} (r:Rep P H v (.tup ds)):∃a xs,v=.ref a/\H a=some (.tup xs)/\b_ P H xs ds:=by
 cases r with
 | tup e r=>exact ⟨_,_,rfl,e,r⟩
mutual
theorem yU:∀(n:Nat) (d:D),d.cG n=true->eqD d d=true
 | _,.non,_=>rfl
 | _,.bl b,_=>by simp [eqD]
 | _,.int i,_=>by simp [eqD]
 | _,.str x,_=>by simp [eqD]
 | n+1,.tup xs,h=>by rw [D.cG] at h;rw [eqD];exact uR n xs h
 | n+1,.lst xs,h=>by rw [D.cG] at h;rw [eqD];exact uR n xs h
 | 0,.tup xs,h=>by simp [D.cG] at h
 | 0,.lst xs,h=>by simp [D.cG] at h
 | n,.dct _,h=>by cases n <;> simp [D.cG] at h
 | n,.uD,h=>by cases n <;> simp [D.cG] at h
 | n,.scr _,h=>by cases n <;> simp [D.cG] at h
 | n,.fdc _,h=>by cases n <;> simp [D.cG] at h
 | n,.cel _ _,h=>by cases n <;> simp [D.cG] at h
theorem uR:∀(n:Nat) (ds:List D),D.iQ n ds=true->v4 ds ds=true
 | _,[],_=>rfl
 | n,d::ds,h=>by
  rw [D.iQ,Bool.and_eq_true] at h;rw [v4,yU n d h.1,uR n ds h.2];rfl
end
mutual
theorem Rep.inj {P P':Addr->Prop} {H:Hp}:∀(n:Nat) {v:V} {d e:D},d.cG n=true->e.cG n=true->Rep P H v d->Rep P' H v e->d=e
 | _,_,_,_,_,_,.non,.non=>rfl
 | _,_,_,_,_,_,.bl _,.bl _=>rfl
 | _,_,_,_,_,_,.int _,.int _=>rfl
 | _,_,_,_,_,_,.str _,.str _=>rfl
 | n+1,_,.tup ds,_,h,h',.tup e1 r1,q=>by
  cases q with
  | tup e2 r2=>
   rw [e1] at e2;cases e2;rw [D.cG] at h h';rw [b_.inj n h h' r1 r2]
  | lst e2 _ _=>rw [e1] at e2;cases e2
  | frz e2 _=>simp [D.cG] at h'
  | fdK e2 _ _=>simp [D.cG] at h'
  | cel e2 _ _=>simp [D.cG] at h'
  | fdT e2 _ _=>simp [D.cG] at h'
  | dK e2 _ _ _=>rw [e1] at e2;cases e2
  | dT e2 _ _ _=>rw [e1] at e2;cases e2
 | n+1,_,.lst ds,_,h,h',.lst e1 p r1,q=>by
  cases q with
  | tup e2 r2=>rw [e1] at e2;cases e2
  | lst e2 _ r2=>
   rw [e1] at e2;cases e2;rw [D.cG] at h h';rw [b_.inj n h h' r1 r2]
  | frz e2 _=>simp [D.cG] at h'
  | fdK e2 _ _=>simp [D.cG] at h'
  | cel e2 _ _=>simp [D.cG] at h'
  | fdT e2 _ _=>simp [D.cG] at h'
  | dK e2 _ _ _=>rw [e1] at e2;cases e2
  | dT e2 _ _ _=>rw [e1] at e2;cases e2
 | 0,_,.tup ds,_,h,_,_,_=>by simp [D.cG] at h
 | 0,_,.lst ds,_,h,_,_,_=>by simp [D.cG] at h
 | n,_,.dct _,_,h,_,_,_=>by cases n <;> simp [D.cG] at h
 | n,_,.scr _,_,h,_,_,_=>by cases n <;> simp [D.cG] at h
 | n,_,.fdc _,_,h,_,_,_=>by cases n <;> simp [D.cG] at h
 | n,_,.cel _ _,_,h,_,_,_=>by cases n <;> simp [D.cG] at h
theorem b_.inj {P P':Addr->Prop} {H:Hp}:∀(n:Nat) {v:List V} {d e:List D},D.iQ n d=true->D.iQ n e=true->b_ P H v d->b_ P' H v e->d=e
 | _,_,_,_,_,_,.nil,.nil=>rfl
 | n,_,_,_,h,h',.cons r t,.cons r' t'=>by
  rw [D.iQ,Bool.and_eq_true] at h h';rw [Rep.inj n h.1 h'.1 r r',b_.inj n h.2 h'.2 t t']
end
theorem rY:∀(xs ys:List D),v4 xs ys=((List.range (min xs.length ys.length)).all (fun j=>eqD (xs.getD j .non) (ys.getD j .non))&&xs.length==ys.length)
 | [],[]=>by simp [v4]
 | [],y::ys=>by simp [v4]
 | x::xs,[]=>by simp [v4]
 | x::xs,y::ys=>by
  have e:min (x::xs).length (y::ys).length=min xs.length ys.length+1:=by simp only [List.length_cons];lia
  rw [v4,rY xs ys,e,List.range_succ_eq_map,List.all_cons,List.all_map,Bool.and_assoc]
  congr 1
  simp [Function.comp_def]
theorem gR {n:Nat}:∀{ds:List D} {j:Nat},D.iQ n ds=true->j<ds.length->(ds.getD j .non).cG n=true
 | [],j,_,h=>by simp at h
 | d::ds,0,h,_=>by rw [D.iQ,Bool.and_eq_true] at h;exact h.1
 | d::ds,j+1,h,hj=>by
  rw [D.iQ,Bool.and_eq_true] at h;simpa using gR (ds:=ds) (j:=j) h.2 (by simpa using hj)
theorem b_.getD {P:Addr->Prop} {H:Hp} {vs:List V} {ds:List D} {j:Nat} (r:b_ P H vs ds) (hj:j<ds.length):∃v,vs[j]?=some v/\Rep P H v (ds.getD j .non):=by
 obtain ⟨v,h1,h2⟩:=r.get (i:=j) (d:=ds.getD j .non) (by simp [hj]);exact ⟨v,h1,h2⟩
section
variable {X:Cx} {pins:List (Addr×Obj)} {σ:St} {H:Hp} {s:Shared}
theorem DG (I:Inv X pins σ H s):∀(n:Nat) (A:Around) {x y:V} {a b:D} {u v:Value},A.units+n<cLine->a.cG n=true->b.cG n=true->Rep All H x a->Rep All H y b->RelV x u->RelV y v->
  RcAt A s u v (eqD a b)/\RcNeAt A s u v (!eqD a b)/\EqAt A s u v (eqD a b):=by
 intro n;induction n with
 | zero=>
  intro A x y a b u v hu ha hb rx ry ru rv;cases rx with
  | non=>
   cases ru;cases ry with
   | non=>cases rv;exact ⟨RcAt.none_none,RcNeAt.none_none,EqAt.same _⟩
   | bl _=>cases rv;exact ⟨RcAt.none_bool _,RcNeAt.none_bool _,EqAt.none_bool _⟩
   | int _=>obtain ⟨t,rfl⟩:=rv;exact ⟨RcAt.none_int _ _,RcNeAt.none_int _ _,EqAt.none_int _ _⟩
   | str _=>obtain ⟨t,rfl⟩:=rv;exact ⟨RcAt.none_str _ _,RcNeAt.none_str _ _,EqAt.none_str _ _⟩
   | _=>simp [D.cG] at hb
  | bl _=>
   cases ru;cases ry with
   | non=>cases rv;exact ⟨RcAt.bool_none _,RcNeAt.bool_none _,EqAt.bool_none _⟩
   | bl _=>cases rv;exact ⟨RcAt.bool_bool _ _,RcNeAt.bool_bool _ _,EqAt.bool_bool _ _⟩
   | int _=>obtain ⟨t,rfl⟩:=rv;exact ⟨RcAt.bool_int _ _ _,RcNeAt.bool_int _ _ _,EqAt.bool_int _ _ _⟩
   | str _=>obtain ⟨t,rfl⟩:=rv;exact ⟨RcAt.bool_str _ _ _,RcNeAt.bool_str _ _ _,EqAt.bool_str _ _ _⟩
   | _=>simp [D.cG] at hb
  | int _=>
   obtain ⟨t,rfl⟩:=ru;cases ry with
   | non=>cases rv;exact ⟨RcAt.int_none _ _,RcNeAt.int_none _ _,EqAt.int_none _ _⟩
   | bl _=>cases rv;exact ⟨RcAt.int_bool _ _ _,RcNeAt.int_bool _ _ _,EqAt.int_bool _ _ _⟩
   | int _=>obtain ⟨t',rfl⟩:=rv;exact ⟨RcAt.int_int _ _ _ _,RcNeAt.int_int _ _ _ _,EqAt.int_int _ _ _ _⟩
   | str _=>obtain ⟨t',rfl⟩:=rv;exact ⟨RcAt.int_str _ _ _ _,RcNeAt.int_str _ _ _ _,EqAt.int_str _ _ _ _⟩
   | _=>simp [D.cG] at hb
  | str _=>
   obtain ⟨t,rfl⟩:=ru;cases ry with
   | non=>cases rv;exact ⟨RcAt.str_none _ _,RcNeAt.str_none _ _,EqAt.str_none _ _⟩
   | bl _=>cases rv;exact ⟨RcAt.str_bool _ _ _,RcNeAt.str_bool _ _ _,EqAt.str_bool _ _ _⟩
   | int _=>obtain ⟨t',rfl⟩:=rv;exact ⟨RcAt.str_int _ _ _ _,RcNeAt.str_int _ _ _ _,EqAt.str_int _ _ _ _⟩
   | str _=>obtain ⟨t',rfl⟩:=rv;exact ⟨RcAt.str_str _ _ _ _,RcNeAt.str_str _ _ _ _,EqAt.str_str _ _ _ _⟩
   | _=>simp [D.cG] at hb
  | _=>simp [D.cG] at ha
 | succ n ih=>
  intro A x y a b u v hu ha hb rx ry ru rv;have hu0:A.units<cLine:=by lia
  have hu1:A.in1.units+n<cLine:=by show A.units+1+n<cLine;lia
  cases a with
  | uD=>exact absurd rx Rep.uD
  | dct _=>simp [D.cG] at ha
  | scr _=>simp [D.cG] at ha
  | fdc _=>simp [D.cG] at ha
  | cel _ _=>simp [D.cG] at ha
  | non=>
   cases rx;cases ru;cases b with
   | uD=>exact absurd ry Rep.uD
   | dct _=>simp [D.cG] at hb
   | scr _=>simp [D.cG] at hb
   | fdc _=>simp [D.cG] at hb
   | cel _ _=>simp [D.cG] at hb
   | non=>cases ry;cases rv;exact ⟨RcAt.none_none,RcNeAt.none_none,EqAt.same _⟩
   | bl _=>cases ry;cases rv;exact ⟨RcAt.none_bool _,RcNeAt.none_bool _,EqAt.none_bool _⟩
   | int _=>cases ry;obtain ⟨t2,rfl⟩:=rv;exact ⟨RcAt.none_int _ _,RcNeAt.none_int _ _,EqAt.none_int _ _⟩
   | str _=>cases ry;obtain ⟨t2,rfl⟩:=rv;exact ⟨RcAt.none_str _ _,RcNeAt.none_str _ _,EqAt.none_str _ _⟩
   | tup es=>
    obtain ⟨q,ys,rfl,e2,r2⟩:=ry.gQ;cases rv;obtain ⟨its2,vr2,h2⟩:=iU I e2;exact ⟨RcAt.none_tuple h2 hu0,RcNeAt.none_tuple h2 hu0,EqAt.none_tuple h2 hu0⟩
   | lst es=>
    obtain ⟨q,ys,rfl,e2,r2⟩:=ry.jR (K:=X.K);cases rv;obtain ⟨its2,vr2,h2⟩:=oA I e2;exact ⟨RcAt.none_list h2 hu0,RcNeAt.none_list h2 hu0,EqAt.none_list h2 hu0⟩
  | bl _=>
   cases rx;cases ru;cases b with
   | uD=>exact absurd ry Rep.uD
   | dct _=>simp [D.cG] at hb
   | scr _=>simp [D.cG] at hb
   | fdc _=>simp [D.cG] at hb
   | cel _ _=>simp [D.cG] at hb
   | non=>cases ry;cases rv;exact ⟨RcAt.bool_none _,RcNeAt.bool_none _,EqAt.bool_none _⟩
   | bl _=>cases ry;cases rv;exact ⟨RcAt.bool_bool _ _,RcNeAt.bool_bool _ _,EqAt.bool_bool _ _⟩
   | int _=>cases ry;obtain ⟨t2,rfl⟩:=rv;exact ⟨RcAt.bool_int _ _ _,RcNeAt.bool_int _ _ _,EqAt.bool_int _ _ _⟩
   | str _=>cases ry;obtain ⟨t2,rfl⟩:=rv;exact ⟨RcAt.bool_str _ _ _,RcNeAt.bool_str _ _ _,EqAt.bool_str _ _ _⟩
   | tup es=>
    obtain ⟨q,ys,rfl,e2,r2⟩:=ry.gQ;cases rv;obtain ⟨its2,vr2,h2⟩:=iU I e2;exact ⟨RcAt.bool_tuple _ h2 hu0,RcNeAt.bool_tuple _ h2 hu0,EqAt.bool_tuple _ h2 hu0⟩
   | lst es=>
    obtain ⟨q,ys,rfl,e2,r2⟩:=ry.jR (K:=X.K);cases rv;obtain ⟨its2,vr2,h2⟩:=oA I e2;exact ⟨RcAt.bool_list _ h2 hu0,RcNeAt.bool_list _ h2 hu0,EqAt.bool_list _ h2 hu0⟩
  | int _=>
   cases rx;obtain ⟨t1,rfl⟩:=ru;cases b with
   | uD=>exact absurd ry Rep.uD
   | dct _=>simp [D.cG] at hb
   | scr _=>simp [D.cG] at hb
   | fdc _=>simp [D.cG] at hb
   | cel _ _=>simp [D.cG] at hb
   | non=>cases ry;cases rv;exact ⟨RcAt.int_none _ _,RcNeAt.int_none _ _,EqAt.int_none _ _⟩
   | bl _=>cases ry;cases rv;exact ⟨RcAt.int_bool _ _ _,RcNeAt.int_bool _ _ _,EqAt.int_bool _ _ _⟩
   | int _=>cases ry;obtain ⟨t2,rfl⟩:=rv;exact ⟨RcAt.int_int _ _ _ _,RcNeAt.int_int _ _ _ _,EqAt.int_int _ _ _ _⟩
   | str _=>cases ry;obtain ⟨t2,rfl⟩:=rv;exact ⟨RcAt.int_str _ _ _ _,RcNeAt.int_str _ _ _ _,EqAt.int_str _ _ _ _⟩
   | tup es=>
    obtain ⟨q,ys,rfl,e2,r2⟩:=ry.gQ;cases rv;obtain ⟨its2,vr2,h2⟩:=iU I e2;exact ⟨RcAt.int_tuple _ _ h2 hu0,RcNeAt.int_tuple _ _ h2 hu0,EqAt.int_tuple _ _ h2 hu0⟩
   | lst es=>
    obtain ⟨q,ys,rfl,e2,r2⟩:=ry.jR (K:=X.K);cases rv;obtain ⟨its2,vr2,h2⟩:=oA I e2;exact ⟨RcAt.int_list _ _ h2 hu0,RcNeAt.int_list _ _ h2 hu0,EqAt.int_list _ _ h2 hu0⟩
  | str _=>
   cases rx;obtain ⟨t1,rfl⟩:=ru;cases b with
   | uD=>exact absurd ry Rep.uD
   | dct _=>simp [D.cG] at hb
   | scr _=>simp [D.cG] at hb
   | fdc _=>simp [D.cG] at hb
   | cel _ _=>simp [D.cG] at hb
   | non=>cases ry;cases rv;exact ⟨RcAt.str_none _ _,RcNeAt.str_none _ _,EqAt.str_none _ _⟩
   | bl _=>cases ry;cases rv;exact ⟨RcAt.str_bool _ _ _,RcNeAt.str_bool _ _ _,EqAt.str_bool _ _ _⟩
   | int _=>cases ry;obtain ⟨t2,rfl⟩:=rv;exact ⟨RcAt.str_int _ _ _ _,RcNeAt.str_int _ _ _ _,EqAt.str_int _ _ _ _⟩
   | str _=>cases ry;obtain ⟨t2,rfl⟩:=rv;exact ⟨RcAt.str_str _ _ _ _,RcNeAt.str_str _ _ _ _,EqAt.str_str _ _ _ _⟩
   | tup es=>
    obtain ⟨q,ys,rfl,e2,r2⟩:=ry.gQ;cases rv;obtain ⟨its2,vr2,h2⟩:=iU I e2;exact ⟨RcAt.str_tuple _ _ h2 hu0,RcNeAt.str_tuple _ _ h2 hu0,EqAt.str_tuple _ _ h2 hu0⟩
   | lst es=>
    obtain ⟨q,ys,rfl,e2,r2⟩:=ry.jR (K:=X.K);cases rv;obtain ⟨its2,vr2,h2⟩:=oA I e2;exact ⟨RcAt.str_list _ _ h2 hu0,RcNeAt.str_list _ _ h2 hu0,EqAt.str_list _ _ h2 hu0⟩
  | tup ds=>
   obtain ⟨p,xs,rfl,e1,r1⟩:=rx.gQ;cases ru;obtain ⟨its1,vr1,h1⟩:=iU I e1;rw [D.cG] at ha;cases b with
   | uD=>exact absurd ry Rep.uD
   | dct _=>simp [D.cG] at hb
   | scr _=>simp [D.cG] at hb
   | fdc _=>simp [D.cG] at hb
   | cel _ _=>simp [D.cG] at hb
   | non=>cases ry;cases rv;exact ⟨RcAt.tuple_none h1 hu0,RcNeAt.tuple_none h1 hu0,EqAt.tuple_none h1 hu0⟩
   | bl _=>cases ry;cases rv;exact ⟨RcAt.tuple_bool _ h1 hu0,RcNeAt.tuple_bool _ h1 hu0,EqAt.tuple_bool _ h1 hu0⟩
   | int _=>cases ry;obtain ⟨t2,rfl⟩:=rv;exact ⟨RcAt.tuple_int _ _ h1 hu0,RcNeAt.tuple_int _ _ h1 hu0,EqAt.tuple_int _ _ h1 hu0⟩
   | str _=>cases ry;obtain ⟨t2,rfl⟩:=rv;exact ⟨RcAt.tuple_str _ _ h1 hu0,RcNeAt.tuple_str _ _ h1 hu0,EqAt.tuple_str _ _ h1 hu0⟩
   | tup es=>
    obtain ⟨q,ys,rfl,e2,r2⟩:=ry.gQ;cases rv;obtain ⟨its2,vr2,h2⟩:=iU I e2;rw [D.cG] at hb;have z1:its1.toArray.size=ds.length:=by rw [List.size_toArray,<-vr1.length,r1.length]
    have z2:its2.toArray.size=es.length:=by rw [List.size_toArray,<-vr2.length,r2.length]
    have he:∀j (g1:j<its1.toArray.size) (g2:j<its2.toArray.size),EqAt A.in1 s its1.toArray[j] its2.toArray[j] (eqD (ds.getD j .non) (es.getD j .non)):=fun j g1 g2=>by
     obtain ⟨v1,w1,rr1⟩:=r1.getD (j:=j) (by lia);obtain ⟨v2,w2,rr2⟩:=r2.getD (j:=j) (by lia);obtain ⟨u1,k1,l1⟩:=vr1.get w1;obtain ⟨u2,k2,l2⟩:=vr2.get w2;have m1:its1.toArray[j]=u1:=by
      rw [List.getElem?_eq_getElem (by simpa using g1)] at k1;simpa using Option.some.inj k1
     have m2:its2.toArray[j]=u2:=by
      rw [List.getElem?_eq_getElem (by simpa using g2)] at k2;simpa using Option.some.inj k2
     rw [m1,m2];exact (ih A.in1 hu1 (gR ha (by lia)) (gR hb (by lia)) rr1 rr2 l1 l2).2.2
    have ee:eqD (.tup ds) (.tup es)=((List.range (min its1.toArray.size its2.toArray.size)).all (fun j=>eqD (ds.getD j .non) (es.getD j .non))&&its1.toArray.size==its2.toArray.size):=by
     rw [eqD,rY,z1,z2]
    have r0:=RcAt.tuples h1 h2 hu0 he;have r0':=RcNeAt.tuples h1 h2 hu0 he;rw [<-ee] at r0 r0';refine ⟨r0,r0',?_⟩;by_cases hpq:p=q
    ·subst hpq;have hab:(D.tup ds)=(.tup es):=Rep.inj (n+1) (by rw [D.cG];exact ha) (by rw [D.cG];exact hb) rx ry;rw [<-hab,yU (n+1) _ (by rw [D.cG];exact ha)];exact EqAt.same _
    ·exact EqAt.of_refs hpq r0
   | lst es=>
    obtain ⟨q,ys,rfl,e2,r2⟩:=ry.jR (K:=X.K);cases rv;obtain ⟨its2,vr2,h2⟩:=oA I e2;exact ⟨RcAt.tuple_list h1 h2 hu0,RcNeAt.tuple_list h1 h2 hu0,EqAt.tuple_list h1 h2 hu0⟩
  | lst ds=>
   obtain ⟨p,xs,rfl,e1,r1⟩:=rx.jR (K:=X.K);cases ru;obtain ⟨its1,vr1,h1⟩:=oA I e1;rw [D.cG] at ha;cases b with
   | uD=>exact absurd ry Rep.uD
   | dct _=>simp [D.cG] at hb
   | scr _=>simp [D.cG] at hb
   | fdc _=>simp [D.cG] at hb
   | cel _ _=>simp [D.cG] at hb
   | non=>cases ry;cases rv;exact ⟨RcAt.list_none h1 hu0,RcNeAt.list_none h1 hu0,EqAt.list_none h1 hu0⟩
   | bl _=>cases ry;cases rv;exact ⟨RcAt.list_bool _ h1 hu0,RcNeAt.list_bool _ h1 hu0,EqAt.list_bool _ h1 hu0⟩
   | int _=>cases ry;obtain ⟨t2,rfl⟩:=rv;exact ⟨RcAt.list_int _ _ h1 hu0,RcNeAt.list_int _ _ h1 hu0,EqAt.list_int _ _ h1 hu0⟩
   | str _=>cases ry;obtain ⟨t2,rfl⟩:=rv;exact ⟨RcAt.list_str _ _ h1 hu0,RcNeAt.list_str _ _ h1 hu0,EqAt.list_str _ _ h1 hu0⟩
   | tup es=>
    obtain ⟨q,ys,rfl,e2,r2⟩:=ry.gQ;cases rv;obtain ⟨its2,vr2,h2⟩:=iU I e2;exact ⟨RcAt.list_tuple h1 h2 hu0,RcNeAt.list_tuple h1 h2 hu0,EqAt.list_tuple h1 h2 hu0⟩
   | lst es=>
    obtain ⟨q,ys,rfl,e2,r2⟩:=ry.jR (K:=X.K);cases rv;obtain ⟨its2,vr2,h2⟩:=oA I e2;rw [D.cG] at hb;have z1:its1.toArray.size=ds.length:=by rw [List.size_toArray,<-vr1.length,r1.length]
    have z2:its2.toArray.size=es.length:=by rw [List.size_toArray,<-vr2.length,r2.length]
    have he:∀j (g1:j<its1.toArray.size) (g2:j<its2.toArray.size),EqAt A.in1 s its1.toArray[j] its2.toArray[j] (eqD (ds.getD j .non) (es.getD j .non)):=fun j g1 g2=>by
     obtain ⟨v1,w1,rr1⟩:=r1.getD (j:=j) (by lia);obtain ⟨v2,w2,rr2⟩:=r2.getD (j:=j) (by lia);obtain ⟨u1,k1,l1⟩:=vr1.get w1;obtain ⟨u2,k2,l2⟩:=vr2.get w2;have m1:its1.toArray[j]=u1:=by
      rw [List.getElem?_eq_getElem (by simpa using g1)] at k1;simpa using Option.some.inj k1
     have m2:its2.toArray[j]=u2:=by
      rw [List.getElem?_eq_getElem (by simpa using g2)] at k2;simpa using Option.some.inj k2
     rw [m1,m2];exact (ih A.in1 hu1 (gR ha (by lia)) (gR hb (by lia)) rr1 rr2 l1 l2).2.2
    have r00:RcAt A s (.ref p) (.ref q) (eqD (.lst ds) (.lst es))/\RcNeAt A s (.ref p) (.ref q) (!eqD (.lst ds) (.lst es)):=by
     rw [eqD,rY];by_cases hz:ds.length=es.length
     ·have r0:=RcAt.lists h1 h2 (by lia) hu0 he;have r0':=RcNeAt.lists h1 h2 (by lia) hu0 he;rw [z1] at r0 r0';rw [show min ds.length es.length=ds.length by lia,show (ds.length==es.length)=true by simpa using hz,Bool.and_true];exact ⟨r0,r0'⟩
     ·have hz':(its1.toArray.size != its2.toArray.size)=true:=by rw [z1,z2];simpa using hz
      rw [show (ds.length==es.length)=false by simpa using hz,Bool.and_false];exact ⟨RcAt.lists_lengths h1 h2 hz' hu0,RcNeAt.lists_lengths h1 h2 hz' hu0⟩
    obtain ⟨r0,r0'⟩:=r00;refine ⟨r0,r0',?_⟩;by_cases hpq:p=q
    ·subst hpq;have hab:(D.lst ds)=(.lst es):=Rep.inj (n+1) (by rw [D.cG];exact ha) (by rw [D.cG];exact hb) rx ry;rw [<-hab,yU (n+1) _ (by rw [D.cG];exact ha)];exact EqAt.same _
    ·exact EqAt.of_refs hpq r0
end
end Mi
end
section
namespace Mi
open PySem L2 PySem.SeqAt
open PySem.AutoSeq1 (wpAny_loadPart')
open PySem.MeetsSeq PySem.MeetsSeq2 PySem.MeetsSeq3
variable [KFrag]
noncomputable def jE.op:jE->CmpOp
 | .lt=>.Lt|.le=>.LtE|.gt=>.Gt|.ge=>.GtE
noncomputable def N7 (op:CmpOp) (A:Around) (s:Shared) (u v:Value) (b:Bool):Prop:=
 ∀(prog:Program) (w:World) (E:Value->Shared->Prop) (Q:Value->Shared->Prop),Q (.bool b) s->wpAny (model prog w) A (richCompare op u v) Q E s
noncomputable def C2 (o:jE) (A:Around) (s:Shared) (vs ws:List Value) (xs ys:List D):Prop:=
 vs.length=xs.length/\ws.length=ys.length/\∀(j:Nat) (v w:Value) (x y:D),vs[j]?=some v->ws[j]?=some w->xs[j]?=some x->ys[j]?=some y->
  EqAt A s v w (eqD x y)/\(eqD x y=false->∀k,fG o x y=some k->N7 o.op A s v w k)
theorem C2.tail {o:jE} {A:Around} {s:Shared} {v w:Value} {vs ws:List Value} {x y:D} {xs ys:List D} (h:C2 o A s (v::vs) (w::ws) (x::xs) (y::ys)):C2 o A s vs ws xs ys:=
 ⟨by simpa using h.1,by simpa using h.2.1,fun j a b c d e1 e2 e3 e4=>h.2.2 (j+1) a b c d (by simpa using e1) (by simpa using e2) (by simpa using e3) (by simpa using e4)⟩
theorem RG (l b:Addr) (items items2:Array Value) (n n2:Nat) (dd dd2:Option Addr) (sl sl2:Array (Option Value)) (xs ys:List D) (res:Bool) (hr:eE .lt xs ys=some res) :
  Meets (Builtin.«tuple.__lt__» ⟨[.ref l,.ref b],[]⟩)
   (fun A R s=>s.heap.get? l=some {cls:=.type "tuple",dict:=dd,data:=.seq items n,slots:=sl}/\s.heap.get? b=some {cls:=.type "tuple",dict:=dd2,data:=.seq items2 n2,slots:=sl2}/\
    C2 .lt A.in1 s items.toList items2.toList xs ys/\R (.ok (.ret (.bool res))) s):=
 .of_wp fun prog w A R s h=>by
  obtain ⟨hp,g,d,tk,os⟩:=s;obtain ⟨hl,hb,hC,h⟩:=h;have f2:=AutoSeq1.sub_tuple_tuple;have z1:items.size=xs.length:=by rw [<-hC.1];simp
  have z2:items2.size=ys.length:=by rw [<-hC.2.1];simp
  wp_walk using wpAny_loadPart' hl,wpAny_loadPart' hb,wpAny_forIn_list _ (fun rest b s'=>b.1=none/\s'=⟨hp,g,d,tk,os⟩/\∃(vs ws:List Value) (xs' ys':List D),rest=vs.zip ws/\
   C2 .lt A.in1 ⟨hp,g,d,tk,os⟩ vs ws xs' ys'/\xs'.length+items2.size=ys'.length+items.size/\eE .lt xs' ys'=some res) _
  case turn=>
   rintro ⟨y,x⟩ rest b s' ⟨hb',rfl,vs,ws,xs',ys',hz,hC',hlen,hR⟩;cases vs with
   | nil=>rw [List.zip_nil_left] at hz;cases hz
   | cons v vs=>
    cases ws with
    | nil=>rw [List.zip_nil_right] at hz;cases hz
    | cons w' ws=>
     rw [List.zip_cons_cons] at hz;injection hz with hyx hrest
     injection hyx with hy hx
     subst hy hx;cases xs' with
     | nil=>exact absurd hC'.1 (by simp)
     | cons x0 xs'=>
      cases ys' with
      | nil=>exact absurd hC'.2.1 (by simp)
      | cons y0 ys'=>
       rw [eE] at hR;simp only [List.length_cons] at hlen;obtain ⟨he,hlt⟩:=hC'.2.2 0 _ _ _ _ rfl rfl rfl rfl;refine wpAny_bind (he prog w _ _ ?_);cases e:eqD x0 y0 with
       | true=>
        rw [e] at hR;simp only [if_true] at hR
        wp_walk
        exact ⟨rfl,rfl,_,_,_,_,hrest,hC'.tail,by lia,hR⟩
       | false=>
        rw [e] at hR;simp only [Bool.false_eq_true,if_false] at hR;have hri:∀(E:Value->Shared->Prop) (Q:Value->Shared->Prop),Q (.bool res) ⟨hp,g,d,tk,os⟩->wpAny (model prog w) A.in1 (richCompare .Lt _ _) Q E ⟨hp,g,d,tk,os⟩:=fun E Q q=>hlt e res hR prog w E Q q
        wp_walk using hri
        exact ⟨_,rfl,by simpa using h⟩
  case fin=>
   rintro ⟨b1,b2⟩ s' ⟨hb',rfl,vs,ws,xs',ys',hz,hC',hlen,hR⟩;simp only at hb';subst hb';have hv:res=decide (items.size<items2.size):=by
    cases xs' with
    | nil=>
     rw [eE] at hR;have:=Option.some.inj hR;rw [<-this];simp only [List.length_nil] at hlen;simp only [jE.nat]
     congr 1
     simp only [eq_iff_iff];lia
    | cons x0 xs'=>
     cases ys' with
     | nil=>
      rw [eE] at hR;have:=Option.some.inj hR;rw [<-this];simp only [List.length_nil,List.length_cons] at hlen;simp only [jE.nat,List.length_cons]
      congr 1
      simp only [eq_iff_iff];lia
     | cons y0 ys'=>
      exfalso;cases vs with
      | nil=>exact absurd hC'.1 (by simp)
      | cons v vs=>
       cases ws with
       | nil=>exact absurd hC'.2.1 (by simp)
       | cons w' ws=>rw [List.zip_cons_cons] at hz;cases hz
   rw [hv] at h
   wp_walk
   exact ⟨_,rfl,by simpa [Builtin.Tuple.tupleCompareSizes] using h⟩
  case h=>
   exact ⟨rfl,rfl,items.toList,items2.toList,xs,ys,rfl,hC,by lia,hr⟩
theorem N7.aG3 {A:Around} {s:Shared} {l b:Addr} {items items2:Array Value} {xs ys:List D} {res:Bool} (hl:s.heap.IsTuple l items) (hb:s.heap.IsTuple b items2) (hC:C2 .lt A.in1 s items.toList items2.toList xs ys) (hr:eE .lt xs ys=some res) (hu:A.units<cLine) :
  N7 .Lt A s (.ref l) (.ref b) res:=fun prog w E Q h=>by
 obtain ⟨⟨cls,dd,data,sl⟩,ho,hc,n,hd⟩:=id hl;obtain ⟨⟨cls2,dd2,data2,sl2⟩,ho2,hc2,n2,hd2⟩:=id hb;simp only at hc hd hc2 hd2;subst hc hd hc2 hd2;exact richCompare_meets_room (op:=.Lt) ⟨_,ho,rfl⟩ ⟨_,ho2,rfl⟩ PySem.F.slot_tuple_lt PySem.F.entry_tuple_lt (PySem.F.args_tuple_lt_2 _ _) (RG l b items items2 n n2 dd dd2 sl sl2 xs ys res hr)
  ⟨ho,ho2,hC,show Value.bool res≠Value.notImplemented/\Q (.bool res) s from ⟨(fun x=>nomatch x),h⟩⟩ hu
theorem RJ (l b:Addr) (items items2:Array Value) (n n2:Nat) (dd dd2:Option Addr) (sl sl2:Array (Option Value)) (xs ys:List D) (res:Bool) (hr:eE .le xs ys=some res) :
  Meets (Builtin.«tuple.__le__» ⟨[.ref l,.ref b],[]⟩)
   (fun A R s=>s.heap.get? l=some {cls:=.type "tuple",dict:=dd,data:=.seq items n,slots:=sl}/\s.heap.get? b=some {cls:=.type "tuple",dict:=dd2,data:=.seq items2 n2,slots:=sl2}/\
    C2 .le A.in1 s items.toList items2.toList xs ys/\R (.ok (.ret (.bool res))) s):=
 .of_wp fun prog w A R s h=>by
  obtain ⟨hp,g,d,tk,os⟩:=s;obtain ⟨hl,hb,hC,h⟩:=h;have f2:=AutoSeq1.sub_tuple_tuple;have z1:items.size=xs.length:=by rw [<-hC.1];simp
  have z2:items2.size=ys.length:=by rw [<-hC.2.1];simp
  wp_walk using wpAny_loadPart' hl,wpAny_loadPart' hb,wpAny_forIn_list _ (fun rest b s'=>b.1=none/\s'=⟨hp,g,d,tk,os⟩/\∃(vs ws:List Value) (xs' ys':List D),rest=vs.zip ws/\
   C2 .le A.in1 ⟨hp,g,d,tk,os⟩ vs ws xs' ys'/\xs'.length+items2.size=ys'.length+items.size/\eE .le xs' ys'=some res) _
  case turn=>
   rintro ⟨y,x⟩ rest b s' ⟨hb',rfl,vs,ws,xs',ys',hz,hC',hlen,hR⟩;cases vs with
   | nil=>rw [List.zip_nil_left] at hz;cases hz
   | cons v vs=>
    cases ws with
    | nil=>rw [List.zip_nil_right] at hz;cases hz
    | cons w' ws=>
     rw [List.zip_cons_cons] at hz;injection hz with hyx hrest
     injection hyx with hy hx
     subst hy hx;cases xs' with
     | nil=>exact absurd hC'.1 (by simp)
     | cons x0 xs'=>
      cases ys' with
      | nil=>exact absurd hC'.2.1 (by simp)
      | cons y0 ys'=>
       rw [eE] at hR;simp only [List.length_cons] at hlen;obtain ⟨he,hlt⟩:=hC'.2.2 0 _ _ _ _ rfl rfl rfl rfl;refine wpAny_bind (he prog w _ _ ?_);cases e:eqD x0 y0 with
       | true=>
        rw [e] at hR;simp only [if_true] at hR
        wp_walk
        exact ⟨rfl,rfl,_,_,_,_,hrest,hC'.tail,by lia,hR⟩
       | false=>
        rw [e] at hR;simp only [Bool.false_eq_true,if_false] at hR;have hri:∀(E:Value->Shared->Prop) (Q:Value->Shared->Prop),Q (.bool res) ⟨hp,g,d,tk,os⟩->wpAny (model prog w) A.in1 (richCompare .LtE _ _) Q E ⟨hp,g,d,tk,os⟩:=fun E Q q=>hlt e res hR prog w E Q q
        wp_walk using hri
        exact ⟨_,rfl,by simpa using h⟩
  case fin=>
   rintro ⟨b1,b2⟩ s' ⟨hb',rfl,vs,ws,xs',ys',hz,hC',hlen,hR⟩;simp only at hb';subst hb';have hv:res=decide (items.size<=items2.size):=by
    cases xs' with
    | nil=>
     rw [eE] at hR;have:=Option.some.inj hR;rw [<-this];simp only [List.length_nil] at hlen;simp only [jE.nat]
     congr 1
     simp only [eq_iff_iff];lia
    | cons x0 xs'=>
     cases ys' with
     | nil=>
      rw [eE] at hR;have:=Option.some.inj hR;rw [<-this];simp only [List.length_nil,List.length_cons] at hlen;simp only [jE.nat,List.length_cons]
      congr 1
      simp only [eq_iff_iff];lia
     | cons y0 ys'=>
      exfalso;cases vs with
      | nil=>exact absurd hC'.1 (by simp)
      | cons v vs=>
       cases ws with
       | nil=>exact absurd hC'.2.1 (by simp)
       | cons w' ws=>rw [List.zip_cons_cons] at hz;cases hz
   rw [hv] at h
   wp_walk
   exact ⟨_,rfl,by simpa [Builtin.Tuple.tupleCompareSizes] using h⟩
  case h=>
   exact ⟨rfl,rfl,items.toList,items2.toList,xs,ys,rfl,hC,by lia,hr⟩
theorem N7.aG4 {A:Around} {s:Shared} {l b:Addr} {items items2:Array Value} {xs ys:List D} {res:Bool} (hl:s.heap.IsTuple l items) (hb:s.heap.IsTuple b items2) (hC:C2 .le A.in1 s items.toList items2.toList xs ys) (hr:eE .le xs ys=some res) (hu:A.units<cLine) :
  N7 .LtE A s (.ref l) (.ref b) res:=fun prog w E Q h=>by
 obtain ⟨⟨cls,dd,data,sl⟩,ho,hc,n,hd⟩:=id hl;obtain ⟨⟨cls2,dd2,data2,sl2⟩,ho2,hc2,n2,hd2⟩:=id hb;simp only at hc hd hc2 hd2;subst hc hd hc2 hd2;exact richCompare_meets_room (op:=.LtE) ⟨_,ho,rfl⟩ ⟨_,ho2,rfl⟩ PySem.F.slot_tuple_le PySem.F.entry_tuple_le (PySem.F.args_tuple_le_2 _ _) (RJ l b items items2 n n2 dd dd2 sl sl2 xs ys res hr)
  ⟨ho,ho2,hC,show Value.bool res≠Value.notImplemented/\Q (.bool res) s from ⟨(fun x=>nomatch x),h⟩⟩ hu
theorem RK (l b:Addr) (items items2:Array Value) (n n2:Nat) (dd dd2:Option Addr) (sl sl2:Array (Option Value)) (xs ys:List D) (res:Bool) (hr:eE .gt xs ys=some res) :
  Meets (Builtin.«tuple.__gt__» ⟨[.ref l,.ref b],[]⟩)
   (fun A R s=>s.heap.get? l=some {cls:=.type "tuple",dict:=dd,data:=.seq items n,slots:=sl}/\s.heap.get? b=some {cls:=.type "tuple",dict:=dd2,data:=.seq items2 n2,slots:=sl2}/\
    C2 .gt A.in1 s items.toList items2.toList xs ys/\R (.ok (.ret (.bool res))) s):=
 .of_wp fun prog w A R s h=>by
  obtain ⟨hp,g,d,tk,os⟩:=s;obtain ⟨hl,hb,hC,h⟩:=h;have f2:=AutoSeq1.sub_tuple_tuple;have z1:items.size=xs.length:=by rw [<-hC.1];simp
  have z2:items2.size=ys.length:=by rw [<-hC.2.1];simp
  wp_walk using wpAny_loadPart' hl,wpAny_loadPart' hb,wpAny_forIn_list _ (fun rest b s'=>b.1=none/\s'=⟨hp,g,d,tk,os⟩/\∃(vs ws:List Value) (xs' ys':List D),rest=vs.zip ws/\
   C2 .gt A.in1 ⟨hp,g,d,tk,os⟩ vs ws xs' ys'/\xs'.length+items2.size=ys'.length+items.size/\eE .gt xs' ys'=some res) _
  case turn=>
   rintro ⟨y,x⟩ rest b s' ⟨hb',rfl,vs,ws,xs',ys',hz,hC',hlen,hR⟩;cases vs with
   | nil=>rw [List.zip_nil_left] at hz;cases hz
   | cons v vs=>
    cases ws with
    | nil=>rw [List.zip_nil_right] at hz;cases hz
    | cons w' ws=>
     rw [List.zip_cons_cons] at hz;injection hz with hyx hrest
     injection hyx with hy hx
     subst hy hx;cases xs' with
     | nil=>exact absurd hC'.1 (by simp)
     | cons x0 xs'=>
      cases ys' with
      | nil=>exact absurd hC'.2.1 (by simp)
      | cons y0 ys'=>
       rw [eE] at hR;simp only [List.length_cons] at hlen;obtain ⟨he,hlt⟩:=hC'.2.2 0 _ _ _ _ rfl rfl rfl rfl;refine wpAny_bind (he prog w _ _ ?_);cases e:eqD x0 y0 with
       | true=>
        rw [e] at hR;simp only [if_true] at hR
        wp_walk
        exact ⟨rfl,rfl,_,_,_,_,hrest,hC'.tail,by lia,hR⟩
       | false=>
        rw [e] at hR;simp only [Bool.false_eq_true,if_false] at hR;have hri:∀(E:Value->Shared->Prop) (Q:Value->Shared->Prop),Q (.bool res) ⟨hp,g,d,tk,os⟩->wpAny (model prog w) A.in1 (richCompare .Gt _ _) Q E ⟨hp,g,d,tk,os⟩:=fun E Q q=>hlt e res hR prog w E Q q
        wp_walk using hri
        exact ⟨_,rfl,by simpa using h⟩
  case fin=>
   rintro ⟨b1,b2⟩ s' ⟨hb',rfl,vs,ws,xs',ys',hz,hC',hlen,hR⟩;simp only at hb';subst hb';have hv:res=decide (items2.size<items.size):=by
    cases xs' with
    | nil=>
     rw [eE] at hR;have:=Option.some.inj hR;rw [<-this];simp only [List.length_nil] at hlen;simp only [jE.nat]
     congr 1
     simp only [eq_iff_iff];lia
    | cons x0 xs'=>
     cases ys' with
     | nil=>
      rw [eE] at hR;have:=Option.some.inj hR;rw [<-this];simp only [List.length_nil,List.length_cons] at hlen;simp only [jE.nat,List.length_cons]
      congr 1
      simp only [eq_iff_iff];lia
     | cons y0 ys'=>
      exfalso;cases vs with
      | nil=>exact absurd hC'.1 (by simp)
      | cons v vs=>
       cases ws with
       | nil=>exact absurd hC'.2.1 (by simp)
       | cons w' ws=>rw [List.zip_cons_cons] at hz;cases hz
   rw [hv] at h
   wp_walk
   exact ⟨_,rfl,by simpa [Builtin.Tuple.tupleCompareSizes] using h⟩
  case h=>
   exact ⟨rfl,rfl,items.toList,items2.toList,xs,ys,rfl,hC,by lia,hr⟩
theorem N7.aG5 {A:Around} {s:Shared} {l b:Addr} {items items2:Array Value} {xs ys:List D} {res:Bool} (hl:s.heap.IsTuple l items) (hb:s.heap.IsTuple b items2) (hC:C2 .gt A.in1 s items.toList items2.toList xs ys) (hr:eE .gt xs ys=some res) (hu:A.units<cLine) :
  N7 .Gt A s (.ref l) (.ref b) res:=fun prog w E Q h=>by
 obtain ⟨⟨cls,dd,data,sl⟩,ho,hc,n,hd⟩:=id hl;obtain ⟨⟨cls2,dd2,data2,sl2⟩,ho2,hc2,n2,hd2⟩:=id hb;simp only at hc hd hc2 hd2;subst hc hd hc2 hd2;exact richCompare_meets_room (op:=.Gt) ⟨_,ho,rfl⟩ ⟨_,ho2,rfl⟩ PySem.F.slot_tuple_gt PySem.F.entry_tuple_gt (PySem.F.args_tuple_gt_2 _ _) (RK l b items items2 n n2 dd dd2 sl sl2 xs ys res hr)
  ⟨ho,ho2,hC,show Value.bool res≠Value.notImplemented/\Q (.bool res) s from ⟨(fun x=>nomatch x),h⟩⟩ hu
theorem RL (l b:Addr) (items items2:Array Value) (n n2:Nat) (dd dd2:Option Addr) (sl sl2:Array (Option Value)) (xs ys:List D) (res:Bool) (hr:eE .ge xs ys=some res) :
  Meets (Builtin.«tuple.__ge__» ⟨[.ref l,.ref b],[]⟩)
   (fun A R s=>s.heap.get? l=some {cls:=.type "tuple",dict:=dd,data:=.seq items n,slots:=sl}/\s.heap.get? b=some {cls:=.type "tuple",dict:=dd2,data:=.seq items2 n2,slots:=sl2}/\
    C2 .ge A.in1 s items.toList items2.toList xs ys/\R (.ok (.ret (.bool res))) s):=
 .of_wp fun prog w A R s h=>by
  obtain ⟨hp,g,d,tk,os⟩:=s;obtain ⟨hl,hb,hC,h⟩:=h;have f2:=AutoSeq1.sub_tuple_tuple;have z1:items.size=xs.length:=by rw [<-hC.1];simp
  have z2:items2.size=ys.length:=by rw [<-hC.2.1];simp
  wp_walk using wpAny_loadPart' hl,wpAny_loadPart' hb,wpAny_forIn_list _ (fun rest b s'=>b.1=none/\s'=⟨hp,g,d,tk,os⟩/\∃(vs ws:List Value) (xs' ys':List D),rest=vs.zip ws/\
   C2 .ge A.in1 ⟨hp,g,d,tk,os⟩ vs ws xs' ys'/\xs'.length+items2.size=ys'.length+items.size/\eE .ge xs' ys'=some res) _
  case turn=>
   rintro ⟨y,x⟩ rest b s' ⟨hb',rfl,vs,ws,xs',ys',hz,hC',hlen,hR⟩;cases vs with
   | nil=>rw [List.zip_nil_left] at hz;cases hz
   | cons v vs=>
    cases ws with
    | nil=>rw [List.zip_nil_right] at hz;cases hz
    | cons w' ws=>
     rw [List.zip_cons_cons] at hz;injection hz with hyx hrest
     injection hyx with hy hx
     subst hy hx;cases xs' with
     | nil=>exact absurd hC'.1 (by simp)
     | cons x0 xs'=>
      cases ys' with
      | nil=>exact absurd hC'.2.1 (by simp)
      | cons y0 ys'=>
       rw [eE] at hR;simp only [List.length_cons] at hlen;obtain ⟨he,hlt⟩:=hC'.2.2 0 _ _ _ _ rfl rfl rfl rfl;refine wpAny_bind (he prog w _ _ ?_);cases e:eqD x0 y0 with
       | true=>
        rw [e] at hR;simp only [if_true] at hR
        wp_walk
        exact ⟨rfl,rfl,_,_,_,_,hrest,hC'.tail,by lia,hR⟩
       | false=>
        rw [e] at hR;simp only [Bool.false_eq_true,if_false] at hR;have hri:∀(E:Value->Shared->Prop) (Q:Value->Shared->Prop),Q (.bool res) ⟨hp,g,d,tk,os⟩->wpAny (model prog w) A.in1 (richCompare .GtE _ _) Q E ⟨hp,g,d,tk,os⟩:=fun E Q q=>hlt e res hR prog w E Q q
        wp_walk using hri
        exact ⟨_,rfl,by simpa using h⟩
  case fin=>
   rintro ⟨b1,b2⟩ s' ⟨hb',rfl,vs,ws,xs',ys',hz,hC',hlen,hR⟩;simp only at hb';subst hb';have hv:res=decide (items2.size<=items.size):=by
    cases xs' with
    | nil=>
     rw [eE] at hR;have:=Option.some.inj hR;rw [<-this];simp only [List.length_nil] at hlen;simp only [jE.nat]
     congr 1
     simp only [eq_iff_iff];lia
    | cons x0 xs'=>
     cases ys' with
     | nil=>
      rw [eE] at hR;have:=Option.some.inj hR;rw [<-this];simp only [List.length_nil,List.length_cons] at hlen;simp only [jE.nat,List.length_cons]
      congr 1
      simp only [eq_iff_iff];lia
     | cons y0 ys'=>
      exfalso;cases vs with
      | nil=>exact absurd hC'.1 (by simp)
      | cons v vs=>
       cases ws with
       | nil=>exact absurd hC'.2.1 (by simp)
       | cons w' ws=>rw [List.zip_cons_cons] at hz;cases hz
   rw [hv] at h
   wp_walk
   exact ⟨_,rfl,by simpa [Builtin.Tuple.tupleCompareSizes] using h⟩
  case h=>
   exact ⟨rfl,rfl,items.toList,items2.toList,xs,ys,rfl,hC,by lia,hr⟩
theorem N7.aG6 {A:Around} {s:Shared} {l b:Addr} {items items2:Array Value} {xs ys:List D} {res:Bool} (hl:s.heap.IsTuple l items) (hb:s.heap.IsTuple b items2) (hC:C2 .ge A.in1 s items.toList items2.toList xs ys) (hr:eE .ge xs ys=some res) (hu:A.units<cLine) :
  N7 .GtE A s (.ref l) (.ref b) res:=fun prog w E Q h=>by
 obtain ⟨⟨cls,dd,data,sl⟩,ho,hc,n,hd⟩:=id hl;obtain ⟨⟨cls2,dd2,data2,sl2⟩,ho2,hc2,n2,hd2⟩:=id hb;simp only at hc hd hc2 hd2;subst hc hd hc2 hd2;exact richCompare_meets_room (op:=.GtE) ⟨_,ho,rfl⟩ ⟨_,ho2,rfl⟩ PySem.F.slot_tuple_ge PySem.F.entry_tuple_ge (PySem.F.args_tuple_ge_2 _ _) (RL l b items items2 n n2 dd dd2 sl sl2 xs ys res hr)
  ⟨ho,ho2,hC,show Value.bool res≠Value.notImplemented/\Q (.bool res) s from ⟨(fun x=>nomatch x),h⟩⟩ hu
section
variable {X:Cx} {pins:List (Addr×Obj)} {σ:St} {H:Hp} {s:Shared}
theorem KD (I:Inv X pins σ H s) (o:jE):∀(n:Nat) (A:Around) {x y:V} {a b:D} {u v:Value} {k:Bool},A.units+n<cLine->a.cG n=true->b.cG n=true->Rep All H x a->Rep All H y b->RelV x u->RelV y v->
  fG o a b=some k->N7 o.op A s u v k:=by
 intro n;induction n with
 | zero=>
  intro A x y a b u v k hu ha hb rx ry ru rv hk;cases a with
  | int i=>
   cases b with
   | int j=>
    cases rx;cases ry;obtain ⟨t,rfl⟩:=ru;obtain ⟨t',rfl⟩:=rv;rw [fG] at hk;have:=Option.some.inj hk;subst this;cases o with
    | lt=>exact fun prog w E Q h=>(PyProof.Rows.lt_int h:wpAny (model prog w) A (compareOp .Lt (.int i t) (.int j t')) Q E s)
    | le=>exact fun prog w E Q h=>(PyProof.Rows.le_int h:wpAny (model prog w) A (compareOp .LtE (.int i t) (.int j t')) Q E s)
    | gt=>exact fun prog w E Q h=>(PyProof.Rows.gt_int h:wpAny (model prog w) A (compareOp .Gt (.int i t) (.int j t')) Q E s)
    | ge=>exact fun prog w E Q h=>(PyProof.Rows.ge_int h:wpAny (model prog w) A (compareOp .GtE (.int i t) (.int j t')) Q E s)
   | _=>simp [fG] at hk
  | str i=>
   cases b with
   | str j=>
    cases rx;cases ry;obtain ⟨t,rfl⟩:=ru;obtain ⟨t',rfl⟩:=rv;rw [fG] at hk;have:=Option.some.inj hk;subst this;cases o with
    | lt=>exact fun prog w E Q h=>(PyProof.Rows.lt_str h:wpAny (model prog w) A (compareOp .Lt (.str i t) (.str j t')) Q E s)
    | le=>exact fun prog w E Q h=>(PySem.P.le_str h:wpAny (model prog w) A (compareOp .LtE (.str i t) (.str j t')) Q E s)
    | gt=>exact fun prog w E Q h=>(PySem.P.gt_str h:wpAny (model prog w) A (compareOp .Gt (.str i t) (.str j t')) Q E s)
    | ge=>exact fun prog w E Q h=>(PySem.P.ge_str h:wpAny (model prog w) A (compareOp .GtE (.str i t) (.str j t')) Q E s)
   | _=>simp [fG] at hk
  | tup _=>simp [D.cG] at ha
  | _=>cases b <;> simp [fG] at hk
 | succ n ih=>
  intro A x y a b u v k hu ha hb rx ry ru rv hk;have hu0:A.units<cLine:=by lia
  have hu1:A.in1.units+n<cLine:=by show A.units+1+n<cLine;lia
  cases a with
  | int i=>
   cases b with
   | int j=>
    cases rx;cases ry;obtain ⟨t,rfl⟩:=ru;obtain ⟨t',rfl⟩:=rv;rw [fG] at hk;have:=Option.some.inj hk;subst this;cases o with
    | lt=>exact fun prog w E Q h=>(PyProof.Rows.lt_int h:wpAny (model prog w) A (compareOp .Lt (.int i t) (.int j t')) Q E s)
    | le=>exact fun prog w E Q h=>(PyProof.Rows.le_int h:wpAny (model prog w) A (compareOp .LtE (.int i t) (.int j t')) Q E s)
    | gt=>exact fun prog w E Q h=>(PyProof.Rows.gt_int h:wpAny (model prog w) A (compareOp .Gt (.int i t) (.int j t')) Q E s)
    | ge=>exact fun prog w E Q h=>(PyProof.Rows.ge_int h:wpAny (model prog w) A (compareOp .GtE (.int i t) (.int j t')) Q E s)
   | _=>simp [fG] at hk
  | str i=>
   cases b with
   | str j=>
    cases rx;cases ry;obtain ⟨t,rfl⟩:=ru;obtain ⟨t',rfl⟩:=rv;rw [fG] at hk;have:=Option.some.inj hk;subst this;cases o with
    | lt=>exact fun prog w E Q h=>(PyProof.Rows.lt_str h:wpAny (model prog w) A (compareOp .Lt (.str i t) (.str j t')) Q E s)
    | le=>exact fun prog w E Q h=>(PySem.P.le_str h:wpAny (model prog w) A (compareOp .LtE (.str i t) (.str j t')) Q E s)
    | gt=>exact fun prog w E Q h=>(PySem.P.gt_str h:wpAny (model prog w) A (compareOp .Gt (.str i t) (.str j t')) Q E s)
    | ge=>exact fun prog w E Q h=>(PySem.P.ge_str h:wpAny (model prog w) A (compareOp .GtE (.str i t) (.str j t')) Q E s)
   | _=>simp [fG] at hk
  | tup ds=>
   cases b with
   | tup es=>
    obtain ⟨p,xs,rfl,e1,r1⟩:=rx.gQ;cases ru;obtain ⟨its1,vr1,h1⟩:=iU I e1;obtain ⟨q,ys,rfl,e2,r2⟩:=ry.gQ;cases rv;obtain ⟨its2,vr2,h2⟩:=iU I e2;rw [D.cG] at ha hb;rw [fG] at hk;have hC:∀o',o'=o->C2 o' A.in1 s its1.toArray.toList its2.toArray.toList ds es:=by
     rintro o' rfl;refine ⟨by rw [List.toList_toArray,<-vr1.length,r1.length],by rw [List.toList_toArray,<-vr2.length,r2.length],fun j v w x y a1 a2 a3 a4=>?_⟩;rw [List.toList_toArray] at a1 a2;obtain ⟨v1,w1,rr1⟩:=r1.get a3;obtain ⟨v2,w2,rr2⟩:=r2.get a4;obtain ⟨u1,k1,l1⟩:=vr1.get w1;obtain ⟨u2,k2,l2⟩:=vr2.get w2;rw [a1] at k1;cases k1;rw [a2] at k2;cases k2;have g1:x.cG n=true:=by
      have:=gR (j:=j) ha (List.getElem?_eq_some_iff.mp a3).1;rwa [List.getD_eq_getElem?_getD,a3] at this
     have g2:y.cG n=true:=by
      have:=gR (j:=j) hb (List.getElem?_eq_some_iff.mp a4).1;rwa [List.getD_eq_getElem?_getD,a4] at this
     exact ⟨(DG I n A.in1 hu1 g1 g2 rr1 rr2 l1 l2).2.2,fun _ k hk=>ih A.in1 hu1 g1 g2 rr1 rr2 l1 l2 hk⟩
    cases o with
    | lt=>exact N7.aG3 h1 h2 (hC .lt rfl) hk hu0
    | le=>exact N7.aG4 h1 h2 (hC .le rfl) hk hu0
    | gt=>exact N7.aG5 h1 h2 (hC .gt rfl) hk hu0
    | ge=>exact N7.aG6 h1 h2 (hC .ge rfl) hk hu0
   | _=>simp [fG] at hk
  | _=>cases b <;> simp [fG] at hk
end
end Mi
end
section
namespace TS
open PySem PyProof.Rows
theorem yV {prog:Program} {w:World} {A:Around} {E:Value->Shared->Prop} {s:Shared} {a:Addr} {vs:List Value} {n:Nat} {P:Fin->Shared->Prop} (ho:s.heap.get? a=some (seqObj "list" vs.toArray n)) (hn:vs.length<=sizeLine)
  (hk:2<=vs.length->∃κ U blt,Ord U blt/\qI U (pairsOf vs)/\
   (∀Q:SortKind->Shared->Prop,Q κ {s with heap:=((s.heap.update a (Obj.mapSeq fun _=>(#[]:Array Value))).push (seqObj "tuple" vs.toArray 0)).push (seqObj "list" #[] 0)}->wpAny (model prog w) A (keyKind' vs.toArray) Q E {s with heap:=((s.heap.update a (Obj.mapSeq fun _=>(#[]:Array Value))).push (seqObj "tuple" vs.toArray 0)).push (seqObj "list" #[] 0)})/\
   Q9 prog w A E {s with heap:=((s.heap.update a (Obj.mapSeq fun _=>(#[]:Array Value))).push (seqObj "tuple" vs.toArray 0)).push (seqObj "list" #[] 0)} κ U blt/\
   ∀arr:Array Keyed,arr.Perm (pairsOf vs)->Srt blt arr 0 (pairsOf vs).size->P (.done (.ret .none)) {s with heap:=sortedHeap s.heap a vs (arr.map (·.2))})
  (h1:vs.length<2->P (.done (.ret .none)) {s with heap:=sortedHeap s.heap a vs ((pairsOf vs).map (·.2))}) :
  wpAny (model prog w) A (Builtin.«list.sort» ⟨[.ref a],[]⟩) P E s:=by
 rw [list_sort_plain];have ha:a<s.heap.objs.size:=Heap.lt_size ho;refine wpAny_bind (listItems_at ho rfl ?_);refine wpAny_bind (listUpdate_at ho rfl ?_ (by rw [List.size_toArray];exact hn) (Nat.zero_le _));obtain ⟨e1,ho1⟩:∃e1,(s.heap.update a (Obj.mapSeq fun _=>(#[]:Array Value))).get? a=some (seqObj "list" #[] e1):=⟨_,get?_update_seq ho (fun _=>#[])⟩
 refine wpAny_bind (seqEpoch_at ho1 rfl ?_);refine wpAny_bind (wpAny_newTuple ?_ (by show vs.length<=_;exact hn));refine wpAny_bind (wpAny_newList ?_ (Nat.zero_le _));refine wpAny_holding ?_;have ho6:(((s.heap.update a (Obj.mapSeq fun _=>(#[]:Array Value))).push (seqObj "tuple" vs.toArray 0)).push (seqObj "list" #[] 0)).get? a=some (seqObj "list" #[] e1):=by
  rw [Heap.get?_push_ne _ _ _ (by rw [size_push',Heap.size_update];exact Nat.ne_of_lt (Nat.lt_succ_of_lt ha)),Heap.get?_push_ne _ _ _ (by rw [Heap.size_update];exact Nat.ne_of_lt ha)];exact ho1
 show wpAny (model prog w) A _ P E {s with heap:=((s.heap.update a (Obj.mapSeq fun _=>(#[]:Array Value))).push (seqObj "tuple" vs.toArray 0)).push (seqObj "list" #[] 0)};dsimp only;have hsz:vs.toArray.size=vs.length:=by simp
 by_cases h2:vs.toArray.size<2
 ·rw [if_pos h2,if_pos h2];refine wpAny_bind (wpAny_pure ?_);rw [StateT.run_pure];refine wpAny_bind (wpAny_pure ?_);dsimp only;refine wpAny_bind (seqEpoch_at ho6 rfl ?_);refine wpAny_bind (listUpdate_at ho6 rfl ?_ (Nat.zero_le _) (hsz2:=by rw [Array.size_map];show (pairsOf vs).size<=_;rw [pairsOf_size];exact Nat.le_succ_of_le hn));simp only [bne_self_eq_false,Bool.false_eq_true,if_false];exact wpAny_pure (h1 (by lia))
 ·rw [if_neg h2,if_neg h2];obtain ⟨κ,U,blt,O,hU,hkk,hL,fin⟩:=hk (by lia);refine wpAny_bind (hkk _ ?_);refine wpAny_bind (wpAny_mono (wpS_sortRuns (a₀:=pairsOf vs) (st:=SortSt.mk' κ (vs.toArray.zip vs.toArray) #[] 7 none)
   (Q:=fun _ st'=>(arrOf st').Perm (pairsOf vs)/\failedOf st'=none/\Srt blt (arrOf st') 0 (pairsOf vs).size) O hL hU ⟨rfl,rfl,Array.Perm.refl _⟩ rfl (by rw [pairsOf_size];lia) fun st' b z=>⟨b.pm,b.fl,z⟩) ?_ fun _ _ e=>e)
  rintro ⟨⟨⟩,st'⟩ s' ⟨rfl,hp,hf,hs⟩;dsimp only;refine wpAny_bind (seqEpoch_at ho6 rfl ?_);refine wpAny_bind (listUpdate_at ho6 rfl ?_ (Nat.zero_le _) (hsz2:=by refine Nat.le_trans (Nat.le_of_eq ((Array.size_map ..).trans (hp.size_eq.trans (pairsOf_size _)))) ?_;exact Nat.le_succ_of_le hn));rw [hf];simp only [bne_self_eq_false,Bool.false_eq_true,if_false];exact wpAny_pure (fin (arrOf st') hp hs)
noncomputable def aEy (h:Heap) (vs:List Value):Heap:=
 (((h.push (seqObj "list" vs.toArray 0)).update h.objs.size (Obj.mapSeq fun _=>(#[]:Array Value))).push (seqObj "tuple" vs.toArray 0)).push (seqObj "list" #[] 0)
theorem aA6 {h:Heap} {vs:List Value} {b:Addr} {o:Obj} (hb:h.get? b=some o):(aEy h vs).get? b=some o:=by
 have hlt:b<h.objs.size:=Heap.lt_size hb;unfold aEy;refine Heap.get?_push_of_some _ (Heap.get?_push_of_some _ ?_);rw [Heap.get?_update_ne _ _ _ _ (Nat.ne_of_lt hlt)];exact Heap.get?_push_of_some _ hb
noncomputable def aEz (h:Heap) (vs:List Value) (out:Array Value):Heap:=sortedHeap (h.push (seqObj "list" vs.toArray 0)) h.objs.size vs out
theorem aA7 {h:Heap} {vs:List Value} {out:Array Value} {b:Addr} {o:Obj} (hb:h.get? b=some o):(aEz h vs out).get? b=some o:=by
 have hlt:b<h.objs.size:=Heap.lt_size hb;unfold aEz;rw [sortedHeap_old (Nat.ne_of_lt hlt) (by rw [size_push'];exact Nat.lt_succ_of_lt hlt)];exact Heap.get?_push_of_some _ hb
theorem aDh (h:Heap) (vs:List Value) (out:Array Value):∃e,(aEz h vs out).get? h.objs.size=some (seqObj "list" out e):=sortedHeap_at (n:=0) (Heap.get?_push_size _ rfl)
theorem RM {prog:Program} {w:World} {A:Around} {E:Value->Shared->Prop} {s:Shared} {v:Value} {vs:List Value} {Q:Value->Shared->Prop} (hn:vs.length<=sizeLine)
  (hcol:∀(Q':List Value->Shared->Prop) (E':Value->Shared->Prop),(∀h1 tk,(∀b o,s.heap.get? b=some o->h1.get? b=some o)->s.heap.objs.size<=h1.objs.size->Q' vs {s with heap:=h1,toks:=tk})->wpAny (model prog w) A.in1 (collect v) Q' E' s)
  (hk:∀h1 tk,(∀b o,s.heap.get? b=some o->h1.get? b=some o)->s.heap.objs.size<=h1.objs.size->2<=vs.length->∃κ U blt,Ord U blt/\qI U (pairsOf vs)/\
   (∀Q:SortKind->Shared->Prop,Q κ {s with heap:=aEy h1 vs,toks:=tk}->wpAny (model prog w) A.in1.in1 (keyKind' vs.toArray) Q (fun _ _=>False) {s with heap:=aEy h1 vs,toks:=tk})/\
   Q9 prog w A.in1.in1 (fun _ _=>False) {s with heap:=aEy h1 vs,toks:=tk} κ U blt/\
   ∀arr:Array Keyed,arr.Perm (pairsOf vs)->Srt blt arr 0 (pairsOf vs).size->Q (.ref h1.objs.size) {s with heap:=aEz h1 vs (arr.map (·.2)),toks:=tk})
  (h1:∀h1 tk,(∀b o,s.heap.get? b=some o->h1.get? b=some o)->s.heap.objs.size<=h1.objs.size->vs.length<2->Q (.ref h1.objs.size) {s with heap:=aEz h1 vs ((pairsOf vs).map (·.2)),toks:=tk}) :
  wpAny (model prog w) A (call (.builtin "sorted") [v]) Q E s:=by
 refine Calls.call_function_entry kind_sorted plain_sorted entry_sorted (args_sorted1 _) ?_;unfold Builtin.«sorted»;refine wpAny_bind (m:=checkCount "sorted" 1 1 _) (wpAny_pure ?_);refine wpAny_bind (hcol _ _ fun hh tk kp hle=>?_);refine wpAny_bind (wpAny_newList ?_ hn);have hoL:(hh.push (seqObj "list" vs.toArray 0)).get? hh.objs.size=some (seqObj "list" vs.toArray 0):=Heap.get?_push_size _ rfl;show wpAny _ _ _ _ _ {s with heap:=hh.push (seqObj "list" vs.toArray 0),toks:=tk};refine wpAny_bind (wpAny_holding (wpAny_call_entry slot_list_sort ⟨_,hoL,rfl⟩ entry_list_sort ?body (args_list_sort _)))
 case body=>
  refine wpAny_mono (yV (s:={s with heap:=hh.push (seqObj "list" vs.toArray 0),toks:=tk}) (E:=fun _ _=>False) (P:=fun f s'=>∃v,f=.done (.ret v)/\v=Value.none/\Q (.ref hh.objs.size) s') hoL hn (fun h2=>?_) (fun h2=>⟨_,rfl,rfl,h1 hh tk kp hle h2⟩)) (fun f s' h=>?_) fun _ _ z=>False.elim z
  ·obtain ⟨κ,U,blt,O,hU,hkk,hL,fin⟩:=hk hh tk kp hle h2;exact ⟨κ,U,blt,O,hU,hkk,hL,fun arr p z=>⟨_,rfl,rfl,fin arr p z⟩⟩
  ·obtain ⟨v,rfl,rfl,q⟩:=h;exact ⟨_,rfl,wpAny_pure ⟨_,rfl,q⟩⟩
end TS
end
section
namespace Mi
open PySem L2 PySem.SeqAt
open PyProof.Rows (Keyed lt' keyLt' oneLt' SortKind SortSt kindOf tuples' oneType' pairsOf wpS wpS_bind wpS_pure wpS_get wpS_lift keyKind')
variable [KFrag]
noncomputable def nP (H:Hp) (u:Value):D:=by
 classical
 exact if h:∃d,d.plain=true/\d.cG aZ=true/\∃v,RelV v u/\Rep All H v d then Classical.choose h else .non
theorem t6 {H:Hp} {u:Value} {v:V} {d:D} (hp:d.plain=true) (hq:d.cG aZ=true) (rv:RelV v u) (r:Rep All H v d):nP H u=d:=by
 unfold nP;have h:∃d,d.plain=true/\d.cG aZ=true/\∃v,RelV v u/\Rep All H v d:=⟨d,hp,hq,v,rv,r⟩
 rw [dif_pos h];obtain ⟨h1,h2,v',rv',r'⟩:=Classical.choose_spec h;have:=rv'.inj rv;subst this;exact Rep.inj aZ h2 hq r' r
theorem gG {ds:List D} (h:bI ds=true) {a:D} (ha:a∈ds):a.plain=true/\a.cG aZ=true/\gK a≠0/\gK a=gK (ds.headD .non)/\∀b∈ds,∃k,fG .lt a b=some k:=by
 unfold bI at h;have:=List.all_eq_true.mp h a ha;simp only [Bool.and_eq_true,bne_iff_ne,beq_iff_eq] at this;obtain ⟨⟨⟨⟨h1,h2⟩,h3⟩,h4⟩,h5⟩:=this;refine ⟨h1,h2,h3,h4,fun b hb=>Option.isSome_iff_exists.mp (List.all_eq_true.mp h5 b hb)⟩
theorem aG7 {ds:List D} (h:bI ds=true) {a b:D} (ha:a∈ds) (hb:b∈ds):fG .lt a b=some (decide (enc a<enc b)):=by
 obtain ⟨p1,_,_,_,q⟩:=gG h ha;obtain ⟨p2,_⟩:=gG h hb;obtain ⟨k,hk⟩:=q b hb;rw [hk,yS a b k p1 p2 hk]
noncomputable def sU (H:Hp) (ds:List D) (k:Keyed):Prop:=∃v d,RelV v k.1/\Rep All H v d/\d∈ds
def sLt (H:Hp) (x y:Keyed):Bool:=decide (enc (nP H x.1)<enc (nP H y.1))
theorem aK0 (H:Hp) (ds:List D):TS.Ord (sU H ds) (sLt H):=by
 refine ⟨fun x _=>?_,fun x y z _ _ _ h1 h2=>?_,fun x y z _ _ _ h=>?_⟩
 ·simp [sLt,List.lt_irrefl]
 ·simp only [sLt,decide_eq_true_eq] at *;exact List.lt_trans h1 h2
 ·simp only [sLt,decide_eq_true_eq] at *;by_cases q:enc (nP H x.1)<enc (nP H y.1)
  ·exact .inl q
  ·exact .inr (List.lt_of_le_of_lt (List.not_lt.mp q) h)
section
variable {X:Cx} {pins:List (Addr×Obj)} {σ:L2.St} {H:Hp} {s:Shared}
open PySem.W in
theorem yW {prog:Program} {w:World} {A:Around} {b k:Bool} {n1 n2:Nat} {Q:Bool->Shared->Prop}:∀(vs ws:List Value) (xs ys:List D) (i:Nat),(b&&i==0)=false->C2 .lt A s vs ws xs ys->eE .lt xs ys=some k->xs.length+n2=ys.length+n1->Q k s->
  KatLex prog w A b (decide (n1<n2)) Q (vs.zip ws) i s
 | [],ws,xs,ys,i,_,hC,hk,hf,q=>by
  have:xs=[]:=List.eq_nil_of_length_eq_zero hC.1.symm;subst this;rw [List.zip_nil_left];rw [eE] at hk;have e:k=decide (n1<n2):=by
   rw [<-Option.some.inj hk];simp only [jE.nat,List.length_nil] at hf ⊢
   congr 1
   simp only [eq_iff_iff];lia
  rw [<-e];exact q
 | v::vs,[],xs,ys,i,_,hC,hk,hf,q=>by
  have:ys=[]:=List.eq_nil_of_length_eq_zero hC.2.1.symm;subst this;rw [List.zip_nil_right];cases xs with
  | nil=>exact absurd hC.1 (by simp)
  | cons x xs=>
   rw [eE] at hk;have e:k=decide (n1<n2):=by
    rw [<-Option.some.inj hk];simp only [jE.nat,List.length_nil,List.length_cons] at hf ⊢
    congr 1
    simp only [eq_iff_iff];lia
   rw [<-e];exact q
 | v::vs,w'::ws,[],ys,i,_,hC,hk,hf,q=>absurd hC.1 (by simp)
 | v::vs,w'::ws,x::xs,[],i,_,hC,hk,hf,q=>absurd hC.2.1 (by simp)
 | v::vs,w'::ws,x::xs,y::ys,i,hi,hC,hk,hf,q=>by
  rw [List.zip_cons_cons];obtain ⟨he,hlt⟩:=hC.2.2 0 _ _ _ _ rfl rfl rfl rfl;rw [eE] at hk;refine kat_cons (he prog w _ _ ?_);cases e:eqD x y with
  | true=>
   rw [e,if_pos rfl] at hk;exact kat_yes (yW vs ws xs ys (i+1) (by simp) hC.tail hk (by simp only [List.length_cons] at hf;lia) q)
  | false=>
   rw [e,if_neg (by simp)] at hk;refine kat_no ?_;rw [hi];exact kat_one _ _ (hlt e k hk prog w _ _ q)
theorem aIh (I:Inv X pins σ H s) {A:Around} {n:Nat} (hu:A.units+n<cLine) {xs ys:List V} {ds es:List D} {its1 its2:List Value} (ha:D.iQ n ds=true) (hb:D.iQ n es=true) (r1:b_ All H xs ds) (r2:b_ All H ys es) (vr1:Vals xs its1) (vr2:Vals ys its2) :
  C2 .lt A s its1 its2 ds es:=by
 refine ⟨by rw [<-vr1.length,r1.length],by rw [<-vr2.length,r2.length],fun j v w x y a1 a2 a3 a4=>?_⟩;obtain ⟨v1,w1,rr1⟩:=r1.get a3;obtain ⟨v2,w2,rr2⟩:=r2.get a4;obtain ⟨u1,k1,l1⟩:=vr1.get w1;obtain ⟨u2,k2,l2⟩:=vr2.get w2;rw [a1] at k1;cases k1;rw [a2] at k2;cases k2;have g1:x.cG n=true:=by
  have:=gR (j:=j) ha (List.getElem?_eq_some_iff.mp a3).1;rwa [List.getD_eq_getElem?_getD,a3] at this
 have g2:y.cG n=true:=by
  have:=gR (j:=j) hb (List.getElem?_eq_some_iff.mp a4).1;rwa [List.getD_eq_getElem?_getD,a4] at this
 exact ⟨(DG I n A hu g1 g2 rr1 rr2 l1 l2).2.2,fun _ k hk=>KD I .lt n A hu g1 g2 rr1 rr2 l1 l2 hk⟩
theorem kind_le (d:D):gK d<=5:=by
 unfold gK;split <;> lia
theorem aDi {d:D} (h:gK d=1):∃i,d=.int i:=by
 unfold gK at h;split at h <;> first|lia|exact ⟨_,rfl⟩
theorem aDj {d:D} (h:gK d=2):∃i,d=.str i:=by
 unfold gK at h;split at h <;> first|lia|exact ⟨_,rfl⟩
theorem aA8 {d:D} (h:gK d=3):∃i r,d=.tup (.int i::r):=by
 unfold gK at h;split at h <;> first|lia|exact ⟨_,_,rfl⟩
theorem aA9 {d:D} (h:gK d=4):∃i r,d=.tup (.str i::r):=by
 unfold gK at h;split at h <;> first|lia|exact ⟨_,_,rfl⟩
theorem aG8 {d:D} (h:gK d=5):∃i r,d=.tup (.tup i::r):=by
 unfold gK at h;split at h <;> first|lia|exact ⟨_,_,rfl⟩
theorem N8 {xs:List V} {ds:List D} {its:List Value} (r:b_ All H xs ds) (vr:Vals xs its) {u:Value} (hu:u∈its):∃v d,RelV v u/\Rep All H v d/\d∈ds:=by
 obtain ⟨j,hj,e⟩:=List.getElem_of_mem hu;have hj':j<ds.length:=by rw [<-r.length,vr.length];exact hj
 obtain ⟨v,h1,h2⟩:=r.get (i:=j) (d:=ds[j]) (by simp [hj']);obtain ⟨u',h3,h4⟩:=vr.get h1;rw [List.getElem?_eq_getElem hj,e] at h3;cases h3;exact ⟨v,_,h4,h2,List.getElem_mem _⟩
open PySem.W in
theorem yX (I:Inv X pins σ H s) {T:Value} {F:D->Prop} (hF:∀(d:D) (v:V) (u:Value),F d->RelV v u->Rep All H v d->Looks (model X.prog X.w) s.heap (typeOf u) T) :
  ∀{xs:List V} {ds:List D} {its:List Value},b_ All H xs ds->Vals xs its->(∀d∈ds,∃f r,d=.tup (f::r)/\F f)->∃fs,KatTups s.heap its fs/\fs.length=its.length/\∀f∈fs,Looks (model X.prog X.w) s.heap (typeOf f) T
 | _,_,_,.nil,.nil,_=>⟨[],.nil,rfl,fun _ h=>by simp at h⟩
 | _,_,_,.cons r t,.cons v vt,h=>by
  obtain ⟨fs,h1,h2,h3⟩:=yX I hF t vt fun d hd=>h d (List.mem_cons_of_mem _ hd)
  obtain ⟨f,rr,rfl,hf⟩:=h _ (List.mem_cons_self ..);obtain ⟨a,ys,rfl,e,rs⟩:=r.gQ;cases v;obtain ⟨its2,vr2,o,ho,hc,n,hd⟩:=iU I e;cases rs with
  | cons r0 rs=>
   cases vr2 with
   | cons v0 vr2=>
    refine ⟨_::fs,.cons ho hc hd rfl h1,by simp [h2],fun g hg=>?_⟩;rcases List.mem_cons.mp hg with rfl|hg
    ·exact hF _ _ _ hf v0 r0
    ·exact h3 g hg
open PySem.W in
theorem V7 (I:Inv X pins σ H s) {A:Around} (hu:A.units+aZ<cLine) {xs:List V} {ds:List D} {its:List Value} (hc:bI ds=true) (r:b_ All H xs ds) (vr:Vals xs its) (h2:2<=its.length) :
  ∃κ:SortKind,(∀Q:SortKind->Shared->Prop,Q κ s->wpAny (model X.prog X.w) A (keyKind' its.toArray) Q (fun _ _=>False) s)/\
   ∀(x y:Keyed) (Q:Bool->Shared->Prop),sU H ds x->sU H ds y->Q (sLt H x y) s->wpAny (model X.prog X.w) A (keyLt' κ x.1 y.1) Q (fun _ _=>False) s:=by
 have hlen:ds.length=its.length:=by rw [<-r.length,vr.length]
 have hkind:∀d∈ds,gK d=gK (ds.headD .non):=fun d hd=>(gG hc hd).2.2.2.1
 have hne:gK (ds.headD .non)≠0:=by
  have hd:ds.headD .non∈ds:=by
   cases ds with
   | nil=>simp at hlen;lia
   | cons d ds=>simp
  exact (gG hc hd).2.2.1
 have lty:∀{x y:Keyed} {v v':V} {d d':D},RelV v x.1->Rep All H v d->d∈ds->RelV v' y.1->Rep All H v' d'->d'∈ds->fG .lt d d'=some (sLt H x y):=fun {x y v v' d d'} rv rp hd rv' rp' hd'=>by
  have e1:=t6 (gG hc hd).1 (gG hc hd).2.1 rv rp;have e2:=t6 (gG hc hd').1 (gG hc hd').2.1 rv' rp';rw [aG7 hc hd hd'];unfold sLt;rw [e1,e2]
 -- two tuples whose first items are told by a rule of their own,or by the common one
 have tupl:∀(b:Bool) (x y:Keyed) (Q:Bool->Shared->Prop),sU H ds x->sU H ds y->(∀d∈ds,∃f r,d=.tup (f::r))->
   (b=true->∀(f g:D) (v v':V) (u u':Value) (k:Bool) (Q:Bool->Shared->Prop),(∃r,D.tup (f::r)∈ds)->(∃r,D.tup (g::r)∈ds)->RelV v u->Rep All H v f->RelV v' u'->Rep All H v' g->fG .lt f g=some k->Q k s->wpAny (model X.prog X.w) A (oneLt' true u u') Q (fun _ _=>False) s)->
   Q (sLt H x y) s->wpAny (model X.prog X.w) A (keyLt' (tuples' b) x.1 y.1) Q (fun _ _=>False) s:=by
  rintro b ⟨x1,x2⟩ ⟨y1,y2⟩ Q ⟨v,d,rv,rp,hd⟩ ⟨v',d',rv',rp',hd'⟩ htup hone q;have hk:=lty rv rp hd rv' rp' hd';have q1:=(gG hc hd).2.1;have q2:=(gG hc hd').2.1;obtain ⟨f,rr,rfl⟩:=htup d hd;obtain ⟨g,rr',rfl⟩:=htup d' hd';obtain ⟨a,ys,rfl,e,rs⟩:=rp.gQ;obtain ⟨a',ys',rfl,e',rs'⟩:=rp'.gQ;cases rv;cases rv';obtain ⟨i1,vr1,o1,ho1,hc1,n1,hd1⟩:=iU I e;obtain ⟨i2,vr2,o2,ho2,hc2,n2,hd2⟩:=iU I e';rw [fG] at hk;have q1':D.iQ 11 (f::rr)=true:=by rw [show aZ=11+1 from rfl,D.cG] at q1;exact q1
  have q2':D.iQ 11 (g::rr')=true:=by rw [show aZ=11+1 from rfl,D.cG] at q2;exact q2
  have hu':A.units+11<cLine:=by have:A.units+12<cLine:=hu;lia
  have C:=aIh I hu' q1' q2' rs rs' vr1 vr2;refine kat_lt ho1 hd1 ho2 hd2 ?_;have z1:i1.toArray.size=(f::rr).length:=by rw [List.size_toArray,<-vr1.length,rs.length]
  have z2:i2.toArray.size=(g::rr').length:=by rw [List.size_toArray,<-vr2.length,rs'.length]
  rw [List.toList_toArray,List.toList_toArray,z1,z2];cases b with
  | false=>exact yW i1 i2 (f::rr) (g::rr') 0 rfl C hk (by lia) q
  | true=>
   cases rs with
   | cons r0 rs=>
    cases rs' with
    | cons r0' rs'=>
     cases vr1 with
     | cons v0 vr1=>
      cases vr2 with
      | cons v0' vr2=>
       rw [List.zip_cons_cons];obtain ⟨he,_⟩:=C.2.2 0 _ _ _ _ rfl rfl rfl rfl;rw [eE] at hk;refine kat_cons (he X.prog X.w _ _ ?_);cases e0:eqD f g with
       | true=>
        rw [e0,if_pos rfl] at hk;exact kat_yes (yW _ _ rr rr' 1 (by simp) C.tail hk (by simp only [List.length_cons];lia) q)
       | false=>
        rw [e0,if_neg (by simp)] at hk;refine kat_no ?_;exact hone rfl f g _ _ _ _ _ Q ⟨_,hd⟩ ⟨_,hd'⟩ v0 r0 v0' r0' hk q
 have h5:=kind_le (ds.headD .non);have cases5:gK (ds.headD .non)=1\/gK (ds.headD .non)=2\/gK (ds.headD .non)=3\/gK (ds.headD .non)=4\/gK (ds.headD .non)=5:=by lia
 rcases cases5 with c|c|c|c|c
 ·refine ⟨oneType',fun Q q=>kas_kind (T:=.type "int") h2 (fun u hm=>?_) (by decide) (by decide) q,fun x y Q hx hy q=>?_⟩
  ·obtain ⟨v,d,rv,rp,hd⟩:=N8 r vr hm;obtain ⟨i,rfl⟩:=aDi ((hkind d hd).trans c);cases rp;obtain ⟨t,rfl⟩:=rv;exact Looks.of_pure rfl
  ·obtain ⟨v,d,rv,rp,hd⟩:=hx;obtain ⟨v',d',rv',rp',hd'⟩:=hy;have hk:=lty rv rp hd rv' rp' hd';obtain ⟨i,rfl⟩:=aDi ((hkind d hd).trans c);obtain ⟨j,rfl⟩:=aDi ((hkind d' hd').trans c);cases rp;cases rp';obtain ⟨t,e1⟩:=rv;obtain ⟨t',e2⟩:=rv';rw [fG] at hk;rw [<-Option.some.inj hk] at q;rw [e1,e2,PyProof.Rows.keyLt'_oneType];exact PyProof.Rows.oneLt_int q
 ·refine ⟨oneType',fun Q q=>kas_kind (T:=.type "str") h2 (fun u hm=>?_) (by decide) (by decide) q,fun x y Q hx hy q=>?_⟩
  ·obtain ⟨v,d,rv,rp,hd⟩:=N8 r vr hm;obtain ⟨i,rfl⟩:=aDj ((hkind d hd).trans c);cases rp;obtain ⟨t,rfl⟩:=rv;exact Looks.of_pure rfl
  ·obtain ⟨v,d,rv,rp,hd⟩:=hx;obtain ⟨v',d',rv',rp',hd'⟩:=hy;have hk:=lty rv rp hd rv' rp' hd';obtain ⟨i,rfl⟩:=aDj ((hkind d hd).trans c);obtain ⟨j,rfl⟩:=aDj ((hkind d' hd').trans c);cases rp;cases rp';obtain ⟨t,e1⟩:=rv;obtain ⟨t',e2⟩:=rv';rw [fG] at hk;rw [<-Option.some.inj hk] at q;rw [e1,e2,PyProof.Rows.keyLt'_oneType];exact PyProof.Rows.oneLt_str q
 ·obtain ⟨fs,t1,t2,t3⟩:=yX I (T:=.type "int") (F:=fun f=>∃i,f=.int i) (fun d v u hf rv rp=>by
   obtain ⟨i,rfl⟩:=hf;cases rp;obtain ⟨t,rfl⟩:=rv;exact Looks.of_pure rfl) r vr (fun d hd=>by
   obtain ⟨i,rr,rfl⟩:=aA8 ((hkind d hd).trans c);exact ⟨_,_,rfl,i,rfl⟩)
  refine ⟨tuples' true,fun Q q=>kat_kind (T:=.type "int") t1 (by lia) t3 (by decide) q,fun x y Q hx hy q=>tupl true x y Q hx hy (fun d hd=>?_) (fun _ f g v v' u u' k Q hf hg rv rp rv' rp' hk q=>?_) q⟩
  ·obtain ⟨i,rr,rfl⟩:=aA8 ((hkind d hd).trans c);exact ⟨_,_,rfl⟩
  ·obtain ⟨r1,hf⟩:=hf;obtain ⟨r2,hg⟩:=hg;obtain ⟨i,rr,e1⟩:=aA8 ((hkind _ hf).trans c);obtain ⟨j,rr',e2⟩:=aA8 ((hkind _ hg).trans c);cases e1;cases e2;cases rp;cases rp';obtain ⟨t,rfl⟩:=rv;obtain ⟨t',rfl⟩:=rv';rw [fG] at hk;rw [<-Option.some.inj hk] at q;exact PyProof.Rows.oneLt_int q
 ·obtain ⟨fs,t1,t2,t3⟩:=yX I (T:=.type "str") (F:=fun f=>∃i,f=.str i) (fun d v u hf rv rp=>by
   obtain ⟨i,rfl⟩:=hf;cases rp;obtain ⟨t,rfl⟩:=rv;exact Looks.of_pure rfl) r vr (fun d hd=>by
   obtain ⟨i,rr,rfl⟩:=aA9 ((hkind d hd).trans c);exact ⟨_,_,rfl,i,rfl⟩)
  refine ⟨tuples' true,fun Q q=>kat_kind (T:=.type "str") t1 (by lia) t3 (by decide) q,fun x y Q hx hy q=>tupl true x y Q hx hy (fun d hd=>?_) (fun _ f g v v' u u' k Q hf hg rv rp rv' rp' hk q=>?_) q⟩
  ·obtain ⟨i,rr,rfl⟩:=aA9 ((hkind d hd).trans c);exact ⟨_,_,rfl⟩
  ·obtain ⟨r1,hf⟩:=hf;obtain ⟨r2,hg⟩:=hg;obtain ⟨i,rr,e1⟩:=aA9 ((hkind _ hf).trans c);obtain ⟨j,rr',e2⟩:=aA9 ((hkind _ hg).trans c);cases e1;cases e2;cases rp;cases rp';obtain ⟨t,rfl⟩:=rv;obtain ⟨t',rfl⟩:=rv';rw [fG] at hk;rw [<-Option.some.inj hk] at q;exact PyProof.Rows.oneLt_str q
 ·obtain ⟨fs,t1,t2,t3⟩:=yX I (T:=.type "tuple") (F:=fun f=>∃i,f=.tup i) (fun d v u hf rv rp=>by
   obtain ⟨i,rfl⟩:=hf;obtain ⟨a,ys,rfl,e,rs⟩:=rp.gQ;cases rv;obtain ⟨i1,vr1,o1,ho1,hc1,n1,hd1⟩:=iU I e;have:=(show Looks (model X.prog X.w) s.heap (typeOf (.ref a)) o1.cls from (Looks.ld ho1).andThen .now)
   rwa [hc1] at this) r vr (fun d hd=>by
   obtain ⟨i,rr,rfl⟩:=aG8 ((hkind d hd).trans c);exact ⟨_,_,rfl,i,rfl⟩)
  refine ⟨tuples' false,fun Q q=>kat_kind (T:=.type "tuple") t1 (by lia) t3 (by decide) q,fun x y Q hx hy q=>tupl false x y Q hx hy (fun d hd=>?_) (fun h=>by cases h) q⟩;obtain ⟨i,rr,rfl⟩:=aG8 ((hkind d hd).trans c);exact ⟨_,_,rfl⟩
theorem aDk (I:Inv X pins σ H s) {A:Around} {ds:List D} {κ:SortKind} (h:∀(x y:Keyed) (Q:Bool->Shared->Prop),sU H ds x->sU H ds y->Q (sLt H x y) s->wpAny (model X.prog X.w) A (keyLt' κ x.1 y.1) Q (fun _ _=>False) s) :
  TS.Q9 X.prog X.w A (fun _ _=>False) s κ (sU H ds) (sLt H):=by
 intro x y st Q hx hy hk q;rw [PyProof.Rows.lt'_eq];refine wpS_bind (wpS_get ?_);rw [hk];refine wpS_bind (wpS_lift (wpAny_attempt (wpAny_mono (h x y (fun b s'=>s'=s/\b=sLt H x y) hx hy ⟨rfl,rfl⟩) (fun b s' ⟨e1,e2⟩=>⟨e1,?_⟩) fun _ _ z=>False.elim z)));subst e2;exact wpS_pure q
theorem mQ {Q:VK} {v:Value} {its:List Value} {xs:List V} {ds:List D} (I:Inv X pins σ H s) (hu:X.A.units+20<cLine) (vr:Vals xs its) (hn:its.length<=sizeLine) (r:b_ All H xs ds) (hc:bI ds=true)
  (hcol:∀(Q':List Value->Shared->Prop) (E':Value->Shared->Prop),(∀h1 tk,(∀b o,s.heap.get? b=some o->h1.get? b=some o)->s.heap.objs.size<=h1.objs.size->Q' its {s with heap:=h1,toks:=tk})->wpAny (model X.prog X.w) X.A.in1 (collect v) Q' E' s)
  (q:∀p xs',H p=none->b_ All H xs' (iR ds)->Q (.ref p) (upd H p (.lst xs'))):wpAny (model X.prog X.w) X.A (call (.builtin "sorted") [v]) (EP X pins σ Q) X.xe s:=by
 have hz:xs.length<=sizeLine:=by rw [vr.length];exact hn
 -- what comes,told by its data
 have fin:∀(h1:Heap) (tk:Nat),(∀b o,s.heap.get? b=some o->h1.get? b=some o)->s.heap.objs.size<=h1.objs.size->∀arr:Array Keyed,arr.Perm (pairsOf its)->(∀i j,i<=j->j<arr.size->leE (nP H (TS.gt arr i).1) (nP H (TS.gt arr j).1)=true)->EP X pins σ Q (.ref h1.objs.size) {s with heap:=TS.aEz h1 its (arr.map (·.2)),toks:=tk}:=by
  intro h1' tk kp hle arr hp hs;have hpl:arr.toList.Perm (its.zip its):=by rw [<-PyProof.Rows.pairsOf_toList];exact Array.perm_iff_toList_perm.mp hp
  have hmem:∀p∈arr.toList,p.1=p.2/\p.1∈its:=fun p hp'=>PyProof.Rows.mem_zip_self (hpl.mem_iff.mp hp')
  have e1:(arr.map (·.2)).toList=arr.toList.map (·.1):=by
   rw [Array.toList_map];exact List.map_congr_left fun p hp'=>(hmem p hp').1.symm
  -- the values and their data
  have all:∀l:List Keyed,(∀p∈l,p∈arr.toList)->∃ys,Vals ys (l.map (·.1))/\b_ All H ys (l.map fun p=>nP H p.1):=by
   intro l;induction l with
   | nil=>intro _;exact ⟨[],.nil,.nil⟩
   | cons p l ih=>
    intro h;obtain ⟨ys,h1,h2⟩:=ih fun p hp'=>h p (List.mem_cons_of_mem _ hp')
    obtain ⟨v,d,rv,rp,hd⟩:=N8 r vr (hmem p (h p (List.mem_cons_self ..))).2;refine ⟨v::ys,.cons rv h1,?_⟩;rw [List.map_cons,t6 (gG hc hd).1 (gG hc hd).2.1 rv rp];exact .cons rp h2
  obtain ⟨ys,h1,h2⟩:=all arr.toList fun _ h=>h
  have dats:its.map (nP H)=ds:=by
   clear all h1 h2 hp hs hpl hmem e1;have:∀{xs:List V} {es:List D} {us:List Value},b_ All H xs es->Vals xs us->(∀d∈es,d∈ds)->us.map (nP H)=es:=by
    intro xs es us r;induction us generalizing xs es with
    | nil=>intro v _;cases v;cases r;rfl
    | cons u us ih=>
     intro v hsub;cases v with
     | cons v0 vt=>
      cases r with
      | cons r0 rt=>
       have hd:=hsub _ (List.mem_cons_self ..);rw [List.map_cons,ih rt vt fun d hd=>hsub d (List.mem_cons_of_mem _ hd),t6 (gG hc hd).1 (gG hc hd).2.1 v0 r0]
   exact this r vr fun _ h=>h
  have hperm:(arr.toList.map fun p=>nP H p.1).Perm ds:=by
   have:=hpl.map fun p=>nP H p.1
   have e2:(its.zip its).map (fun p=>nP H p.1)=ds:=by
    have:(its.zip its).map (fun p=>nP H p.1)=((its.zip its).map Prod.fst).map (nP H):=by rw [List.map_map];rfl
    rw [this,List.map_fst_zip (Nat.le_refl _),dats]
   rwa [e2] at this
  have hsorted:(arr.toList.map fun p=>nP H p.1).Pairwise fun a b=>leE a b=true:=by
   rw [List.pairwise_map,List.pairwise_iff_getElem];intro i j hi hj hij;have:=hs i j (Nat.le_of_lt hij) (by simpa using hj);have g:∀k (hk:k<arr.toList.length),TS.gt arr k=arr.toList[k]:=fun k hk=>by
    unfold TS.gt;have hk':k<arr.size:=by simpa using hk
    simp [Array.getD,hk']
   rwa [g i hi,g j hj] at this
  have eq:(arr.toList.map fun p=>nP H p.1)=iR ds:=by
   refine uQ (fun d hd=>?_) (hperm.trans (dW ds).symm) hsorted (j9 ds);exact (gG hc (hperm.mem_iff.mp hd)).1
  rw [eq] at h2;rw [<-e1] at h1;have hfr:H h1'.objs.size=none:=I.hok.fresh hle;obtain ⟨ee,he⟩:=TS.aDh h1' its (arr.map (·.2));refine ⟨.ref h1'.objs.size,_,I.laid (t':=tk) (fun b o e=>TS.aA7 (kp b o e)) hle ?_,rfl,q _ ys hfr h2⟩;refine ⟨?_,(arr.map (·.2)).toList,ee,h1,by rw [he]⟩;rw [h2.length,(dW ds).length_eq,<-r.length];exact hz
 refine TS.RM hn hcol (fun hh tk kp hle h2=>?_) (fun hh tk kp hle h2=>?_)
 ·have I':Inv X pins σ H {s with heap:=TS.aEy hh its,toks:=tk}:=I.kept (t':=tk) fun b o e=>TS.aA6 (kp b o e)
  have hu2:X.A.in1.in1.units+aZ<cLine:=by show X.A.units+1+1+12<cLine;lia
  obtain ⟨κ,k1,k2⟩:=V7 I' hu2 hc r vr h2;refine ⟨κ,sU H ds,sLt H,aK0 H ds,fun i hi=>?_,k1,aDk I' k2,fun arr p z=>fin hh tk kp hle arr p fun i j a1 a2=>?_⟩
  ·rw [PyProof.Rows.pairsOf_size] at hi;have e:TS.gt (pairsOf its) i=(its[i],its[i]):=by
    unfold TS.gt pairsOf;simp [Array.getD,hi]
   rw [e];exact N8 r vr (List.getElem_mem hi)
  ·have:=z i j (Nat.zero_le _) a1 (by rw [<-p.size_eq];exact a2);unfold leE;unfold sLt at this;rw [this];rfl
 ·refine fin hh tk kp hle _ (Array.Perm.refl _) fun i j a1 a2=>?_
  rw [PyProof.Rows.pairsOf_size] at a2;rw [show i=j by lia];simp [leE,List.lt_irrefl]
theorem RN {Q:VK} {l:Addr} {xs:List V} {ds:List D} (I:Inv X pins σ H s) (hu:X.A.units+20<cLine) (hl:SqL X.K H l xs) (r:b_ All H xs ds) (hc:bI ds=true)
  (q:∀p xs',H p=none->b_ All H xs' (iR ds)->Q (.ref p) (upd H p (.lst xs'))):wpAny (model X.prog X.w) X.A (call (.builtin "sorted") [.ref l]) (EP X pins σ Q) X.xe s:=by
 obtain ⟨its,vr,pl,hz⟩:=I.list hl;have hn:its.length<=sizeLine:=by rw [<-vr.length];exact hz
 refine mQ I hu vr hn r hc (fun Q' E' h=>PyProof.Rows.collect_list pl.isList (h _ s.toks (fun b o e=>?_) ?_) hn) q
 ·rw [Heap.get?_update_ne _ _ _ _ (Nat.ne_of_lt (Heap.lt_size e))];exact Heap.get?_push_of_some _ e
 ·rw [Heap.size_update,PyProof.Rows.size_push'];exact Nat.le_succ _
end
end Mi
end
section
namespace Mi
open PySem L2 PySem.SeqAt PySem.Spec PyProof.Rows
variable [KFrag]
noncomputable def kR (H:Hp) (d:D) (fr:Bool) (Q:VK):Prop:=∀v H',cZ H H'->Rep All H' v d->(fr=true->Rep (New H) H' v d)->Q v H'
def gE (f:FE) (fr:Bool):TE:=fun σ H Q=>∃ρ d,ER H σ ρ/\f ρ=.ok d/\kR H d fr Q
def gT (f:FT):TT:=fun σ H Q=>∃ρ b,ER H σ ρ/\f ρ=.ok b/\∀H',cZ H H'->Q b H'
noncomputable def gA (f:FA) (fr:Bool):TA:=fun σ H Q=>∃ρ ds,ER H σ ρ/\f ρ=.ok ds/\∀vs H',cZ H H'->b_ All H' vs ds->(fr=true->b_ (New H) H' vs ds)->Q vs H'
theorem kR.self {H:Hp} {d:D} {fr:Bool} {Q:VK} {v:V} (q:kR H d fr Q) (r:Rep All H v d) (r2:fr=true->Rep (New H) H v d):Q v H:=q v H (cZ.refl H) r r2
theorem kR.pure {H:Hp} {d:D} {fr:Bool} {Q:VK} {v:V} (q:kR H d fr Q) (r:Rep All H v d) (hp:d.pure=true):Q v H:=q v H (cZ.refl H) r fun _=>r.cC hp
theorem kR.imp {H H':Hp} {d:D} {fr fr':Bool} {Q:VK} (q:kR H d fr Q) (s:cZ H H') (h:fr=true->fr'=true):kR H' d fr' Q:=fun v H2 s2 r n=>q v H2 (s.trans s2) r fun hf=>(n (h hf)).mono (cZ.new s)
theorem kR.int {H:Hp} {i:Int} {fr:Bool} {Q:VK} (q:kR H (.int i) fr Q):Q (.int i) H:=q.self (.int i) fun _=>.int i
theorem kR.bl {H:Hp} {i:Bool} {fr:Bool} {Q:VK} (q:kR H (.bl i) fr Q):Q (.bl i) H:=q.self (.bl i) fun _=>.bl i
theorem kR.str {H:Hp} {i:Str} {fr:Bool} {Q:VK} (q:kR H (.str i) fr Q):Q (.str i) H:=q.self (.str i) fun _=>.str i
noncomputable def r2 (f:D->D->Res D) (fr:Bool):R2:=fun x y H Q=>∃a b d,Rep All H x a/\Rep All H y b/\f a b=.ok d/\kR H d fr Q
noncomputable def r1 (f:D->Res D) (fr:Bool):V->Hp->VK->Prop:=fun x H Q=>∃a d,Rep All H x a/\f a=.ok d/\kR H d fr Q
noncomputable def rs (f:List D->Res D) (fr:Bool):List V->Hp->VK->Prop:=fun xs H Q=>∃ds d,b_ All H xs ds/\f ds=.ok d/\kR H d fr Q
theorem bO {α β:Type} {m:Res α} {f:α->Res β} {b:β} (h:(do let x <- m;f x)=.ok b):∃a,m=.ok a/\f a=.ok b:=Res.aDd h
section
variable {X:Cx} {a b c e:Expr} {pos:Pos} {fa fb fc fe:FE} {ra rb rc re:Bool} {ga gb gc:FT}
theorem ER.var {H:Hp} {σ:L2.St} {ρ:List D} {i:Nat} {d:D} (E:ER H σ ρ) (h:jX i ρ=.ok d):∃v,σ[i]?=some (some v)/\Rep All H v d/\ρ.getD i .uD=d:=by
 have:ρ.getD i .uD=d/\d≠.uD:=by
  unfold jX at h;split at h
  ·cases h
  ·cases h;refine ⟨rfl,fun z=>?_⟩;rename_i q;exact q z
 obtain ⟨e1,e2⟩:=this;obtain ⟨v,h1,h2⟩:=E i (by rw [e1];exact e2);exact ⟨v,h1,by rw [e1] at h2;exact h2,e1⟩
theorem aB {i:Nat} {x:Str} (hN:X.N[i]?=some x:=by exact rfl) (hv:Vis X.env.scope x:=by trivial) (hd:nDb x:=by decide) (hcd:nCd x:=by decide):PE X (.Name x pos) (gE (jX i) false):=
 PE.imp (nT hN hv hd hcd) fun σ H Q ⟨ρ,d,E,h,q⟩=>by
  obtain ⟨v,h1,h2,_⟩:=E.var h;exact ⟨v,h1,q.self h2 (fun z=>by cases z)⟩
theorem aJ {i j}:PE X (.Constant (.int i) j pos) (gE (bC (.int i)) true):=PE.imp aF6 fun σ H Q ⟨ρ,d,E,h,q⟩=>by cases h;exact q.int
theorem tQ {i j}:PE X (.Constant (.bool i) j pos) (gE (bC (.bl i)) true):=PE.imp aF7 fun σ H Q ⟨ρ,d,E,h,q⟩=>by cases h;exact q.bl
theorem aBz {i j}:PE X (.Constant (.str i) j pos) (gE (bC (.str i)) true):=PE.imp aBo fun σ H Q ⟨ρ,d,E,h,q⟩=>by cases h;exact q.str
theorem two {f:D->D->Res D} {fr:Bool} {σ:L2.St} {H:Hp} {Q:VK} (h:gE (b2 f fa fb) fr σ H Q):tOp (r2 f fr) (gE fa ra) (gE fb rb) σ H Q:=by
 obtain ⟨ρ,d,E,h,q⟩:=h;obtain ⟨x,h1,h⟩:=bO h;obtain ⟨y,h2,h⟩:=bO h;refine ⟨ρ,x,E,h1,fun v H1 s1 rp1 _=>⟨ρ,y,E.same s1,h2,fun u H2 s2 rp2 _=>⟨x,y,d,rp1.same s2,rp2,h,q.imp (s1.trans s2) id⟩⟩⟩
theorem aX {o:Operator} {f:D->D->Res D} {fr:Bool} (ho:OpR X (binaryOp o) (r2 f fr)) (ha:PE X a (gE fa ra)) (hb:PE X b (gE fb rb)):PE X (.BinOp a o b pos) (gE (b2 f fa fb) fr):=PE.imp (aI1 ho ha hb) fun _ _ _=>two
theorem wX {o:CmpOp} {f:D->D->Res D} {fr:Bool} (ho:OpR X (compareOp o) (r2 f fr)) (ha:PE X a (gE fa ra)) (hb:PE X b (gE fb rb)) (hm:behindInMarks o b=false):PE X (.Compare a [o] [b] pos) (gE (b2 f fa fb) fr):=PE.imp (aCx ho ha hb hm) fun _ _ _=>two
theorem bZ {o:CmpOp} {f:D->D->Res D} {fr:Bool} (ho:OpR X (compareOp o) (r2 f fr)) (ha:PE X a (gE fa ra)) (hb:PE X b (gE fb rb)) (hm:behindInMarks o b=false):PT X (.Compare a [o] [b] pos) (gT (bTB (b2 f fa fb))):=
 PT.imp (aCy ho ha hb hm) fun σ H Q ⟨ρ,k,E,h,q⟩=>by
  obtain ⟨d,h1,h2⟩:=bO h;refine two ⟨ρ,d,E,h1,fun v H' s r _=>?_⟩;cases d <;> simp only [asB] at h2 <;> cases h2
  cases r;exact ⟨_,rfl,q H' s⟩
theorem KH {o:UnaryOp} {f:D->Res D} {fr:Bool} (ho:UnR X (unaryOp o) (r1 f fr)) (ha:PE X a (gE fa ra)):PE X (.UnaryOp o a pos) (gE (b1 f fa) fr):=
 PE.imp (aI2 ho ha) fun σ H Q ⟨ρ,d,E,h,q⟩=>by
  obtain ⟨x,h1,h⟩:=bO h;exact ⟨ρ,x,E,h1,fun v H1 s1 rp1 _=>⟨x,d,rp1,h,q.imp s1 id⟩⟩
theorem bW {f:D->D->Res D} {fr:Bool} (ho:IxR X (r2 f fr)) (ha:PE X a (gE fa ra)) (hb:PE X b (gE fb rb)) (hs:UV b):PE X (.Subscript a b pos) (gE (b2 f fa fb) fr):=PE.imp (aI9 ho ha hb hs) fun _ _ _=>two
theorem aK1 {H:Hp} {v:V} {d:D} {k:Bool} (r:Rep All H v d) (h:aIf d=.ok k) (hd:∀kvs,d≠.dct kvs) (hs:∀xs,d≠.scr xs):aI4 X.K v H k:=by
 cases r with
 | non=>cases h;rfl
 | bl b=>cases h;rfl
 | int i=>cases h;rfl
 | str x=>
  simp only [aIf] at h;split at h
  ·rename_i hl;cases h;exact ⟨Nat.le_trans (of_decide_eq_true hl) (by rw [sizeLine_eq];decide),rfl⟩
  ·cases h
 | tup e rr=>cases h;exact .inr (.inl ⟨_,.of e,by cases rr <;> rfl⟩)
 | lst e p rr=>cases h;exact .inl ⟨_,.of e,by cases rr <;> rfl⟩
 | frz e rr=>exact absurd rfl (hs _)
 | dK e p rr n=>exact absurd rfl (hd _)
 | dT e p rr n=>exact absurd rfl (hd _)
 | fdK e rr n=>cases h
 | fdT e rr n=>cases h
 | cel e p rr=>cases h
theorem qO (ha:PE X a (gE fa ra)) (he:∀whole,isTrue a X.env whole=(do let v <- whole;standAt a.pos;holding [v] (truthy v)):=by intro _;rfl):PT X a (gT (bTr fa)):=
 PT.imp (ZV ha he) fun σ H Q ⟨ρ,k,E,h,q⟩=>by
  obtain ⟨d,h1,h2⟩:=bO h;refine ⟨ρ,d,E,h1,fun v H' s r _=>⟨k,aK1 r ?_ ?_ ?_,q H' s⟩⟩
  ·cases d <;> first|exact h2|cases h2
  ·rintro kvs rfl;cases h2
  ·rintro kvs rfl;cases h2
theorem qP (ha:PT X a (gT ga)):PT X (.UnaryOp .Not a pos) (gT (CW ga)):=PT.imp (aFa ha) fun σ H Q ⟨ρ,k,E,h,q⟩=>by
  obtain ⟨d,h1,h2⟩:=bO h;cases h2;exact ⟨ρ,d,E,h1,fun H' s=>q H' s⟩
theorem aC0 {op} (ha:PE X a (gE fa ra)):PE X (.BoolOp op [a] pos) (gE fa ra):=aFb ha
theorem V8 {d:D} {k:Bool} (h:asB d=.ok k):d=.bl k:=by cases d <;> simp only [asB] at h <;> cases h;rfl
theorem aG9 {d:D} {k:Int} (h:asI d=.ok k):d=.int k:=by cases d <;> simp only [asI] at h <;> cases h;rfl
theorem aC1 {rest:List Expr} (ha:PE X a (gE fa ra)) (hb:PE X (.BoolOp .And (b::rest) pos) (gE fb rb)):PE X (.BoolOp .And (a::b::rest) pos) (gE (J5 fa fb) rb):=PE.imp (aFc ha hb) fun σ H Q ⟨ρ,k,E,h,q⟩=>by
  obtain ⟨d,h1,h⟩:=bO h;obtain ⟨z,h2,h3⟩:=bO h;cases V8 h2;refine ⟨ρ,_,E,h1,fun v H' s r _=>?_⟩;cases r;refine ⟨_,rfl,?_⟩;cases z with
  | true=>rw [if_pos rfl];rw [if_pos rfl] at h3;exact ⟨ρ,k,E.same s,h3,q.imp s id⟩
  | false=>rw [if_neg (by simp)];rw [if_neg (by simp)] at h3;cases h3;exact (q.imp s id).bl
theorem aF:PA X [] (gA aO true):=PA.imp uB fun σ H Q ⟨ρ,ds,E,h,q⟩=>by cases h;exact q [] H (cZ.refl H) .nil fun _=>.nil
theorem aA {es:List Expr} {f:FA} {r:Bool} (he:PE X e (gE fe re)) (hes:PA X es (gA f r)) (hs:starEach (e::es) X.env=(false,eval e X.env)::starEach es X.env:=by rfl):PA X (e::es) (gA (aC fe f) (re&&r)):=PA.imp (kY he hes hs) fun σ H Q ⟨ρ,ds,E,h,q⟩=>by
  obtain ⟨x,h1,h⟩:=bO h;obtain ⟨xs,h2,h⟩:=bO h;cases h;refine ⟨ρ,x,E,h1,fun v H1 s1 r1 n1=>⟨ρ,xs,E.same s1,h2,fun vs H2 s2 r2 n2=>q _ _ (s1.trans s2) (.cons (r1.same s2) r2) fun hf=>?_⟩⟩;obtain ⟨f1,f2⟩:=(Bool.and_eq_true _ _▸hf:re=true/\r=true)
  exact .cons ((n1 f1).same s2) ((n2 f2).mono (cZ.new s1))
theorem bD {es:List Expr} {f:FA} {r:Bool} {x1} (h:PA X es (gA f r)):PE X (.Tuple es x1 pos) (gE (cJ f) r):=PE.imp (aFp h) fun σ H Q ⟨ρ,d,E,h,q⟩=>by
  obtain ⟨xs,h1,h⟩:=bO h;split at h
  ·rename_i hl;cases h;refine ⟨ρ,xs,E,h1,fun vs H1 s1 r1 n1=>⟨?_,fun p hp=>?_⟩⟩
   ·rw [r1.length];exact Nat.le_trans (of_decide_eq_true hl) (by rw [sizeLine_eq];decide)
   ·have sp:cZ H1 (upd H1 p (.tup vs)):=cZ.upd hp;exact q _ _ (s1.trans sp) (.tup aM (r1.same sp)) fun hf=>.tup aM ((n1 hf).same sp)
  ·cases h
theorem qQ {es:List Expr} {f:FA} {r:Bool} (h:PA X es (gA f r)):PE X (.List es pos) (gE (ZJ f) r):=PE.imp (aBr h) fun σ H Q ⟨ρ,d,E,h,q⟩=>by
  obtain ⟨xs,h1,h⟩:=bO h;split at h
  ·rename_i hl;cases h;refine ⟨ρ,xs,E,h1,fun vs H1 s1 r1 n1=>⟨?_,fun p hp=>?_⟩⟩
   ·rw [r1.length];exact Nat.le_trans (of_decide_eq_true hl) (by rw [sizeLine_eq];decide)
   ·have sp:cZ H1 (upd H1 p (.lst vs)):=cZ.upd hp;exact q _ _ (s1.trans sp) (.lst aM trivial (r1.same sp)) fun hf=>.lst aM (s1.free hp) ((n1 hf).same sp)
  ·cases h
theorem oZ:PE X (.Dict [] [] pos) (gE (bC (.dct [])) true):=PE.imp Z8 fun σ H Q ⟨ρ,d,E,h,q⟩=>by
  cases h;exact fun p hp=>q _ _ (cZ.upd hp) (.dK aM trivial .nil List.nodup_nil) fun _=>.dK aM hp .nil List.nodup_nil
end
end Mi
end
section
namespace Mi
open PySem L2 PySem.SeqAt PySem.Spec PyProof.Rows
variable [KFrag]
section
variable {X:Cx} {a b c e:Expr} {pos:Pos} {fa fb fc fe:FE} {ra rb rc re:Bool} {ga gb gc:FT}
theorem qR {n:Nat} (h:decide (n<=lim)=true):n<=sizeLine:=Nat.le_trans (of_decide_eq_true h) (by rw [sizeLine_eq];decide)
theorem aC2 {n:Nat} (h:decide (n<lim)=true):n<sizeLine:=Nat.lt_of_lt_of_le (of_decide_eq_true h) (by rw [sizeLine_eq];decide)
theorem Rep.aGa {P:Addr->Prop} {H:Hp} {v:V} {ds:List D} (r:Rep P H v (.lst ds)):∃a xs,v=.ref a/\Rd H a (.lst xs)/\b_ P H xs ds:=by
 cases r with
 | lst e p rr=>exact ⟨_,_,rfl,.inl e,rr⟩
theorem PW.imp {X:Cx} {e:PySem.Expr} {t t':TT} (h:PW X e t) (i:∀σ H Q,t' σ H Q->t σ H Q):PW X e t':=fun wh pins s σ H Q I q=>h wh pins s σ H Q I (i σ H Q q)
theorem V9 (ha:PT X a (gT ga)):PW X (.BoolOp .And [a] pos) (gT ga):=aCv ha
theorem aC3 (ha:PT X a (gT ga)):PW X (.BoolOp .Or [a] pos) (gT ga):=aF8 ha
theorem aC4 {rest:List Expr} (ha:PT X a (gT ga)) (hb:PW X (.BoolOp .And (b::rest) pos) (gT gb)):PW X (.BoolOp .And (a::b::rest) pos) (gT (VN ga gb)):=PW.imp (aF9 ha hb) fun σ H Q ⟨ρ,k,E,h,q⟩=>by
 obtain ⟨z,h1,h3⟩:=bO h;refine ⟨ρ,z,E,h1,fun H' s=>?_⟩;cases z with
 | true=>rw [if_pos rfl];rw [if_pos rfl] at h3;exact ⟨ρ,k,E.same s,h3,fun H2 s2=>q H2 (s.trans s2)⟩
 | false=>rw [if_neg (by simp)];rw [if_neg (by simp)] at h3;cases h3;exact q H' s
theorem aGb {rest:List Expr} (ha:PT X a (gT ga)) (hb:PW X (.BoolOp .Or (b::rest) pos) (gT gb)):PW X (.BoolOp .Or (a::b::rest) pos) (gT (bOr ga gb)):=PW.imp (aHu ha hb) fun σ H Q ⟨ρ,k,E,h,q⟩=>by
 obtain ⟨z,h1,h3⟩:=bO h;refine ⟨ρ,z,E,h1,fun H' s=>?_⟩;cases z with
 | true=>rw [if_pos rfl];rw [if_pos rfl] at h3;cases h3;exact q H' s
 | false=>rw [if_neg (by simp)];rw [if_neg (by simp)] at h3;exact ⟨ρ,k,E.same s,h3,fun H2 s2=>q H2 (s.trans s2)⟩
theorem aC5 {f g:D->D->Res D} {r r':Bool} {σ:L2.St} {H:Hp} {Q:VK} (h:gE (bCh f g fa fb fc) r' σ H Q):T_ (r2 f r) (r2 g r') (gE fa ra) (gE fb rb) (gE fc rc) σ H Q:=by
 obtain ⟨ρ,d,E,h,q⟩:=h;obtain ⟨x,h1,h⟩:=bO h;obtain ⟨y,h2,h⟩:=bO h;obtain ⟨z,h3,h⟩:=bO h;obtain ⟨k,h4,h7⟩:=bO h;refine ⟨ρ,x,E,h1,fun v H1 s1 rp1 _=>⟨ρ,y,E.same s1,h2,fun u H2 s2 rp2 _=>⟨x,y,z,rp1.same s2,rp2,h3,fun t H3 s3 rp3 _=>?_⟩⟩⟩;have e:=V8 h4;subst e;cases rp3;refine ⟨k,rfl,?_⟩;have s13:=(s1.trans s2).trans s3;cases k with
 | true=>
  rw [if_pos rfl];rw [if_pos rfl] at h7;obtain ⟨w,h5,h6⟩:=bO h7;exact ⟨ρ,w,E.same s13,h5,fun t H4 s4 rp4 _=>⟨y,w,d,(rp2.same s3).same s4,rp4,h6,q.imp (s13.trans s4) id⟩⟩
 | false=>
  rw [if_neg (by simp)];rw [if_neg (by simp)] at h7;cases h7;exact (q.imp s13 id).bl
theorem N_ {o o':CmpOp} {f g:D->D->Res D} {r r':Bool} (ho:OpR X (compareOp o) (r2 f r)) (ho':OpR X (compareOp o') (r2 g r')) (ha:PE X a (gE fa ra)) (hb:PE X b (gE fb rb)) (hc:PE X c (gE fc rc))
  (hm:lastMarks [o,o'] [b,c]=false:=by with_unfolding_all rfl):PE X (.Compare a [o,o'] [b,c] pos) (gE (bCh f g fa fb fc) r'):=PE.imp (ZR ho ho' ha hb hc hm) fun _ _ _=>aC5
theorem aAa {o o':CmpOp} {f g:D->D->Res D} {r r':Bool} (ho:OpR X (compareOp o) (r2 f r)) (ho':OpR X (compareOp o') (r2 g r')) (ha:PE X a (gE fa ra)) (hb:PE X b (gE fb rb)) (hc:PE X c (gE fc rc))
  (hm:lastMarks [o,o'] [b,c]=false:=by with_unfolding_all rfl):PT X (.Compare a [o,o'] [b,c] pos) (gT (bTB (bCh f g fa fb fc))):=PT.imp (ZS ho ho' ha hb hc hm) fun σ H Q ⟨ρ,k,E,h,q⟩=>by
  obtain ⟨d,h1,h2⟩:=bO h;refine aC5 ⟨ρ,d,E,h1,fun v H' s r _=>?_⟩;have e:=V8 h2;subst e;cases r;exact ⟨_,rfl,q H' s⟩
theorem cD:OpR X (binaryOp .Add) (r2 (aU .add) true):=by
 intro pins s σ H x y v u Q I rx ry h;obtain ⟨a,b,d,p,q,e,k⟩:=h;cases p with
 | int i=>
  cases q with
  | int j=>cases e;exact aFh pins s σ H _ _ v u Q I rx ry ⟨i,j,rfl,rfl,k.int⟩
  | _=>simp [aU] at e
 | str i=>
  cases q with
  | str j=>
   simp only [aU] at e;split at e
   ·rename_i hl;cases e;exact Q3 pins s σ H _ _ v u Q I rx ry ⟨i,j,rfl,rfl,qR hl,k.str⟩
   ·cases e
  | _=>simp [aU] at e
 | non=>simp [aU] at e
 | bl _=>simp [aU] at e
 | tup _ _=>simp [aU] at e
 | dK _ _ _ _=>simp [aU] at e
 | dT _ _ _ _=>simp [aU] at e
 | fdK _ _ _=>simp [aU] at e
 | fdT _ _ _=>simp [aU] at e
 | cel _ _ _=>simp [aU] at e
 | @lst a1 xs ds e1 p1 r1=>
  have hR:Rep All H (.ref a1) (.lst ds):=.lst e1 p1 r1;cases b with
  | lst es=>
   simp only [aU] at e;split at e
   ·rename_i hl;cases e;rw [Bool.and_eq_true,Bool.and_eq_true] at hl;obtain ⟨⟨hl,hp1⟩,hp2⟩:=hl;obtain ⟨l1,xs1,e1',rd1,rr1⟩:=hR.aGa;obtain ⟨l2,xs2,rfl,rd2,rr2⟩:=q.aGa;cases e1';cases rx;cases ry;obtain ⟨z,its,n,vr1,ee1⟩:=rd1.ok I.hok;obtain ⟨z2,its2,n2,vr2,ee2⟩:=rd2.ok I.hok;have hz:xs1.length+xs2.length<=sizeLine:=by rw [rr1.length,rr2.length];exact qR hl
    have t1:=vr1.length;have t2:=vr2.length;refine PySem.P.add_list ee1 ee2 ?_ (by rw [List.size_toArray,List.size_toArray];lia);have ea:its.toArray++its2.toArray=(its++its2).toArray:=by simp
    rw [ea];refine ⟨.ref _,_,I.aJy (t':=s.toks) (vr1.append vr2) (by rw [List.length_append];lia),rfl,?_⟩;have sp:cZ H (upd H s.heap.objs.size (.lst (xs1++xs2))):=cZ.upd I.fresh;exact k _ _ sp (.lst aM trivial ((rr1.append rr2).same sp)) fun _=>.lst aM I.fresh (((rr1.cC hp1).append (rr2.cC hp2)).same sp)
   ·cases e
  | _=>simp [aU] at e
 | frz _ _=>simp [aU] at e
theorem yZ {f:Value->Value->Sem Value} {C:Int->Int->Prop} {g:Int->Int->V} {op:D->D->Res D} (h:OpR X f (rI C g))
  (hi:∀i j d,op (.int i) (.int j)=.ok d->C i j/\∃k,d=.int k/\g i j=.int k) (hn:∀a b d,op a b=.ok d->(∃i,a=.int i)/\∃j,b=.int j):OpR X f (r2 op true):=by
 intro pins s σ H x y v u Q I rx ry ⟨a,b,d,p,q,e,k⟩;obtain ⟨⟨i,rfl⟩,⟨j,rfl⟩⟩:=hn a b d e;cases p;cases q;obtain ⟨hc,m,rfl,hm⟩:=hi i j d e;exact h pins s σ H _ _ v u Q I rx ry ⟨i,j,rfl,rfl,hc,by rw [hm];exact k.int⟩
theorem uT:OpR X (binaryOp .Sub) (r2 (aU .sub) true):=by
 intro pins s σ H x y v u Q I rx ry ⟨a,b,d,p,q,e,k⟩;cases a <;> cases b <;> simp [aU] at e
 cases p;cases q;subst e;exact aFi pins s σ H _ _ v u Q I rx ry ⟨_,_,rfl,rfl,k.int⟩
theorem qT:OpR X (binaryOp .Mult) (r2 (aU .mul) true):=by
 refine yZ aFj (fun i j d e=>?_) fun a b d e=>?_
 ·simp only [aU] at e;split at e
  ·rename_i hl;cases e;refine ⟨?_,_,rfl,rfl⟩;simp only [uN,Bool.or_eq_true,Bool.and_eq_true,decide_eq_true_eq] at hl;exact hl
  ·cases e
 ·cases a <;> cases b <;> first|exact ⟨⟨_,rfl⟩,_,rfl⟩|simp [aU] at e
theorem gH:OpR X (binaryOp .FloorDiv) (r2 (aU .fdiv) true):=by
 refine yZ aCw (fun i j d e=>?_) fun a b d e=>?_
 ·simp only [aU] at e;split at e
  ·rename_i hl;cases e;refine ⟨?_,_,rfl,rfl⟩;simp only [Bool.and_eq_true,decide_eq_true_eq] at hl;exact hl
  ·cases e
 ·cases a <;> cases b <;> first|exact ⟨⟨_,rfl⟩,_,rfl⟩|simp [aU] at e
theorem dN:OpR X (binaryOp .Mod) (r2 (aU .mod) true):=by
 refine yZ aFk (fun i j d e=>?_) fun a b d e=>?_
 ·simp only [aU] at e;split at e
  ·rename_i hl;cases e;refine ⟨?_,_,rfl,rfl⟩;simp only [Bool.and_eq_true,decide_eq_true_eq] at hl;exact hl
  ·cases e
 ·cases a <;> cases b <;> first|exact ⟨⟨_,rfl⟩,_,rfl⟩|simp [aU] at e
theorem OD:OpR X (binaryOp .Pow) (r2 (aU .pow) true):=by
 refine yZ aFl (fun i j d e=>?_) fun a b d e=>?_
 ·simp only [aU] at e;split at e
  ·rename_i hl;cases e;refine ⟨?_,_,rfl,rfl⟩;simp only [Bool.and_eq_true,decide_eq_true_eq] at hl;exact ⟨hl.1.1,hl.1.2,hl.2⟩
  ·cases e
 ·cases a <;> cases b <;> first|exact ⟨⟨_,rfl⟩,_,rfl⟩|simp [aU] at e
theorem uU:UnR X (unaryOp .USub) (r1 S7 true):=by
 intro pins s σ H x v Q I rx ⟨a,d,p,e,k⟩;cases a <;> simp [S7] at e
 subst e;cases p;exact aFm pins s σ H _ v Q I rx ⟨_,rfl,k.int⟩
theorem rZ (hu:X.A.units+20<cLine):OpR X (compareOp .Eq) (r2 (bL .eq) true):=by
 intro pins s σ H x y v u Q I rx ry ⟨a,b,d,p,q,e,k⟩;simp only [bL] at e;split at e
 ·rename_i hl;cases e;rw [Bool.and_eq_true] at hl;exact (DG I aZ X.A (by have:aZ=12:=rfl;lia) hl.1 hl.2 p q rx ry).1 X.prog X.w X.xe _ ⟨.bl _,H,I,rfl,k.bl⟩
 ·cases e
theorem aAb (hu:X.A.units+20<cLine):OpR X (compareOp .NotEq) (r2 (bL .ne) true):=by
 intro pins s σ H x y v u Q I rx ry ⟨a,b,d,p,q,e,k⟩;simp only [bL] at e;split at e
 ·rename_i hl;cases e;rw [Bool.and_eq_true] at hl;exact (DG I aZ X.A (by have:aZ=12:=rfl;lia) hl.1 hl.2 p q rx ry).2.1 X.prog X.w X.xe _ ⟨.bl _,H,I,rfl,k.bl⟩
 ·cases e
theorem V_ (o:jE) (hu:X.A.units+20<cLine):OpR X (compareOp o.op) (r2 (bL (.ord o)) true):=by
 intro pins s σ H x y v u Q I rx ry ⟨a,b,d,p,q,e,k⟩;simp only [bL] at e;split at e
 ·rename_i hl;rw [Bool.and_eq_true] at hl;split at e
  ·rename_i m hm;cases e;have:=KD I o aZ X.A (by have:aZ=12:=rfl;lia) hl.1 hl.2 p q rx ry hm X.prog X.w X.xe _ (show EP X pins σ Q (.bool m) s from ⟨.bl _,H,I,rfl,k.bl⟩);cases o <;> exact this
  ·cases e
 ·cases e
theorem qU (hu:X.A.units+20<cLine):OpR X (compareOp .Lt) (r2 (bL (.ord .lt)) true):=V_ .lt hu
theorem aAc (hu:X.A.units+20<cLine):OpR X (compareOp .LtE) (r2 (bL (.ord .le)) true):=V_ .le hu
theorem RP (hu:X.A.units+20<cLine):OpR X (compareOp .Gt) (r2 (bL (.ord .gt)) true):=V_ .gt hu
end
end Mi
end
section
namespace Mi
open PySem L2 PySem.SeqAt PySem.Spec PyProof.Rows
variable [KFrag]
theorem WD (k q:Key):eqD (kD k) (kD q)=decide (k=q):=by
 cases k <;> cases q <;> simp [kD,eqD,Bool.beq_eq_decide_eq]
theorem aC6:∀(k q:List Key),v4 (k.map kD) (q.map kD)=decide (k=q)
 | [],[]=>by simp [v4]
 | [],_::_=>by simp [v4]
 | _::_,[]=>by simp [v4]
 | a::k,b::q=>by
  rw [List.map_cons,List.map_cons,v4,WD,aC6 k q];by_cases h:a=b <;> by_cases h':k=q <;> simp [h,h']
theorem aDl (k q:List Key):eqD (.tup (k.map kD)) (.tup (q.map kD))=decide (k=q):=by rw [eqD,aC6]
theorem aAd {P:Addr->Prop} {H:Hp} {k:Key}:∀{kvs:List (Key×V)} {ds:List (D×D)},nM P H kvs ds->(∃v d,vZ kvs k=some v/\bN ds (kD k)=some d/\Rep P H v d)\/(vZ kvs k=none/\bN ds (kD k)=none)
 | _,_,.nil=>.inr ⟨rfl,rfl⟩
 | _,_,.cons (k:=k') r t=>by
  by_cases h:k'=k
  ·subst h;exact .inl ⟨_,_,qF rfl,by rw [bN,WD,if_pos (by simp)],r⟩
  ·rw [bN,WD,if_neg (by simpa using h),qG (p:=(k',_)) h];exact aAd t
theorem aDm {P:Addr->Prop} {H:Hp} {k:List Key}:∀{kvs:List (List Key×V)} {ds:List (D×D)},pN P H kvs ds->(∃v d,vZ kvs k=some v/\bN ds (.tup (k.map kD))=some d/\Rep P H v d)\/(vZ kvs k=none/\bN ds (.tup (k.map kD))=none)
 | _,_,.nil=>.inr ⟨rfl,rfl⟩
 | _,_,.cons (k:=k') r t=>by
  by_cases h:k'=k
  ·subst h;exact .inl ⟨_,_,qF rfl,by rw [bN,aDl,if_pos (by simp)],r⟩
  ·rw [bN,aDl,if_neg (by simpa using h),qG (p:=(k',_)) h];exact aDm t
theorem y_ {H:Hp} {v:V} {d:D} (h:yO d=true) (r:Rep All H v d):∃k,v=kV k/\d=kD k:=by
 cases r <;> simp [yO] at h
 ·exact ⟨.inl _,rfl,rfl⟩
 ·exact ⟨.inr _,rfl,rfl⟩
theorem flat_keys {H:Hp}:∀{vs:List V} {ds:List D},ds.all yO=true->b_ All H vs ds->∃ks:List Key,vs=ks.map kV/\ds=ks.map kD
 | _,_,_,.nil=>⟨[],rfl,rfl⟩
 | _,_,h,.cons r t=>by
  rw [List.all_cons,Bool.and_eq_true] at h;obtain ⟨k,rfl,rfl⟩:=y_ h.1 r;obtain ⟨ks,rfl,rfl⟩:=flat_keys h.2 t;exact ⟨k::ks,rfl,rfl⟩
theorem lH {H:Hp} {y:V} {k:D} (h:keyOk k=true) (r:Rep All H y k):(∃q,y=kV q/\k=kD q)\/∃(b:Addr) (ks:List Key),y=.ref b/\H b=some (.tup (ks.map kV))/\k=.tup (ks.map kD):=by
 cases k <;> simp [keyOk] at h
 ·exact .inl (y_ rfl r)
 ·exact .inl (y_ rfl r)
 ·obtain ⟨a,xs,rfl,e,rr⟩:=r.gQ;obtain ⟨ks,rfl,rfl⟩:=flat_keys (List.all_eq_true.mpr h) rr;exact .inr ⟨a,ks,rfl,e,rfl⟩
theorem mR (k:Key):isTup (kD k)=false:=by cases k <;> rfl
section
variable {X:Cx} {pins:List (Addr×Obj)} {σ:L2.St} {H:Hp} {s:Shared} {a:Addr}
theorem zA {o o':HO} (e:H a=some o):upd (upd H a o') a o=H:=by
 rw [JB]
 funext b
 by_cases h:b=a
 ·subst h;rw [aM,e]
 ·rw [bJ h]
theorem o6 (I:Inv X pins σ H s) (e:H a=some (.dK [])):Inv X pins σ (upd H a (.dT [])) s:=by
 obtain ⟨z,hd,vs,rel,o,es,ep,h1,h2,h3,h4,h5,h6⟩:=CN I.hok e;cases rel;refine I.write (t':=s.toks) (x:=a) (e:=a) (h':=s.heap) (by rw [e];trivial) (.inl rfl) (fun _ _ _ q=>q) ⟨o,h1⟩ ?_;refine ⟨Nat.zero_le _,hd,[],.nil,o,es,ep,h1,h2,h3,?_,List.nodup_nil⟩;cases h5':es.toList with
 | nil=>rfl
 | cons _ _=>rw [h5'] at h5;cases h5
theorem lJ (I:Inv X pins σ H s) (e:H a=some (.dT [])):Inv X pins σ (upd H a (.dK [])) s:=by
 obtain ⟨z,hd,vs,rel,o,es,ep,h1,h2,h3,h4,h5,h6⟩:=Z6 I.hok e;cases rel;refine I.write (t':=s.toks) (x:=a) (e:=a) (h':=s.heap) (by rw [e];trivial) (.inl rfl) (fun _ _ _ q=>q) ⟨o,h1⟩ ?_;have h0:es.toList=[]:=h4;refine ⟨Nat.zero_le _,hd,[],.nil,o,es,ep,h1,h2,h3,?_,?_,List.nodup_nil⟩
 ·intro x hx;have:x∈es.toList:=by simpa using hx
  rw [h0] at this;cases this
 ·rw [h0];exact .nil
theorem OJ {P:Addr->Prop}:∀{kvs:List (Key×V)} {ds:List (D×D)},nM P H kvs ds->∀p∈ds,isTup p.1=false
 | _,_,.nil,_,h=>by cases h
 | _,_,.cons r t,p,h=>by
  rcases List.mem_cons.mp h with rfl|h
  ·exact mR _
  ·exact OJ t p h
theorem DK {P:Addr->Prop}:∀{kvs:List (List Key×V)} {ds:List (D×D)},pN P H kvs ds->∀p∈ds,isTup p.1=true
 | _,_,.nil,_,h=>by cases h
 | _,_,.cons r t,p,h=>by
  rcases List.mem_cons.mp h with rfl|h
  ·rfl
  ·exact DK t p h
theorem aDn {x y:V} {ds:List (D×D)} {k:D} (I:Inv X pins σ H s) (rd:Rep All H x (.dct ds)) (rk:Rep All H y k) (hk:sZ ds k=true) :
  ∃H1 a o,x=.ref a/\Inv X pins σ H1 s/\(∀s',Inv X pins σ H1 s'->Inv X pins σ H s')/\U4 H1 a y o/\((o=none/\bN ds k=none)\/∃v d,o=some v/\bN ds k=some d/\Rep All H v d):=by
 unfold sZ at hk;rw [Bool.and_eq_true] at hk;obtain ⟨h1,h2⟩:=hk;cases rd with
 | @dK a kvs ds e _ r n=>
  rcases lH h1 rk with ⟨q,rfl,rfl⟩|⟨b,ks,rfl,eb,rfl⟩
  ·refine ⟨H,a,_,rfl,I,fun _ h=>h,.k e,?_⟩;rcases aAd (k:=q) r with ⟨v,d,g1,g2,g3⟩|⟨g1,g2⟩
   ·exact .inr ⟨v,d,g1,g2,g3⟩
   ·exact .inl ⟨g1,g2⟩
  ·cases r with
   | nil=>
    have e2:=zA (o':=.dT []) e;refine ⟨upd H a (.dT []),a,none,rfl,o6 I e,fun s' I'=>?_,.t (k:=ks) aM (by rw [bJ (aCs eb e (by intro z;cases z))];exact eb),.inl ⟨rfl,rfl⟩⟩;have:=lJ I' aM;rwa [e2] at this
   | cons r t=>
    rw [List.all_cons,mR] at h2;simp [isTup] at h2
 | @dT a kvs ds e _ r n=>
  rcases lH h1 rk with ⟨q,rfl,rfl⟩|⟨b,ks,rfl,eb,rfl⟩
  ·cases r with
   | nil=>
    have e2:=zA (o':=.dK []) e;refine ⟨upd H a (.dK []),a,none,rfl,lJ I e,fun s' I'=>?_,.k (k:=q) aM,.inl ⟨rfl,rfl⟩⟩;have:=o6 I' aM;rwa [e2] at this
   | cons r t=>
    rw [List.all_cons,mR] at h2;simp [isTup] at h2
  ·refine ⟨H,a,_,rfl,I,fun _ h=>h,.t e eb,?_⟩;rcases aDm (k:=ks) r with ⟨v,d,g1,g2,g3⟩|⟨g1,g2⟩
   ·exact .inr ⟨v,d,g1,g2,g3⟩
   ·exact .inl ⟨g1,g2⟩
theorem aAe {x:V} {ds:List (D×D)} {k d:D} (rd:Rep All H x (.dct ds)) (hk:keyOk k=true) (h:bN ds k=some d):sZ ds k=true:=by
 have one:∀{ds:List (D×D)},bN ds k=some d->∃p∈ds,eqD p.1 k=true:=by
  intro ds;induction ds with
  | nil=>intro h;cases h
  | cons p ds ih=>
   intro h;obtain ⟨p1,p2⟩:=p;rw [bN] at h;by_cases hq:eqD p1 k=true
   ·exact ⟨_,List.mem_cons_self ..,hq⟩
   ·rw [if_neg hq] at h;obtain ⟨p,hp,e⟩:=ih h;exact ⟨p,List.mem_cons_of_mem _ hp,e⟩
 obtain ⟨p,hp,he⟩:=one h;unfold sZ;rw [hk,Bool.true_and,List.all_eq_true];intro q hq;have same:isTup p.1=isTup k:=by
  obtain ⟨p1,p2⟩:=p;cases p1 <;> cases k <;> simp [eqD,keyOk,isTup] at he hk ⊢
 cases rd with
 | dK e _ r n=>rw [OJ r q hq,<-same,OJ r p hp];rfl
 | dT e _ r n=>rw [DK r q hq,<-same,DK r p hp];rfl
end
section
variable {X:Cx} {a b c e:Expr} {pos:Pos} {fa fb fc fe:FE} {ra rb rc re:Bool} {ga gb gc:FT}
noncomputable def IK (H:Hp) (u:Value):D:=by
 classical
 exact if h:∃d,d.cG aZ=true/\∃v,RelV v u/\Rep All H v d then Classical.choose h else .non
theorem WF {H:Hp} {u:Value} {v:V} {d:D} (hq:d.cG aZ=true) (rv:RelV v u) (r:Rep All H v d):IK H u=d:=by
 unfold IK;have h:∃d,d.cG aZ=true/\∃v,RelV v u/\Rep All H v d:=⟨d,hq,v,rv,r⟩
 rw [dif_pos h];obtain ⟨h2,v',rv',r'⟩:=Classical.choose_spec h;have:=rv'.inj rv;subst this;exact Rep.inj aZ h2 hq r' r
theorem uV {H:Hp} {a:D}:∀{xs:List V} {ds:List D} {its:List Value},D.iQ aZ ds=true->b_ All H xs ds->Vals xs its->(its.any fun u=>eqD (IK H u) a)=ds.any fun y=>eqD y a
 | _,_,_,_,.nil,.nil=>rfl
 | _,_,_,h,.cons r t,.cons v vt=>by
  rw [D.iQ,Bool.and_eq_true] at h;rw [List.any_cons,List.any_cons,WF h.1 v r,uV h.2 t vt]
theorem zB {pins:List (Addr×Obj)} {σ:L2.St} {H:Hp} {s:Shared} (I:Inv X pins σ H s) (hu:X.A.units+20<cLine) {a:D} {x:V} {v:Value} (ha:a.cG aZ=true) (rx:Rep All H x a) (rv:RelV x v)
  {xs:List V} {ds:List D} {its:List Value} (h:D.iQ aZ ds=true) (r:b_ All H xs ds) (vr:Vals xs its) (u:Value) (hm:u∈its):EqAt X.A.in1 s u v (eqD (IK H u) a):=by
 obtain ⟨j,hj,e⟩:=List.getElem_of_mem hm;have hj':j<ds.length:=by rw [<-r.length,vr.length];exact hj
 obtain ⟨w,h1,h2⟩:=r.get (i:=j) (d:=ds[j]) (by simp [hj']);obtain ⟨u',h3,h4⟩:=vr.get h1;rw [List.getElem?_eq_getElem hj,e] at h3;cases h3;have hd:ds[j].cG aZ=true:=by
  have:=gR (j:=j) h hj';rwa [List.getD_eq_getElem?_getD,List.getElem?_eq_getElem hj'] at this
 rw [WF hd h4 h2];exact (DG I aZ X.A.in1 (by show X.A.units+1+12<cLine;lia) hd ha h2 rx h4 rv).2.2
theorem wA (hu:X.A.units+20<cLine):OpR X (compareOp .In) (r2 (bL .isin) true):=by
 intro pins s σ H x y v u Q I rx ry ⟨a,b,d,p,q,e,k⟩;cases b with
 | tup ys=>
  simp only [bL] at e;split at e
  ·rename_i hl;cases e;rw [Bool.and_eq_true] at hl;obtain ⟨l,xs,rfl,ee,rr⟩:=q.gQ;cases ry;obtain ⟨its,vr,pl⟩:=iU I ee;refine in_tupleAt (fun u=>eqD (IK H u) a) pl (fun w hw=>zB I hu hl.1 p rx hl.2 rr vr w (by simpa using hw)) ⟨.bl _,H,I,rfl,?_⟩;rw [show its.toArray.any (fun u=>eqD (IK H u) a)=its.any (fun u=>eqD (IK H u) a) by simp,uV hl.2 rr vr];exact k.bl
  ·cases e
 | lst ys=>
  simp only [bL] at e;split at e
  ·rename_i hl;cases e;rw [Bool.and_eq_true] at hl;obtain ⟨l,xs,rfl,ee,rr⟩:=q.jR (K:=X.K);cases ry;obtain ⟨its,vr,pl⟩:=oA I ee;refine in_listAt (fun u=>eqD (IK H u) a) pl (fun w hw=>zB I hu hl.1 p rx hl.2 rr vr w (by simpa using hw)) ⟨.bl _,H,I,rfl,?_⟩;rw [show its.toArray.any (fun u=>eqD (IK H u) a)=its.any (fun u=>eqD (IK H u) a) by simp,uV hl.2 rr vr];exact k.bl
  ·cases e
 | dct kvs=>
  simp only [bL] at e;split at e
  ·rename_i hl;cases e;obtain ⟨H1,a1,o,rfl,I1,bk,g,hc⟩:=aDn I q p hl;cases ry;refine aJz (by lia) I1 g rx fun s' I'=>⟨.bl _,H,bk s' I',rfl,?_⟩
   rcases hc with ⟨rfl,h2⟩|⟨w,dd,rfl,h2,_⟩
   ·rw [h2] at k;exact k.bl
   ·rw [h2] at k;exact k.bl
  ·cases e
 | _=>simp [bL] at e
theorem t7 (hu:X.A.units+20<cLine):OpR X (compareOp .NotIn) (r2 (bL .notin) true):=by
 intro pins s σ H x y v u Q I rx ry ⟨a,b,d,p,q,e,k⟩;cases b with
 | tup ys=>
  simp only [bL] at e;split at e
  ·rename_i hl;cases e;rw [Bool.and_eq_true] at hl;obtain ⟨l,xs,rfl,ee,rr⟩:=q.gQ;cases ry;obtain ⟨its,vr,pl⟩:=iU I ee;refine notIn_tupleAt (fun u=>eqD (IK H u) a) pl (fun w hw=>zB I hu hl.1 p rx hl.2 rr vr w (by simpa using hw)) ⟨.bl _,H,I,rfl,?_⟩;rw [show its.toArray.any (fun u=>eqD (IK H u) a)=its.any (fun u=>eqD (IK H u) a) by simp,uV hl.2 rr vr];exact k.bl
  ·cases e
 | lst ys=>
  simp only [bL] at e;split at e
  ·rename_i hl;cases e;rw [Bool.and_eq_true] at hl;obtain ⟨l,xs,rfl,ee,rr⟩:=q.jR (K:=X.K);cases ry;obtain ⟨its,vr,pl⟩:=oA I ee;refine notIn_listAt (fun u=>eqD (IK H u) a) pl (fun w hw=>zB I hu hl.1 p rx hl.2 rr vr w (by simpa using hw)) ⟨.bl _,H,I,rfl,?_⟩;rw [show its.toArray.any (fun u=>eqD (IK H u) a)=its.any (fun u=>eqD (IK H u) a) by simp,uV hl.2 rr vr];exact k.bl
  ·cases e
 | dct kvs=>
  simp only [bL] at e;split at e
  ·rename_i hl;cases e;obtain ⟨H1,a1,o,rfl,I1,bk,g,hc⟩:=aDn I q p hl;cases ry;refine aD7 (by lia) I1 g rx fun s' I'=>⟨.bl _,H,bk s' I',rfl,?_⟩
   rcases hc with ⟨rfl,h2⟩|⟨w,dd,rfl,h2,_⟩
   ·rw [h2] at k;exact k.bl
   ·rw [h2] at k;exact k.bl
  ·cases e
 | _=>simp [bL] at e
theorem aGc {α:Type} (xs:List α) (i:Int):L2.atI xs i=(ixD xs.length i).bind fun j=>xs[j]?:=rfl
theorem b_.atI {P:Addr->Prop} {H:Hp} {xs:List V} {ds:List D} {i:Int} {d:D} (r:b_ P H xs ds) (h:((ixD ds.length i).bind fun j=>ds[j]?)=some d):∃v,L2.atI xs i=some v/\Rep P H v d:=by
 rw [aGc,r.length];cases hi:ixD ds.length i with
 | none=>rw [hi] at h;cases h
 | some j=>
  rw [hi] at h;obtain ⟨v,h1,h2⟩:=r.get h;exact ⟨v,h1,h2⟩
theorem DN {X:Cx} {value slice:Expr} {pins:List (Addr×Obj)} {s:Shared} {σ:L2.St} {H:Hp} {a:Addr} {y v':V} {u:Value} {Q:VK} (hu:X.A.units+20<cLine) (I:Inv X pins σ H s) (g:U4 H a y (some v')) (ry:RelV y u) {H':Hp}
  (hs:subscripted slice false (.ref a) u=operate [.ref a,u] (getItem (.ref a) u)) (bk:∀s',Inv X pins σ H s'->Inv X pins σ H' s') (q:Q v' H') :
  wpAny (model X.prog X.w) X.A (subscriptTail value slice (.ref a) u) (EP X pins σ Q) X.xe s:=by
 have hT:=JM I g;unfold subscriptTail;refine wpAny_bind ?_;rw [getitemInPython_of_ne hT.not_modules];refine wpAny_bind (wpAny_specialOf hT PySem.F.slot_dict_getitem.lookup ?_);have fin:wpAny (model X.prog X.w) X.A (subscripted slice false (.ref a) u) (fun r s₃=>wpAny (model X.prog X.w) X.A (letTemporaryGo value (.ref a) r >>= fun _=>pure r) (EP X pins σ Q) X.xe s₃) X.xe s:=by
  rw [hs];exact wpAny_operating (U5 (by lia) I g ry fun w' s3 I3 rw'=>wpAny_bind (wpAny_letTemporaryGo (wpAny_pure ⟨v',H',bk s3 I3,rw',q⟩)))
 first
  | exact wpAny_pure (wpAny_bind fin)
  | exact wpAny_bind (wpAny_pure (wpAny_bind fin))
  | exact wpAny_bind fin
theorem zE {k d:D}:∀{ds:List (D×D)},keyOk k=true->bN ds k=some d->∃p∈ds,isTup p.1=isTup k
 | [],_,h=>by cases h
 | (p1,p2)::ds,hk,h=>by
  rw [bN] at h;by_cases hq:eqD p1 k=true
  ·refine ⟨_,List.mem_cons_self ..,?_⟩;cases p1 <;> cases k <;> simp [eqD,keyOk,isTup] at hq hk ⊢
  ·rw [if_neg hq] at h;obtain ⟨p,hp,e⟩:=zE hk h;exact ⟨p,List.mem_cons_of_mem _ hp,e⟩
theorem aIi {H:Hp} {x y:V} {ds:List (D×D)} {k d:D} (rd:Rep All H x (.fdc ds)) (rk:Rep All H y k) (hk:keyOk k=true) (h:bN ds k=some d):∃a v,x=.ref a/\U4 H a y (some v)/\Rep All H v d:=by
 obtain ⟨p,hp,et⟩:=zE hk h;cases rd with
 | @fdK a o kvs ds e r n=>
  rcases lH hk rk with ⟨q,rfl,rfl⟩|⟨b,ks,rfl,eb,rfl⟩
  ·rcases aAd (k:=q) r with ⟨v,d',g1,g2,g3⟩|⟨g1,g2⟩
   ·rw [g2] at h;cases h;exact ⟨a,v,rfl,.inl ⟨kvs,q,.inr ⟨o,e⟩,rfl,g1.symm⟩,g3⟩
   ·rw [g2] at h;cases h
  ·rw [OJ r p hp] at et;cases et
 | @fdT a o kvs ds e r n=>
  rcases lH hk rk with ⟨q,rfl,rfl⟩|⟨b,ks,rfl,eb,rfl⟩
  ·rw [DK r p hp,mR] at et;cases et
  ·rcases aDm (k:=ks) r with ⟨v,d',g1,g2,g3⟩|⟨g1,g2⟩
   ·rw [g2] at h;cases h;exact ⟨a,v,rfl,.inr ⟨kvs,ks,b,.inr ⟨o,e⟩,rfl,eb,g1.symm⟩,g3⟩
   ·rw [g2] at h;cases h
theorem bY (hK:KFrag.K=X.K) (hu:X.A.units+20<cLine):IxR X (r2 getD false):=by
 intro value slice pins s σ H x y v u Q I rx ry ⟨a,b,d,p,q,e,k⟩ hs;cases a with
 | tup ys=>
  cases b <;> simp only [getD] at e <;> (try (cases e;done))
  have e':=Res.mL e;obtain ⟨l,xs,rfl,ee,rr⟩:=p.gQ;cases q;obtain ⟨w,h1,h2⟩:=rr.atI e';exact aFt value slice pins s σ H _ _ v u Q I rx ry ⟨l,xs,_,w,rfl,rfl,.of ee,h1,k.self h2 fun z=>by cases z⟩ hs
 | lst ys=>
  cases b <;> simp only [getD] at e <;> (try (cases e;done))
  have e':=Res.mL e;obtain ⟨l,xs,rfl,ee,rr⟩:=p.jR (K:=X.K);cases q;obtain ⟨w,h1,h2⟩:=rr.atI e';exact JK value slice pins s σ H _ _ v u Q I rx ry ⟨l,xs,_,w,rfl,rfl,ee,h1,k.self h2 fun z=>by cases z⟩ hs
 | cel ca ys=>
  cases b <;> simp only [getD] at e <;> (try (cases e;done))
  have e':=Res.mL e;cases p with
  | cel ee pp rr=>
   cases q;obtain ⟨w,h1,h2⟩:=rr.atI e';exact JK value slice pins s σ H _ _ v u Q I rx ry ⟨_,_,_,w,rfl,rfl,.inl (.inl ee),h1,k.self h2 fun z=>by cases z⟩ hs
 | scr ys=>
  cases b <;> simp only [getD] at e <;> (try (cases e;done))
  have e':=Res.mL e;cases p with
  | frz ee rr=>
   cases q;obtain ⟨w,h1,h2⟩:=rr.atI e';exact JK value slice pins s σ H _ _ v u Q I rx ry ⟨_,_,_,w,rfl,rfl,ee.sq hK,h1,k.self h2 fun z=>by cases z⟩ hs
 | str z=>
  cases b <;> simp only [getD] at e <;> (try (cases e;done))
  split at e
  ·rename_i hl;have e':=Res.mL e;obtain ⟨cc,h1,h2⟩:=Option.map_eq_some_iff.mp e';subst h2;cases p;cases q;exact aFu value slice pins s σ H _ _ v u Q I rx ry ⟨z,_,cc,rfl,rfl,qR hl,h1,k.str⟩ hs
  ·cases e
 | dct kvs=>
  have e':keyOk b=true/\bN kvs b=some d:=by
   cases b <;> simp only [getD] at e <;> (split at e <;> first|(rename_i hl;exact ⟨hl,Res.mL e⟩)|cases e)
  obtain ⟨H1,a1,o,rfl,I1,bk,g,hc⟩:=aDn I p q (aAe p e'.1 e'.2);cases rx;rcases hc with ⟨rfl,h2⟩|⟨w,dd,rfl,h2,h3⟩
  ·rw [h2] at e';cases e'.2
  ·rw [h2] at e';cases e'.2;exact DN hu I1 g ry hs bk (k.self h3 fun z=>by cases z)
 | fdc kvs=>
  have e':keyOk b=true/\bN kvs b=some d:=by
   cases b <;> simp only [getD] at e <;> (split at e <;> first|(rename_i hl;exact ⟨hl,Res.mL e⟩)|cases e)
  obtain ⟨a1,w,rfl,g,h3⟩:=aIi p q e'.1 e'.2;cases rx;exact DN hu I g ry hs (fun _ h=>h) (k.self h3 fun z=>by cases z)
 | _=>cases b <;> simp [getD] at e
noncomputable def gO (f:List D->Res (Option Int)):TO:=fun σ H Q=>∃ρ i,ER H σ ρ/\f ρ=.ok i/\∀H',cZ H H'->Q i H'
theorem PO.imp {X:Cx} {e:Option PySem.Expr} {t t':TO} (h:PO X e t) (i:∀σ H Q,t' σ H Q->t σ H Q):PO X e t':=fun pins s σ H Q I q=>h pins s σ H Q I (i σ H Q q)
theorem dR:PO X none (gO fH):=PO.imp aD1 fun σ H Q ⟨ρ,i,E,h,q⟩=>by cases h;exact q H (cZ.refl H)
theorem cW (ha:PE X a (gE fa ra)):PO X (some a) (gO (dH fa)):=PO.imp (aD2 ha) fun σ H Q ⟨ρ,i,E,h,q⟩=>by
 obtain ⟨x,h1,h⟩:=bO h;obtain ⟨j,h2,h⟩:=bO h;cases h;have e:=aG9 h2;subst e;exact ⟨ρ,_,E,h1,fun v H' s r _=>by cases r;exact ⟨j,rfl,q H' s⟩⟩
theorem O1 (n d:Nat) (o:Option Int):HT.sIx n d o=wW n d o:=by
 cases o with
 | none=>rfl
 | some v=>
  show (if v<0 then (v+(n:Int)).toNat else min v.toNat n)=(if v<0 then (max (v+(n:Int)) 0).toNat else (min v (n:Int)).toNat);split <;> lia
theorem b_.cut {P:Addr->Prop} {H:Hp} {xs:List V} {ds:List D} (r:b_ P H xs ds) (lo hi:Option Int):b_ P H (UT xs lo hi) (cutD ds lo hi):=by
 unfold UT cutD;rw [r.length];simp only [O1];exact (r.drop _).take _
theorem lK {ds:List D}:D.a_ ds=true↔∀d∈ds,d.pure=true:=by
 induction ds with
 | nil=>simp [D.a_]
 | cons d ds ih=>rw [D.a_,Bool.and_eq_true,ih];simp
noncomputable def rSl:V->Option Int->Option Int->Hp->VK->Prop:=fun x lo hi H Q=>∃a d,Rep All H x a/\aEx a lo hi=.ok d/\kR H d true Q
theorem aGd (hK:KFrag.K=X.K):SlR X rSl:=by
 intro pins s σ H x v vl vu lo hi sl Q I rx hs pl pu ⟨a,d,p,e,k⟩;cases a <;> simp only [aEx] at e <;> (try (cases e;done))
 ·split at e
  ·cases e
  ·rename_i hw;cases e;obtain ⟨l,xs,rfl,ee,rr⟩:=p.gQ;refine aFs pins s σ H _ v vl vu lo hi sl Q I rx hs pl pu ⟨l,xs,rfl,.of ee,?_,fun p hp=>?_⟩
   ·simp only [O1,rr.length];simp only [Bool.not_eq_true',Bool.or_eq_true,not_or,Bool.not_eq_false',decide_eq_true_eq] at hw;exact hw.2
   ·have sp:cZ H (upd H p (.tup (UT xs lo hi))):=cZ.upd hp;have hp2:D.a_ ‹List D›=true:=by
     simp only [Bool.or_eq_true,not_or,Bool.not_eq_true'] at hw;simpa using hw.1
    exact k _ _ sp (.tup aM ((rr.cut lo hi).same sp)) fun z=>.tup aM (((rr.cC hp2).cut lo hi).same sp)
 ·split at e
  ·rename_i hl;cases e;obtain ⟨l,xs,rfl,ee,rr⟩:=p.jR (K:=X.K);refine UW pins s σ H _ v vl vu lo hi sl Q I rx hs pl pu ⟨l,xs,rfl,ee,fun p hp=>?_⟩;have sp:cZ H (upd H p (.lst (UT xs lo hi))):=cZ.upd hp;exact k _ _ sp (.lst aM trivial ((rr.cut lo hi).same sp)) fun z=>.lst aM hp (((rr.cC hl).cut lo hi).same sp)
  ·cases e
 ·split at e
  ·rename_i hl;cases e;cases p with
   | @frz l xs ds ee rr=>
    refine UW pins s σ H _ v vl vu lo hi sl Q I rx hs pl pu ⟨l,xs,rfl,ee.sq hK,fun p hp=>?_⟩;have sp:cZ H (upd H p (.lst (UT xs lo hi))):=cZ.upd hp;exact k _ _ sp (.lst aM trivial ((rr.cut lo hi).same sp)) fun z=>.lst aM hp (((rr.cC hl).cut lo hi).same sp)
  ·cases e
end
end Mi
end
section
namespace PySem.Mm
open PySem
noncomputable def wdL:Bool->String
 | false => "min.loop"
 | true => "max.loop"
noncomputable def wdO:Bool->CmpOp
 | false=>.Lt
 | true=>.Gt
section
variable {prog:Program} {w:World} {A:Around} {R:Result->Shared->Prop} {I S:Addr} {fp wr:List Addr} {n:Nat} {P:Nat->Value->Prop} {St:Nat->Heap->Prop} {bt:Nat->Nat->Bool} {Gd:Shared->Prop} {op:CmpOp}
structure aGe (prog:Program) (w:World) (A:Around) (op:CmpOp) (P:Nat->Value->Prop) (bt:Nat->Nat->Bool) (wr:List Addr) (top:Nat) (Gd:Shared->Prop):Prop where
 keep:∀s h' tk,Gd s->(∀b o,b∉wr->b<top->s.heap.get? b=some o->h'.get? b=some o)->Gd {s with heap:=h',toks:=tk}
 says:∀i j vi vj s Q E,Gd s->P i vi->P j vj->Q (.bool (bt i j)) s->wpAny (model prog w) A (richCompare op vi vj) Q E s
noncomputable def aJ9 (P:Nat->Value->Prop) (bt:Nat->Nat->Bool) (n:Nat):Nat->Array Value->Prop
 | 0,a=>a=#[]/\0<n
 | j+1,a=>∃v,a=#[v,v]/\P (argBest bt j) v
theorem touched (J:aGe prog w A op P bt wr S Gd) {s:Shared} {f:Array Value->Array Value} (g:Gd s):Gd {s with heap:=s.heap.update S (Obj.mapSeq f)}:=
 J.keep s _ s.toks g fun b o _ hb e=>(Heap.get?_update_other _ _ (Nat.ne_of_gt hb)).trans e
theorem turn (m:Bool) (W:Walks prog w A.in1 I fp wr n P St) (hS:S∉fp) (J:aGe prog w A.in1 (wdO m) P bt wr S Gd):∀(k j:Nat) (s:Shared) (a:Array Value) (c:Nat),j+k=n->St j s.heap->Gd s->aJ9 P bt n j a->
  s.heap.get? S=some {cls:=.type "list",dict:=none,data:=.seq a c,slots:=#[]}->
  (∀v h' tk,P (argBest bt (n-1)) v->(∀b o,b∉wr->b≠S->s.heap.get? b=some o->h'.get? b=some o)->R (.ok (.ret v)) {s with heap:=h',toks:=tk})->
  codeAny (model prog w) A (.builtin (wdL m) ⟨[.ref I,.none,.ref S],[]⟩) R s:=by
 have off:S∉wr:=fun h=>hS (W.sub _ h)
 have still:∀{j:Nat} {h:Heap} {f:Array Value->Array Value},St j h->St j (h.update S (Obj.mapSeq f)):=fun st=>
  W.frame _ _ _ st fun b hb o e=>(Heap.get?_update_other _ _ fun z:S=b=>hS (z▸hb)).trans e
 intro k;induction k with
 | zero=>
  intro j s a c hj st g hb hs fin;have hjn:j=n:=hj;subst hjn;cases j with
  | zero=>exact absurd hb.2 (Nat.lt_irrefl 0)
  | succ j=>
   obtain ⟨v,rfl,hv⟩:=hb;have last:∀(h':Heap) (tk:Nat),(∀b o,b∉wr->s.heap.get? b=some o->h'.get? b=some o)->R (.ok (.ret v)) {s with heap:=h'.update S (Obj.mapSeq fun _=>#[]),toks:=tk}:=fun h' tk kp=>
    fin v _ tk hv fun b o h1 h2 e=>(Heap.get?_update_other _ _ (Ne.symm h2)).trans (kp b o h1 e)
   cases m
   ·show codeAny (model prog w) A (.builtin "min.loop" ⟨[.ref I,.none,.ref S],[]⟩) R s;refine codeAny_builtin F.entry_min_loop ?_;rw [Around.under_plainId F.plain_min_loop];refine wpAny_bind (m:=seqItems? (.ref S)) (wpAny_seqItems hs rfl ?_);refine wpAny_bind (wpAny_tryCatch (m:=pyNext (.ref I)) (W.done s _ _ st fun h' tk kp=>?_));exact wpAny_bind (m:=updateSeq S _) (wpAny_updateSeq (kp S _ off hs) rfl (wpAny_bind (wpAny_letGo (wpAny_pure (last h' tk kp)))))
   ·show codeAny (model prog w) A (.builtin "max.loop" ⟨[.ref I,.none,.ref S],[]⟩) R s;refine codeAny_builtin F.entry_max_loop ?_;rw [Around.under_plainId F.plain_max_loop];refine wpAny_bind (m:=seqItems? (.ref S)) (wpAny_seqItems hs rfl ?_);refine wpAny_bind (wpAny_tryCatch (m:=pyNext (.ref I)) (W.done s _ _ st fun h' tk kp=>?_));exact wpAny_bind (m:=updateSeq S _) (wpAny_updateSeq (kp S _ off hs) rfl (wpAny_bind (wpAny_letGo (wpAny_pure (last h' tk kp)))))
 | succ k ih=>
  intro j s a c hj st g hb hs fin;have hjn:j<n:=by lia
  /- what is left to do behind the list's change,or without one -/
  have on:∀(v:Value) (h':Heap) (tk:Nat),P j v->St (j+1) h'->(∀b o,b∉wr->s.heap.get? b=some o->h'.get? b=some o)->(∀(a':Array Value) (c':Nat) (h2:Heap),aJ9 P bt n (j+1) a'->h2.get? S=some {cls:=.type "list",dict:=none,data:=.seq a' c',slots:=#[]}->(h2=h'\/∃f:Array Value->Array Value,h2=h'.update S (Obj.mapSeq f))->
    codeAny (model prog w) A (.builtin (wdL m) ⟨[.ref I,.none,.ref S],[]⟩) R {s with heap:=h2,toks:=tk}):=by
   intro v h' tk _ st' kp a' c' h2 hb' hs' hh;have g':Gd {s with heap:=h',toks:=tk}:=J.keep s h' tk g fun b o h1 _ e=>kp b o h1 e
   rcases hh with rfl|⟨f,rfl⟩
   ·exact ih (j+1) _ a' c' (by lia) st' g' hb' hs' fun u h3 t3 hu k3=>fin u h3 t3 hu fun b o h1 h2 e=>k3 b o h1 h2 (kp b o h1 e)
   ·exact ih (j+1) _ a' c' (by lia) (still st') (touched J g') hb' hs' fun u h3 t3 hu k3=>fin u h3 t3 hu fun b o h1 h2 e=>k3 b o h1 h2 ((Heap.get?_update_other _ _ (Ne.symm h2)).trans (kp b o h1 e))
  have nmn:(toString "min" ++ toString ".loop" : String) = "min.loop":=by decide
  have nmx:(toString "max" ++ toString ".loop" : String) = "max.loop":=by decide
  cases j with
  | zero=>
   obtain ⟨rfl,_⟩:=hb;cases m
   ·show codeAny (model prog w) A (.builtin "min.loop" ⟨[.ref I,.none,.ref S],[]⟩) R s;refine codeAny_builtin F.entry_min_loop ?_;rw [Around.under_plainId F.plain_min_loop];refine wpAny_bind (m:=seqItems? (.ref S)) (wpAny_seqItems hs rfl ?_);refine wpAny_bind (wpAny_tryCatch (m:=pyNext (.ref I)) (W.item 0 s _ _ hjn st fun v h' tk pv st' kp=>?_));have hs':=kp S _ off hs;refine wpAny_bind (m:=updateSeq S _) (wpAny_updateSeq hs' rfl ?_);rw [nmn];exact wpAny_pure ⟨plainId_quiet F.plain_min_loop _,on v h' tk pv st' kp #[v,v] _ _ ⟨v,rfl,pv⟩ (Heap.get?_update_self _ hs' rfl) (.inr ⟨_,rfl⟩)⟩
   ·show codeAny (model prog w) A (.builtin "max.loop" ⟨[.ref I,.none,.ref S],[]⟩) R s;refine codeAny_builtin F.entry_max_loop ?_;rw [Around.under_plainId F.plain_max_loop];refine wpAny_bind (m:=seqItems? (.ref S)) (wpAny_seqItems hs rfl ?_);refine wpAny_bind (wpAny_tryCatch (m:=pyNext (.ref I)) (W.item 0 s _ _ hjn st fun v h' tk pv st' kp=>?_));have hs':=kp S _ off hs;refine wpAny_bind (m:=updateSeq S _) (wpAny_updateSeq hs' rfl ?_);rw [nmx];exact wpAny_pure ⟨plainId_quiet F.plain_max_loop _,on v h' tk pv st' kp #[v,v] _ _ ⟨v,rfl,pv⟩ (Heap.get?_update_self _ hs' rfl) (.inr ⟨_,rfl⟩)⟩
  | succ j=>
   obtain ⟨u,rfl,hu⟩:=hb;cases m
   ·show codeAny (model prog w) A (.builtin "min.loop" ⟨[.ref I,.none,.ref S],[]⟩) R s;refine codeAny_builtin F.entry_min_loop ?_;rw [Around.under_plainId F.plain_min_loop];refine wpAny_bind (m:=seqItems? (.ref S)) (wpAny_seqItems hs rfl ?_);refine wpAny_bind (wpAny_tryCatch (m:=pyNext (.ref I)) (W.item (j+1) s _ _ hjn st fun v h' tk pv st' kp=>?_));have hs':=kp S _ off hs;refine wpAny_bind (wpAny_pure ?_);refine wpAny_bind (wpAny_tryCatch (wpAny_holding (wpAny_bind (m:=richCompare .Lt v u) (J.says (j+1) (argBest bt j) v u _ _ _ (J.keep s h' tk g fun b o h1 _ e=>kp b o h1 e) pv hu ?_))));refine wpAny_bind (wpAny_holding (wpAny_truthy_bool (wpAny_bind (wpAny_letGo (wpAny_pure ?_)))));cases hx:bt (j+1) (argBest bt j)
    ·rw [if_neg Bool.false_ne_true];refine wpAny_bind (wpAny_letGo ?_);rw [nmn];exact wpAny_pure ⟨plainId_quiet F.plain_min_loop _,on v h' tk pv st' kp _ _ _ ⟨u,rfl,by rw [argBest,hx];exact hu⟩ hs' (.inl rfl)⟩
    ·rw [if_pos rfl];refine wpAny_bind (m:=updateSeq S _) (wpAny_updateSeq hs' rfl (wpAny_bind (wpAny_letGo ?_)));rw [nmn];exact wpAny_pure ⟨plainId_quiet F.plain_min_loop _,on v h' tk pv st' kp #[v,v] _ _ ⟨v,rfl,by rw [argBest,hx];exact pv⟩ (Heap.get?_update_self _ hs' rfl) (.inr ⟨_,rfl⟩)⟩
   ·show codeAny (model prog w) A (.builtin "max.loop" ⟨[.ref I,.none,.ref S],[]⟩) R s;refine codeAny_builtin F.entry_max_loop ?_;rw [Around.under_plainId F.plain_max_loop];refine wpAny_bind (m:=seqItems? (.ref S)) (wpAny_seqItems hs rfl ?_);refine wpAny_bind (wpAny_tryCatch (m:=pyNext (.ref I)) (W.item (j+1) s _ _ hjn st fun v h' tk pv st' kp=>?_));have hs':=kp S _ off hs;refine wpAny_bind (wpAny_pure ?_);refine wpAny_bind (wpAny_tryCatch (wpAny_holding (wpAny_bind (m:=richCompare .Gt v u) (J.says (j+1) (argBest bt j) v u _ _ _ (J.keep s h' tk g fun b o h1 _ e=>kp b o h1 e) pv hu ?_))));refine wpAny_bind (wpAny_holding (wpAny_truthy_bool (wpAny_bind (wpAny_letGo (wpAny_pure ?_)))));cases hx:bt (j+1) (argBest bt j)
    ·rw [if_neg Bool.false_ne_true];refine wpAny_bind (wpAny_letGo ?_);rw [nmx];exact wpAny_pure ⟨plainId_quiet F.plain_max_loop _,on v h' tk pv st' kp _ _ _ ⟨u,rfl,by rw [argBest,hx];exact hu⟩ hs' (.inl rfl)⟩
    ·rw [if_pos rfl];refine wpAny_bind (m:=updateSeq S _) (wpAny_updateSeq hs' rfl (wpAny_bind (wpAny_letGo ?_)));rw [nmx];exact wpAny_pure ⟨plainId_quiet F.plain_max_loop _,on v h' tk pv st' kp #[v,v] _ _ ⟨v,rfl,by rw [argBest,hx];exact pv⟩ (Heap.get?_update_self _ hs' rfl) (.inr ⟨_,rfl⟩)⟩
end
section
variable {prog:Program} {w:World} {A:Around} {E:Value->Shared->Prop} {s:Shared} {Q:Value->Shared->Prop}
noncomputable abbrev Seen (prog:Program) (w:World) (A:Around) (op:CmpOp) (Q:Value->Shared->Prop) (it:Value) (t:Shared):Prop:=
 ∃(I:Addr) (fp wr:List Addr) (n:Nat) (P:Nat->Value->Prop) (St:Nat->Heap->Prop) (bt:Nat->Nat->Bool),it=.ref I/\Walks prog w A I fp wr n P St/\St 0 t.heap/\(∀b∈fp,b<t.heap.objs.size)/\0<n/\
  (∃Gd:Shared->Prop,Gd t/\(∀s h' tk,Gd s->(∀b o,b∉wr->b<t.heap.objs.size->s.heap.get? b=some o->h'.get? b=some o)->Gd {s with heap:=h',toks:=tk})/\
   ∀i j vi vj s Q E,Gd s->P i vi->P j vj->Q (.bool (bt i j)) s->wpAny (model prog w) A (richCompare op vi vj) Q E s)/\
  ∀v h' tk,P (argBest bt (n-1)) v->(∀b o,b∉wr->t.heap.get? b=some o->h'.get? b=some o)->Q v {t with heap:=h',toks:=tk}
theorem begun (m:Bool) {it:Value} {t:Shared} {R:Result->Shared->Prop} (hR:∀v s,Q v s->R (.ok (.ret v)) s) (h:Seen prog w A.in1 (wdO m) Q it t) :
  codeAny (model prog w) A (.builtin (wdL m) ⟨[it,.none,.ref t.heap.objs.size],[]⟩) R {t with heap:=t.heap.push {cls:=.type "list",data:=.seq #[]}}:=by
 obtain ⟨I,fp,wr,n,P,St,bt,rfl,W,st,hfp,hn,⟨Gd,g,gk,gs⟩,q⟩:=h;have up:∀b o,t.heap.get? b=some o->(t.heap.push {cls:=.type "list",data:=.seq #[]}).get? b=some o:=fun b o e=>Heap.get?_push_of_some _ e
 refine turn m W (fun z=>Nat.lt_irrefl _ (hfp _ z)) ⟨gk,gs⟩ n 0 _ #[] _ (Nat.zero_add n) (W.frame _ _ _ st fun b _ o e=>up b o e) (gk t _ t.toks g fun b o _ _ e=>up b o e) ⟨rfl,hn⟩ (Heap.get?_push_size _ rfl) fun v h' tk hv kp=>?_
 exact hR _ _ (q v h' tk hv fun b o h1 e=>kp b o h1 (Nat.ne_of_lt (Heap.lt_size e)) (up b o e))
theorem DP {x:Value} (h:wpAny (model prog w) A.in1 (pyIter x) (Seen prog w A.in1 .Lt Q) E s):wpAny (model prog w) A (call (.builtin "min") [x]) Q E s:=by
 have nmn:(toString "min" ++ toString ".loop" : String) = "min.loop":=by decide
 refine call_function_tree F.kind_min F.plain_min F.entry_min (F.args_min1 _) ?_;refine wpAny_bind (m:=Builtin.Builtins.bindParams "min" ["key", "default"] 0 ⟨[],[]⟩) (wpAny_of_eq (a:=[none,none]) rfl ?_);refine wpAny_bind (wpAny_pure (wpAny_bind (wpAny_mono h (fun it t ht=>wpAny_bind (wpAny_newObj_type ?_)) fun _ _ e=>e)));rw [nmn];exact wpAny_pure ⟨plainId_quiet F.plain_min_loop _,begun false (fun _ _ q=>q) ht⟩
theorem DQ {x:Value} (h:wpAny (model prog w) A.in1 (pyIter x) (Seen prog w A.in1 .Gt Q) E s):wpAny (model prog w) A (call (.builtin "max") [x]) Q E s:=by
 have nmx:(toString "max" ++ toString ".loop" : String) = "max.loop":=by decide
 refine call_function_tree F.kind_max F.plain_max F.entry_max (F.args_max1 _) ?_;refine wpAny_bind (m:=Builtin.Builtins.bindParams "max" ["key", "default"] 0 ⟨[],[]⟩) (wpAny_of_eq (a:=[none,none]) rfl ?_);refine wpAny_bind (wpAny_pure (wpAny_bind (wpAny_mono h (fun it t ht=>wpAny_bind (wpAny_newObj_type ?_)) fun _ _ e=>e)));rw [nmx];exact wpAny_pure ⟨plainId_quiet F.plain_max_loop _,begun true (fun _ _ q=>q) ht⟩
theorem KJ {a b:Value} (h:wpAny (model prog w) A.in1 (pyIter (.ref s.heap.objs.size)) (Seen prog w A.in1 .Lt Q) E {s with heap:=s.heap.push {cls:=.type "tuple",data:=.seq #[a,b]}}):wpAny (model prog w) A (call (.builtin "min") [a,b]) Q E s:=by
 have nmn:(toString "min" ++ toString ".loop" : String) = "min.loop":=by decide
 refine call_function_tree F.kind_min F.plain_min F.entry_min (F.args_min2 _ _) ?_;refine wpAny_bind (m:=Builtin.Builtins.bindParams "min" ["key", "default"] 0 ⟨[],[]⟩) (wpAny_of_eq (a:=[none,none]) rfl ?_);refine wpAny_bind (m:=newTuple [a,b]) (wpAny_newObj_type (wpAny_bind (wpAny_mono h (fun it t ht=>wpAny_bind (wpAny_newObj_type ?_)) fun _ _ e=>e)));rw [nmn];exact wpAny_pure ⟨plainId_quiet F.plain_min_loop _,begun false (fun _ _ q=>q) ht⟩
theorem KN {a b:Value} (h:wpAny (model prog w) A.in1 (pyIter (.ref s.heap.objs.size)) (Seen prog w A.in1 .Gt Q) E {s with heap:=s.heap.push {cls:=.type "tuple",data:=.seq #[a,b]}}):wpAny (model prog w) A (call (.builtin "max") [a,b]) Q E s:=by
 have nmx:(toString "max" ++ toString ".loop" : String) = "max.loop":=by decide
 refine call_function_tree F.kind_max F.plain_max F.entry_max (F.args_max2 _ _) ?_;refine wpAny_bind (m:=Builtin.Builtins.bindParams "max" ["key", "default"] 0 ⟨[],[]⟩) (wpAny_of_eq (a:=[none,none]) rfl ?_);refine wpAny_bind (m:=newTuple [a,b]) (wpAny_newObj_type (wpAny_bind (wpAny_mono h (fun it t ht=>wpAny_bind (wpAny_newObj_type ?_)) fun _ _ e=>e)));rw [nmx];exact wpAny_pure ⟨plainId_quiet F.plain_max_loop _,begun true (fun _ _ q=>q) ht⟩
end
end PySem.Mm
end
section
namespace Mi
open PySem L2 PySem.SeqAt PySem.Spec PyProof.Rows
variable [KFrag]
theorem DR (o:jE) (x:D) (xs:List D):∀k,k<=xs.length->(xs.take k).foldl (fun m y=>if (fG o y m).getD false then y else m) x=(x::xs).getD (argBest (btD o (x::xs)) k) .non
 | 0,_=>by simp [argBest]
 | k+1,h=>by
  have ih:=DR o x xs k (by lia);have hk:k<xs.length:=by lia
  rw [List.take_succ_eq_append_getElem hk,List.foldl_append,ih];have e:(x::xs).getD (k+1) .non=xs[k]:=by simp [hk]
  have hb:btD o (x::xs) (k+1) (argBest (btD o (x::xs)) k)=(fG o xs[k] ((x::xs).getD (argBest (btD o (x::xs)) k) .non)).getD false:=by unfold btD;rw [e]
  show (if (fG o xs[k] ((x::xs).getD (argBest (btD o (x::xs)) k) .non)).getD false then xs[k] else (x::xs).getD (argBest (btD o (x::xs)) k) .non)=(x::xs).getD (if btD o (x::xs) (k+1) (argBest (btD o (x::xs)) k) then k+1 else argBest (btD o (x::xs)) k) .non;rw [<-hb];cases btD o (x::xs) (k+1) (argBest (btD o (x::xs)) k) with
  | true=>rw [if_pos rfl,if_pos rfl,e]
  | false=>rw [if_neg (by simp),if_neg (by simp)]
section
variable {X:Cx} {pins:List (Addr×Obj)} {σ:L2.St} {H:Hp} {s:Shared}
noncomputable def Gds (s:Shared) (s':Shared):Prop:=∃h' tk,s'={s with heap:=h',toks:=tk}/\∀b o,s.heap.get? b=some o->h'.get? b=some o
theorem zF (I:Inv X pins σ H s) (hu:X.A.units+20<cLine) {o:jE} {xs:List V} {ds:List D} {its:List Value} {d:D} (r:b_ All H xs ds) (vr:Vals xs its) (h:pL o ds=.ok d) (i j:Nat) (vi vj:Value) (s':Shared) (Q:Value->Shared->Prop) (E:Value->Shared->Prop)
  (g:Gds s s') (hi:its.toArray[i]?=some vi) (hj:its.toArray[j]?=some vj) (q:Q (.bool (btD o ds i j)) s'):wpAny (model X.prog X.w) X.A.in1 (richCompare o.op vi vj) Q E s':=by
 obtain ⟨h',tk,rfl,hk⟩:=g;have I':Inv X pins σ H {s with heap:=h',toks:=tk}:=I.kept hk;have hi':its[i]?=some vi:=by simpa using hi
 have hj':its[j]?=some vj:=by simpa using hj
 have at_:∀{i:Nat} {v:Value},its[i]?=some v->∃d w,ds.getD i .non=d/\d∈ds/\RelV w v/\Rep All H w d:=by
  intro i v hv;have hlt:i<its.length:=(List.getElem?_eq_some_iff.mp hv).1;have hlt':i<ds.length:=by rw [<-r.length,vr.length];exact hlt
  obtain ⟨w,h1,h2⟩:=r.get (i:=i) (d:=ds[i]) (by simp [hlt']);obtain ⟨u,h3,h4⟩:=vr.get h1;rw [hv] at h3;cases h3;exact ⟨ds[i],w,by simp [hlt'],List.getElem_mem _,h4,h2⟩
 obtain ⟨d1,w1,e1,m1,v1,r1⟩:=at_ hi';obtain ⟨d2,w2,e2,m2,v2,r2⟩:=at_ hj';cases ds with
 | nil=>cases m1
 | cons x xs'=>
  simp only [pL] at h;split at h
  ·rename_i hall;have h1:=List.all_eq_true.mp hall d1 m1;have h2:=List.all_eq_true.mp hall d2 m2;rw [Bool.and_eq_true] at h1 h2;obtain ⟨k,hk⟩:=Option.isSome_iff_exists.mp (List.all_eq_true.mp h1.2 d2 m2);have:btD o (x::xs') i j=k:=by unfold btD;rw [e1,e2,hk];rfl
   rw [this] at q;exact KD I' o aZ X.A.in1 (by show X.A.units+1+12<cLine;lia) h1.1 h2.1 r1 r2 v1 v2 hk X.prog X.w E Q q
  ·cases h
theorem KQ {o:jE} {xs:List V} {ds:List D} {its:List Value} {d:D} (r:b_ All H xs ds) (vr:Vals xs its) (h:pL o ds=.ok d) {v:Value} (hv:its.toArray[argBest (btD o ds) (its.length-1)]?=some v):∃w,RelV w v/\Rep All H w d:=by
 have hv':its[argBest (btD o ds) (its.length-1)]?=some v:=by simpa using hv
 cases ds with
 | nil=>cases h
 | cons x xs'=>
  simp only [pL] at h;split at h
  ·cases h;have hl:its.length-1=xs'.length:=by rw [<-vr.length,r.length];simp
   rw [hl] at hv';have fb:=DR o x xs' xs'.length (Nat.le_refl _);rw [List.take_length] at fb;have hlt:argBest (btD o (x::xs')) xs'.length<its.length:=(List.getElem?_eq_some_iff.mp hv').1;have hlt':argBest (btD o (x::xs')) xs'.length<(x::xs').length:=by rw [<-r.length,vr.length];exact hlt
   obtain ⟨w,h1,h2⟩:=r.get (i:=argBest (btD o (x::xs')) xs'.length) (d:=(x::xs')[argBest (btD o (x::xs')) xs'.length]) (by simp [hlt']);obtain ⟨u,h3,h4⟩:=vr.get h1;rw [hv'] at h3;cases h3;refine ⟨w,h4,?_⟩;rw [fb,List.getD_eq_getElem?_getD,List.getElem?_eq_getElem hlt'];exact h2
  ·cases h
theorem Gds.grow {s':Shared} {h1:Heap} {tk1:Nat} (g:Gds s s') {wq:List Addr} {n:Nat} (hw:∀b∈wq,s.heap.objs.size<=b) (hn:s.heap.objs.size<=n)
  (kk:∀b o,b∉wq->b<n->s'.heap.get? b=some o->h1.get? b=some o):Gds s {s' with heap:=h1,toks:=tk1}:=by
 obtain ⟨h',tk,rfl,hk⟩:=g;refine ⟨h1,tk1,rfl,fun b o e=>kk b o (fun hb=>?_) (Nat.lt_of_lt_of_le (Heap.lt_size e) hn) (hk b o e)⟩;exact absurd (Nat.lt_of_lt_of_le (Heap.lt_size e) (hw b hb)) (Nat.lt_irrefl _)
end
section
variable {X:Cx}
theorem O2 {o:jE} {ds:List D} {d:D} (h:pL o ds=.ok d):0<ds.length:=by
 cases ds with
 | nil=>cases h
 | cons _ _=>simp
structure Mms (o:jE) (nm:String):Prop where
 walk:∀{prog:Program} {w:World} {A:Around} {Q:Value->Shared->Prop} {E:Value->Shared->Prop} {s:Shared} {x:Value},wpAny (model prog w) A.in1 (pyIter x) (Mm.Seen prog w A.in1 o.op Q) E s->wpAny (model prog w) A (call (.builtin nm) [x]) Q E s
 two:∀{prog:Program} {w:World} {A:Around} {Q:Value->Shared->Prop} {E:Value->Shared->Prop} {s:Shared} {a b:Value},wpAny (model prog w) A.in1 (pyIter (.ref s.heap.objs.size)) (Mm.Seen prog w A.in1 o.op Q) E {s with heap:=s.heap.push {cls:=.type "tuple",data:=.seq #[a,b]}}->wpAny (model prog w) A (call (.builtin nm) [a,b]) Q E s
theorem WK {o:jE} {nm:String} (M:Mms o nm) (hu:X.A.units+20<cLine) (hc:X.calm=true) {pins:List (Addr×Obj)} {σ:L2.St} {H:Hp} {s:Shared} {l:Addr} {xs:List V} {ds:List D} {d:D} {Q:VK} (I:Inv X pins σ H s) (hl:SqL X.K H l xs) (r:b_ All H xs ds) (h:pL o ds=.ok d) (q:kR H d false Q) :
  wpAny (model X.prog X.w) X.A (call (.builtin nm) [.ref l]) (EP X pins σ Q) X.xe s:=by
 obtain ⟨its,vr,pl⟩:=oA I hl;have hlt:l<s.heap.objs.size:=by obtain ⟨_,e,_⟩:=pl;exact Heap.lt_size e
 refine M.walk (wpAny_pyIter_list pl ?_);refine ⟨_,_,_,_,_,_,btD o ds,rfl,Walks.list (A:=X.A.in1) (I.ok.hd hc) _ l (Nat.ne_of_lt hlt) its.toArray,⟨⟨_,Heap.get?_push_size _ rfl,rfl,rfl⟩,pl.push _⟩,fun b hb=>?_,by rw [List.size_toArray,<-vr.length,r.length];exact O2 h,⟨Gds s,⟨_,s.toks,rfl,fun b o e=>Heap.get?_push_of_some _ e⟩,fun s' h' tk g kk=>g.grow (wq:=[s.heap.objs.size]) (n:=s.heap.objs.size+1) (fun b hb=>?_) (Nat.le_succ _) fun b o h1 h2 e=>kk b o h1 (by show b<(s.heap.push _).objs.size;rw [Heap.size_push];exact h2) e,fun i j vi vj s' Q E g h1 h2 q=>zF I hu r vr h i j vi vj s' Q E g h1 h2 q⟩,fun v h' tk hP hk=>?_⟩
 ·show b<(s.heap.push _).objs.size;rw [Heap.size_push];rcases List.mem_cons.mp hb with rfl|hb
  ·exact Nat.lt_succ_self _
  ·rcases List.mem_cons.mp hb with rfl|hb
   ·exact Nat.lt_succ_of_lt hlt
   ·cases hb
 ·rcases List.mem_cons.mp hb with rfl|hb
  ·exact Nat.le_refl _
  ·cases hb
 ·obtain ⟨w,v1,r1⟩:=KQ r vr h (by simpa using hP);refine ⟨w,H,I.kept fun b o e=>hk b o (fun hb=>?_) (Heap.get?_push_of_some _ e),v1,q.self r1 fun z=>by cases z⟩;rcases List.mem_cons.mp hb with rfl|hb
  ·exact absurd (Heap.lt_size e) (Nat.lt_irrefl _)
  ·cases hb
theorem WL {o:jE} {nm:String} (M:Mms o nm) (hu:X.A.units+20<cLine) (hc:X.calm=true) {pins:List (Addr×Obj)} {σ:L2.St} {H:Hp} {s:Shared} {l:Addr} {xs:List V} {ds:List D} {d:D} {Q:VK} (I:Inv X pins σ H s) (hl:H l=some (.tup xs)) (r:b_ All H xs ds) (h:pL o ds=.ok d) (q:kR H d false Q) :
  wpAny (model X.prog X.w) X.A (call (.builtin nm) [.ref l]) (EP X pins σ Q) X.xe s:=by
 obtain ⟨its,vr,pl⟩:=iU I hl;have hlt:l<s.heap.objs.size:=by obtain ⟨_,e,_⟩:=pl;exact Heap.lt_size e
 refine M.walk (wpAny_pyIter_tuple pl ?_);refine ⟨_,_,_,_,_,_,btD o ds,rfl,Walks.tuple (A:=X.A.in1) (I.ok.hd hc) _ l (Nat.ne_of_lt hlt) its.toArray,⟨⟨_,Heap.get?_push_size _ rfl,rfl,rfl⟩,pl.push _⟩,fun b hb=>?_,by rw [List.size_toArray,<-vr.length,r.length];exact O2 h,⟨Gds s,⟨_,s.toks,rfl,fun b o e=>Heap.get?_push_of_some _ e⟩,fun s' h' tk g kk=>g.grow (wq:=[s.heap.objs.size]) (n:=s.heap.objs.size+1) (fun b hb=>?_) (Nat.le_succ _) fun b o h1 h2 e=>kk b o h1 (by show b<(s.heap.push _).objs.size;rw [Heap.size_push];exact h2) e,fun i j vi vj s' Q E g h1 h2 q=>zF I hu r vr h i j vi vj s' Q E g h1 h2 q⟩,fun v h' tk hP hk=>?_⟩
 ·show b<(s.heap.push _).objs.size;rw [Heap.size_push];rcases List.mem_cons.mp hb with rfl|hb
  ·exact Nat.lt_succ_self _
  ·rcases List.mem_cons.mp hb with rfl|hb
   ·exact Nat.lt_succ_of_lt hlt
   ·cases hb
 ·rcases List.mem_cons.mp hb with rfl|hb
  ·exact Nat.le_refl _
  ·cases hb
 ·obtain ⟨w,v1,r1⟩:=KQ r vr h (by simpa using hP);refine ⟨w,H,I.kept fun b o e=>hk b o (fun hb=>?_) (Heap.get?_push_of_some _ e),v1,q.self r1 fun z=>by cases z⟩;rcases List.mem_cons.mp hb with rfl|hb
  ·exact absurd (Heap.lt_size e) (Nat.lt_irrefl _)
  ·cases hb
theorem WM {o:jE} {nm:String} (M:Mms o nm) (hu:X.A.units+20<cLine) (hc:X.calm=true) {pins:List (Addr×Obj)} {σ:L2.St} {H:Hp} {s:Shared} {x y:V} {u w:Value} {a b d:D} {Q:VK} (I:Inv X pins σ H s) (rx:Rep All H x a) (ry:Rep All H y b) (ru:RelV x u) (rw':RelV y w) (h:pL o [a,b]=.ok d) (q:kR H d false Q) :
  wpAny (model X.prog X.w) X.A (call (.builtin nm) [u,w]) (EP X pins σ Q) X.xe s:=by
 have r:b_ All H [x,y] [a,b]:=.cons rx (.cons ry .nil);have vr:Vals [x,y] [u,w]:=.cons ru (.cons rw' .nil);have pl:(s.heap.push {cls:=.type "tuple",data:=.seq #[u,w]}).IsTuple s.heap.objs.size [u,w].toArray:=⟨_,Heap.get?_push_size _ rfl,rfl,0,rfl⟩
 have hsz:(s.heap.push {cls:=.type "tuple",data:=.seq #[u,w]}).objs.size=s.heap.objs.size+1:=Heap.size_push ..;refine M.two (wpAny_pyIter_tuple pl ?_);refine ⟨_,_,_,_,_,_,btD o [a,b],rfl,Walks.tuple (A:=X.A.in1) (I.ok.hd hc) _ s.heap.objs.size (by rw [hsz];exact Nat.ne_of_lt (Nat.lt_succ_self _)) [u,w].toArray,⟨⟨_,Heap.get?_push_size _ rfl,rfl,rfl⟩,pl.push _⟩,fun b hb=>?_,by simp,⟨Gds s,⟨_,s.toks,rfl,fun b o e=>Heap.get?_push_of_some _ (Heap.get?_push_of_some _ e)⟩,fun s' h' tk g kk=>g.grow (wq:=[s.heap.objs.size+1]) (n:=s.heap.objs.size+2) (fun b hb=>?_) (by lia) fun b o h1 h2 e=>kk b o (by rw [hsz];exact h1) (by show b<((s.heap.push _).push _).objs.size;rw [Heap.size_push,hsz];exact h2) e,fun i j vi vj s' Q E g h1 h2 q=>zF I hu r vr h i j vi vj s' Q E g h1 h2 q⟩,fun v h' tk hP hk=>?_⟩
 ·show b<((s.heap.push _).push _).objs.size;rw [Heap.size_push,hsz];rcases List.mem_cons.mp hb with rfl|hb
  ·rw [hsz];exact Nat.lt_succ_self _
  ·rcases List.mem_cons.mp hb with rfl|hb
   ·exact Nat.lt_succ_of_lt (Nat.lt_succ_self _)
   ·cases hb
 ·rcases List.mem_cons.mp hb with rfl|hb
  ·lia
  ·cases hb
 ·obtain ⟨w,v1,r1⟩:=KQ r vr h (by simpa using hP);refine ⟨w,H,I.kept fun b o e=>hk b o (fun hb=>?_) (Heap.get?_push_of_some _ (Heap.get?_push_of_some _ e)),v1,q.self r1 fun z=>by cases z⟩;rcases List.mem_cons.mp hb with hb|hb
  ·have:=Heap.lt_size e;rw [hb,hsz] at this;exact absurd this (Nat.not_lt.mpr (Nat.le_succ _))
  ·cases hb
theorem aGf {o:jE} {nm:String} (M:Mms o nm) (hu:X.A.units+20<cLine) (hc:X.calm=true):lG X (.builtin nm) (rs (cP o) false):=by
 intro pins s σ H xs us Q I vr ⟨ds,d,r,e,k⟩;unfold cP at e;split at e
 ·cases r with
  | cons r t=>
   cases t;cases vr with
   | cons v vt=>
    cases vt;obtain ⟨l,ys,rfl,hl,rr⟩:=r.jR (K:=X.K);cases v;exact WK M hu hc I hl rr e k
 ·cases r with
  | cons r t=>
   cases t;cases vr with
   | cons v vt=>
    cases vt;obtain ⟨l,ys,rfl,hl,rr⟩:=r.gQ;cases v;exact WL M hu hc I hl rr e k
 ·cases r with
  | cons r t=>
   cases t with
   | cons r' t=>
    cases t;cases vr with
    | cons v vt=>
     cases vt with
     | cons v' vt=>
      cases vt;exact WM M hu hc I r r' v v' e k
 ·cases e
theorem wY (hu:X.A.units+20<cLine) (hc:X.calm=true):lG X (.builtin "min") (rs (cP .lt) false):=aGf ⟨Mm.DP,Mm.KJ⟩ hu hc
theorem wZ (hu:X.A.units+20<cLine) (hc:X.calm=true):lG X (.builtin "max") (rs (cP .gt) false):=aGf ⟨Mm.DQ,Mm.KN⟩ hu hc
end
end Mi
end
section
namespace PySem.Mm
open PySem PyProof.Rows PySem.W
theorem DW {prog:Program} {w:World} {A:Around} {E:Value->Shared->Prop} {s:Shared} {Q:Value->Shared->Prop} {K:Type} [DecidableEq K] {knd:KeyKind prog w K} {d:Addr} {kvs:List (K×Value)} {ep n:Nat} (hh:A.handled=none) (lo:(d==sysModules)=false)
  (hm:s.heap.DictAt knd d kvs ep) (hn:kvs.length=n) (hl:n<=2 ^ 24)
  (q:∀h' tk acc c,(∀b o,s.heap.get? b=some o->h'.get? b=some o)->h'.get? s.heap.objs.size=some {cls:=.type "list",dict:=none,data:=.seq acc c,slots:=#[]}->
   ItemsOf (fun i v=>∃k x,kvs[i]?=some (k,x)/\knd.is k v=true) acc n->Q (.ref s.heap.objs.size) {s with heap:=h',toks:=tk}):wpAny (model prog w) A (call (.type "list") [.ref d]) Q E s:=by
 subst hn;exact kdl_call (kdl_dict lo) hh hm (kdl_size hl) q
end PySem.Mm
end
section
namespace Mi
open PySem L2 PySem.SeqAt PySem.Spec PyProof.Rows
variable [KFrag]
section
variable {X:Cx} {a b c e:Expr} {es:List Expr} {pos p:Pos} {fa fb fc fe:FE} {ra rb rc re:Bool} {fs:FA} {rr:Bool} {x:Str} {id T:String}
theorem jF {P:Addr->Prop} {H:Hp} {xs:List V} {us:List Value} {d:D} (r:b_ P H xs [d]) (vr:Vals xs us):∃v u,xs=[v]/\us=[u]/\Rep P H v d/\RelV v u:=by
 cases r with
 | cons r t=>
  cases t;cases vr with
  | cons v vt=>
   cases vt;exact ⟨_,_,rfl,rfl,r,v⟩
theorem O3 {f:List D->Res D} {fr:Bool} {σ:L2.St} {H:Hp} {Q:VK} (h:gE (aL f fs) fr σ H Q):tCB (rs f fr) (gA fs rr) σ H Q:=by
 obtain ⟨ρ,d,E,h,q⟩:=h;obtain ⟨ds,h1,h2⟩:=bO h;exact ⟨ρ,ds,E,h1,fun vs H1 s1 r1 _=>⟨ds,d,r1,h2,q.imp s1 id⟩⟩
theorem aV {f:List D->Res D} {fr:Bool} (hc:lG X (.builtin id) (rs f fr)) (hg:Gl X x) (hm:X.mg x=none) (hv:bootBuiltins x=some (.builtin id)) (ha:PA X (e::es) (gA fs rr)) (hn:x ≠ "__name__":=by decide) (hdb:nDb x:=by decide)
  (he:starEach (e::es) X.env=(false,eval e X.env)::starEach es X.env:=by rfl) (hpl:(backTo pos (starEach es X.env)).any (·.1)=false:=by rfl):PE X (.Call (.Name x p) (e::es) [] pos) (gE (aL f fs) fr):=
 PE.imp (NB hc hg hm hv ha hn hdb he hpl) fun _ _ _=>O3
theorem bR {f:List D->Res D} {fr:Bool} (hc:lG X (.type T) (rs f fr)) (hg:Gl X x) (hm:X.mg x=none) (hv:bootBuiltins x=some (.type T)) (ha:PA X (e::es) (gA fs rr)) (hn:x ≠ "__name__":=by decide) (hdb:nDb x:=by decide)
  (he:starEach (e::es) X.env=(false,eval e X.env)::starEach es X.env:=by rfl) (hpl:(backTo pos (starEach es X.env)).any (·.1)=false:=by rfl):PE X (.Call (.Name x p) (e::es) [] pos) (gE (aL f fs) fr):=
 PE.imp (UJ hc hg hm hv ha hn hdb he hpl) fun _ _ _=>O3
theorem dZ (hK:KFrag.K=X.K):lG X (.builtin "len") (rs iD true):=by
 intro pins s σ H xs us Q I vr ⟨ds,d,r,e,k⟩;unfold iD at e;split at e
 ·cases e;obtain ⟨vv,uu,rfl,rfl,r,v⟩:=jF r vr;obtain ⟨l,ys,rfl,hl,rr⟩:=r.gQ;cases v;exact j8 pins s σ H [.ref l] [.ref l] Q I (.cons rfl .nil) ⟨l,ys,rfl,.inr (.of hl),by rw [rr.length];exact k.int⟩
 ·cases e;obtain ⟨vv,uu,rfl,rfl,r,v⟩:=jF r vr;obtain ⟨l,ys,rfl,hl,rr⟩:=r.jR (K:=X.K);cases v;exact j8 pins s σ H [.ref l] [.ref l] Q I (.cons rfl .nil) ⟨l,ys,rfl,.inl hl,by rw [rr.length];exact k.int⟩
 ·cases e;obtain ⟨vv,uu,rfl,rfl,r,v⟩:=jF r vr;cases r with
  | @frz l xs ds ee rr=>
   cases v;exact j8 pins s σ H [.ref l] [.ref l] Q I (.cons rfl .nil) ⟨l,xs,rfl,.inl (ee.sq hK),by rw [rr.length];exact k.int⟩
 ·cases e;obtain ⟨vv,uu,rfl,rfl,r,v⟩:=jF r vr;cases r with
  | cel ee pp rr=>
   cases v;exact j8 pins s σ H [.ref _] [.ref _] Q I (.cons rfl .nil) ⟨_,_,rfl,.inl (.inl (.inl ee)),by rw [rr.length];exact k.int⟩
 ·split at e
  ·rename_i hl;cases e;obtain ⟨vv,uu,rfl,rfl,r,v⟩:=jF r vr;cases r;exact CG pins s σ H _ _ Q I (.cons v .nil) ⟨_,rfl,qR hl,k.int⟩
  ·cases e
 ·cases e
theorem nM.keys {P P':Addr->Prop} {H:Hp}:∀{kvs:List (Key×V)} {ds:List (D×D)},nM P H kvs ds->b_ P' H (kvs.map fun p=>kV p.1) (eO ds)
 | _,_,.nil=>.nil
 | _,_,.cons (k:=k) _ t=>.cons (by cases k <;> first|exact .int _|exact .str _) t.keys
theorem list_dict {pins:List (Addr×Obj)} {s:Shared} {σ:L2.St} {H:Hp} {l:Addr} {kvs:List (Key×V)} (hc:X.calm=true) (I:Inv X pins σ H s) (e:H l=some (.dK kvs)) {Q:Value->Shared->Prop}
  (q:∀p s',H p=none->Inv X pins σ (upd H p (.lst (kvs.map fun p=>kV p.1))) s'->(∀l0 o0,H l0=some o0->l0≠p)->Q (.ref p) s'):wpAny (model X.prog X.w) X.A (call (.type "list") [.ref l]) Q X.xe s:=by
 obtain ⟨z,hd,vs,rel,dd⟩:=CN I.hok e;obtain ⟨ep,da⟩:=dd.dictAt;have hlen:kvs.length=vs.length:=Paired.length rel;refine Mm.DW (I.ok.hd hc) hd da rfl (by rw [<-hlen];rw [sizeLine_eq] at z;lia) fun h' tk acc' c' kp e1 it=>?_
 obtain ⟨i1,i2⟩:=it;have hfr:H s.heap.objs.size=none:=I.hok.fresh (Nat.le_refl _);refine q _ _ hfr (I.laid (t':=tk) kp (Nat.le_refl _) ?_) fun l0 o0 h0=>e_ h0 hfr
 refine ⟨by rw [List.length_map];exact z,acc'.toList,c',?_,by simpa using e1⟩;have gen:∀(kvs:List (Key×V)) (vs:List (Key×Value)) (xs:List Value),KV kvs vs->xs.length=vs.length->(∀(j:Nat) (v:Value),xs[j]?=some v->∃k x,vs[j]?=some (k,x)/\(cY X.prog X.w).is k v=true)->Vals (kvs.map fun p=>kV p.1) xs:=by
  intro kvs vs xs rel;induction rel generalizing xs with
  | nil=>intro hl _;cases xs with|nil=>exact .nil|cons _ _=>simp at hl
  | @cons p q ps qs hpq t ih=>
   intro hl g;cases xs with
   | nil=>simp at hl
   | cons x xs=>
    refine .cons ?_ (ih xs (by simpa using hl) fun j v hv=>g (j+1) v (by simpa using hv));obtain ⟨k,x',h1,h2⟩:=g 0 x rfl;have h1':q=(k,x'):=by simpa using h1
    show RelV (kV p.1) x;rw [hpq.1,h1'];rcases dB h2 with ⟨i,t,rfl,rfl⟩|⟨i,t,rfl,rfl⟩
    ·exact ⟨t,rfl⟩
    ·exact ⟨t,rfl⟩
 exact gen kvs vs acc'.toList rel (by simpa using i1) fun j v hv=>i2 j v (by simpa using hv)
theorem zG (hc:X.calm=true):lG X (.type "list") (rs v9 true):=by
 intro pins s σ H xs us Q I vr ⟨ds,d,r,e,k⟩;unfold v9 at e;split at e
 ·split at e
  ·rename_i hl;cases e;obtain ⟨vv,uu,rfl,rfl,r,v⟩:=jF r vr;obtain ⟨l,ys,rfl,hl',rr⟩:=r.gQ;cases v;refine sY pins s σ H [.ref l] [.ref l] Q I (.cons rfl .nil) ⟨l,ys,rfl,.inr (.of hl'),fun p hp=>?_⟩;have sp:cZ H (upd H p (.lst ys)):=cZ.upd hp;exact k _ _ sp (.lst aM trivial (rr.same sp)) fun _=>.lst aM hp ((rr.cC hl).same sp)
  ·cases e
 ·split at e
  ·rename_i hl;cases e;obtain ⟨vv,uu,rfl,rfl,r,v⟩:=jF r vr;obtain ⟨l,ys,rfl,hl',rr⟩:=r.jR (K:=X.K);cases v;refine sY pins s σ H [.ref l] [.ref l] Q I (.cons rfl .nil) ⟨l,ys,rfl,.inl hl',fun p hp=>?_⟩;have sp:cZ H (upd H p (.lst ys)):=cZ.upd hp;exact k _ _ sp (.lst aM trivial (rr.same sp)) fun _=>.lst aM hp ((rr.cC hl).same sp)
  ·cases e
 ·split at e
  ·rename_i hl;cases e;obtain ⟨vv,uu,rfl,rfl,r,v⟩:=jF r vr;cases r with
   | @dK l kvs ds e _ r n=>
    cases v;refine list_dict hc I e fun p s' hp I' _=>⟨.ref p,_,I',rfl,?_⟩
    have sp:cZ H (upd H p (.lst (kvs.map fun p=>kV p.1))):=cZ.upd hp;exact k _ _ sp (.lst aM trivial (r.keys.same sp)) fun _=>.lst aM hp (r.keys.same sp)
   | @dT l kvs ds e _ r n=>
    cases v;cases r with
    | cons r t=>simp [isTup] at hl
    | nil=>
     have e2:=zA (o':=.dK []) e;refine list_dict hc (lJ I e) aM fun p s' hp I' hne=>?_
     have hp':p≠l:=fun z=>by subst z;rw [aM] at hp;cases hp
     have hpn:H p=none:=by rw [bJ hp'] at hp;exact hp
     have hcm:upd (upd (upd H l (.dK [])) p (.lst [])) l (.dT [])=upd H p (.lst []):=by
      funext b
      by_cases hb:b=l
      ·subst hb;rw [aM,bJ (Ne.symm hp'),e]
      ·rw [bJ hb];by_cases hb2:b=p
       ·subst hb2;rw [aM,aM]
       ·rw [bJ hb2,bJ hb2,bJ hb]
     have I2:=o6 I' (a:=l) (by rw [bJ (Ne.symm hp'),aM]);have I3:Inv X pins σ (upd H p (.lst [])) s':=by
      have:Inv X pins σ (upd (upd (upd H l (.dK [])) p (.lst [])) l (.dT [])) s':=I2;rwa [hcm] at this
     have sp:cZ H (upd H p (.lst [])):=cZ.upd hpn;exact ⟨.ref p,_,I3,rfl,k _ _ sp (.lst aM trivial .nil) fun _=>.lst aM hpn .nil⟩
  ·cases e
 ·cases e
theorem fW:lG X (.type "tuple") (rs gP false):=by
 intro pins s σ H xs us Q I vr ⟨ds,d,r,e,k⟩;unfold gP at e;split at e
 ·cases e;obtain ⟨vv,uu,rfl,rfl,r,v⟩:=jF r vr;obtain ⟨l,ys,rfl,hl',rr⟩:=r.gQ;cases v;exact qD pins s σ H [.ref l] [.ref l] Q I (.cons rfl .nil) ⟨l,ys,rfl,.inr ⟨.of hl',k.self (.tup hl' rr) fun z=>by cases z⟩⟩
 ·cases e;obtain ⟨vv,uu,rfl,rfl,r,v⟩:=jF r vr;obtain ⟨l,ys,rfl,hl',rr⟩:=r.jR (K:=X.K);cases v;refine qD pins s σ H [.ref l] [.ref l] Q I (.cons rfl .nil) ⟨l,ys,rfl,.inl ⟨hl',fun p hp=>?_⟩⟩;have sp:cZ H (upd H p (.tup ys)):=cZ.upd hp;exact k _ _ sp (.tup aM (rr.same sp)) fun z=>by cases z
 ·cases e
mutual
theorem xF:∀(d:D),d.plain=true->d.pure=true
 | .tup xs,h=>by rw [D.plain] at h;rw [D.pure];exact tD xs h
 | .int _,_=>rfl
 | .str _,_=>rfl
 | .uD,h=>by simp [D.plain] at h
 | .non,_=>rfl
 | .bl _,_=>rfl
 | .lst _,h=>by simp [D.plain] at h
 | .dct _,h=>by simp [D.plain] at h
 | .scr _,h=>by simp [D.plain] at h
 | .fdc _,h=>by simp [D.plain] at h
 | .cel _ _,h=>by simp [D.plain] at h
theorem tD:∀(ds:List D),D.iH ds=true->D.a_ ds=true
 | [],_=>rfl
 | x::xs,h=>by rw [D.iH,Bool.and_eq_true] at h;rw [D.a_,Bool.and_eq_true];exact ⟨xF x h.1,tD xs h.2⟩
end
theorem uW {ds:List D} (h:bI ds=true):D.a_ (iR ds)=true:=lK.mpr fun d hd=>xF d (gG h ((dW ds).mem_iff.mp hd)).1
theorem jY (hu:X.A.units+20<cLine):lG X (.builtin "sorted") (rs fL true):=by
 intro pins s σ H xs us Q I vr ⟨ds,d,r,e,k⟩;unfold fL at e;split at e
 ·split at e
  ·rename_i hl;cases e;obtain ⟨vv,uu,rfl,rfl,r,v⟩:=jF r vr;obtain ⟨l,ys,rfl,hl',rr⟩:=r.jR (K:=X.K);cases v;refine RN I hu hl' rr hl fun p xs' hp r'=>?_
   have sp:cZ H (upd H p (.lst xs')):=cZ.upd hp;exact k _ _ sp (.lst aM trivial (r'.same sp)) fun _=>.lst aM hp ((r'.cC (uW hl)).same sp)
  ·cases e
 ·cases e
theorem isi {pins:List (Addr×Obj)} {s:Shared} {σ:L2.St} {H:Hp} {v:V} {u:Value} {d:D} {t:Ty} {k:Bool} (I:Inv X pins σ H s) (r:Rep All H v d) (ru:RelV v u) (h:VJ t d=.ok k) {Q:Value->Shared->Prop}
  (q:∀tk,Q (.bool k) {s with toks:=tk}):wpAny (model X.prog X.w) X.A (call (.builtin "isinstance") [u,.type t.nm]) Q X.xe s:=by
 have q0:Q (.bool k) s:=q s.toks;cases r with
 | non=>cases ru;cases t <;> simp only [VJ] at h <;> cases h <;> first|exact IsiPair.NoneType_int (q _)|exact IsiPair.NoneType_str (q _)|exact IsiPair.NoneType_bool (q _)|exact IsiPair.NoneType_list (q _)|exact IsiPair.NoneType_tuple (q _)|exact IsiPair.NoneType_dict (q _)
 | bl b=>cases ru;cases t <;> simp only [VJ] at h <;> cases h <;> first|exact IsiPair.bool_int q0|exact IsiPair.bool_str (q _)|exact IsiPair.bool_bool q0|exact IsiPair.bool_list (q _)|exact IsiPair.bool_tuple (q _)|exact IsiPair.bool_dict (q _)
 | int b=>obtain ⟨tt,rfl⟩:=ru;cases t <;> simp only [VJ] at h <;> cases h <;> first|exact IsiPair.int_int q0|exact IsiPair.int_str (q _)|exact IsiPair.int_bool (q _)|exact IsiPair.int_list (q _)|exact IsiPair.int_tuple (q _)|exact IsiPair.int_dict (q _)
 | str b=>obtain ⟨tt,rfl⟩:=ru;cases t <;> simp only [VJ] at h <;> cases h <;> first|exact IsiPair.str_int (q _)|exact IsiPair.str_str q0|exact IsiPair.str_bool (q _)|exact IsiPair.str_list (q _)|exact IsiPair.str_tuple (q _)|exact IsiPair.str_dict (q _)
 | tup e rr=>
  cases ru;obtain ⟨its,vr,o,ho,hc,_⟩:=iU I e;cases t <;> simp only [VJ] at h <;> cases h <;> first|exact IsiPair.tuple_int ho hc (q _)|exact IsiPair.tuple_str ho hc (q _)|exact IsiPair.tuple_bool ho hc (q _)|exact IsiPair.tuple_list ho hc (q _)|exact IsiPair.tuple_tuple ho hc q0|exact IsiPair.tuple_dict ho hc (q _)
 | lst e p rr=>
  cases ru;obtain ⟨its,vr,o,ho,hc,_⟩:=oA I (.of e);cases t <;> simp only [VJ] at h <;> cases h <;> first|exact IsiPair.list_int ho hc (q _)|exact IsiPair.list_str ho hc (q _)|exact IsiPair.list_bool ho hc (q _)|exact IsiPair.list_list ho hc q0|exact IsiPair.list_tuple ho hc (q _)|exact IsiPair.list_dict ho hc (q _)
 | frz e rr=>cases t <;> cases h
 | fdK e rr n=>cases t <;> cases h
 | fdT e rr n=>cases t <;> cases h
 | cel e p rr=>cases t <;> cases h
 | dK e p rr n=>
  cases ru;obtain ⟨_,_,_,_,o,_,_,ho,hx,_⟩:=CN I.hok e;have hc:=hx.1;cases t <;> simp only [VJ] at h <;> cases h <;> first|exact IsiPair.dict_int ho hc (q _)|exact IsiPair.dict_str ho hc (q _)|exact IsiPair.dict_bool ho hc (q _)|exact IsiPair.dict_list ho hc (q _)|exact IsiPair.dict_tuple ho hc (q _)|exact IsiPair.dict_dict ho hc q0
 | dT e p rr n=>
  cases ru;obtain ⟨_,_,_,_,o,_,_,ho,hx,_⟩:=Z6 I.hok e;have hc:=hx.1;cases t <;> simp only [VJ] at h <;> cases h <;> first|exact IsiPair.dict_int ho hc (q _)|exact IsiPair.dict_str ho hc (q _)|exact IsiPair.dict_bool ho hc (q _)|exact IsiPair.dict_list ho hc (q _)|exact IsiPair.dict_tuple ho hc (q _)|exact IsiPair.dict_dict ho hc q0
noncomputable def aK2 (t:Ty):List V->Hp->VK->Prop:=fun xs H Q=>∃v d k,xs=[v,.ty t.nm]/\Rep All H v d/\VJ t d=.ok k/\Q (.bl k) H
theorem aGg (t:Ty):lG X (.builtin "isinstance") (aK2 t):=by
 intro pins s σ H xs us Q I vr ⟨v,d,k,e,r,h,q⟩;subst e;cases vr with
 | cons rv vt=>
  cases vt with
  | cons rt vt=>
   cases vt;cases rt;exact isi I r rv h fun tk=>⟨.bl k,H,I.tok tk,rfl,q⟩
theorem aGh (t:Ty) {y:Str} {p2:Pos} (ha:PE X a (gE fa ra)) (hg:Gl X "isinstance") (hm:X.mg "isinstance" = none) (hv:bootBuiltins "isinstance" = some (.builtin "isinstance")) (gy:Gl X y) (my:X.mg y=none) (vy:bootBuiltins y=some (.type t.nm))
  (hy:y ≠ "__name__":=by decide) (hyd:(y==("__debug__" : Str))=false:=by decide)
  (he:starEach [a,.Name y p2] X.env=(false,eval a X.env)::starEach [.Name y p2] X.env:=by rfl) (he2:starEach [.Name y p2] X.env=(false,eval (.Name y p2) X.env)::starEach [] X.env:=by rfl)
  (hpl:(backTo pos (starEach [.Name y p2] X.env)).any (·.1)=false:=by rfl):PE X (.Call (.Name "isinstance" p) [a,.Name y p2] [] pos) (gE (b1 (aG0 t) fa) true):=
 PE.imp (NB (aGg t) hg hm hv (kY ha (kY (aCu gy my vy (v:=.ty t.nm) rfl hy hyd) uB he2) he) (by decide) (by decide) he hpl) fun σ H Q ⟨ρ,d,E,h,q⟩=>by
  obtain ⟨x,h1,h⟩:=bO h;obtain ⟨k,h2,h⟩:=bO h;cases h;exact ⟨ρ,x,E,h1,fun v H1 s1 r1 _=>⟨v,x,k,rfl,r1,h2,(q.imp s1 id).bl⟩⟩
noncomputable def spD (f:List D->Res D) (n:Nat):Sp:=fun vs H Q _=>∃ds d,ds.length=n/\b_ All H vs ds/\f ds=.ok d/\kR H d true Q
theorem WN {f:List D->Res D} {n:Nat} {vs:List V} {H:Hp} {Q:VK} {E:XK} (h:spD f n vs H Q E):vs.length=n:=by
 obtain ⟨ds,d,h1,r,_⟩:=h;rw [r.length,h1]
theorem aDo {k:Nat} {fad:Addr} {fd:FuncData} {ps:List Str} {f:List D->Res D} {n:Nat} (F:HY X.prog X.w X.K X.mg X.base CX0 k fad fd ps (spD f n)) (hr:rM k X.A) (hg:Gl X x) (hm:X.mg x=some (.ref fad)) (hk:PySem.W.keepIn X.K (.ref fad)=true) (hb:Binds X.K fd ps [])
  (ha:PA X (e::es) (gA fs rr)) (hdb:nDb x:=by decide) (he:starEach (e::es) X.env=(false,eval e X.env)::starEach es X.env:=by rfl) (hpl:(backTo pos (starEach es X.env)).any (·.1)=false:=by rfl) :
  PE X (.Call (.Name x p) (e::es) [] pos) (gE (aL (dI n f) fs) true):=
 PE.imp (JF F hr hg hm hk hb .nil aIc ha hdb he hpl) fun σ H Q ⟨ρ,d,E,h,q⟩=>by
  obtain ⟨ds,h1,h⟩:=bO h;unfold dI at h;split at h
  ·rename_i hl;exact ⟨ρ,ds,E,h1,fun vs H1 s1 r1 _=>⟨ds,d,of_decide_eq_true hl,by rw [List.append_nil];exact r1,h,q.imp s1 id⟩⟩
  ·cases h
end
end Mi
end
section
namespace Mi
open PySem L2 PySem.SeqAt PySem.Spec PyProof.Rows
def O4 (x:Str):List D:=x.cps.toList.map fun c=>D.str ⟨#[c]⟩
def WP (xs:List D):List D:=xs.zipIdx.map fun p=>.tup [.int p.2,p.1]
def aHp (xs ys:List D):List D:=(xs.zip ys).map fun p=>.tup [p.1,p.2]
noncomputable def aAf (m:Nat) (xs:List D):List D:=xs.zipIdx.map fun p=>.tup [.int ((m+p.2:Nat):Int),p.1]
variable [KFrag]
noncomputable def aK3 (x:Str):It:=⟨fun i _=>i<x.cps.size,fun i H v H'=>H'=H/\∃c,x.cps[i]?=some c/\v=.str ⟨#[c]⟩,fun i _=>x.cps.size<=i⟩
noncomputable def Ite (K:PySem.W.Frag) (a:Addr):It:=
 ⟨fun i H=>∃xs x,SqL K H a xs/\xs[i]?=some x,fun i H v H'=>∃t x,(∀xs,SqL K H a xs->xs[i]?=some x)/\v=.ref t/\H t=none/\H'=upd H t (.tup [.int i,x]),fun i H=>∃xs,SqL K H a xs/\xs.length<=i⟩
noncomputable def aK4 (K:PySem.W.Frag) (m:Nat) (a:Addr):It:=
 ⟨fun i H=>∃xs x,SqL K H a xs/\xs[i]?=some x,fun i H v H'=>∃t x,(∀xs,SqL K H a xs->xs[i]?=some x)/\v=.ref t/\H t=none/\H'=upd H t (.tup [.int ((m+i:Nat):Int),x]),fun i H=>∃xs,SqL K H a xs/\xs.length<=i⟩
noncomputable def Itz (a b:Addr):It :=
  ⟨fun i H => ∃xs ys x y, H a=some (.tup xs) /\ H b=some (.tup ys) /\ xs[i]?=some x /\ ys[i]?=some y, fun i H v H' => ∃t x y, (∀xs, H a=some (.tup xs) -> xs[i]?=some x) /\ (∀ys, H b=some (.tup ys) -> ys[i]?=some y) /\ v=.ref t /\ H t=none /\ H'=upd H t (.tup [x, y]),
   fun i H => ∃xs ys, H a=some (.tup xs) /\ H b=some (.tup ys) /\ ys.length=xs.length /\ xs.length <= i⟩
theorem aAg {m:Nat} {xs:List D} {i:Nat}:(aAf m xs)[i]?=(xs[i]?).map fun d=>.tup [.int ((m+i:Nat):Int),d]:=by
 unfold aAf;rw [List.getElem?_map,List.getElem?_zipIdx,Nat.zero_add];cases xs[i]? <;> rfl
theorem aAh {xs:List D} {i:Nat}:(WP xs)[i]?=(xs[i]?).map fun d=>.tup [.int i,d]:=by
 unfold WP;rw [List.getElem?_map,List.getElem?_zipIdx,Nat.zero_add];cases xs[i]? <;> rfl
theorem WQ (xs:List D):(WP xs).length=xs.length:=by simp [WP]
inductive ItQ (K:PySem.W.Frag) (P:Addr->Prop) (J:It) (H:Hp) (items:List D):Prop
 | lst (a:Addr) (e:J=Itl K a) (r:Rep P H (.ref a) (.lst items))
 | tup (a:Addr) (e:J=Itt K a) (r:Rep P H (.ref a) (.tup items))
 | rng (lo:Int) (n:Nat) (e:J=Itr lo n) (r:items=(List.range n).map fun (k:Nat)=>D.int (lo+k))
 | chs (x:Str) (e:J=aK3 x) (r:items=O4 x)
 | enm (a:Addr) (ds:List D) (e:J=Ite K a) (r:Rep P H (.ref a) (.lst ds)) (h:items=WP ds)
 | enf (m:Nat) (a:Addr) (ds:List D) (e:J=aK4 K m a) (r:Rep P H (.ref a) (.lst ds)) (h:items=aAf m ds)
 | scr (a:Addr) (hK:KFrag.K=K) (e:J=Itl K a) (r:Rep P H (.ref a) (.scr items))
 | zip (a b:Addr) (ds es:List D) (e:J=Itz a b) (r:Rep P H (.ref a) (.tup ds)) (q:Rep P H (.ref b) (.tup es)) (n:es.length=ds.length) (h:items=aHp ds es)
theorem ItQ.keep {K:PySem.W.Frag} {P P':Addr->Prop} {J:It} {H H':Hp} {items:List D} (h:ItQ K P J H items) (k:aA5 P H H') (m:∀a,P a->P' a):ItQ K P' J H' items:=by
 cases h with
 | lst a e r=>exact .lst a e (r.keep k m)
 | tup a e r=>exact .tup a e (r.keep k m)
 | rng lo n e r=>exact .rng lo n e r
 | chs x e r=>exact .chs x e r
 | enm a ds e r h=>exact .enm a ds e (r.keep k m) h
 | enf m' a ds e r h=>exact .enf m' a ds e (r.keep k m) h
 | zip a b ds es e r q n h=>exact .zip a b ds es e (r.keep k m) (q.keep k m) n h
 | scr a hK e r=>exact .scr a hK e (r.keep k m)
theorem ItQ.stop {K:PySem.W.Frag} {P:Addr->Prop} {J:It} {H:Hp} {items:List D} {i:Nat} (h:ItQ K P J H items) (hi:items.length<=i):J.stop i H:=by
 cases h with
 | lst a e r=>
  subst e;obtain ⟨a',xs,e,hq,rr⟩:=r.jR (K:=K);cases e;exact ⟨xs,hq,by rw [rr.length];exact hi⟩
 | tup a e r=>
  subst e;obtain ⟨a',xs,e,hq,rr⟩:=r.gQ;cases e;exact ⟨xs,.of hq,by rw [rr.length];exact hi⟩
 | rng lo n e r=>
  subst e r;show n<=i;simpa using hi
 | chs x e r=>
  subst e r;show x.cps.size<=i;simpa [O4] using hi
 | enm a ds e r h=>
  subst e h;obtain ⟨a',xs,e,hq,rr⟩:=r.jR (K:=K);cases e;exact ⟨xs,hq,by rw [rr.length,<-WQ];exact hi⟩
 | enf m a ds e r h=>
  subst e h;obtain ⟨a',xs,e,hq,rr⟩:=r.jR (K:=K);cases e;exact ⟨xs,hq,by rw [rr.length];simpa [aAf] using hi⟩
 | zip a b ds es e r q n h=>
  subst e h;obtain ⟨a',xs,e,hq,rr⟩:=r.gQ;cases e;obtain ⟨b',ys,e,hq2,rr2⟩:=q.gQ;cases e;have:(aHp ds es).length=ds.length:=by simp [aHp,n]
  exact ⟨xs,ys,hq,hq2,by rw [rr.length,rr2.length];exact n,by rw [rr.length];lia⟩
 | scr a hK e r=>
  subst e;cases r with
  | frz ee rr=>exact ⟨_,ee.sq hK,by rw [rr.length];exact hi⟩
theorem ItQ.go {K:PySem.W.Frag} {P:Addr->Prop} {J:It} {H:Hp} {items:List D} {i:Nat} {d:D} (h:ItQ K P J H items) (hi:items[i]?=some d):J.go i H/\∀x H',J.yld i H x H'->cZ H H'/\Rep P H' x d:=by
 cases h with
 | lst a e r=>
  subst e;obtain ⟨a',xs,e,hq,rr⟩:=r.jR (K:=K);cases e;obtain ⟨v,h1,h2⟩:=rr.get hi;refine ⟨⟨xs,v,hq,h1⟩,fun x H' ⟨e,hy⟩=>?_⟩;subst e;refine ⟨cZ.refl _,?_⟩;have:=hy xs hq;rw [h1] at this;cases this;exact h2
 | tup a e r=>
  subst e;obtain ⟨a',xs,e,hq,rr⟩:=r.gQ;cases e;obtain ⟨v,h1,h2⟩:=rr.get hi;refine ⟨⟨xs,v,.of hq,h1⟩,fun x H' ⟨e,hy⟩=>?_⟩;subst e;refine ⟨cZ.refl _,?_⟩;have:=hy xs (.of hq);rw [h1] at this;cases this;exact h2
 | rng lo n e r=>
  subst e r;have hlt:i<n:=by
   have:=(List.getElem?_eq_some_iff.mp hi).1;simpa using this
  refine ⟨hlt,fun x H' ⟨e,hy⟩=>?_⟩;subst e;have e2:D.int (lo+(i:Int))=d:=by simpa [hlt] using hi
  rw [hy,<-e2];exact ⟨cZ.refl _,.int _⟩
 | chs z e r=>
  subst e r;have hlt:i<z.cps.size:=by
   have:=(List.getElem?_eq_some_iff.mp hi).1;simpa [O4] using this
  refine ⟨hlt,fun x H' ⟨e,c,hc,hv⟩=>?_⟩;subst e hv;refine ⟨cZ.refl _,?_⟩;have e2:D.str ⟨#[c]⟩=d:=by
   unfold O4 at hi;rw [List.getElem?_map,Array.getElem?_toList,hc] at hi;simpa using hi
  rw [<-e2];exact .str _
 | enm a ds e r h=>
  subst e h;obtain ⟨a',xs,e,hq,rr⟩:=r.jR (K:=K);cases e;rw [aAh] at hi;cases hd:ds[i]? with
  | none=>rw [hd] at hi;cases hi
  | some y=>
   rw [hd] at hi;cases hi;obtain ⟨v,h1,h2⟩:=rr.get hd;refine ⟨⟨xs,v,hq,h1⟩,fun x H' ⟨t,u,hy,e1,e2,e3⟩=>?_⟩;subst e1 e3;have:=hy xs hq;rw [h1] at this;cases this;have sp:cZ H (upd H t (.tup [.int i,v])):=cZ.upd e2;exact ⟨sp,.tup aM (.cons (.int _) (.cons (h2.same sp) .nil))⟩
 | enf m a ds e r h=>
  subst e h;obtain ⟨a',xs,e,hq,rr⟩:=r.jR (K:=K);cases e;rw [aAg] at hi;obtain ⟨y,hd,rfl⟩:=Option.map_eq_some_iff.mp hi;obtain ⟨v,h1,h2⟩:=rr.get hd;refine ⟨⟨xs,v,hq,h1⟩,fun x H' ⟨t,u,hy,e1,e2,e3⟩=>?_⟩;subst e1 e3;have:=hy xs hq;rw [h1] at this;cases this;have sp:cZ H (upd H t (.tup [.int ((m+i:Nat):Int),v])):=cZ.upd e2;exact ⟨sp,.tup aM (.cons (.int _) (.cons (h2.same sp) .nil))⟩
 | zip a b ds es e r q n h=>
  subst e h;obtain ⟨a',xs,e,hq,rr⟩:=r.gQ;cases e;obtain ⟨b',ys,e,hq2,rr2⟩:=q.gQ;cases e;unfold aHp at hi;rw [List.getElem?_map] at hi;obtain ⟨⟨x,y⟩,hd,rfl⟩:=Option.map_eq_some_iff.mp hi;rw [List.getElem?_zip_eq_some] at hd;obtain ⟨v,h1,h2⟩:=rr.get hd.1;obtain ⟨v',h3,h4⟩:=rr2.get hd.2;refine ⟨⟨xs,ys,v,v',hq,hq2,h1,h3⟩,fun x H' ⟨t,u,u',hy,hy',e1,e2,e3⟩=>?_⟩;subst e1 e3;have z:=hy xs hq;rw [h1] at z;cases z;have z:=hy' ys hq2;rw [h3] at z;cases z;have sp:cZ H (upd H t (.tup [v,v'])):=cZ.upd e2;exact ⟨sp,.tup aM (.cons (h2.same sp) (.cons (h4.same sp) .nil))⟩
 | scr a hK e r=>
  subst e;cases r with
  | @frz _ xs _ ee rr=>
   obtain ⟨v,h1,h2⟩:=rr.get hi;refine ⟨⟨xs,v,ee.sq hK,h1⟩,fun x H' ⟨e,hy⟩=>?_⟩;subst e;refine ⟨cZ.refl _,?_⟩;have:=hy xs (ee.sq hK);rw [h1] at this;cases this;exact h2
noncomputable def gI (K:PySem.W.Frag) (f:FI):TI:=fun σ H R=>∃ρ items k,ER H σ ρ/\f ρ=.ok (items,k)/\∀J H1,cZ H H1->ItQ K All J H1 items->(k=true->ItQ K (New H) J H1 items)->R J H1
noncomputable def gIV (K:PySem.W.Frag) (i:Nat):TI:=fun σ H R=>∃v d items,σ[i]?=some (some v)/\Rep All H v d/\qK d=.ok items/\∀J,(∀P:Addr->Prop,Rep P H v d->ItQ K P J H items)->R J H
section
variable {X:Cx} {tg l a b:Expr} {fl fa:FE} {rl ra rr:Bool} {fs:FA} {p pos:Pos}
theorem O5 {pins:List (Addr×Obj)} {s1:Shared} {σ:L2.St} {H1:Hp} {R:It->Hp->Prop} {v:V} {u:Value} {d:D} {items:List D} (I1:Inv X pins σ H1 s1) (r:Rep All H1 v d) (ru:RelV v u) (hi:qK d=.ok items)
  (q:∀J,(∀P:Addr->Prop,Rep P H1 v d->ItQ X.K P J H1 items)->R J H1):wpAny (model X.prog X.w) X.A (pyIter u) (PIE X pins σ tg R) X.xe s1:=by
 cases d <;> simp only [qK] at hi <;> cases hi
 ·obtain ⟨a,xs,rfl,e,rr⟩:=r.gQ;cases ru;obtain ⟨its,rv,p,hz⟩:=I1.tuple (.of e);refine wpAny_pyIter_tuple (show s1.heap.IsTuple a its.toArray from p) ?_;refine ⟨s1.heap.objs.size,[s1.heap.objs.size],_,_,H1,rfl,I1.kept (t':=s1.toks) fun b o e=>Heap.get?_push_of_some _ e,QX a _,⟨_,Heap.get?_push_size _ rfl,rfl,rfl⟩,fun b hb=>?_,q _ fun P r=>.tup a rfl r⟩;have e:b=s1.heap.objs.size:=by simpa using hb
  subst e;exact I1.aFg (Nat.le_refl _) (I1.hok.fresh (Nat.le_refl _))
 ·obtain ⟨a,xs,rfl,e,rr⟩:=r.jR (K:=X.K);cases ru;obtain ⟨its,rv,p,hz⟩:=I1.list e;refine wpAny_pyIter_list p.isList ?_;refine ⟨s1.heap.objs.size,[s1.heap.objs.size],_,_,H1,rfl,I1.kept (t':=s1.toks) fun b o e=>Heap.get?_push_of_some _ e,T6 a _,⟨_,Heap.get?_push_size _ rfl,rfl,rfl⟩,fun b hb=>?_,q _ fun P r=>.lst a rfl r⟩;have e:b=s1.heap.objs.size:=by simpa using hb
  subst e;exact I1.aFg (Nat.le_refl _) (I1.hok.fresh (Nat.le_refl _))
theorem lN (hl:PE X l (gE fl rl)):PI X tg l (gI X.K (eQ fl rl)):=by
 intro pins s σ H R I ⟨ρ,items,k,E,h,q⟩;obtain ⟨d,h1,h⟩:=bO h;obtain ⟨its,h2,h⟩:=bO h;cases h;refine thn (hl pins s σ H _ I ⟨ρ,d,E,h1,fun v H1 s1 r1 n1=>(show (∃d',Rep All H1 v d/\d'=d/\∀J,(∀P:Addr->Prop,Rep P H1 v d->ItQ X.K P J H1 items)->R J H1) from ⟨d,r1,rfl,fun J hJ=>q J H1 s1 (hJ _ r1) fun hk=>hJ _ ?_⟩)⟩) fun u s1 ⟨v,H1,I1,ru,d',r1,e,q1⟩=>O5 I1 r1 ru h2 q1
 rw [Bool.or_eq_true] at hk;rcases hk with hk|hk
 ·exact n1 hk
 ·exact r1.cC hk
theorem aC7 {i:Nat} {x:Str} (hN:X.N[i]?=some x) (hv:Vis X.env.scope x) (hd:nDb x:=by decide) (hcd:nCd x:=by decide):PI X tg (.Name x pos) (gIV X.K i):=by
 intro pins s σ H R I ⟨v,d,items,hσ,r,hi,q⟩;exact thn (nT hN hv hd hcd pins s σ H (fun w H1=>w=v/\H1=H) I ⟨v,hσ,rfl,rfl⟩) fun u s1 ⟨w,H1,I1,ru,e1,e2⟩=>by
  subst e1 e2;exact O5 I1 r ru hi q
theorem RQ {i:Int} (h:uO i=true):-(2 ^ 62)<=i/\i<2 ^ 62:=by
 simp only [uO,Bool.and_eq_true,decide_eq_true_eq] at h;exact h
theorem PI.imp {w w':TI} (h:PI X tg l w) (i:∀σ H R,w' σ H R->w σ H R):PI X tg l w':=fun pins s σ H R I q=>h pins s σ H R I (i σ H R q)
theorem sE (hg:Gl X "range") (hm:X.mg "range" = none) (ha:PA X [a] (gA fs rr)) (hs:starEach [a] X.env=[(false,eval a X.env)]:=by rfl):PI X tg (.Call (.Name "range" p) [a] [] pos) (gI X.K (rQ fs qL)):=
 PI.imp (T7 hg hm ha hs) fun σ H R ⟨ρ,items,k,E,h,q⟩=>by
  obtain ⟨xs,h1,h⟩:=bO h;unfold qL at h;split at h
  ·split at h
   ·rename_i hb;cases h;obtain ⟨b1,b2⟩:=RQ hb;refine ⟨ρ,_,E,h1,fun vs H1 s1 r1 _=>?_⟩;cases r1 with
    | cons r t=>
     cases t;cases r;exact ⟨_,rfl,b1,b2,q _ H1 s1 (.rng 0 _ rfl rfl) fun _=>.rng 0 _ rfl rfl⟩
   ·cases h
  ·cases h
end
theorem aAi (n:Nat) (ρ bs:List D) (i:Nat) (h:i<n):(J6 n ρ++bs).getD i .uD=ρ.getD i .uD:=by
 rw [List.getD_eq_getElem?_getD,List.getElem?_append_left (by simp [J6];exact h)];simp [J6,h]
theorem O6 (n:Nat) (ρ:List D):(J6 n ρ).length=n:=by simp [J6]
noncomputable def TgC (g:TG) (t:D->Res (List D)) (n m:Nat):Prop:=∀(v:V) (d:D) (bs:List D) (σ:L2.St) (H:Hp) (Q:L2.St->Hp->Prop),σ.length=n->Rep All H v d->t d=.ok bs->
 (∀σ2,Ext (σ++List.replicate m none) σ2->(∀j b,bs[j]?=some b->∃w,σ2[n+j]?=some (some w)/\Rep All H w b)->Q σ2 H)->g v (σ++List.replicate m none) H Q
theorem ER.ext {H:Hp} {σ σ2:L2.St} {ρ bs:List D} {n m:Nat} (E:ER H σ ρ) (hn:σ.length=n) (x:Ext (σ++List.replicate m none) σ2) (hb:∀j b,bs[j]?=some b->∃w,σ2[n+j]?=some (some w)/\Rep All H w b):ER H σ2 (J6 n ρ++bs):=by
 intro i hi;by_cases h:i<n
 ·rw [aAi n ρ bs i h] at hi ⊢;obtain ⟨v,h1,h2⟩:=E i hi;exact ⟨v,x.2 i v (by rw [List.getElem?_append_left (by rw [hn];exact h)];exact h1),h2⟩
 ·have e:(J6 n ρ++bs).getD i .uD=bs.getD (i-n) .uD:=by
   rw [List.getD_eq_getElem?_getD,List.getElem?_append_right (by rw [O6];lia),O6,<-List.getD_eq_getElem?_getD]
  rw [e] at hi ⊢;cases hq:bs[i-n]? with
  | none=>rw [List.getD_eq_getElem?_getD,hq] at hi;exact absurd rfl hi
  | some b=>
   obtain ⟨w,h1,h2⟩:=hb (i-n) b hq;rw [List.getD_eq_getElem?_getD,hq];exact ⟨w,by rw [<-h1];congr 1;lia,h2⟩
theorem qW {K:PySem.W.Frag} {it:FI} {t:D->Res (List D)} {c:FT} {f:FE} {k:Bool} {n m:Nat} {g:TG} {tc:TT} (tg:TgC g t n m) (hc:∀σ H Q,gT c σ H Q->tc σ H Q) {σ:L2.St} {H:Hp} {Q:VK} (hn:σ.length=n) (h:gE (gF n it t c f k) true σ H Q) :
  J_ (gI K it) g tc (gE f k) m σ H Q:=by
 obtain ⟨ρ,d,E,h,q⟩:=h;obtain ⟨⟨items,kk⟩,h1,h⟩:=bO h;split at h
 ·rename_i hlim;obtain ⟨ys,h2,h⟩:=bO h;cases h;refine ⟨ρ,items,kk,E,h1,fun J H1 s1 hJ _ p hp=>?_⟩;have hp0:H p=none:=s1.free hp;refine ⟨fun i n' vs H'=>n'=items.length-i/\i<=items.length/\H' p=some (.lst vs)/\cZ H1 H'/\∃acc,acc.length<=i/\b_ (fun a=>H a=none/\a≠p) H' vs acc/\rR (qM n t c f k ρ) acc (items.drop i)=.ok ys,⟨items.length,?_⟩,?_⟩
  ·exact ⟨rfl,Nat.zero_le _,aM,cZ.upd hp,[],Nat.zero_le _,.nil,h2⟩
  ·rintro i n' vs H' ⟨rfl,hi,hH,sm,acc,hal,racc,hf⟩;refine ⟨hH,?_⟩;have hJ':ItQ K All J H' items:=hJ.keep (.same sm) fun _ z=>z
   rcases Nat.lt_or_ge i items.length with hlt|hge
   ·refine .inr ?_;have e:items[i]?=some items[i]:=List.getElem?_eq_getElem hlt;obtain ⟨g1,g2⟩:=hJ'.go e;have hl1:items.length<=lim:=of_decide_eq_true hlim;refine ⟨g1,?_,fun x H2 hy=>?_⟩
    ·rw [racc.length];exact Nat.lt_of_le_of_lt hal (Nat.lt_of_lt_of_le hlt (Nat.le_trans hl1 (by rw [sizeLine_eq];decide)))
    ·obtain ⟨sH,rx⟩:=g2 x H2 hy;have hH:=sH p _ hH;have sm:=sm.trans sH;have racc:=racc.same sH;rw [List.drop_eq_getElem_cons hlt] at hf;obtain ⟨acc2,hs,hf⟩:=bO hf;obtain ⟨bs,hb,hs⟩:=bO hs;obtain ⟨ok,hok,hs⟩:=bO hs;refine tg x items[i] bs σ H2 _ hn rx hb fun σ2 hx hbs=>⟨hx,hc _ _ _ ?_⟩
     have E2:ER H2 σ2 (J6 n ρ++bs):=(E.same (s1.trans sm)).ext hn hx hbs;refine ⟨_,ok,E2,hok,fun H4 s4=>?_⟩;cases ok with
     | true=>
      rw [if_pos rfl];rw [if_pos rfl] at hs;obtain ⟨y,hy2,hs⟩:=bO hs;split at hs
      ·rename_i hk;cases hs;refine ⟨_,y,E2.same s4,hy2,fun w H5 s5 r5 n5=>⟨s5 p _ (s4 p _ hH),items.length-(i+1),by lia,rfl,hlt,aM,?_,acc++[y],?_,?_,hf⟩⟩
       ·exact fun b o e=>by
         rw [bJ (e_ e hp)];exact s5 b o (s4 b o (sm b o e))
       ·rw [List.length_append,List.length_singleton];lia
       ·have hp5:H5 p=some (.lst vs):=s5 p _ (s4 p _ hH);have ry:Rep (fun a=>H a=none/\a≠p) H5 w y:=by
         rw [Bool.or_eq_true] at hk;rcases hk with hk|hk
         ·exact (n5 hk).mono fun a ha=>⟨((s1.trans sm).trans s4).free ha,fun z=>by subst z;have h0:=s4 _ _ hH;rw [show H4 _=none from ha] at h0;cases h0⟩
         ·exact r5.cC hk
        have all:b_ (fun a=>H a=none/\a≠p) H5 (vs++[w]) (acc++[y]):=(racc.same (s4.trans s5)).snoc ry;refine all.keep (fun b o e hb=>?_) fun _ z=>z
        rw [bJ]
        ·exact e
        ·rcases hb with hb|hb
         ·exact hb.2
         ·intro z;subst z;rw [hp5] at e;cases e;cases hb
      ·cases hs
     | false=>
      rw [if_neg (by simp)];rw [if_neg (by simp)] at hs;cases hs;exact ⟨items.length-(i+1),by lia,rfl,hlt,s4 p _ hH,sm.trans s4,acc,by lia,racc.same s4,hf⟩
   ·refine .inl ⟨hJ'.stop hge,?_⟩;rw [List.drop_eq_nil_of_le hge] at hf;cases hf;exact q _ _ (s1.trans sm) (.lst hH trivial racc.all) fun _=>.lst hH hp0 (racc.mono fun a z=>z.1)
 ·cases h
noncomputable def gIx:List Nat->TGs
 | []=>aJ6
 | i::is=>aFe (tO i) (gIx is)
noncomputable def oE:List Nat->List V->L2.St->L2.St
 | i::is,v::vs,σ=>oE is vs (σ.set i (some v))
 | _,_,σ=>σ
theorem KR {H:Hp} {Q:L2.St->Hp->Prop}:∀(is:List Nat) (vs:List V) (σ:L2.St),vs.length=is.length->Q (oE is vs σ) H->gIx is vs σ H Q
 | [],[],σ,_,q=>⟨rfl,q⟩
 | i::is,v::vs,σ,h,q=>⟨v,vs,rfl,KR is vs (σ.set i (some v)) (by simpa using h) q⟩
 | [],_::_,_,h,_=>by simp at h
 | _::_,[],_,h,_=>by simp at h
theorem DX:∀(is:List Nat) (vs:List V) (σ:L2.St),(oE is vs σ).length=σ.length
 | [],_,_=>by simp [oE]
 | _::_,[],_=>by simp [oE]
 | i::is,v::vs,σ=>by rw [oE,DX is vs];simp
theorem uX:∀(is:List Nat) (vs:List V) (σ:L2.St) (k:Nat),k∉is->(oE is vs σ)[k]?=σ[k]?
 | [],_,_,_,_=>by simp [oE]
 | _::_,[],_,_,_=>by simp [oE]
 | i::is,v::vs,σ,k,h=>by
  rw [List.mem_cons,not_or] at h;rw [oE,uX is vs _ k h.2,List.getElem?_set_ne (Ne.symm h.1)]
theorem O7:∀(is:List Nat) (vs:List V) (σ:L2.St) (j i:Nat) (v:V),is.Nodup->(∀i∈is,i<σ.length)->is[j]?=some i->vs[j]?=some v->(oE is vs σ)[i]?=some (some v)
 | [],_,_,_,_,_,_,_,h,_=>by simp at h
 | _::_,[],_,_,_,_,_,_,_,h=>by simp at h
 | a::is,w::vs,σ,0,i,v,hn,hl,h1,h2=>by
  have e1:a=i:=by simpa using h1
  have e2:w=v:=by simpa using h2
  subst e1 e2;rw [oE,uX is vs _ a (List.nodup_cons.mp hn).1,List.getElem?_set_self (hl a (List.mem_cons_self ..))]
 | a::is,w::vs,σ,j+1,i,v,hn,hl,h1,h2=>by
  rw [oE];exact O7 is vs _ j i v (List.nodup_cons.mp hn).2 (fun i hi=>by rw [List.length_set];exact hl i (List.mem_cons_of_mem _ hi)) (by simpa using h1) (by simpa using h2)
theorem kZ (n:Nat):TgC (tO n) pM n 1:=by
 intro v d bs σ H Q hn r h q;cases h;have hl:(σ++List.replicate 1 (none:Option V)).length=n+1:=by simp [hn]
 refine q _ ⟨by simp,fun i w hi=>?_⟩ fun j b hj=>?_
 ·have:i≠n:=fun z=>by
   subst z;rw [List.getElem?_append_right (by lia)] at hi;simp [hn] at hi
  rw [List.getElem?_set_ne (Ne.symm this)];exact hi
 ·have e:j=0:=by
   have:=(List.getElem?_eq_some_iff.mp hj).1;simp at this;exact this
  subst e;have e:d=b:=by simpa using hj
  subst e;exact ⟨v,by rw [Nat.add_zero,List.getElem?_set_self (by lia)],r⟩
theorem aDp (K:PySem.W.Frag) (n m:Nat):TgC (aHy K m (gIx (List.range' n m))) (aG1 m) n m:=by
 intro v d bs σ H Q hn r h q;cases d <;> simp only [aG1] at h <;> (try (cases h;done))
 split at h
 ·rename_i hm;cases h;have hm':=of_decide_eq_true hm;obtain ⟨a,xs,rfl,e,rr⟩:=r.gQ;refine ⟨a,xs,rfl,.of e,by rw [rr.length];exact hm',KR _ _ _ (by rw [rr.length,hm'];simp) ?_⟩;refine q _ ⟨by rw [DX],fun i w hi=>?_⟩ fun j b hj=>?_
  ·rw [uX]
   ·exact hi
   ·intro hmem;have:=List.mem_range'_1.mp hmem;rw [List.getElem?_append_right (by lia)] at hi;rw [List.getElem?_replicate] at hi;split at hi <;> cases hi
  ·obtain ⟨w,h1,h2⟩:=rr.get hj;have hjm:j<m:=by rw [<-hm'];exact (List.getElem?_eq_some_iff.mp hj).1
   refine ⟨w,O7 _ _ _ j (n+j) w (List.nodup_range' ..) (fun i hi=>?_) ?_ h1,h2⟩
   ·have:=List.mem_range'_1.mp hi;simp [hn];lia
   ·rw [List.getElem?_range' hjm];simp
 ·cases h
section
variable {X:Cx} {scope:Scope} {ownN:List Str} {elt iter tg c:Expr} {it:FI} {t:D->Res (List D)} {g:TG} {gc:FT} {fe:FE} {re:Bool} {pos:Pos}
theorem aDq {n m:Nat} (S:dG X.N X.env.scope scope ownN) (hn:X.N.length=n) (hm:ownN.length=m) (hcalm:X.calm=true) (hi:PI X tg iter (gI X.K it)) (ht:TgC g t n m) (hg:∀X',dM X X' scope ownN->PG X' tg g) (he:∀X',dM X X' scope ownN->PE X' elt (gE fe re))
  (hs:∀x,foldedSetIterable iter X.env x=pure x):PE X (.ListComp elt [⟨tg,iter,[],0⟩] scope pos) (gE (gF n it t n_ fe re) true):=by
 intro pins s σ H Q I h;subst hm;exact N6 S hcalm hi hg he hs pins s σ H Q I (qW ht (fun σ H Q h=>by obtain ⟨ρ,b,E,h,q⟩:=h;cases h;exact q H (cZ.refl H)) (I.len.trans hn) h)
theorem WR {n m:Nat} (S:dG X.N X.env.scope scope ownN) (hn:X.N.length=n) (hm:ownN.length=m) (hcalm:X.calm=true) (hi:PI X tg iter (gI X.K it)) (ht:TgC g t n m) (hg:∀X',dM X X' scope ownN->PG X' tg g) (hc:∀X',dM X X' scope ownN->PT X' c (gT gc)) (he:∀X',dM X X' scope ownN->PE X' elt (gE fe re))
  (hs:∀x,foldedSetIterable iter X.env x=pure x):PE X (.ListComp elt [⟨tg,iter,[c],0⟩] scope pos) (gE (gF n it t gc fe re) true):=by
 intro pins s σ H Q I h;subst hm;exact V6 S hcalm hi hg hc he hs pins s σ H Q I (qW ht (fun σ H Q h=>h) (I.len.trans hn) h)
end
end Mi
end
section
namespace Mi
open PySem L2 PySem.SeqAt PySem.Spec PyProof.Rows
variable [KFrag]
mutual
theorem Rep.dom {P:Addr->Prop} {H:Hp}:∀{v:V} {d:D},Rep P H v d->Rep (fun a=>P a/\H a≠none) H v d
 | _,_,.non=>.non
 | _,_,.bl b=>.bl b
 | _,_,.int i=>.int i
 | _,_,.str x=>.str x
 | _,_,.tup e r=>.tup e (b_.dom r)
 | _,_,.lst e p r=>.lst e ⟨p,by rw [e];simp⟩ (b_.dom r)
 | _,_,.cel e p r=>.cel e ⟨p,by rw [e];simp⟩ (b_.dom r)
 | _,_,.frz e r=>.frz e (b_.dom r)
 | _,_,.dK e p r n=>.dK e ⟨p,by rw [e];simp⟩ (nM.dom r) n
 | _,_,.dT e p r n=>.dT e ⟨p,by rw [e];simp⟩ (pN.dom r) n
 | _,_,.fdK e r n=>.fdK e (nM.dom r) n
 | _,_,.fdT e r n=>.fdT e (pN.dom r) n
theorem b_.dom {P:Addr->Prop} {H:Hp}:∀{v:List V} {d:List D},b_ P H v d->b_ (fun a=>P a/\H a≠none) H v d
 | _,_,.nil=>.nil
 | _,_,.cons r t=>.cons (Rep.dom r) (b_.dom t)
theorem nM.dom {P:Addr->Prop} {H:Hp}:∀{v:List (Key×V)} {d:List (D×D)},nM P H v d->nM (fun a=>P a/\H a≠none) H v d
 | _,_,.nil=>.nil
 | _,_,.cons r t=>.cons (Rep.dom r) (nM.dom t)
theorem pN.dom {P:Addr->Prop} {H:Hp}:∀{v:List (List Key×V)} {d:List (D×D)},pN P H v d->pN (fun a=>P a/\H a≠none) H v d
 | _,_,.nil=>.nil
 | _,_,.cons r t=>.cons (Rep.dom r) (pN.dom t)
end
theorem nM.cC {P P':Addr->Prop} {H:Hp}:∀{v:List (Key×V)} {d:List (D×D)},nM P H v d->D.a_ (d.map (·.2))=true->nM P' H v d
 | _,_,.nil,_=>.nil
 | _,_,.cons r t,h=>by
  rw [List.map_cons,D.a_,Bool.and_eq_true] at h;exact .cons (r.cC h.1) (t.cC h.2)
theorem pN.cC {P P':Addr->Prop} {H:Hp}:∀{v:List (List Key×V)} {d:List (D×D)},pN P H v d->D.a_ (d.map (·.2))=true->pN P' H v d
 | _,_,.nil,_=>.nil
 | _,_,.cons r t,h=>by
  rw [List.map_cons,D.a_,Bool.and_eq_true] at h;exact .cons (r.cC h.1) (t.cC h.2)
theorem Rep.aJa {P P':Addr->Prop} {H:Hp} {a:Addr} {d:D} (r:Rep P H (.ref a) d) (h:inner d=true) (hp:P' a):Rep P' H (.ref a) d:=by
 cases r with
 | tup e r=>cases h
 | lst e p r=>exact .lst e hp (r.cC h)
 | cel e p r=>exact .cel e hp (r.cC h)
 | frz e r=>cases h
 | dK e p r n=>exact .dK e hp (r.cC h) n
 | dT e p r n=>exact .dT e hp (r.cC h) n
 | fdK e r n=>cases h
 | fdT e r n=>cases h
noncomputable def Own (own:Nat->Bool) (σ:L2.St) (a:Addr):Prop:=∃i,own i=true/\σ[i]?=some (some (.ref a))
structure ES (own:Nat->Bool) (H:Hp) (σ:L2.St) (ρ:List D):Prop where
 len:σ.length=ρ.length
 at_:∀i,ρ.getD i .uD≠.uD->∃v,σ[i]?=some (some v)/\(own i=false->Rep (fun a=>¬Own own σ a) H v (ρ.getD i .uD))
 own:∀i v,own i=true->σ[i]?=some (some v)->∃a o,v=.ref a/\Rep All H v (ρ.getD i .uD)/\inner (ρ.getD i .uD)=true/\H a=some o/\S9 o=true/\∀j,own j=true->σ[j]?=some (some (.ref a))->j=i
variable {own:Nat->Bool}
theorem ES.er {H:Hp} {σ:L2.St} {ρ:List D} (e:ES own H σ ρ):ER H σ ρ:=fun i hi=>by
 obtain ⟨v,h1,h2⟩:=e.at_ i hi;cases ho:own i with
 | false=>exact ⟨v,h1,(h2 ho).all⟩
 | true=>
  obtain ⟨a,o,_,h3,_⟩:=e.own i v ho h1;exact ⟨v,h1,h3⟩
theorem ES.live {H:Hp} {σ:L2.St} {ρ:List D} (e:ES own H σ ρ) {a:Addr} (h:Own own σ a):∃o,H a=some o/\S9 o=true:=by
 obtain ⟨i,hi,hs⟩:=h;obtain ⟨b,o,eb,_,_,h3,h4,_⟩:=e.own i _ hi hs;cases eb;exact ⟨o,h3,h4⟩
theorem ES.same {H H':Hp} {σ:L2.St} {ρ:List D} (e:ES own H σ ρ) (s:cZ H H'):ES own H' σ ρ:=by
 refine ⟨e.len,fun i hi=>?_,fun i v hi hv=>?_⟩
 ·obtain ⟨v,h1,h2⟩:=e.at_ i hi;exact ⟨v,h1,fun ho=>(h2 ho).same s⟩
 ·obtain ⟨a,o,h1,h2,h3,h4,h5,h6⟩:=e.own i v hi hv;exact ⟨a,o,h1,h2.same s,h3,s _ _ h4,h5,h6⟩
noncomputable def KU (own:Nat->Bool) (σ:L2.St) (H:Hp) (σ':L2.St) (H':Hp):Prop:=∀a o,H a=some o->¬Own own σ a->H' a=some o/\¬Own own σ' a
theorem KU.trans {σ σ1 σ2:L2.St} {H H1 H2:Hp} (a:KU own σ H σ1 H1) (b:KU own σ1 H1 σ2 H2):KU own σ H σ2 H2:=fun c o e n=>let ⟨e1,n1⟩:=a c o e n;b c o e1 n1
theorem KU.same {σ:L2.St} {H H':Hp} (s:cZ H H'):KU own σ H σ H':=fun a o e n=>⟨s a o e,n⟩
theorem KU.keep {σ σ':L2.St} {H H':Hp} {ρ:List D} (k:KU own σ H σ' H') (e:ES own H σ ρ):aA5 (fun a=>¬Own own σ a) H H':=fun a o h hp=>by
 by_cases ho:Own own σ a
 ·obtain ⟨o',h1,h2⟩:=e.live ho;rw [h] at h1;cases h1;rcases hp with hp|hp
  ·exact absurd ho hp
  ·rw [h2] at hp;cases hp
 ·exact (k a o h ho).1
theorem KU.rep {σ σ':L2.St} {H H':Hp} {ρ:List D} (k:KU own σ H σ' H') (e:ES own H σ ρ) {v:V} {d:D} (r:Rep (fun a=>¬Own own σ a) H v d):Rep (fun a=>¬Own own σ' a) H' v d:=by
 refine r.dom.keep (P':=fun a=>¬Own own σ' a) (fun a o h hp=>?_) fun a ⟨h1,h2⟩=>?_
 ·refine k.keep e a o h (hp.imp (fun z=>z.1) id)
 ·cases q:H a with
  | none=>exact absurd q h2
  | some o=>exact (k a o q h1).2
noncomputable def kRt (own:Nat->Bool) (D:Ends) (σ:L2.St) (H:Hp) (d:Mi.D):Prop:=if own rtX=true then ∃d0 ρ',d=.tup (d0::ρ')/\∀v σ' H',KU own σ H σ' H'->ES own H' σ' ρ'->Rep (fun a=>(Own own σ a\/H a=none)/\∀i b xs,ρ'.getD i .uD=.cel b xs->a≠b) H' v d0->D.rt v H'
  else ∀v H',(∀a o,H a=some o->¬Own own σ a->H' a=some o)->Rep (fun a=>Own own σ a\/H a=none) H' v d->D.rt v H'
theorem kRt.old {own:Nat->Bool} {D:Ends} {σ:L2.St} {H:Hp} {d:Mi.D} (h:kRt own D σ H d) (hx:own rtX=false):∀v H',(∀a o,H a=some o->¬Own own σ a->H' a=some o)->Rep (fun a=>Own own σ a\/H a=none) H' v d->D.rt v H':=by
 unfold kRt at h;rw [if_neg (by rw [hx];simp)] at h;exact h
theorem kRt.mk {own:Nat->Bool} {D:Ends} {σ:L2.St} {H:Hp} {d:Mi.D} (hx:own rtX=false) (h:∀v H',(∀a o,H a=some o->¬Own own σ a->H' a=some o)->Rep (fun a=>Own own σ a\/H a=none) H' v d->D.rt v H'):kRt own D σ H d:=by
 unfold kRt;rw [if_neg (by rw [hx];simp)];exact h
noncomputable def kS (own:Nat->Bool) (D:Ends) (σ:L2.St) (H:Hp):Fl->Prop
 | .nx ρ=>∀σ' H',KU own σ H σ' H'->ES own H' σ' ρ->D.nx σ' H'
 | .bk ρ=>∀σ' H',KU own σ H σ' H'->ES own H' σ' ρ->D.bk σ' H'
 | .ct ρ=>∀σ' H',KU own σ H σ' H'->ES own H' σ' ρ->D.ct σ' H'
 | .rt d=>kRt own D σ H d
theorem kS.step {D:Ends} {σ σ':L2.St} {H H':Hp} {fl:Fl} (k:KU own σ H σ' H') (h:kS own D σ H fl):kS own D σ' H' fl:=by
 cases fl with
 | nx ρ=>exact fun σ2 H2 k2 e=>h σ2 H2 (k.trans k2) e
 | bk ρ=>exact fun σ2 H2 k2 e=>h σ2 H2 (k.trans k2) e
 | ct ρ=>exact fun σ2 H2 k2 e=>h σ2 H2 (k.trans k2) e
 | rt d=>
  have old:∀a,(Own own σ' a\/H' a=none)->Own own σ a\/H a=none:=fun a ha=>by
   cases q:H a with
   | none=>exact .inr rfl
   | some o=>
    refine .inl (Classical.byContradiction fun n=>?_);obtain ⟨e1,n1⟩:=k a o q n;rcases ha with ha|ha
    ·exact n1 ha
    ·rw [e1] at ha;cases ha
  have h:kRt own D σ H d:=h;show kRt own D σ' H' d;unfold kRt at h ⊢;by_cases hx:own rtX=true
  ·rw [if_pos hx] at h ⊢;obtain ⟨d0,ρ',e,g⟩:=h;exact ⟨d0,ρ',e,fun v σ2 H2 k2 E2 r=>g v σ2 H2 (k.trans k2) E2 (r.mono fun a ha=>⟨old a ha.1,ha.2⟩)⟩
  ·rw [if_neg hx] at h ⊢;exact fun v H2 hk r=>h v H2 (fun a o e n=>let ⟨e1,n1⟩:=k a o e n;hk a o e1 n1) (r.mono fun a ha=>old a ha)
noncomputable def tS (own:Nat->Bool) (f:FS):TS:=fun D σ H=>∃ρ fl,ES own H σ ρ/\f ρ=.ok fl/\kS own D σ H fl
theorem PS.imp {X:Cx} {st:Stmt} {t t':TS} (h:PS X st t) (i:∀D σ H,t' D σ H->t D σ H):PS X st t':=fun pins s σ H D I q=>h pins s σ H D I (i D σ H q)
theorem PSs.imp {X:Cx} {st:List Stmt} {t t':TS} (h:PSs X st t) (i:∀D σ H,t' D σ H->t D σ H):PSs X st t':=fun pins s σ H D I q=>h pins s σ H D I (i D σ H q)
section
variable {X:Cx} {a b c e:Expr} {pos pos':Pos} {fa fb fc fe:FE} {ra rb rc re:Bool} {ga gb gc:FT} {f g:FS} {st:Stmt} {rest s1 s2:List Stmt}
theorem b8:PSs X [] (tS own iT):=PSs.imp T3 fun D σ H ⟨ρ,fl,E,h,q⟩=>by
 cases h;exact q σ H (fun a o e n=>⟨e,n⟩) E
theorem aDr {D:Ends} {σ:L2.St} {H:Hp} (h:tS own (bT f g) D σ H):aJ5 (tS own f) (tS own g) D σ H:=by
 obtain ⟨ρ,fl,E,h,q⟩:=h;obtain ⟨r,h1,h2⟩:=bO h;refine ⟨ρ,r,E,h1,?_⟩;cases r with
 | nx ρ'=>exact fun σ' H' k E'=>⟨ρ',fl,E',h2,q.step k⟩
 | bk ρ'=>cases h2;exact q
 | ct ρ'=>cases h2;exact q
 | rt d=>cases h2;exact q
theorem aG (h1:PS X st (tS own f)) (h2:PSs X rest (tS own g)):PSs X (st::rest) (tS own (bT f g)):=PSs.imp (yC h1 h2) fun _ _ _=>aDr
theorem aP (h1:PS X st (tS own f)):PSs X [st] (tS own f):=yD h1
theorem fM (hc:PT X c (gT gc)) (ha:PSs X s1 (tS own f)) (hb:PSs X s2 (tS own g)):PS X (.If c s1 s2 pos) (tS own (sIf gc f g)):=PS.imp (aFd hc ha hb) fun D σ H ⟨ρ,fl,E,h,q⟩=>by
 obtain ⟨k,h1,h2⟩:=bO h;refine ⟨ρ,k,E.er,h1,fun H' s=>?_⟩;cases k with
 | true=>rw [if_pos rfl];rw [if_pos rfl] at h2;exact ⟨ρ,fl,E.same s,h2,q.step (.same s)⟩
 | false=>rw [if_neg (by simp)];rw [if_neg (by simp)] at h2;exact ⟨ρ,fl,E.same s,h2,q.step (.same s)⟩
theorem jQ (he:PE X e (gE fe re)) (hx:own rtX=false:=by rfl):PS X (.Return (some e) pos) (tS own (v_ fe re)):=PS.imp (aBp he) fun D σ H ⟨ρ,fl,E,h,q⟩=>by
 obtain ⟨d,h1,h2⟩:=bO h;split at h2
 ·rename_i hk;cases h2;refine ⟨ρ,d,E.er,h1,fun v H' s r n=>q.old hx v H' (fun a o e _=>s a o e) ?_⟩;rw [Bool.or_eq_true] at hk;rcases hk with hk|hk
  ·exact (n hk).mono fun a ha=>.inr ha
  ·exact r.cC hk
 ·cases h2
theorem pO {i:Nat} {x:Str} (ho:own i=true) (hN:X.N[i]?=some x) (hv:Vis X.env.scope x) (hd:nDb x:=by decide) (hcd:nCd x:=by decide) (hx:own rtX=false:=by rfl):PS X (.Return (some (.Name x pos')) pos) (tS own (CZ i)):=
 PS.imp (aBp (nT hN hv hd hcd)) fun D σ H ⟨ρ,fl,E,h,q⟩=>by
 obtain ⟨d,h1,h2⟩:=bO h;cases h2;obtain ⟨v,hv,r,e⟩:=E.er.var h1;obtain ⟨a,o,rfl,r2,hin,_⟩:=E.own i v ho hv;rw [e] at hin;exact ⟨_,hv,q.old hx _ H (fun a o e _=>e) (r.aJa hin (.inl ⟨i,ho,hv⟩))⟩
theorem aDs (he:PE X e (gE fe re)) (hs:swapsWith e none pos.line X.env=pure false:=by rfl):PS X (.Expr e pos) (tS own (aA4 fe)):=PS.imp (rN he hs) fun D σ H ⟨ρ,fl,E,h,q⟩=>by
 obtain ⟨d,h1,h2⟩:=bO h;cases h2;exact ⟨ρ,d,E.er,h1,fun v H' s r n=>q σ H' (.same s) (E.same s)⟩
theorem sG {σ:L2.St} {i:Nat} {v:V} (ho:own i=false) (a:Addr):Own own (σ.set i (some v)) a↔Own own σ a:=by
 constructor
 ·rintro ⟨j,hj,e⟩;have:i≠j:=fun z=>by subst z;rw [ho] at hj;cases hj
  rw [List.getElem?_set_ne this] at e;exact ⟨j,hj,e⟩
 ·rintro ⟨j,hj,e⟩;have:i≠j:=fun z=>by subst z;rw [ho] at hj;cases hj
  exact ⟨j,hj,by rw [List.getElem?_set_ne this];exact e⟩
theorem jT {ρ:List D} {i j:Nat} {d:D}:(ρ.set i d).getD j .uD=if i=j/\i<ρ.length then d else ρ.getD j .uD:=by
 rw [List.getD_eq_getElem?_getD,List.getD_eq_getElem?_getD,List.getElem?_set];by_cases h:i=j
 ·subst h;by_cases h2:i<ρ.length
  ·simp [h2]
  ·simp [h2]
 ·simp [h]
theorem ES.set {H:Hp} {σ:L2.St} {ρ:List D} {i:Nat} {v:V} {d:D} (E:ES own H σ ρ) (ho:own i=false) (r:Rep (fun a=>¬Own own σ a) H v d):ES own H (σ.set i (some v)) (ρ.set i d):=by
 have hO:(fun a=>¬Own own (σ.set i (some v)) a)=fun a=>¬Own own σ a:=funext fun a=>by rw [sG ho]
 refine ⟨by simp [E.len],fun j hj=>?_,fun j w hj hw=>?_⟩
 ·rw [jT] at hj ⊢;rw [hO];by_cases h:i=j/\i<ρ.length
  ·rw [if_pos h];obtain ⟨rfl,hl⟩:=h;exact ⟨v,by rw [List.getElem?_set_self (by rw [E.len];exact hl)],fun _=>r⟩
  ·rw [if_neg h] at hj ⊢;obtain ⟨w,h1,h2⟩:=E.at_ j hj;by_cases hij:i=j
   ·subst hij;have:i<σ.length:=(List.getElem?_eq_some_iff.mp h1).1;rw [E.len] at this;exact absurd ⟨rfl,this⟩ h
   ·exact ⟨w,by rw [List.getElem?_set_ne hij];exact h1,h2⟩
 ·have hij:i≠j:=fun z=>by subst z;rw [ho] at hj;cases hj
  rw [List.getElem?_set_ne hij] at hw;rw [jT,if_neg fun z=>hij z.1];obtain ⟨a,o,h1,h2,h3,h4,h5,h6⟩:=E.own j w hj hw;refine ⟨a,o,h1,h2,h3,h4,h5,fun k hk hs=>h6 k hk ?_⟩;have hik:i≠k:=fun z=>by subst z;rw [ho] at hk;cases hk
  rwa [List.getElem?_set_ne hik] at hs
theorem ES.aK5 {H H':Hp} {σ:L2.St} {ρ:List D} {i:Nat} {a:Addr} {o:HO} {d:D} (E:ES own H σ ρ) (s:cZ H H') (ho:own i=true) (hn:H a=none) (r:Rep All H' (.ref a) d) (hin:inner d=true) (ha:H' a=some o) (hm:S9 o=true) :
  ES own H' (σ.set i (some (.ref a))) (ρ.set i d)/\KU own σ H (σ.set i (some (.ref a))) H':=by
 have hO:∀b,H b≠none->¬Own own σ b->¬Own own (σ.set i (some (.ref a))) b:=fun b hb n ⟨j,hj,e⟩=>by
  by_cases hij:i=j
  ·subst hij;by_cases hl:i<σ.length
   ·rw [List.getElem?_set_self hl] at e;cases e;exact hb hn
   ·rw [List.getElem?_set,if_pos rfl,if_neg hl] at e;cases e
  ·rw [List.getElem?_set_ne hij] at e;exact n ⟨j,hj,e⟩
 refine ⟨⟨by simp [E.len],fun j hj=>?_,fun j w hj hw=>?_⟩,fun b ob e n=>⟨s b ob e,hO b (by rw [e];simp) n⟩⟩
 ·rw [jT] at hj ⊢;by_cases h:i=j/\i<ρ.length
  ·rw [if_pos h];obtain ⟨rfl,hl⟩:=h;exact ⟨.ref a,by rw [List.getElem?_set_self (by rw [E.len];exact hl)],fun z=>by rw [ho] at z;cases z⟩
  ·rw [if_neg h] at hj ⊢;obtain ⟨w,h1,h2⟩:=E.at_ j hj;by_cases hij:i=j
   ·subst hij;have:i<σ.length:=(List.getElem?_eq_some_iff.mp h1).1;rw [E.len] at this;exact absurd ⟨rfl,this⟩ h
   ·exact ⟨w,by rw [List.getElem?_set_ne hij];exact h1,fun hj=>((h2 hj).dom.same s).mono fun b ⟨n,hb⟩=>hO b hb n⟩
 ·by_cases hij:i=j
  ·subst hij;have hl:i<σ.length:=by
    have:=(List.getElem?_eq_some_iff.mp hw).1;simpa using this
   rw [List.getElem?_set_self hl] at hw;cases hw;rw [jT,if_pos ⟨rfl,by rw [<-E.len];exact hl⟩];refine ⟨a,o,rfl,r,hin,ha,hm,fun k hk hs=>?_⟩;by_cases hik:i=k
   ·exact hik.symm
   ·rw [List.getElem?_set_ne hik] at hs;obtain ⟨o',h1,_⟩:=E.live ⟨k,hk,hs⟩;rw [hn] at h1;cases h1
  ·rw [List.getElem?_set_ne hij] at hw;rw [jT,if_neg fun z=>hij z.1];obtain ⟨b,ob,h1,h2,h3,h4,h5,h6⟩:=E.own j w hj hw;refine ⟨b,ob,h1,h2.same s,h3,s _ _ h4,h5,fun k hk hs=>?_⟩;by_cases hik:i=k
   ·subst hik;by_cases hl:i<σ.length
    ·rw [List.getElem?_set_self hl] at hs;cases hs;rw [hn] at h4;cases h4
    ·rw [List.getElem?_set,if_pos rfl,if_neg hl] at hs;cases hs
   ·rw [List.getElem?_set_ne hik] at hs;exact h6 k hk hs
theorem aGi {P:Addr->Prop} {H:Hp} {v:V} {d:D} (r:Rep P H v d) (hin:inner d=true):∃a o,v=.ref a/\P a/\H a=some o/\S9 o=true:=by
 cases r with
 | lst e p r=>exact ⟨_,_,rfl,p,e,rfl⟩
 | cel e p r=>exact ⟨_,_,rfl,p,e,rfl⟩
 | dK e p r n=>exact ⟨_,_,rfl,p,e,rfl⟩
 | dT e p r n=>exact ⟨_,_,rfl,p,e,rfl⟩
 | fdK e r n=>cases hin
 | fdT e r n=>cases hin
 | _=>cases hin
theorem aDt {H H':Hp} {σ:L2.St} {ρ:List D} (E:ES own H σ ρ) {v:V} {d:D} (r:Rep (New H) H' v d):Rep (fun a=>¬Own own σ a) H' v d:=r.mono fun a ha ho=>by
 obtain ⟨o,h1,_⟩:=E.live ho;rw [show H a=none from ha] at h1;cases h1
theorem zH {o:Bool} {i:Nat} {D':Ends} {σ:L2.St} {H:Hp} (ho:own i=o) (h:tS own (cL o i fe re) D' σ H):aEt (gE fe re) (tO i) D' σ H:=by
 obtain ⟨ρ,fl,E,h,q⟩:=h;obtain ⟨d,h1,h2⟩:=bO h;cases o with
 | true=>
  simp only [if_true] at h2;split at h2
  ·rename_i hk;cases h2;refine ⟨ρ,d,E.er,h1,fun v H' s r n=>?_⟩;rw [Bool.and_eq_true] at hk;obtain ⟨a,ob,rfl,hn,ha,hm⟩:=aGi (n hk.1) hk.2;obtain ⟨E2,k⟩:=E.aK5 s ho hn r hk.2 ha hm;exact q _ H' k E2
  ·cases h2
 | false=>
  simp only [Bool.false_eq_true,if_false] at h2;split at h2
  ·rename_i hk;cases h2;refine ⟨ρ,d,E.er,h1,fun v H' s r n=>?_⟩;rw [Bool.or_eq_true] at hk;have r2:Rep (fun a=>¬Own own σ a) H' v d:=by
    rcases hk with hk|hk
    ·exact aDt E (n hk)
    ·exact r.cC hk
   exact q _ H' (fun a ob e hn=>⟨s a ob e,by rw [sG ho];exact hn⟩) ((E.same s).set ho r2)
  ·cases h2
theorem bG {i:Nat} {x:Str} {o:Bool} (ho:own i=o) (hN:X.N.Nodup) (hi:X.N[i]?=some x) (hx:Loc X.env.scope x) (he:PE X e (gE fe re)) (hs:swapsWith e (some (.Name x pos')) pos.line X.env=pure false:=by rfl) (hf:X.fn x=true\/X.env.scope.names.lookup x=some .local:=by first|exact .inl rfl|exact .inr rfl|assumption) :
  PS X (.Assign [.Name x pos'] e pos) (tS own (cL o i fe re)):=PS.imp (aBq hN hi hx he hs hf) fun _ _ _=>zH ho
theorem aIj {i j:Nat} {x y:Str} {py:Pos} (ho:own i=false) (hoj:own j=false) (hN:X.N.Nodup) (hi:X.N[i]?=some x) (hx:Loc X.env.scope x) (hj:X.N[j]?=some y) (hy:Vis X.env.scope y) (hs:swapsWith (.Name y py) (some (.Name x pos')) pos.line X.env=pure false:=by rfl) (hf:X.fn x=true\/X.env.scope.names.lookup x=some .local:=by first|exact .inl rfl|exact .inr rfl|assumption)
  (hd:(y==("__debug__" : Str))=false:=by decide) (hcd:(y==("__classdict__" : Str))=false:=by decide):PS X (.Assign [.Name x pos'] (.Name y py) pos) (tS own (sAl i j)):=PS.imp (aBq hN hi hx (nT hj hy hd hcd) hs hf) fun D' σ H ⟨ρ,fl,E,h,q⟩=>by
 obtain ⟨d,h1,h2⟩:=bO h;cases h2;obtain ⟨v,hv,r,e⟩:=E.er.var h1;have hne:ρ.getD j .uD≠.uD:=fun z=>by
  rw [z] at e;subst e;exact Rep.uD r
 obtain ⟨w,hw,hr⟩:=E.at_ j hne;rw [hv] at hw;cases hw;have r2:=hr hoj;rw [e] at r2;exact ⟨v,hv,q _ H (fun a ob e hn=>⟨e,by rw [sG ho];exact hn⟩) (E.set ho r2)⟩
theorem ES.mut {H:Hp} {σ:L2.St} {ρ:List D} {i:Nat} {a:Addr} {o:HO} {d:D} (E:ES own H σ ρ) (ho:own i=true) (hi:σ[i]?=some (some (.ref a))) (hm:S9 o=true) (r:Rep All (upd H a o) (.ref a) d) (hin:inner d=true) :
  ES own (upd H a o) σ (ρ.set i d)/\KU own σ H σ (upd H a o):=by
 have hOa:Own own σ a:=⟨i,ho,hi⟩
 obtain ⟨a',oa,ea,_,_,hHa,hma,huq⟩:=E.own i _ ho hi;cases ea;have k:KU own σ H σ (upd H a o):=fun b ob e n=>⟨by rw [bJ (fun z=>by subst z;exact n hOa)];exact e,n⟩
 have hl:i<ρ.length:=by rw [<-E.len];exact (List.getElem?_eq_some_iff.mp hi).1
 refine ⟨⟨by simp [E.len],fun j hj=>?_,fun j w hj hw=>?_⟩,k⟩
 ·rw [jT] at hj ⊢;by_cases h:i=j/\i<ρ.length
  ·obtain ⟨rfl,_⟩:=h;exact ⟨_,hi,fun z=>by rw [ho] at z;cases z⟩
  ·rw [if_neg h] at hj ⊢;obtain ⟨w,h1,h2⟩:=E.at_ j hj;exact ⟨w,h1,fun hj=>k.rep E (h2 hj)⟩
 ·by_cases hij:i=j
  ·subst hij;rw [hi] at hw;cases hw;rw [jT,if_pos ⟨rfl,hl⟩];exact ⟨a,o,rfl,r,hin,aM,hm,huq⟩
  ·rw [jT,if_neg fun z=>hij z.1];obtain ⟨b,ob,h1,h2,h3,h4,h5,h6⟩:=E.own j w hj hw;subst h1;have hba:b≠a:=fun z=>by subst z;exact hij (h6 i ho hi)
   refine ⟨b,ob,rfl,?_,h3,by rw [bJ hba];exact h4,h5,h6⟩;refine (h2.aJa (P':=fun c=>c=b) h3 rfl).keep (fun c oc hc hp=>?_) fun _ _=>trivial
   rw [bJ]
   ·exact hc
   ·intro z;subst z;rcases hp with hp|hp
    ·exact hba hp.symm
    ·rw [hHa] at hc;cases hc;rw [hma] at hp;cases hp
theorem ES.ownAt {H:Hp} {σ:L2.St} {ρ:List D} {i:Nat} (E:ES own H σ ρ) (ho:own i=true) (hd:ρ.getD i .uD≠.uD):∃a o,σ[i]?=some (some (.ref a))/\Rep All H (.ref a) (ρ.getD i .uD)/\inner (ρ.getD i .uD)=true/\H a=some o/\S9 o=true:=by
 obtain ⟨v,h1,_⟩:=E.at_ i hd;obtain ⟨a,o,rfl,h2,h3,h4,h5,_⟩:=E.own i v ho h1;exact ⟨a,o,h1,h2,h3,h4,h5⟩
theorem WT {H:Hp} {a:Addr} {xs:List D} (r:Rep All H (.ref a) (.lst xs)):∃vs,H a=some (.lst vs)/\b_ All H vs xs:=by
 cases r with
 | lst e _ r=>exact ⟨_,e,r⟩
theorem b_.upd {H:Hp} {a:Addr} {vs:List V} {xs:List D} {o:HO} {ob:HO} (r:b_ All H vs xs) (hp:D.a_ xs=true) (ha:H a=some ob) (hm:S9 ob=true):b_ All (upd H a o) vs xs:=by
 refine (r.cC (P':=fun _=>False) hp).keep (fun c oc hc h=>?_) fun _ h=>h.elim
 rw [bJ]
 ·exact hc
 ·intro z;subst z;rcases h with h|h
  ·exact h
  ·rw [ha] at hc;cases hc;rw [hm] at h;cases h
theorem uY {xs ys:List D}:D.a_ (xs++ys)=(D.a_ xs&&D.a_ ys):=by
 induction xs with
 | nil=>simp [D.a_]
 | cons x xs ih=>rw [List.cons_append,D.a_,D.a_,ih,Bool.and_assoc]
theorem jG {i:Nat} {x:Str} {p1 apos cpos:Pos} (ho:own i=true) (hN:X.N[i]?=some x) (hv:Vis X.env.scope x) (he:PE X e (gE fe re)) (hd:nDb x:=by decide) (hcd:nCd x:=by decide)
  (hbase:attributeBase (.Name x p1) "append" X.env (eval (.Name x p1) X.env)=eval (.Name x p1) X.env:=by rfl)
  (hs1:starEach [e] X.env=(false,eval e X.env)::starEach [] X.env:=by rfl)
  (hfew:((backTo cpos (starEach [e] X.env)).all (fun x=>!x.1)&&(backToKw cpos (keywordEach [] X.env)).all (fun x=>x.1.isSome)
   && decide (([e]:List Expr).length+([]:List Keyword).length+(if ([]:List Keyword).isEmpty then 0 else 1)<30))=true:=by rfl)
  (hline:(apos.endLine==cpos.line)=true:=by rfl)
  (hs:swapsWith (.Call (.Attribute (.Name x p1) "append" apos) [e] [] cpos) none pos.line X.env=pure false:=by rfl) :
  PS X (.Expr (.Call (.Attribute (.Name x p1) "append" apos) [e] [] cpos) pos) (tS own (nJ i fe)):=
 PS.imp (rN (Z0 PySem.F.plainAttrs_list PySem.F.slot_list_append PySem.F.type_list_append CJ (nT hN hv hd hcd) (kY he uB hs1) hbase hfew hline hs1 rfl) hs) fun D' σ H ⟨ρ,fl,E,h,q⟩=>by
 obtain ⟨d,h1,h2⟩:=bO h;split at h2
 ·rename_i xs hx;split at h2
  ·rename_i hk;cases h2;rw [Bool.and_eq_true] at hk;obtain ⟨a,o,hσ,r,hin,ha,hm⟩:=E.ownAt ho (by rw [hx];intro z;cases z);rw [hx] at r hin;obtain ⟨vs,hl,rr⟩:=WT r;refine ⟨_,hσ,.inl ⟨rfl,vs,.of hl⟩,ρ,d,E.er,h1,fun v H' s rv _=>⟨a,vs,v,rfl,rfl,s _ _ hl,by rw [rr.length];exact aC2 hk.1,?_⟩⟩;have E':=E.same s;have hl':=s _ _ hl;obtain ⟨E2,k2⟩:=E'.mut (o:=.lst (vs++[v])) (d:=.lst (xs++[d])) ho hσ rfl (.lst aM trivial (((rr.same s).snoc rv).upd (by rw [uY];simp only [Bool.and_eq_true];exact ⟨hin,by simp [D.a_,hk.2]⟩) hl' rfl)) (by show D.a_ (xs++[d])=true;rw [uY];simp only [Bool.and_eq_true];exact ⟨hin,by simp [D.a_,hk.2]⟩);exact q _ _ ((KU.same s).trans k2) E2
  ·cases h2
 ·cases h2
end
end Mi
end
section
namespace L2
open PySem PySem.Spec PyProof.Rows
section
variable {X:Cx} {scope:Scope} {own:List Str}
theorem aAj {y:Str} {py:Pos} {iy:Nat} (hNn:X.N.Nodup) (hiy:X.N[iy]?=some y) (hxy:Loc X.env.scope y) (hfy:X.fn y=true\/X.env.scope.names.lookup y=some .local) {pins:List (Addr×Obj)} {σ:St} {D:Ends} {p C:Addr} {H5:Hp} {s6:Shared} {m6:Str->Option Value} (f:Inv X pins σ H5 s6) (k:T4 X pins H5 C) (n:s6.heap.Ns C m6) (q:tO iy (.ref p) σ H5 D.nx):compPost (model X.prog X.w) X.A X.xe (some (assign (.Name y py) X.env)) (fun _ s'=>SP X pins D .next s') (.ref p) C (.ok .next) s6:=by
 obtain ⟨oC,esC,epC,hoC,hdC,_⟩:=id n;have finP:=f.JD (pins':=pins++[(C,oC)]) fun p hp=>(List.mem_append.mp hp).elim (fun z=>f.pin p (List.mem_append_right _ z)) fun z=>by
  have z':p=(C,oC):=by simpa using z
  subst z';exact ⟨hoC,k.1,k.2.1,k.2.2.1,fun v z=>by rw [hdC] at z;cases z⟩
 refine thn (bA (pos:=py) hNn hiy hxy hfy _ _ σ H5 (.ref p) (.ref p) D.nx finP rfl q) fun _ s7 ⟨σ7,H7,I7,q7⟩=>?_
 obtain ⟨g7,hC7,_⟩:=I7.pin (C,oC) (List.mem_append_right _ (List.mem_append_right _ (by simp)));refine ⟨m6,n.at' fun o e=>?_,fun h' sb=>⟨σ7,H7,Inv.turned (t':=s7.toks) I7.qC (fun b o hb e=>sb.extBut b o hb e) hC7 k.2.1 k.2.2.2.1 k.2.2.2.2.1 k.2.2.2.2.2,q7⟩⟩;rw [hoC] at e;cases e;exact g7
theorem aGj {elt iter tg:Expr} {ifs:List Expr} {wi:TI} {g:TG} {tc:TT} {te:TE} {pos:Pos} (S:dG X.N X.env.scope scope own) (hcalm:X.calm=true) (hi:PI X tg iter wi)
  (hg:∀X',dM X X' scope own->PG X' tg g) (hc:(ifs=[]/\tc=fun _ H Q=>Q true H)\/∃c,ifs=[c]/\∀X',dM X X' scope own->PT X' c tc) (he:∀X',dM X X' scope own->PE X' elt te)
  (hs:∀x,foldedSetIterable iter X.env x=pure x) {y:Str} {py pos2:Pos} {iy:Nat} (hNn:X.N.Nodup) (hiy:X.N[iy]?=some y) (hxy:Loc X.env.scope y) (hfy:X.fn y=true\/X.env.scope.names.lookup y=some .local) (hsw:swapsWith (.ListComp elt [⟨tg,iter,ifs,0⟩] scope pos) (some (.Name y py)) pos2.line X.env=pure true):PS X (.Assign [.Name y py] (.ListComp elt [⟨tg,iter,ifs,0⟩] scope pos) pos2) (aEt (J_ wi g tc te own.length) (tO iy)):=by
 intro pins s σ H D I h;rw [exec_Assign_Name_used _ _ _ _ hsw];refine wpAny_bind (wpAny_standAt (wpAny_bind ?_));show wpAny _ X.A (do let _ <- comprehension (.ListComp elt [⟨tg,iter,ifs,0⟩] scope pos) scope X.env _ (newList []) false (eval iter X.env) (some (assign (.Name y py) X.env))) _ _ s;exact wpAny_bind (wpAny_mono (KC (QQ:=fun _ s'=>SP X pins D .next s') S hcalm hi hg hc he hs I h (aAj hNn hiy hxy hfy)) (fun _ s' hq=>wpAny_pure (wpAny_pure hq)) fun _ _ e=>e)
theorem DY {elt iter tg c:Expr} {wi:TI} {g:TG} {tc:TT} {te:TE} {pos:Pos} (S:dG X.N X.env.scope scope own) (hcalm:X.calm=true) (hi:PI X tg iter wi)
  (hg:∀X',dM X X' scope own->PG X' tg g) (hc:∀X',dM X X' scope own->PT X' c tc) (he:∀X',dM X X' scope own->PE X' elt te)
  (hs:∀x,foldedSetIterable iter X.env x=pure x) {y:Str} {py pos2:Pos} {iy:Nat} (hNn:X.N.Nodup) (hiy:X.N[iy]?=some y) (hxy:Loc X.env.scope y) (hfy:X.fn y=true\/X.env.scope.names.lookup y=some .local) (hsw:swapsWith (.ListComp elt [⟨tg,iter,[c],0⟩] scope pos) (some (.Name y py)) pos2.line X.env=pure true):PS X (.Assign [.Name y py] (.ListComp elt [⟨tg,iter,[c],0⟩] scope pos) pos2) (aEt (J_ wi g tc te own.length) (tO iy)):=
 aGj S hcalm hi hg (.inr ⟨c,rfl,hc⟩) he hs hNn hiy hxy hfy hsw
theorem aAk {elt iter tg:Expr} {wi:TI} {g:TG} {te:TE} {pos:Pos} (S:dG X.N X.env.scope scope own) (hcalm:X.calm=true) (hi:PI X tg iter wi)
  (hg:∀X',dM X X' scope own->PG X' tg g) (he:∀X',dM X X' scope own->PE X' elt te)
  (hs:∀x,foldedSetIterable iter X.env x=pure x) {y:Str} {py pos2:Pos} {iy:Nat} (hNn:X.N.Nodup) (hiy:X.N[iy]?=some y) (hxy:Loc X.env.scope y) (hfy:X.fn y=true\/X.env.scope.names.lookup y=some .local) (hsw:swapsWith (.ListComp elt [⟨tg,iter,[],0⟩] scope pos) (some (.Name y py)) pos2.line X.env=pure true):PS X (.Assign [.Name y py] (.ListComp elt [⟨tg,iter,[],0⟩] scope pos) pos2) (aEt (J_ wi g (fun _ H Q=>Q true H) te own.length) (tO iy)):=
 aGj S hcalm hi hg (.inl ⟨rfl,rfl⟩) he hs hNn hiy hxy hfy hsw
end
end L2
end
section
namespace Mi
open PySem L2 PySem.SeqAt PySem.Spec PyProof.Rows
variable [KFrag]
variable {own:Nat->Bool}
section
variable {X:Cx} {a b c e:Expr} {pos pos':Pos} {fa fb fc fe:FE} {ra rb rc re:Bool} {ga gb gc:FT} {f g:FS} {st:Stmt} {rest s1 s2:List Stmt}
variable {scope:Scope} {ownN:List Str} {elt iter tg:Expr} {it:FI} {t:D->Res (List D)} {gt:TG}
theorem aDu {n m:Nat} {y:Str} {py pos2:Pos} {iy:Nat} {o:Bool} (S:dG X.N X.env.scope scope ownN) (hn:X.N.length=n) (hm:ownN.length=m) (hcalm:X.calm=true) (hi:PI X tg iter (gI X.K it)) (ht:TgC gt t n m) (hg:∀X',dM X X' scope ownN->PG X' tg gt) (he:∀X',dM X X' scope ownN->PE X' elt (gE fe re))
  (hs:∀x,foldedSetIterable iter X.env x=pure x) (ho:own iy=o) (hNn:X.N.Nodup) (hiy:X.N[iy]?=some y) (hxy:Loc X.env.scope y) (hfy:X.fn y=true\/X.env.scope.names.lookup y=some .local) (hsw:swapsWith (.ListComp elt [⟨tg,iter,[],0⟩] scope pos) (some (.Name y py)) pos2.line X.env=pure true) :
  PS X (.Assign [.Name y py] (.ListComp elt [⟨tg,iter,[],0⟩] scope pos) pos2) (tS own (cL o iy (gF n it t n_ fe re) true)):=by
 intro pins s σ H D I h;subst hm;refine aAk S hcalm hi hg he hs hNn hiy hxy hfy hsw pins s σ H D I ?_;exact qW ht (fun σ H Q h=>by obtain ⟨ρ,b,E,h,q⟩:=h;cases h;exact q H (cZ.refl H)) (I.len.trans hn) (zH ho h)
theorem WW {n m:Nat} {y:Str} {py pos2:Pos} {iy:Nat} {o:Bool} (S:dG X.N X.env.scope scope ownN) (hn:X.N.length=n) (hm:ownN.length=m) (hcalm:X.calm=true) (hi:PI X tg iter (gI X.K it)) (ht:TgC gt t n m) (hg:∀X',dM X X' scope ownN->PG X' tg gt) (hc:∀X',dM X X' scope ownN->PT X' c (gT gc)) (he:∀X',dM X X' scope ownN->PE X' elt (gE fe re))
  (hs:∀x,foldedSetIterable iter X.env x=pure x) (ho:own iy=o) (hNn:X.N.Nodup) (hiy:X.N[iy]?=some y) (hxy:Loc X.env.scope y) (hfy:X.fn y=true\/X.env.scope.names.lookup y=some .local) (hsw:swapsWith (.ListComp elt [⟨tg,iter,[c],0⟩] scope pos) (some (.Name y py)) pos2.line X.env=pure true) :
  PS X (.Assign [.Name y py] (.ListComp elt [⟨tg,iter,[c],0⟩] scope pos) pos2) (tS own (cL o iy (gF n it t gc fe re) true)):=by
 intro pins s σ H D I h;subst hm;refine DY S hcalm hi hg hc he hs hNn hiy hxy hfy hsw pins s σ H D I ?_;exact qW ht (fun σ H Q h=>h) (I.len.trans hn) (zH ho h)
noncomputable def aDv:V->List V->Hp->VK->Prop:=fun x vs H Q=>∃l xs j y,x=.ref l/\vs=[.int j,y]/\H l=some (.lst xs)/\0<=j/\j<=xs.length/\xs.length<sizeLine/\Q .non (upd H l (.lst (xs.take j.toNat++y::xs.drop j.toNat)))
theorem WX:MtR X "list.insert" aDv:=by
 intro pins s σ H x vs v us Q I rx rv h;obtain ⟨l,xs,j,y,rfl,rfl,hH,h0,h1,hz,q⟩:=h;cases rx;cases rv with
 | cons rj rv=>
  cases rv with
  | cons ry rv=>
   cases rv;obtain ⟨tt,rfl⟩:=rj;obtain ⟨z,its,n,r,hl,e⟩:=I.aHk hH;have hs:sizeLine=16777216:=sizeLine_eq;refine call_meets F.slot_list_insert ⟨_,e,rfl⟩ F.entry_list_insert (F.args_list_insert_3 _ _ _) (AutoSeq1.list_insert_list_int_val_1 l its.toArray n j tt _ (by
    rw [show Builtin.List.listFitsIndex j=true from by unfold Builtin.List.listFitsIndex;simp only [Bool.and_eq_true,decide_eq_true_eq];lia];decide) (by rw [List.size_toArray];lia)) ⟨e,?_⟩
   refine ⟨.non,_,I.aIa (its':=its.take j.toNat++_::its.drop j.toNat) hH e ?_ ((r.take j.toNat).append (.cons ry (r.drop j.toNat))) ?_,rfl,q⟩
   ·have hj:¬j<0:=by lia
    have hm:min j.toNat its.length=j.toNat:=by lia
    simp only [hj,if_false,List.size_toArray,hm];apply Array.toList_inj.mp;simp [List.extract_eq_drop_take]
    first|rfl|(rw [List.take_of_length_le];simp)
   ·rw [List.length_append,List.length_cons,List.length_take,List.length_drop];lia
theorem aGk {i:Nat} {x:Str} {p1 apos cpos:Pos} (ho:own i=true) (hN:X.N[i]?=some x) (hv:Vis X.env.scope x) (ha:PE X a (gE fa ra)) (he:PE X e (gE fe re)) (hd:nDb x:=by decide) (hcd:nCd x:=by decide)
  (hbase:attributeBase (.Name x p1) "insert" X.env (eval (.Name x p1) X.env)=eval (.Name x p1) X.env:=by rfl)
  (hs0:starEach [a,e] X.env=(false,eval a X.env)::starEach [e] X.env:=by rfl) (hs1:starEach [e] X.env=(false,eval e X.env)::starEach [] X.env:=by rfl)
  (hfew:((backTo cpos (starEach [a,e] X.env)).all (fun x=>!x.1)&&(backToKw cpos (keywordEach [] X.env)).all (fun x=>x.1.isSome)
   && decide (([a,e]:List Expr).length+([]:List Keyword).length+(if ([]:List Keyword).isEmpty then 0 else 1)<30))=true:=by rfl)
  (hline:(apos.endLine==cpos.line)=true:=by rfl) (hpl:(backTo cpos (starEach [e] X.env)).any (·.1)=false:=by rfl)
  (hs:swapsWith (.Call (.Attribute (.Name x p1) "insert" apos) [a,e] [] cpos) none pos.line X.env=pure false:=by rfl) :
  PS X (.Expr (.Call (.Attribute (.Name x p1) "insert" apos) [a,e] [] cpos) pos) (tS own (aG2 i fa fe)):=
 PS.imp (rN (Z0 PySem.F.plainAttrs_list PySem.F.slot_list_insert PySem.F.type_list_insert WX (nT hN hv hd hcd) (kY ha (kY he uB hs1) hs0) hbase hfew hline hs0 hpl) hs) fun D' σ H ⟨ρ,fl,E,h,q⟩=>by
 obtain ⟨j,h0,h⟩:=bO h;obtain ⟨d,h1,h2⟩:=bO h;split at h2
 ·rename_i xs jj hx;split at h2
  ·rename_i hk;cases h2;simp only [Bool.and_eq_true,decide_eq_true_eq] at hk;obtain ⟨⟨⟨hk1,hk2⟩,hk3⟩,hk4⟩:=hk;obtain ⟨a,o,hσ,r,hin,ha,hm⟩:=E.ownAt ho (by rw [hx];intro z;cases z);rw [hx] at r hin;obtain ⟨vs,hl,rr⟩:=WT r;refine ⟨_,hσ,.inl ⟨rfl,vs,.of hl⟩,ρ,_,E.er,h0,fun v0 H0 s0 rv0 _=>⟨ρ,d,E.er.same s0,h1,fun v H' s rv _=>?_⟩⟩;cases rv0;have s':=s0.trans s;refine ⟨a,vs,jj,v,rfl,rfl,s' _ _ hl,hk3,by rw [rr.length];exact hk4,by rw [rr.length];exact Nat.lt_of_lt_of_le hk1 (by rw [sizeLine_eq];decide),?_⟩;have E':=E.same s';have hl':=s' _ _ hl;have hin':D.a_ xs=true:=hin;have hp:D.a_ (xs.take jj.toNat++d::xs.drop jj.toNat)=true:=lK.mpr fun y hy=>by
    rcases List.mem_append.mp hy with hy|hy
    ·exact lK.mp hin' y (List.mem_of_mem_take hy)
    ·rcases List.mem_cons.mp hy with rfl|hy
     ·exact hk2
     ·exact lK.mp hin' y (List.mem_of_mem_drop hy)
   have rr':=rr.same s';obtain ⟨E2,k2⟩:=E'.mut (o:=.lst (vs.take jj.toNat++v::vs.drop jj.toNat)) (d:=.lst (xs.take jj.toNat++d::xs.drop jj.toNat)) ho hσ rfl (.lst aM trivial (((rr'.take jj.toNat).append (.cons rv (rr'.drop jj.toNat))).upd hp hl' rfl)) hp;exact q _ _ ((KU.same s').trans k2) E2
  ·cases h2
 ·cases h2
theorem O8 {κ:Type} [DecidableEq κ] {p:κ×V} {r:List (κ×V)} {k:κ} {v:V} (e:p.1=k) (h:k∉r.map (·.1)):putK (p::r) k v=(k,v)::r:=by
 unfold putK;rw [if_pos (by simp [e]),List.map_cons,if_pos e,e]
 congr 1
 have:∀q∈r,(fun kv:κ×V=>if kv.1=k then (kv.1,v) else kv) q=id q:=fun q hq=>by
  have:q.1≠k:=fun z=>h (List.mem_map.mpr ⟨q,hq,z⟩)
  simp [this]
 rw [List.map_congr_left this,List.map_id]
theorem O9 {κ:Type} [DecidableEq κ] {p:κ×V} {r:List (κ×V)} {k:κ} {v:V} (e:¬p.1=k):putK (p::r) k v=p::putK r k v:=by
 unfold putK;rw [List.any_cons,decide_eq_false e,Bool.false_or];split
 ·rw [List.map_cons,if_neg e]
 ·rfl
theorem qX {κ:Type} [DecidableEq κ] {k:κ} {v:V}:∀{kvs:List (κ×V)},(kvs.map (·.1)).Nodup->((putK kvs k v).map (·.1)).Nodup:=fun {kvs} h=>by
 by_cases hk:vZ kvs k=none
 ·exact aD9 v h hk
 ·unfold putK;rw [if_pos (by rw [qH];exact Option.isSome_iff_ne_none.mpr hk),List.map_map];have:(fun x:κ×V=>x.1) ∘ (fun kv:κ×V=>if kv.1=k then (kv.1,v) else kv)=fun x=>x.1:=by
   funext q
   simp only [Function.comp];split <;> rfl
  rw [this];exact h
theorem zJ {P:Addr->Prop} {H:Hp} {k:Key} {v:V} {d:D} (rv:Rep P H v d):∀{kvs:List (Key×V)} {ds:List (D×D)},nM P H kvs ds->(kvs.map (·.1)).Nodup->nM P H (putK kvs k v) (putD ds (kD k) d)
 | _,_,.nil,_=>.cons rv .nil
 | _,_,.cons (k:=k') (v:=v') (r:=rs) r t,hn=>by
  rw [List.map_cons] at hn;obtain ⟨h1,h2⟩:=List.nodup_cons.mp hn;rw [putD,WD];by_cases h:k'=k
  ·subst h;rw [if_pos (by simp),O8 rfl h1];exact .cons rv t
  ·rw [if_neg (by simpa using h),O9 (p:=(k',v')) h];exact .cons r (zJ rv t h2)
theorem zK {P:Addr->Prop} {H:Hp} {k:List Key} {v:V} {d:D} (rv:Rep P H v d):∀{kvs:List (List Key×V)} {ds:List (D×D)},pN P H kvs ds->(kvs.map (·.1)).Nodup->pN P H (putK kvs k v) (putD ds (.tup (k.map kD)) d)
 | _,_,.nil,_=>.cons rv .nil
 | _,_,.cons (k:=k') (v:=v') (r:=rs) r t,hn=>by
  rw [List.map_cons] at hn;obtain ⟨h1,h2⟩:=List.nodup_cons.mp hn;rw [putD,aDl];by_cases h:k'=k
  ·subst h;rw [if_pos (by simp),O8 rfl h1];exact .cons rv t
  ·rw [if_neg (by simpa using h),O9 (p:=(k',v')) h];exact .cons r (zK rv t h2)
theorem nM.length {P:Addr->Prop} {H:Hp}:∀{kvs:List (Key×V)} {ds:List (D×D)},nM P H kvs ds->kvs.length=ds.length
 | _,_,.nil=>rfl
 | _,_,.cons _ t=>by rw [List.length_cons,List.length_cons,nM.length t]
theorem pN.length {P:Addr->Prop} {H:Hp}:∀{kvs:List (List Key×V)} {ds:List (D×D)},pN P H kvs ds->kvs.length=ds.length
 | _,_,.nil=>rfl
 | _,_,.cons _ t=>by rw [List.length_cons,List.length_cons,pN.length t]
theorem uZ {H:Hp} {a:Addr} {o ob:HO} (ha:H a=some ob) (hm:S9 ob=true):aA5 (fun _=>False) H (L2.upd H a o):=fun c oc hc h=>by
 rw [bJ]
 ·exact hc
 ·intro z;subst z;rcases h with h|h
  ·exact h.elim
  ·rw [ha] at hc;cases hc;rw [hm] at h;cases h
theorem xG {d:D} {k:D} (hd:d.pure=true):∀{ds:List (D×D)},D.a_ (ds.map (·.2))=true->D.a_ ((putD ds k d).map (·.2))=true
 | [],_=>by simp [putD,D.a_,hd]
 | (q,w)::r,h=>by
  rw [List.map_cons,D.a_,Bool.and_eq_true] at h;rw [putD];split
  ·rw [List.map_cons,D.a_,Bool.and_eq_true];exact ⟨hd,h.2⟩
  ·rw [List.map_cons,D.a_,Bool.and_eq_true];exact ⟨h.1,xG hd h.2⟩
theorem aIk {pins:List (Addr×Obj)} {s:Shared} {σ:L2.St} {H:Hp} {ad:Addr} {y v:V} {ds:List (D×D)} {k d:D} (I:Inv X pins σ H s) (rd:Rep All H (.ref ad) (.dct ds)) (hin:D.a_ (ds.map (·.2))=true) (rk:Rep All H y k) (hk:sZ ds k=true) (hl:ds.length<sizeLine) (rv:Rep All H v d) (hd:d.pure=true) :
  ∃H1 o,Inv X pins σ H1 s/\aBt H1 ad y v (L2.upd H ad o)/\S9 o=true/\Rep All (L2.upd H ad o) (.ref ad) (.dct (putD ds k d)):=by
 unfold sZ at hk;rw [Bool.and_eq_true] at hk;obtain ⟨h1,h2⟩:=hk;have rv':Rep (fun _=>False) H v d:=rv.cC hd;cases rd with
 | @dK _ kvs ds e _ r n=>
  have hlen:=r.length;rcases lH h1 rk with ⟨q,rfl,rfl⟩|⟨b,ks,rfl,eb,rfl⟩
  ·refine ⟨H,.dK (putK kvs q v),I,.k e (by lia),rfl,.dK aM trivial ?_ (qX n)⟩;exact (zJ rv' (r.cC hin) n).keep (uZ e rfl) fun _ z=>z.elim
  ·cases r with
   | nil=>
    refine ⟨L2.upd H ad (.dT []),.dT (putK [] ks v),o6 I e,?_,rfl,.dT aM trivial ?_ (qX List.nodup_nil)⟩
    ·have:=aBt.t (H:=L2.upd H ad (.dT [])) (a:=ad) (b:=b) (kvs:=[]) (k:=ks) (v:=v) aM (by rw [bJ (aCs eb e (by intro z;cases z))];exact eb) hl;rwa [JB] at this
    ·exact (zK (k:=ks) rv' .nil List.nodup_nil).keep (uZ e rfl) fun _ z=>z.elim
   | cons r t=>
    rw [List.all_cons,mR] at h2;simp [isTup] at h2
 | @dT _ kvs ds e _ r n=>
  have hlen:=r.length;rcases lH h1 rk with ⟨q,rfl,rfl⟩|⟨b,ks,rfl,eb,rfl⟩
  ·cases r with
   | nil=>
    refine ⟨L2.upd H ad (.dK []),.dK (putK [] q v),lJ I e,?_,rfl,.dK aM trivial ?_ (qX List.nodup_nil)⟩
    ·have:=aBt.k (H:=L2.upd H ad (.dK [])) (a:=ad) (kvs:=[]) (k:=q) (v:=v) aM hl;rwa [JB] at this
    ·exact (zJ (k:=q) rv' .nil List.nodup_nil).keep (uZ e rfl) fun _ z=>z.elim
   | cons r t=>
    rw [List.all_cons,mR] at h2;simp [isTup] at h2
  ·refine ⟨H,.dT (putK kvs ks v),I,.t e eb (by lia),rfl,.dT aM trivial ?_ (qX n)⟩;exact (zK rv' (r.cC hin) n).keep (uZ e rfl) fun _ z=>z.elim
theorem xH {i:Nat} {x:Str} {p1:Pos} {value k:Expr} {fv fk:FE} {rv rk:Bool} (hu:X.A.units+20<cLine) (ho:own i=true) (hN:X.N[i]?=some x) (hvi:Vis X.env.scope x) (hk:PE X k (gE fk rk)) (hv:PE X value (gE fv rv))
  (hs:swapsWith value (some (.Subscript (.Name x p1) k pos')) pos.line X.env=pure false:=by rfl) (hd:nDb x:=by decide) (hcd:nCd x:=by decide) :
  PS X (.Assign [.Subscript (.Name x p1) k pos'] value pos) (tS own (S8 i fk fv)):=by
 intro pins s σ H D' I ⟨ρ,fl,E,h,q⟩;obtain ⟨d,h0,h⟩:=bO h;obtain ⟨kd,h1,h2⟩:=bO h;split at h2
 ·rename_i kvs hx;split at h2
  ·rename_i hg;cases h2;simp only [Bool.and_eq_true] at hg;obtain ⟨⟨hg1,hg2⟩,hg3⟩:=hg;obtain ⟨a,o,hσ,r,hin,ha,hm⟩:=E.ownAt ho (by rw [hx];intro z;cases z);rw [hx] at r hin;refine wpAny_Assign_Subscript (thn (hv pins s σ H (fun v H1=>cZ H H1/\Rep All H1 v d) I ⟨ρ,d,E.er,h0,fun v H1 s1 r1 _=>⟨s1,r1⟩⟩) fun rr s1 ⟨v,H1,I1,rv1,sm1,rp1⟩=>
    thn (nT hN hvi hd hcd pins s1 σ H1 (fun w H2=>w=.ref a/\H2=H1) I1 ⟨_,hσ,rfl,rfl⟩) fun u s2 ⟨xx,H2,I2,rx,ex,eH⟩=>
    thn (hk pins s2 σ H2 (fun w H3=>cZ H2 H3/\Rep All H3 w kd) I2 ⟨ρ,kd,by rw [eH];exact E.er.same sm1,h1,fun v H1 s1 r1 _=>⟨s1,r1⟩⟩) fun iv s3 ⟨y,H3,I3,ry,sm3,rp3⟩=>?_) hs
   subst ex eH;obtain rfl:u=Value.ref a:=rx;have sm:=sm1.trans sm3;obtain ⟨H4,o4,I4,g,hmo,rp⟩:=aIk I3 (r.same sm) hin rp3 hg2 (aC2 hg1) (rp1.same sm3) hg3;obtain ⟨E2,k2⟩:=(E.same sm).mut ho hσ hmo rp (xG hg3 hin);exact U7 (by lia) I4 g ry rv1 fun s4 I5=>⟨σ,_,I5,q _ _ ((KU.same sm).trans k2) E2⟩
  ·cases h2
 ·cases h2
noncomputable def TgS (own:Nat->Bool) (g:TG) (t:D->List D->Res (List D)):Prop:=∀(v:V) (d:D) (ρ ρ':List D) (σ:L2.St) (H:Hp) (Q:L2.St->Hp->Prop),ES own H σ ρ->Rep (fun a=>¬Own own σ a) H v d->t d ρ=.ok ρ'->
 (∀σ',ES own H σ' ρ'->(∀a,Own own σ' a↔Own own σ a)->Q σ' H)->g v σ H Q
theorem iJ {i:Nat} (ho:own i=false):TgS own (tO i) (tg1 i):=fun v d ρ ρ' σ H Q E r h q=>by
 cases h;exact q _ (E.set ho r) fun a=>sG ho a
theorem ES.sets {H:Hp}:∀{is:List Nat} {vs:List V} {ds:List D} {σ:L2.St} {ρ:List D},(∀i∈is,own i=false)->ES own H σ ρ->b_ (fun a=>¬Own own σ a) H vs ds->ES own H (oE is vs σ) (VP is ds ρ)/\∀a,Own own (oE is vs σ) a↔Own own σ a
 | [],_,_,_,_,_,E,_=>by simp only [oE,VP];exact ⟨E,fun _=>trivial⟩
 | i::is,_,_,σ,ρ,h,E,.nil=>by simp only [oE,VP];exact ⟨E,fun _=>trivial⟩
 | i::is,_,_,σ,ρ,h,E,.cons (v:=v) r t=>by
  have ho:=h i (List.mem_cons_self ..);have hO:(fun a=>¬Own own (σ.set i (some v)) a)=fun a=>¬Own own σ a:=funext fun a=>by rw [sG ho]
  obtain ⟨h1,h2⟩:=ES.sets (is:=is) (fun j hj=>h j (List.mem_cons_of_mem _ hj)) (E.set ho r) (by rw [hO];exact t);exact ⟨h1,fun a=>(h2 a).trans (sG ho a)⟩
theorem mU (K:PySem.W.Frag) {is:List Nat} (ho:∀i∈is,own i=false):TgS own (aHy K is.length (gIx is)) (tgN is):=fun v d ρ ρ' σ H Q E r h q=>by
 cases d <;> simp only [tgN] at h <;> (try (cases h;done))
 split at h
 ·rename_i hl;cases h;have hl':=of_decide_eq_true hl;obtain ⟨a,xs,rfl,e,rr⟩:=r.gQ;obtain ⟨h1,h2⟩:=E.sets ho rr;exact ⟨a,xs,rfl,.of e,by rw [rr.length];exact hl',KR _ _ _ (by rw [rr.length];exact hl') (q _ h1 h2)⟩
 ·cases h
theorem ItQ.ku {K:PySem.W.Frag} {J:It} {items:List D} {σ σ':L2.St} {H H':Hp} {ρ:List D} (h:ItQ K (fun a=>¬Own own σ a) J H items) (k:KU own σ H σ' H') (E:ES own H σ ρ):ItQ K (fun a=>¬Own own σ' a) J H' items:=by
 cases h with
 | lst a e r=>exact .lst a e (k.rep E r)
 | tup a e r=>exact .tup a e (k.rep E r)
 | rng lo n e r=>exact .rng lo n e r
 | chs x e r=>exact .chs x e r
 | enm a ds e r h=>exact .enm a ds e (k.rep E r) h
 | enf m a ds e r h=>exact .enf m a ds e (k.rep E r) h
 | zip a b ds es e r q n h=>exact .zip a b ds es e (k.rep E r) (k.rep E q) n h
 | scr a hK e r=>exact .scr a hK e (k.rep E r)
theorem O_ {K:PySem.W.Frag} {g:TG} {t:D->List D->Res (List D)} {body:FS} {D':Ends} {J:It} {items:List D} {σ:L2.St} {H1:Hp} {ρ:List D} {fl:Fl} (tg:TgS own g t) (E:ES own H1 σ ρ) (hJ:ItQ K (fun a=>¬Own own σ a) J H1 items) (hf:qN t body items ρ=.ok fl) (q:kS own D' σ H1 fl) :
  ∃W:Nat->Nat->L2.St->Hp->Prop,(∃m,W 0 m σ H1)/\∀i m σ H,W i m σ H->
   (J.stop i H/\D'.nx σ H)\/(J.go i H/\∃N:L2.St->Hp->Prop,(∀σ' H',N σ' H'->∃m',m'<m/\W (i+1) m' σ' H')/\∀x H',J.yld i H x H'->g x σ H' fun σ2 H2=>tS own body {D' with nx:=N,ct:=N,bk:=D'.nx} σ2 H2):=by
 refine ⟨fun i m σ' H'=>m=items.length-i/\i<=items.length/\ItQ K (fun a=>¬Own own σ' a) J H' items/\∃ρ',ES own H' σ' ρ'/\qN t body (items.drop i) ρ'=.ok fl/\kS own D' σ' H' fl,⟨items.length,rfl,Nat.zero_le _,hJ,ρ,E,hf,q⟩,?_⟩;rintro i m σ' H' ⟨rfl,hi,hJ',ρ',E',hf',q'⟩;rcases Nat.lt_or_ge i items.length with hlt|hge
 ·refine .inr ?_;have e:items[i]?=some items[i]:=List.getElem?_eq_getElem hlt;obtain ⟨g1,g2⟩:=hJ'.go e;rw [List.drop_eq_getElem_cons hlt] at hf';obtain ⟨ρ1,h1,hf2⟩:=bO hf';obtain ⟨r,h2,hf3⟩:=bO hf2;refine ⟨g1,fun σ2 H2=>ItQ K (fun a=>¬Own own σ2 a) J H2 items/\∃ρ',ES own H2 σ2 ρ'/\qN t body (items.drop (i+1)) ρ'=.ok fl/\kS own D' σ2 H2 fl,fun σ2 H2 ⟨n1,n2⟩=>⟨items.length-(i+1),by lia,rfl,hlt,n1,n2⟩,fun x H2 hy=>?_⟩;obtain ⟨sH,rx⟩:=g2 x H2 hy;have ks:KU own σ' H' σ' H2:=fun a o e n=>⟨sH a o e,n⟩
  have hJ':=hJ'.ku ks E';have q':=q'.step ks;have E':=E'.same sH;refine tg x items[i] ρ' ρ1 σ' H2 _ E' rx h1 fun σ2 E2 hO=>?_
  have k0:KU own σ' H2 σ2 H2:=fun a o e n=>⟨e,by rw [hO];exact n⟩
  have hJ2:=hJ'.ku k0 E';have q2:=q'.step k0;refine ⟨ρ1,r,E2,h2,?_⟩;cases r with
  | nx ρ2=>exact fun σ3 H3 k3 E3=>⟨hJ2.ku k3 E2,ρ2,E3,hf3,q2.step k3⟩
  | ct ρ2=>exact fun σ3 H3 k3 E3=>⟨hJ2.ku k3 E2,ρ2,E3,hf3,q2.step k3⟩
  | bk ρ2=>cases hf3;exact fun σ3 H3 k3 E3=>q2 σ3 H3 k3 E3
  | rt d=>cases hf3;exact q2
 ·refine .inl ⟨hJ'.stop hge,?_⟩;rw [List.drop_eq_nil_of_le hge] at hf';cases hf';exact q' σ' H' (fun a o e n=>⟨e,n⟩) E'
theorem qY {tg iter:Expr} {body:List Stmt} {g:TG} {t:D->List D->Res (List D)} {it:FI} {fb:FS} (hp:PassesOwn (model X.prog X.w) X.A X.env X.xe) (hc:X.calm=true) (hi:PI X tg iter (gI X.K it)) (ht:TgS own g t) (hg:PG X tg g) (hb:PSs X body (tS own fb))
  (hs:∀x,foldedSetIterable iter X.env x=pure x:=by intro _;rfl):PS X (.For tg iter body [] pos) (tS own (RC it t fb)):=PS.imp (T9 hp hc hi hg hb hs) fun D' σ H ⟨ρ,fl,E,h,q⟩=>by
 obtain ⟨⟨items,k⟩,h1,h2⟩:=bO h;split at h2
 ·rename_i hk;exact ⟨ρ,items,k,E.er,h1,fun J H1 s1 _ hJ=>O_ ht (E.same s1) ((hJ hk).keep (fun _ _ e _=>e) fun a ha ho=>by
   obtain ⟨o,e1,_⟩:=E.live ho;rw [show H a=none from ha] at e1;cases e1) h2 (q.step (.same s1))⟩
 ·cases h2
theorem pP {tg:Expr} {body:List Stmt} {g:TG} {t:D->List D->Res (List D)} {i:Nat} {x:Str} {px:Pos} {fb:FS} (ho:own i=false) (hp:PassesOwn (model X.prog X.w) X.A X.env X.xe) (hc:X.calm=true) (hN:X.N[i]?=some x) (hv:Vis X.env.scope x) (ht:TgS own g t) (hg:PG X tg g) (hb:PSs X body (tS own fb))
  (hs:∀z,foldedSetIterable (.Name x px) X.env z=pure z:=by intro _;rfl) (hd:nDb x:=by decide) (hcd:nCd x:=by decide):PS X (.For tg (.Name x px) body [] pos) (tS own (uP i t fb)):=PS.imp (T9 hp hc (aC7 hN hv hd hcd) hg hb hs) fun D' σ H ⟨ρ,fl,E,h,q⟩=>by
 obtain ⟨d,h1,h⟩:=bO h;obtain ⟨items,h2,h3⟩:=bO h;obtain ⟨v,hv,r,e⟩:=E.er.var h1;have hne:ρ.getD i .uD≠.uD:=fun z=>by
  rw [z] at e;subst e;exact Rep.uD r
 obtain ⟨w,hw,hr⟩:=E.at_ i hne;rw [hv] at hw;cases hw;have r2:=hr ho;rw [e] at r2;exact ⟨v,d,items,hv,r,h2,fun J hJ=>O_ ht E (hJ _ r2) h3 q⟩
theorem zL {own:Nat->Bool} {N ps:List Str} {vs:List V} {ds:List D} {H:Hp} (hst:start N vs=vs.map some++List.replicate (N.length-ps.length) none) (hl:ds.length=ps.length) (r:b_ All H vs ds) (hown:∀i,i<ps.length->own i=false) (noown:∀a,¬Own own (start N vs) a):ES own H (start N vs) (ds++List.replicate (N.length-ps.length) .uD):=by
 refine ⟨by rw [hst];simp [r.length],fun i hi=>?_,fun i v hi hv=>?_⟩
 ·have hlt:i<ds.length:=Nat.lt_of_not_le fun hge=>hi (by
   rw [List.getD_eq_getElem?_getD,List.getElem?_append_right hge,List.getElem?_replicate];split <;> rfl)
  have e:(ds++List.replicate (N.length-ps.length) D.uD).getD i .uD=ds[i]:=by
   rw [List.getD_eq_getElem?_getD,List.getElem?_append_left hlt,List.getElem?_eq_getElem hlt];rfl
  obtain ⟨v,g1,g2⟩:=r.get (i:=i) (d:=ds[i]) (by simp [hlt]);refine ⟨v,by rw [hst,List.getElem?_append_left (by simp [r.length,hlt])];simp [g1],fun _=>?_⟩;rw [e];exact g2.mono fun a _=>noown a
 ·exfalso;rw [hst] at hv;by_cases h:i<ps.length
  ·rw [hown i h] at hi;cases hi
  ·rw [List.getElem?_append_right (by simp [r.length,hl];lia)] at hv;rw [List.getElem?_replicate] at hv;split at hv <;> cases hv
theorem WY {own:Nat->Bool} {N ps:List Str} {f:FS} {vs:List V} {H:Hp} {Q:VK} {E:XK} (hx:own rtX=false) (hown:∀i,i<ps.length->own i=false) (h0:spD (fnS ps.length N.length f) ps.length vs H Q E):tS own f {nx:=fun _ H'=>Q .non H',rt:=Q} (start N vs) H:=by
 obtain ⟨ds,d,hl,r,h,q⟩:=h0
 ·obtain ⟨fl,h1,h2⟩:=bO h;have hst:start N vs=vs.map some++List.replicate (N.length-ps.length) none:=by
   show vs.map some++List.replicate (N.length-vs.length) none=_;rw [r.length,hl]
  have noown:∀a,¬Own own (start N vs) a:=fun a ⟨i,hi,e⟩=>by
   rw [hst] at e;by_cases h:i<ps.length
   ·rw [hown i h] at hi;cases hi
   ·rw [List.getElem?_append_right (by simp [r.length,hl];lia)] at e;rw [List.getElem?_replicate] at e;split at e <;> cases e
  have E0:ES own H (start N vs) (ds++List.replicate (N.length-ps.length) .uD):=zL hst hl r hown noown;refine ⟨_,fl,E0,h1,?_⟩;have sm:∀{σ':L2.St} {H':Hp},KU own (start N vs) H σ' H'->cZ H H':=fun k a o e=>(k a o e (noown a)).1
  cases fl with
  | nx ρ'=>cases h2;exact fun σ' H' k E'=>q .non H' (sm k) .non fun _=>.non
  | rt d'=>
   cases h2;refine kRt.mk hx fun v H' hk rp=>q v H' (fun a o e=>hk a o e (noown a)) rp.all fun _=>rp.mono fun a ha=>?_
   rcases ha with ha|ha
   ·exact absurd ha (noown a)
   ·exact ha
  | bk ρ'=>cases h2
  | ct ρ'=>cases h2
theorem aGl {P:Program} {w:World} {K:PySem.W.Frag} {mg:Str->Option Value} {base:Heap} {x qual:Str} {st:Stmt} {fad:Addr} {fd:FuncData} {N ps:List Str} {k:Nat} {f:FS} (F:Fun K x qual st fad fd) (S:cN N ps (aQ st)) (own:Nat->Bool) (hown:∀i,i<ps.length->own i=false) (hNl:ps.length<=N.length)
  (hbody:∀(cdv:Value) (A:Around) (outer:List Env) (s:Shared) (H:Hp) (E:XK),rM k (A.deeper (envOfC qual (aQ st) s.heap.objs.size fad cdv))->PSs (jW CX0 P w K mg base N qual (aQ st) fad cdv A outer s H E).nox (g_ st) (tS own f)) (hx:own rtX=false:=by rfl):HY P w K mg base CX0 (k+1) fad fd ps (spD (fnS ps.length N.length f) ps.length):=
 F.ok S (fun vs H Q E h=>WN h) fun cdv A outer s H vs Q E hr h=>⟨_,hbody cdv A outer s H E hr,WY hx hown h⟩
end
end Mi
end
section
namespace Mi
open PySem L2 PySem.SeqAt PySem.Spec PyProof.Rows
variable [KFrag]
structure aIl where
 s₀:Shared
 H₀:Hp
 env:Env
 outer:List Env
 stack:List Env
 ex:List Addr
 fn:Str->Bool
 pn:List (Addr×Obj)
noncomputable abbrev mkC (X:Cx) (scope:Scope) (ownN:List Str) (y:aIl):Cx:=
 {X with N:=X.N.map (j7 ownN)++ownN,s₀:=y.s₀,H₀:=y.H₀,env:={y.env with scope:=relabel scope X.env},outer:=y.outer,stack:=y.stack,ex:=y.ex,fn:=y.fn,pn:=y.pn,xe:=fun _ _=>False}
theorem jZ {X X':Cx} {scope:Scope} {ownN:List Str} (cc:dM X X' scope ownN):∃y,X'=mkC X scope ownN y:=by
 refine ⟨⟨X'.s₀,X'.H₀,X'.env,X'.outer,X'.stack,X'.ex,X'.fn,X'.pn⟩,?_⟩;obtain ⟨h1,h2,h3,h4,h5,h6,h7,h8,h9,h10⟩:=cc;cases X' with
 | mk a b c d e f g h i j k l m n o p q=>
  cases j;dsimp only at *;subst h1 h2 h3 h4 h5 h6 h7 h8 h9 h10;rfl
section
variable {own:Nat->Bool} {X:Cx} {scope:Scope} {ownN:List Str} {elt iter tg c:Expr} {it:FI} {t:D->Res (List D)} {g:TG} {gc:FT} {fe:FE} {re:Bool} {pos:Pos} {n m:Nat}
theorem zM (S:dG X.N X.env.scope scope ownN) (hn:X.N.length=n) (hm:ownN.length=m) (hcalm:X.calm=true) (hi:PI X tg iter (gI X.K it)) (ht:TgC g t n m) (hg:∀y,PG (mkC X scope ownN y) tg g) (he:∀y,PE (mkC X scope ownN y) elt (gE fe re))
  (hs:∀x,foldedSetIterable iter X.env x=pure x):PE X (.ListComp elt [⟨tg,iter,[],0⟩] scope pos) (gE (gF n it t n_ fe re) true):=
 aDq S hn hm hcalm hi ht (fun X' cc=>by obtain ⟨y,rfl⟩:=jZ cc;exact hg y) (fun X' cc=>by obtain ⟨y,rfl⟩:=jZ cc;exact he y) hs
theorem RT (S:dG X.N X.env.scope scope ownN) (hn:X.N.length=n) (hm:ownN.length=m) (hcalm:X.calm=true) (hi:PI X tg iter (gI X.K it)) (ht:TgC g t n m) (hg:∀y,PG (mkC X scope ownN y) tg g) (hc:∀y,PT (mkC X scope ownN y) c (gT gc)) (he:∀y,PE (mkC X scope ownN y) elt (gE fe re))
  (hs:∀x,foldedSetIterable iter X.env x=pure x):PE X (.ListComp elt [⟨tg,iter,[c],0⟩] scope pos) (gE (gF n it t gc fe re) true):=
 WR S hn hm hcalm hi ht (fun X' cc=>by obtain ⟨y,rfl⟩:=jZ cc;exact hg y) (fun X' cc=>by obtain ⟨y,rfl⟩:=jZ cc;exact hc y) (fun X' cc=>by obtain ⟨y,rfl⟩:=jZ cc;exact he y) hs
theorem aAl {y:Str} {py pos2:Pos} {iy:Nat} {o:Bool} (S:dG X.N X.env.scope scope ownN) (hn:X.N.length=n) (hm:ownN.length=m) (hcalm:X.calm=true) (hi:PI X tg iter (gI X.K it)) (ht:TgC g t n m) (hg:∀y,PG (mkC X scope ownN y) tg g) (he:∀y,PE (mkC X scope ownN y) elt (gE fe re))
  (hs:∀x,foldedSetIterable iter X.env x=pure x) (ho:own iy=o) (hNn:X.N.Nodup) (hiy:X.N[iy]?=some y) (hxy:Loc X.env.scope y) (hfy:X.fn y=true\/X.env.scope.names.lookup y=some .local) (hsw:swapsWith (.ListComp elt [⟨tg,iter,[],0⟩] scope pos) (some (.Name y py)) pos2.line X.env=pure true) :
  PS X (.Assign [.Name y py] (.ListComp elt [⟨tg,iter,[],0⟩] scope pos) pos2) (tS own (cL o iy (gF n it t n_ fe re) true)):=
 aDu S hn hm hcalm hi ht (fun X' cc=>by obtain ⟨y,rfl⟩:=jZ cc;exact hg y) (fun X' cc=>by obtain ⟨y,rfl⟩:=jZ cc;exact he y) hs ho hNn hiy hxy hfy hsw
theorem lO {y:Str} {py pos2:Pos} {iy:Nat} {o:Bool} (S:dG X.N X.env.scope scope ownN) (hn:X.N.length=n) (hm:ownN.length=m) (hcalm:X.calm=true) (hi:PI X tg iter (gI X.K it)) (ht:TgC g t n m) (hg:∀y,PG (mkC X scope ownN y) tg g) (hc:∀y,PT (mkC X scope ownN y) c (gT gc)) (he:∀y,PE (mkC X scope ownN y) elt (gE fe re))
  (hs:∀x,foldedSetIterable iter X.env x=pure x) (ho:own iy=o) (hNn:X.N.Nodup) (hiy:X.N[iy]?=some y) (hxy:Loc X.env.scope y) (hfy:X.fn y=true\/X.env.scope.names.lookup y=some .local) (hsw:swapsWith (.ListComp elt [⟨tg,iter,[c],0⟩] scope pos) (some (.Name y py)) pos2.line X.env=pure true) :
  PS X (.Assign [.Name y py] (.ListComp elt [⟨tg,iter,[c],0⟩] scope pos) pos2) (tS own (cL o iy (gF n it t gc fe re) true)):=
 WW S hn hm hcalm hi ht (fun X' cc=>by obtain ⟨y,rfl⟩:=jZ cc;exact hg y) (fun X' cc=>by obtain ⟨y,rfl⟩:=jZ cc;exact hc y) (fun X' cc=>by obtain ⟨y,rfl⟩:=jZ cc;exact he y) hs ho hNn hiy hxy hfy hsw
end
def p_:FS:=fun _=>.bad
theorem iV {X:Cx} {own:Nat->Bool} {st:Stmt}:PS X st (tS own p_):=fun pins s σ H D I h=>by
 obtain ⟨_,_,_,h,_⟩:=h;cases h
noncomputable def dF (P:Program) (w:World) (K:PySem.W.Frag) (mg:Str->Option Value) (base:Heap) (k:Nat) (x:Str) (n:Nat) (f:List D->Res D):Prop:=
 ∃(fad:Addr) (fd:FuncData) (ps:List Str),HY P w K mg base CX0 k fad fd ps (spD f n)/\mg x=some (.ref fad)/\PySem.W.keepIn K (.ref fad)=true/\Binds K fd ps []
section
variable {X:Cx} {e:Expr} {es:List Expr} {pos p:Pos} {fs:FA} {rr:Bool} {x:Str} {k n:Nat} {f:List D->Res D}
theorem bB {k':Nat} (C:dF X.prog X.w X.K X.mg X.base k x n f) (hr:rM k' X.A) (hkk:k<=k') (hg:Gl X x) (ha:PA X (e::es) (gA fs rr)) (hdb:nDb x:=by decide) (he:starEach (e::es) X.env=(false,eval e X.env)::starEach es X.env:=by rfl) (hpl:(backTo pos (starEach es X.env)).any (·.1)=false:=by rfl) :
  PE X (.Call (.Name x p) (e::es) [] pos) (gE (aL (dI n f) fs) true):=by
 obtain ⟨fad,fd,ps,F,hm,hk,hb⟩:=C;exact aDo F (hr.mono hkk) hg hm hk hb ha hdb he hpl
theorem jH {P:Program} {w:World} {K:PySem.W.Frag} {mg:Str->Option Value} {base:Heap} {st:Stmt} {fad:Addr} {fd:FuncData} {N ps:List Str} {fs:FS} (F:Fun K x x st fad fd) (hm:mg x=some (.ref fad)) (hb:Binds K fd ps []) (S:cN N ps (aQ st)) (own:Nat->Bool) (hown:∀i,i<ps.length->own i=false) (hNl:ps.length<=N.length)
  (hbody:∀(cdv:Value) (A:Around) (outer:List Env) (s:Shared) (H:Hp) (E:XK),rM k (A.deeper (envOfC x (aQ st) s.heap.objs.size fad cdv))->PSs (jW CX0 P w K mg base N x (aQ st) fad cdv A outer s H E).nox (g_ st) (tS own fs)) (hx:own rtX=false:=by rfl):dF P w K mg base (k+1) x ps.length (fnS ps.length N.length fs):=
 ⟨fad,fd,ps,aGl F S own hown hNl hbody hx,hm,F.kp,hb⟩
end
theorem v6 {A:Around} {k:Nat} (hr:rM k A):A.units+20<cLine:=Nat.lt_of_le_of_lt (Nat.add_le_add_left (by decide:20<=64) _) hr.units
structure Bt (mg:Str->Option Value):Prop where
 len:mg "len" = none
 min:mg "min" = none
 max:mg "max" = none
 list:mg "list" = none
 tuple:mg "tuple" = none
 sorted:mg "sorted" = none
 range:mg "range" = none
 isi:mg "isinstance" = none
 int:mg "int" = none
 bool:mg "bool" = none
 str:mg "str" = none
 dict:mg "dict" = none
 all:mg "all" = none
 enum:mg "enumerate" = none
 sum:mg "sum" = none
 zip:mg "zip" = none
 abs:mg "abs" = none
 reversed:mg "reversed" = none
theorem d8:bootBuiltins "len" = some (.builtin "len"):=by decide +kernel
theorem xJ:bootBuiltins "min" = some (.builtin "min"):=by decide +kernel
theorem xK:bootBuiltins "max" = some (.builtin "max"):=by decide +kernel
theorem eU:bootBuiltins "sorted" = some (.builtin "sorted"):=by decide +kernel
theorem zN:bootBuiltins "isinstance" = some (.builtin "isinstance"):=by decide +kernel
theorem zO:bootBuiltins "list" = some (.type "list"):=by decide +kernel
theorem fX:bootBuiltins "tuple" = some (.type "tuple"):=by decide +kernel
theorem W0:bootBuiltins "int" = some (.type "int"):=by decide +kernel
theorem aDw:bootBuiltins "bool" = some (.type "bool"):=by decide +kernel
theorem zP:bootBuiltins "dict" = some (.type "dict"):=by decide +kernel
theorem ints_rep {P:Addr->Prop} {H:Hp}:∀ns:List Int,b_ P H (ns.map V.int) (ns.map D.int)
 | []=>.nil
 | n::ns=>.cons (.int n) (ints_rep ns)
end Mi
namespace Mi
open PySem L2
theorem W2 {K:PySem.W.Frag} {f:List D->Res D} {H:Hp} {a:Addr} {ns:List Int} {E:XK} (main:∀ns:List Int,ns.length<=63->f [.scr (ns.map D.int)]=.ok (.bl true)) (hl:ns.length<=63) (hO:Only H) (hS:SqL K H a (ns.map V.int)):@spD ⟨K⟩ f 1 [.ref a] H (fun v _=>v=.bl true) E:=by
 letI:KFrag:=⟨K⟩
 refine ⟨[.scr (ns.map D.int)],.bl true,rfl,.cons (.frz ?_ (ints_rep ns)) .nil,main ns hl,fun v H' s r n=>by cases r;rfl⟩;rcases hS with (h|⟨o,h⟩)|h
 ·rcases hO a with z|⟨o,xs,z⟩
  ·rw [h] at z;cases z
  ·rw [h] at z;cases z
 ·exact .inl ⟨o,h⟩
 ·exact .inr h
end Mi
end
section
namespace Mi
open PySem L2 PySem.SeqAt PySem.Spec PyProof.Rows
variable [KFrag]
section
variable {X:Cx}
section
variable {tg l a:Expr} {fl fa:FE} {rl ra:Bool} {p pos:Pos}
end
end
section
variable {X:Cx} {pos p:Pos} {x:Str} {k:Nat} {f:List D->Res D}
end
end Mi
end
section
namespace Mi
open PySem L2
theorem aC8 (b:Bool):asB (.bl b)=.ok b:=rfl
theorem bK:lim=1000000:=by unfold lim;exact Eq.refl _
theorem D_ {n:Nat} {ρ:List D} (h:ρ.length=n):J6 n ρ=ρ:=by
 subst h;apply List.ext_getElem
 ·simp [J6]
 ·intro i h1 h2;simp [J6,h2]
theorem eF {n:Nat} {f:List D->Res D} {ds:List D} (h:ds.length=n):dI n f ds=f ds:=by
 unfold dI;rw [if_pos (by simp [h])]
theorem aH {f:D->D->Res D} {a b:FE} {ρ:List D} {x y z:D} (h1:a ρ=.ok x) (h2:b ρ=.ok y) (h3:f x y=.ok z):b2 f a b ρ=.ok z:=by
 unfold b2;rw [h1,Res.aY,h2,Res.aY,h3]
theorem cA {i:Nat} {f:FE} {ρ:List D} {d:D} (h:f ρ=.ok d):cL false i f true ρ=.ok (.nx (ρ.set i d)):=by
 unfold cL;rw [h,Res.aY];rfl
theorem k_ {i:Nat} {f:FE} {ρ:List D} {d:D} (h:f ρ=.ok d) (hp:d.pure=true):cL false i f false ρ=.ok (.nx (ρ.set i d)):=by
 unfold cL;rw [h,Res.aY];simp only [hp,Bool.false_or,Bool.false_eq_true,if_false,if_true]
theorem fJ {i:Nat} {f:FE} {ρ:List D} {d:D} (h:f ρ=.ok d) (hp:inner d=true):cL true i f true ρ=.ok (.nx (ρ.set i d)):=by
 unfold cL;rw [h,Res.aY];simp only [hp,Bool.and_self,if_true]
theorem aIm {i j:Nat} {ρ:List D} {d:D} (h:jX j ρ=.ok d):sAl i j ρ=.ok (.nx (ρ.set i d)):=by
 unfold sAl;rw [h,Res.aY]
theorem aN {f g:FS} {ρ ρ':List D} {r:Res Fl} (h1:f ρ=.ok (.nx ρ')) (h2:g ρ'=r):bT f g ρ=r:=by
 unfold bT;rw [h1,Res.aY];exact h2
theorem aAm {c:FT} {f g:FS} {ρ:List D} {k:Bool} {r:Res Fl} (h1:c ρ=.ok k) (h2:(if k then f ρ else g ρ)=r):sIf c f g ρ=r:=by
 unfold sIf;rw [h1,Res.aY];exact h2
theorem PB {c:FT} {f g:FS} {ρ:List D} {r:Res Fl} (h1:c ρ=.ok true) (h2:f ρ=r):sIf c f g ρ=r:=aAm h1 (by rw [if_pos rfl];exact h2)
theorem nR {c:FT} {f g:FS} {ρ:List D} {r:Res Fl} (h1:c ρ=.ok false) (h2:g ρ=r):sIf c f g ρ=r:=aAm h1 (by rw [if_neg (by simp)];exact h2)
theorem dC {f:FE} {ρ:List D} {k:Bool} (h1:f ρ=.ok (.bl k)):bTB f ρ=.ok k:=by
 unfold bTB;rw [h1,Res.aY];rfl
theorem aGm {a b:FT} {ρ:List D} {r:Res Bool} (h1:a ρ=.ok true) (h2:b ρ=r):VN a b ρ=r:=by
 unfold VN;rw [h1,Res.aY,if_pos rfl,h2]
theorem aDx {a b:FT} {ρ:List D} (h1:a ρ=.ok false):VN a b ρ=.ok false:=by
 unfold VN;rw [h1,Res.aY,if_neg (by simp)];rfl
theorem aF0 {f g:D->D->Res D} {a b c:FE} {ρ:List D} {x y z:D} {r:Res D} (h1:a ρ=.ok x) (h2:b ρ=.ok y) (h3:f x y=.ok (.bl true)) (h4:c ρ=.ok z) (h5:g y z=r):bCh f g a b c ρ=r:=by
 unfold bCh;rw [h1,Res.aY,h2,Res.aY,h3,Res.aY,aC8,Res.aY,if_pos rfl,h4,Res.aY,h5]
theorem aIn {f g:D->D->Res D} {a b c:FE} {ρ:List D} {x y:D} (h1:a ρ=.ok x) (h2:b ρ=.ok y) (h3:f x y=.ok (.bl false)):bCh f g a b c ρ=.ok (.bl false):=by
 unfold bCh;rw [h1,Res.aY,h2,Res.aY,h3,Res.aY,aC8,Res.aY,if_neg (by simp)];rfl
theorem aD {a:FE} {b:FA} {ρ:List D} {x:D} {xs:List D} (h1:a ρ=.ok x) (h2:b ρ=.ok xs):aC a b ρ=.ok (x::xs):=by
 unfold aC;rw [h1,Res.aY,h2,Res.aY];rfl
theorem aK {f:List D->Res D} {a:FA} {ρ:List D} {xs:List D} {d:D} (h1:a ρ=.ok xs) (h2:f xs=.ok d):aL f a ρ=.ok d:=by
 unfold aL;rw [h1,Res.aY,h2]
theorem gC {a:FA} {ρ:List D} {xs:List D} (h:a ρ=.ok xs) (hl:xs.length<=lim):cJ a ρ=.ok (.tup xs):=by
 unfold cJ;rw [h,Res.aY,if_pos (decide_eq_true hl)];rfl
theorem lY {f:FE} {ρ:List D} {d:D} {k:Bool} (h:f ρ=.ok d) (hp:(k||d.pure)=true):v_ f k ρ=.ok (.rt d):=by
 unfold v_;rw [h,Res.aY,if_pos hp]
theorem qZ {it:FI} {t:D->List D->Res (List D)} {body:FS} {ρ:List D} {xs:List D} {r:Res Fl} (h1:it ρ=.ok (xs,true)) (h2:qN t body xs ρ=r):RC it t body ρ=r:=by
 unfold RC;rw [h1,Res.aY];exact h2
theorem pQ {i:Nat} {t:D->List D->Res (List D)} {body:FS} {ρ:List D} {d:D} {xs:List D} {r:Res Fl} (h1:jX i ρ=.ok d) (h2:qK d=.ok xs) (h3:qN t body xs ρ=r):uP i t body ρ=r:=by
 unfold uP;rw [h1,Res.aY,h2,Res.aY];exact h3
theorem xN {f:FA} {ρ:List D} {n:Int} (h:f ρ=.ok [.int n]) (h1:0<=n) (h2:n<=1000000):rQ f qL ρ=.ok ((List.range n.toNat).map fun (k:Nat)=>D.int (0+(k:Int)),true):=by
 unfold rQ;rw [h,Res.aY];have:uO n=true:=by
  simp only [uO,Bool.and_eq_true,decide_eq_true_eq];lia
 simp only [qL,this,if_true]
theorem EY {i:Nat} {f g:FE} {ρ:List D} {kvs:List (D×D)} {k d:D} (h1:g ρ=.ok d) (h2:f ρ=.ok k) (h3:ρ.getD i .uD=.dct kvs) (h4:kvs.length<lim) (h5:sZ kvs k=true) (h6:d.pure=true):S8 i f g ρ=.ok (.nx (ρ.set i (.dct (putD kvs k d)))):=by
 unfold S8;rw [h1,Res.aY,h2,Res.aY,h3];simp only [decide_eq_true h4,h5,h6,Bool.and_self,if_true]
theorem aGn {i:Nat} {f g:FE} {ρ:List D} {xs:List D} {j:Int} {d:D} (h1:f ρ=.ok (.int j)) (h2:g ρ=.ok d) (h3:ρ.getD i .uD=.lst xs) (h4:xs.length<lim) (h5:d.pure=true) (h6:0<=j) (h7:j<=xs.length):aG2 i f g ρ=.ok (.nx (ρ.set i (.lst (xs.take j.toNat++d::xs.drop j.toNat)))):=by
 unfold aG2;rw [h1,Res.aY,h2,Res.aY,h3];simp only [decide_eq_true h4,h5,decide_eq_true h6,decide_eq_true h7,Bool.and_self,if_true]
theorem u5 {i:Nat} {f:FE} {ρ:List D} {xs:List D} {d:D} (h1:f ρ=.ok d) (h3:ρ.getD i .uD=.lst xs) (h4:xs.length<lim) (h5:d.pure=true):nJ i f ρ=.ok (.nx (ρ.set i (.lst (xs++[d])))):=by
 unfold nJ;rw [h1,Res.aY,h3];simp only [decide_eq_true h4,h5,Bool.and_self,if_true]
theorem cX {t:D->List D->Res (List D)} {body:FS} {x:D} {xs:List D} {ρ ρ1 ρ2:List D} {r:Res Fl} (h1:t x ρ=.ok ρ1) (h2:body ρ1=.ok (.nx ρ2)) (h3:qN t body xs ρ2=r):qN t body (x::xs) ρ=r:=by
 rw [qN,h1,Res.aY,h2,Res.aY];exact h3
theorem zQ (L:List D) (i:Int) (h0:0<=i) (h1:i<L.length):∃(h:i.toNat<L.length),getD (.lst L) (.int i)=.ok L[i.toNat]:=by
 have hlt:i.toNat<L.length:=by lia
 refine ⟨hlt,?_⟩;show Res.ofOpt ((ixD L.length i).bind fun j=>L[j]?)=_;unfold ixD;rw [if_pos h0,if_pos h1];simp only [Option.bind_some];rw [List.getElem?_eq_getElem hlt];rfl
theorem pD (L:List D):iD [.lst L]=.ok (.int L.length):=rfl
theorem mV {n:Nat} {it:FI} {t:D->Res (List D)} {c:FT} {f:FE} {k kk:Bool} {ρ:List D} {xs ys:List D} (h1:it ρ=.ok (xs,kk)) (h2:xs.length<=lim) (h3:rR (qM n t c f k ρ) [] xs=.ok ys):gF n it t c f k ρ=.ok (.lst ys):=by
 unfold gF;rw [h1,Res.aY];simp only [decide_eq_true h2,if_true];rw [h3];rfl
theorem g8 {a:FE} {fr:Bool} {ρ:List D} {d:D} {xs:List D} (h1:a ρ=.ok d) (h2:qK d=.ok xs):eQ a fr ρ=.ok (xs,fr||d.pure):=by
 unfold eQ;rw [h1,Res.aY,h2,Res.aY];rfl
theorem jJ {n:Nat} {c:FT} {f:FE} {k:Bool} {ρ acc:List D} {x y:D} {b:Bool} (hρ:ρ.length=n) (h1:c (ρ++[x])=.ok b) (h2:b=true->f (ρ++[x])=.ok y/\(k||y.pure)=true):qM n pM c f k ρ acc x=.ok (if b then acc++[y] else acc):=by
 unfold qM;show (do let ok <- c (J6 n ρ++[x]);_)=_;rw [D_ hρ,h1,Res.aY];cases b with
 | true=>
  obtain ⟨e1,e2⟩:=h2 rfl;rw [if_pos rfl,e1,Res.aY,if_pos e2,if_pos rfl];rfl
 | false=>
  rw [if_neg (by simp),if_neg (by simp)];rfl
theorem fO {α:Type} (g:List D->D->Res (List D)) (d:α->D) (p:α->Bool) (y:α->D) (h:∀acc a,g acc (d a)=.ok (if p a then acc++[y a] else acc)):∀(xs:List α) (acc:List D),rR g acc (xs.map d)=.ok (acc++(xs.filter p).map y)
 | [],acc=>by simp [rR]
 | x::xs,acc=>by
  rw [List.map_cons,rR,h];show rR g _ _=_;rw [fO g d p y h xs];by_cases hp:p x
  ·simp [hp]
  ·simp [hp]
theorem eV (a b:Int):aU .add (.int a) (.int b)=.ok (.int (a+b)):=rfl
theorem u_ (a b:Int):aU .sub (.int a) (.int b)=.ok (.int (a-b)):=rfl
theorem W3 (a b:Int) (h:uN b=true):aU .mul (.int a) (.int b)=.ok (.int (a*b)):=by
 simp only [aU,h,Bool.or_true,if_true]
theorem vA (a b:Int) (h:uN a=true):aU .mul (.int a) (.int b)=.ok (.int (a*b)):=by
 simp only [aU,h,Bool.true_or,if_true]
theorem gJ (a b:Int) (h1:0<b) (h2:b<1073741824):aU .fdiv (.int a) (.int b)=.ok (.int (a / b)):=by
 simp only [aU,decide_eq_true h1,decide_eq_true h2,Bool.and_self,if_true]
theorem eX (a b:Int) (h1:0<b):aU .mod (.int a) (.int b)=.ok (.int (a % b)):=by
 simp only [aU,decide_eq_true h1,if_true]
theorem j_ (a:Int) (h1:-1000000<=a) (h2:a<=1000000):uN a=true:=by
 simp only [uN,Bool.and_eq_true,decide_eq_true_eq];lia
theorem JV (a b:Str) (h:a.length+b.length<=lim):aU .add (.str a) (.str b)=.ok (.str (a++b)):=by
 simp only [aU,decide_eq_true h,if_true]
theorem str_len (a b:Str):(a++b).length=a.length+b.length:=by
 show (a.cps++b.cps).size=_;rw [Array.size_append];rfl
theorem KY (a b:List D) (h:a.length+b.length<=lim) (ha:D.a_ a=true) (hb:D.a_ b=true):aU .add (.lst a) (.lst b)=.ok (.lst (a++b)):=by
 simp only [aU,decide_eq_true h,ha,hb,Bool.and_self,if_true]
theorem PJ (n:Nat) (h:n<=1000):aU .pow (.int 10) (.int n)=.ok (.int (10 ^ n)):=by
 have h1:decide ((0:Int)<=(n:Int))=true:=by simp
 have h2:decide ((n:Int)<=1000000)=true:=by simp;lia
 have h3:decide ((10:Int).natAbs<2 ^ 64)=true:=by decide
 simp only [aU,h1,h2,h3,Bool.and_self,if_true,Int.toNat_natCast]
theorem o7 (S:List Int):D.a_ (S.map D.int)=true:=by
 induction S with
 | nil=>rfl
 | cons q Q ih=>rw [List.map_cons,D.a_,ih];rfl
theorem aDy (ns:List Int) (lo hi:Option Int):cutD (ns.map D.int) lo hi=(cutD ns lo hi).map D.int:=by
 unfold cutD;rw [List.length_map,List.map_take,List.map_drop]
theorem aDz (ns:List Int) (lo hi:Option Int):(cutD ns lo hi).length<=ns.length:=by
 unfold cutD;exact Nat.le_trans (List.length_take_le' ..) (by rw [List.length_drop];lia)
end Mi
end
section
namespace Mi
open PySem L2 PySem.SeqAt PySem.Spec PyProof.Rows
theorem KZ {P:Program} {w:World} {H:Hp} {h:Heap} {a:Addr} {o:HO} (x:jO P w H h a o):∃ob,h.get? a=some ob:=by
 cases o with
 | lst xs=>obtain ⟨_,_,_,_,e⟩:=x;exact ⟨_,e⟩
 | tup xs=>obtain ⟨_,_,_,_,e,_⟩:=x;exact ⟨_,e⟩
 | dK kvs=>obtain ⟨_,_,_,_,o,_,_,e,_⟩:=x;exact ⟨_,e⟩
 | dT kvs=>obtain ⟨_,_,_,_,o,_,_,e,_⟩:=x;exact ⟨_,e⟩
 | set S n=>obtain ⟨o,_,_,_,e,_⟩:=x;exact ⟨_,e⟩
 | ins C dx fs=>obtain ⟨_,_,_,e,_⟩:=x;exact ⟨_,e⟩
 | own y=>exact x
 | xd fs=>obtain ⟨_,⟨_,_,_,e,_⟩,_⟩:=x;exact ⟨_,e⟩
 | rng lo hi=>obtain ⟨_,_,_,e⟩:=x;exact ⟨_,e⟩
 | frz ob u=>obtain ⟨e,_⟩:=x;exact ⟨_,e⟩
 | tbl ps=>exact ⟨_,show h.get? a=some _ from x⟩
 | met f y=>exact ⟨_,show h.get? a=some _ from x⟩
 | ext φ=>obtain ⟨_,e,_⟩:=x;exact e
noncomputable def CX1 (P:Program) (w:World) (C:Addr):CXT:=fun outer H s E e s'=>∃(a t:Addr) (H1:Hp) (B:Heap),e=.ref a/\s'.os=s.os/\AllBare s'.gens/\Heap.FlyingW B outer a (.ref C) (.ref t) s'.heap/\
 (∀h6:Heap,B.StaysIn h6->s'.heap.UpToSlots h6->Un (L2.frs outer) [] H H1 s.heap h6/\HOk P w H1 h6)/\H1 a=none/\s.heap.get? a=none/\E (.ref C) none H1
section
variable {P:Program} {w:World} {K:PySem.W.Frag} {mg:Str->Option Value} {base:Heap} {N:List Str} {qual:Str} {scope:Scope} {f C:Addr} {cd:Value} {A:Around} {outer:List Env} {s:Shared} {H:Hp} {E:XK}
theorem aAn {pins:List (Addr×Obj)} {σ:L2.St} {H1:Hp} {s1:Shared} (I:Inv (jW (CX1 P w C) P w K mg base N qual scope f cd A outer s H E) pins σ H1 s1) {h2:Heap} {e:Addr} {args:List Value} (hx:Heap.MadeExcOf s1.heap h2 e (.ref C) args) (hE:E (.ref C) none H1) :
  (jW (CX1 P w C) P w K mg base N qual scope f cd A outer s H E).xe (.ref e) {s1 with heap:=h2}:=by
 let env:=envOfC qual scope s.heap.objs.size f cd
 have hfr:L2.frs (env::outer)=s.heap.objs.size::L2.frs outer:=by
  unfold L2.frs;rw [List.filterMap_cons];rfl
 have hin:∀v∈(env::outer),∀b,v.frame=some b->b∈L2.frs (env::outer):=fun v hv b hb=>List.mem_filterMap.mpr ⟨v,hv,hb⟩
 have stk:s1.heap.FunFrames base (env::outer):=I.stack;have sfree:∀b∈L2.frs (env::outer),H1 b=none:=I.JC;have u0:Un (L2.frs outer) [] H H1 s.heap s1.heap:=I.base;show wpAny (model P w) (A.deeper env) (leaving env (.ref e)) (fun _ s''=>CX1 P w C outer H s E (.ref e) s'') (fun e' s''=>CX1 P w C outer H s E e' s'') {s1 with heap:=h2};refine wpAny_leaves_madeW (base:=PySem.W.hideAll s1.heap (L2.frs (env::outer))) (L:=s.heap.objs.size) (h:=s1.heap) I.ok.frames rfl (fun b o q=>PySem.W.of_hideAll _ q) (PySem.W.funFrames_hide stk hin) hx fun h' t x1 x2 x3 x4=>?_
 have hgone:s.heap.get? e=none:=by
  cases q:s.heap.get? e with
  | none=>rfl
  | some o=>
   obtain ⟨o',e1⟩:=u0.there e o q (by simp);rw [hx.new] at e1;cases e1
 have huntr:H1 e=none:=by
  cases q:H1 e with
  | none=>rfl
  | some u=>
   obtain ⟨o,e1⟩:=KZ (I.hok e u q);rw [hx.new] at e1;cases e1
 refine ⟨e,t,H1,_,rfl,I.os,I.bare,x1,fun h6 st up=>?_,huntr,hgone,hE⟩;have k:∀b o,s1.heap.get? b=some o->b∉L2.frs (env::outer)->h6.get? b=some o:=fun b o eb hb=>st b o (PySem.W.hideAll_get _ eb hb)
 have up6:s1.heap.UpToSlots h6:=((Heap.UpToSlots.of_keeps hx.keeps).trans x4).trans up;have nL:∀b o,s.heap.get? b=some o->b∉L2.frs outer->b∉L2.frs (env::outer):=fun b o eb hb z=>by
  rw [hfr] at z;rcases List.mem_cons.mp z with z|z
  ·exact absurd (Heap.lt_size eb) (by rw [z];exact Nat.lt_irrefl _)
  ·exact hb z
 have slot:∀b o,s1.heap.get? b=some o->b∈L2.frs outer->∃sl,h6.get? b=some {o with slots:=sl}:=fun b o eb hb=>by
  obtain ⟨_,o',ho',hd⟩:=stk.mem (show b∈L2.frs (env::outer) by rw [hfr];exact List.mem_cons_of_mem _ hb);rw [eb] at ho';cases ho';exact up6 b o eb hd
 refine ⟨⟨fun b o eb hn hb hx'=>k b o (u0.keep b o eb hn hb hx') (nL b o eb hb),fun b o eb hn hb hx'=>?_,fun b o eb hn hx'=>u0.free b o eb hn hx',fun b o eb hx'=>?_,u0.tups,u0.frzs,u0.tbls⟩,fun b u eb=>?_⟩
 ·obtain ⟨sl,e1⟩:=u0.slot b o eb hn hb hx';obtain ⟨sl',e2⟩:=slot b _ e1 hb;exact ⟨sl',e2⟩
 ·obtain ⟨o',e1⟩:=u0.there b o eb hx';by_cases hb:b∈L2.frs outer
  ·obtain ⟨sl,e2⟩:=slot b o' e1 hb;exact ⟨_,e2⟩
  ·exact ⟨o',k b o' e1 (nL b o eb hb)⟩
 ·refine (I.hok b u eb).stay (fun c v hc q=>k c v q fun z=>?_) (fun _ q=>q) fun _ _ q=>q
  have:=sfree c z;rcases hc with hc|hc
  ·rw [hc,eb] at this;cases this
  ·rw [hc] at this;cases this
end
theorem aE0 {K:PySem.W.Frag} {h:Heap} {C:Addr} {bmB:List Value} {newId:String} (X:K.In h) (q:PySem.W.excIn K C bmB newId=true) :
  ∃bm N nm qn bs hdct sn sub ab col dd k0 k1 k2 k3 k5 mN,h.get? C=some (excClassObj nm qn C N bs bm hdct sn sub ab col dd k0 k1 k2 k3 k5 newId)/\h.Ns N mN/\mN "__init__" = none/\OwnTail h bmB bm:=by
 unfold PySem.W.excIn at q;split at q
 ·rename_i dd cd sl ho;split at q
  ·rename_i C' bm k0 k1 k2 k3 n k5 hm hs;rw [Bool.and_eq_true,Bool.and_eq_true,Bool.and_eq_true,Bool.and_eq_true,Bool.and_eq_true] at q;obtain ⟨⟨⟨⟨⟨q1,q2⟩,q3⟩,q4⟩,q5⟩,q6⟩:=q;have q1:=beq_iff_eq.mp q1;have q2:=beq_iff_eq.mp q2;rw [Bool.not_eq_true'] at q3;subst q1 q2;obtain ⟨nm,bs,mro,ns,qn,hd,sn,sub,ab,col,del⟩:=cd;obtain ⟨l⟩:=sl;dsimp only at hm q3 q5 q6 hs;subst hm q3 hs;exact ⟨bm,ns,nm,qn,bs,hd,sn,sub,ab,col,dd,k0,k1,k2,k3,k5,_,X _ _ ho,.of_isNs (PySem.W.isNs_of_in X q5),PySem.W.nsMap_none_of_in X q5 (beq_iff_eq.mp q6),PySem.W.tail_of_in X q4⟩
  ·cases q
 ·cases q
abbrev aF1:List Value:=[.type "ValueError",.type "Exception",.type "BaseException",.type "object"]
theorem aAo {X:Cx} {x:Str} {C:Addr} {np cpos pos:Pos} {e:Expr} {ta:TA} (hc:X.calm=true) (hg:Gl X x) (hm:X.mg x=some (.ref C)) (hq:PySem.W.excIn X.K C aF1 "ValueError.__new__" = true) (ha:PA X [e] ta)
  (he:starEach [e] X.env=[(false,eval e X.env)]:=by rfl) (hd:nDb x:=by decide) :
  PS X (.Raise (some (.Call (.Name x np) [e] [] cpos)) none pos) (fun D σ H=>ta σ H fun vs H1=>vs.length<=sizeLine/\∀(pins:List (Addr×Obj)) (s:Shared) (h2:Heap) (a:Addr) (us:List Value),Inv X pins σ H1 s->Heap.MadeExcOf s.heap h2 a (.ref C) us->X.xe (.ref a) {s with heap:=h2}):=by
 intro pins s σ H D I h;obtain ⟨bm,N,nm,qn,bs,hdct,sn,sub,ab,col,dd,k0,k1,k2,k3,k5,mN,hC,hN,hni,T⟩:=aE0 I.mod.kin hq;refine wpAny_Raise_call_subT (C:=C) (nm:=nm) (q:=qn) (N:=N) (bs:=bs) (bm:=bm) (hdct:=hdct) (sn:=sn) (sub:=sub) (ab:=ab) (col:=col) (dd:=dd) (k0:=k0) (k1:=k1) (k2:=k2) (k3:=k3) (k5:=k5)
  PySem.F.excBase_ValueError (mN:=mN) (T.hasType PySem.F.excBase_ValueError.hasBase) (I.ok.hd hc) (by rw [he];rfl) hni (x_ I hg hm ⟨rfl,?_⟩ hd)
 rw [he];have h':=ha cpos pins s σ H _ I h;rw [he] at h';refine Calls.evalArgs_plain (wpAny_mono h' (fun us s2 ⟨vs,H1,I1,r,hl,hx⟩=>⟨rfl,by rw [<-r.length];exact hl,I1.bk _ _ hC,hN.keeps I1.bk,T.keeps I1.bk,fun h2 a hm=>hx pins s2 h2 a us I1 hm⟩) fun _ _ y=>y)
section
variable [KFrag]
theorem PS.nox {X:Cx} {st:Stmt} {t:TS} (h:PS X.nox st t):PS X st t:=fun pins s σ H D I hw=>
 wpAny_mono (h pins s σ H D (I.wish _) hw) (fun _ _ q=>SP.pB q) fun _ _ z=>False.elim z
end
end Mi
end
section
namespace Mi
open PySem L2 PySem.W PySem.SeqAt PySem.Spec PyProof.Rows PySem.Builtin PySem.Builtin.ObjectAttr PySem.Builtin.Getset_descriptor
section
variable {prog:Program} {w:World} {A:Around} {E:Value->Shared->Prop} {s:Shared} {K:Frag} {x C:Addr}
end
end Mi
end
section
namespace Mi
open PySem L2 PySem.W PySem.SeqAt PySem.Spec PyProof.Rows
abbrev mrk (X:Cx) (v:Value):Cx:={X with A:=X.A.mark (some v),calm:=false}
section
variable {X:Cx} {pins:List (Addr×Obj)} {σ:L2.St} {H H1 H2:Hp} {s:Shared} {h h6:Heap} {a:Addr}
theorem W4 (I:Inv X pins σ H s) (v:Value):Inv (mrk X v) pins σ H s:=
 ⟨⟨I.ok.mod,I.ok.kind,I.ok.glob,I.ok.blt,I.ok.above,I.ok.inj,I.ok.has,I.ok.cab,(fun z=>nomatch z),I.ok.frames,I.ok.stk,I.ok.exf,I.ok.bs,I.ok.bsz,I.ok.noex,I.ok.exfs,I.ok.S6,I.ok.frf⟩,I.os,I.bare,I.base,I.loc,I.cell,I.free,I.freeC,I.pin,I.hok,I.len⟩
theorem W5 {v:Value} (ok:X.Ok) (I:Inv (mrk X v) pins σ H s):Inv X pins σ H s:=
 ⟨ok,I.os,I.bare,I.base,I.loc,I.cell,I.free,I.freeC,I.pin,I.hok,I.len⟩
end
end Mi
end
section
namespace Mi
open PySem L2 PySem.W PySem.SeqAt PySem.Spec PyProof.Rows
variable [KFrag]
section
variable {X:Cx} {C:Addr} {i:Nat} {cs:List Addr} {b:Bool} {y:Str} {p np tpos pos:Pos} {es:List Expr} {kk:Nat} {ce:Expr} {v:V} {u:Value}
end
noncomputable def aC9 (f:FE) (t:D->List D->Res (List D)):FS:=fun ρ=>do
 let d <- f ρ
 if d.pure then (do let ρ' <- t d ρ;.ok (.nx ρ')) else .bad
theorem E_ {X:Cx} {own:Nat->Bool} {e tg:Expr} {pos:Pos} {fe:FE} {re:Bool} {g:TG} {t:D->List D->Res (List D)} (he:PE X e (gE fe re)) (ht:TgS own g t) (hg:PG X tg g) (hs:swapsWithSole [tg] e pos.line X.env=pure false:=by rfl) (hw:swappedStores [tg] e X.env=pure none:=by rfl)
  (h1:(assignEach [tg] X.env).map (·.2)=[assign tg X.env]:=by rfl):PS X (.Assign [tg] e pos) (tS own (aC9 fe t)):=PS.imp (aFf he hg hs hw h1) fun D' σ H ⟨ρ,fl,E,h,q⟩=>by
 obtain ⟨d,h1,h2⟩:=bO h;split at h2
 ·rename_i hp;obtain ⟨ρ',h3,h4⟩:=bO h2;cases h4;refine ⟨ρ,d,E.er,h1,fun v H1 s1 r _=>ht v d ρ ρ' σ H1 _ (E.same s1) (r.cC hp) h3 fun σ2 E2 hO=>?_⟩;have k0:KU own σ H1 σ2 H1:=fun a o e n=>⟨e,by rw [hO];exact n⟩
  exact q σ2 H1 ((KU.same s1).trans k0) E2
 ·cases h2
noncomputable def pU (a:FA):FE:=fun ρ=>do let xs <- a ρ;if decide (xs.length<=lim)&&D.a_ xs then pure (.lst xs) else .bad
theorem mW {X:Cx} {pos:Pos} {es:List Expr} {f:FA} {r:Bool} (h:PA X es (gA f r)):PE X (.List es pos) (gE (pU f) true):=PE.imp (aBr h) fun σ H Q ⟨ρ,d,E,h,q⟩=>by
  obtain ⟨xs,h1,h⟩:=bO h;split at h
  ·rename_i hl;rw [Bool.and_eq_true] at hl;cases h;refine ⟨ρ,xs,E,h1,fun vs H1 s1 r1 n1=>⟨?_,fun p hp=>?_⟩⟩
   ·rw [r1.length];exact Nat.le_trans (of_decide_eq_true hl.1) (by rw [sizeLine_eq];decide)
   ·have sp:cZ H1 (upd H1 p (.lst vs)):=cZ.upd hp;exact q _ _ (s1.trans sp) (.lst aM trivial (r1.same sp)) fun _=>.lst aM (s1.free hp) ((r1.cC hl.2).same sp)
  ·cases h
end Mi
end
section
namespace Mi
open PySem L2 PySem.W PySem.SeqAt PySem.Spec PyProof.Rows
abbrev FR:=List D->Bool
def rT:FR:=fun _=>true
noncomputable def vB (h:List D->Bool) (a:FA):FR:=fun ρ=>match a ρ with|.ok ds=>h ds|_=>false
def rIf (c:FT):FR:=fun ρ=>match c ρ with|.ok true=>true|_=>false
noncomputable def zR (f:FS) (g:FR):FR:=fun ρ=>match f ρ with|.ok (.nx ρ')=>g ρ'|_=>false
def rOr (g1 g2:FR):FR:=fun ρ=>g1 ρ||g2 ρ
noncomputable def rfn (n m:Nat) (g:FR):List D->Bool:=fun ds=>decide (ds.length=n)&&g (ds++List.replicate (m-n) .uD)
section
variable {P:Program} {w:World} {K:PySem.W.Frag} {mg:Str->Option Value} {base:Heap} {N:List Str} {qual:Str} {scope:Scope} {f C:Addr} {cd:Value} {A:Around} {outer:List Env} {s:Shared} {H:Hp} {E:XK}
theorem W6:M9 (CX1 P w C) (jW (CX1 P w C) P w K mg base N qual scope f cd A outer s H E) E:=by
 intro pins σ Hm sm e s' I hx;obtain ⟨a,t,H1,B,rfl,os',bare',fly,clo,hn,hgone,hE⟩:=hx
 let env:=envOfC qual scope s.heap.objs.size f cd
 have hfr:L2.frs (env::outer)=s.heap.objs.size::L2.frs outer:=by
  unfold L2.frs;rw [List.filterMap_cons];rfl
 have u0:Un (L2.frs outer) [] H Hm s.heap sm.heap:=I.base;show wpAny (model P w) (A.deeper env) (leaving env (.ref a)) (fun _ s''=>CX1 P w C outer H s E (.ref a) s'') (fun e' s''=>CX1 P w C outer H s E e' s'') s';refine wpAny_leaves_onW (L:=s.heap.objs.size) I.ok.frames rfl fly fun h' x1 x4=>?_
 have hgone0:s.heap.get? a=none:=by
  cases q:s.heap.get? a with
  | none=>rfl
  | some o=>
   obtain ⟨o',e1⟩:=u0.there a o q (by simp);rw [hgone] at e1;cases e1
 refine ⟨a,t,H1,B,rfl,os'.trans I.os,bare',x1,fun h6 st up=>?_,hn,hgone0,hE⟩;obtain ⟨u2,hok⟩:=clo h6 st (x4.trans up);have nL:∀b o,s.heap.get? b=some o->b∉L2.frs outer->b∉L2.frs (env::outer):=fun b o eb hb z=>by
  rw [hfr] at z;rcases List.mem_cons.mp z with z|z
  ·exact absurd (Heap.lt_size eb) (by rw [z];exact Nat.lt_irrefl _)
  ·exact hb z
 refine ⟨⟨fun b o eb hn hb hx'=>u2.keep b o (u0.keep b o eb hn hb hx') (u0.free b o eb hn hx') (nL b o eb hb) (by simp),fun b o eb hn hb hx'=>?_,fun b o eb hn hx'=>?_,fun b o eb hx'=>?_,fun b xs q=>u2.tups b xs (u0.tups b xs q),fun b o u q=>u2.frzs b o u (u0.frzs b o u q),fun b ps q=>?_⟩,hok⟩
 ·obtain ⟨sl,e1⟩:=u0.slot b o eb hn hb hx';obtain ⟨sl',e2⟩:=u2.slot b _ e1 (u0.free b o eb hn hx') (show b∈L2.frs (env::outer) by rw [hfr];exact List.mem_cons_of_mem _ hb) (by simp);exact ⟨sl',e2⟩
 ·obtain ⟨o',e1⟩:=u0.there b o eb hx';exact u2.free b o' e1 (u0.free b o eb hn hx') (by simp)
 ·obtain ⟨o',e1⟩:=u0.there b o eb hx';exact u2.there b o' e1 (by simp)
 ·obtain ⟨m1,q1⟩:=u0.tbls b ps q;obtain ⟨m2,q2⟩:=u2.tbls b _ q1;exact ⟨m1++m2,by rw [<-Array.append_assoc];exact q2⟩
end
variable [KFrag]
noncomputable def tR (own:Nat->Bool) (C:Addr) (E:XK) (g:FR):TS:=fun _ σ H=>∃ρ,ES own H σ ρ/\g ρ=true/\∀σ' H',KU own σ H σ' H'->E (.ref C) none H'
noncomputable def spR (h:List D->Bool) (n:Nat) (C:Addr):Sp:=fun vs H _ E=>∃ds,ds.length=n/\b_ All H vs ds/\h ds=true/\∀H',cZ H H'->E (.ref C) none H'
noncomputable def wB (P:Program) (w:World) (K:PySem.W.Frag) (mg:Str->Option Value) (base:Heap) (k:Nat) (x:Str) (n:Nat) (C:Addr) (h:List D->Bool):Prop:=
 ∃(fad:Addr) (fd:FuncData) (ps:List Str),HY P w K mg base (CX1 P w C) k fad fd ps (spR h n C)/\mg x=some (.ref fad)/\PySem.W.keepIn K (.ref fad)=true/\Binds K fd ps []/\∀ds,h ds=true->ds.length=n
section
variable {P:Program} {w:World} {K:PySem.W.Frag} {mg:Str->Option Value} {base:Heap} {N:List Str} {qual:Str} {scope:Scope} {fad C:Addr} {cd:Value} {A:Around} {outer:List Env} {s:Shared} {H:Hp} {E:XK} {own:Nat->Bool} {rest:List Stmt} {st:Stmt} {f:FS} {g g1 g2:FR} {pos:Pos}
theorem mX {x:Str} {np cpos:Pos} {tx:Str} {xk:Nat} {xp:Pos} (hg:Gl (jW (CX1 P w C) P w K mg base N qual scope fad cd A outer s H E) x) (mC:mg x=some (.ref C)) (xC:PySem.W.excIn K C aF1 "ValueError.__new__" = true) (hd:nDb x:=by decide) :
  PS (jW (CX1 P w C) P w K mg base N qual scope fad cd A outer s H E) (.Raise (some (.Call (.Name x np) [.Constant (.str tx) xk xp] [] cpos)) none pos) (tR own C E rT):=
 PS.imp (aAo rfl hg mC xC (kY aBo uB) rfl hd) fun D σ H1 ⟨ρ,e,h,q⟩=>⟨by show 1<=sizeLine;decide,fun pins s h2 a us I hx=>aAn I hx (q σ H1 fun a o e n=>⟨e,n⟩)⟩
theorem aGo (h:PS (jW (CX1 P w C) P w K mg base N qual scope fad cd A outer s H E) st (tR own C E g)):PSs (jW (CX1 P w C) P w K mg base N qual scope fad cd A outer s H E) [st] (tR own C E g):=yD h
theorem pF (h:PS (jW (CX1 P w C) P w K mg base N qual scope fad cd A outer s H E) st (tR own C E g)):PSs (jW (CX1 P w C) P w K mg base N qual scope fad cd A outer s H E) (st::rest) (tR own C E g):=
 PSs.imp (yC h (u:=fun _ _ _=>False) fun _ _ _ _ _ _ z=>z.elim) fun D σ H h=>h
theorem tE (h1:PS (jW CX0 P w K mg base N qual scope fad cd A outer s H E).nox st (tS own f)) (h2:PSs (jW (CX1 P w C) P w K mg base N qual scope fad cd A outer s H E) rest (tR own C E g)):PSs (jW (CX1 P w C) P w K mg base N qual scope fad cd A outer s H E) (st::rest) (tR own C E (zR f g)):=by
 have p1:PS (jW (CX1 P w C) P w K mg base N qual scope fad cd A outer s H E) st (tS own f):=PS.nox h1;refine PSs.imp (yC p1 h2) fun D σ H ⟨ρ,e,h,q⟩=>?_
 unfold zR at h;split at h
 ·rename_i ρ' hf;exact ⟨ρ,.nx ρ',e,hf,fun σ' H' k e'=>⟨ρ',e',h,fun σ2 H2 k2=>q σ2 H2 (k.trans k2)⟩⟩
 ·cases h
theorem RV (h1:PSs (jW (CX1 P w C) P w K mg base N qual scope fad cd A outer s H E) rest (tR own C E g1)) (h2:PSs (jW (CX1 P w C) P w K mg base N qual scope fad cd A outer s H E) rest (tR own C E g2)):PSs (jW (CX1 P w C) P w K mg base N qual scope fad cd A outer s H E) rest (tR own C E (rOr g1 g2)):=by
 intro pins s1 σ H1 D I ⟨ρ,e,h,q⟩;unfold rOr at h;rcases Bool.or_eq_true _ _▸h with h|h
 ·exact h1 pins s1 σ H1 D I ⟨ρ,e,h,q⟩
 ·exact h2 pins s1 σ H1 D I ⟨ρ,e,h,q⟩
theorem K1 {c:Expr} {gc:FT} (hc:PT (jW (CX1 P w C) P w K mg base N qual scope fad cd A outer s H E) c (gT gc)) (h:PS (jW (CX1 P w C) P w K mg base N qual scope fad cd A outer s H E) st (tR own C E rT)):PS (jW (CX1 P w C) P w K mg base N qual scope fad cd A outer s H E) (.If c [st] [] pos) (tR own C E (rIf gc)):=by
 refine PS.imp (aFd hc (yD h) T3) fun D σ H1 ⟨ρ,e,h,q⟩=>?_
 unfold rIf at h;split at h
 ·rename_i hf;refine ⟨ρ,true,e.er,hf,fun H' sm=>?_⟩;show (if true=true then _ else _);rw [if_pos rfl];exact ⟨ρ,e.same sm,rfl,fun σ2 H2 k=>q σ2 H2 ((KU.same sm).trans k)⟩
 ·cases h
end
theorem aCa {P:Program} {w:World} {K:PySem.W.Frag} {mg:Str->Option Value} {base:Heap} {x:Str} {st:Stmt} {fad C:Addr} {fd:FuncData} {N ps:List Str} {k:Nat} {g:FR} (F:Fun K x x st fad fd) (hm:mg x=some (.ref fad)) (hb:Binds K fd ps []) (S:cN N ps (aQ st)) (own:Nat->Bool) (hown:∀i,i<ps.length->own i=false) (hNl:ps.length<=N.length)
  (hbody:∀(cdv:Value) (A:Around) (outer:List Env) (s:Shared) (H:Hp) (E:XK),rM k (A.deeper (envOfC x (aQ st) s.heap.objs.size fad cdv))->PSs (jW (CX1 P w C) P w K mg base N x (aQ st) fad cdv A outer s H E) (g_ st) (tR own C E g)):wB P w K mg base (k+1) x ps.length C (rfn ps.length N.length g):=by
 refine ⟨fad,fd,ps,?_,hm,F.kp,hb,fun ds h=>by unfold rfn at h;rw [Bool.and_eq_true] at h;exact of_decide_eq_true h.1⟩;obtain ⟨oc,od,kV,doc,pm,an,cdv,ct,osl,rfl,lk,hcd⟩:=F.ex;refine ZW lk hcd S (fun vs H Q E ⟨ds,h1,r,_⟩=>by rw [r.length,h1]) fun A outer s H vs Q E hr ⟨ds,hl,r,h,q⟩=>?_
 refine ⟨_,hbody cdv A outer s H E hr,?_⟩;have hst:start N vs=vs.map some++List.replicate (N.length-ps.length) none:=by
  show vs.map some++List.replicate (N.length-vs.length) none=_;rw [r.length,hl]
 have noown:∀a,¬Own own (start N vs) a:=fun a ⟨i,hi,e⟩=>by
  rw [hst] at e;by_cases h:i<ps.length
  ·rw [hown i h] at hi;cases hi
  ·rw [List.getElem?_append_right (by simp [r.length,hl];lia)] at e;rw [List.getElem?_replicate] at e;split at e <;> cases e
 unfold rfn at h;rw [Bool.and_eq_true] at h;exact ⟨_,zL hst hl r hown noown,h.2,fun σ' H' kk=>q H' fun a o e=>(kk a o e (noown a)).1⟩
end Mi
end
section
namespace Mi
open PySem L2 PySem.SeqAt PySem.Spec PyProof.Rows
noncomputable def intsOf:List D->Option (List Int)
 | []=>some []
 | .int i::r=>(intsOf r).map (i::·)
 | _::_=>none
noncomputable def K3:List D->Res D
 | [.lst ds]=>match intsOf ds with
  | some ns=>if ns.all (fun i=>decide (-1000<=i)&&decide (i<=1000))&&decide (ns.length<=100000) then .ok (.int ns.sum) else .bad
  | none=>.bad
 | _=>.bad
theorem FJ:∀{ds:List D} {ns:List Int},intsOf ds=some ns->ds=ns.map D.int
 | [],ns,h=>by cases h;rfl
 | d::ds,ns,h=>by
  unfold intsOf at h;split at h
  ·rename_i e;cases e
  ·rename_i i r e;cases e;obtain ⟨ms,h1,h2⟩:=Option.map_eq_some_iff.mp h;subst h2;rw [List.map_cons,<-FJ h1]
  ·cases h
theorem W7 (ps:List (Int×Tok)):∀j,j<=ps.length->preSum (numAt ps.toArray) j=((ps.map (·.1)).take j).sum:=by
 intro j;induction j with
 | zero=>intro _;simp [preSum]
 | succ j ih=>
  intro hj;have hlt:j<ps.length:=by lia
  have e:numAt ps.toArray j=(ps.map (·.1))[j]'(by simpa using hlt):=by simp [numAt,hlt]
  rw [preSum,ih (by lia),e,<-List.take_append_getElem (by simpa using hlt),List.sum_append];simp
theorem FN (c:Int) (hc:0<=c):∀(l:List Int),(∀i∈l,-c<=i/\i<=c)->-(c*l.length)<=l.sum/\l.sum<=c*l.length
 | [],_=>by simp
 | x::l,h=>by
  have h1:=h x (List.mem_cons_self ..);have h2:=FN c hc l fun i hi=>h i (List.mem_cons_of_mem _ hi)
  simp only [List.sum_cons,List.length_cons,Int.natCast_add,Int.mul_add];simp only [Int.natCast_one,Int.mul_one];lia
variable [KFrag]
section
variable {X:Cx} {a e:Expr} {es:List Expr} {p p2 pos pos2:Pos} {fs:FA} {rr:Bool}
end
section
variable {X:Cx} {own:Nat->Bool} {a b e:Expr} {pos:Pos} {fs:FA} {rr re:Bool} {fe:FE}
noncomputable def vC:List D->Res D
 | [.dct kvs]=>if !kvs.isEmpty&&(kvs.all (fun p=>!isTup p.1)&&D.a_ (kvs.map (·.2))) then .ok (.dct kvs) else .bad
 | _=>.bad
theorem zT:lG X (.type "dict") (rs vC true):=by
 intro pins s σ H xs us Q I vr ⟨ds,d,r,e,k⟩;unfold vC at e;split at e
 ·split at e
  ·rename_i hl;rw [Bool.and_eq_true,Bool.and_eq_true] at hl;cases e;obtain ⟨vv,uu,rfl,rfl,r,v⟩:=jF r vr;cases r with
   | @dK l kvs ds e _ r n=>
    cases v;refine Z9 I (.of e) fun p s' hp I'=>⟨.ref p,_,I',rfl,?_⟩
    have sp:cZ H (upd H p (.dK kvs)):=cZ.upd hp;have ku:∀{P:Addr->Prop},nM P (upd H p (.dK kvs)) kvs _:=fun {P}=>(nM.cC r hl.2.2).keep (.same sp) fun _ h=>h
    exact k _ _ sp (.dK aM trivial ku n) fun _=>.dK aM hp ku n
   | @dT l kvs ds e _ r n=>
    cases r with
    | cons r t=>simp [isTup] at hl
    | nil=>simp at hl
  ·cases e
 ·cases e
theorem nW {P:Addr->Prop} {H:Hp}:∀{ns:List Int} {ys:List V} {its:List Value},b_ P H ys (ns.map D.int)->Vals ys its->∃ps:List (Int×Tok),its=ps.map (fun p=>Value.int p.1 p.2)/\ps.map (·.1)=ns
 | [],_,_,.nil,.nil=>⟨[],rfl,rfl⟩
 | n::ns,_,_,.cons r t,.cons v vs=>by
  obtain ⟨ps,h1,h2⟩:=nW t vs;cases r;obtain ⟨tk,rfl⟩:=v;exact ⟨(n,tk)::ps,by rw [h1];rfl,by rw [List.map_cons,h2]⟩
theorem aCb (hc:X.calm=true):lG X (.builtin "sum") (rs K3 true):=by
 intro pins s σ H xs us Q I vr ⟨ds,d,r,e,k⟩;unfold K3 at e;split at e
 ·split at e
  ·rename_i ns hns;split at e
   ·rename_i hb;rw [Bool.and_eq_true] at hb;cases e;obtain ⟨vv,uu,rfl,rfl,r,v⟩:=jF r vr;obtain ⟨l,ys,rfl,hl',rr⟩:=r.jR (K:=X.K);cases v;rw [FJ hns] at rr;obtain ⟨its,vi,il,_⟩:=I.list hl';obtain ⟨ps,h1,h2⟩:=nW rr vi;subst h1;have hlen:ps.length=ns.length:=by rw [<-h2,List.length_map]
    have hn:ns.length<=100000:=of_decide_eq_true hb.2;have hall:∀i∈ns,-1000<=i/\i<=1000:=fun i hi=>by
     have:=List.all_eq_true.mp hb.1 i hi;rw [Bool.and_eq_true,decide_eq_true_eq,decide_eq_true_eq] at this;exact this
    have ia:s.heap.IsList l (intItems ps.toArray):=by
     obtain ⟨o,n,e1,e2,e3,e4⟩:=il;exact ⟨o,e1,e2,n,by simpa [intItems] using e4⟩
    refine sum_intList (I.ok.hd hc) ia (fun j hj=>?_) fun h' tk t' kp=>⟨.int ns.sum,H,I.kept (t':=tk) kp,⟨t',?_⟩,k _ _ (cZ.refl H) (.int _) fun _=>.int _⟩
    ·have hj':j<ps.length:=by simpa using hj
     refine ⟨?_,?_⟩
     ·have hm:numAt ps.toArray j∈ns:=by
       have e:numAt ps.toArray j=(ps.map (·.1))[j]'(by simpa using hj'):=by simp [numAt,hj']
       rw [e,<-h2];exact List.getElem_mem _
      have:=hall _ hm;unfold InLong;lia
     ·rw [W7 ps (j+1) (by lia),h2];have:=FN 1000 (by decide) (ns.take (j+1)) fun i hi=>hall i (List.mem_of_mem_take hi)
      have hl:(ns.take (j+1)).length<=100000:=Nat.le_trans (List.length_take_le' ..) hn;unfold InLong;lia
    ·have:=W7 ps ps.length (Nat.le_refl _);rw [h2,hlen,List.take_length] at this;rw [List.size_toArray,hlen,this]
   ·cases e
  ·cases e
 ·cases e
theorem aCc:bootBuiltins "sum" = some (.builtin "sum"):=by decide +kernel
end
end Mi
end
section
namespace Mi
open PySem L2 PySem.SeqAt PySem.Spec PyProof.Rows
variable [KFrag]
def FZ (a:Addr) (o:Obj):HO:=.ext fun h=>h.get? a=some o
noncomputable def DV (H:Hp) (a:Addr) (kvs:List (Key×V)):Prop:=H a=some (.dK kvs)\/(kvs=[]/\H a=some (.dT []))
noncomputable def Itv (a:Addr) (o:Obj) (kvs:List (Key×V)):It where
 go:=fun i H=>H a=some (FZ a o)/\∃p,kvs[i]?=some p
 yld:=fun i H x H'=>H'=H/\∃k,kvs[i]?=some (k,x)
 stop:=fun i H=>H a=some (FZ a o)/\kvs.length<=i
theorem W8 {κ:Type}:∀{kvs:List (κ×V)} {vs:List (κ×Value)} {i:Nat} {p:κ×V},KV kvs vs->kvs[i]?=some p->∃u,vs[i]?=some (p.1,u)/\RelV p.2 u
 | _,_,_,_,.nil,h=>by simp at h
 | _,_,0,_,.cons r _,h=>by
  simp at h;subst h;exact ⟨_,by simp [r.1],r.2⟩
 | _,_,i+1,_,.cons _ t,h=>by
  obtain ⟨u,h1,h2⟩:=W8 t (by simpa using h);exact ⟨u,by simpa using h1,h2⟩
theorem W9 {P:Program} {w:World} {K:PySem.W.Frag} {tg:Expr} {a it:Addr} {o:Obj} {kvs:List (Key×V)} {vs:List (Key×Value)} {ep:Nat} (hd:∀h:Heap,h.get? a=some o->h.DictAt (cY P w) a vs ep) (rel:KV kvs vs) :
  Turn P w K tg (Itv a o kvs) [it] it (fun i h=>h.IsValIter it a i vs.length ep) where
 mem:=by simp
 obj:=fun i h st b hb=>by
  have e:b=it:=by simpa using hb
  subst e;obtain ⟨o,e,c,d⟩:=st;exact ⟨o,e,fun v z=>by rw [d] at z;cases z⟩
 keep:=fun i h h' st k=>st.at fun o e=>k it (by simp) o e
 item:=by
  intro X hP hw hK hc i pins s σ H E I hf st hg;subst hP hw hK;obtain ⟨ea,⟨k,x⟩,hx⟩:=hg;obtain ⟨px,_⟩:=I.hok a _ ea;obtain ⟨u,hu,ru⟩:=W8 rel hx;obtain ⟨f0,f1,f2,f3,f4,f5⟩:=hf it (by simp);refine wpAny_pyNext_values_item st (hd _ px) hu fun h' st' sb=>?_
  have I1:Inv X pins σ H {s with heap:=h'}:=I.turned (t':=s.toks) (fun b o hb e=>(sb.2 b hb).trans e) f0 f1 f3 f4 f5;obtain ⟨o',e,c,d⟩:=id st';exact ⟨u,rfl,T5 (s:={s with heap:=h'}) e c d (by decide) ⟨x,H,I1,ru,⟨rfl,k,hx⟩,st',fun b hb=>(hf b hb).1⟩⟩
 done:=by
  intro X hP hw hK hc i pins s σ H E I hf st hg;subst hP hw hK;obtain ⟨ea,hx⟩:=hg;obtain ⟨px,_⟩:=I.hok a _ ea;obtain ⟨f0,f1,f2,f3,f4,f5⟩:=hf it (by simp);have hl:kvs.length=vs.length:=Paired.length rel;exact wpAny_pyNext_values_end (I.ok.hd hc) st (hd _ px) (List.getElem?_eq_none_iff.mpr (by lia)) fun h' eb=>⟨rfl,I.turned (t':=s.toks) (fun b o hb e=>eb b o hb e) f0 f1 f3 f4 f5⟩
 self:=fun _ _ _ _ _ st h=>wpAny_pyIter_valiter st h
section
variable {X:Cx} {pins:List (Addr×Obj)} {σ:L2.St} {H:Hp} {s:Shared} {a:Addr} {kvs:List (Key×V)}
theorem aCd (hu:DV H a kvs):L2.Mut (H a):=by
 rcases hu with h|⟨_,h⟩ <;> rw [h] <;> trivial
theorem K4 (I:Inv X pins σ H s) (hu:DV H a kvs):kvs.length<=sizeLine/\(a==sysModules)=false/\∃vs,KV kvs vs/\s.heap.DictOf (cY X.prog X.w) a vs:=by
 rcases hu with h|⟨rfl,h⟩
 ·exact CN I.hok h
 ·exact CN (lJ I h).hok aM
theorem W_:MtR X "dict.values" (fun x xs H Q=>∃a kvs,x=.ref a/\xs=[]/\DV H a kvs/\∀vw,H vw=none->Q (.ref vw) (upd H vw (.ext fun h=>h.IsValuesView vw a))):=by
 intro pins s σ H x xs v us Q I rx rxs ⟨a,kvs,e1,e2,hu,q⟩;subst e1 e2;cases rx;cases rxs;obtain ⟨z,hs,vs,rel,dd⟩:=K4 I hu;have hfr:H s.heap.objs.size=none:=I.hok.fresh (Nat.le_refl _);refine call_meetsIn PySem.F.slot_dict_values dd.typeIs PySem.F.entry_dict_values (PySem.F.args_dict_values_1 _) (meets_dict_values (cY X.prog X.w) a hs) ⟨⟨vs,dd⟩,?_⟩;refine ⟨.ref s.heap.objs.size,_,I.laid (t':=s.toks) (o:=.ext fun h=>h.IsValuesView s.heap.objs.size a) (fun b o e=>Heap.get?_push_of_some _ e) (Nat.le_refl _) ?_,rfl,q _ hfr⟩;have hg:=Heap.get?_push_size s.heap (o:={cls:=.type "dict_values",data:=.fields #[.ref a]}) rfl;exact ⟨⟨_,hg,rfl,rfl⟩,⟨_,hg⟩,fun h1 h2 ⟨o,e,r⟩ k=>⟨o,k o e,r⟩⟩
theorem aCe (I:Inv X pins σ H s) (hu:DV H a kvs) {o:Obj} (ho:s.heap.get? a=some o):∃u,H a=some u/\∀(H':Hp) (h:Heap),h.get? a=some o->jO X.prog X.w H' h a u:=by
 rcases hu with h|⟨_,h⟩
 ·obtain ⟨z,hs,vs,rel,o',es,ep,ho',c⟩:=I.hok a _ h;rw [ho] at ho';cases ho';exact ⟨_,h,fun H' h' e=>⟨z,hs,vs,rel,o,es,ep,e,c⟩⟩
 ·obtain ⟨z,hs,xs,rel,o',es,ep,ho',c⟩:=I.hok a _ h;rw [ho] at ho';cases ho';cases rel;exact ⟨_,h,fun H' h' e=>⟨z,hs,[],.nil,o,es,ep,e,c⟩⟩
theorem aE1 {tg:Expr} {x:Str} {i:Nat} {np ap cp:Pos} (hN:X.N[i]?=some x) (hv:Vis X.env.scope x) (hd:nDb x:=by decide) (hcd:nCd x:=by decide) (hbase:attributeBase (.Name x np) "values" X.env (eval (.Name x np) X.env)=eval (.Name x np) X.env:=by rfl) (hline:(ap.endLine==cp.line)=true:=by rfl) :
  PI X tg (.Call (.Attribute (.Name x np) "values" ap) [] [] cp) (fun σ H R=>∃a kvs,σ[i]?=some (some (.ref a))/\DV H a kvs/\∀o H1 u,cZ H H1->H a=some u->(∀(H':Hp) (h:Heap),h.get? a=some o->jO X.prog X.w H' h a u)->R (Itv a o kvs) (upd H1 a (FZ a o))):=by
 intro pins s σ H R I ⟨a,kvs,hσ,hu,q⟩;have ty:tyV X.K "dict" (.ref a) H:=by
  rcases hu with h|⟨_,h⟩
  ·exact .inr (.inr (.inl ⟨rfl,.inl ⟨_,h⟩⟩))
  ·exact .inr (.inr (.inl ⟨rfl,.inr ⟨_,h⟩⟩))
 have hp:=aFv (X:=X) (apos:=ap) (cpos:=cp) PySem.F.plainAttrs_dict PySem.F.slot_dict_values PySem.F.type_dict_values W_ (nT (pos:=np) hN hv hd hcd) hbase hline;refine thn (hp pins s σ H (fun v H1=>∃vw,v=.ref vw/\H1 vw=some (.ext fun h=>h.IsValuesView vw a)/\cZ H H1) I ⟨.ref a,hσ,ty,a,kvs,rfl,rfl,hu,fun vw hvw=>⟨vw,rfl,aM,cZ.upd hvw⟩⟩) fun u s1 ⟨v,H1,I1,r1,vw,e,evw,sm⟩=>?_
 subst e;cases r1;have hu1:DV H1 a kvs:=by
  rcases hu with h|⟨h0,h⟩
  ·exact .inl (sm _ _ h)
  ·exact .inr ⟨h0,sm _ _ h⟩
 obtain ⟨z,hs,vs,rel,dd⟩:=K4 I1 hu1;obtain ⟨ep,da⟩:=dd.dictAt;obtain ⟨o,es,ho,r⟩:=id da;have hda:∀h:Heap,h.get? a=some o->h.DictAt (cY X.prog X.w) a vs ep:=fun h e=>⟨o,es,e,r⟩
 obtain ⟨pv,_⟩:=I1.hok vw _ evw;obtain ⟨u,hu2,fu⟩:=aCe I1 hu1 ho;have hu0:H a=some u:=by
  rcases hu with h|⟨_,h⟩
  ·rw [sm _ _ h] at hu2;rw [h];exact hu2
  ·rw [sm _ _ h] at hu2;rw [h];exact hu2
 have If:Inv X pins σ (upd H1 a (FZ a o)) s1:=I1.write (t':=s1.toks) (x:=a) (e:=a) (h':=s1.heap) (o:=FZ a o) (aCd hu1) (.inl rfl) (fun _ _ _ q=>q) ⟨o,ho⟩ ⟨ho,⟨o,ho⟩,fun h1 h2 e k=>k o e⟩;refine wpAny_pyIter_values pv da ?_;have I2:Inv X pins σ (upd H1 a (FZ a o)) {s1 with heap:=s1.heap.push {cls:=.type "dict_valueiterator",data:=.fields #[.ref a,.int 0 0,.int vs.length 0,.int ep 0]}}:=If.kept (t':=s1.toks) fun b o e=>Heap.get?_push_of_some _ e
 refine ⟨s1.heap.objs.size,[s1.heap.objs.size],fun i h=>h.IsValIter s1.heap.objs.size a i vs.length ep,Itv a o kvs,_,rfl,I2,W9 hda rel,⟨_,Heap.get?_push_size _ rfl,rfl,rfl⟩,fun b hb=>?_,q o H1 u sm hu0 fu⟩;have e:b=s1.heap.objs.size:=by simpa using hb
 subst e;exact If.aFg (Nat.le_refl _) (If.hok.fresh (Nat.le_refl _))
end
noncomputable def aAp:HO->Bool
 | .tup _=>false
 | .frz _ (.lst _)=>false
 | _=>true
mutual
theorem q_ {P:Addr->Prop} {H:Hp} {a:Addr} {u:HO} (ea:∀ob,H a=some ob->aAp ob=true):∀{v:V} {d:D},Rep P H v d->d.pure=true->Rep P (upd H a u) v d
 | _,_,.non,_=>.non
 | _,_,.bl b,_=>.bl b
 | _,_,.int i,_=>.int i
 | _,_,.str x,_=>.str x
 | _,_,.tup (a:=b) e r,h=>.tup (by rw [bJ (fun z=>by rw [z] at e;have:=ea _ e;cases this)];exact e) (j5 ea r (by rw [D.pure] at h;exact h))
 | _,_,.lst _ _ _,h=>by rw [D.pure] at h;cases h
 | _,_,.frz e r,h=>.frz (e.imp (fun ⟨o,e⟩=>⟨o,by rw [bJ (fun z=>by rw [z] at e;have:=ea _ e;cases this)];exact e⟩) id) (j5 ea r (by rw [D.pure] at h;exact h))
 | _,_,.cel _ _ _,h=>by rw [D.pure] at h;cases h
 | _,_,.dK _ _ _ _,h=>by rw [D.pure] at h;cases h
 | _,_,.dT _ _ _ _,h=>by rw [D.pure] at h;cases h
 | _,_,.fdK _ _ _,h=>by rw [D.pure] at h;cases h
 | _,_,.fdT _ _ _,h=>by rw [D.pure] at h;cases h
theorem j5 {P:Addr->Prop} {H:Hp} {a:Addr} {u:HO} (ea:∀ob,H a=some ob->aAp ob=true):∀{v:List V} {d:List D},b_ P H v d->D.a_ d=true->b_ P (upd H a u) v d
 | _,_,.nil,_=>.nil
 | _,_,.cons r t,h=>by
  rw [D.a_,Bool.and_eq_true] at h;exact .cons (q_ ea r h.1) (j5 ea t h.2)
end
theorem lZ:∀{acc:List D} {y:D},D.a_ acc=true->y.pure=true->D.a_ (acc++[y])=true
 | [],y,_,h=>by show (y.pure&&true)=true;rw [h];rfl
 | x::acc,y,h,hy=>by
  rw [D.a_,Bool.and_eq_true] at h;show (x.pure&&D.a_ (acc++[y]))=true;rw [h.1,lZ h.2 hy];rfl
noncomputable def aE2 (n:Nat) (f:FE):List D->Res (List D)
 | []=>.ok []
 | d::ds=>do
  let y <- f (List.replicate n .uD++[d])
  if y.pure then (do let ys <- aE2 n f ds;.ok (y::ys)) else .bad
noncomputable def RW (i n:Nat) (f:FE):FE:=fun ρ=>do
 let d <- jX i ρ
 match d with
 | .dct kvs=>if decide (kvs.length<=lim)&&(kvs.all (fun p=>!isTup p.1)&&D.a_ (kvs.map (·.2))) then (do let ys <- aE2 n f (kvs.map (·.2));pure (.lst ys)) else .bad
 | _=>.bad
theorem FP {P:Addr->Prop} {H:Hp}:∀{kvs:List (Key×V)} {ds:List (D×D)},nM P H kvs ds->b_ P H (kvs.map (·.2)) (ds.map (·.2))
 | _,_,.nil=>.nil
 | _,_,.cons r t=>.cons r (FP t)
section
variable {X:Cx} {scope:Scope} {x c:Str} {i n:Nat} {elt:Expr} {fe:FE} {re:Bool} {np ap cp cpos pos:Pos}
theorem XC (S:dG X.N X.env.scope scope [c]) (hn:X.N.length=n) (hcalm:X.calm=true) (hN:X.N[i]?=some x) (hv:Vis X.env.scope x) (hg:∀y,PG (mkC X scope [c] y) (.Name c cpos) (tO n)) (he:∀y,PE (mkC X scope [c] y) elt (gE fe re))
  (hs:∀z,foldedSetIterable (.Call (.Attribute (.Name x np) "values" ap) [] [] cp) X.env z=pure z) (hd:nDb x:=by decide) (hcd:nCd x:=by decide) (hbase:attributeBase (.Name x np) "values" X.env (eval (.Name x np) X.env)=eval (.Name x np) X.env:=by rfl) (hline:(ap.endLine==cp.line)=true:=by rfl) :
  PE X (.ListComp elt [⟨.Name c cpos,.Call (.Attribute (.Name x np) "values" ap) [] [] cp,[],0⟩] scope pos) (gE (RW i n fe) true):=by
 intro pins s σ H Q I ⟨ρ,d,E,h,q⟩;obtain ⟨d0,h1,h2⟩:=bO h;obtain ⟨v,hσ,r,ed⟩:=E.var h1;split at h2
 ·rename_i ds;split at h2
  ·rename_i hb;rw [Bool.and_eq_true,Bool.and_eq_true] at hb;obtain ⟨ys,h3,h4⟩:=bO h2;cases h4;obtain ⟨a,kvs,rfl,hu,rv⟩:∃a kvs,v=.ref a/\DV H a kvs/\b_ All H (kvs.map (·.2)) (ds.map (·.2)):=by
    cases r with
    | dK e _ rk _=>exact ⟨_,_,rfl,.inl e,FP rk⟩
    | dT e _ rt _=>
     cases rt with
     | nil=>exact ⟨_,[],rfl,.inr ⟨rfl,e⟩,.nil⟩
     | cons r t=>simp [isTup] at hb
   have hlen:kvs.length=(ds.map (·.2)).length:=by have:=rv.length;simpa using this
   have hlim:ds.length<=lim:=of_decide_eq_true hb.1;have key:=N6 (X:=X) (scope:=scope) (own:=[c]) (elt:=elt) (pos:=pos) S hcalm (aE1 (tg:=.Name c cpos) (np:=np) (ap:=ap) (cp:=cp) hN hv hd hcd hbase hline) (fun X' cc=>by obtain ⟨y,rfl⟩:=jZ cc;exact hg y) (fun X' cc=>by obtain ⟨y,rfl⟩:=jZ cc;exact he y) hs pins s σ H
    (fun v H'=>∃o u,H a=some u/\H' a=some (FZ a o)/\(∀(H':Hp) (h:Heap),h.get? a=some o->jO X.prog X.w H' h a u)/\Q v (upd H' a u)) I
   refine thn (key ⟨a,kvs,hσ,hu,fun o H1 u sm hu0 fu p hp=>?_⟩) fun w s' ⟨v,H',I',rv',o,u,hu0,ea,fu,q'⟩=>?_
   ·have hpa:p≠a:=fun z=>by subst z;rw [aM] at hp;cases hp
    have hp1:H1 p=none:=by rw [bJ hpa] at hp;exact hp
    have hp0:H p=none:=sm.free hp1;have hσl:σ.length=n:=I.len.trans hn;refine ⟨fun i' n' vs H'=>n'=kvs.length-i'/\i'<=kvs.length/\H' p=some (.lst vs)/\cZ (upd H1 a (FZ a o)) H'/\∃acc rest,b_ All H' vs acc/\D.a_ acc=true/\acc.length=i'/\aE2 n fe ((ds.map (·.2)).drop i')=.ok rest/\ys=acc++rest,⟨kvs.length,rfl,Nat.zero_le _,aM,cZ.upd hp,[],ys,.nil,rfl,rfl,h3,rfl⟩,?_⟩;rintro i' n' vs H' ⟨rfl,hi,hH,sH,acc,rest,racc,pacc,lacc,hv,hys⟩;have ea:H' a=some (FZ a o):=sH a _ aM;refine ⟨hH,?_⟩;rcases Nat.lt_or_ge i' kvs.length with hlt|hge
    ·refine .inr ⟨⟨ea,_,List.getElem?_eq_getElem hlt⟩,?_,fun x H2 hy=>?_⟩
     ·rw [racc.length,lacc];rw [hlen,List.length_map] at hlt;exact Nat.lt_of_lt_of_le hlt (Nat.le_trans hlim (by rw [sizeLine_eq];decide))
     ·obtain ⟨rfl,k,hx⟩:=hy;have hlt2:i'<(ds.map (·.2)).length:=hlen▸hlt;obtain ⟨dx,hdx,rx⟩:=rv.at (i:=i') (v:=x) (by simp [hx]);have edx:(ds.map (·.2))[i']=dx:=by
       have:=List.getElem?_eq_getElem hlt2;rw [hdx] at this;exact (Option.some.inj this).symm
      have pdx:dx.pure=true:=by
       have:∀(l:List D),D.a_ l=true->∀e∈l,e.pure=true:=by
        intro l;induction l with
        | nil=>intro _ e he;cases he
        | cons z l ih=>
         intro hz e he;rw [D.a_,Bool.and_eq_true] at hz;rcases List.mem_cons.mp he with rfl|he
         ·exact hz.1
         ·exact ih hz.2 e he
       exact this _ hb.2.2 dx (List.mem_of_getElem? hdx)
      rw [List.drop_eq_getElem_cons hlt2,edx] at hv;obtain ⟨y,hy1,hv2⟩:=bO hv;split at hv2
      ·rename_i py;obtain ⟨ys2,hv3,hv4⟩:=bO hv2;cases hv4;have hun:∀ob,H1 a=some ob->aAp ob=true:=fun xs z=>by
        rcases hu with h|⟨_,h⟩ <;> (rw [sm _ _ h] at z;cases z;rfl)
       have rx2:Rep All H2 x dx:=(q_ (u:=FZ a o) hun (rx.same sm) pdx).same sH;have hset:(σ++List.replicate [c].length none).set n (some x)=σ++[some x]:=by
        rw [List.set_append_right _ _ (by lia),hσl,Nat.sub_self];rfl
       refine ⟨⟨by simp,fun j v hj=>?_⟩,?_⟩
       ·rw [hset];by_cases hjn:j<σ.length
        ·rw [List.getElem?_append_left hjn] at hj ⊢;exact hj
        ·rw [List.getElem?_append_right (by lia),List.getElem?_replicate] at hj;split at hj <;> cases hj
       ·show (if true=true then _ else _);rw [if_pos rfl,hset];have ER2:ER H2 (σ++[some x]) (List.replicate n .uD++[dx]):=fun j hj=>by
         rcases Nat.lt_trichotomy j n with hjn|rfl|hjn
         ·exact absurd (by rw [List.getD_eq_getElem?_getD,List.getElem?_append_left (by simpa using hjn),List.getElem?_replicate,if_pos hjn];rfl) hj
         ·refine ⟨x,by rw [<-hσl,List.getElem?_append_right (Nat.le_refl _)];simp,?_⟩;have:(List.replicate j D.uD++[dx]).getD j .uD=dx:=by
           rw [List.getD_eq_getElem?_getD,List.getElem?_append_right (by simp)];simp
          rw [this];exact rx2
         ·exact absurd (by rw [List.getD_eq_getElem?_getD,List.getElem?_eq_none (by simp;lia)];rfl) hj
        refine ⟨_,y,ER2,hy1,fun w H5 s5 r5 _=>⟨s5 p _ hH,kvs.length-(i'+1),by lia,rfl,hlt,aM,?_,acc++[y],ys2,?_,?_,by simp [lacc],hv3,by rw [hys,List.append_assoc];rfl⟩⟩
        ·exact fun b ob e=>by
          rw [bJ (e_ e hp)];exact s5 b ob (sH b ob e)
        ·have hp5:H5 p=some (.lst vs):=s5 p _ hH;have hpn:∀ob,H5 p=some ob->aAp ob=true:=fun xs z=>by rw [hp5] at z;cases z;rfl
         have pall:D.a_ (acc++[y])=true:=lZ pacc py;exact j5 hpn ((racc.same s5).snoc r5) pall
        ·exact lZ pacc py
      ·cases hv2
    ·refine .inl ⟨⟨ea,hge⟩,o,u,hu0,ea,fu,?_⟩;rw [List.drop_eq_nil_of_le (by lia)] at hv;cases hv;rw [List.append_nil] at hys;subst hys;have hna:∀ob,H' a=some ob->aAp ob=true:=fun xs z=>by rw [ea] at z;cases z;rfl
     have sF:cZ H (upd H' a u):=fun b ob e=>by
      by_cases hba:b=a
      ·subst hba;rw [aM,<-hu0];exact e
      ·rw [bJ hba];exact sH b ob (by rw [bJ hba];exact sm b ob e)
     have hpF:upd H' a u p=some (.lst vs):=by rw [bJ hpa];exact hH
     have rF:∀{P:Addr->Prop},b_ P (upd H' a u) vs ys:=fun {P}=>(j5 hna racc pacc).cC pacc
     exact q _ _ sF (.lst hpF trivial rF) fun _=>.lst hpF hp0 rF
   ·obtain ⟨px,_⟩:=I'.hok a _ ea;exact ⟨v,_,I'.write (t':=s'.toks) (x:=a) (e:=a) (h':=s'.heap) (o:=u) (by rw [ea];trivial) (.inl rfl) (fun _ _ _ q=>q) ⟨o,px⟩ (fu _ _ px),rv',q'⟩
  ·cases h2
 ·cases h2
end
end Mi
end
section
namespace Mi
open PySem L2 PySem.SeqAt PySem.Spec PyProof.Rows AutoSeq1 MeetsSeq MeetsSeq2 MeetsSeq3
section
variable {P:Program} {w:World} {l b:Addr} {xs ys:Array Value} {n m:Nat} {dd de:Option Addr} {sl sm:Array (Option Value)} {e:Nat->Bool}
end
variable [KFrag]
section
variable {X:Cx} {pins:List (Addr×Obj)} {σ:L2.St} {H:Hp} {s:Shared}
end
end Mi
end
section
namespace Mi
open PySem L2 PySem.SeqAt PySem.Spec PyProof.Rows
variable [KFrag]
structure aGp (K:PySem.W.Frag) (x qual:Str) (st:Stmt) (f:Addr) (fd:FuncData) (T:Addr) (its:Array Value):Prop where
 ex:∃(oc:Value) (od:Option Addr) (kV doc pm:Value) (an:Option Addr) (cdv ct:Value) (osl:Array (Option Value)),
  fd=PySem.W.fnOf x qual (mJ st) (g_ st) (aQ st) (.ref T) kV doc pm an cdv ct/\K.lookup f=some ⟨oc,od,.func fd,osl⟩/\PySem.W.codeIn K cdv qual=true
 kp:PySem.W.keepIn K (.ref f)=true
 df:∃(tc:Value) (td:Option Addr) (tn:Nat) (tl:Array (Option Value)),K.lookup T=some ⟨tc,td,.seq its tn,tl⟩
section
variable {P:Program} {w:World} {K:PySem.W.Frag} {mg:Str->Option Value} {base:Heap} {x qual:Str} {st:Stmt} {fad T:Addr} {its:Array Value} {fd:FuncData} {N ps:List Str} {k:Nat} {f:FS}
theorem aGq (F:aGp K x qual st fad fd T its) (S:cN N ps (aQ st)) (own:Nat->Bool) (hown:∀i,i<ps.length->own i=false)
  (hbody:∀(cdv:Value) (A:Around) (outer:List Env) (s:Shared) (H:Hp) (E:XK),rM k (A.deeper (envOfC qual (aQ st) s.heap.objs.size fad cdv))->PSs (jW CX0 P w K mg base N qual (aQ st) fad cdv A outer s H E).nox (g_ st) (tS own f)) (hx:own rtX=false:=by rfl):HY P w K mg base CX0 (k+1) fad fd ps (spD (fnS ps.length N.length f) ps.length):=by
 obtain ⟨oc,od,kV,doc,pm,an,cdv,ct,osl,rfl,lk,hcd⟩:=F.ex;exact ZW lk hcd S (fun vs H Q E h=>WN h) fun A outer s H vs Q E hr h=>⟨_,(hbody cdv A outer s H E hr).nox,WY hx hown h⟩
end
structure aHq (P:Program) (w:World) (K:PySem.W.Frag) (mg:Str->Option Value) (base:Heap) (k:Nat) (x kw:Str) (n:Nat) (df:D) (f:List D->Res D):Prop where
 ex:∃(fad:Addr) (fd:FuncData) (ps:List Str) (u:Value) (v:V),HY P w K mg base CX0 k fad fd ps (spD f (n+1))/\mg x=some (.ref fad)/\PySem.W.keepIn K (.ref fad)=true/\Binds K fd ps []/\Binds K fd ps [u]/\RelV v u/\(∀H:Hp,Rep All H v df)/\
  ∀(s:Shared) (us:List Value) (y:Value),K.In s.heap->us.length=n->BindsTo s fd ⟨us,[(kw,y)]⟩ (ps.zip (us++[y]))
theorem aHq.cal {P:Program} {w:World} {K:PySem.W.Frag} {mg:Str->Option Value} {base:Heap} {k:Nat} {x kw:Str} {n:Nat} {df:D} {f:List D->Res D} (C:aHq P w K mg base k x kw n df f):dF P w K mg base k x (n+1) f:=by
 obtain ⟨fad,fd,ps,u,v,F,hm,hk,hb,_⟩:=C.ex;exact ⟨fad,fd,ps,F,hm,hk,hb⟩
section
variable {X:Cx} {e ke:Expr} {es:List Expr} {pos p kp:Pos} {fs:FA} {rr re:Bool} {fk:FE} {x kw:Str} {k k' n:Nat} {df:D} {f:List D->Res D}
end
end Mi
end
section
namespace Mi
open PySem L2 PySem.W PySem.SeqAt PySem.Spec PyProof.Rows
section
variable {prog:Program} {w:World} {K:Type}
variable [DecidableEq K] (knd:HeapKind prog w K)
variable (d a:Addr)
end
section
variable [KFrag]
variable {X:Cx} {pos:Pos}
section
variable {own:Nat->Bool} {e:Expr} {fe:FE} {re:Bool}
end
end
end Mi
end
section
namespace Mi
open PySem L2 PySem.W PySem.SeqAt PySem.Spec PyProof.Rows
noncomputable def S_ (h:Heap) (d:Addr) (es:Array DictEntry) (ep:Nat):Prop:=∃o,h.get? d=some o/\o.ExactDict/\o.data=.dict es ep
theorem S_.ty {s:Shared} {d:Addr} {es:Array DictEntry} {ep:Nat} (x:S_ s.heap d es ep):s.TypeIs (.ref d) "dict":=let ⟨o,e,c,_⟩:=x;⟨o,e,c.1⟩
theorem S_.at {h h':Heap} {d:Addr} {es:Array DictEntry} {ep:Nat} (x:S_ h d es ep) (k:∀o,h.get? d=some o->h'.get? d=some o):S_ h' d es ep:=let ⟨o,e,r⟩:=x;⟨o,k o e,r⟩
section
variable {prog:Program} {w:World} {A:Around} {E:Value->Shared->Prop} {s:Shared} {d it:Addr} {es:Array DictEntry} {ep i:Nat}
theorem aAq {Q:Value->Shared->Prop} (hd:(d==sysModules)=false) (x:S_ s.heap d es ep) (q:Q (.ref s.heap.objs.size) {s with heap:=s.heap.push {cls:=.type "dict_keyiterator",data:=.fields #[.ref d,.int 0 0,.int es.size 0,.int ep 0]}}):wpAny (model prog w) A (pyIter (.ref d)) Q E s:=by
 have T:=x.ty;obtain ⟨o,e1,e2,e3⟩:=x;refine wpAny_pyIter_slot T F.slot_dict_iter (wpAny_call_entry F.slot_dict_iter T F.entry_dict_iter (?_:wpAny _ _ (Builtin.«dict.__iter__» _) _ _ _) (F.args_dict_iter_1 _));unfold Builtin.«dict.__iter__» Builtin.Dict.dictSlotNone Builtin.Dict.showsAll;refine wpAny_bind (wpAny_bind (wpAny_notOrdered_dict T (?_:wpAny _ _ (pure (Value.ref d)) _ _ s)));refine wpAny_pure (?_:wpAny _ _ ((if d==sysModules then _ else _) >>= _) _ _ s);rw [if_neg (by rw [hd];simp)];refine wpAny_bind (wpAny_pure (wpAny_bind (wpAny_dictEntries e1 e3 (wpAny_bind (wpAny_dictEpoch e1 e3 ?_)))));exact wpAny_bind (wpAny_newObj_type (wpAny_pure ⟨_,rfl, "dict_keyiterator",_,⟨_,Heap.get?_push_size _ rfl,rfl⟩,F.slot_dict_keyiterator_next.lookup,q⟩))
theorem aAr {Q:Option Value->Shared->Prop} (y:s.heap.IsKeyIter it d i es.size ep) (x:S_ s.heap d es ep) (hi:i<es.size) (q:∀h',h'.IsKeyIter it d (i+1) es.size ep->Heap.SameBut it s.heap h'->Q (some es[i].key) {s with heap:=h'}):wpAny (model prog w) A (pyNext (.ref it)) Q E s:=by
 have T:=y.typeIs;obtain ⟨o,o1,o2,o3⟩:=y;obtain ⟨od,e1,e2,e3⟩:=x;have own:Builtin.Dict_items.ownsTuple "dict_keyiterator" = false:=by decide
 unfold pyNext;refine wpAny_bind (wpAny_attempt (wpAny_callSpecial?_slot (name:=Str.ofString "__next__") T F.slot_dict_keyiterator_next (wpAny_call_entry F.slot_dict_keyiterator_next T F.entry_dict_keyiterator_next ?_ (F.args_dict_keyiterator_next_1 _))));refine wpAny_bind (wpAny_pure (wpAny_bind (wpAny_bind ?_)))
 first|refine wpAny_bind (wpAny_typeNameOfWhole_keyiter T (wpAny_pure (wpAny_bind (wpAny_fieldsOf o1 o3 ?_))))|refine wpAny_bind (wpAny_typeNameOf_keyiter T (wpAny_pure (wpAny_bind (wpAny_fieldsOf o1 o3 ?_))))
 rw [own];refine (?_:wpAny _ _ (ite ((Value.ref d==Value.none)=true) _ _) _ _ s);rw [if_neg (by intro z;cases z)];refine wpAny_bind (wpAny_pure (wpAny_bind (wpAny_dictEntries e1 e3 ?_)));rw [if_neg (by simp)];refine wpAny_bind (wpAny_pure (wpAny_bind (wpAny_dictEpoch e1 e3 ?_)));rw [if_neg (by simp)];refine wpAny_pure ?_;simp only [show ¬((i:Int)<0) from by lia,if_false,Int.toNat_natCast,Array.getElem?_eq_getElem hi];refine wpAny_bind ?_
 first|refine wpAny_bind (wpAny_typeNameOfWhole_keyiter T (wpAny_pure (wpAny_bind (wpAny_isOneOf_keyiter T ?_))))|refine wpAny_bind (wpAny_typeNameOf_keyiter T (wpAny_pure (wpAny_bind (wpAny_isOneOf_keyiter T ?_))))
 refine wpAny_bind (m:=setField (.ref it) 1 (rawInt ((i:Int)+1))) (wpAny_setField o1 o3 (by simp) ?_);have z:(s.heap.update it (Obj.mapFields (·.setIfInBounds 1 (rawInt ((i:Int)+1))))).IsKeyIter it d (i+1) es.size ep:=⟨_,Heap.get?_update_self _ o1 (Obj.isFreed_of_fields (Obj.data_mapFields o3 _)),(Obj.cls_mapFields ..).trans o2,by rw [Obj.data_mapFields o3];simp [rawInt]⟩
 refine wpAny_bind (wpAny_holding (wpAny_bind (wpAny_isOneOf_keyiter (s:={s with heap:=s.heap.update it (Obj.mapFields (·.setIfInBounds 1 (rawInt ((i:Int)+1))))}) z.typeIs (?_:wpAny _ _ (pure es[i].key) _ _ _))));exact wpAny_pure (wpAny_pure ⟨_,rfl,wpAny_pure (q _ z (Heap.SameBut.update ..))⟩)
theorem aE3 {Q:Option Value->Shared->Prop} (hh:A.handled=none) (y:s.heap.IsKeyIter it d i es.size ep) (x:S_ s.heap d es ep) (hi:es.size<=i) (q:∀h',Heap.ExtBut it s.heap h'->Q none {s with heap:=h'}):wpAny (model prog w) A (pyNext (.ref it)) Q E s:=by
 have T:=y.typeIs;obtain ⟨o,o1,o2,o3⟩:=y;obtain ⟨od,e1,e2,e3⟩:=x;have own:Builtin.Dict_items.ownsTuple "dict_keyiterator" = false:=by decide
 unfold pyNext;refine wpAny_bind (wpAny_attempt (wpAny_callSpecial?_slot (name:=Str.ofString "__next__") T F.slot_dict_keyiterator_next (wpAny_call_entry F.slot_dict_keyiterator_next T F.entry_dict_keyiterator_next ?_ (F.args_dict_keyiterator_next_1 _))));refine wpAny_bind (wpAny_pure (wpAny_bind (wpAny_bind ?_)))
 first|refine wpAny_bind (wpAny_typeNameOfWhole_keyiter T (wpAny_pure (wpAny_bind (wpAny_fieldsOf o1 o3 ?_))))|refine wpAny_bind (wpAny_typeNameOf_keyiter T (wpAny_pure (wpAny_bind (wpAny_fieldsOf o1 o3 ?_))))
 rw [own];refine (?_:wpAny _ _ (ite ((Value.ref d==Value.none)=true) _ _) _ _ s);rw [if_neg (by intro z;cases z)];refine wpAny_bind (wpAny_pure (wpAny_bind (wpAny_dictEntries e1 e3 ?_)));rw [if_neg (by simp)];refine wpAny_bind (wpAny_pure (wpAny_bind (wpAny_dictEpoch e1 e3 ?_)));rw [if_neg (by simp)];refine wpAny_pure ?_;simp only [show ¬((i:Int)<0) from by lia,if_false,Int.toNat_natCast,Array.getElem?_eq_none hi];refine wpAny_bind ?_
 first|refine wpAny_bind (wpAny_typeNameOfWhole_keyiter T (wpAny_pure ?_))|refine wpAny_bind (wpAny_typeNameOf_keyiter T (wpAny_pure ?_))
 refine wpAny_bind (m:=setField (.ref it) 0 .none) (wpAny_setField o1 o3 (by simp) (wpAny_bind (m:=newExc (.type "StopIteration") []) ?_));simp only [newExc,newTuple];refine wpAny_bind (wpAny_newObj_type (wpAny_bind (m:=firstArgMember _ _) (wpAny_of_eq (a:=Value.none) (by first|rfl|(simp only [firstArgMember];rfl)) (wpAny_newObj_type ?_ (by size_fits)))) (by size_fits));simp only [raiseNew];have hh':A.in1.handled=none:=hh;refine wpAny_bind (wpAny_handled ?hd);rw [hh'];refine wpAny_bind (wpAny_pure (wpAny_throw ?thrown));refine wpAny_bind (wpAny_isInstance (b:=true) (T := "StopIteration") ⟨_,Heap.get?_push_size _ rfl,rfl⟩ isSubtype_stop ?_);exact wpAny_pure (q _ (((Heap.SameBut.update ..).extBut.push _).push _))
theorem XD (hh:A.handled=none) (I d:Addr) (hne:d≠I) (es:Array DictEntry) (ep:Nat):Walks prog w A I [I,d] [I] es.size (fun i v=>∃h:i<es.size,v=es[i].key) (fun i h=>h.IsKeyIter I d i es.size ep/\S_ h d es ep) where
 sub:=fun b hb=>List.mem_cons.mpr (.inl (List.mem_singleton.mp hb))
 frame:=fun _ _ _ st hk=>⟨Heap.IsKeyIter.at st.1 fun o e=>hk I (by simp) o e,st.2.at fun o e=>hk d (by simp) o e⟩
 item:=fun i s Q E hi st hQ=>aAr st.1 st.2 hi fun h' z sb=>hQ _ h' s.toks ⟨hi,rfl⟩ ⟨z,st.2.at fun o e=>sb.extBut d o hne e⟩ fun b o hb e=>sb.extBut b o (fun h=>hb (by simp [h])) e
 done:=fun s Q E st hQ=>aE3 hh st.1 st.2 (Nat.le_refl _) fun h' ex=>hQ h' s.toks fun b o hb e=>ex b o (fun h=>hb (by simp [h])) e
 self:=fun _ _ _ _ at_ q=>wpAny_pyIter_keyiter at_.1 q
end
end Mi
end
section
namespace Mi
open PySem L2 PySem.W PySem.SeqAt PySem.Spec PyProof.Rows
section
variable {prog:Program} {w:World} {A:Around} {E:Value->Shared->Prop} {s:Shared} {r:Addr}
noncomputable def aIo (s:Shared) (F:Array Value->Prop) (q:Result) (s':Shared):Prop:=∃(h':Heap) (tk:Nat) (acc:Array Value) (c:Nat),q=.ok (.ret (.ref s.heap.objs.size))/\s'={s with heap:=h',toks:=tk}/\(∀b o,s.heap.get? b=some o->h'.get? b=some o)/\h'.get? s.heap.objs.size=some {cls:=.type "list",dict:=none,data:=.seq acc c,slots:=#[]}/\F acc
theorem XF {Q:List Value->Shared->Prop} {F:Array Value->Prop}
  (key:wpAny (model prog w) A.in1 (Builtin.List.listExtendWith (.ref s.heap.objs.size) (.ref r) (.ref s.heap.objs.size)) (fun fin s'=>match fin with|.done f=>aIo s F (.ok f) s'|.again c'=>c'.quiet=true/\codeAny (model prog w) A c' (aIo s F) s') (fun e s'=>aIo s F (.error e) s') {s with heap:=s.heap.push {cls:=.type "list",data:=.seq ([]:List Value).toArray}})
  (q:∀h' tk acc,(∀b o,s.heap.get? b=some o->h'.get? b=some o)->s.heap.objs.size<=h'.objs.size->F acc->Q acc.toList {s with heap:=h',toks:=tk}):wpAny (model prog w) A (collect (.ref r)) Q E s:=by
 have last:∀{h':Heap} {tk:Nat} {acc:Array Value} {c:Nat},(∀b o,s.heap.get? b=some o->h'.get? b=some o)->h'.get? s.heap.objs.size=some {cls:=.type "list",dict:=none,data:=.seq acc c,slots:=#[]}->F acc->wpAny (model prog w) A (load s.heap.objs.size >>= fun o=>match o.data with|.seq xs _=>pure xs.toList|_=>unsupported "internal:collect") Q E {s with heap:=h',toks:=tk}:=fun kp at_ f=>wpAny_bind (wpAny_load at_ (wpAny_pure (q _ _ _ kp (Nat.le_of_lt (Heap.lt_size at_)) f)))
 unfold collect;refine wpAny_bind (wpAny_runValue (codeAny_builtin entry_proto_collect' (?_:wpAny _ _ (newList [] >>= fun l=>again (.builtin "list.__iadd__" ⟨[l,.ref r],[]⟩)) _ _ s)));rw [Around.under_plainId PySem.F.plain_proto_collect];refine wpAny_bind (wpAny_newObj_type (wpAny_pure ⟨plainId_quiet PySem.F.plain_list_iadd _,codeAny_builtin entry_list_iadd' (?_:wpAny _ _ (Builtin.List.listExtendWith _ _ _) _ _ _)⟩));rw [Around.under_plainId PySem.F.plain_list_iadd];refine wpAny_mono key (fun fin s' x=>?_) fun e s' ⟨_,_,_,_,z,_⟩=>nomatch z
 cases fin with
 | done f=>
  obtain ⟨h',tk,acc,c,e,rfl,kp,at_,f⟩:=x;cases e;exact last kp at_ f
 | again c1=>
  refine ⟨x.1,codeAny_mono x.2 fun p s2 y=>?_⟩;obtain ⟨h',tk,acc,c,rfl,rfl,kp,at_,f⟩:=y;exact last kp at_ f
theorem aE4 {Q:List Value->Shared->Prop} {o:Obj} {its:Array Value} {n:Nat} (ho:s.heap.get? r=some o) (hc:o.cls=.type "tuple") (hd:o.data=.seq its n) (hz:its.size<=sizeLine)
  (q:∀h' tk,(∀b o,s.heap.get? b=some o->h'.get? b=some o)->s.heap.objs.size<=h'.objs.size->Q its.toList {s with heap:=h',toks:=tk}):wpAny (model prog w) A (collect (.ref r)) Q E s:=by
 have hS:=Heap.get?_push_size (h:=s.heap) (o:={cls:=.type "list",data:=.seq ([]:List Value).toArray}) rfl;obtain ⟨c,hc2⟩:∃c,((s.heap.push {cls:=.type "list",data:=.seq ([]:List Value).toArray}).update s.heap.objs.size (Obj.mapSeq (·++its))).get? s.heap.objs.size=some {cls:=.type "list",dict:=none,data:=.seq its c,slots:=#[]}:=by
  rw [Heap.get?_update_self (Obj.mapSeq (·++its)) hS rfl];simp only [Obj.mapSeq,Array.empty_append];exact ⟨_,rfl⟩
 refine XF (F:=fun acc=>acc=its) (wpAny_extend_seq (hsz:=hz) (s:={s with heap:=s.heap.push {cls:=.type "list",data:=.seq ([]:List Value).toArray}}) _ r _ 0 (.inr rfl) hS (Heap.get?_push_of_some _ ho) hc hd ⟨_,s.toks,its,c,rfl,rfl,fun b o' hb=>?_,hc2,rfl⟩) fun h' tk acc kp sz e=>by rw [e];exact q h' tk kp sz
 exact (Heap.get?_update_other _ _ (Nat.ne_of_gt (Heap.lt_size hb))).trans ((Heap.get?_push_of_some _ hb))
theorem aE5 {d:Addr} {es:Array DictEntry} {ep:Nat} (lo:(d==sysModules)=false):KdlSrc prog w "dict" d d es.size (fun i v=>∃h:i<es.size,v=es[i].key) (fun h=>S_ h d es ep) where
 type:=fun _ x=>x.ty
 there:=fun h x=>by obtain ⟨o,e,_⟩:=x;exact ⟨Heap.lt_size e,Heap.lt_size e⟩
 keep:=fun _ _ x k=>x.at fun o e=>k d (.inl rfl) o e
 notList:=rfl
 notTuple:=rfl
 hint:=fun _ _ _ _ x q=>kdl_hint_dict x.ty q
 iter:=fun _ s hh x=>⟨_,_,fun _ _ q=>aAq lo x q,XD hh _ d (by obtain ⟨o,e,_⟩:=x;exact Nat.ne_of_lt (Heap.lt_size e)) es ep,⟨_,Heap.get?_push_size _ rfl,rfl,rfl⟩,x.at fun o e=>Heap.get?_push_of_some _ e⟩
theorem XH {Q:List Value->Shared->Prop} {d:Addr} {es:Array DictEntry} {ep:Nat} (hh:A.handled=none) (lo:(d==sysModules)=false) (x:S_ s.heap d es ep) (hz:es.size<=sizeLine)
  (q:∀h' tk,(∀b o,s.heap.get? b=some o->h'.get? b=some o)->s.heap.objs.size<=h'.objs.size->Q (es.toList.map (·.key)) {s with heap:=h',toks:=tk}):wpAny (model prog w) A (collect (.ref d)) Q E s:=by
 have lt:d<s.heap.objs.size:=by obtain ⟨o,e,_⟩:=x;exact Heap.lt_size e
 refine XF (F:=fun acc=>acc.toList=es.toList.map (·.key)) (kdl_extend (aE5 (prog:=prog) (w:=w) (es:=es) (ep:=ep) lo) hh (x.at fun o e=>Heap.get?_push_of_some _ e) s.heap.objs.size (Nat.ne_of_gt lt) (Nat.ne_of_gt lt) _ 0 (Heap.get?_push_size _ rfl) (fun h' tk acc c kp at_ it=>⟨h',tk,acc,c,rfl,rfl,fun b o e=>kp b o (Nat.ne_of_lt (Heap.lt_size e)) (Heap.get?_push_of_some _ e),at_,?_⟩) hz) fun h' tk acc kp sz e=>by rw [e];exact q h' tk kp sz
 refine List.ext_getElem? fun i=>?_
 by_cases hi:i<es.size
 ·obtain ⟨v,hv⟩:∃v,acc[i]?=some v:=⟨acc[i]'(by rw [it.1];exact hi),by simp [it.1,hi]⟩
  obtain ⟨_,e⟩:=it.2 i v hv;rw [Array.getElem?_toList,hv,e,List.getElem?_map,Array.getElem?_toList,Array.getElem?_eq_getElem hi];rfl
 ·rw [Array.getElem?_toList,Array.getElem?_eq_none (by rw [it.1];lia),List.getElem?_eq_none (by simpa using hi)]
end
noncomputable def iY:List D->Res D
 | [.dct kvs]=>if kvs.all (fun p=>isTup p.1)&&bI (eO kvs) then .ok (.lst (iR (eO kvs))) else .bad
 | [.tup xs]=>if bI xs then .ok (.lst (iR xs)) else .bad
 | ds=>fL ds
variable [KFrag]
section
variable {X:Cx}
theorem aGr {H:Hp} {s:Shared} {pins:List (Addr×Obj)} {σ:L2.St} {a:Addr} {kvs:List (List Key×V)} (I:Inv X pins σ H s) (e:H a=some (.dT kvs)):∃(es:Array DictEntry) (ep:Nat) (xs:List (List Key×Addr×Value)),S_ s.heap a es ep/\(a==sysModules)=false/\kvs.length<=sizeLine/\KT H kvs xs/\es.toList=xs.map (entryOfKey (tupleKind (cY X.prog X.w))):=by
 obtain ⟨z,hd,xs,rel,o,es,ep,h1,h2,h3,h4,_⟩:=Z6 I.hok e;exact ⟨es,ep,xs,⟨o,h1,h2,h3⟩,hd,z,rel,h4⟩
theorem vD {H:Hp}:∀k:List Key,b_ All H (k.map kV) (k.map kD)
 | []=>.nil
 | .inl i::r=>.cons (.int i) (vD r)
 | .inr x::r=>.cons (.str x) (vD r)
theorem aE6 {H:Hp} {P:Addr->Prop} {kvs:List (List Key×V)} {xs:List (List Key×Addr×Value)} (rel:KT H kvs xs):∀{ds:List (D×D)},pN P H kvs ds->Vals (xs.map fun x=>V.ref x.2.1) (xs.map fun x=>Value.ref x.2.1)/\b_ All H (xs.map fun x=>V.ref x.2.1) (eO ds):=by
 induction rel with
 | nil=>
  intro ds r;cases r;exact ⟨.nil,.nil⟩
 | @cons p q ps qs h t ih=>
  intro ds r;cases r with
  | cons r u=>
   obtain ⟨h1,h2⟩:=ih u;exact ⟨.cons rfl h1,.cons (.tup h.2.1 (vD _)) h2⟩
theorem jV (hc:X.calm=true) (hu:X.A.units+20<cLine):lG X (.builtin "sorted") (rs iY true):=by
 intro pins s σ H xs us Q I vr ⟨ds,d,r,e,k⟩;have fin:∀{ys:List D},bI ys=true->d=.lst (iR ys)->∀p xs',H p=none->b_ All H xs' (iR ys)->Q (.ref p) (upd H p (.lst xs')):=fun {ys} hl e p xs' hp r'=>by
  subst e;have sp:cZ H (upd H p (.lst xs')):=cZ.upd hp;exact k _ _ sp (.lst aM trivial (r'.same sp)) fun _=>.lst aM hp ((r'.cC (uW hl)).same sp)
 unfold iY at e;split at e
 ·rename_i kvs;split at e
  ·rename_i hl;rw [Bool.and_eq_true] at hl;cases e;obtain ⟨vv,uu,rfl,rfl,r,v⟩:=jF r vr;have key:∀{H':Hp} {a:Addr} {kk:List (List Key×V)},Inv X pins σ H' s->H' a=some (.dT kk)->pN All H' kk kvs->H'=H->vv=.ref a->wpAny (model X.prog X.w) X.A (call (.builtin "sorted") [.ref a]) (EP X pins σ Q) X.xe s:=fun {H' a kk} I' e rt eH _=>by
    subst eH;obtain ⟨es,ep,zs,raw,lo,hz,rel,he⟩:=aGr I' e;obtain ⟨r1,r2⟩:=aE6 rel rt;have hl2:es.size=zs.length:=by rw [<-Array.length_toList,he,List.length_map]
    have hl3:kk.length=zs.length:=Paired.length rel;have keys:es.toList.map (·.key)=zs.map fun x=>Value.ref x.2.1:=by rw [he,List.map_map];rfl
    exact mQ I' hu r1 (by rw [List.length_map,<-hl3];exact hz) r2 hl.2 (fun Q' E' h=>XH (I'.ok.hd hc) lo raw (by rw [hl2,<-hl3];exact hz) fun h1 tk kp sz=>by rw [keys];exact h h1 tk kp sz) (fin hl.2 rfl)
   cases r with
   | dK e _ rk _=>
    cases rk with
    | cons r t=>
     have:=hl.1;rw [List.all_cons,mR] at this;cases this
    | nil=>
     cases v;obtain ⟨_,lo,vs,rel,o,es,ep,e1,e2,e3,_,hp,_⟩:=CN I.hok e;have h0:vs.length=0:=by rw [<-rel.length];rfl
     have h1:es.toList=[]:=List.eq_nil_of_length_eq_zero (by rw [hp.length];exact h0);exact mQ I hu .nil (Nat.zero_le _) .nil hl.2 (fun Q' E' h=>XH (I.ok.hd hc) lo ⟨o,e1,e2,e3⟩ (by rw [<-Array.length_toList,h1];exact Nat.zero_le _) fun h' tk kp sz=>by rw [h1];exact h h' tk kp sz) (fin hl.2 rfl)
   | dT e _ rt _=>
    cases v;exact key I e rt rfl rfl
  ·cases e
 ·rename_i ys;split at e
  ·rename_i hl;cases e;obtain ⟨vv,uu,rfl,rfl,r,v⟩:=jF r vr;cases r with
   | tup e rr=>
    cases v;obtain ⟨its,vr,o,ho,hc',n,hd⟩:=iU I e;have hz:=I.hok _ _ e;exact mQ I hu vr (by rw [<-vr.length];exact hz.1) rr hl (fun Q' E' h=>aE4 ho hc' hd (by rw [List.size_toArray,<-vr.length];exact hz.1) fun h1 tk kp sz=>by simpa using h h1 tk kp sz) (fin hl rfl)
  ·cases e
 ·exact jY hu pins s σ H xs us Q I vr ⟨_,d,r,e,k⟩
end
end Mi
end
section
namespace Mi
open PySem L2 PySem.SeqAt PySem.Spec PyProof.Rows
noncomputable def mY:D->D->Res D
 | .tup a,.tup b=>if decide (a.length+b.length<=lim) then .ok (.tup (a++b)) else .bad
 | _,_=>.bad
noncomputable def fzD (i:Nat) (kvs:List (D×D)) (ρ:List D):List D:=(ρ.map fun d=>if d.pure then d else .uD).set i (.fdc kvs)
noncomputable def XJ (n i:Nat) (t:D->Res (List D)) (c:FT) (f:FE):FE:=fun ρ=>do
 let d <- jX i ρ
 match d with
 | .dct kvs=>if decide (kvs.length<=lim)&&(kvs.all (fun p=>!isTup p.1)&&D.a_ (kvs.map (·.2))) then (do
   let ys <- rR (qM n t c f false (fzD i kvs ρ)) [] (eO kvs)
   pure (.lst ys)) else .bad
 | _=>.bad
variable [KFrag]
section
variable {X:Cx} {pos:Pos}
theorem dU:OpR X (binaryOp .Add) (r2 mY false):=by
 intro pins s σ H x y v u Q I rx ry h;obtain ⟨a,b,d,p,q,e,k⟩:=h;unfold mY at e;split at e
 ·rename_i da db;split at e
  ·rename_i hl;cases e;cases p with
   | @tup l1 xs1 _ e1 r1=>
    cases q with
    | @tup l2 xs2 _ e2 r2=>
     cases rx;cases ry;have hz:xs1.length+xs2.length<=sizeLine:=by rw [r1.length,r2.length];exact qR hl
     obtain ⟨its,w1,p1,_⟩:=I.tuple (.of e1);obtain ⟨its2,w2,p2,_⟩:=I.tuple (.of e2);obtain ⟨⟨cls,dd,data,sl⟩,ho,hc,n,hd⟩:=id p1;obtain ⟨⟨cls2,dd2,data2,sl2⟩,ho2,hc2,n2,hd2⟩:=id p2;simp only at hc hd hc2 hd2;by_cases hv:its=[]
     ·have:xs1=[]:=w1.uE.mp hv;subst this;cases r1;refine concat_meets ⟨_,ho,hc⟩ ⟨_,ho2,hc2⟩ noFill_tuple_add seq_tuple_add PySem.F.slot_tuple_add PySem.F.entry_tuple_add (PySem.F.args_tuple_add_2 _ _)
       (tuple_addW0 l1 l2 its.toArray its2.toArray n n2 dd dd2 sl sl2 (by simp [hv])) ⟨by subst hc hd;exact ho,by subst hc2 hd2;exact ho2,.ref l2,H,I,rfl,?_⟩
      exact k.self (.tup e2 r2) (fun z=>by cases z)
     ·refine aD3 pins s σ H (.ref l1) (.ref l2) _ _ Q I rfl rfl ⟨l1,l2,xs1,xs2,rfl,rfl,.of e1,.of e2,fun z=>hv (w1.uE.mpr z),hz,fun z=>?_,fun z p hp=>?_⟩
      ·subst z;cases r2;rw [List.append_nil] at k;exact k.self (.tup e1 r1) (fun z=>by cases z)
      ·have sp:cZ H (upd H p (.tup (xs1++xs2))):=cZ.upd hp;exact k _ _ sp (.tup aM ((r1.append r2).same sp)) fun z=>by cases z
  ·cases e
 ·cases e
end
end Mi
end
section
namespace Mi
open PySem L2 PySem.SeqAt PySem.Spec PyProof.Rows
variable [KFrag]
section
variable {X:Cx} {own:Nat->Bool} {e:Expr} {fe:FE} {re:Bool} {pos:Pos}
end
end Mi
end
section
namespace Mi
open PySem L2 PySem.SeqAt PySem.Spec PyProof.Rows
variable [KFrag]
noncomputable def Itk (a:Addr) (o:Obj) (u:HO) (kvs:List (Key×V)):It where
 go:=fun i H=>H a=some (.frz o u)/\∃p,kvs[i]?=some p
 yld:=fun i H x H'=>H'=H/\∃p,kvs[i]?=some p/\x=kV p.1
 stop:=fun i H=>H a=some (.frz o u)/\kvs.length<=i
theorem aGs {P:Program} {w:World} {k:Key} {v:Value} (h:(cY P w).is k v=true):RelV (kV k) v:=by
 have h:IV k v=true:=h;rcases dB h with ⟨i,t,rfl,rfl⟩|⟨x,t,rfl,rfl⟩
 ·exact ⟨t,rfl⟩
 ·exact ⟨t,rfl⟩
theorem XM {P:Program} {w:World} {K:PySem.W.Frag} {tg:Expr} {a it:Addr} {o:Obj} {u:HO} {kvs:List (Key×V)} {vs:List (Key×Value)} {ep:Nat} (hd:∀h:Heap,h.get? a=some o->h.DictAt (cY P w) a vs ep) (rel:KV kvs vs) :
  Turn P w K tg (Itk a o u kvs) [it] it (fun i h=>h.IsKeyIter it a i vs.length ep) where
 mem:=by simp
 obj:=fun i h st b hb=>by
  have e:b=it:=by simpa using hb
  subst e;obtain ⟨o,e,c,d⟩:=st;exact ⟨o,e,fun v z=>by rw [d] at z;cases z⟩
 keep:=fun i h h' st k=>st.at fun o e=>k it (by simp) o e
 item:=by
  intro X hP hw hK hc i pins s σ H E I hf st hg;subst hP hw hK;obtain ⟨ea,⟨k,x⟩,hx⟩:=hg;obtain ⟨px,_⟩:=I.hok a _ ea;obtain ⟨v,hv,rv⟩:=W8 rel hx;obtain ⟨f0,f1,f2,f3,f4,f5⟩:=hf it (by simp);refine wpAny_pyNext_dict_item st (hd _ px) hv fun key h' hk st' sb=>?_
  have I1:Inv X pins σ H {s with heap:=h'}:=I.turned (t':=s.toks) (fun b o hb e=>(sb.2 b hb).trans e) f0 f1 f3 f4 f5;obtain ⟨o',e,c,d⟩:=id st';exact ⟨key,rfl,T5 (s:={s with heap:=h'}) e c d (by decide) ⟨kV k,H,I1,aGs hk,⟨rfl,_,hx,rfl⟩,st',fun b hb=>(hf b hb).1⟩⟩
 done:=by
  intro X hP hw hK hc i pins s σ H E I hf st hg;subst hP hw hK;obtain ⟨ea,hx⟩:=hg;obtain ⟨px,_⟩:=I.hok a _ ea;obtain ⟨f0,f1,f2,f3,f4,f5⟩:=hf it (by simp);have hl:kvs.length=vs.length:=Paired.length rel;exact wpAny_pyNext_dict_end (I.ok.hd hc) st (hd _ px) (List.getElem?_eq_none_iff.mpr (by lia)) fun h' eb=>⟨rfl,I.turned (t':=s.toks) (fun b o hb e=>eb b o hb e) f0 f1 f3 f4 f5⟩
 self:=fun _ _ _ _ _ st h=>wpAny_pyIter_keyiter st h
section
variable {X:Cx} {pins:List (Addr×Obj)} {σ:L2.St} {H:Hp} {s:Shared} {a:Addr} {kvs:List (Key×V)}
theorem aAs {o:Obj} {u:HO} (I:Inv X pins σ H s) (e:H a=some (.frz o u)) (hn:∀o u,X.H₀ a≠some (.frz o u)):Inv X pins σ (upd H a u) s:=by
 have ne:∀b,H b=none->b≠a:=fun b h z=>by subst z;rw [e] at h;cases h
 have keepT:∀b xs,H b=some (.tup xs)->upd H a u b=some (.tup xs):=fun b xs h=>by
  rw [bJ (fun z=>by subst z;rw [e] at h;cases h)];exact h
 have keepO:∀b x,H b=some (.own x)->upd H a u b=some (.own x):=fun b x h=>by
  rw [bJ (fun z=>by subst z;rw [e] at h;cases h)];exact h
 refine ⟨I.ok,I.os,I.bare,⟨I.base.keep,I.base.slot,fun b o h1 h2 h3=>?_,I.base.there,fun b xs h=>?_,fun b o' u' h=>?_,fun b ps h=>?_⟩,I.loc,I.cell,?_,fun x c h=>?_,fun p hp=>?_,fun b ob h=>?_,I.len⟩
 ·have:=I.base.free b o h1 h2 h3;rw [bJ (ne b this)];exact this
 ·exact keepT b xs (I.base.tups b xs h)
 ·have:=I.base.frzs b o' u' h;rw [bJ (fun z=>by subst z;exact hn _ _ h)];exact this
 ·obtain ⟨more,h1⟩:=I.base.tbls b ps h;refine ⟨more,?_⟩;rw [bJ (fun z=>by subst z;rw [e] at h1;cases h1)];exact h1
 ·rw [bJ (ne _ I.free)];exact I.free
 ·have:=I.freeC x c h;rw [bJ (ne _ this)];exact this
 ·obtain ⟨h1,h2,h3⟩:=I.pin p hp;exact ⟨h1,by rw [bJ (ne _ h2)];exact h2,h3⟩
 ·by_cases hb:b=a
  ·subst hb;rw [aM] at h;cases h;obtain ⟨_,h2⟩:=I.hok b _ e;exact h2.stay (fun _ _ _ q=>q) (fun c hc=>keepO c b hc) keepT
  ·rw [bJ hb] at h;exact (I.hok b _ h).stay (fun _ _ _ q=>q) (fun c hc=>keepO c b hc) keepT
theorem aAt (I:Inv X pins σ H s) (hu:DV H a kvs):∀o u,X.H₀ a≠some (.frz o u):=fun o u h=>by
 have:=I.base.frzs a o u h;rcases hu with h|⟨_,h⟩ <;> (rw [h] at this;cases this)
theorem aE7 {tg:Expr} {x:Str} {i:Nat} {np:Pos} (hN:X.N[i]?=some x) (hv:Vis X.env.scope x) (hd:nDb x:=by decide) (hcd:nCd x:=by decide) :
  PI X tg (.Name x np) (fun σ H R=>∃a kvs u,σ[i]?=some (some (.ref a))/\DV H a kvs/\H a=some u/\∀o,R (Itk a o u kvs) (upd H a (.frz o u))):=by
 intro pins s σ H R I ⟨a,kvs,u,hσ,hu,hua,q⟩;refine thn (nT (pos:=np) hN hv hd hcd pins s σ H (fun v H1=>v=.ref a/\H1=H) I ⟨_,hσ,rfl,rfl⟩) fun v s1 ⟨w,H1,I1,r1,e1,e2⟩=>?_
 subst e1 e2;cases r1;obtain ⟨z,hs,vs,rel,dd⟩:=K4 I1 hu;obtain ⟨ep,da⟩:=dd.dictAt;obtain ⟨o,es,ho,r⟩:=id da;have hda:∀h:Heap,h.get? a=some o->h.DictAt (cY X.prog X.w) a vs ep:=fun h e=>⟨o,es,e,r⟩
 obtain ⟨u',hu2,fu⟩:=aCe I1 hu ho;rw [hua] at hu2;cases hu2;have If:Inv X pins σ (upd H1 a (.frz o u)) s1:=I1.write (t':=s1.toks) (x:=a) (e:=a) (h':=s1.heap) (o:=.frz o u) (aCd hu) (.inl rfl) (fun _ _ _ q=>q) ⟨o,ho⟩ ⟨ho,fu _ _ ho⟩;refine wpAny_pyIter_dict hs da ?_;have I2:Inv X pins σ (upd H1 a (.frz o u)) {s1 with heap:=s1.heap.push {cls:=.type "dict_keyiterator",data:=.fields #[.ref a,.int 0 0,.int vs.length 0,.int ep 0]}}:=If.kept (t':=s1.toks) fun b o e=>Heap.get?_push_of_some _ e
 refine ⟨s1.heap.objs.size,[s1.heap.objs.size],fun i h=>h.IsKeyIter s1.heap.objs.size a i vs.length ep,Itk a o u kvs,_,rfl,I2,XM hda rel,⟨_,Heap.get?_push_size _ rfl,rfl,rfl⟩,fun b hb=>?_,q o⟩;have e:b=s1.heap.objs.size:=by simpa using hb
 subst e;exact If.aFg (Nat.le_refl _) (If.hok.fresh (Nat.le_refl _))
end
theorem aGt {P P':Addr->Prop} {H:Hp} {a:Addr} {ds:List (D×D)} {o:Obj} {u:HO} (r:Rep P H (.ref a) (.dct ds)) (hua:H a=some u) (hp:D.a_ (ds.map (·.2))=true):Rep P' (upd H a (.frz o u)) (.ref a) (.fdc ds):=by
 have hna:∀ob,H a=some ob->aAp ob=true:=fun xs z=>by
  cases r with
  | dK e _ _ _=>rw [e] at z;cases z;rfl
  | dT e _ _ _=>rw [e] at z;cases z;rfl
 have goK:∀{kvs:List (Key×V)} {ds:List (D×D)},nM P H kvs ds->D.a_ (ds.map (·.2))=true->nM P' (upd H a (.frz o u)) kvs ds:=by
  intro kvs ds r;induction kvs generalizing ds with
  | nil=>cases r;intro _;exact .nil
  | cons p kvs ih=>cases r with
   | cons r t=>
    intro h;rw [List.map_cons,D.a_,Bool.and_eq_true] at h;exact .cons ((q_ hna r h.1).cC h.1) (ih t h.2)
 have goT:∀{kvs:List (List Key×V)} {ds:List (D×D)},pN P H kvs ds->D.a_ (ds.map (·.2))=true->pN P' (upd H a (.frz o u)) kvs ds:=by
  intro kvs ds r;induction kvs generalizing ds with
  | nil=>cases r;intro _;exact .nil
  | cons p kvs ih=>cases r with
   | cons r t=>
    intro h;rw [List.map_cons,D.a_,Bool.and_eq_true] at h;exact .cons ((q_ hna r h.1).cC h.1) (ih t h.2)
 cases r with
 | dK e _ r n=>rw [e] at hua;cases hua;exact .fdK aM (goK r hp) n
 | dT e _ r n=>rw [e] at hua;cases hua;exact .fdT aM (goT r hp) n
theorem aIp {P:Addr->Prop} {H:Hp} {v:V} {ds:List (D×D)} (r:Rep P H v (.dct ds)) (hb:ds.all (fun p=>!isTup p.1)=true):∃a kvs u,v=.ref a/\DV H a kvs/\H a=some u/\S9 u=true/\∀{P'},∀H',b_ P' H' (kvs.map fun p=>kV p.1) (eO ds):=by
 cases r with
 | dK e _ rk _=>
  refine ⟨_,_,_,rfl,.inl e,e,rfl,fun {P'} H'=>?_⟩;clear e;rename_i n;clear n;have go:∀{kvs:List (Key×V)} {ds:List (D×D)},nM P H kvs ds->b_ P' H' (kvs.map fun p=>kV p.1) (eO ds):=by
   intro kvs ds r;induction kvs generalizing ds with
   | nil=>cases r;exact .nil
   | cons p kvs ih=>cases r with
    | @cons k v d r ds h t=>exact .cons (by cases k <;> first|exact .int _|exact .str _) (ih t)
  exact go rk
 | dT e _ rt _=>
  cases rt with
  | nil=>exact ⟨_,[],_,rfl,.inr ⟨rfl,e⟩,e,rfl,fun H'=>.nil⟩
  | cons r t=>simp [isTup] at hb
end Mi
end
section
namespace Mi
open PySem L2 PySem.SeqAt PySem.Spec PyProof.Rows
variable [KFrag]
theorem aAu {ρ:List D} {f:D->D} (h:f .uD=.uD) (j:Nat):(ρ.map f).getD j .uD=f (ρ.getD j .uD):=by
 rw [List.getD_eq_getElem?_getD,List.getD_eq_getElem?_getD,List.getElem?_map];cases ρ[j]? with
 | none=>exact h.symm
 | some d=>rfl
theorem aIq {H:Hp} {σ:L2.St} {ρ:List D} {i:Nat} {a:Addr} {ds:List (D×D)} {o:Obj} {u:HO} (E:ER H σ ρ) (hσ:σ[i]?=some (some (.ref a))) (r:Rep All H (.ref a) (.dct ds)) (hua:H a=some u) (hmu:S9 u=true) (hp:D.a_ (ds.map (·.2))=true):ER (upd H a (.frz o u)) σ (fzD i ds ρ):=by
 have hna:∀ob,H a=some ob->aAp ob=true:=fun xs z=>by rw [hua] at z;cases z;cases u <;> first|rfl|cases hmu
 intro j hj;unfold fzD at hj ⊢;rw [jT] at hj ⊢;by_cases h:i=j/\i<(ρ.map fun d=>if d.pure then d else .uD).length
 ·rw [if_pos h];obtain ⟨rfl,_⟩:=h;exact ⟨_,hσ,aGt r hua hp⟩
 ·rw [if_neg h] at hj ⊢;rw [aAu (by rfl)] at hj ⊢;by_cases hpu:(ρ.getD j .uD).pure=true
  ·rw [if_pos hpu] at hj ⊢;obtain ⟨v,h1,h2⟩:=E j hj;exact ⟨v,h1,q_ hna h2 hpu⟩
  ·rw [if_neg hpu] at hj;exact absurd rfl hj
section
variable {X:Cx} {scope:Scope} {own:Nat->Bool} {x c y:Str} {i n iy:Nat} {elt cnd:Expr} {fe:FE} {gc:FT} {re o:Bool} {np cpos pos py pos2:Pos}
theorem aAv (S:dG X.N X.env.scope scope [c]) (hn:X.N.length=n) (hcalm:X.calm=true) (hN:X.N[i]?=some x) (hv:Vis X.env.scope x) (hg:∀y,PG (mkC X scope [c] y) (.Name c cpos) (tO n)) (hc:∀y,PT (mkC X scope [c] y) cnd (gT gc)) (he:∀y,PE (mkC X scope [c] y) elt (gE fe re))
  (hs:∀z,foldedSetIterable (.Name x np) X.env z=pure z) (ho:own iy=o) (hNn:X.N.Nodup) (hiy:X.N[iy]?=some y) (hxy:Loc X.env.scope y) (hfy:X.fn y=true\/X.env.scope.names.lookup y=some .local) (hsw:swapsWith (.ListComp elt [⟨.Name c cpos,.Name x np,[cnd],0⟩] scope pos) (some (.Name y py)) pos2.line X.env=pure true)
  (hd:nDb x:=by decide) (hcd:nCd x:=by decide) :
  PS X (.Assign [.Name y py] (.ListComp elt [⟨.Name c cpos,.Name x np,[cnd],0⟩] scope pos) pos2) (tS own (cL o iy (XJ n i pM gc fe) true)):=by
 intro pins s σ H Dn I h;obtain ⟨ρ,d,E,hcomp,q⟩:=zH ho h;obtain ⟨d0,h1,h2⟩:=bO hcomp;obtain ⟨v,hσ,r,ed⟩:=E.var h1;split at h2
 ·rename_i ds;split at h2
  ·rename_i hb;rw [Bool.and_eq_true,Bool.and_eq_true] at hb;obtain ⟨ys,h3,h4⟩:=bO h2;cases h4;obtain ⟨a,kvs,u,rfl,hu,hua,hmu,rk⟩:=aIp r hb.2.1;have hlen:kvs.length=(eO ds).length:=by have:=(rk (P':=All) H).length;simpa using this
   have hlim:(eO ds).length<=lim:=by unfold eO;rw [List.length_map];exact of_decide_eq_true hb.1
   have hno:=aAt I hu;have hσl:σ.length=n:=I.len.trans hn;have tg:=kZ n;refine thn (DY S hcalm (aE7 (tg:=.Name c cpos) (np:=np) hN hv hd hcd) (fun X' cc=>by obtain ⟨y,rfl⟩:=jZ cc;exact hg y) (fun X' cc=>by obtain ⟨y,rfl⟩:=jZ cc;exact hc y) (fun X' cc=>by obtain ⟨y,rfl⟩:=jZ cc;exact he y) hs hNn hiy hxy hfy hsw pins s σ H
    {Dn with nx:=fun σ' H'=>∃o,H' a=some (.frz o u)/\Dn.nx σ' (upd H' a u)} I ⟨a,kvs,u,hσ,hu,hua,fun o p hp=>?_⟩) fun f s' hq=>?_
   ·have hpa:p≠a:=fun z=>by subst z;rw [aM] at hp;cases hp
    have hp0:H p=none:=by rw [bJ hpa] at hp;exact hp
    have EF:ER (upd H a (.frz o u)) σ (fzD i ds ρ):=aIq E hσ r hua hmu hb.2.2;refine ⟨fun i' n' vs H'=>n'=kvs.length-i'/\i'<=kvs.length/\H' p=some (.lst vs)/\cZ (upd H a (.frz o u)) H'/\∃acc,acc.length<=i'/\D.a_ acc=true/\b_ All H' vs acc/\rR (qM n pM gc fe false (fzD i ds ρ)) acc ((eO ds).drop i')=.ok ys,⟨kvs.length,rfl,Nat.zero_le _,aM,cZ.upd hp,[],Nat.zero_le _,rfl,.nil,h3⟩,?_⟩;rintro i' n' vs H' ⟨rfl,hi,hH,sm,acc,hal,pacc,racc,hf⟩;have ea:H' a=some (.frz o u):=sm a _ aM;refine ⟨hH,?_⟩;rcases Nat.lt_or_ge i' kvs.length with hlt|hge
    ·refine .inr ⟨⟨ea,_,List.getElem?_eq_getElem hlt⟩,?_,fun x H2 hy=>?_⟩
     ·rw [racc.length];exact Nat.lt_of_le_of_lt hal (Nat.lt_of_lt_of_le (hlen▸hlt) (Nat.le_trans hlim (by rw [sizeLine_eq];decide)))
     ·obtain ⟨rfl,pr,hx,rfl⟩:=hy;have hlt2:i'<(eO ds).length:=hlen▸hlt;obtain ⟨dx,hdx,rx⟩:=(rk (P':=All) H2).at (i:=i') (v:=kV pr.1) (by simp [hx]);have edx:(eO ds)[i']=dx:=by
       have:=List.getElem?_eq_getElem hlt2;rw [hdx] at this;exact (Option.some.inj this).symm
      rw [List.drop_eq_getElem_cons hlt2,edx] at hf;obtain ⟨acc2,hs,hf⟩:=bO hf;obtain ⟨bs,hbs,hs⟩:=bO hs;obtain ⟨ok,hok,hs⟩:=bO hs;refine tg (kV pr.1) dx bs σ H2 _ hσl rx hbs fun σ2 hx2 hbs2=>⟨hx2,?_⟩
      have E2:ER H2 σ2 (J6 n (fzD i ds ρ)++bs):=(EF.same sm).ext hσl hx2 hbs2;refine ⟨_,ok,E2,hok,fun H4 s4=>?_⟩;cases ok with
      | true=>
       rw [if_pos rfl];rw [if_pos rfl] at hs;obtain ⟨yy,hy2,hs⟩:=bO hs;split at hs
       ·rename_i hk;cases hs;have py:yy.pure=true:=by simpa using hk
        refine ⟨_,yy,E2.same s4,hy2,fun w H5 s5 r5 n5=>⟨s5 p _ (s4 p _ hH),kvs.length-(i'+1),by lia,rfl,hlt,aM,?_,acc++[yy],?_,lZ pacc py,?_,hf⟩⟩
        ·exact fun b ob e=>by
          rw [bJ (e_ e hp)];exact s5 b ob (s4 b ob (sm b ob e))
        ·rw [List.length_append,List.length_singleton];lia
        ·have hp5:H5 p=some (.lst vs):=s5 p _ (s4 p _ hH);have hpn:∀ob,H5 p=some ob->aAp ob=true:=fun xs z=>by rw [hp5] at z;cases z;rfl
         exact j5 hpn ((racc.same (s4.trans s5)).snoc r5) (lZ pacc py)
       ·cases hs
      | false=>
       rw [if_neg (by simp)];rw [if_neg (by simp)] at hs;cases hs;exact ⟨kvs.length-(i'+1),by lia,rfl,hlt,s4 p _ hH,sm.trans s4,acc,by lia,pacc,racc.same s4,hf⟩
    ·refine .inl ⟨⟨ea,hge⟩,o,ea,?_⟩;rw [List.drop_eq_nil_of_le (by lia)] at hf;cases hf;have hna:∀ob,H' a=some ob->aAp ob=true:=fun xs z=>by rw [ea] at z;cases z;rcases hu with h|⟨_,h⟩ <;> (rw [hua] at h;cases h;rfl)
     have sF:cZ H (upd H' a u):=fun b ob e=>by
      by_cases hba:b=a
      ·subst hba;rw [aM,<-hua];exact e
      ·rw [bJ hba];exact sm b ob (by rw [bJ hba];exact e)
     have hpF:upd H' a u p=some (.lst vs):=by rw [bJ hpa];exact hH
     have rF:∀{P:Addr->Prop},b_ P (upd H' a u) vs ys:=fun {P}=>(j5 hna racc pacc).cC pacc
     exact q _ _ sF (.lst hpF trivial rF) fun _=>.lst hpF hp0 rF
   ·cases f with
    | next=>
     obtain ⟨σ',H',I',o,ea,q'⟩:=hq;exact ⟨σ',_,aAs I' ea hno,q'⟩
    | brk=>exact hq
    | cont=>exact hq
    | ret u=>exact hq
  ·cases h2
 ·cases h2
end
section
variable {own:Nat->Bool}
end
end Mi
end
section
namespace Mi
open PySem L2 PySem.SeqAt PySem.Spec PyProof.Rows
variable [KFrag]
section
variable {X:Cx} {pins:List (Addr×Obj)} {σ:L2.St} {H:Hp} {s:Shared} {a:Addr} {kvs:List (List Key×V)}
end
section
variable {X:Cx} {scope:Scope} {own:Nat->Bool} {x c y:Str} {i n iy:Nat} {elt cnd:Expr} {fe:FE} {gc:FT} {re o:Bool} {np cpos pos py pos2:Pos}
end
end Mi
end
section
namespace Wz
open PySem PySem.Spec
section
variable {prog:Program} {w:World} {A:Around} {E:Value->Shared->Prop} {s:Shared} {it t:Addr} {i:Nat} {xs:Array Value} {x:Value} {n:Nat} {dd:Option Addr} {sl:Array (Option Value)}
end
section
variable {z TI TO i1 i2 l1 l2:Addr} {o1 o2:Obj} {f0 f1 g0 g1 a b c d:Value} {k1 k2:Nat} {h h':Heap}
end
section
variable {prog:Program} {w:World} {A:Around} {E:Value->Shared->Prop} {s:Shared} {z TI TO i1 i2 l1 l2:Addr} {n1 n2:Nat} {d1 d2:Option Addr} {s1 s2:Array (Option Value)} {f0 f1 a b x y:Value} {k:Nat} {xs ys:Array Value}
end
end Wz
end
section
namespace Wz
open PySem PySem.Spec
section
variable {prog:Program} {w:World} {A:Around} {E:Value->Shared->Prop} {s:Shared} {z TI TO i1 i2 l1 l2:Addr} {n1 n2:Nat} {d1 d2:Option Addr} {s1 s2:Array (Option Value)} {f0 f1 a b x y:Value} {k:Nat} {xs ys:Array Value}
end
end Wz
end
section
namespace Wz
open PySem PySem.Spec
section
variable {prog:Program} {w:World} {A:Around} {E:Value->Shared->Prop} {s:Shared}
end
section
variable {prog:Program} {w:World} {A:Around} {E:Value->Shared->Prop} {hp:Heap} {g:Array GenState} {d:Drawn} {tk:Nat} {os:OsState} {a TI TO:Addr} {f0 f1:Value}
end
end Wz
end
section
namespace Wz
open PySem PySem.Spec
section
variable {prog:Program} {w:World} {A:Around} {E:Value->Shared->Prop} {s:Shared} {z TI TO i1 i2 l1 l2 d:Addr} {n1 n2:Nat} {d1 d2:Option Addr} {s1 s2:Array (Option Value)} {x y:Value} {k:Nat} {xs ys:Array Value}
end
section
variable {prog:Program} {w:World} {K:Type} [DecidableEq K] {knd:KeyKind prog w K} {A:Around} {R:Except Value Flow->Shared->Prop} {z TI TO i1 i2 l1 l2 d:Addr} {n1 n2:Nat} {d1 d2:Option Addr} {s1 s2:Array (Option Value)} {xs ys:Array Value} {ks:List K}
end
section
variable {prog:Program} {w:World} {K:Type} [DecidableEq K] {knd:KeyKind prog w K} {A:Around} {E:Value->Shared->Prop} {hp:Heap} {g:Array GenState} {dr:Drawn} {tk:Nat} {os:OsState} {z TI TO i1 i2 l1 l2:Addr} {n1 n2:Nat} {d1 d2:Option Addr} {s1 s2:Array (Option Value)} {xs ys:Array Value} {ks:List K}
end
end Wz
end
section
namespace Mi
open PySem L2 PySem.SeqAt PySem.Spec PyProof.Rows
variable [KFrag]
section
variable {X:Cx} {a b:Expr} {fs:FA} {rr:Bool} {p p2 pos pos2:Pos}
end
end Mi
end
section
namespace Mi
open PySem L2 PySem.SeqAt PySem.Spec PyProof.Rows
noncomputable def aHr (i:Nat) (f:FE):FS:=fun ρ=>do
 let d <- f ρ
 match ρ.getD i .uD,d with
 | .lst xs,.lst ys=>if decide (xs.length+ys.length<=lim)&&D.a_ ys then .ok (.nx (ρ.set i (.lst (xs++ys)))) else .bad
 | _,_=>.bad
noncomputable def ZK:List D->Res D
 | [.bl b]=>.ok (.int (if b then 1 else 0))
 | [.int i]=>.ok (.int i)
 | _=>.bad
variable [KFrag]
theorem K5 {X:Cx}:lG X (.type "int") (rs ZK true):=by
 intro pins s σ H xs us Q I vr ⟨ds,d,r,e,k⟩;unfold ZK at e;split at e
 ·cases e;obtain ⟨vv,uu,rfl,rfl,r,v⟩:=jF r vr;cases r;cases v;exact call_int_bool ⟨.int _,H,I.tok _,⟨_,rfl⟩,k.int⟩
 ·cases e;obtain ⟨vv,uu,rfl,rfl,r,v⟩:=jF r vr;cases r;obtain ⟨t,rfl⟩:=v;exact call_int_int ⟨.int _,H,I,⟨_,rfl⟩,k.int⟩
 ·cases e
section
variable {X:Cx} {own:Nat->Bool} {e:Expr} {fe:FE} {re:Bool} {pos:Pos}
theorem aGu {i:Nat} {x:Str} {p1 apos cpos:Pos} (ho:own i=true) (hN:X.N[i]?=some x) (hv:Vis X.env.scope x) (he:PE X e (gE fe re)) (hd:nDb x:=by decide) (hcd:nCd x:=by decide)
  (hbase:attributeBase (.Name x p1) "extend" X.env (eval (.Name x p1) X.env)=eval (.Name x p1) X.env:=by rfl)
  (hs1:starEach [e] X.env=(false,eval e X.env)::starEach [] X.env:=by rfl)
  (hfew:((backTo cpos (starEach [e] X.env)).all (fun x=>!x.1)&&(backToKw cpos (keywordEach [] X.env)).all (fun x=>x.1.isSome)
   && decide (([e]:List Expr).length+([]:List Keyword).length+(if ([]:List Keyword).isEmpty then 0 else 1)<30))=true:=by rfl)
  (hline:(apos.endLine==cpos.line)=true:=by rfl)
  (hs:swapsWith (.Call (.Attribute (.Name x p1) "extend" apos) [e] [] cpos) none pos.line X.env=pure false:=by rfl) :
  PS X (.Expr (.Call (.Attribute (.Name x p1) "extend" apos) [e] [] cpos) pos) (tS own (aHr i fe)):=
 PS.imp (rN (Z0 PySem.F.plainAttrs_list PySem.F.slot_list_extend PySem.F.type_list_extend U0 (nT hN hv hd hcd) (kY he uB hs1) hbase hfew hline hs1 rfl) hs) fun D' σ H ⟨ρ,fl,E,h,q⟩=>by
 obtain ⟨d,h1,h2⟩:=bO h;split at h2
 ·rename_i xs ys hx;split at h2
  ·rename_i hk;cases h2;rw [Bool.and_eq_true,decide_eq_true_eq] at hk;obtain ⟨a,o,hσ,r,hin,ha,hm⟩:=E.ownAt ho (by rw [hx];intro z;cases z);rw [hx] at r hin;obtain ⟨vs,hl,rr⟩:=WT r;refine ⟨_,hσ,.inl ⟨rfl,vs,.of hl⟩,ρ,_,E.er,h1,fun v H' s rv _=>?_⟩;cases rv with
   | @lst b zs _ hb _ rz=>
    have E':=E.same s;have hl':=s _ _ hl;refine ⟨a,b,vs,zs,rfl,rfl,hl',hb,by rw [rr.length,rz.length];exact Nat.le_trans hk.1 (by rw [sizeLine_eq];decide),?_⟩;have hp:D.a_ (xs++ys)=true:=by rw [uY,Bool.and_eq_true];exact ⟨hin,hk.2⟩
    obtain ⟨E2,k2⟩:=E'.mut (o:=.lst (vs++zs)) (d:=.lst (xs++ys)) ho hσ rfl (.lst aM trivial (((rr.same s).append rz).upd hp hl' rfl)) hp;exact q _ _ ((KU.same s).trans k2) E2
  ·cases h2
 ·cases h2
end
end Mi
end
section
end
section
namespace Mi
open PySem L2 PySem.W PySem.SeqAt PySem.Spec PyProof.Rows
noncomputable def o_ (t:D->List D->Res (List D)) (body:FS) (g:FR):List D->List D->Bool
 | [],_=>false
 | x::xs,ρ=>match t x ρ with
  | .ok ρ1=>g ρ1||(match body ρ1 with
   | .ok (.nx ρ2)=>o_ t body g xs ρ2
   | .ok (.ct ρ2)=>o_ t body g xs ρ2
   | _=>false)
  | _=>false
noncomputable def zU (i:Nat) (t:D->List D->Res (List D)) (body:FS) (g:FR):FR:=fun ρ=>match jX i ρ with
 | .ok d=>(match qK d with|.ok xs=>o_ t body g xs ρ|_=>false)
 | _=>false
variable [KFrag]
def aJb (t u:TS):TS:=fun D σ H=>t D σ H\/u D σ H
theorem aGv {X:Cx} {ss:List Stmt} {t u:TS} (h1:PSs X ss t) (h2:PSs X ss u):PSs X ss (aJb t u):=fun pins s σ H D I h=>h.elim (h1 pins s σ H D I) (h2 pins s σ H D I)
section
variable {own:Nat->Bool}
theorem XN {K:PySem.W.Frag} {g:TG} {t:D->List D->Res (List D)} {body:FS} {r:FR} {C:Addr} {E:XK} {D':Ends} {J:It} {items:List D} {σ:L2.St} {H1:Hp} {ρ:List D} (tg:TgS own g t) (es:ES own H1 σ ρ) (hJ:ItQ K (fun a=>¬Own own σ a) J H1 items) (hf:o_ t body r items ρ=true) (q:∀σ' H',KU own σ H1 σ' H'->E (.ref C) none H') :
  ∃W:Nat->Nat->L2.St->Hp->Prop,(∃m,W 0 m σ H1)/\∀i m σ H,W i m σ H->
   (J.stop i H/\D'.nx σ H)\/(J.go i H/\∃N:L2.St->Hp->Prop,(∀σ' H',N σ' H'->∃m',m'<m/\W (i+1) m' σ' H')/\∀x H',J.yld i H x H'->g x σ H' fun σ2 H2=>aJb (tS own body) (tR own C E r) {D' with nx:=N,ct:=N,bk:=D'.nx} σ2 H2):=by
 refine ⟨fun i m σ' H'=>m=items.length-i/\i<=items.length/\ItQ K (fun a=>¬Own own σ' a) J H' items/\∃ρ',ES own H' σ' ρ'/\o_ t body r (items.drop i) ρ'=true/\∀σ2 H2,KU own σ' H' σ2 H2->E (.ref C) none H2,⟨items.length,rfl,Nat.zero_le _,hJ,ρ,es,hf,q⟩,?_⟩;rintro i m σ' H' ⟨rfl,hi,hJ',ρ',E',hf',q'⟩;rcases Nat.lt_or_ge i items.length with hlt|hge
 ·refine .inr ?_;have e:items[i]?=some items[i]:=List.getElem?_eq_getElem hlt;obtain ⟨g1,g2⟩:=hJ'.go e;rw [List.drop_eq_getElem_cons hlt,o_] at hf';split at hf'
  ·rename_i ρ1 h1;refine ⟨g1,fun σ2 H2=>ItQ K (fun a=>¬Own own σ2 a) J H2 items/\∃ρ',ES own H2 σ2 ρ'/\o_ t body r (items.drop (i+1)) ρ'=true/\∀σ3 H3,KU own σ2 H2 σ3 H3->E (.ref C) none H3,fun σ2 H2 ⟨n1,n2⟩=>⟨items.length-(i+1),by lia,rfl,hlt,n1,n2⟩,fun x H2 hy=>?_⟩;obtain ⟨sH,rx⟩:=g2 x H2 hy;have ks:KU own σ' H' σ' H2:=fun a o e n=>⟨sH a o e,n⟩
   have hJ':=hJ'.ku ks E';have E':=E'.same sH;refine tg x items[i] ρ' ρ1 σ' H2 _ E' rx h1 fun σ2 E2 hO=>?_
   have k0:KU own σ' H2 σ2 H2:=fun a o e n=>⟨e,by rw [hO];exact n⟩
   have hJ2:=hJ'.ku k0 E';have q2:∀σ3 H3,KU own σ2 H2 σ3 H3->E (.ref C) none H3:=fun σ3 H3 k=>q' σ3 H3 ((ks.trans k0).trans k)
   rcases (Bool.or_eq_true _ _).mp hf' with hr|hb
   ·exact .inr ⟨ρ1,E2,hr,q2⟩
   ·split at hb
    ·rename_i ρ2 h2;exact .inl ⟨ρ1,.nx ρ2,E2,h2,fun σ3 H3 k3 E3=>⟨hJ2.ku k3 E2,ρ2,E3,hb,fun σ4 H4 k4=>q2 σ4 H4 (k3.trans k4)⟩⟩
    ·rename_i ρ2 h2;exact .inl ⟨ρ1,.ct ρ2,E2,h2,fun σ3 H3 k3 E3=>⟨hJ2.ku k3 E2,ρ2,E3,hb,fun σ4 H4 k4=>q2 σ4 H4 (k3.trans k4)⟩⟩
    ·cases hb
  ·cases hf'
 ·rw [List.drop_eq_nil_of_le hge,o_] at hf';cases hf'
end
section
variable {P:Program} {w:World} {K:PySem.W.Frag} {mg:Str->Option Value} {base:Heap} {N:List Str} {qual:Str} {scope:Scope} {fad C:Addr} {cd:Value} {A:Around} {outer:List Env} {s:Shared} {H:Hp} {E:XK} {own:Nat->Bool} {pos:Pos}
theorem XQ {tg:Expr} {body:List Stmt} {g:TG} {t:D->List D->Res (List D)} {i:Nat} {x:Str} {px:Pos} {fb:FS} {r:FR} (ho:own i=false) (hN:N[i]?=some x) (hv:Vis scope x) (ht:TgS own g t) (hg:PG (jW (CX1 P w C) P w K mg base N qual scope fad cd A outer s H E) tg g) (hb:PSs (jW CX0 P w K mg base N qual scope fad cd A outer s H E).nox body (tS own fb)) (hr:PSs (jW (CX1 P w C) P w K mg base N qual scope fad cd A outer s H E) body (tR own C E r))
  (hs:∀z,foldedSetIterable (.Name x px) (envOfC qual scope s.heap.objs.size fad cd) z=pure z:=by intro _;rfl) (hd:nDb x:=by decide) (hcd:nCd x:=by decide):PS (jW (CX1 P w C) P w K mg base N qual scope fad cd A outer s H E) (.For tg (.Name x px) body [] pos) (tR own C E (zU i t fb r)):=by
 have hb':PSs (jW (CX1 P w C) P w K mg base N qual scope fad cd A outer s H E) body (tS own fb):=PSs.nox hb;refine PS.imp (T9 PassesOwn.leaving rfl (aC7 (X:=jW (CX1 P w C) P w K mg base N qual scope fad cd A outer s H E) hN hv hd hcd) hg (aGv hb' hr) hs) fun D' σ H1 ⟨ρ,es,h,q⟩=>?_
 unfold zU at h;split at h
 ·rename_i d h1;split at h
  ·rename_i items h2;obtain ⟨v,hv,rv,e⟩:=es.er.var h1;have hne:ρ.getD i .uD≠.uD:=fun z=>by
    rw [z] at e;subst e;exact Rep.uD rv
   obtain ⟨w',hw,hr⟩:=es.at_ i hne;rw [hv] at hw;cases hw;have r2:=hr ho;rw [e] at r2;exact ⟨v,d,items,hv,rv,h2,fun J hJ=>XN ht es (hJ _ r2) h q⟩
  ·cases h
 ·cases h
noncomputable def tRX (C:Addr) (E:XK) (g:FR):TE:=fun σ H _=>∃ρ,ER H σ ρ/\g ρ=true/\∀H',cZ H H'->E (.ref C) none H'
noncomputable def tRA (C:Addr) (E:XK) (g:FR):TA:=fun σ H _=>∃ρ,ER H σ ρ/\g ρ=true/\∀H',cZ H H'->E (.ref C) none H'
theorem aIr {g:FR} {D':Ends} {σ:L2.St} {H1:Hp} {Q:VK} (h:tR own C E g D' σ H1):tRX C E g σ H1 Q:=by
 obtain ⟨ρ,es,h,q⟩:=h;exact ⟨ρ,es.er,h,fun H' sm=>q σ H' (KU.same sm)⟩
theorem XR {k k' n:Nat} {x:Str} {e:Expr} {es:List Expr} {fa:FA} {r:Bool} {h:List D->Bool} {p cpos:Pos} (R:wB P w K mg base k x n C h) (hr:rM k' (A.deeper (envOfC qual scope s.heap.objs.size fad cd))) (hkk:k<=k') (hg:Gl (jW (CX1 P w C) P w K mg base N qual scope fad cd A outer s H E) x) (ha:PA (jW (CX1 P w C) P w K mg base N qual scope fad cd A outer s H E) (e::es) (gA fa r))
  (hdb:nDb x:=by decide) (he:starEach (e::es) (envOfC qual scope s.heap.objs.size fad cd)=(false,eval e (envOfC qual scope s.heap.objs.size fad cd))::starEach es (envOfC qual scope s.heap.objs.size fad cd):=by rfl) (hpl:(backTo cpos (starEach es (envOfC qual scope s.heap.objs.size fad cd))).any (·.1)=false:=by rfl) :
  PE (jW (CX1 P w C) P w K mg base N qual scope fad cd A outer s H E) (.Call (.Name x p) (e::es) [] cpos) (tRX C E (vB h fa)):=by
 obtain ⟨fm,fdm,ps,F,hm,hk,hb,hn⟩:=R;refine PE.imp (JF F (hr.mono hkk) hg hm hk hb .nil W6 ha hdb he hpl) fun σ H1 Q ⟨ρ,er,h,q⟩=>?_
 unfold vB at h;split at h
 ·rename_i ds hf;refine ⟨ρ,ds,er,hf,fun vs H' sm rs _=>?_⟩;show spR _ _ _ (vs++[]) _ _ _;rw [List.append_nil];exact ⟨ds,hn ds h,rs,h,fun H' sm'=>q H' (sm.trans sm')⟩
 ·cases h
theorem aGw {e:Expr} {es:List Expr} {g:FR} {ts:TA} (h:PE (jW (CX1 P w C) P w K mg base N qual scope fad cd A outer s H E) e (tRX C E g)) (hs:PA (jW (CX1 P w C) P w K mg base N qual scope fad cd A outer s H E) es ts) (he:starEach (e::es) (envOfC qual scope s.heap.objs.size fad cd)=(false,eval e (envOfC qual scope s.heap.objs.size fad cd))::starEach es (envOfC qual scope s.heap.objs.size fad cd):=by rfl):PA (jW (CX1 P w C) P w K mg base N qual scope fad cd A outer s H E) (e::es) (tRA C E g):=
 PA.imp (kY h hs he) fun σ H1 Q h=>h
theorem aGx {k k' n:Nat} {x:Str} {e:Expr} {es:List Expr} {g:FR} {f:List D->Res D} {p cpos:Pos} (R:dF P w K mg base k x n f) (hr:rM k' (A.deeper (envOfC qual scope s.heap.objs.size fad cd))) (hkk:k<=k') (hg:Gl (jW (CX1 P w C) P w K mg base N qual scope fad cd A outer s H E) x) (ha:PA (jW (CX1 P w C) P w K mg base N qual scope fad cd A outer s H E) (e::es) (tRA C E g))
  (hdb:nDb x:=by decide) (he:starEach (e::es) (envOfC qual scope s.heap.objs.size fad cd)=(false,eval e (envOfC qual scope s.heap.objs.size fad cd))::starEach es (envOfC qual scope s.heap.objs.size fad cd):=by rfl) (hpl:(backTo cpos (starEach es (envOfC qual scope s.heap.objs.size fad cd))).any (·.1)=false:=by rfl) :
  PE (jW (CX1 P w C) P w K mg base N qual scope fad cd A outer s H E) (.Call (.Name x p) (e::es) [] cpos) (tRX C E g):=by
 obtain ⟨fm,fdm,ps,F,hm,hk,hb⟩:=R;exact PE.imp (JF (CX:=CX0) (E:=E) F (hr.mono hkk) hg hm hk hb .nil (fun _ _ _ _ _ _ _ z=>z.elim) ha hdb he hpl) fun σ H1 Q h=>h
theorem XS {e:Expr} {g:FR} (h:PE (jW (CX1 P w C) P w K mg base N qual scope fad cd A outer s H E) e (tRX C E g)) (hs:swapsWith e none pos.line (envOfC qual scope s.heap.objs.size fad cd)=pure false:=by rfl):PS (jW (CX1 P w C) P w K mg base N qual scope fad cd A outer s H E) (.Expr e pos) (tR own C E g):=
 PS.imp (rN h hs) fun D σ H1 h=>aIr h
end
end Mi
end
section
namespace Mi
open PySem L2 PySem.W PySem.SeqAt PySem.Spec PyProof.Rows
noncomputable def xO (x:List D->Bool) (v:List D->Res D) (n:Nat) (fa:FA) (fb:FE):FS:=fun ρ=>do
 let ds <- fa ρ
 if x ds then .ok (.rt (.bl false)) else do
  let d <- dI n v ds
  let e <- fb ρ
  let r <- bL .eq d e
  if r.pure then .ok (.rt r) else .bad
variable [KFrag]
section
variable {own:Nat->Bool} {X:Cx} {C:Addr} {cM:Value} {k n:Nat} {f mx:Str} {p cpos qpos rpos mp hpos kp fpos pos:Pos} {j:Nat} {e b:Expr} {es:List Expr} {x:List D->Bool} {v:List D->Res D} {fa:FA} {fb:FE} {ra rb:Bool}
theorem aAw (hxe:X.xe=fun _ _=>False) (hst:X.stack=X.env::X.outer) (hfr:X.env.frame=some X.env.locals) (hu:X.A.units+20<cLine) (R:wB X.prog X.w X.K X.mg X.base k f n C x) (Cf:dF X.prog X.w X.K X.mg X.base k f n v) (hr:rM k X.A) (hg:Gl X f) (ha:PA X (e::es) (gA fa ra)) (hb:PE X b (gE fb rb)) (hgM:Gl X mx) (hmM:X.mg mx=some cM) (hx:exmOne X.K (.ref C) cM=some true) (hm:behindInMarks .Eq b=false)
  (hdb:(f==("__debug__" : Str))=false:=by decide) (hdM:(mx==("__debug__" : Str))=false:=by decide) (he:starEach (e::es) X.env=(false,eval e X.env)::starEach es X.env:=by rfl) (hpl:(backTo cpos (starEach es X.env)).any (·.1)=false:=by rfl) (hx0:own rtX=false:=by rfl) :
  PS X (.Try [.Return (some (.Compare (.Call (.Name f p) (e::es) [] cpos) [.Eq] [b] qpos)) rpos] [.ExceptHandler (some (.Name mx mp)) none [.Return (some (.Constant (.bool false) j kp)) fpos] hpos] [] [] pos) (tS own (xO x v n fa fb)):=by
 intro pins s σ H D I ⟨ρ,fl,E,h,q⟩;obtain ⟨ds,h1,h⟩:=bO h;split at h
 ·rename_i hxd;cases h;obtain ⟨fm,fdm,ps,F,hmf,hk,hbn,hn⟩:=R;refine wpAny_Try_except (wpAny_execs_cons (wpAny_Return_some (wpAny_Compare1 ?_ hm)));refine wpAny_Call_Name_kw (x_ I hg hmf ?_ hdb);refine callWith_K (h₀:=X.base) I.ok.mod.kin hk (wpAny_mono (ha cpos pins s σ H (fun vs H1=>cZ H H1/\b_ All H1 vs ds) I ⟨ρ,ds,E.er,h1,fun vs H1 s1 r1 _=>⟨s1,r1⟩⟩) (fun us s1 ⟨vs,H1,I1,r,sm,rs⟩=>⟨I1.kIn,?_⟩) fun _ _ z=>by rw [hxe] at z;exact z.elim) he hpl;have q0:spR x n C vs H1 (fun _ _=>False) (fun _ _ H2=>cZ H1 H2):=⟨ds,hn ds hxd,rs,hxd,fun H' sm'=>sm'⟩
  have hl:(us++[]).length=ps.length:=by rw [List.append_nil,<-r.length];exact F.len _ _ _ _ q0
  have hb':=hbn s1 us I1.kIn hl;rw [List.append_nil] at hb';refine wpAny_call (codeAny_mono (F.run X.A X.stack s1 H1 ⟨us,[]⟩ us vs _ _ hr I1.env0 hb' r q0) fun r s' hq=>?_);cases r with
  | ok fl=>
   cases fl with
   | ret u=>obtain ⟨_,_,_,_,_,_,_,z⟩:=hq;exact z.elim
   | next=>exact False.elim hq
   | brk=>exact False.elim hq
   | cont=>exact False.elim hq
  | error e=>
   obtain ⟨a,tt,H2,B,rfl,os',bare',fly,clo,hnn,hgone,hE⟩:=hq;rw [hst] at fly;refine wpAny_looks_onW (by rw [I.ok.frames,hst]) hfr fly fun h4 held4 sm4=>?_
   refine wpAny_landsW held4 fun h5 fly5 sm5=>?_
   have up5:s'.heap.UpToSlots h5:=Heap.UpToSlots.trans sm4 sm5;have I5:Inv X pins σ H2 {s' with heap:=h5}:=by
    obtain ⟨un,hok⟩:=clo h5 fly5.1 up5;exact I1.call' (ch:=[]) os' un hok bare' (fun b z=>absurd z (by simp))
   refine wpAny_handleBy_cons (codeAny_handlers_test ?_) (by intro q;cases q);refine x_ (X:=mrk X (.ref a)) (W4 I5 _) hgM hmM ?_ hdM;have LT:Looks (model X.prog X.w) h5 (typeOf (.ref a)) (.ref C):=by
    obtain ⟨ob,hob,hc⟩:=fly5.there;rw [<-hc];exact (Looks.ld hob).andThen .now
   refine (exm_one I5.kIn LT hx).here ?_;refine codeAny_handlers_suite ?_;refine lands_againW fly5 fun h6 fly6 sm6=>?_
   obtain ⟨un6,hok6⟩:=clo h6 fly6.1 (Heap.UpToSlots.trans up5 sm6);have I6:Inv X pins σ H2 {s' with heap:=h6}:=I1.call' (ch:=[]) os' un6 hok6 bare' (fun b z=>absurd z (by simp));have sm2:cZ H H2:=sm.trans hE;refine wpAny_execs_cons (wpAny_Return_some (wpAny_mono (aF7 (X:=(mrk X (.ref a)).nox) (b:=false) pins _ σ H2 (fun v H'=>v=.bl false/\H'=H2) ((W4 I6 _).wish _) ⟨rfl,rfl⟩) (fun u s7 ⟨w7,H7,I7,ru,e1,e2⟩=>?_) fun _ _ z=>False.elim z));subst e1 e2;exact ⟨.bl false,σ,_,W5 I.ok I7.pB,ru,kRt.old q hx0 (.bl false) _ (fun a o e _=>sm2 a o e) (.bl false)⟩
 ·obtain ⟨d,h2,h⟩:=bO h;obtain ⟨c,h3,h⟩:=bO h;obtain ⟨r,h4,h⟩:=bO h;split at h
  ·rename_i hrp;cases h;have hp:PS X (.Return (some (.Compare (.Call (.Name f p) (e::es) [] cpos) [.Eq] [b] qpos)) rpos) (tS own (v_ (b2 (bL .eq) (aL (dI n v) fa) fb) true)):=jQ (wX (rZ hu) (bB Cf hr (Nat.le_refl _) hg ha hdb he hpl) hb hm) hx0;have hs:=yD hp pins s σ H D I ⟨ρ,.rt r,E,lY (aH (aK h1 h2) h3 h4) (by rw [hrp];simp),q⟩;refine wpAny_Try_except (wpAny_mono hs (fun fl s1 h=>?_) fun _ _ z=>by rw [hxe] at z;exact z.elim);cases fl with
   | next=>exact wpAny_execs_nil h
   | ret u=>exact h
   | brk=>exact h
   | cont=>exact h
  ·cases h
end
end Mi
end
section
namespace Mi
open PySem L2 PySem.SeqAt PySem.Spec PyProof.Rows
section
variable {prog:Program} {w:World} {A:Around} {E:Value->Shared->Prop} {s:Shared}
theorem aE8 {t sl:Addr} {items:Array Value} {vl vu:Value} {lo hi:Option Int} {Q:Value->Shared->Prop} (ht:IsTup s.heap t items) (hs:s.heap.IsSliceOf sl vl vu .none) (pl:IsPart vl lo) (pu:IsPart vu hi) (hw:HT.sIx items.size 0 lo=0/\HT.sIx items.size items.size hi=items.size) (q:Q (.ref t) s):wpAny (model prog w) A (getItem (.ref t) (.ref sl)) Q E s:=by
 obtain ⟨os,hos,hcs,hds⟩:=id hs;have tsl:s.TypeIs (.ref sl) "slice":=⟨os,hos,hcs⟩
 have tty:=ht.typeIs;have all:(((HT.sIx items.size 0 lo:Nat):Int)==0&&(1:Int)==1&&(HT.sIx items.size items.size hi-HT.sIx items.size 0 lo)==items.size)=true:=by
  rw [hw.1,hw.2];simp
 unfold getItem;refine wpAny_holding (wpAny_bind (wpAny_sequenceKey tty (by decide) ?_));refine wpAny_bind (wpAny_callSpecial?_slot (name:=Str.ofString "__getitem__") tty PyProof.Rows.slot_tuple_getitem ?_);refine wpAny_call_entry PyProof.Rows.slot_tuple_getitem tty PyProof.Rows.entry_tuple_getitem ?_ (PyProof.Rows.args_tuple_getitem _ _);refine wpAny_bind (m:=Builtin.Tuple.tupleItemsOf (.ref t)) (PyProof.Rows.tupleItemsOf_ ht (wpAny_bind (wpAny_typeOf tsl ?_)));rw [if_pos (by decide)];refine wpAny_bind (HT.nH hs pl pu ?_);show wpAny _ _ (if (((HT.sIx items.size 0 lo:Nat):Int)==0&&(1:Int)==1&&(HT.sIx items.size items.size hi-HT.sIx items.size 0 lo)==items.size)=true then _ else _) _ _ s;rw [if_pos all]
 wp_walk
 exact ⟨_,rfl,wpAny_pure q⟩
end
noncomputable def PK:D->Option Int->Option Int->Res D
 | .tup xs,lo,hi=>if D.a_ xs then .ok (.tup (cutD xs lo hi)) else .bad
 | d,lo,hi=>aEx d lo hi
noncomputable def lC (a:FE) (lo hi:List D->Res (Option Int)):FE:=fun ρ=>do let x <- a ρ;let l <- lo ρ;let h <- hi ρ;PK x l h
theorem aAx {xs:List D} {lo hi:Option Int} (h:wW xs.length 0 lo=0/\wW xs.length xs.length hi=xs.length):cutD xs lo hi=xs:=by
 unfold cutD;rw [h.1,h.2];simp
def pW (kvs:List (D×D)) (k:D):List (D×D):=kvs.filter fun p=>!eqD p.1 k
noncomputable def aAy (i:Nat) (f:FE):FS:=fun ρ=>do
 let k <- f ρ
 match ρ.getD i .uD,k with
 | .dct kvs,.str x=>if (bN kvs (.str x)).isSome then .ok (.nx (ρ.set i (.dct (pW kvs (.str x))))) else .bad
 | _,_=>.bad
variable [KFrag]
section
variable {X:Cx} {e:Expr} {fe:FE} {re:Bool} {pos:Pos}
noncomputable def aK6:V->Option Int->Option Int->Hp->VK->Prop:=fun x lo hi H Q=>∃a d,Rep All H x a/\PK a lo hi=.ok d/\kR H d true Q
theorem aGy (hK:KFrag.K=X.K):SlR X aK6:=by
 intro pins s σ H x v vl vu lo hi sl Q I rx hs pl pu ⟨a,d,p,e,k⟩;by_cases ht:∃xs,a=.tup xs
 ·obtain ⟨ds,rfl⟩:=ht;simp only [PK] at e;split at e
  ·rename_i hp;cases e;by_cases hw:wW ds.length 0 lo=0/\wW ds.length ds.length hi=ds.length
   ·obtain ⟨l,xs,rfl,ee,rr⟩:=p.gQ;cases rx;obtain ⟨its,r,tt,hz⟩:=I.tuple (.of ee);have hl:its.toArray.size=ds.length:=by rw [List.size_toArray,<-rr.length];exact r.length.symm
    refine ⟨"tuple",_,PyProof.Rows.slot_tuple_getitem.lookup,tt.typeIs,aE8 tt hs pl pu (by rw [O1,O1,hl];exact hw) ⟨.ref l,H,I,rfl,?_⟩⟩;rw [aAx hw] at k;exact k.pure (.tup ee rr) (by rw [D.pure];exact hp)
   ·exact aGd hK pins s σ H x v vl vu lo hi sl Q I rx hs pl pu ⟨_,_,p,(by simp only [aEx];rw [if_neg];simp only [hp,Bool.not_true,Bool.false_or,decide_eq_true_eq];exact hw),k⟩
  ·cases e
 ·refine aGd hK pins s σ H x v vl vu lo hi sl Q I rx hs pl pu ⟨_,_,p,?_,k⟩;cases a <;> first|exact e|exact absurd ⟨_,rfl⟩ ht
theorem fP {lo hi:Option Expr} {p2:Pos} {fl fh:List D->Res (Option Int)} (hK:KFrag.K=X.K) (he:PE X e (gE fe re)) (hl:PO X lo (gO fl)) (hh:PO X hi (gO fh)):PE X (.Subscript e (.Slice lo hi none p2) pos) (gE (lC fe fl fh) true):=
 PE.imp (ZZ (aGy hK) he hl hh) fun σ H Q ⟨ρ,d,E,h,q⟩=>by
  obtain ⟨x,h1,h⟩:=bO h;obtain ⟨l,h2,h⟩:=bO h;obtain ⟨u,h3,h⟩:=bO h;exact ⟨ρ,x,E,h1,fun v H1 s1 r1 _=>⟨ρ,l,E.same s1,h2,fun H2 s2=>⟨ρ,u,E.same (s1.trans s2),h3,fun H3 s3=>⟨x,d,r1.same (s2.trans s3),h,q.imp ((s1.trans s2).trans s3) id⟩⟩⟩⟩
theorem PL {P:Addr->Prop} {H:Hp} {k:Key}:∀{kvs:List (Key×V)} {ds:List (D×D)},nM P H kvs ds->nM P H (v7 kvs k) (pW ds (kD k))
 | _,_,.nil=>.nil
 | _,_,.cons (k:=k') (v:=v) (r:=r) (ds:=ds) h t=>by
  have ih:=PL (k:=k) t;unfold v7 pW at ih ⊢;rw [List.filter_cons,List.filter_cons];simp only [WD];by_cases z:k'=k
  ·simp only [z,decide_true,Bool.not_true,Bool.false_eq_true,if_false,ne_eq,not_true_eq_false,decide_false];exact ih
  ·simp only [z,decide_false,Bool.not_false,if_true,ne_eq,not_false_eq_true,decide_true];exact .cons h ih
theorem aAz:MtR X "dict.pop" (fun x xs H Q=>∃a kvs k v,x=.ref a/\xs=[kV k]/\H a=some (.dK kvs)/\vZ kvs k=some v/\Q v (upd H a (.dK (v7 kvs k)))):=by
 intro pins s σ H x xs v us Q I rx rxs ⟨a,kvs,k,w,e1,e2,ea,el,q⟩;subst e1 e2;cases rx;cases rxs with
 | cons r1 r2=>
  cases r2;exact aIb I ea r1 el (.inl rfl) fun w' s' I' rw'=>⟨w,_,I',rw',q⟩
theorem xP {ds:List (D×D)} {k:D} (h:D.a_ (ds.map (·.2))=true):D.a_ ((pW ds k).map (·.2))=true:=lK.mpr fun d hd=>by
 obtain ⟨p,hp,rfl⟩:=List.mem_map.mp hd;exact lK.mp h _ (List.mem_map_of_mem (List.mem_filter.mp hp).1)
theorem aE9 {own:Nat->Bool} {i:Nat} {x:Str} {p1 apos cpos:Pos} (ho:own i=true) (hN:X.N[i]?=some x) (hv:Vis X.env.scope x) (he:PE X e (gE fe re)) (hd:nDb x:=by decide) (hcd:nCd x:=by decide)
  (hbase:attributeBase (.Name x p1) "pop" X.env (eval (.Name x p1) X.env)=eval (.Name x p1) X.env:=by rfl)
  (hs1:starEach [e] X.env=(false,eval e X.env)::starEach [] X.env:=by rfl)
  (hfew:((backTo cpos (starEach [e] X.env)).all (fun x=>!x.1)&&(backToKw cpos (keywordEach [] X.env)).all (fun x=>x.1.isSome)
   && decide (([e]:List Expr).length+([]:List Keyword).length+(if ([]:List Keyword).isEmpty then 0 else 1)<30))=true:=by rfl)
  (hline:(apos.endLine==cpos.line)=true:=by rfl)
  (hs:swapsWith (.Call (.Attribute (.Name x p1) "pop" apos) [e] [] cpos) none pos.line X.env=pure false:=by rfl) :
  PS X (.Expr (.Call (.Attribute (.Name x p1) "pop" apos) [e] [] cpos) pos) (tS own (aAy i fe)):=
 PS.imp (rN (Z0 PySem.F.plainAttrs_dict PySem.F.slot_dict_pop PySem.F.type_dict_pop aAz (nT hN hv hd hcd) (kY he uB hs1) hbase hfew hline hs1 rfl) hs) fun D' σ H ⟨ρ,fl,E,h,q⟩=>by
 obtain ⟨k,h1,h2⟩:=bO h;split at h2
 ·rename_i ds kx hx;split at h2
  ·rename_i hk;cases h2;obtain ⟨a,o,hσ,r,hin,ha,hm⟩:=E.ownAt ho (by rw [hx];intro z;cases z);rw [hx] at r hin;cases r with
   | @dK _ kvs _ e0 _ rk nd=>
    rcases aAd (k:=.inr kx) rk with ⟨v,d',g1,g2,g3⟩|⟨g1,g2⟩
    ·refine ⟨_,hσ,.inr (.inr (.inl ⟨rfl,.inl ⟨_,e0⟩⟩)),ρ,_,E.er,h1,fun w H' s rw1 _=>?_⟩;cases rw1;refine ⟨a,kvs,.inr kx,v,rfl,rfl,s _ _ e0,g1,?_⟩;have E':=E.same s;have rn:nM (fun _=>False) H' (v7 kvs (.inr kx)) (pW ds (.str kx)):=((PL (k:=.inr kx) rk).cC (xP hin)).keep (.same s) fun _ z=>z
     have nd2:((v7 kvs (Sum.inr kx:Key)).map (·.1)).Nodup:=nd.sublist (List.Sublist.map _ (List.filter_sublist));obtain ⟨E2,k2⟩:=E'.mut (o:=.dK (v7 kvs (.inr kx))) (d:=.dct (pW ds (.str kx))) ho hσ rfl (.dK aM trivial (rn.keep (uZ (s _ _ e0) rfl) fun _ z=>z.elim) nd2) (xP hin);exact q _ _ ((KU.same s).trans k2) E2
    ·have g2:bN ds (.str kx)=none:=g2;rw [g2] at hk;cases hk
   | @dT _ kvs _ e0 _ rt nd=>
    exfalso;obtain ⟨d,hd⟩:=Option.isSome_iff_exists.mp hk;obtain ⟨p,hp,e⟩:=zE (k:=.str kx) rfl hd;rw [DK rt p hp] at e;cases e
  ·cases h2
 ·cases h2
end
end Mi
namespace Mi
open PySem L2 PySem.SeqAt PySem.Spec PyProof.Rows
variable [KFrag]
theorem aEa {P:Program} {w:World} {K:PySem.W.Frag} {mg:Str->Option Value} {base:Heap} {x:Str} {st:Stmt} {fad C T:Addr} {its:Array Value} {fd:FuncData} {N ps:List Str} {k:Nat} {g:FR} (F:aGp K x x st fad fd T its) (hm:mg x=some (.ref fad)) (hb:Binds K fd ps []) (S:cN N ps (aQ st)) (own:Nat->Bool) (hown:∀i,i<ps.length->own i=false)
  (hbody:∀(cdv:Value) (A:Around) (outer:List Env) (s:Shared) (H:Hp) (E:XK),rM k (A.deeper (envOfC x (aQ st) s.heap.objs.size fad cdv))->PSs (jW (CX1 P w C) P w K mg base N x (aQ st) fad cdv A outer s H E) (g_ st) (tR own C E g)):wB P w K mg base (k+1) x ps.length C (rfn ps.length N.length g):=by
 refine ⟨fad,fd,ps,?_,hm,F.kp,hb,fun ds h=>by unfold rfn at h;rw [Bool.and_eq_true] at h;exact of_decide_eq_true h.1⟩;obtain ⟨oc,od,kV,doc,pm,an,cdv,ct,osl,rfl,lk,hcd⟩:=F.ex;refine ZW lk hcd S (fun vs H Q E ⟨ds,h1,r,_⟩=>by rw [r.length,h1]) fun A outer s H vs Q E hr ⟨ds,hl,r,h,q⟩=>⟨_,hbody cdv A outer s H E hr,?_⟩
 have hst:start N vs=vs.map some++List.replicate (N.length-ps.length) none:=by
  show vs.map some++List.replicate (N.length-vs.length) none=_;rw [r.length,hl]
 have noown:∀a,¬Own own (start N vs) a:=fun a ⟨i,hi,e⟩=>by
  rw [hst] at e;by_cases h:i<ps.length
  ·rw [hown i h] at hi;cases hi
  ·rw [List.getElem?_append_right (by simp [r.length,hl];lia),List.getElem?_replicate] at e;split at e <;> cases e
 unfold rfn at h;rw [Bool.and_eq_true] at h;exact ⟨_,zL hst hl r hown noown,h.2,fun σ' H' kk=>q H' fun a o e=>(kk a o e (noown a)).1⟩
end Mi
end
section
namespace Ws
open PySem PySem.Spec PySem.Builtin PySem.Builtin.Str
end Ws
namespace Mi
open PySem L2 PySem.SeqAt PySem.Spec PyProof.Rows
variable [KFrag]
end Mi
end
section
namespace Ws
open PySem PySem.Spec PySem.Builtin PySem.SeqAt PyProof.Rows
section
variable {prog:Program} {w:World} {A:Around} {E:Value->Shared->Prop} {s:Shared}
end
end Ws
namespace Mi
open PySem L2 PySem.SeqAt PySem.Spec PyProof.Rows
variable [KFrag]
section
variable {X:Cx}
end
end Mi
end
section
local macro_rules | `(tactic| trivial) => `(tactic| first | exact Or.inl rfl | exact Or.inr rfl | exact Or.inr (Or.inl rfl) | exact Or.inr (Or.inr rfl))
namespace Lk07
open PySem L2 Mi PySem.W
noncomputable def top (i:Nat):Stmt:=PySem.Challenge.pw_hookmill_k07_is_net.main.body.getD i (.Pass ⟨0,0,0,0⟩)
abbrev lA:Stmt:=top 13
def wC:Nat->Bool:=fun i=>false
noncomputable def gU:FS:=bT (sIf (bTB (b2 (bL (.ord .lt)) gM (aL iD (aC dY aO)))) (v_ (b2 getD dY gM) false) (iT)) (v_ cU true)
def fB:List D->Res D:=fnS 2 2 gU
abbrev oF:Stmt:=top 14
def FQ:Nat->Bool:=fun i=>i==5
noncomputable def oG:FS:=bT (cL false 2 (bC (.str "abcdefghijklmnopqrstuvwxyz")) true) (bT (cL false 3 (b2 (aU .add) cV (b2 (aU .mod) dY yP)) true) (bT (cL false 4 (b2 (aU .mod) (b2 (aU .fdiv) dY yP) bQ) true) (bT (cL true 5 (bC (.dct [])) true) (bT (RC (rQ (aC (b2 (aU .add) aEv (b2 (aU .mod) (b2 (aU .fdiv) dY (bC (.int 64))) aEv)) aO) qL) (tg1 6) (bT (cL false 7 (bC (.str "")) true) (bT (RC (rQ (aC bQ aO) qL) (tg1 8) (bT (cL false 9 (b2 (aU .mul) (b2 (aU .mod) (b2 (aU .fdiv) dY VL) v5) (b2 (aU .add) tB v5)) true) (bT (sIf (bTB (b2 (bL .eq) tB dX)) (cL false 9 cV true) (iT)) (cL false 7 (b2 (aU .add) nQ (b2 getD gD (b2 (aU .mod) (b2 (aU .add) (b2 (aU .fdiv) (b2 (aU .fdiv) dY CV) (b2 (aU .add) (b2 (aU .mul) tB tB) cV)) (b2 (aU .mul) mH JZ)) VM))) true)))) (bT (S8 5 nQ (b2 (aU .mod) gM aDe)) (cL false 1 (b2 (aU .fdiv) gM aDe) true))))) (CZ 5)))))
def jK:List D->Res D:=fnS 2 10 oG
abbrev mZ:Stmt:=top 16
def zV:Nat->Bool:=fun i=>i==3||i==5
noncomputable def m5:FS:=bT (cL true 3 (ZJ aO) true) (bT (RC (rQ (aC (b2 (aU .add) (aL iD (aC dY aO)) (b2 (aU .mul) v5 gM)) aO) qL) (tg1 4) (aG2 3 (b2 (aU .mod) (b2 (aU .add) (b2 (aU .fdiv) gD (b2 (aU .add) dX cV)) (b2 (aU .mul) dX dX)) (b2 (aU .add) dX cV)) dX)) (bT (cL true 5 (ZJ aO) true) (bT (RC (rQ (aC (aL iD (aC dY aO)) aO) qL) (tg1 4) (nJ 5 (cJ (aC (cJ (aC cU (aC (b2 getD bQ dX) aO))) (aC (b2 getD dY dX) aO))))) (bT (RC (rQ (aC gM aO) qL) (tg1 4) (bT (cL false 6 (lC bQ (dH (b2 (aU .add) (aL iD (aC dY aO)) (b2 (aU .mul) v5 dX))) (dH (b2 (aU .add) (b2 (aU .add) (aL iD (aC dY aO)) (b2 (aU .mul) v5 dX)) v5))) true) (nJ 5 (cJ (aC (cJ (aC cU (aC (aL (cP .lt) (aC mH aO)) aO))) (aC (cJ (aC cU (aC (aL (cP .gt) (aC mH aO)) aO))) aO)))))) (CZ 5)))))
def iK:List D->Res D:=fnS 3 7 m5
abbrev m9:Stmt:=top 15
def K6:Nat->Bool:=fun i=>false
noncomputable def pX:FS:=bT (cL false 2 (b2 getD dY (b2 (aU .mod) gM (aL iD (aC dY aO)))) false) (bT (cL false 3 (gF 5 (eQ dY false) pM (bTB (b2 (bL .ne) fK gD)) fK false) true) (bT (cL false 4 (b2 getD bQ (b2 (aU .mod) (b2 (aU .fdiv) gM (aL iD (aC dY aO))) (aL iD (aC bQ aO)))) false) (v_ (cJ (aC (aL (cP .lt) (aC gD (aC dX aO))) (aC (aL (cP .gt) (aC gD (aC dX aO))) aO))) false)))
def fQ:List D->Res D:=fnS 2 5 pX
abbrev iB:Stmt:=top 17
def FW:Nat->Bool:=fun i=>i==4||i==6
noncomputable def oH:FS:=bT (cL false 3 (aL v9 (aC dY aO)) true) (bT (cL true 4 (ZJ aO) true) (bT (cL false 5 (ZJ aO) true) (bT (cL true 6 (ZJ aO) true) (bT (cL false 7 cU true) (bT (cL false 8 cU true) (bT (cL false 9 cU true) (bT (uP 1 (tg1 10) (bT (cL false 11 (b2 (aU .fdiv) iI yP) true) (bT (sAl 12 5) (bT (sIf (bTB (b2 (bL .eq) (b2 (aU .mod) iI yP) aHo)) (cL false 12 (gF 13 (eQ fK false) pM (bTB (b2 (bL .eq) (b2 getD iW cV) cU)) iW false) true) (iT)) (sIf (VN (bTB (b2 (bL (.ord .lt)) (b2 (aU .mod) iI yP) aEw)) (bTB (b2 (bL (.ord .lt)) (aL iD (aC dX aO)) v8))) (bT (cL false 7 (b2 (aU .add) (b2 (aU .add) nQ cV) (b2 (aU .mod) (b2 (aU .fdiv) nO (aL iD (aC bQ aO))) (b2 (aU .pow) v8 aIg))) true) (bT (nJ 4 (cJ (aC nQ (aC (b2 getD bQ (b2 (aU .mod) nO (aL iD (aC bQ aO)))) aO)))) (cL false 5 (b2 (aU .add) fK (gF 13 (rQ (aC (b2 (aU .add) (b2 getD dY (b2 getD bQ (b2 (aU .mod) nO (aL iD (aC bQ aO))))) cV) aO) qL) pM (n_) (cJ (aC nQ (aC iW aO))) false)) true))) (sIf (VN (bTB (bCh (bL (.ord .le)) (bL (.ord .lt)) aEw (b2 (aU .mod) iI yP) aFz)) (bTB (b2 (bL (.ord .gt)) (aL iD (aC o9 aO)) cV))) (bT (nJ 6 (aL (dI 2 fQ) (aC o9 (aC nO aO)))) (cL false 5 (gF 13 (eQ fK false) pM (bTB (b2 (bL .notin) iW (b2 getD mH (b1 S7 cV)))) iW false) true)) (sIf (bTB (b2 (bL .eq) (b2 (aU .mod) iI yP) aFz)) (cL false 8 (b2 (aU .add) tB cV) true) (sIf (bTB (b2 (bL .eq) (b2 (aU .mod) iI yP) aDe)) (cL false 9 (b2 (aU .add) JZ (b2 (aU .mod) nO (b2 (aU .pow) v8 aA3))) true) (iT))))))))) (bT (cL true 6 (b2 (aU .add) mH (aL (dI 3 iK) (aC fK (aC tB (aC gD aO))))) true) (v_ (cJ (aC (aL gP (aC dX aO)) (aC (aL gP (aC (aL iY (aC mH aO)) aO)) (aC JZ aO)))) false)))))))))
def kE:List D->Res D:=fnS 3 13 oH
abbrev oJ:Stmt:=top 19
def F_:Nat->Bool:=fun i=>false
noncomputable def GC:FS:=v_ (J5 (b1 (aG0 .bool) dY) (b2 (bL .eq) dY gM)) true
def cR:List D->Res D:=fnS 2 2 GC
abbrev sI:Stmt:=top 18
def RX:Nat->Bool:=fun i=>false
noncomputable def RZ:FS:=bT (cL false 1 cU true) (bT (RC (eQ (b2 getD dY cV) false) (tgN [2,3]) (cL false 1 (b2 (aU .add) (b2 (aU .add) gM (aL ZK (aC (b2 (bL .eq) (b2 getD gD cU) cU) aO))) (aL ZK (aC (b2 (bL .eq) (b2 getD bQ cU) cU) aO))) true)) (v_ gM false))
def cF:List D->Res D:=fnS 1 4 RZ
abbrev eY:Stmt:=top 20
def tU:Nat->Bool:=fun i=>i==11||i==15
noncomputable def tV:FS:=bT (aC9 gM (tgN [3,4,5])) (bT (cL false 6 (b2 (aU .mod) gD (aL iD (aC bQ aO))) true) (bT (aC9 (b2 getD bQ mH) (tgN [7,8])) (bT (cL false 9 (b2 getD (b2 getD bQ cU) cU) false) (bT (cL false 10 (b2 (aU .mul) (b1 S7 (b2 (aU .mod) gD aEv)) (b2 (aU .mod) (b2 (aU .fdiv) gD aEv) (b2 (aU .pow) v8 aA3))) true) (bT (cL true 11 (ZJ aO) true) (bT (uP 4 (tg1 12) (nJ 11 (aL gP (aC (aL fL (aC (gF 19 (eQ o9 false) pM (n_) (cJ (aC (b2 getD (pU (aC (b2 getD pK cU) (aC iI aO))) (aL ZK (aC (b2 (bL .eq) (b2 getD pK cU) JZ) aO))) (aC (b2 getD pK cV) aO))) false) aO)) aO)))) (bT (cL false 13 (aL gP (aC (aL iY (aC (b2 mY dX (cJ (aC (cJ (aC (cJ (aC cU (aC (aL (dI 1 cF) (aC gM aO)) aO))) (aC (cJ (aC nQ (aC (b2 (aU .add) (b2 getD dY tB) cV) aO))) aO))) aO))) aO)) aO)) false) (bT (cL false 14 (aL gP (aC (aL iY (aC (b2 mY dX (cJ (aC (cJ (aC (cJ (aC cU (aC (aL (dI 1 cF) (aC gM aO)) aO))) (aC (cJ (aC (b2 (aU .add) (b2 getD (b2 getD bQ (b1 S7 cV)) cU) cV) (aC cU aO))) aO))) aO))) aO)) aO)) false) (bT (cL true 15 (pU (aC (cJ (aC (b2 mY (b2 mY (lC bQ (fH) (dH mH)) (cJ (aC (b2 getD bQ mH) aO))) (lC bQ (dH mH) (fH))) (aC dX (aC fK aO)))) aO)) true) (bT (cL true 15 (b2 (aU .add) (jX 15) (pU (aC (cJ (aC bQ (aC iW (aC fK aO)))) (aC (cJ (aC bQ (aC (jX 14) (aC fK aO)))) aO)))) true) (bT (RC (eQ (pU (aC (cJ (aC nQ (aC (b1 S7 cV) aO))) (aC (cJ (aC (b1 S7 nQ) (aC cU aO))) aO))) true) (tg1 16) (bT (cL false 12 (cJ (aC (aL (cP .lt) (aC (jX 16) (aC (cJ (aC cU (aC (aL (dI 1 cF) (aC gM aO)) aO))) aO))) (aC (aL (cP .gt) (aC (jX 16) (aC (cJ (aC cU (aC (aL (dI 1 cF) (aC gM aO)) aO))) aO))) aO))) false) (nJ 15 (cJ (aC bQ (aC (aL gP (aC (aL iY (aC (b2 mY dX (cJ (aC o9 aO))) aO)) aO)) (aC fK aO))))))) (bT (cL false 17 (XJ 19 0 pM (bTB (b2 (bL .ne) pK tB)) pK) true) (bT (cL false 18 (aL gP (aC (aL fL (aC (pU (aC (cJ (aC nQ (aC tB aO))) (aC (cJ (aC nQ (aC (b2 getD (jX 17) (b2 (aU .mod) (b2 (aU .fdiv) gD aDe) (aL iD (aC (jX 17) aO)))) aO))) aO))) aO)) aO)) false) (bT (nJ 15 (cJ (aC (b2 mY (b2 mY (lC bQ (fH) (dH mH)) (jX 18)) (lC bQ (dH (b2 (aU .add) mH cV)) (fH))) (aC dX (aC fK aO))))) (bT (nJ 15 (cJ (aC (b2 mY (cJ (aC (cJ (aC iI (aC (b2 getD (b2 getD bQ cU) cV) aO))) aO)) (lC bQ (dH cV) (fH))) (aC (aL gP (aC (aL fL (aC nO aO)) aO)) (aC fK aO))))) (bT (sIf (bTB (b2 (bL (.ord .gt)) mH cU)) (nJ 15 (cJ (aC (b2 mY (b2 mY (lC bQ (fH) (dH (b2 (aU .sub) mH cV))) (cJ (aC (b2 getD bQ mH) (aC (b2 getD bQ (b2 (aU .sub) mH cV)) aO)))) (lC bQ (dH (b2 (aU .add) mH cV)) (fH))) (aC dX (aC fK aO))))) (iT)) (CZ 15)))))))))))))))))
def eZ:List D->Res D:=fnS 3 19 tV
abbrev gW:Stmt:=top 21
def wD:Nat->Bool:=fun i=>i==6||i==11
noncomputable def wF:FS:=bT (cL false 2 (b2 (aU .mod) gM (aL iD (aC (b2 getD dY cV) aO))) true) (bT (aC9 (b2 getD (b2 getD dY cV) gD) (tgN [3,4])) (bT (cL false 5 (b2 (aU .add) (aL v9 (aC (lC (b2 getD dY cV) (fH) (dH gD)) aO)) (aL v9 (aC (lC (b2 getD dY cV) (dH (b2 (aU .add) gD cV)) (fH)) aO))) true) (bT (cL true 6 (ZJ aO) true) (bT (RC (eQ (b2 getD dY cV) false) (tg1 7) (aHr 6 (aL v9 (aC nQ aO)))) (bT (cL false 8 (gF 13 (eQ mH false) pM (bTB (b2 (bL .ne) iW dX)) iW false) true) (bT (cL false 9 (gF 13 (eQ mH false) pM (bTB (b2 (bL .ne) iW bQ)) iW false) true) (bT (cL false 10 (b2 (aU .fdiv) gM (aL iD (aC (b2 getD dY cV) aO))) true) (bT (cL true 11 (ZJ aO) true) (bT (RC (eQ (pU (aC (cJ (aC bQ (aC (b2 getD tB (b2 (aU .mod) iI (aL iD (aC tB aO)))) aO))) (aC (cJ (aC (b2 getD JZ (b2 (aU .mod) (b2 (aU .fdiv) iI v5) (aL iD (aC JZ aO)))) (aC dX aO))) aO))) true) (tg1 12) (nJ 11 (cJ (aC (b2 getD dY cU) (aC (aL gP (aC (aL fL (aC (b2 (aU .add) fK (pU (aC (cJ (aC (aL (cP .lt) (aC o9 aO)) (aC (aL (cP .gt) (aC o9 aO)) aO))) aO))) aO)) aO)) (aC (b2 getD dY v5) aO)))))) (CZ 11))))))))))
def gY:List D->Res D:=fnS 2 13 wF
abbrev m_:Stmt:=top 9
def K7:Nat->Bool:=fun i=>false
noncomputable def K8:FS:=v_ (aL iD (aC (gF 1 (eQ dY false) pM (bTB (b2 (bL .eq) (b2 getD gM cU) cU)) gM false) aO)) true
def h_:List D->Res D:=fnS 1 1 K8
abbrev pY:Stmt:=top 11
def K9:Nat->Bool:=fun i=>false
noncomputable def K_:FS:=bT (cL false 3 (b2 getD gD cU) false) (bT (sIf (bTB (b2 (bL .eq) bQ cU)) (v_ (bCh (bL (.ord .le)) (bL (.ord .lt)) cU (b2 getD gD cV) gM) true) (iT)) (v_ (J5 (b2 (bL .isin) bQ dY) (bCh (bL (.ord .le)) (bL (.ord .le)) cU (b2 getD gD cV) (b2 getD dY bQ))) true))
def dD:List D->Res D:=fnS 3 4 K_
abbrev iC:Stmt:=top 10
def tG:Nat->Bool:=fun i=>i==3
noncomputable def oK:FS:=bT (cL false 2 (aL (dI 1 h_) (aC gM aO)) true) (bT (cL true 3 (bC (.dct [])) true) (bT (uP 1 (tg1 4) (bT (sIf (bTB (b2 (bL .isin) dX bQ)) (p_) (iT)) (bT (sIf (CW (bTr (aL (dI 3 dD) (aC dY (aC gD (aC dX aO)))))) (p_) (iT)) (S8 3 dX (bC (.bl true)))))) (sIf (bTB (b2 (bL (.ord .lt)) (b2 (aU .sub) (aL iD (aC gM aO)) gD) (aL K3 (aC (RW 0 5 (b2 (aU .add) fK cV)) aO)))) (p_) (iT))))
def jL:List D->Res D:=fnS 2 5 oK
noncomputable def kI:FR:=zR (cL false 2 (aL (dI 1 h_) (aC gM aO)) true) (zR (cL true 3 (bC (.dct [])) true) (rOr (zU 1 (tg1 4) (bT (sIf (bTB (b2 (bL .isin) dX bQ)) (p_) (iT)) (bT (sIf (CW (bTr (aL (dI 3 dD) (aC dY (aC gD (aC dX aO)))))) (p_) (iT)) (S8 3 dX (bC (.bl true))))) (rOr (rIf (bTB (b2 (bL .isin) dX bQ))) (zR (sIf (bTB (b2 (bL .isin) dX bQ)) (p_) (iT)) (rIf (CW (bTr (aL (dI 3 dD) (aC dY (aC gD (aC dX aO)))))))))) (zR (uP 1 (tg1 4) (bT (sIf (bTB (b2 (bL .isin) dX bQ)) (p_) (iT)) (bT (sIf (CW (bTr (aL (dI 3 dD) (aC dY (aC gD (aC dX aO)))))) (p_) (iT)) (S8 3 dX (bC (.bl true)))))) (rIf (bTB (b2 (bL (.ord .lt)) (b2 (aU .sub) (aL iD (aC gM aO)) gD) (aL K3 (aC (RW 0 5 (b2 (aU .add) fK cV)) aO))))))))
def jM:List D->Bool:=rfn 2 5 kI
abbrev o8:Stmt:=top 6
def R0:Nat->Bool:=fun i=>false
noncomputable def R1:FS:=bT (cL false 3 (gF 4 (eQ gM false) (aG1 2) (n_) (cJ (aC (aL (cP .lt) (aC dX (aC fK aO))) (aC (aL (cP .gt) (aC dX (aC fK aO))) aO))) false) true) (v_ (cJ (aC (aL gP (aC (aL iY (aC dY aO)) aO)) (aC (aL gP (aC (aL fL (aC bQ aO)) aO)) (aC gD aO)))) false)
def l_:List D->Res D:=fnS 3 4 R1
abbrev fY:Stmt:=top 7
def mD:Nat->Bool:=fun i=>i==2
noncomputable def sJ:FS:=bT (cL true 2 (bC (.dct [])) true) (bT (uP 1 (tgN [3,4]) (bT (sIf (bTB (b2 (bL (.ord .lt)) bQ cV)) (p_) (iT)) (bT (sIf (bTB (b2 (bL .isin) bQ gD)) (p_) (iT)) (bT (sIf (bTB (b2 (bL .notin) dX dY)) (p_) (iT)) (S8 2 bQ (b2 getD dY dX)))))) (CZ 2))
def cO:List D->Res D:=fnS 2 5 sJ
noncomputable def iZ:FR:=zR (cL true 2 (bC (.dct [])) true) (zU 1 (tgN [3,4]) (bT (sIf (bTB (b2 (bL (.ord .lt)) bQ cV)) (p_) (iT)) (bT (sIf (bTB (b2 (bL .isin) bQ gD)) (p_) (iT)) (bT (sIf (bTB (b2 (bL .notin) dX dY)) (p_) (iT)) (S8 2 bQ (b2 getD dY dX))))) (rOr (rIf (bTB (b2 (bL (.ord .lt)) bQ cV))) (zR (sIf (bTB (b2 (bL (.ord .lt)) bQ cV)) (p_) (iT)) (rOr (rIf (bTB (b2 (bL .isin) bQ gD))) (zR (sIf (bTB (b2 (bL .isin) bQ gD)) (p_) (iT)) (rIf (bTB (b2 (bL .notin) dX dY))))))))
def c7:List D->Bool:=rfn 2 5 iZ
abbrev vG:Stmt:=top 8
def XX:Nat->Bool:=fun i=>i==1
noncomputable def X3:FS:=bT (cL true 1 (ZJ aO) true) (bT (uP 0 (tgN [2,3]) (bT (nJ 1 gD) (nJ 1 bQ))) (CZ 1))
def j6:List D->Res D:=fnS 1 4 X3
abbrev vH:Stmt:=top 4
def aCf:Nat->Bool:=fun i=>false
noncomputable def aCg:FS:=bT (sIf (bTB (b2 (bL (.ord .lt)) bQ cU)) (p_) (iT)) (bT (aA4 (aL (dI 2 jL) (aC (aL (dI 2 cO) (aC dY (aC gM aO))) (aC (aL (dI 1 j6) (aC gD aO)) aO)))) (v_ (aL (dI 3 l_) (aC gM (aC gD (aC bQ aO)))) true))
def GD:List D->Res D:=fnS 4 4 aCg
noncomputable def X4:FR:=rOr (rIf (bTB (b2 (bL (.ord .lt)) bQ cU))) (zR (sIf (bTB (b2 (bL (.ord .lt)) bQ cU)) (p_) (iT)) (rOr (vB (c7) (aC dY (aC gM aO))) (vB (jM) (aC (aL (dI 2 cO) (aC dY (aC gM aO))) (aC (aL (dI 1 j6) (aC gD aO)) aO)))))
def GF:List D->Bool:=rfn 4 4 X4
abbrev zW:Stmt:=top 5
def aB0:Nat->Bool:=fun i=>false
noncomputable def aB1:FS:=xO GF GD 4 (aC dY (aC (b2 getD gM cU) (aC (b2 getD gM cV) (aC (b2 getD gM v5) aO)))) gM
def eG:List D->Res D:=fnS 2 2 aB1
abbrev jB:Stmt:=top 22
def wG:Nat->Bool:=fun i=>i==8
noncomputable def wH:FS:=bT (aC9 dY (tgN [2,3,4])) (bT (cL false 5 (b2 (aU .mod) gM (aL iD (aC bQ aO))) true) (bT (aC9 (b2 getD bQ fK) (tgN [6,7])) (bT (cL true 8 (pU (aC (cJ (aC gD (aC (b2 mY (b2 mY (lC bQ (fH) (dH fK)) (cJ (aC (cJ (aC nQ (aC mH aO))) aO))) (lC bQ (dH (b2 (aU .add) fK cV)) (fH))) (aC dX aO)))) aO)) true) (bT (nJ 8 (cJ (aC gD (aC (b2 mY (b2 mY (lC bQ (fH) (dH fK)) (cJ (aC (b2 getD bQ fK) aO))) (lC bQ (dH fK) (fH))) (aC dX aO))))) (bT (sIf (bTB (b2 (bL (.ord .gt)) (b2 getD nQ cU) cU)) (nJ 8 (cJ (aC gD (aC (b2 mY (lC bQ (fH) (dH fK)) (lC bQ (dH (b2 (aU .add) fK cV)) (fH))) (aC dX aO))))) (iT)) (bT (sIf (bTB (b2 (bL .eq) (b2 getD mH cU) cU)) (bT (cL false 9 (b2 mY (b2 mY (lC bQ (fH) (dH fK)) (cJ (aC (cJ (aC (cJ (aC cU (aC (aL (dI 1 cF) (aC dY aO)) aO))) (aC nQ aO))) aO))) (lC bQ (dH (b2 (aU .add) fK cV)) (fH))) false) (bT (nJ 8 (cJ (aC gD (aC (aL gP (aC (aL fL (aC (gF 10 (eQ JZ false) pM (n_) (cJ (aC (aL (cP .lt) (aC iI aO)) (aC (aL (cP .gt) (aC iI aO)) aO))) false) aO)) aO)) (aC dX aO))))) (nJ 8 (cJ (aC gD (aC (aL gP (aC (aL iY (aC (b2 mY (b2 mY (lC bQ (fH) (dH fK)) (cJ (aC (cJ (aC (cJ (aC cU (aC (b1 S7 cV) aO))) (aC nQ aO))) aO))) (lC bQ (dH (b2 (aU .add) fK cV)) (fH))) aO)) aO)) (aC dX aO))))))) (iT)) (bT (sIf (bTB (b2 (bL (.ord .gt)) fK cU)) (nJ 8 (cJ (aC gD (aC (b2 mY (b2 mY (lC bQ (fH) (dH (b2 (aU .sub) fK cV))) (cJ (aC (b2 getD bQ fK) (aC (b2 getD bQ (b2 (aU .sub) fK cV)) aO)))) (lC bQ (dH (b2 (aU .add) fK cV)) (fH))) (aC dX aO))))) (iT)) (CZ 8))))))))
def gZ:List D->Res D:=fnS 2 10 wH
abbrev zX:Stmt:=top 23
def o_law:Nat->Bool:=fun i=>i==5
noncomputable def aGz:FS:=bT (cL false 1 (aL (dI 2 fB) (aC dY (aC cV aO))) true) (bT (cL false 2 (aL (dI 2 jK) (aC (aL (dI 2 fB) (aC dY (aC cU aO))) (aC gM aO))) true) (bT (cL false 3 (aL (dI 3 kE) (aC gD (aC (lC dY (dH v5) (dH (bC (.int 66)))) (aC (aL (dI 2 fB) (aC dY (aC cU aO))) aO)))) true) (bT (sIf (bOr (CW (bTr (aL (dI 2 cR) (aC (aL (dI 2 eG) (aC (aL vC (aC gD aO)) (aC bQ aO))) (aC (bC (.bl true)) aO))))) (CW (bTr (aL (dI 2 cR) (aC (aL (dI 2 eG) (aC (bC (.dct [])) (aC (cJ (aC (cJ aO) (aC (cJ aO) (aC (b2 getD bQ v5) aO)))) aO))) (aC (bC (.bl true)) aO)))))) (v_ (bC (.bl false)) true) (iT)) (bT (cL false 4 (pU (aC (cJ (aC (b2 getD bQ cU) (aC (b2 getD bQ cV) (aC (b2 (aU .sub) (b1 S7 cV) (b2 (aU .mul) (b2 (aU .mod) gM aEv) (b2 (aU .mod) (b2 (aU .fdiv) gM aEv) (b2 (aU .pow) v8 aA3)))) aO)))) aO)) true) (bT (sIf (bTB (b2 (bL (.ord .gt)) (aL iD (aC (b2 getD bQ cU) aO)) cU)) (bT (cL false 4 (b2 (aU .add) dX (aL (dI 3 eZ) (aC gD (aC bQ (aC gM aO))))) true) (bT (cL true 5 (aL vC (aC gD aO)) true) (bT (aAy 5 (b2 getD (b2 getD (b2 getD bQ cU) (b2 (aU .mod) gM (aL iD (aC (b2 getD bQ cU) aO)))) cV)) (sIf (CW (bTr (aL (dI 2 cR) (aC (aL (dI 2 eG) (aC fK (aC bQ aO))) (aC (bC (.bl false)) aO))))) (v_ (bC (.bl false)) true) (iT))))) (iT)) (bT (sIf (bTB (b2 (bL (.ord .gt)) (aL iD (aC (b2 getD bQ cV) aO)) cU)) (cL false 4 (b2 (aU .add) (b2 (aU .add) dX (aL (dI 2 gZ) (aC bQ (aC (b2 (aU .fdiv) gM v5) aO)))) (aL (dI 2 gY) (aC bQ (aC gM aO)))) true) (iT)) (bT (uP 4 (tg1 6) (sIf (bOr (CW (bTr (aL (dI 2 cR) (aC (aL (dI 2 eG) (aC (aL vC (aC gD aO)) (aC mH aO))) (aC (bC (.bl false)) aO))))) (CW (bTr (aL (dI 2 cR) (aC (aL (dI 2 eG) (aC (aL vC (aC gD aO)) (aC bQ aO))) (aC (bC (.bl true)) aO)))))) (v_ (bC (.bl false)) true) (iT))) (v_ (bC (.bl true)) true))))))))
def R3:List D->Res D:=fnS 1 7 aGz
abbrev pG:List Str:=["script", "k"]
noncomputable abbrev tH:List Str:=["cell", "sides", "letters", "size", "at", "stock", "k", "name", "j", "step"]
noncomputable abbrev rA:List Str:=["loose", "bare", "seed", "spots", "k", "ties", "pair"]
abbrev nA:List Str:=["loose", "more", "one", "rest", "other"]
noncomputable abbrev d9:List Str:=["stock", "cells", "seed", "names", "pieces", "loose", "ties", "number", "bare", "rings", "cell", "more", "some"]
abbrev tK:List Str:=["found", "due"]
abbrev xQ:List Str:=["net", "many", "one", "other"]
noncomputable abbrev dJ:List Str:=["stock", "net", "cell", "pieces", "ties", "rings", "at", "number", "name", "first", "low", "moved", "tie", "more", "strange", "faults", "end", "others", "pair"]
noncomputable abbrev fC:List Str:=["net", "cell", "at", "one", "other", "rest", "ends", "tie", "first", "second", "more", "found", "pair"]
abbrev nC:List Str:=["ends"]
abbrev vI:List Str:=["sides", "bound", "end", "number"]
abbrev fU:List Str:=["sides", "ends", "bound", "seen", "end"]
abbrev mF:List Str:=["pieces", "ties", "rings", "rows"]
abbrev i_:List Str:=["stock", "pieces", "sides", "number", "name"]
abbrev GJ:List Str:=["ties", "ends", "one", "other"]
abbrev X5:List Str:=["stock", "pieces", "ties", "rings"]
abbrev PN:List Str:=["stock", "net"]
noncomputable abbrev jC:List Str:=["net", "cell", "pieces", "ties", "rings", "at", "one", "other", "faults", "behind"]
noncomputable abbrev aH0:List Str:=["script", "cell", "stock", "net", "faults", "fewer", "fault"]
theorem vJ:cN pG ["script", "k"] (aQ lA):=by refine ⟨rfl,rfl,rfl,?_,rfl,?_,?_⟩ <;> decide +kernel
theorem zY:cN tH ["cell", "sides"] (aQ oF):=by refine ⟨rfl,rfl,rfl,?_,rfl,?_,?_⟩ <;> decide +kernel
theorem wI:cN rA ["loose", "bare", "seed"] (aQ mZ):=by refine ⟨rfl,rfl,rfl,?_,rfl,?_,?_⟩ <;> decide +kernel
theorem GK:cN nA ["loose", "more"] (aQ m9):=by refine ⟨rfl,rfl,rfl,?_,rfl,?_,?_⟩ <;> decide +kernel
theorem zZ:cN d9 ["stock", "cells", "seed"] (aQ iB):=by refine ⟨rfl,rfl,rfl,?_,rfl,?_,?_⟩ <;> decide +kernel
theorem z6:cN tK ["found", "due"] (aQ oJ):=by refine ⟨rfl,rfl,rfl,?_,rfl,?_,?_⟩ <;> decide +kernel
theorem LC:cN xQ ["net"] (aQ sI):=by refine ⟨rfl,rfl,rfl,?_,rfl,?_,?_⟩ <;> decide +kernel
theorem sO:cN dJ ["stock", "net", "cell"] (aQ eY):=by refine ⟨rfl,rfl,rfl,?_,rfl,?_,?_⟩ <;> decide +kernel
theorem vK:cN fC ["net", "cell"] (aQ gW):=by refine ⟨rfl,rfl,rfl,?_,rfl,?_,?_⟩ <;> decide +kernel
theorem GP:cN nC ["ends"] (aQ m_):=by refine ⟨rfl,rfl,rfl,?_,rfl,?_,?_⟩ <;> decide +kernel
theorem GQ:cN vI ["sides", "bound", "end"] (aQ pY):=by refine ⟨rfl,rfl,rfl,?_,rfl,?_,?_⟩ <;> decide +kernel
theorem rB:cN fU ["sides", "ends"] (aQ iC):=by refine ⟨rfl,rfl,rfl,?_,rfl,?_,?_⟩ <;> decide +kernel
theorem LK:cN mF ["pieces", "ties", "rings"] (aQ o8):=by refine ⟨rfl,rfl,rfl,?_,rfl,?_,?_⟩ <;> decide +kernel
theorem kJ:cN i_ ["stock", "pieces"] (aQ fY):=by refine ⟨rfl,rfl,rfl,?_,rfl,?_,?_⟩ <;> decide +kernel
theorem R4:cN GJ ["ties"] (aQ vG):=by refine ⟨rfl,rfl,rfl,?_,rfl,?_,?_⟩ <;> decide +kernel
theorem X6:cN X5 ["stock", "pieces", "ties", "rings"] (aQ vH):=by refine ⟨rfl,rfl,rfl,?_,rfl,?_,?_⟩ <;> decide +kernel
theorem X7:cN PN ["stock", "net"] (aQ zW):=by refine ⟨rfl,rfl,rfl,?_,rfl,?_,?_⟩ <;> decide +kernel
theorem vL:cN jC ["net", "cell"] (aQ jB):=by refine ⟨rfl,rfl,rfl,?_,rfl,?_,?_⟩ <;> decide +kernel
theorem aH1:cN aH0 ["script"] (aQ zX):=by refine ⟨rfl,rfl,rfl,?_,rfl,?_,?_⟩ <;> decide +kernel
section
variable [KFrag] {P:Program} {w:World} {K:Frag} {mg:Str->Option Value} {base:Heap} {fad C:Addr} {fd:FuncData} (hK:KFrag.K=K) (B:Bt mg) 
include hK B
theorem tW  (F:Fun K "_law_cell_at" "_law_cell_at" lA fad fd) (hm:mg "_law_cell_at" = some (.ref fad)):dF P w K mg base 1 "_law_cell_at" 2 fB:=by
 have sc:=vJ;refine jH (ps:=["script", "k"]) (N:=pG) (k:=0) F hm (F.binds fun _ _ _ _ _ _ us hl=>match us,hl with|[_,_],_=>rfl) sc wC (by decide) (by decide) fun cdv A outer s H E hr=>?_
 have hu:=v6 hr;exact aG (fM (bZ (qU hu) (aB (i:=1)) (aV (dZ hK) (by rfl) B.len d8 (aA (aB (i:=0)) (aF))) (cQ _)) (aP (jQ (bW (bY hK hu) (aB (i:=0)) (aB (i:=1)) (fun _ _=>rfl)))) (b8)) (aP (jQ (aJ)))
theorem wJ  (F:Fun K "_law_stock" "_law_stock" oF fad fd) (hm:mg "_law_stock" = some (.ref fad)):dF P w K mg base 1 "_law_stock" 2 jK:=by
 have sc:=zY;refine jH (ps:=["cell", "sides"]) (N:=tH) (k:=0) F hm (F.binds fun _ _ _ _ _ _ us hl=>match us,hl with|[_,_],_=>rfl) sc FQ (by decide) (by decide) fun cdv A outer s H E hr=>?_
 have hu:=v6 hr;exact aG (bG (i:=2) (o:=false) rfl sc.nd rfl (by trivial) (aBz)) (aG (bG (i:=3) (o:=false) rfl sc.nd rfl (by trivial) (aX cD (aJ) (aX dN (aB (i:=0)) (aJ)))) (aG (bG (i:=4) (o:=false) rfl sc.nd rfl (by trivial) (aX dN (aX gH (aB (i:=0)) (aJ)) (aB (i:=3)))) (aG (bG (i:=5) (o:=true) rfl sc.nd rfl (by trivial) (oZ)) (aG (qY PassesOwn.never rfl (sE (by rfl) B.range (aA (aX cD (aJ) (aX dN (aX gH (aB (i:=0)) (aJ)) (aJ))) (aF))) (iJ (i:=6) rfl) (bA (i:=6) sc.nd rfl (by trivial)) (aG (bG (i:=7) (o:=false) rfl sc.nd rfl (by trivial) (aBz)) (aG (qY PassesOwn.never rfl (sE (by rfl) B.range (aA (aB (i:=3)) (aF))) (iJ (i:=8) rfl) (bA (i:=8) sc.nd rfl (by trivial)) (aG (bG (i:=9) (o:=false) rfl sc.nd rfl (by trivial) (aX qT (aX dN (aX gH (aB (i:=0)) (aJ)) (aJ)) (aX cD (aB (i:=8)) (aJ)))) (aG (fM (bZ (rZ hu) (aB (i:=8)) (aB (i:=4)) (cQ _)) (aP (bG (i:=9) (o:=false) rfl sc.nd rfl (by trivial) (aJ))) (b8)) (aP (bG (i:=7) (o:=false) rfl sc.nd rfl (by trivial) (aX cD (aB (i:=7)) (bW (bY hK hu) (aB (i:=2)) (aX dN (aX cD (aX gH (aX gH (aB (i:=0)) (aJ)) (aX cD (aX qT (aB (i:=8)) (aB (i:=8))) (aJ))) (aX qT (aB (i:=6)) (aB (i:=9)))) (aJ)) (fun _ _=>rfl)))))))) (aG (xH (i:=5) hu rfl rfl (by trivial) (aB (i:=7)) (aX dN (aB (i:=1)) (aJ))) (aP (bG (i:=1) (o:=false) rfl sc.nd rfl (by trivial) (aX gH (aB (i:=1)) (aJ)))))))) (aP (pO (i:=5) rfl rfl (by trivial)))))))
theorem vM  (F:Fun K "_law_rimmed" "_law_rimmed" mZ fad fd) (hm:mg "_law_rimmed" = some (.ref fad)):dF P w K mg base 1 "_law_rimmed" 3 iK:=by
 have sc:=wI;refine jH (ps:=["loose", "bare", "seed"]) (N:=rA) (k:=0) F hm (F.binds fun _ _ _ _ _ _ us hl=>match us,hl with|[_,_,_],_=>rfl) sc zV (by decide) (by decide) fun cdv A outer s H E hr=>?_
 have hu:=v6 hr;exact aG (bG (i:=3) (o:=true) rfl sc.nd rfl (by trivial) (qQ (aF))) (aG (qY PassesOwn.never rfl (sE (by rfl) B.range (aA (aX cD (aV (dZ hK) (by rfl) B.len d8 (aA (aB (i:=0)) (aF))) (aX qT (aJ) (aB (i:=1)))) (aF))) (iJ (i:=4) rfl) (bA (i:=4) sc.nd rfl (by trivial)) (aP (aGk (i:=3) rfl rfl (by trivial) (aX dN (aX cD (aX gH (aB (i:=2)) (aX cD (aB (i:=4)) (aJ))) (aX qT (aB (i:=4)) (aB (i:=4)))) (aX cD (aB (i:=4)) (aJ))) (aB (i:=4))))) (aG (bG (i:=5) (o:=true) rfl sc.nd rfl (by trivial) (qQ (aF))) (aG (qY PassesOwn.never rfl (sE (by rfl) B.range (aA (aV (dZ hK) (by rfl) B.len d8 (aA (aB (i:=0)) (aF))) (aF))) (iJ (i:=4) rfl) (bA (i:=4) sc.nd rfl (by trivial)) (aP (jG (i:=5) rfl rfl (by trivial) (bD (aA (bD (aA (aJ) (aA (bW (bY hK hu) (aB (i:=3)) (aB (i:=4)) (fun _ _=>rfl)) (aF)))) (aA (bW (bY hK hu) (aB (i:=0)) (aB (i:=4)) (fun _ _=>rfl)) (aF))))))) (aG (qY PassesOwn.never rfl (sE (by rfl) B.range (aA (aB (i:=1)) (aF))) (iJ (i:=4) rfl) (bA (i:=4) sc.nd rfl (by trivial)) (aG (bG (i:=6) (o:=false) rfl sc.nd rfl (by trivial) (fP hK (aB (i:=3)) (cW (aX cD (aV (dZ hK) (by rfl) B.len d8 (aA (aB (i:=0)) (aF))) (aX qT (aJ) (aB (i:=4))))) (cW (aX cD (aX cD (aV (dZ hK) (by rfl) B.len d8 (aA (aB (i:=0)) (aF))) (aX qT (aJ) (aB (i:=4)))) (aJ))))) (aP (jG (i:=5) rfl rfl (by trivial) (bD (aA (bD (aA (aJ) (aA (aV (wY hu (by rfl)) (by rfl) B.min xJ (aA (aB (i:=6)) (aF))) (aF)))) (aA (bD (aA (aJ) (aA (aV (wZ hu (by rfl)) (by rfl) B.max xK (aA (aB (i:=6)) (aF))) (aF)))) (aF)))))))) (aP (pO (i:=5) rfl rfl (by trivial)))))))
theorem z7  (F:Fun K "_law_tied" "_law_tied" m9 fad fd) (hm:mg "_law_tied" = some (.ref fad)):dF P w K mg base 1 "_law_tied" 2 fQ:=by
 have sc:=GK;refine jH (ps:=["loose", "more"]) (N:=nA) (k:=0) F hm (F.binds fun _ _ _ _ _ _ us hl=>match us,hl with|[_,_],_=>rfl) sc K6 (by decide) (by decide) fun cdv A outer s H E hr=>?_
 have hu:=v6 hr;exact aG (bG (i:=2) (o:=false) rfl sc.nd rfl (by trivial) (bW (bY hK hu) (aB (i:=0)) (aX dN (aB (i:=1)) (aV (dZ hK) (by rfl) B.len d8 (aA (aB (i:=0)) (aF)))) (fun _ _=>rfl))) (aG (lO (ownN:=(["end"]:List Str)) (show dG nA (aQ m9) _ (["end"]:List Str) from by refine ⟨rfl,?_,?_,?_,?_,?_,?_⟩ <;> decide +kernel) (n:=5) (m:=1) rfl rfl rfl (lN (aB (i:=0))) (kZ 5) (fun _=>bA (i:=5) (show ((List.map (j7 (["end"]:List Str)) nA++(["end"]:List Str)):List Str).Nodup from by decide +kernel) rfl (by trivial)) (fun _=>bZ (aAb hu) (aB (i:=5)) (aB (i:=2)) (cQ _)) (fun _=>aB (i:=5)) (fun _=>rfl) (iy:=3) (o:=false) rfl sc.nd rfl (by trivial) (Or.inl rfl) (by with_unfolding_all rfl)) (aG (bG (i:=4) (o:=false) rfl sc.nd rfl (by trivial) (bW (bY hK hu) (aB (i:=3)) (aX dN (aX gH (aB (i:=1)) (aV (dZ hK) (by rfl) B.len d8 (aA (aB (i:=0)) (aF)))) (aV (dZ hK) (by rfl) B.len d8 (aA (aB (i:=3)) (aF)))) (fun _ _=>rfl))) (aP (jQ (bD (aA (aV (wY hu (by rfl)) (by rfl) B.min xJ (aA (aB (i:=2)) (aA (aB (i:=4)) (aF)))) (aA (aV (wZ hu (by rfl)) (by rfl) B.max xK (aA (aB (i:=2)) (aA (aB (i:=4)) (aF)))) (aF))))))))
theorem wK (c__law_tied:dF P w K mg base 1 "_law_tied" 2 fQ) (c__law_rimmed:dF P w K mg base 1 "_law_rimmed" 3 iK) (F:Fun K "_law_grown" "_law_grown" iB fad fd) (hm:mg "_law_grown" = some (.ref fad)):dF P w K mg base 2 "_law_grown" 3 kE:=by
 have sc:=zZ;refine jH (ps:=["stock", "cells", "seed"]) (N:=d9) (k:=1) F hm (F.binds fun _ _ _ _ _ _ us hl=>match us,hl with|[_,_,_],_=>rfl) sc FW (by decide) (by decide) fun cdv A outer s H E hr=>?_
 have hu:=v6 hr
 exact aG (bG (i:=3) (o:=false) rfl sc.nd rfl (by trivial) (bR (zG (by rfl)) (by rfl) B.list zO (aA (aB (i:=0)) (aF)))) (aG (bG (i:=4) (o:=true) rfl sc.nd rfl (by trivial) (qQ (aF))) (aG (bG (i:=5) (o:=false) rfl sc.nd rfl (by trivial) (qQ (aF))) (aG (bG (i:=6) (o:=true) rfl sc.nd rfl (by trivial) (qQ (aF))) (aG (bG (i:=7) (o:=false) rfl sc.nd rfl (by trivial) (aJ)) (aG (bG (i:=8) (o:=false) rfl sc.nd rfl (by trivial) (aJ)) (aG (bG (i:=9) (o:=false) rfl sc.nd rfl (by trivial) (aJ)) (aG (pP (i:=1) rfl PassesOwn.never rfl rfl (by trivial) (iJ (i:=10) rfl) (bA (i:=10) sc.nd rfl (by trivial)) (aG (bG (i:=11) (o:=false) rfl sc.nd rfl (by trivial) (aX gH (aB (i:=10)) (aJ))) (aG (aIj (i:=12) (j:=5) rfl rfl sc.nd rfl (by trivial) rfl (by trivial)) (aG (fM (bZ (rZ hu) (aX dN (aB (i:=10)) (aJ)) (aJ) (cQ _)) (aP (lO (ownN:=(["end"]:List Str)) (show dG d9 (aQ iB) _ (["end"]:List Str) from by refine ⟨rfl,?_,?_,?_,?_,?_,?_⟩ <;> decide +kernel) (n:=13) (m:=1) rfl rfl rfl (lN (aB (i:=5))) (kZ 13) (fun _=>bA (i:=13) (show ((List.map (j7 (["end"]:List Str)) d9++(["end"]:List Str)):List Str).Nodup from by decide +kernel) rfl (by trivial)) (fun _=>bZ (rZ hu) (bW (bY hK hu) (aB (i:=13)) (aJ) (fun _ _=>rfl)) (aJ) (cQ _)) (fun _=>aB (i:=13)) (fun _=>rfl) (iy:=12) (o:=false) rfl sc.nd rfl (by trivial) (Or.inl rfl) (by with_unfolding_all rfl))) (b8)) (aP (fM (PW.pt (aC4 (bZ (qU hu) (aX dN (aB (i:=10)) (aJ)) (aJ) (cQ _)) (V9 (bZ (qU hu) (aV (dZ hK) (by rfl) B.len d8 (aA (aB (i:=4)) (aF))) (aJ) (cQ _))))) (aG (bG (i:=7) (o:=false) rfl sc.nd rfl (by trivial) (aX cD (aX cD (aB (i:=7)) (aJ)) (aX dN (aX gH (aB (i:=11)) (aV (dZ hK) (by rfl) B.len d8 (aA (aB (i:=3)) (aF)))) (aX OD (aJ) (aJ))))) (aG (jG (i:=4) rfl rfl (by trivial) (bD (aA (aB (i:=7)) (aA (bW (bY hK hu) (aB (i:=3)) (aX dN (aB (i:=11)) (aV (dZ hK) (by rfl) B.len d8 (aA (aB (i:=3)) (aF)))) (fun _ _=>rfl)) (aF))))) (aP (bG (i:=5) (o:=false) rfl sc.nd rfl (by trivial) (aX cD (aB (i:=5)) (zM (ownN:=(["hook"]:List Str)) (show dG d9 (aQ iB) _ (["hook"]:List Str) from by refine ⟨rfl,?_,?_,?_,?_,?_,?_⟩ <;> decide +kernel) (n:=13) (m:=1) rfl rfl rfl (sE (by rfl) B.range (aA (aX cD (bW (bY hK hu) (aB (i:=0)) (bW (bY hK hu) (aB (i:=3)) (aX dN (aB (i:=11)) (aV (dZ hK) (by rfl) B.len d8 (aA (aB (i:=3)) (aF)))) (fun _ _=>rfl)) (fun _ _=>rfl)) (aJ)) (aF))) (kZ 13) (fun _=>bA (i:=13) (show ((List.map (j7 (["hook"]:List Str)) d9++(["hook"]:List Str)):List Str).Nodup from by decide +kernel) rfl (by trivial)) (fun _=>bD (aA (aB (i:=7)) (aA (aB (i:=13)) (aF)))) (fun _=>rfl))))))) (aP (fM (PW.pt (aC4 (aAa (aAc hu) (qU hu) (aJ) (aX dN (aB (i:=10)) (aJ)) (aJ)) (V9 (bZ (RP hu) (aV (dZ hK) (by rfl) B.len d8 (aA (aB (i:=12)) (aF))) (aJ) (cQ _))))) (aG (jG (i:=6) rfl rfl (by trivial) (bB c__law_tied hr (by decide) (by rfl) (aA (aB (i:=12)) (aA (aB (i:=11)) (aF))))) (aP (lO (ownN:=(["end"]:List Str)) (show dG d9 (aQ iB) _ (["end"]:List Str) from by refine ⟨rfl,?_,?_,?_,?_,?_,?_⟩ <;> decide +kernel) (n:=13) (m:=1) rfl rfl rfl (lN (aB (i:=5))) (kZ 13) (fun _=>bA (i:=13) (show ((List.map (j7 (["end"]:List Str)) d9++(["end"]:List Str)):List Str).Nodup from by decide +kernel) rfl (by trivial)) (fun _=>bZ (t7 hu) (aB (i:=13)) (bW (bY hK hu) (aB (i:=6)) (KH uU (aJ)) (fun _ _=>rfl)) (by with_unfolding_all rfl)) (fun _=>aB (i:=13)) (fun _=>rfl) (iy:=5) (o:=false) rfl sc.nd rfl (by trivial) (Or.inl rfl) (by with_unfolding_all rfl)))) (aP (fM (bZ (rZ hu) (aX dN (aB (i:=10)) (aJ)) (aJ) (cQ _)) (aP (bG (i:=8) (o:=false) rfl sc.nd rfl (by trivial) (aX cD (aB (i:=8)) (aJ)))) (aP (fM (bZ (rZ hu) (aX dN (aB (i:=10)) (aJ)) (aJ) (cQ _)) (aP (bG (i:=9) (o:=false) rfl sc.nd rfl (by trivial) (aX cD (aB (i:=9)) (aX dN (aB (i:=11)) (aX OD (aJ) (aJ)))))) (b8))))))))))))) (aG (bG (i:=6) (o:=true) rfl sc.nd rfl (by trivial) (aX cD (aB (i:=6)) (bB c__law_rimmed hr (by decide) (by rfl) (aA (aB (i:=5)) (aA (aB (i:=8)) (aA (aB (i:=2)) (aF))))))) (aP (jQ (bD (aA (bR fW (by rfl) B.tuple fX (aA (aB (i:=4)) (aF))) (aA (bR fW (by rfl) B.tuple fX (aA (aV (jV (by rfl) hu) (by rfl) B.sorted eU (aA (aB (i:=6)) (aF))) (aF))) (aA (aB (i:=9)) (aF)))))))))))))))
theorem wL  (F:Fun K "_law_truth" "_law_truth" oJ fad fd) (hm:mg "_law_truth" = some (.ref fad)):dF P w K mg base 1 "_law_truth" 2 cR:=by
 have sc:=z6;refine jH (ps:=["found", "due"]) (N:=tK) (k:=0) F hm (F.binds fun _ _ _ _ _ _ us hl=>match us,hl with|[_,_],_=>rfl) sc F_ (by decide) (by decide) fun cdv A outer s H E hr=>?_
 have hu:=v6 hr;exact aP (jQ (aC1 (aGh .bool (aB (i:=0)) (by rfl) B.isi zN (by rfl) B.bool aDw) (aC0 (wX (rZ hu) (aB (i:=0)) (aB (i:=1)) (cQ _)))))
theorem GR  (F:Fun K "_law_rim" "_law_rim" sI fad fd) (hm:mg "_law_rim" = some (.ref fad)):dF P w K mg base 1 "_law_rim" 1 cF:=by
 have sc:=LC;refine jH (ps:=["net"]) (N:=xQ) (k:=0) F hm (F.binds fun _ _ _ _ _ _ us hl=>match us,hl with|[_],_=>rfl) sc RX (by decide) (by decide) fun cdv A outer s H E hr=>?_
 have hu:=v6 hr;exact aG (bG (i:=1) (o:=false) rfl sc.nd rfl (by trivial) (aJ)) (aG (qY PassesOwn.never rfl (lN (bW (bY hK hu) (aB (i:=0)) (aJ) (fun _ _=>rfl))) (mU _ (is:=[2,3]) (by decide)) (pC rfl (cH (bA (i:=2) sc.nd rfl (by trivial)) (cH (bA (i:=3) sc.nd rfl (by trivial)) (kW)))) (aP (bG (i:=1) (o:=false) rfl sc.nd rfl (by trivial) (aX cD (aX cD (aB (i:=1)) (bR K5 (by rfl) B.int W0 (aA (wX (rZ hu) (bW (bY hK hu) (aB (i:=2)) (aJ) (fun _ _=>rfl)) (aJ) (cQ _)) (aF)))) (bR K5 (by rfl) B.int W0 (aA (wX (rZ hu) (bW (bY hK hu) (aB (i:=3)) (aJ) (fun _ _=>rfl)) (aJ) (cQ _)) (aF))))))) (aP (jQ (aB (i:=1)))))
theorem rC (c__law_rim:dF P w K mg base 1 "_law_rim" 1 cF) (F:Fun K "_law_of_pieces" "_law_of_pieces" eY fad fd) (hm:mg "_law_of_pieces" = some (.ref fad)):dF P w K mg base 2 "_law_of_pieces" 3 eZ:=by
 have sc:=sO;refine jH (ps:=["stock", "net", "cell"]) (N:=dJ) (k:=1) F hm (F.binds fun _ _ _ _ _ _ us hl=>match us,hl with|[_,_,_],_=>rfl) sc tU (by decide) (by decide) fun cdv A outer s H E hr=>?_
 have hu:=v6 hr
 exact aG (E_ (aB (i:=1)) (mU _ (is:=[3,4,5]) (by decide)) (pC rfl (cH (bA (i:=3) sc.nd rfl (by trivial)) (cH (bA (i:=4) sc.nd rfl (by trivial)) (cH (bA (i:=5) sc.nd rfl (by trivial)) (kW)))))) (aG (bG (i:=6) (o:=false) rfl sc.nd rfl (by trivial) (aX dN (aB (i:=2)) (aV (dZ hK) (by rfl) B.len d8 (aA (aB (i:=3)) (aF))))) (aG (E_ (bW (bY hK hu) (aB (i:=3)) (aB (i:=6)) (fun _ _=>rfl)) (mU _ (is:=[7,8]) (by decide)) (pC rfl (cH (bA (i:=7) sc.nd rfl (by trivial)) (cH (bA (i:=8) sc.nd rfl (by trivial)) (kW))))) (aG (bG (i:=9) (o:=false) rfl sc.nd rfl (by trivial) (bW (bY hK hu) (bW (bY hK hu) (aB (i:=3)) (aJ) (fun _ _=>rfl)) (aJ) (fun _ _=>rfl))) (aG (bG (i:=10) (o:=false) rfl sc.nd rfl (by trivial) (aX qT (KH uU (aX dN (aB (i:=2)) (aJ))) (aX dN (aX gH (aB (i:=2)) (aJ)) (aX OD (aJ) (aJ))))) (aG (bG (i:=11) (o:=true) rfl sc.nd rfl (by trivial) (qQ (aF))) (aG (pP (i:=4) rfl PassesOwn.never rfl rfl (by trivial) (iJ (i:=12) rfl) (bA (i:=12) sc.nd rfl (by trivial)) (aP (jG (i:=11) rfl rfl (by trivial) (bR fW (by rfl) B.tuple fX (aA (aV (jY hu) (by rfl) B.sorted eU (aA (zM (ownN:=(["end"]:List Str)) (show dG dJ (aQ eY) _ (["end"]:List Str) from by refine ⟨rfl,?_,?_,?_,?_,?_,?_⟩ <;> decide +kernel) (n:=19) (m:=1) rfl rfl rfl (lN (aB (i:=12))) (kZ 19) (fun _=>bA (i:=19) (show ((List.map (j7 (["end"]:List Str)) dJ++(["end"]:List Str)):List Str).Nodup from by decide +kernel) rfl (by trivial)) (fun _=>bD (aA (bW (bY hK hu) (mW (aA (bW (bY hK hu) (aB (i:=19)) (aJ) (fun _ _=>rfl)) (aA (aB (i:=10)) (aF)))) (bR K5 (by rfl) B.int W0 (aA (wX (rZ hu) (bW (bY hK hu) (aB (i:=19)) (aJ) (fun _ _=>rfl)) (aB (i:=9)) (cQ _)) (aF))) (fun _ _=>rfl)) (aA (bW (bY hK hu) (aB (i:=19)) (aJ) (fun _ _=>rfl)) (aF)))) (fun _=>rfl)) (aF))) (aF)))))) (aG (bG (i:=13) (o:=false) rfl sc.nd rfl (by trivial) (bR fW (by rfl) B.tuple fX (aA (aV (jV (by rfl) hu) (by rfl) B.sorted eU (aA (aX dU (aB (i:=4)) (bD (aA (bD (aA (bD (aA (aJ) (aA (bB c__law_rim hr (by decide) (by rfl) (aA (aB (i:=1)) (aF))) (aF)))) (aA (bD (aA (aB (i:=7)) (aA (aX cD (bW (bY hK hu) (aB (i:=0)) (aB (i:=8)) (fun _ _=>rfl)) (aJ)) (aF)))) (aF)))) (aF)))) (aF))) (aF)))) (aG (bG (i:=14) (o:=false) rfl sc.nd rfl (by trivial) (bR fW (by rfl) B.tuple fX (aA (aV (jV (by rfl) hu) (by rfl) B.sorted eU (aA (aX dU (aB (i:=4)) (bD (aA (bD (aA (bD (aA (aJ) (aA (bB c__law_rim hr (by decide) (by rfl) (aA (aB (i:=1)) (aF))) (aF)))) (aA (bD (aA (aX cD (bW (bY hK hu) (bW (bY hK hu) (aB (i:=3)) (KH uU (aJ)) (fun _ _=>rfl)) (aJ) (fun _ _=>rfl)) (aJ)) (aA (aJ) (aF)))) (aF)))) (aF)))) (aF))) (aF)))) (aG (bG (i:=15) (o:=true) rfl sc.nd rfl (by trivial) (mW (aA (bD (aA (aX dU (aX dU (fP hK (aB (i:=3)) (dR) (cW (aB (i:=6)))) (bD (aA (bW (bY hK hu) (aB (i:=3)) (aB (i:=6)) (fun _ _=>rfl)) (aF)))) (fP hK (aB (i:=3)) (cW (aB (i:=6))) (dR))) (aA (aB (i:=4)) (aA (aB (i:=5)) (aF))))) (aF)))) (aG (bG (i:=15) (o:=true) rfl sc.nd rfl (by trivial) (aX cD (aB (i:=15)) (mW (aA (bD (aA (aB (i:=3)) (aA (aB (i:=13)) (aA (aB (i:=5)) (aF))))) (aA (bD (aA (aB (i:=3)) (aA (aB (i:=14)) (aA (aB (i:=5)) (aF))))) (aF)))))) (aG (qY PassesOwn.never rfl (lN (mW (aA (bD (aA (aB (i:=7)) (aA (KH uU (aJ)) (aF)))) (aA (bD (aA (KH uU (aB (i:=7))) (aA (aJ) (aF)))) (aF))))) (iJ (i:=16) rfl) (bA (i:=16) sc.nd rfl (by trivial)) (aG (bG (i:=12) (o:=false) rfl sc.nd rfl (by trivial) (bD (aA (aV (wY hu (by rfl)) (by rfl) B.min xJ (aA (aB (i:=16)) (aA (bD (aA (aJ) (aA (bB c__law_rim hr (by decide) (by rfl) (aA (aB (i:=1)) (aF))) (aF)))) (aF)))) (aA (aV (wZ hu (by rfl)) (by rfl) B.max xK (aA (aB (i:=16)) (aA (bD (aA (aJ) (aA (bB c__law_rim hr (by decide) (by rfl) (aA (aB (i:=1)) (aF))) (aF)))) (aF)))) (aF))))) (aP (jG (i:=15) rfl rfl (by trivial) (bD (aA (aB (i:=3)) (aA (bR fW (by rfl) B.tuple fX (aA (aV (jV (by rfl) hu) (by rfl) B.sorted eU (aA (aX dU (aB (i:=4)) (bD (aA (aB (i:=12)) (aF)))) (aF))) (aF))) (aA (aB (i:=5)) (aF))))))))) (aG (aAv (show dG dJ (aQ eY) _ (["word"]:List Str) from by refine ⟨rfl,?_,?_,?_,?_,?_,?_⟩ <;> decide +kernel) (n:=19) (i:=0) rfl rfl rfl (by trivial) (fun _=>bA (i:=19) (show ((List.map (j7 (["word"]:List Str)) dJ++(["word"]:List Str)):List Str).Nodup from by decide +kernel) rfl (by trivial)) (fun _=>bZ (aAb hu) (aB (i:=19)) (aB (i:=8)) (cQ _)) (fun _=>aB (i:=19)) (fun _=>rfl) (iy:=17) (o:=false) rfl sc.nd rfl (by trivial) (Or.inl rfl) (by with_unfolding_all rfl)) (aG (bG (i:=18) (o:=false) rfl sc.nd rfl (by trivial) (bR fW (by rfl) B.tuple fX (aA (aV (jY hu) (by rfl) B.sorted eU (aA (mW (aA (bD (aA (aB (i:=7)) (aA (aB (i:=8)) (aF)))) (aA (bD (aA (aB (i:=7)) (aA (bW (bY hK hu) (aB (i:=17)) (aX dN (aX gH (aB (i:=2)) (aJ)) (aV (dZ hK) (by rfl) B.len d8 (aA (aB (i:=17)) (aF)))) (fun _ _=>rfl)) (aF)))) (aF)))) (aF))) (aF)))) (aG (jG (i:=15) rfl rfl (by trivial) (bD (aA (aX dU (aX dU (fP hK (aB (i:=3)) (dR) (cW (aB (i:=6)))) (aB (i:=18))) (fP hK (aB (i:=3)) (cW (aX cD (aB (i:=6)) (aJ))) (dR))) (aA (aB (i:=4)) (aA (aB (i:=5)) (aF)))))) (aG (jG (i:=15) rfl rfl (by trivial) (bD (aA (aX dU (bD (aA (bD (aA (aB (i:=10)) (aA (bW (bY hK hu) (bW (bY hK hu) (aB (i:=3)) (aJ) (fun _ _=>rfl)) (aJ) (fun _ _=>rfl)) (aF)))) (aF))) (fP hK (aB (i:=3)) (cW (aJ)) (dR))) (aA (bR fW (by rfl) B.tuple fX (aA (aV (jY hu) (by rfl) B.sorted eU (aA (aB (i:=11)) (aF))) (aF))) (aA (aB (i:=5)) (aF)))))) (aG (fM (bZ (RP hu) (aB (i:=6)) (aJ) (cQ _)) (aP (jG (i:=15) rfl rfl (by trivial) (bD (aA (aX dU (aX dU (fP hK (aB (i:=3)) (dR) (cW (aX uT (aB (i:=6)) (aJ)))) (bD (aA (bW (bY hK hu) (aB (i:=3)) (aB (i:=6)) (fun _ _=>rfl)) (aA (bW (bY hK hu) (aB (i:=3)) (aX uT (aB (i:=6)) (aJ)) (fun _ _=>rfl)) (aF))))) (fP hK (aB (i:=3)) (cW (aX cD (aB (i:=6)) (aJ))) (dR))) (aA (aB (i:=4)) (aA (aB (i:=5)) (aF))))))) (b8)) (aP (pO (i:=15) rfl rfl (by trivial)))))))))))))))))))
theorem tX  (F:Fun K "_law_written" "_law_written" gW fad fd) (hm:mg "_law_written" = some (.ref fad)):dF P w K mg base 1 "_law_written" 2 gY:=by
 have sc:=vK;refine jH (ps:=["net", "cell"]) (N:=fC) (k:=0) F hm (F.binds fun _ _ _ _ _ _ us hl=>match us,hl with|[_,_],_=>rfl) sc wD (by decide) (by decide) fun cdv A outer s H E hr=>?_
 have hu:=v6 hr
 exact aG (bG (i:=2) (o:=false) rfl sc.nd rfl (by trivial) (aX dN (aB (i:=1)) (aV (dZ hK) (by rfl) B.len d8 (aA (bW (bY hK hu) (aB (i:=0)) (aJ) (fun _ _=>rfl)) (aF))))) (aG (E_ (bW (bY hK hu) (bW (bY hK hu) (aB (i:=0)) (aJ) (fun _ _=>rfl)) (aB (i:=2)) (fun _ _=>rfl)) (mU _ (is:=[3,4]) (by decide)) (pC rfl (cH (bA (i:=3) sc.nd rfl (by trivial)) (cH (bA (i:=4) sc.nd rfl (by trivial)) (kW))))) (aG (bG (i:=5) (o:=false) rfl sc.nd rfl (by trivial) (aX cD (bR (zG (by rfl)) (by rfl) B.list zO (aA (fP hK (bW (bY hK hu) (aB (i:=0)) (aJ) (fun _ _=>rfl)) (dR) (cW (aB (i:=2)))) (aF))) (bR (zG (by rfl)) (by rfl) B.list zO (aA (fP hK (bW (bY hK hu) (aB (i:=0)) (aJ) (fun _ _=>rfl)) (cW (aX cD (aB (i:=2)) (aJ))) (dR)) (aF))))) (aG (bG (i:=6) (o:=true) rfl sc.nd rfl (by trivial) (qQ (aF))) (aG (qY PassesOwn.never rfl (lN (bW (bY hK hu) (aB (i:=0)) (aJ) (fun _ _=>rfl))) (iJ (i:=7) rfl) (bA (i:=7) sc.nd rfl (by trivial)) (aP (aGu (i:=6) rfl rfl (by trivial) (bR (zG (by rfl)) (by rfl) B.list zO (aA (aB (i:=7)) (aF)))))) (aG (lO (ownN:=(["end"]:List Str)) (show dG fC (aQ gW) _ (["end"]:List Str) from by refine ⟨rfl,?_,?_,?_,?_,?_,?_⟩ <;> decide +kernel) (n:=13) (m:=1) rfl rfl rfl (lN (aB (i:=6))) (kZ 13) (fun _=>bA (i:=13) (show ((List.map (j7 (["end"]:List Str)) fC++(["end"]:List Str)):List Str).Nodup from by decide +kernel) rfl (by trivial)) (fun _=>bZ (aAb hu) (aB (i:=13)) (aB (i:=4)) (cQ _)) (fun _=>aB (i:=13)) (fun _=>rfl) (iy:=8) (o:=false) rfl sc.nd rfl (by trivial) (Or.inl rfl) (by with_unfolding_all rfl)) (aG (lO (ownN:=(["end"]:List Str)) (show dG fC (aQ gW) _ (["end"]:List Str) from by refine ⟨rfl,?_,?_,?_,?_,?_,?_⟩ <;> decide +kernel) (n:=13) (m:=1) rfl rfl rfl (lN (aB (i:=6))) (kZ 13) (fun _=>bA (i:=13) (show ((List.map (j7 (["end"]:List Str)) fC++(["end"]:List Str)):List Str).Nodup from by decide +kernel) rfl (by trivial)) (fun _=>bZ (aAb hu) (aB (i:=13)) (aB (i:=3)) (cQ _)) (fun _=>aB (i:=13)) (fun _=>rfl) (iy:=9) (o:=false) rfl sc.nd rfl (by trivial) (Or.inl rfl) (by with_unfolding_all rfl)) (aG (bG (i:=10) (o:=false) rfl sc.nd rfl (by trivial) (aX gH (aB (i:=1)) (aV (dZ hK) (by rfl) B.len d8 (aA (bW (bY hK hu) (aB (i:=0)) (aJ) (fun _ _=>rfl)) (aF))))) (aG (bG (i:=11) (o:=true) rfl sc.nd rfl (by trivial) (qQ (aF))) (aG (qY PassesOwn.never rfl (lN (mW (aA (bD (aA (aB (i:=3)) (aA (bW (bY hK hu) (aB (i:=8)) (aX dN (aB (i:=10)) (aV (dZ hK) (by rfl) B.len d8 (aA (aB (i:=8)) (aF)))) (fun _ _=>rfl)) (aF)))) (aA (bD (aA (bW (bY hK hu) (aB (i:=9)) (aX dN (aX gH (aB (i:=10)) (aJ)) (aV (dZ hK) (by rfl) B.len d8 (aA (aB (i:=9)) (aF)))) (fun _ _=>rfl)) (aA (aB (i:=4)) (aF)))) (aF))))) (iJ (i:=12) rfl) (bA (i:=12) sc.nd rfl (by trivial)) (aP (jG (i:=11) rfl rfl (by trivial) (bD (aA (bW (bY hK hu) (aB (i:=0)) (aJ) (fun _ _=>rfl)) (aA (bR fW (by rfl) B.tuple fX (aA (aV (jY hu) (by rfl) B.sorted eU (aA (aX cD (aB (i:=5)) (mW (aA (bD (aA (aV (wY hu (by rfl)) (by rfl) B.min xJ (aA (aB (i:=12)) (aF))) (aA (aV (wZ hu (by rfl)) (by rfl) B.max xK (aA (aB (i:=12)) (aF))) (aF)))) (aF)))) (aF))) (aF))) (aA (bW (bY hK hu) (aB (i:=0)) (aJ) (fun _ _=>rfl)) (aF)))))))) (aP (pO (i:=11) rfl rfl (by trivial))))))))))))
theorem z8  (F:Fun K "rim_among" "rim_among" m_ fad fd) (hm:mg "rim_among" = some (.ref fad)):dF P w K mg base 1 "rim_among" 1 h_:=by
 have sc:=GP;refine jH (ps:=["ends"]) (N:=nC) (k:=0) F hm (F.binds fun _ _ _ _ _ _ us hl=>match us,hl with|[_],_=>rfl) sc K7 (by decide) (by decide) fun cdv A outer s H E hr=>?_
 have hu:=v6 hr;exact aP (jQ (aV (dZ hK) (by rfl) B.len d8 (aA (RT (ownN:=(["end"]:List Str)) (show dG nC (aQ m_) _ (["end"]:List Str) from by refine ⟨rfl,?_,?_,?_,?_,?_,?_⟩ <;> decide +kernel) (n:=1) (m:=1) rfl rfl rfl (lN (aB (i:=0))) (kZ 1) (fun _=>bA (i:=1) (show ((List.map (j7 (["end"]:List Str)) nC++(["end"]:List Str)):List Str).Nodup from by decide +kernel) rfl (by trivial)) (fun _=>bZ (rZ hu) (bW (bY hK hu) (aB (i:=1)) (aJ) (fun _ _=>rfl)) (aJ) (cQ _)) (fun _=>aB (i:=1)) (fun _=>rfl)) (aF))))
theorem z9  (F:Fun K "has_place" "has_place" pY fad fd) (hm:mg "has_place" = some (.ref fad)):dF P w K mg base 1 "has_place" 3 dD:=by
 have sc:=GQ;refine jH (ps:=["sides", "bound", "end"]) (N:=vI) (k:=0) F hm (F.binds fun _ _ _ _ _ _ us hl=>match us,hl with|[_,_,_],_=>rfl) sc K9 (by decide) (by decide) fun cdv A outer s H E hr=>?_
 have hu:=v6 hr;exact aG (bG (i:=3) (o:=false) rfl sc.nd rfl (by trivial) (bW (bY hK hu) (aB (i:=2)) (aJ) (fun _ _=>rfl))) (aG (fM (bZ (rZ hu) (aB (i:=3)) (aJ) (cQ _)) (aP (jQ (N_ (aAc hu) (qU hu) (aJ) (bW (bY hK hu) (aB (i:=2)) (aJ) (fun _ _=>rfl)) (aB (i:=1))))) (b8)) (aP (jQ (aC1 (wX (wA hu) (aB (i:=3)) (aB (i:=0)) (by with_unfolding_all rfl)) (aC0 (N_ (aAc hu) (aAc hu) (aJ) (bW (bY hK hu) (aB (i:=2)) (aJ) (fun _ _=>rfl)) (bW (bY hK hu) (aB (i:=0)) (aB (i:=3)) (fun _ _=>rfl))))))))
theorem wM (c_rim_among:dF P w K mg base 1 "rim_among" 1 h_) (c_has_place:dF P w K mg base 1 "has_place" 3 dD) (F:Fun K "check_ends" "check_ends" iC fad fd) (hm:mg "check_ends" = some (.ref fad)):dF P w K mg base 2 "check_ends" 2 jL:=by
 have sc:=rB;refine jH (ps:=["sides", "ends"]) (N:=fU) (k:=1) F hm (F.binds fun _ _ _ _ _ _ us hl=>match us,hl with|[_,_],_=>rfl) sc tG (by decide) (by decide) fun cdv A outer s H E hr=>?_
 have hu:=v6 hr;exact aG (bG (i:=2) (o:=false) rfl sc.nd rfl (by trivial) (bB c_rim_among hr (by decide) (by rfl) (aA (aB (i:=1)) (aF)))) (aG (bG (i:=3) (o:=true) rfl sc.nd rfl (by trivial) (oZ)) (aG (pP (i:=1) rfl PassesOwn.never rfl rfl (by trivial) (iJ (i:=4) rfl) (bA (i:=4) sc.nd rfl (by trivial)) (aG (fM (bZ (wA hu) (aB (i:=4)) (aB (i:=3)) (by with_unfolding_all rfl)) (aP (iV)) (b8)) (aG (fM (qP (qO (bB c_has_place hr (by decide) (by rfl) (aA (aB (i:=0)) (aA (aB (i:=2)) (aA (aB (i:=4)) (aF))))))) (aP (iV)) (b8)) (aP (xH (i:=3) hu rfl rfl (by trivial) (aB (i:=4)) (tQ)))))) (aP (fM (bZ (qU hu) (aX uT (aV (dZ hK) (by rfl) B.len d8 (aA (aB (i:=1)) (aF))) (aB (i:=2))) (aV (aCb (by rfl)) (by rfl) B.sum aCc (aA (XC (show dG fU (aQ iC) _ (["count"]:List Str) from by refine ⟨rfl,?_,?_,?_,?_,?_,?_⟩ <;> decide +kernel) (i:=0) (n:=5) rfl rfl rfl (by trivial) (fun _=>bA (i:=5) (show ((List.map (j7 (["count"]:List Str)) fU++(["count"]:List Str)):List Str).Nodup from by decide +kernel) rfl (by trivial)) (fun _=>aX cD (aB (i:=5)) (aJ)) (fun _=>rfl)) (aF))) (cQ _)) (aP (iV)) (b8)))))
theorem wN (c_rim_among:dF P w K mg base 1 "rim_among" 1 h_) (c_has_place:dF P w K mg base 1 "has_place" 3 dD)  (F:Fun K "check_ends" "check_ends" iC fad fd) (hm:mg "check_ends" = some (.ref fad)) (mC:mg "NoNet" = some (.ref C)) (xC:excIn K C aF1 "ValueError.__new__" = true):wB P w K mg base 2 "check_ends" 2 C jM:=by
 have sc:=rB;refine aCa (ps:=["sides", "ends"]) (N:=fU) (k:=1) (g:=kI) F hm (F.binds fun _ _ _ _ _ _ us hl=>match us,hl with|[_,_],_=>rfl) sc tG (by decide) (by decide) fun cdv A outer s H E hr=>?_
 have hu:=v6 hr;exact tE (bG (i:=2) (o:=false) rfl sc.nd rfl (by trivial) (bB c_rim_among hr (by decide) (by rfl) (aA (aB (i:=1)) (aF)))) (tE (bG (i:=3) (o:=true) rfl sc.nd rfl (by trivial) (oZ)) (RV (pF (XQ (i:=1) rfl rfl (by trivial) (iJ (i:=4) rfl) (bA (i:=4) sc.nd rfl (by trivial)) (aG (fM (bZ (wA hu) (aB (i:=4)) (aB (i:=3)) (by with_unfolding_all rfl)) (aP (iV)) (b8)) (aG (fM (qP (qO (bB c_has_place hr (by decide) (by rfl) (aA (aB (i:=0)) (aA (aB (i:=2)) (aA (aB (i:=4)) (aF))))))) (aP (iV)) (b8)) (aP (xH (i:=3) hu rfl rfl (by trivial) (aB (i:=4)) (tQ))))) (RV (pF (K1 (bZ (wA hu) (aB (i:=4)) (aB (i:=3)) (by with_unfolding_all rfl)) (mX (by rfl) mC xC))) (tE (fM (bZ (wA hu) (aB (i:=4)) (aB (i:=3)) (by with_unfolding_all rfl)) (aP (iV)) (b8)) (pF (K1 (qP (qO (bB c_has_place hr (by decide) (by rfl) (aA (aB (i:=0)) (aA (aB (i:=2)) (aA (aB (i:=4)) (aF))))))) (mX (by rfl) mC xC))))))) (tE (pP (i:=1) rfl PassesOwn.never rfl rfl (by trivial) (iJ (i:=4) rfl) (bA (i:=4) sc.nd rfl (by trivial)) (aG (fM (bZ (wA hu) (aB (i:=4)) (aB (i:=3)) (by with_unfolding_all rfl)) (aP (iV)) (b8)) (aG (fM (qP (qO (bB c_has_place hr (by decide) (by rfl) (aA (aB (i:=0)) (aA (aB (i:=2)) (aA (aB (i:=4)) (aF))))))) (aP (iV)) (b8)) (aP (xH (i:=3) hu rfl rfl (by trivial) (aB (i:=4)) (tQ)))))) (aGo (K1 (bZ (qU hu) (aX uT (aV (dZ hK) (by rfl) B.len d8 (aA (aB (i:=1)) (aF))) (aB (i:=2))) (aV (aCb (by rfl)) (by rfl) B.sum aCc (aA (XC (show dG fU (aQ iC) _ (["count"]:List Str) from by refine ⟨rfl,?_,?_,?_,?_,?_,?_⟩ <;> decide +kernel) (i:=0) (n:=5) rfl rfl rfl (by trivial) (fun _=>bA (i:=5) (show ((List.map (j7 (["count"]:List Str)) fU++(["count"]:List Str)):List Str).Nodup from by decide +kernel) rfl (by trivial)) (fun _=>aX cD (aB (i:=5)) (aJ)) (fun _=>rfl)) (aF))) (cQ _)) (mX (by rfl) mC xC))))))
theorem GX  (F:Fun K "arranged" "arranged" o8 fad fd) (hm:mg "arranged" = some (.ref fad)):dF P w K mg base 1 "arranged" 3 l_:=by
 have sc:=LK;refine jH (ps:=["pieces", "ties", "rings"]) (N:=mF) (k:=0) F hm (F.binds fun _ _ _ _ _ _ us hl=>match us,hl with|[_,_,_],_=>rfl) sc R0 (by decide) (by decide) fun cdv A outer s H E hr=>?_
 have hu:=v6 hr;exact aG (aAl (ownN:=(["one", "other"]:List Str)) (show dG mF (aQ o8) _ (["one", "other"]:List Str) from by refine ⟨rfl,?_,?_,?_,?_,?_,?_⟩ <;> decide +kernel) (n:=4) (m:=2) rfl rfl rfl (lN (aB (i:=1))) (aDp _ 4 2) (fun _=>pC rfl (cH (bA (i:=4) (show ((List.map (j7 (["one", "other"]:List Str)) mF++(["one", "other"]:List Str)):List Str).Nodup from by decide +kernel) rfl (by trivial)) (cH (bA (i:=5) (show ((List.map (j7 (["one", "other"]:List Str)) mF++(["one", "other"]:List Str)):List Str).Nodup from by decide +kernel) rfl (by trivial)) (kW)))) (fun _=>bD (aA (aV (wY hu (by rfl)) (by rfl) B.min xJ (aA (aB (i:=4)) (aA (aB (i:=5)) (aF)))) (aA (aV (wZ hu (by rfl)) (by rfl) B.max xK (aA (aB (i:=4)) (aA (aB (i:=5)) (aF)))) (aF)))) (fun _=>rfl) (iy:=3) (o:=false) rfl sc.nd rfl (by trivial) (Or.inl rfl) (by with_unfolding_all rfl)) (aP (jQ (bD (aA (bR fW (by rfl) B.tuple fX (aA (aV (jV (by rfl) hu) (by rfl) B.sorted eU (aA (aB (i:=0)) (aF))) (aF))) (aA (bR fW (by rfl) B.tuple fX (aA (aV (jY hu) (by rfl) B.sorted eU (aA (aB (i:=3)) (aF))) (aF))) (aA (aB (i:=2)) (aF)))))))
theorem pZ  (F:Fun K "sides_by_number" "sides_by_number" fY fad fd) (hm:mg "sides_by_number" = some (.ref fad)):dF P w K mg base 1 "sides_by_number" 2 cO:=by
 have sc:=kJ;refine jH (ps:=["stock", "pieces"]) (N:=i_) (k:=0) F hm (F.binds fun _ _ _ _ _ _ us hl=>match us,hl with|[_,_],_=>rfl) sc mD (by decide) (by decide) fun cdv A outer s H E hr=>?_
 have hu:=v6 hr;exact aG (bG (i:=2) (o:=true) rfl sc.nd rfl (by trivial) (oZ)) (aG (pP (i:=1) rfl PassesOwn.never rfl rfl (by trivial) (mU _ (is:=[3,4]) (by decide)) (pC rfl (cH (bA (i:=3) sc.nd rfl (by trivial)) (cH (bA (i:=4) sc.nd rfl (by trivial)) (kW)))) (aG (fM (bZ (qU hu) (aB (i:=3)) (aJ) (cQ _)) (aP (iV)) (b8)) (aG (fM (bZ (wA hu) (aB (i:=3)) (aB (i:=2)) (by with_unfolding_all rfl)) (aP (iV)) (b8)) (aG (fM (bZ (t7 hu) (aB (i:=4)) (aB (i:=0)) (by with_unfolding_all rfl)) (aP (iV)) (b8)) (aP (xH (i:=2) hu rfl rfl (by trivial) (aB (i:=3)) (bW (bY hK hu) (aB (i:=0)) (aB (i:=4)) (fun _ _=>rfl)))))))) (aP (pO (i:=2) rfl rfl (by trivial))))
theorem p6   (F:Fun K "sides_by_number" "sides_by_number" fY fad fd) (hm:mg "sides_by_number" = some (.ref fad)) (mC:mg "NoNet" = some (.ref C)) (xC:excIn K C aF1 "ValueError.__new__" = true):wB P w K mg base 1 "sides_by_number" 2 C c7:=by
 have sc:=kJ;refine aCa (ps:=["stock", "pieces"]) (N:=i_) (k:=0) (g:=iZ) F hm (F.binds fun _ _ _ _ _ _ us hl=>match us,hl with|[_,_],_=>rfl) sc mD (by decide) (by decide) fun cdv A outer s H E hr=>?_
 have hu:=v6 hr;exact tE (bG (i:=2) (o:=true) rfl sc.nd rfl (by trivial) (oZ)) (pF (XQ (i:=1) rfl rfl (by trivial) (mU _ (is:=[3,4]) (by decide)) (pC rfl (cH (bA (i:=3) sc.nd rfl (by trivial)) (cH (bA (i:=4) sc.nd rfl (by trivial)) (kW)))) (aG (fM (bZ (qU hu) (aB (i:=3)) (aJ) (cQ _)) (aP (iV)) (b8)) (aG (fM (bZ (wA hu) (aB (i:=3)) (aB (i:=2)) (by with_unfolding_all rfl)) (aP (iV)) (b8)) (aG (fM (bZ (t7 hu) (aB (i:=4)) (aB (i:=0)) (by with_unfolding_all rfl)) (aP (iV)) (b8)) (aP (xH (i:=2) hu rfl rfl (by trivial) (aB (i:=3)) (bW (bY hK hu) (aB (i:=0)) (aB (i:=4)) (fun _ _=>rfl))))))) (RV (pF (K1 (bZ (qU hu) (aB (i:=3)) (aJ) (cQ _)) (mX (by rfl) mC xC))) (tE (fM (bZ (qU hu) (aB (i:=3)) (aJ) (cQ _)) (aP (iV)) (b8)) (RV (pF (K1 (bZ (wA hu) (aB (i:=3)) (aB (i:=2)) (by with_unfolding_all rfl)) (mX (by rfl) mC xC))) (tE (fM (bZ (wA hu) (aB (i:=3)) (aB (i:=2)) (by with_unfolding_all rfl)) (aP (iV)) (b8)) (pF (K1 (bZ (t7 hu) (aB (i:=4)) (aB (i:=0)) (by with_unfolding_all rfl)) (mX (by rfl) mC xC)))))))))
theorem LQ  (F:Fun K "ends_of" "ends_of" vG fad fd) (hm:mg "ends_of" = some (.ref fad)):dF P w K mg base 1 "ends_of" 1 j6:=by
 have sc:=R4;refine jH (ps:=["ties"]) (N:=GJ) (k:=0) F hm (F.binds fun _ _ _ _ _ _ us hl=>match us,hl with|[_],_=>rfl) sc XX (by decide) (by decide) fun cdv A outer s H E hr=>?_
 have hu:=v6 hr;exact aG (bG (i:=1) (o:=true) rfl sc.nd rfl (by trivial) (qQ (aF))) (aG (pP (i:=0) rfl PassesOwn.never rfl rfl (by trivial) (mU _ (is:=[2,3]) (by decide)) (pC rfl (cH (bA (i:=2) sc.nd rfl (by trivial)) (cH (bA (i:=3) sc.nd rfl (by trivial)) (kW)))) (aG (jG (i:=1) rfl rfl (by trivial) (aB (i:=2))) (aP (jG (i:=1) rfl rfl (by trivial) (aB (i:=3)))))) (aP (pO (i:=1) rfl rfl (by trivial))))
theorem aB2 (c_ends_of:dF P w K mg base 1 "ends_of" 1 j6) (c_sides_by_number:dF P w K mg base 1 "sides_by_number" 2 cO) (c_check_ends:dF P w K mg base 2 "check_ends" 2 jL) (c_arranged:dF P w K mg base 1 "arranged" 3 l_) {T:Addr} {its:Array Value} (F:aGp K "made" "made" vH fad fd T its):HY P w K mg base CX0 3 fad fd ["stock", "pieces", "ties", "rings"] (spD GD 4):=by
 have sc:=X6;refine aGq (ps:=["stock", "pieces", "ties", "rings"]) (N:=X5) (k:=2) F sc aCf (by decide) fun cdv A outer s H E hr=>?_
 have hu:=v6 hr;exact aG (fM (bZ (qU hu) (aB (i:=3)) (aJ) (cQ _)) (aP (iV)) (b8)) (aG (aDs (bB c_check_ends hr (by decide) (by rfl) (aA (bB c_sides_by_number hr (by decide) (by rfl) (aA (aB (i:=0)) (aA (aB (i:=1)) (aF)))) (aA (bB c_ends_of hr (by decide) (by rfl) (aA (aB (i:=2)) (aF))) (aF))))) (aP (jQ (bB c_arranged hr (by decide) (by rfl) (aA (aB (i:=1)) (aA (aB (i:=2)) (aA (aB (i:=3)) (aF))))))))
theorem aB3 (c_ends_of:dF P w K mg base 1 "ends_of" 1 j6) (c_sides_by_number:dF P w K mg base 1 "sides_by_number" 2 cO) (c_check_ends:dF P w K mg base 2 "check_ends" 2 jL) (c_arranged:dF P w K mg base 1 "arranged" 3 l_) (rx_sides_by_number:wB P w K mg base 1 "sides_by_number" 2 C c7) (rx_check_ends:wB P w K mg base 2 "check_ends" 2 C jM) {T:Addr} {its:Array Value} (F:aGp K "made" "made" vH fad fd T its) (hm:mg "made" = some (.ref fad)) (hb:Binds K fd ["stock", "pieces", "ties", "rings"] []) (mC:mg "NoNet" = some (.ref C)) (xC:excIn K C aF1 "ValueError.__new__" = true):wB P w K mg base 3 "made" 4 C GF:=by
 have sc:=X6;refine aEa (ps:=["stock", "pieces", "ties", "rings"]) (N:=X5) (k:=2) (g:=X4) F hm hb sc aCf (by decide) fun cdv A outer s H E hr=>?_
 have hu:=v6 hr;exact RV (pF (K1 (bZ (qU hu) (aB (i:=3)) (aJ) (cQ _)) (mX (by rfl) mC xC))) (tE (fM (bZ (qU hu) (aB (i:=3)) (aJ) (cQ _)) (aP (iV)) (b8)) (RV (pF (XS (aGx c_check_ends hr (by decide) (by rfl) (aGw (XR rx_sides_by_number hr (by decide) (by rfl) (aA (aB (i:=0)) (aA (aB (i:=1)) (aF)))) (aA (bB c_ends_of hr (by decide) (by rfl) (aA (aB (i:=2)) (aF))) (aF)))))) (pF (XS (XR rx_check_ends hr (by decide) (by rfl) (aA (bB c_sides_by_number hr (by decide) (by rfl) (aA (aB (i:=0)) (aA (aB (i:=1)) (aF)))) (aA (bB c_ends_of hr (by decide) (by rfl) (aA (aB (i:=2)) (aF))) (aF))))))))
theorem R5 (c_made:aHq P w K mg base 3 "made" "rings" 3 (.int 0) GD) {C:Addr} (rx_made:wB P w K mg base 3 "made" 4 C GF) (mC:mg "NoNet" = some (.ref C)) (xM:exmOne K (.ref C) (.ref C)=some true) (F:Fun K "is_net" "is_net" zW fad fd) (hm:mg "is_net" = some (.ref fad)):dF P w K mg base 4 "is_net" 2 eG:=by
 have sc:=X7;refine jH (ps:=["stock", "net"]) (N:=PN) (k:=3) F hm (F.binds fun _ _ _ _ _ _ us hl=>match us,hl with|[_,_],_=>rfl) sc aB0 (by decide) (by decide) fun cdv A outer s H E hr=>?_
 have hu:=v6 hr;exact aP (aAw rfl rfl rfl hu (rx_made) c_made.cal hr (by rfl) (aA (aB (i:=0)) (aA (bW (bY hK hu) (aB (i:=1)) (aJ) (fun _ _=>rfl)) (aA (bW (bY hK hu) (aB (i:=1)) (aJ) (fun _ _=>rfl)) (aA (bW (bY hK hu) (aB (i:=1)) (aJ) (fun _ _=>rfl)) (aF))))) (aB (i:=1)) (by rfl) mC xM (cQ _))
theorem tY (c__law_rim:dF P w K mg base 1 "_law_rim" 1 cF) (F:Fun K "_law_of_ties" "_law_of_ties" jB fad fd) (hm:mg "_law_of_ties" = some (.ref fad)):dF P w K mg base 2 "_law_of_ties" 2 gZ:=by
 have sc:=vL;refine jH (ps:=["net", "cell"]) (N:=jC) (k:=1) F hm (F.binds fun _ _ _ _ _ _ us hl=>match us,hl with|[_,_],_=>rfl) sc wG (by decide) (by decide) fun cdv A outer s H E hr=>?_
 have hu:=v6 hr
 exact aG (E_ (aB (i:=0)) (mU _ (is:=[2,3,4]) (by decide)) (pC rfl (cH (bA (i:=2) sc.nd rfl (by trivial)) (cH (bA (i:=3) sc.nd rfl (by trivial)) (cH (bA (i:=4) sc.nd rfl (by trivial)) (kW)))))) (aG (bG (i:=5) (o:=false) rfl sc.nd rfl (by trivial) (aX dN (aB (i:=1)) (aV (dZ hK) (by rfl) B.len d8 (aA (aB (i:=3)) (aF))))) (aG (E_ (bW (bY hK hu) (aB (i:=3)) (aB (i:=5)) (fun _ _=>rfl)) (mU _ (is:=[6,7]) (by decide)) (pC rfl (cH (bA (i:=6) sc.nd rfl (by trivial)) (cH (bA (i:=7) sc.nd rfl (by trivial)) (kW))))) (aG (bG (i:=8) (o:=true) rfl sc.nd rfl (by trivial) (mW (aA (bD (aA (aB (i:=2)) (aA (aX dU (aX dU (fP hK (aB (i:=3)) (dR) (cW (aB (i:=5)))) (bD (aA (bD (aA (aB (i:=7)) (aA (aB (i:=6)) (aF)))) (aF)))) (fP hK (aB (i:=3)) (cW (aX cD (aB (i:=5)) (aJ))) (dR))) (aA (aB (i:=4)) (aF))))) (aF)))) (aG (jG (i:=8) rfl rfl (by trivial) (bD (aA (aB (i:=2)) (aA (aX dU (aX dU (fP hK (aB (i:=3)) (dR) (cW (aB (i:=5)))) (bD (aA (bW (bY hK hu) (aB (i:=3)) (aB (i:=5)) (fun _ _=>rfl)) (aF)))) (fP hK (aB (i:=3)) (cW (aB (i:=5))) (dR))) (aA (aB (i:=4)) (aF)))))) (aG (fM (bZ (RP hu) (bW (bY hK hu) (aB (i:=7)) (aJ) (fun _ _=>rfl)) (aJ) (cQ _)) (aP (jG (i:=8) rfl rfl (by trivial) (bD (aA (aB (i:=2)) (aA (aX dU (fP hK (aB (i:=3)) (dR) (cW (aB (i:=5)))) (fP hK (aB (i:=3)) (cW (aX cD (aB (i:=5)) (aJ))) (dR))) (aA (aB (i:=4)) (aF))))))) (b8)) (aG (fM (bZ (rZ hu) (bW (bY hK hu) (aB (i:=6)) (aJ) (fun _ _=>rfl)) (aJ) (cQ _)) (aG (bG (i:=9) (o:=false) rfl sc.nd rfl (by trivial) (aX dU (aX dU (fP hK (aB (i:=3)) (dR) (cW (aB (i:=5)))) (bD (aA (bD (aA (bD (aA (aJ) (aA (bB c__law_rim hr (by decide) (by rfl) (aA (aB (i:=0)) (aF))) (aF)))) (aA (aB (i:=7)) (aF)))) (aF)))) (fP hK (aB (i:=3)) (cW (aX cD (aB (i:=5)) (aJ))) (dR)))) (aG (jG (i:=8) rfl rfl (by trivial) (bD (aA (aB (i:=2)) (aA (bR fW (by rfl) B.tuple fX (aA (aV (jY hu) (by rfl) B.sorted eU (aA (zM (ownN:=(["tie"]:List Str)) (show dG jC (aQ jB) _ (["tie"]:List Str) from by refine ⟨rfl,?_,?_,?_,?_,?_,?_⟩ <;> decide +kernel) (n:=10) (m:=1) rfl rfl rfl (lN (aB (i:=9))) (kZ 10) (fun _=>bA (i:=10) (show ((List.map (j7 (["tie"]:List Str)) jC++(["tie"]:List Str)):List Str).Nodup from by decide +kernel) rfl (by trivial)) (fun _=>bD (aA (aV (wY hu (by rfl)) (by rfl) B.min xJ (aA (aB (i:=10)) (aF))) (aA (aV (wZ hu (by rfl)) (by rfl) B.max xK (aA (aB (i:=10)) (aF))) (aF)))) (fun _=>rfl)) (aF))) (aF))) (aA (aB (i:=4)) (aF)))))) (aP (jG (i:=8) rfl rfl (by trivial) (bD (aA (aB (i:=2)) (aA (bR fW (by rfl) B.tuple fX (aA (aV (jV (by rfl) hu) (by rfl) B.sorted eU (aA (aX dU (aX dU (fP hK (aB (i:=3)) (dR) (cW (aB (i:=5)))) (bD (aA (bD (aA (bD (aA (aJ) (aA (KH uU (aJ)) (aF)))) (aA (aB (i:=7)) (aF)))) (aF)))) (fP hK (aB (i:=3)) (cW (aX cD (aB (i:=5)) (aJ))) (dR))) (aF))) (aF))) (aA (aB (i:=4)) (aF))))))))) (b8)) (aG (fM (bZ (RP hu) (aB (i:=5)) (aJ) (cQ _)) (aP (jG (i:=8) rfl rfl (by trivial) (bD (aA (aB (i:=2)) (aA (aX dU (aX dU (fP hK (aB (i:=3)) (dR) (cW (aX uT (aB (i:=5)) (aJ)))) (bD (aA (bW (bY hK hu) (aB (i:=3)) (aB (i:=5)) (fun _ _=>rfl)) (aA (bW (bY hK hu) (aB (i:=3)) (aX uT (aB (i:=5)) (aJ)) (fun _ _=>rfl)) (aF))))) (fP hK (aB (i:=3)) (cW (aX cD (aB (i:=5)) (aJ))) (dR))) (aA (aB (i:=4)) (aF))))))) (b8)) (aP (pO (i:=8) rfl rfl (by trivial))))))))))
theorem aH2 (c__law_cell_at:dF P w K mg base 1 "_law_cell_at" 2 fB) (c__law_stock:dF P w K mg base 1 "_law_stock" 2 jK) (c__law_grown:dF P w K mg base 2 "_law_grown" 3 kE) (c_is_net:dF P w K mg base 4 "is_net" 2 eG) (c__law_truth:dF P w K mg base 1 "_law_truth" 2 cR) (c__law_of_pieces:dF P w K mg base 2 "_law_of_pieces" 3 eZ) (c__law_of_ties:dF P w K mg base 2 "_law_of_ties" 2 gZ) (c__law_written:dF P w K mg base 1 "_law_written" 2 gY) (F:Fun K "law" "law" zX fad fd):HY P w K mg base CX0 5 fad fd ["script"] (spD R3 1):=by
 have sc:=aH1;refine aGl (ps:=["script"]) (N:=aH0) (k:=4) F sc o_law (by decide) (by decide) fun cdv A outer s H E hr=>?_
 have hu:=v6 hr
 exact aG (bG (i:=1) (o:=false) rfl sc.nd rfl (by trivial) (bB c__law_cell_at hr (by decide) (by rfl) (aA (aB (i:=0)) (aA (aJ) (aF))))) (aG (bG (i:=2) (o:=false) rfl sc.nd rfl (by trivial) (bB c__law_stock hr (by decide) (by rfl) (aA (bB c__law_cell_at hr (by decide) (by rfl) (aA (aB (i:=0)) (aA (aJ) (aF)))) (aA (aB (i:=1)) (aF))))) (aG (bG (i:=3) (o:=false) rfl sc.nd rfl (by trivial) (bB c__law_grown hr (by decide) (by rfl) (aA (aB (i:=2)) (aA (fP hK (aB (i:=0)) (cW (aJ)) (cW (aJ))) (aA (bB c__law_cell_at hr (by decide) (by rfl) (aA (aB (i:=0)) (aA (aJ) (aF)))) (aF)))))) (aG (fM (PW.pt (aGb (qP (qO (bB c__law_truth hr (by decide) (by rfl) (aA (bB c_is_net hr (by decide) (by rfl) (aA (bR zT (by rfl) B.dict zP (aA (aB (i:=2)) (aF))) (aA (aB (i:=3)) (aF)))) (aA (tQ) (aF)))))) (aC3 (qP (qO (bB c__law_truth hr (by decide) (by rfl) (aA (bB c_is_net hr (by decide) (by rfl) (aA (oZ) (aA (bD (aA (bD (aF)) (aA (bD (aF)) (aA (bW (bY hK hu) (aB (i:=3)) (aJ) (fun _ _=>rfl)) (aF))))) (aF)))) (aA (tQ) (aF))))))))) (aP (jQ (tQ))) (b8)) (aG (bG (i:=4) (o:=false) rfl sc.nd rfl (by trivial) (mW (aA (bD (aA (bW (bY hK hu) (aB (i:=3)) (aJ) (fun _ _=>rfl)) (aA (bW (bY hK hu) (aB (i:=3)) (aJ) (fun _ _=>rfl)) (aA (aX uT (KH uU (aJ)) (aX qT (aX dN (aB (i:=1)) (aJ)) (aX dN (aX gH (aB (i:=1)) (aJ)) (aX OD (aJ) (aJ))))) (aF))))) (aF)))) (aG (fM (bZ (RP hu) (aV (dZ hK) (by rfl) B.len d8 (aA (bW (bY hK hu) (aB (i:=3)) (aJ) (fun _ _=>rfl)) (aF))) (aJ) (cQ _)) (aG (bG (i:=4) (o:=false) rfl sc.nd rfl (by trivial) (aX cD (aB (i:=4)) (bB c__law_of_pieces hr (by decide) (by rfl) (aA (aB (i:=2)) (aA (aB (i:=3)) (aA (aB (i:=1)) (aF))))))) (aG (bG (i:=5) (o:=true) rfl sc.nd rfl (by trivial) (bR zT (by rfl) B.dict zP (aA (aB (i:=2)) (aF)))) (aG (aE9 (i:=5) rfl rfl (by trivial) (bW (bY hK hu) (bW (bY hK hu) (bW (bY hK hu) (aB (i:=3)) (aJ) (fun _ _=>rfl)) (aX dN (aB (i:=1)) (aV (dZ hK) (by rfl) B.len d8 (aA (bW (bY hK hu) (aB (i:=3)) (aJ) (fun _ _=>rfl)) (aF)))) (fun _ _=>rfl)) (aJ) (fun _ _=>rfl))) (aP (fM (qP (qO (bB c__law_truth hr (by decide) (by rfl) (aA (bB c_is_net hr (by decide) (by rfl) (aA (aB (i:=5)) (aA (aB (i:=3)) (aF)))) (aA (tQ) (aF)))))) (aP (jQ (tQ))) (b8)))))) (b8)) (aG (fM (bZ (RP hu) (aV (dZ hK) (by rfl) B.len d8 (aA (bW (bY hK hu) (aB (i:=3)) (aJ) (fun _ _=>rfl)) (aF))) (aJ) (cQ _)) (aP (bG (i:=4) (o:=false) rfl sc.nd rfl (by trivial) (aX cD (aX cD (aB (i:=4)) (bB c__law_of_ties hr (by decide) (by rfl) (aA (aB (i:=3)) (aA (aX gH (aB (i:=1)) (aJ)) (aF))))) (bB c__law_written hr (by decide) (by rfl) (aA (aB (i:=3)) (aA (aB (i:=1)) (aF))))))) (b8)) (aG (pP (i:=4) rfl PassesOwn.never rfl rfl (by trivial) (iJ (i:=6) rfl) (bA (i:=6) sc.nd rfl (by trivial)) (aP (fM (PW.pt (aGb (qP (qO (bB c__law_truth hr (by decide) (by rfl) (aA (bB c_is_net hr (by decide) (by rfl) (aA (bR zT (by rfl) B.dict zP (aA (aB (i:=2)) (aF))) (aA (aB (i:=6)) (aF)))) (aA (tQ) (aF)))))) (aC3 (qP (qO (bB c__law_truth hr (by decide) (by rfl) (aA (bB c_is_net hr (by decide) (by rfl) (aA (bR zT (by rfl) B.dict zP (aA (aB (i:=2)) (aF))) (aA (aB (i:=3)) (aF)))) (aA (tQ) (aF))))))))) (aP (jQ (tQ))) (b8)))) (aP (jQ (tQ))))))))))
end
noncomputable def AtN (K:Frag) (n:Str) (st:Stmt):Prop:=∃(f:Addr) (fd:FuncData),nsIn K mainGlobals n=some (some (.ref f))/\Fun K n n st f fd
theorem aIs {K:Frag} {n:Str} {st:Stmt} {f:Addr} {oc kV dc pm cd ct:Value} {od an:Option Addr} {sl:Array (Option Value)} (a:nsIn K mainGlobals n=some (some (.ref f))) (l:K.lookup f=some ⟨oc,od,.func (fnOf n n (mJ st) (g_ st) (aQ st) .none kV dc pm an cd ct),sl⟩) (c:codeIn K cd n=true) (k:keepIn K (.ref f)=true):AtN K n st:=⟨f,_,a,aBu (st:=st) l c k⟩
theorem aH3 {l:OpenLaw} {w:World} {K:Frag} {h:Heap} {mg:Str->Option Value} {fa:Addr} (X:K.In h) (G:h.Ns mainGlobals mg) (hfa:mg "law" = some (.ref fa)) (a0:AtN K "_law_cell_at" lA) (a1:AtN K "_law_stock" oF) (a2:AtN K "_law_rimmed" mZ) (a3:AtN K "_law_tied" m9) (a4:AtN K "_law_grown" iB) (a5:AtN K "_law_truth" oJ) (a6:AtN K "_law_rim" sI) (a7:AtN K "_law_of_pieces" eY) (a8:AtN K "_law_written" gW) (a9:AtN K "rim_among" m_) (a10:AtN K "has_place" pY) (a11:AtN K "check_ends" iC) (a12:AtN K "arranged" o8) (a13:AtN K "sides_by_number" fY) (a14:AtN K "ends_of" vG)
  {f15 T15:Addr} {oc15 kV15 dc15 pm15 cd15 ct15 tc15:Value} {od15 an15 td15:Option Addr} {sl15 tl15:Array (Option Value)} {tk15:Tok} {tn15:Nat} (a15:nsIn K mainGlobals "made" = some (some (.ref f15))) (l15:K.lookup f15=some ⟨oc15,od15,.func (fnOf "made" "made" (mJ vH) (g_ vH) (aQ vH) (.ref T15) kV15 dc15 pm15 an15 cd15 ct15),sl15⟩) (c15:codeIn K cd15 "made" = true) (k15:keepIn K (.ref f15)=true) (t15:K.lookup T15=some ⟨tc15,td15,.seq #[.int 0 tk15] tn15,tl15⟩) (a16:AtN K "is_net" zW) (a17:AtN K "_law_of_ties" jB)
  {f18:Addr} {oc18 kV18 dc18 pm18 cd18 ct18:Value} {od18 an18:Option Addr} {sl18:Array (Option Value)} (a18:nsIn K mainGlobals "law" = some (some (.ref f18))) (l18:K.lookup f18=some ⟨oc18,od18,.func (fnOf "law" "law" (mJ zX) (g_ zX) (aQ zX) .none kV18 dc18 pm18 an18 cd18 ct18),sl18⟩) (c18:codeIn K cd18 "law" = true) (k18:keepIn K (.ref f18)=true) (z_len:nsIn K mainGlobals "len" = some none) (z_min:nsIn K mainGlobals "min" = some none) (z_max:nsIn K mainGlobals "max" = some none) (z_list:nsIn K mainGlobals "list" = some none) (z_tuple:nsIn K mainGlobals "tuple" = some none) (z_sorted:nsIn K mainGlobals "sorted" = some none) (z_range:nsIn K mainGlobals "range" = some none) (z_isinstance:nsIn K mainGlobals "isinstance" = some none) (z_int:nsIn K mainGlobals "int" = some none) (z_bool:nsIn K mainGlobals "bool" = some none) (z_str:nsIn K mainGlobals "str" = some none) (z_dict:nsIn K mainGlobals "dict" = some none) (z_all:nsIn K mainGlobals "all" = some none) (z_enumerate:nsIn K mainGlobals "enumerate" = some none) (z_sum:nsIn K mainGlobals "sum" = some none) (z_zip:nsIn K mainGlobals "zip" = some none) (z_abs:nsIn K mainGlobals "abs" = some none) (z_reversed:nsIn K mainGlobals "reversed" = some none) {d_NoNet:Addr} (g_NoNet:nsIn K mainGlobals "NoNet" = some (some (.ref d_NoNet))) (xe_CNoNet:excIn K d_NoNet aF1 "ValueError.__new__" = true) (xm_CNoNet:exmOne K (.ref d_NoNet) (.ref d_NoNet)=some true) :
  ∃fd:FuncData,(∀(s:Shared) (v:Value),BindsTo s fd ⟨[v],[]⟩ [("script",v)])/\∀base:Heap,K.In base->base.Ns mainGlobals mg->HY l.prog w K mg base CX0 5 fa fd ["script"] (@spD ⟨K⟩ R3 1):=by
 have e:=hfa.symm.trans (mg_of X G a18);cases e
 letI:KFrag:=⟨K⟩
 have Y:=fun {n:Str} {v:Value}=>mg_of (n:=n) (v:=v) X G
 have Z:=fun {n:Str}=>mg_none_of (n:=n) X G
 obtain ⟨f0,_,a0,F0⟩:=a0;obtain ⟨f1,_,a1,F1⟩:=a1;obtain ⟨f2,_,a2,F2⟩:=a2;obtain ⟨f3,_,a3,F3⟩:=a3;obtain ⟨f4,_,a4,F4⟩:=a4;obtain ⟨f5,_,a5,F5⟩:=a5;obtain ⟨f6,_,a6,F6⟩:=a6;obtain ⟨f7,_,a7,F7⟩:=a7;obtain ⟨f8,_,a8,F8⟩:=a8;obtain ⟨f9,_,a9,F9⟩:=a9;obtain ⟨f10,_,a10,F10⟩:=a10;obtain ⟨f11,_,a11,F11⟩:=a11;obtain ⟨f12,_,a12,F12⟩:=a12;obtain ⟨f13,_,a13,F13⟩:=a13;obtain ⟨f14,_,a14,F14⟩:=a14;obtain ⟨f16,_,a16,F16⟩:=a16;obtain ⟨f17,_,a17,F17⟩:=a17;have B:Bt mg:=⟨Z z_len,Z z_min,Z z_max,Z z_list,Z z_tuple,Z z_sorted,Z z_range,Z z_isinstance,Z z_int,Z z_bool,Z z_str,Z z_dict,Z z_all,Z z_enumerate,Z z_sum,Z z_zip,Z z_abs,Z z_reversed⟩
 refine ⟨fnOf "law" "law" (mJ zX) (g_ zX) (aQ zX) .none kV18 dc18 pm18 an18 cd18 ct18,fun s v=>.of_eq rfl,fun base _ _=>?_⟩;have h__law_cell_at:=tW (P:=l.prog) (w:=w) (base:=base) rfl B  F0 (Y a0);have h__law_stock:=wJ (P:=l.prog) (w:=w) (base:=base) rfl B  F1 (Y a1);have h__law_rimmed:=vM (P:=l.prog) (w:=w) (base:=base) rfl B  F2 (Y a2);have h__law_tied:=z7 (P:=l.prog) (w:=w) (base:=base) rfl B  F3 (Y a3);have h__law_grown:=wK (P:=l.prog) (w:=w) (base:=base) rfl B h__law_tied h__law_rimmed F4 (Y a4);have h__law_truth:=wL (P:=l.prog) (w:=w) (base:=base) rfl B  F5 (Y a5);have h__law_rim:=GR (P:=l.prog) (w:=w) (base:=base) rfl B  F6 (Y a6);have h__law_of_pieces:=rC (P:=l.prog) (w:=w) (base:=base) rfl B h__law_rim F7 (Y a7);have h__law_written:=tX (P:=l.prog) (w:=w) (base:=base) rfl B  F8 (Y a8);have h_rim_among:=z8 (P:=l.prog) (w:=w) (base:=base) rfl B  F9 (Y a9);have h_has_place:=z9 (P:=l.prog) (w:=w) (base:=base) rfl B  F10 (Y a10);have h_check_ends:=wM (P:=l.prog) (w:=w) (base:=base) rfl B h_rim_among h_has_place F11 (Y a11);have rx_check_ends:=wN (P:=l.prog) (w:=w) (base:=base) rfl B h_rim_among h_has_place  F11 (Y a11) (Y g_NoNet) xe_CNoNet;have h_arranged:=GX (P:=l.prog) (w:=w) (base:=base) rfl B  F12 (Y a12);have h_sides_by_number:=pZ (P:=l.prog) (w:=w) (base:=base) rfl B  F13 (Y a13);have rx_sides_by_number:=p6 (P:=l.prog) (w:=w) (base:=base) rfl B   F13 (Y a13) (Y g_NoNet) xe_CNoNet;have h_ends_of:=LQ (P:=l.prog) (w:=w) (base:=base) rfl B  F14 (Y a14);have F15:aGp K "made" "made" vH f15 _ T15 #[.int 0 tk15]:=⟨⟨_,_,_,_,_,_,_,_,_,rfl,l15,c15⟩,k15,⟨_,_,_,_,t15⟩⟩
 have h_made:aHq l.prog w K mg base 3 "made" "rings" 3 (.int 0) GD:=⟨⟨f15,_,["stock", "pieces", "ties", "rings"],.int 0 tk15,.int 0,aB2 rfl B h_ends_of h_sides_by_number h_check_ends h_arranged F15,Y a15,k15,(fun s us X' hl=>match us,(show us.length=4 by simpa using hl) with|[_,_,_,_],_=>BindsTo.of_defaults rfl (X' _ _ t15) rfl rfl rfl),(fun s us X' hl=>match us,(show us.length=3 by simpa using hl) with|[_,_,_],_=>BindsTo.of_defaults rfl (X' _ _ t15) rfl rfl rfl),⟨_,rfl⟩,fun _=>.int 0,fun s us y X' hl=>match us,hl with|[_,_,_],_=>by first|exact .of_eq rfl|exact .of_eq (by with_unfolding_all rfl)|exact BindsTo.of_defaults rfl (X' _ _ t15) rfl rfl rfl|exact BindsTo.of_defaults rfl (X' _ _ t15) rfl (by with_unfolding_all rfl) (by with_unfolding_all rfl)⟩⟩
 have rx_made:=aB3 (P:=l.prog) (w:=w) (base:=base) rfl B h_ends_of h_sides_by_number h_check_ends h_arranged rx_sides_by_number rx_check_ends F15 (Y a15) (fun s us X' hl=>match us,(show us.length=4 by simpa using hl) with|[_,_,_,_],_=>BindsTo.of_defaults rfl (X' _ _ t15) rfl rfl rfl) (Y g_NoNet) xe_CNoNet;have h_is_net:=R5 (P:=l.prog) (w:=w) (base:=base) rfl B h_made rx_made (Y g_NoNet) xm_CNoNet F16 (Y a16);have h__law_of_ties:=tY (P:=l.prog) (w:=w) (base:=base) rfl B h__law_rim F17 (Y a17);exact aH2 rfl B h__law_cell_at h__law_stock h__law_grown h_is_net h__law_truth h__law_of_pieces h__law_of_ties h__law_written (aBu (st:=zX) l18 c18 k18)
theorem walk {l:OpenLaw} {q:Program} {loose:List Str} {XP:(Str->Option Value)->Heap->Prop} {YP:World->Heap->Prop} {d:DefRec} {K:Params->Frag} (main:∀ns:List Int,ns.length<=63->R3 [.scr (ns.map D.int)]=.ok (.bl true)) (hn:l.most=some 63) (hdf:d.params.defaults=[])
  (hY:∀(w:World) (h:Heap),YP w h->(K w.params).In h)
  (F:∀(w:World) (mg:Str->Option Value) (fa:Addr) (h:Heap),(K w.params).In h->h.Ns mainGlobals mg->mg d.name=some (.ref fa)->
   ∃fd:FuncData,(∀(s:Shared) (u:Value),BindsTo s fd ⟨[u],[]⟩ [("script",u)])/\∀base:Heap,(K w.params).In base->base.Ns mainGlobals mg->HY l.prog w (K w.params) mg base CX0 5 fa fd ["script"] (@spD ⟨K w.params⟩ R3 1)) :
  WalkO q loose XP YP l.row.toRowW d [] (fun f vs=>PySem.call f vs):=
 L2.aD8 (n:=63) (k:=5) (x := "script") (CX:=fun _=>CX0) (sp:=fun w=>@spD ⟨K w.params⟩ R3 1) hn (by decide) hdf ⟨rfl,by decide,by decide⟩ hY F (fun w H a ns hl hO hS=>W2 main hl hO hS) fun _ _ _ _ _ z=>z
end Lk07
end
section
namespace Lk07
open PySem L2 Mi
abbrev Pt:=Int×Int
def enP (p:Pt):D:=.tup [.int p.1,.int p.2]
abbrev Tie:=Pt×Pt
def bH (t:Tie):D:=.tup [enP t.1,enP t.2]
def okD (d:D):Res D:=match d with|.uD=>.bad|d=>.ok d
theorem X8 (i:Nat) (ρ:List D):jX i ρ=okD (ρ.getD i .uD):=rfl
theorem z_ (p q:Pt):eqD (enP p) (enP q)=decide (p=q):=by
 obtain ⟨a,b⟩:=p;obtain ⟨c,d⟩:=q;by_cases h1:a=c <;> by_cases h2:b=d <;> simp [enP,eqD,v4,h1,h2]
def ltP (p q:Pt):Prop:=p.1<q.1\/p.1=q.1/\p.2<q.2
instance (p q:Pt):Decidable (ltP p q):=by unfold ltP;infer_instance
theorem vN (p q:Pt):fG .lt (enP p) (enP q)=some (decide (ltP p q)):=by
 obtain ⟨a,b⟩:=p;obtain ⟨c,d⟩:=q;by_cases h1:a=c <;> by_cases h2:b=d <;> simp [enP,fG,eE,eqD,h1,h2,jE.int,jE.nat,ltP]
theorem PP (p q:Pt):fG .gt (enP p) (enP q)=some (decide (ltP q p)):=by
 obtain ⟨a,b⟩:=p;obtain ⟨c,d⟩:=q;by_cases h1:a=c
 ·by_cases h2:b=d <;> simp [enP,fG,eE,eqD,h1,h2,jE.int,jE.nat,ltP]
 ·simp [enP,fG,eE,eqD,h1,jE.int];simp only [ltP];lia
theorem X_ (p q:Pt):bL .ne (enP p) (enP q)=.ok (.bl (!decide (p=q))):=by
 rw [<-z_];rfl
def ends (T:List Tie):List Pt:=T.flatMap fun t=>[t.1,t.2]
abbrev Pc:=Int×Str
def pcD (c:Pc):D:=.tup [.int c.1,.str c.2]
theorem z2:decide ((2:Nat)<=lim)=true:=rfl
noncomputable def d_ (Q:List Pc) (T:List Tie) (r:Int):D:=.tup [.tup (Q.map pcD),.tup (T.map bH),.int r]
theorem PQ (Q:List Pc):(D.tup (Q.map pcD)).pure=true:=by
 show D.a_ (Q.map pcD)=true;induction Q with
 | nil=>rfl
 | cons q Q ih=>rw [List.map_cons,D.a_,ih];rfl
theorem GZ (T:List Tie):(D.tup (T.map bH)).pure=true:=by
 show D.a_ (T.map bH)=true;induction T with
 | nil=>rfl
 | cons q Q ih=>rw [List.map_cons,D.a_,ih];rfl
theorem G3 (l:List Pt):D.a_ (l.map enP)=true:=by
 induction l with
 | nil=>rfl
 | cons q Q ih=>rw [List.map_cons,D.a_,ih];rfl
end Lk07
end
section
namespace Lk07
open PySem L2 Mi
noncomputable def aEb:FS:=(bT (cL false 9 (b2 (aU .mul) (b2 (aU .mod) (b2 (aU .fdiv) dY VL) v5) (b2 (aU .add) tB v5)) true) (bT (sIf (bTB (b2 (bL .eq) tB dX)) (cL false 9 cV true) (iT)) (cL false 7 (b2 (aU .add) nQ (b2 getD gD (b2 (aU .mod) (b2 (aU .add) (b2 (aU .fdiv) (b2 (aU .fdiv) dY CV) (b2 (aU .add) (b2 (aU .mul) tB tB) cV)) (b2 (aU .mul) mH JZ)) VM))) true)))
noncomputable def aIt:FS:=(bT (cL false 7 (bC (.str "")) true) (bT (RC (rQ (aC bQ aO) qL) (tg1 8) (bT (cL false 9 (b2 (aU .mul) (b2 (aU .mod) (b2 (aU .fdiv) dY VL) v5) (b2 (aU .add) tB v5)) true) (bT (sIf (bTB (b2 (bL .eq) tB dX)) (cL false 9 cV true) (iT)) (cL false 7 (b2 (aU .add) nQ (b2 getD gD (b2 (aU .mod) (b2 (aU .add) (b2 (aU .fdiv) (b2 (aU .fdiv) dY CV) (b2 (aU .add) (b2 (aU .mul) tB tB) cV)) (b2 (aU .mul) mH JZ)) VM))) true)))) (bT (S8 5 nQ (b2 (aU .mod) gM aDe)) (cL false 1 (b2 (aU .fdiv) gM aDe) true))))
def abc:Str := "abcdefghijklmnopqrstuvwxyz"
def lf (i:Int):Nat:=abc.cps.toList.getD i.toNat 0
noncomputable def stp (c0 at_:Int) (jj:Int):Int:=if jj==at_ then 1 else c0 / 192 % 2*(jj+2)
noncomputable def chj (c0 at_ k:Int) (j:Nat):Nat:=lf ((c0 / 384 / ((0+(j:Int))*(0+(j:Int))+1)+k*stp c0 at_ (0+(j:Int))) % 26)
theorem letter (i:Int) (h0:0<=i) (h1:i<26):getD (.str abc) (.int i)=.ok (.str ⟨#[lf i]⟩):=by
 have hl:decide (abc.length<=lim)=true:=by decide +kernel
 have h26:abc.cps.toList.length=26:=by decide +kernel
 have hix:ixD abc.cps.toList.length i=some i.toNat:=by
  unfold ixD;rw [if_pos h0,h26,if_pos (by lia)]
 have hlt:i.toNat<abc.cps.toList.length:=by rw [h26];lia
 have hlf:lf i=abc.cps.toList[i.toNat]:=by
  unfold lf;rw [List.getD_eq_getElem?_getD,List.getElem?_eq_getElem hlt];rfl
 rw [hlf];show (if decide (abc.length<=lim) then Res.ofOpt (((ixD abc.cps.toList.length i).bind fun j=>abc.cps.toList[j]?).map fun c=>D.str ⟨#[c]⟩) else .bad)=_;rw [hl,if_pos rfl,hix];simp only [Option.bind_some];rw [List.getElem?_eq_getElem hlt];rfl
theorem xR {c0 c1 sz at_ k:Int} {dk:D} {ab:Str} (hab:∀i:Int,0<=i->i<26->getD (.str ab) (.int i)=.ok (.str ⟨#[lf i]⟩)) (hk0:0<=k) (hk1:k<=10):∀(js:List Nat) (nm:Str) (x y:D),(∀j∈js,j<10)->nm.length+js.length<=1000->∃nm' x' y',nm'.cps.toList=nm.cps.toList++js.map (chj c0 at_ k)/\
  qN (tg1 8) aEb (js.map fun (j:Nat)=>D.int (0+(j:Int))) [.int c0,.int c1,.str ab,.int sz,.int at_,dk,.int k,.str nm,x,y]=.ok (.nx [.int c0,.int c1,.str ab,.int sz,.int at_,dk,.int k,.str nm',x',y'])
 | [],nm,x,y,_,_=>⟨nm,x,y,by simp,rfl⟩
 | j::js,nm,x,y,hj,hl=>by
  have hj':=hj j (List.mem_cons_self ..);rw [List.length_cons] at hl;generalize hjj:(0+(j:Int))=jj;have b0:0<=jj:=by lia
  have b1:jj<10:=by lia
  have hsq:jj*jj<100:=by
   have:jj*jj<=9*9:=Int.mul_le_mul (by lia) (by lia) b0 (by lia);lia
  have hsq0:0<=jj*jj:=Int.mul_nonneg b0 b0;have f1:=gJ c0 192 (by decide) (by decide);have f2:=eX (c0 / 192) 2 (by decide);have f3:=eV jj 2;have f4:=W3 (c0 / 192 % 2) (jj+2) (j_ _ (by lia) (by lia));have f5:bL .eq (.int jj) (.int at_)=.ok (.bl (jj==at_)):=rfl;have f6:=gJ c0 384 (by decide) (by decide);have f7:=W3 jj jj (j_ _ (by lia) (by lia));have f8:=eV (jj*jj) 1;have f9:=gJ (c0 / 384) (jj*jj+1) (by lia) (by lia);have pi:∀i:Int,(D.int i).pure=true:=fun _=>rfl
  have ps:∀i:Str,(D.str i).pure=true:=fun _=>rfl
  rw [show ((j::js).map fun (j:Nat)=>D.int (0+(j:Int)))=D.int (0+(j:Int))::js.map fun (j:Nat)=>D.int (0+(j:Int)) from rfl,qN,hjj];have rest:∀st:Int,st=stp c0 at_ jj->∃(cc:Str) (nm':Str) (x' y':D),nm'.cps.toList=nm.cps.toList++(j::js).map (chj c0 at_ k)/\(cL false 7 (b2 (aU .add) nQ (b2 getD gD (b2 (aU .mod) (b2 (aU .add) (b2 (aU .fdiv) (b2 (aU .fdiv) dY CV) (b2 (aU .add) (b2 (aU .mul) tB tB) cV)) (b2 (aU .mul) mH JZ)) VM))) true) [.int c0,.int c1,.str ab,.int sz,.int at_,dk,.int k,.str nm,.int jj,.int st]=.ok (.nx [.int c0,.int c1,.str ab,.int sz,.int at_,dk,.int k,.str (nm++cc),.int jj,.int st])/\
    qN (tg1 8) aEb (js.map fun (j:Nat)=>D.int (0+(j:Int))) [.int c0,.int c1,.str ab,.int sz,.int at_,dk,.int k,.str (nm++cc),.int jj,.int st]=.ok (.nx [.int c0,.int c1,.str ab,.int sz,.int at_,dk,.int k,.str nm',x',y']):=by
   intro st hst;have g1:=vA k st (j_ _ (by lia) (by lia));have g2:=eV (c0 / 384 / (jj*jj+1)) (k*st);have g3:=eX (c0 / 384 / (jj*jj+1)+k*st) 26 (by decide);have g4:=hab ((c0 / 384 / (jj*jj+1)+k*st) % 26) (by lia) (by lia);have hch:lf ((c0 / 384 / (jj*jj+1)+k*st) % 26)=chj c0 at_ k j:=by
    unfold chj;rw [hjj,hst]
   rw [hch] at g4;have g5:(⟨#[chj c0 at_ k j]⟩:Str).length=1:=rfl;generalize hcc:(⟨#[chj c0 at_ k j]⟩:Str)=cc at g4 g5;have g6:=JV nm cc (by rw [g5,bK];lia);obtain ⟨nm',x',y',h1,h2⟩:=xR (c0:=c0) (c1:=c1) (sz:=sz) (at_:=at_) (dk:=dk) hab hk0 hk1 js (nm++cc) (.int jj) (.int st) (fun j hj2=>hj j (List.mem_cons_of_mem _ hj2)) (by rw [str_len,g5];lia);refine ⟨cc,nm',x',y',by
    rw [h1,List.map_cons];show (nm.cps++cc.cps).toList++_=_;rw [<-hcc];simp,?_,h2⟩
   exact cA (aH rfl (aH rfl (aH (aH (aH (aH rfl rfl f6) (aH (aH rfl rfl f7) rfl f8) f9) (aH rfl rfl g1) g2) rfl g3) g4) g6)
  have step:∃st:Int,st=stp c0 at_ jj/\aEb [.int c0,.int c1,.str ab,.int sz,.int at_,dk,.int k,.str nm,.int jj,y]=(cL false 7 (b2 (aU .add) nQ (b2 getD gD (b2 (aU .mod) (b2 (aU .add) (b2 (aU .fdiv) (b2 (aU .fdiv) dY CV) (b2 (aU .add) (b2 (aU .mul) tB tB) cV)) (b2 (aU .mul) mH JZ)) VM))) true) [.int c0,.int c1,.str ab,.int sz,.int at_,dk,.int k,.str nm,.int jj,.int st]:=by
   cases he:(jj==at_) with
   | true=>
    refine ⟨1,by unfold stp;rw [he];rfl,?_⟩;exact aN (cA (aH (aH (aH rfl rfl f1) rfl f2) (aH rfl rfl f3) f4)) (aN (aAm (dC (aH rfl rfl (f5.trans (by rw [he])))) rfl) rfl)
   | false=>
    refine ⟨c0 / 192 % 2*(jj+2),by unfold stp;rw [he];rfl,?_⟩;exact aN (cA (aH (aH (aH rfl rfl f1) rfl f2) (aH rfl rfl f3) f4)) (aN (aAm (dC (aH rfl rfl (f5.trans (by rw [he])))) rfl) rfl)
  obtain ⟨st,hst,step⟩:=step;obtain ⟨cc,nm',x',y',h1,s7,h2⟩:=rest st hst;refine ⟨nm',x',y',h1,?_⟩;have tgx:tg1 8 (.int jj) [.int c0,.int c1,.str ab,.int sz,.int at_,dk,.int k,.str nm,x,y]=.ok [.int c0,.int c1,.str ab,.int sz,.int at_,dk,.int k,.str nm,.int jj,y]:=rfl;rw [tgx,Res.aY,step,s7,Res.aY];exact h2
end Lk07
end
section
namespace Lk07
open PySem L2 Mi
noncomputable def bV (kvs:List (D×D)):Prop:=∀p∈kvs,∃(s:Str) (v:Int),p=(.str s,.int v)/\0<=v/\v<=6
theorem G4 {s:Str} {v:Int} (h0:0<=v) (h1:v<=6):∀{kvs:List (D×D)},bV kvs->bV (putD kvs (.str s) (.int v))/\(putD kvs (.str s) (.int v)).length<=kvs.length+1/\putD kvs (.str s) (.int v)≠[]
 | [],h=>⟨fun p hp=>⟨s,v,by simpa [putD] using hp,h0,h1⟩,by simp [putD],by simp [putD]⟩
 | (k,w)::r,h=>by
  obtain ⟨i1,i2,i3⟩:=G4 (s:=s) h0 h1 (kvs:=r) fun p hp=>h p (List.mem_cons_of_mem _ hp)
  rw [putD];split
  ·obtain ⟨s',v',e,_⟩:=h _ (List.mem_cons_self ..);cases e;refine ⟨fun p hp=>?_,by simp,by simp⟩;rcases List.mem_cons.mp hp with rfl|hp
   ·exact ⟨s',v,rfl,h0,h1⟩
   ·exact h p (List.mem_cons_of_mem _ hp)
  ·refine ⟨fun p hp=>?_,by simp only [List.length_cons];lia,by simp⟩;rcases List.mem_cons.mp hp with rfl|hp
   ·exact h _ (List.mem_cons_self ..)
   ·exact i1 p hp
theorem rD {kvs:List (D×D)} (h:bV kvs) (s:Str):sZ kvs (.str s)=true:=by
 unfold sZ;rw [show keyOk (.str s)=true from rfl,Bool.true_and,List.all_eq_true];intro p hp;obtain ⟨s',v',rfl,_⟩:=h p hp;rfl
theorem range_all (n:Nat):∀j∈List.range n,j<n:=fun j hj=>List.mem_range.mp hj
noncomputable def nmK (c0 sz at_ k:Int):Str:=⟨((List.range sz.toNat).map (chj c0 at_ k)).toArray⟩
theorem PX {s:Str} {v:D}:∀{kvs:List (D×D)},bV kvs->D.str s∈eO (putD kvs (.str s) v)/\∀d∈eO kvs,d∈eO (putD kvs (.str s) v)
 | [],_=>⟨by simp [putD,eO],fun d h=>by cases h⟩
 | (k,w)::r,h=>by
  obtain ⟨i1,i2⟩:=PX (s:=s) (v:=v) (kvs:=r) fun p hp=>h p (List.mem_cons_of_mem _ hp)
  obtain ⟨s',v',e,_⟩:=h _ (List.mem_cons_self ..);cases e;rw [putD];split
  ·rename_i hh;have hh:s'=s:=by simpa [eqD] using hh
   subst hh;exact ⟨by simp [eO],fun d hd=>by simpa [eO] using hd⟩
  ·refine ⟨List.mem_cons_of_mem _ i1,fun d hd=>?_⟩;rcases List.mem_cons.mp hd with rfl|hd
   ·exact List.mem_cons_self ..
   ·exact List.mem_cons_of_mem _ (i2 d hd)
theorem xT {c0 sz at_:Int} {ab:Str} (hab:∀i:Int,0<=i->i<26->getD (.str ab) (.int i)=.ok (.str ⟨#[lf i]⟩)) (hs0:0<=sz) (hs1:sz<=9):∀(ks:List Nat) (c1:Int) (kvs:List (D×D)) (x6 x7 x8 x9:D),(∀k∈ks,k<10)->bV kvs->kvs.length+ks.length<=1000->
  ∃c1' kvs' y6 y7 y8 y9,bV kvs'/\((∀k∈ks,D.str (nmK c0 sz at_ (0+(k:Int)))∈eO kvs')/\∀d∈eO kvs,d∈eO kvs')/\(ks≠[]\/kvs≠[]->kvs'≠[])/\kvs'.length<=kvs.length+ks.length/\
  qN (tg1 6) aIt (ks.map fun (j:Nat)=>D.int (0+(j:Int))) [.int c0,.int c1,.str ab,.int sz,.int at_,.dct kvs,x6,x7,x8,x9]=.ok (.nx [.int c0,c1',.str ab,.int sz,.int at_,.dct kvs',y6,y7,y8,y9])
 | [],c1,kvs,x6,x7,x8,x9,_,hk,_=>⟨.int c1,kvs,x6,x7,x8,x9,hk,⟨fun _ h=>(by cases h),fun _ h=>h⟩,fun h=>h.elim (fun z=>absurd rfl z) id,by simp,rfl⟩
 | k::ks,c1,kvs,x6,x7,x8,x9,hks,hk,hl=>by
  have hk':=hks k (List.mem_cons_self ..);rw [List.length_cons] at hl;generalize hkk:(0+(k:Int))=kk;obtain ⟨nm,u8,u9,hnm,hin⟩:=xR (c0:=c0) (c1:=c1) (sz:=sz) (at_:=at_) (k:=kk) (dk:=.dct kvs) hab (by lia) (by lia) (List.range sz.toNat) "" x8 x9 (fun j hj=>by have:=range_all _ j hj;lia) (by
   rw [List.length_range];have:("" : Str).length=0:=rfl;lia)
  have enm:nm=nmK c0 sz at_ kk:=by
   unfold nmK;have:nm.cps.toList=(List.range sz.toNat).map (chj c0 at_ kk):=hnm;rw [<-this]
  obtain ⟨q1,q2⟩:=PX (s:=nm) (v:=.int (c1 % 7)) hk;obtain ⟨i1,i2,i3⟩:=G4 (s:=nm) (v:=c1 % 7) (by lia) (by lia) hk;obtain ⟨c1',kvs',y6,y7,y8,y9,j1,jk,j2,j3,j4⟩:=xT hab hs0 hs1 ks (c1 / 7) (putD kvs (.str nm) (.int (c1 % 7))) (.int kk) (.str nm) u8 u9 (fun j hj=>hks j (List.mem_cons_of_mem _ hj)) i1 (by lia);refine ⟨c1',kvs',y6,y7,y8,y9,j1,⟨fun m hm=>?_,fun d hd=>jk.2 d (q2 d hd)⟩,fun _=>j2 (.inr i3),by simp only [List.length_cons];lia,?_⟩
  ·rcases List.mem_cons.mp hm with rfl|hm
   ·rw [hkk,<-enm];exact jk.2 _ q1
   ·exact jk.1 m hm
  rw [List.map_cons,hkk];have m7:=eX c1 7 (by decide);have d7:=gJ c1 7 (by decide) (by decide);refine cX (ρ1:=[.int c0,.int c1,.str ab,.int sz,.int at_,.dct kvs,.int kk,x7,x8,x9]) rfl ?_ j4;refine aN (cA rfl) ?_;refine aN (qZ (xN (n:=sz) (aD rfl rfl) hs0 (by lia)) hin) ?_;refine aN (EY (kvs:=kvs) (aH rfl rfl m7) rfl rfl (by rw [bK];lia) (rD hk nm) rfl) ?_;exact cA (aH rfl rfl d7)
theorem aH4 {i j:Int} (h0:0<=i) (h1:i<26) (h2:0<=j) (h3:j<26) (h:lf i=lf j):i=j:=by
 have key:∀a b:Fin 26,abc.cps.toList.getD a.val 0=abc.cps.toList.getD b.val 0->a=b:=by decide +kernel
 have:=key ⟨i.toNat,by lia⟩ ⟨j.toNat,by lia⟩ h;rw [Fin.mk.injEq] at this;lia
theorem aIu {c0 sz at_:Int} (h:0<sz) (h0:0<=at_) (h1:at_<sz):nmK c0 sz at_ (0+((0:Nat):Int))≠nmK c0 sz at_ (0+((1:Nat):Int)):=fun z=>by
 unfold nmK at z;rw [Str.mk.injEq] at z;have z:=congrArg Array.toList z;simp only [List.map_inj_left] at z;have z:=z at_.toNat (List.mem_range.mpr (by lia));unfold chj at z;have e:(0+((at_.toNat:Nat):Int))=at_:=by lia
 rw [e] at z;have s1:stp c0 at_ at_=1:=by unfold stp;simp
 rw [s1] at z;have:=aH4 (Int.emod_nonneg _ (by decide)) (Int.emod_lt_of_pos _ (by decide)) (Int.emod_nonneg _ (by decide)) (Int.emod_lt_of_pos _ (by decide)) z;generalize c0 / 384 / (at_*at_+1)=w at this;lia
theorem aB4 (c0 c1:Int):∃kvs,bV kvs/\(∃a b:Str,a≠b/\D.str a∈eO kvs/\D.str b∈eO kvs)/\kvs≠[]/\kvs.length<=5/\jK [.int c0,.int c1]=.ok (.dct kvs):=by
 have m8:=eX c0 8 (by decide);have a1:=eV 1 (c0 % 8);have f8:=gJ c0 8 (by decide) (by decide);have ms:=eX (c0 / 8) (1+c0 % 8) (by lia);have f64:=gJ c0 64 (by decide) (by decide);have m3:=eX (c0 / 64) 3 (by decide);have a3:=eV 3 (c0 / 64 % 3);obtain ⟨c1',kvs',y6,y7,y8,y9,j1,jk,j2,j3,j4⟩:=xT (c0:=c0) (sz:=1+c0 % 8) (at_:=c0 / 8 % (1+c0 % 8)) (ab:=abc) letter (by lia) (by lia) (List.range (3+c0 / 64 % 3).toNat) c1 [] .uD .uD .uD .uD (fun j hj=>by have:=range_all _ j hj;lia) (fun p hp=>by cases hp) (by rw [List.length_range];simp;lia);refine ⟨kvs',j1,⟨nmK c0 (1+c0 % 8) (c0 / 8 % (1+c0 % 8)) (0+((0:Nat):Int)),nmK c0 (1+c0 % 8) (c0 / 8 % (1+c0 % 8)) (0+((1:Nat):Int)),aIu (by lia) (Int.emod_nonneg _ (by lia)) (Int.emod_lt_of_pos _ (by lia)),jk.1 0 (List.mem_range.mpr (by lia)),jk.1 1 (List.mem_range.mpr (by lia))⟩,j2 (.inl fun z=>?_),by rw [List.length_range] at j3;simp at j3;lia,?_⟩
 ·have:=congrArg List.length z;rw [List.length_range] at this;simp at this;lia
 ·have e:oG [.int c0,.int c1,.uD,.uD,.uD,.uD,.uD,.uD,.uD,.uD]=.ok (.rt (.dct kvs')):=by
   refine aN (cA rfl) ?_;refine aN (cA (aH rfl (aH rfl rfl m8) a1)) ?_;refine aN (cA (aH (aH rfl rfl f8) rfl ms)) ?_;refine aN (fJ rfl rfl) ?_;refine aN (qZ (xN (n:=3+c0 / 64 % 3) (aD (aH rfl (aH (aH rfl rfl f64) rfl m3) a3) rfl) (by lia) (by lia)) j4) ?_;rfl
  show (do let r <- oG _;aBx r)=_;rw [show ([D.int c0,D.int c1]++List.replicate (10-2) D.uD)=[.int c0,.int c1,.uD,.uD,.uD,.uD,.uD,.uD,.uD,.uD] from rfl,e];rfl
end Lk07
end
section
namespace Lk07
open PySem L2 Mi
theorem A_ (L:List Pt) (i:Int) (h0:0<=i) (h1:i<L.length):∃p∈L,getD (.lst (L.map enP)) (.int i)=.ok (enP p):=by
 obtain ⟨h,e⟩:=zQ (L.map enP) i h0 (by simpa using h1);rw [List.length_map] at h;refine ⟨L[i.toNat],List.getElem_mem _,?_⟩;rw [e];simp
theorem G5 (o:jE) (a b:Pt) (r:Pt->Pt->Prop) [∀x y,Decidable (r x y)] (h:∀x y,fG o (enP x) (enP y)=some (decide (r x y))):cP o [enP a,enP b]=.ok (enP (if r b a then b else a)):=by
 show pL o [enP a,enP b]=_;have hall:([enP a,enP b].all fun x=>x.cG aZ&&[enP a,enP b].all fun y=>(fG o x y).isSome)=true:=by
  simp only [List.all_cons,List.all_nil,h,Option.isSome_some,Bool.and_true];rfl
 rw [pL,if_pos hall];simp only [List.foldl_cons,List.foldl_nil,h,Option.getD_some];by_cases hr:r b a
 ·simp [hr]
 ·simp [hr]
theorem aB5 {α:Type} [DecidableEq α] {L:List α} (hn:L.Nodup) {a:α} (ha:a∈L):(L.filter fun x=>!decide (x=a)).length+1=L.length:=by
 induction L with
 | nil=>cases ha
 | cons x L ih=>
  rw [List.nodup_cons] at hn;rw [List.filter_cons];by_cases h:x=a
  ·subst h;have:(L.filter fun y=>!decide (y=x))=L:=List.filter_eq_self.mpr fun y hy=>by
    have:y≠x:=fun z=>hn.1 (z▸hy)
    simp [this]
   simp [this]
  ·rw [if_pos (by simp [h])];rcases List.mem_cons.mp ha with rfl|ha
   ·exact absurd rfl h
   ·have:=ih hn.2 ha;simp only [List.length_cons];lia
theorem aEc (L:List Pt) (more:Int) (hn:L.Nodup) (h2:2<=L.length) (hl:L.length<=100000):∃a b,a∈L/\b∈L/\ltP a b/\fQ [.lst (L.map enP),.int more]=.ok (bH (a,b)):=by
 have hpos:(0:Int)<(L.length:Int):=by lia
 have g0:=eX more L.length hpos;obtain ⟨one,h1,e1⟩:=A_ L (more % L.length) (Int.emod_nonneg _ (by lia)) (Int.emod_lt_of_pos _ hpos);have hf:=aB5 hn h1
 let R:=L.filter fun x=>!decide (x=one)
 have hR:R.length+1=L.length:=hf;have hRp:(0:Int)<(R.length:Int):=by lia
 have g1:=gJ more L.length hpos (by lia);have g2:=eX (more / L.length) R.length hRp;obtain ⟨other,h3,e3⟩:=A_ R (more / L.length % R.length) (Int.emod_nonneg _ (by lia)) (Int.emod_lt_of_pos _ hRp);have h4:other∈L/\other≠one:=by
  have:=List.mem_filter.mp h3;exact ⟨this.1,by simpa using this.2⟩
 have lL:iD [.lst (L.map enP)]=.ok (.int L.length):=by rw [pD,List.length_map]
 have lR:iD [.lst (R.map enP)]=.ok (.int R.length):=by rw [pD,List.length_map]
 have mn:=G5 .lt one other ltP vN;have mx:=G5 .gt one other (fun x y=>ltP y x) PP;have tri:ltP one other\/ltP other one:=by
  have:one≠other:=fun z=>h4.2 z.symm
  simp only [ltP];by_cases hh:one.1=other.1
  ·have:one.2≠other.2:=fun z=>this (Prod.ext hh z)
   lia
  ·lia
 have ZF:ltP other one->¬ltP one other:=by
  simp only [ltP];lia
 have body:pX [.lst (L.map enP),.int more,.uD,.uD,.uD]=.ok (.rt (.tup [enP (if ltP other one then other else one),enP (if ltP one other then other else one)])):=by
  refine aN (ρ':=[.lst (L.map enP),.int more,enP one,.uD,.uD]) (k_ (aH rfl (aH rfl (aK (aD rfl rfl) lL) g0) e1) rfl) ?_;refine aN (ρ':=[.lst (L.map enP),.int more,enP one,.lst (R.map enP),.uD]) (cA (mV (g8 rfl rfl) (by rw [List.length_map,bK];lia) ?_)) ?_
  ·rw [fO _ enP (fun x=>!decide (x=one)) enP]
   ·rfl
   ·intro acc p;exact jJ (ρ:=[.lst (L.map enP),.int more,enP one,.uD,.uD]) rfl (dC (aH rfl rfl (X_ p one))) fun _=>⟨rfl,rfl⟩
  refine aN (ρ':=[.lst (L.map enP),.int more,enP one,.lst (R.map enP),enP other]) (k_ (aH rfl (aH (aH rfl (aK (aD rfl rfl) lL) g1) (aK (aD rfl rfl) lR) g2) e3) rfl) ?_;exact lY (gC (aD (aK (aD rfl (aD rfl rfl)) mn) (aD (aK (aD rfl (aD rfl rfl)) mx) rfl)) (by rw [bK];simp)) rfl
 have ev:fQ [.lst (L.map enP),.int more]=.ok (.tup [enP (if ltP other one then other else one),enP (if ltP one other then other else one)]):=by
  show (do let r <- pX _;aBx r)=_;rw [show ([D.lst (L.map enP),D.int more]++List.replicate (5-2) D.uD)=[.lst (L.map enP),.int more,.uD,.uD,.uD] from rfl,body];rfl
 rcases tri with h|h
 ·have n:¬ltP other one:=fun z=>ZF z h
  rw [if_neg n,if_pos h] at ev;exact ⟨one,other,h1,h4.1,h,ev⟩
 ·rw [if_pos h,if_neg (ZF h)] at ev;exact ⟨other,one,h4.1,h1,h,ev⟩
end Lk07
end
section
namespace Lk07
open PySem L2 Mi
noncomputable def rb1:FS:=(aG2 3 (b2 (aU .mod) (b2 (aU .add) (b2 (aU .fdiv) gD (b2 (aU .add) dX cV)) (b2 (aU .mul) dX dX)) (b2 (aU .add) dX cV)) dX)
noncomputable def rb2:FS:=(nJ 5 (cJ (aC (cJ (aC cU (aC (b2 getD bQ dX) aO))) (aC (b2 getD dY dX) aO))))
noncomputable def rb3:FS:=(bT (cL false 6 (lC bQ (dH (b2 (aU .add) (aL iD (aC dY aO)) (b2 (aU .mul) v5 dX))) (dH (b2 (aU .add) (b2 (aU .add) (aL iD (aC dY aO)) (b2 (aU .mul) v5 dX)) v5))) true) (nJ 5 (cJ (aC (cJ (aC cU (aC (aL (cP .lt) (aC mH aO)) aO))) (aC (cJ (aC cU (aC (aL (cP .gt) (aC mH aO)) aO))) aO)))))
theorem xU {a0 a1 a5 a6:D} {seed:Int}:∀(n k:Nat) (S:List Int) (x4:D),S.length=k->(∀s∈S,0<=s/\s<k)->S.Nodup->k+n<=10000->∃(S':List Int) (y4:D),S'.length=k+n/\(∀s∈S',0<=s/\s<(k+n:Nat))/\S'.Nodup/\
  qN (tg1 4) rb1 ((List.range' k n).map fun (j:Nat)=>D.int (0+(j:Int))) [a0,a1,.int seed,.lst (S.map D.int),x4,a5,a6]=.ok (.nx [a0,a1,.int seed,.lst (S'.map D.int),y4,a5,a6])
 | 0,k,S,x4,h1,h2,h3,_=>⟨S,x4,h1,by simpa using h2,h3,rfl⟩
 | n+1,k,S,x4,h1,h2,h3,hl=>by
  rw [List.range'_succ,List.map_cons];generalize hkk:(0+(k:Int))=kk;have hkk':kk=(k:Int):=by lia
  have hsq:kk*kk<=10000*10000:=Int.mul_le_mul (by lia) (by lia) (by lia) (by lia);have hsq0:0<=kk*kk:=Int.mul_nonneg (by lia) (by lia);have g1:=eV kk 1;have g2:=gJ seed (kk+1) (by lia) (by lia);have g3:=W3 kk kk (j_ _ (by lia) (by lia));have g4:=eV (seed / (kk+1)) (kk*kk);have g5:=eX (seed / (kk+1)+kk*kk) (kk+1) (by lia);generalize hj:(seed / (kk+1)+kk*kk) % (kk+1)=j at g5;have j0:0<=j:=by rw [<-hj];exact Int.emod_nonneg _ (by lia)
  have j1:j<kk+1:=by rw [<-hj];exact Int.emod_lt_of_pos _ (by lia)
  have hperm:(S.take j.toNat++kk::S.drop j.toNat).Perm (kk::S):=by
   refine List.perm_middle.trans ?_;rw [List.take_append_drop]
  obtain ⟨S',y4,i1,i2,i3,i4⟩:=xU (a0:=a0) (a1:=a1) (a5:=a5) (a6:=a6) (seed:=seed) n (k+1) (S.take j.toNat++kk::S.drop j.toNat) (.int kk) (by rw [hperm.length_eq,List.length_cons,h1]) (fun s hs=>by
   rcases List.mem_cons.mp (hperm.mem_iff.mp hs) with rfl|hs
   ·lia
   ·have:=h2 s hs;lia) (hperm.nodup_iff.mpr (List.nodup_cons.mpr ⟨fun z=>by have:=h2 _ z;lia,h3⟩)) (by lia)
  refine ⟨S',y4,by lia,fun s hs=>by have:=i2 s hs;lia,i3,?_⟩;refine cX (ρ1:=[a0,a1,.int seed,.lst (S.map D.int),.int kk,a5,a6]) rfl (aGn (xs:=S.map D.int) (aH (aH (aH rfl (aH rfl rfl g1) g2) (aH rfl rfl g3) g4) (aH rfl rfl g1) g5) rfl rfl (by rw [List.length_map,bK];lia) rfl j0 (by rw [List.length_map];lia)) ?_;rw [<-i4];have:(S.map D.int).take j.toNat++D.int kk::(S.map D.int).drop j.toNat=(S.take j.toNat++kk::S.drop j.toNat).map D.int:=by simp
  rw [<-this];rfl
end Lk07
end
section
namespace Lk07
open PySem L2 Mi
def rim (s:Int):Pt:=(0,s)
theorem vO (T:List Tie) (t:Tie):ends (T++[t])=ends T++[t.1,t.2]:=by simp [ends]
theorem aH5 {bare seed:Int} {a6:D} {L:List Pt} {S:List Int} (hL:∀p∈L,0<p.1):∀(n k:Nat) (T:List Tie) (x4:D),L.length=k+n->k+n<=S.length->T.length+n<=10000->∃(T':List Tie) (y4:D),(ends T').Perm (ends T++(L.drop k++((S.drop k).take n).map rim))/\(∀t∈T',t∈T\/ltP t.1 t.2)/\T'.length=T.length+n/\
  qN (tg1 4) rb2 ((List.range' k n).map fun (j:Nat)=>D.int (0+(j:Int))) [.lst (L.map enP),.int bare,.int seed,.lst (S.map D.int),x4,.lst (T.map bH),a6]=.ok (.nx [.lst (L.map enP),.int bare,.int seed,.lst (S.map D.int),y4,.lst (T'.map bH),a6])
 | 0,k,T,x4,h1,_,_=>⟨T,x4,by rw [List.drop_of_length_le (by lia)];simp,fun t ht=>.inl ht,rfl,rfl⟩
 | n+1,k,T,x4,h1,h2,h3=>by
  have hk1:k<L.length:=by lia
  have hk2:k<S.length:=by lia
  have e1:getD (.lst (S.map D.int)) (.int (0+(k:Int)))=.ok (.int S[k]):=by
   obtain ⟨h,e⟩:=zQ (S.map D.int) (0+(k:Int)) (by lia) (by rw [List.length_map];lia);rw [e];simp
  have e2:getD (.lst (L.map enP)) (.int (0+(k:Int)))=.ok (enP L[k]):=by
   obtain ⟨h,e⟩:=zQ (L.map enP) (0+(k:Int)) (by lia) (by rw [List.length_map];lia);rw [e];simp
  have hpos:=hL L[k] (List.getElem_mem _);obtain ⟨T',y4,i1,i2,i3,i4⟩:=aH5 (bare:=bare) (seed:=seed) (a6:=a6) (S:=S) hL n (k+1) (T++[(rim S[k],L[k])]) (.int (0+(k:Int))) (by lia) (by lia) (by simp;lia);refine ⟨T',y4,?_,fun t ht=>?_,by rw [i3];simp;lia,?_⟩
  ·refine i1.trans ?_;rw [vO,List.append_assoc];refine List.Perm.append_left _ ?_;rw [List.drop_eq_getElem_cons hk1,List.drop_eq_getElem_cons hk2,List.take_succ_cons,List.map_cons];show (rim S[k]::L[k]::(L.drop (k+1)++((S.drop (k+1)).take n).map rim)).Perm (L[k]::(L.drop (k+1)++rim S[k]::((S.drop (k+1)).take n).map rim));exact (List.Perm.swap ..).trans (List.Perm.cons _ List.perm_middle.symm)
  ·rcases i2 t ht with h|h
   ·rcases List.mem_append.mp h with h|h
    ·exact .inl h
    ·have:t=(rim S[k],L[k]):=by simpa using h
     subst this;exact .inr (.inl hpos)
   ·exact .inr h
  ·rw [List.range'_succ,List.map_cons];refine cX rfl (u5 (gC (aD (gC (aD rfl (aD (aH rfl rfl e1) rfl)) (by rw [bK];simp)) (aD (aH rfl rfl e2) rfl)) (by rw [bK];simp)) rfl (by rw [List.length_map,bK];lia) rfl) ?_;rw [<-i4,List.map_append];rfl
theorem oM {a:FE} {l h:List D->Res (Option Int)} {ρ:List D} {x:D} {i j:Option Int} {d:D} (h1:a ρ=.ok x) (h2:l ρ=.ok i) (h3:h ρ=.ok j) (h4:PK x i j=.ok d):lC a l h ρ=.ok d:=by
 unfold lC;rw [h1,Res.aY,h2,Res.aY,h3,Res.aY,h4]
theorem eN {a:FE} {ρ:List D} {i:Int} (h1:a ρ=.ok (.int i)):dH a ρ=.ok (some i):=by
 unfold dH;rw [h1,Res.aY];rfl
theorem aH6 (o:jE) (a b:Int) (r:Int->Int->Prop) [∀x y,Decidable (r x y)] (h:∀x y,fG o (.int x) (.int y)=some (decide (r x y))):cP o [.lst [.int a,.int b]]=.ok (.int (if r b a then b else a)):=by
 show pL o [.int a,.int b]=_;have hall:([D.int a,D.int b].all fun x=>x.cG aZ&&[D.int a,D.int b].all fun y=>(fG o x y).isSome)=true:=by
  simp only [List.all_cons,List.all_nil,h,Option.isSome_some,Bool.and_true];rfl
 rw [pL,if_pos hall];simp only [List.foldl_cons,List.foldl_nil,h,Option.getD_some];by_cases hr:r b a
 ·simp [hr]
 ·simp [hr]
theorem aH7 {bare seed:Int} {L:List Pt} {S:List Int} (hS:S.Nodup) (hb:S.length<=10000):∀(n k:Nat) (T:List Tie) (x4 x6:D),L.length+2*(k+n)=S.length->T.length+n<=10000->∃(T':List Tie) (y4 y6:D),(ends T').Perm (ends T++(S.drop (L.length+2*k)).map rim)/\(∀t∈T',t∈T\/ltP t.1 t.2)/\T'.length=T.length+n/\
  qN (tg1 4) rb3 ((List.range' k n).map fun (j:Nat)=>D.int (0+(j:Int))) [.lst (L.map enP),.int bare,.int seed,.lst (S.map D.int),x4,.lst (T.map bH),x6]=.ok (.nx [.lst (L.map enP),.int bare,.int seed,.lst (S.map D.int),y4,.lst (T'.map bH),y6])
 | 0,k,T,x4,x6,h1,_=>⟨T,x4,x6,by rw [List.drop_of_length_le (by lia)];simp,fun t ht=>.inl ht,rfl,rfl⟩
 | n+1,k,T,x4,x6,h1,h3=>by
  have hi:L.length+2*k<S.length:=by lia
  have hi2:L.length+2*k+1<S.length:=by lia
  have hd:S.drop (L.length+2*k)=S[L.length+2*k]::S[L.length+2*k+1]::S.drop (L.length+2*(k+1)):=by
   rw [List.drop_eq_getElem_cons hi,List.drop_eq_getElem_cons hi2];rfl
  generalize ha:S[L.length+2*k]=a at hd;generalize hb':S[L.length+2*k+1]=b at hd;have hab:a≠b:=by
   have:=(List.drop_sublist (L.length+2*k) S).nodup hS;rw [hd,List.nodup_cons] at this;intro z;subst z;exact this.1 (List.mem_cons_self ..)
  have lL:iD [.lst (L.map enP)]=.ok (.int L.length):=by rw [pD,List.length_map]
  generalize hkk:(0+(k:Int))=kk;have m2:=vA 2 kk (j_ _ (by lia) (by lia));have a1:=eV L.length (2*kk);have a2:=eV (L.length+2*kk) 2;have sl:aEx (.lst (S.map D.int)) (some (L.length+2*kk)) (some (L.length+2*kk+2))=.ok (.lst [.int a,.int b]):=by
   simp only [aEx,o7,if_true]
   congr 2
   have e1:wW (S.map D.int).length 0 (some ((L.length:Int)+2*kk))=L.length+2*k:=by
    simp only [wW,List.length_map];rw [if_neg (by lia)];lia
   have e2:wW (S.map D.int).length (S.map D.int).length (some ((L.length:Int)+2*kk+2))=L.length+2*k+2:=by
    simp only [wW,List.length_map];rw [if_neg (by lia)];lia
   unfold cutD;rw [e1,e2,<-List.map_drop,hd,show L.length+2*k+2-(L.length+2*k)=2 by lia];rfl
  have mn:=aH6 .lt a b (fun x y=>x<y) fun x y=>rfl
  have mx:=aH6 .gt a b (fun x y=>y<x) fun x y=>rfl
  have main:∃u v:Int,(u=a/\v=b\/u=b/\v=a)/\u<v/\cP .lt [.lst [.int a,.int b]]=.ok (.int u)/\cP .gt [.lst [.int a,.int b]]=.ok (.int v):=by
   by_cases hlt:b<a
   ·rw [if_pos hlt] at mn;rw [if_neg (by lia)] at mx;exact ⟨b,a,.inr ⟨rfl,rfl⟩,hlt,mn,mx⟩
   ·rw [if_neg hlt] at mn;rw [if_pos (by lia)] at mx;exact ⟨a,b,.inl ⟨rfl,rfl⟩,by lia,mn,mx⟩
  obtain ⟨u,v,huv,hlt,mn,mx⟩:=main;obtain ⟨T',y4,y6,i1,i2,i3,i4⟩:=aH7 (bare:=bare) (seed:=seed) (L:=L) hS hb n (k+1) (T++[(rim u,rim v)]) (.int kk) (.lst [.int a,.int b]) (by lia) (by simp;lia);refine ⟨T',y4,y6,?_,fun t ht=>?_,by rw [i3];simp;lia,?_⟩
  ·refine i1.trans ?_;rw [vO,List.append_assoc];refine List.Perm.append_left _ ?_;rw [hd];rcases huv with ⟨rfl,rfl⟩|⟨rfl,rfl⟩
   ·exact List.Perm.refl _
   ·exact List.Perm.swap ..
  ·rcases i2 t ht with h|h
   ·rcases List.mem_append.mp h with h|h
    ·exact .inl h
    ·have:t=(rim u,rim v):=by simpa using h
     subst this;exact .inr (.inr ⟨rfl,hlt⟩)
   ·exact .inr h
  ·rw [List.range'_succ,List.map_cons,hkk];refine cX rfl (aN (cA (oM rfl (eN (aH (aK (aD rfl rfl) lL) (aH rfl rfl m2) a1)) (eN (aH (aH (aK (aD rfl rfl) lL) (aH rfl rfl m2) a1) rfl a2)) sl)) (u5 (gC (aD (gC (aD rfl (aD (aK (aD rfl rfl) mn) rfl)) (by rw [bK];simp)) (aD (gC (aD rfl (aD (aK (aD rfl rfl) mx) rfl)) (by rw [bK];simp)) rfl)) (by rw [bK];simp)) rfl (by rw [List.length_map,bK];lia) rfl)) ?_;rw [<-i4,List.map_append];rfl
theorem YB (L:List Pt) (bare:Nat) (seed:Int) (hL:∀p∈L,0<p.1) (hl:L.length+2*bare<=5000):∃(R:List Tie) (S:List Int),S.Nodup/\(∀s∈S,0<=s/\s<S.length)/\(ends R).Perm (L++S.map rim)/\(∀t∈R,ltP t.1 t.2)/\R.length=L.length+bare/\iK [.lst (L.map enP),.int bare,.int seed]=.ok (.lst (R.map bH)):=by
 have lL:iD [.lst (L.map enP)]=.ok (.int L.length):=by rw [pD,List.length_map]
 have m2:=vA 2 (bare:Int) (j_ _ (by lia) (by lia));have a1:=eV L.length (2*(bare:Int));obtain ⟨S,y4,s1,s2,s3,s4⟩:=xU (a0:=.lst (L.map enP)) (a1:=.int bare) (a5:=.uD) (a6:=.uD) (seed:=seed) (L.length+2*bare) 0 [] .uD rfl (by simp) List.nodup_nil (by lia);obtain ⟨T1,z4,t1,t2,t3,t4⟩:=aH5 (bare:=bare) (seed:=seed) (a6:=.uD) (L:=L) (S:=S) hL L.length 0 [] y4 (by lia) (by lia) (by simp;lia);obtain ⟨T2,w4,w6,u1,u2,u3,u4⟩:=aH7 (bare:=bare) (seed:=seed) (L:=L) (S:=S) s3 (by lia) bare 0 T1 z4 .uD (by lia) (by rw [t3];simp;lia);refine ⟨T2,S,s3,fun s hs=>by have:=s2 s hs;lia,?_,fun t ht=>?_,by rw [u3,t3];simp,?_⟩
 ·refine u1.trans ?_;have t1':(ends T1).Perm (L++(S.take L.length).map rim):=by simpa [ends] using t1
  refine (t1'.append_right _).trans ?_;rw [List.append_assoc,<-List.map_append];simp only [Nat.mul_zero,Nat.add_zero];rw [List.take_append_drop]
 ·rcases u2 t ht with h|h
  ·rcases t2 t h with h|h
   ·cases h
   ·exact h
  ·exact h
 ·have e:m5 [.lst (L.map enP),.int bare,.int seed,.uD,.uD,.uD,.uD]=.ok (.rt (.lst (T2.map bH))):=by
   refine aN (fJ rfl rfl) ?_;refine aN (ρ':=[.lst (L.map enP),.int bare,.int seed,.lst (S.map D.int),y4,.uD,.uD]) (qZ (xN (n:=L.length+2*(bare:Int)) (aD (aH (aK (aD rfl rfl) lL) (aH rfl rfl m2) a1) rfl) (by lia) (by lia)) ?_) ?_
   ·rw [<-s4,show ((L.length:Int)+2*(bare:Int)).toNat=L.length+2*bare by lia,List.range_eq_range'];rfl
   refine aN (fJ rfl rfl) ?_;refine aN (ρ':=[.lst (L.map enP),.int bare,.int seed,.lst (S.map D.int),z4,.lst (T1.map bH),.uD]) (qZ (xN (n:=L.length) (aD (aK (aD rfl rfl) lL) rfl) (by lia) (by lia)) ?_) ?_
   ·rw [<-t4,show ((L.length:Int)).toNat=L.length by lia,List.range_eq_range'];rfl
   refine aN (ρ':=[.lst (L.map enP),.int bare,.int seed,.lst (S.map D.int),w4,.lst (T2.map bH),w6]) (qZ (xN (n:=bare) (aD rfl rfl) (by lia) (by lia)) ?_) ?_
   ·rw [<-u4,show ((bare:Int)).toNat=bare by lia,List.range_eq_range'];rfl
   rfl
  show (do let r <- m5 _;aBx r)=_;rw [show ([D.lst (L.map enP),D.int bare,D.int seed]++List.replicate (7-3) D.uD)=[.lst (L.map enP),.int bare,.int seed,.uD,.uD,.uD,.uD] from rfl,e];rfl
end Lk07
end
section
namespace Lk07
open PySem L2 Mi
noncomputable def gbr:FS:=(sIf (VN (bTB (b2 (bL (.ord .lt)) (b2 (aU .mod) iI yP) aEw)) (bTB (b2 (bL (.ord .lt)) (aL iD (aC dX aO)) v8))) (bT (cL false 7 (b2 (aU .add) (b2 (aU .add) nQ cV) (b2 (aU .mod) (b2 (aU .fdiv) nO (aL iD (aC bQ aO))) (b2 (aU .pow) v8 aIg))) true) (bT (nJ 4 (cJ (aC nQ (aC (b2 getD bQ (b2 (aU .mod) nO (aL iD (aC bQ aO)))) aO)))) (cL false 5 (b2 (aU .add) fK (gF 13 (rQ (aC (b2 (aU .add) (b2 getD dY (b2 getD bQ (b2 (aU .mod) nO (aL iD (aC bQ aO))))) cV) aO) qL) pM (n_) (cJ (aC nQ (aC iW aO))) false)) true))) (sIf (VN (bTB (bCh (bL (.ord .le)) (bL (.ord .lt)) aEw (b2 (aU .mod) iI yP) aFz)) (bTB (b2 (bL (.ord .gt)) (aL iD (aC o9 aO)) cV))) (bT (nJ 6 (aL (dI 2 fQ) (aC o9 (aC nO aO)))) (cL false 5 (gF 13 (eQ fK false) pM (bTB (b2 (bL .notin) iW (b2 getD mH (b1 S7 cV)))) iW false) true)) (sIf (bTB (b2 (bL .eq) (b2 (aU .mod) iI yP) aFz)) (cL false 8 (b2 (aU .add) tB cV) true) (sIf (bTB (b2 (bL .eq) (b2 (aU .mod) iI yP) aDe)) (cL false 9 (b2 (aU .add) JZ (b2 (aU .mod) nO (b2 (aU .pow) v8 aA3))) true) (iT)))))
noncomputable def YC:FS:=(bT (cL false 11 (b2 (aU .fdiv) iI yP) true) (bT (sAl 12 5) (bT (sIf (bTB (b2 (bL .eq) (b2 (aU .mod) iI yP) aHo)) (cL false 12 (gF 13 (eQ fK false) pM (bTB (b2 (bL .eq) (b2 getD iW cV) cU)) iW false) true) (iT)) gbr)))
noncomputable def vOf (kvs:List (D×D)) (s:Str):Nat:=match bN kvs (.str s) with
 | some (.int v)=>v.toNat
 | _=>0
theorem xV {kvs:List (D×D)} {s:Str} {v:Nat} (h:bN kvs (.str s)=some (.int v)):vOf kvs s=v:=by
 unfold vOf;rw [h];rfl
noncomputable def aH8 (kvs:List (D×D)) (pc:Pc):List Pt:=(List.range (vOf kvs pc.2+1)).map fun (h:Nat)=>((pc.1,(h:Int)):Pt)
def hks (kvs:List (D×D)) (Q:List Pc):List Pt:=Q.flatMap (aH8 kvs)
structure Gr (kvs:List (D×D)) (Q:List Pc) (L:List Pt) (T:List Tie) (num:Int):Prop where
 nd:(ends T++L).Nodup
 qn:(Q.map (·.1)).Nodup
 qb:∀pc∈Q,0<pc.1/\pc.1<=num
 n0:0<=num
 chf:∀pc∈Q,(pc.1,(0:Int))∈ends T++L
 num:∀e∈ends T++L,e.1∈Q.map (·.1)
 lt:∀t∈T,ltP t.1 t.2
 ll:L.length<=7*Q.length
 ql:Q.length<=10
 qs:Q.Pairwise fun a b=>a.1<b.1
 pm:(ends T++L).Perm (hks kvs Q)
 sk:∀pc∈Q,∃v:Nat,v<=6/\bN kvs (.str pc.2)=some (.int v)
theorem Gr.perm {kvs:List (D×D)} {Q:List Pc} {L L':List Pt} {T T':List Tie} {num:Int} (g:Gr kvs Q L T num) (p:(ends T'++L').Perm (ends T++L)) (hlt:∀t∈T',ltP t.1 t.2) (hl:L'.length<=L.length):Gr kvs Q L' T' num:=
 ⟨p.nodup_iff.mpr g.nd,g.qn,g.qb,g.n0,fun pc h=>p.mem_iff.mpr (g.chf pc h),fun e h=>g.num e (p.mem_iff.mp h),hlt,Nat.le_trans hl g.ll,g.ql,g.qs,p.trans g.pm,g.sk⟩
theorem Gr.ln {kvs:List (D×D)} {Q:List Pc} {L:List Pt} {T:List Tie} {num:Int} (g:Gr kvs Q L T num):L.Nodup:=(List.nodup_append.mp g.nd).2.1
theorem Gr.tie {kvs:List (D×D)} {Q:List Pc} {L:List Pt} {T:List Tie} {num:Int} (g:Gr kvs Q L T num) {a b:Pt} (ha:a∈L) (hb:b∈L) (h:ltP a b):Gr kvs Q (L.filter fun x=>!(decide (a=x)||decide (b=x))) (T++[(a,b)]) num:=by
 have hab:a≠b:=fun z=>by subst z;simp only [ltP] at h;lia
 have split:∀{L:List Pt},L.Nodup->a∈L->b∈L->(a::b::L.filter fun x=>!(decide (a=x)||decide (b=x))).Perm L:=by
  intro L hn ha hb;refine (List.perm_iff_count).mpr fun x=>?_
  rw [List.count_cons,List.count_cons];have hc:∀{M:List Pt} (y:Pt),M.Nodup->List.count y M=if y∈M then 1 else 0:=fun {M} y hm=>List.Nodup.count hm
  rw [hc x hn,hc x (List.filter_sublist.nodup hn)];simp only [List.mem_filter,Bool.not_eq_true',Bool.or_eq_false_iff,decide_eq_false_iff_not,beq_iff_eq];by_cases h1:a=x
  ·subst h1;have:¬b=a:=fun z=>hab z.symm
   simp [ha,this]
  ·by_cases h2:b=x
   ·subst h2;simp [hb,h1]
   ·simp [h1,h2]
 refine g.perm ?_ (fun t ht=>?_) (List.length_filter_le ..)
 ·rw [vO,List.append_assoc];exact List.Perm.append_left _ (split g.ln ha hb)
 ·rcases List.mem_append.mp ht with ht|ht
  ·exact g.lt t ht
  ·have:t=(a,b):=by simpa using ht
   subst this;exact h
theorem Gr.piece {kvs:List (D×D)} {Q:List Pc} {L:List Pt} {T:List Tie} {num:Int} (g:Gr kvs Q L T num) {n:Int} {s:Str} {v:Nat} (hn:num<n) (hv:v<=6) (hlk:bN kvs (.str s)=some (.int v)) (hq:Q.length<10):Gr kvs (Q++[(n,s)]) (L++(List.range (v+1)).map fun (h:Nat)=>((n,(h:Int)):Pt)) T n:=by
 have old:∀e∈ends T++L,e.1<=num:=fun e he=>by
  obtain ⟨pc,h1,h2⟩:=List.mem_map.mp (g.num e he);have:=g.qb pc h1;lia
 have newm:∀e∈(List.range (v+1)).map (fun (h:Nat)=>((n,(h:Int)):Pt)),e.1=n:=fun e he=>by
  obtain ⟨h,_,rfl⟩:=List.mem_map.mp he;rfl
 refine ⟨?_,?_,fun pc h=>?_,by have:=g.n0;lia,fun pc h=>?_,fun e he=>?_,g.lt,?_,by simp;lia,List.pairwise_append.mpr ⟨g.qs,by simp,fun a ha b hb=>by have:=g.qb a ha;rw [show b=(n,s) from by simpa using hb];show a.1<n;lia⟩,?_,fun pc h=>?_⟩
 ·rw [<-List.append_assoc];refine List.nodup_append.mpr ⟨g.nd,?_,fun a ha b hb z=>?_⟩
  ·refine List.Pairwise.map _ ?_ List.nodup_range;intro a b hab z;have:(a:Int)=b:=congrArg Prod.snd z;lia
  ·subst z;have:=old a ha;rw [newm a hb] at this;lia
 ·rw [List.map_append];refine List.nodup_append.mpr ⟨g.qn,by simp,fun a ha b hb z=>?_⟩;subst z;obtain ⟨pc,h1,h2⟩:=List.mem_map.mp ha;have:=g.qb pc h1;have:a=n:=by simpa using hb
  lia
 ·rcases List.mem_append.mp h with h|h
  ·have:=g.qb pc h;lia
  ·have:pc=(n,s):=by simpa using h
   subst this;have:=g.n0;show 0<n/\n<=n;lia
 ·rw [<-List.append_assoc];rcases List.mem_append.mp h with h|h
  ·exact List.mem_append_left _ (g.chf pc h)
  ·have:pc=(n,s):=by simpa using h
   subst this;exact List.mem_append_right _ (List.mem_map.mpr ⟨0,by simp,rfl⟩)
 ·rw [<-List.append_assoc] at he;rw [List.map_append];rcases List.mem_append.mp he with he|he
  ·exact List.mem_append_left _ (g.num e he)
  ·rw [newm e he];exact List.mem_append_right _ (by simp)
 ·have:=g.ll;simp;lia
 ·rw [<-List.append_assoc];have e:hks kvs (Q++[(n,s)])=hks kvs Q++(List.range (v+1)).map fun (h:Nat)=>((n,(h:Int)):Pt):=by
   simp only [hks,List.flatMap_append,List.flatMap_cons,List.flatMap_nil,List.append_nil,aH8,xV hlk]
  rw [e];exact g.pm.append_right _
 ·rcases List.mem_append.mp h with h|h
  ·exact g.sk pc h
  ·have:pc=(n,s):=by simpa using h
   subst this;exact ⟨v,hv,hlk⟩
end Lk07
end
section
namespace Lk07
open PySem L2 Mi
section
variable {kvs:List (D×D)} {cells:D} {seed:Int} {NS:List Str}
@[reducible] noncomputable def St (kvs:List (D×D)) (cells:D) (seed:Int) (NS:List Str) (Q:List Pc) (L:List Pt) (T:List Tie) (num bare rings:Int) (c m sm:D):List D:=
 [.dct kvs,cells,.int seed,.lst (NS.map D.str),.lst (Q.map pcD),.lst (L.map enP),.lst (T.map bH),.int num,.int bare,.int rings,c,m,sm]
theorem aH9 {Q:List Pc} {L:List Pt} {T:List Tie} {num bare rings c:Int} {m sm:D} (hl:L.length<=10000):∃SM:List Pt,SM.Sublist L/\∀r,gbr (St kvs cells seed NS Q L T num bare rings (.int c) (.int (c / 8)) (.lst (SM.map enP)))=r->YC (St kvs cells seed NS Q L T num bare rings (.int c) m sm)=r:=by
 have f8:=gJ c 8 (by decide) (by decide);have m8:=eX c 8 (by decide);have ce:bL .eq (.int (c % 8)) (.int 5)=.ok (.bl (c % 8==5)):=rfl;have s1:cL false 11 (b2 (aU .fdiv) iI yP) true (St kvs cells seed NS Q L T num bare rings (.int c) m sm)=.ok (.nx (St kvs cells seed NS Q L T num bare rings (.int c) (.int (c / 8)) sm)):=cA (aH rfl rfl f8);have s2:sAl 12 5 (St kvs cells seed NS Q L T num bare rings (.int c) (.int (c / 8)) sm)=.ok (.nx (St kvs cells seed NS Q L T num bare rings (.int c) (.int (c / 8)) (.lst (L.map enP)))):=aIm rfl;have tc:bTB (b2 (bL .eq) (b2 (aU .mod) iI yP) aHo) (St kvs cells seed NS Q L T num bare rings (.int c) (.int (c / 8)) (.lst (L.map enP)))=.ok (c % 8==5):=dC (aH (aH rfl rfl m8) rfl ce);unfold YC;cases h:(c % 8==5) with
 | true=>
  rw [h] at tc;refine ⟨L.filter fun x=>x.2==0,List.filter_sublist,fun r hr=>?_⟩;have cf:gF 13 (eQ fK false) pM (bTB (b2 (bL .eq) (b2 getD iW cV) cU)) iW false (St kvs cells seed NS Q L T num bare rings (.int c) (.int (c / 8)) (.lst (L.map enP)))=.ok (.lst ((L.filter fun x=>x.2==0).map enP)):=by
   refine mV (g8 rfl rfl) (by rw [List.length_map,bK];lia) ?_;rw [fO _ enP (fun x=>x.2==0) enP]
   ·rfl
   ·intro acc p;have e1:b2 getD iW cV (St kvs cells seed NS Q L T num bare rings (.int c) (.int (c / 8)) (.lst (L.map enP))++[enP p])=.ok (.int p.2):=aH (x:=enP p) (y:=.int 1) rfl rfl rfl;have e2:bL .eq (.int p.2) (.int 0)=.ok (.bl (p.2==0)):=rfl;exact jJ (ρ:=St kvs cells seed NS Q L T num bare rings (.int c) (.int (c / 8)) (.lst (L.map enP))) rfl (dC (aH e1 rfl e2)) fun _=>⟨rfl,rfl⟩
  have s3:sIf (bTB (b2 (bL .eq) (b2 (aU .mod) iI yP) aHo)) (cL false 12 (gF 13 (eQ fK false) pM (bTB (b2 (bL .eq) (b2 getD iW cV) cU)) iW false) true) iT (St kvs cells seed NS Q L T num bare rings (.int c) (.int (c / 8)) (.lst (L.map enP)))=.ok (.nx (St kvs cells seed NS Q L T num bare rings (.int c) (.int (c / 8)) (.lst ((L.filter fun x=>x.2==0).map enP)))):=PB tc (cA cf);exact aN s1 (aN s2 (aN s3 hr))
 | false=>
  rw [h] at tc;refine ⟨L,List.Sublist.refl _,fun r hr=>?_⟩;exact aN s1 (aN s2 (aN (nR tc rfl) hr))
theorem mK (NS:List Str) (i:Int) (h0:0<=i) (h1:i<NS.length):∃s∈NS,getD (.lst (NS.map D.str)) (.int i)=.ok (.str s):=by
 obtain ⟨h,e⟩:=zQ (NS.map D.str) i h0 (by simpa using h1);rw [List.length_map] at h;refine ⟨NS[i.toNat],List.getElem_mem _,?_⟩;rw [e];simp
theorem G6 {s:Str}:∀{kvs:List (D×D)},bV kvs->D.str s∈eO kvs->∃v:Nat,v<=6/\bN kvs (.str s)=some (.int v)
 | [],_,hm=>by cases hm
 | p::r,h,hm=>by
  obtain ⟨s',v,rfl,h0,h1⟩:=h _ (List.mem_cons_self ..);rw [bN];by_cases e:eqD (.str s') (.str s)=true
  ·rw [if_pos e];exact ⟨v.toNat,by lia,by congr 2;lia⟩
  ·rw [if_neg e];refine G6 (fun p hp=>h p (List.mem_cons_of_mem _ hp)) ?_;rcases List.mem_cons.mp (show D.str s∈D.str s'::eO r from hm) with z|z
   ·cases z;exact absurd (by simp [eqD]) e
   ·exact z
theorem aK7 (Q:List Pc):iD [.lst (Q.map pcD)]=.ok (.int Q.length):=by rw [pD,List.length_map]
theorem aIv (Q:List Str):iD [.lst (Q.map D.str)]=.ok (.int Q.length):=by rw [pD,List.length_map]
theorem aK8 (Q:List Pt):iD [.lst (Q.map enP)]=.ok (.int Q.length):=by rw [pD,List.length_map]
end
end Lk07
end
section
namespace Lk07
open PySem L2 Mi
section
variable {kvs:List (D×D)} {cells:D} {seed:Int} {NS:List Str}
theorem aEd (hst:bV kvs) (hNS:eO kvs=NS.map D.str) (hne:NS≠[]) (hNl:NS.length<=1000) {Q:List Pc} {L:List Pt} {T:List Tie} {num rings c:Int} {bare:Nat} {m sm:D} (g:Gr kvs Q L T num) (hT:T.length<=1000) (hb:bare<=1000) (hr:0<=rings) :
  ∃(Q':List Pc) (L':List Pt) (T':List Tie) (num' rings':Int) (bare':Nat) (m' sm':D),Gr kvs Q' L' T' num'/\0<=rings'/\T'.length<=T.length+1/\bare'<=bare+1/\YC (St kvs cells seed NS Q L T num bare rings (.int c) m sm)=.ok (.nx (St kvs cells seed NS Q' L' T' num' bare' rings' (.int c) m' sm')):=by
 have hll:=g.ll;have hql:=g.ql;obtain ⟨SM,hSM,pre⟩:=aH9 (kvs:=kvs) (cells:=cells) (seed:=seed) (NS:=NS) (Q:=Q) (L:=L) (T:=T) (num:=num) (bare:=bare) (rings:=rings) (c:=c) (m:=m) (sm:=sm) (by lia);have m8:=eX c 8 (by decide);have c4:bL (.ord .lt) (.int (c % 8)) (.int 4)=.ok (.bl (decide (c % 8<4))):=rfl;have c60:bL (.ord .lt) (.int Q.length) (.int 10)=.ok (.bl (decide ((Q.length:Int)<10))):=rfl;have c46:bL (.ord .le) (.int 4) (.int (c % 8))=.ok (.bl (decide (4<=c % 8))):=rfl;have c66:bL (.ord .lt) (.int (c % 8)) (.int 6)=.ok (.bl (decide (c % 8<6))):=rfl;have c1:bL (.ord .gt) (.int SM.length) (.int 1)=.ok (.bl (decide ((1:Int)<SM.length))):=rfl;have e6:bL .eq (.int (c % 8)) (.int 6)=.ok (.bl (c % 8==6)):=rfl;have e7:bL .eq (.int (c % 8)) (.int 7)=.ok (.bl (c % 8==7)):=rfl;have hNp:(0:Int)<(NS.length:Int):=by
  cases NS with
  | nil=>exact absurd rfl hne
  | cons _ _=>simp
 -- the first test
 have t1:∀b,b=(decide (c % 8<4)&&decide ((Q.length:Int)<10))->VN (bTB (b2 (bL (.ord .lt)) (b2 (aU .mod) iI yP) aEw)) (bTB (b2 (bL (.ord .lt)) (aL iD (aC dX aO)) v8)) (St kvs cells seed NS Q L T num bare rings (.int c) (.int (c / 8)) (.lst (SM.map enP)))=.ok b:=by
  rintro b rfl;cases h1:decide (c % 8<4) with
  | true=>rw [h1] at c4;exact aGm (dC (aH (aH rfl rfl m8) rfl c4)) (dC (aH (aK (aD rfl rfl) (aK7 Q)) rfl c60))
  | false=>rw [h1] at c4;exact aDx (dC (aH (aH rfl rfl m8) rfl c4))
 have t2:∀b,b=(decide (4<=c % 8)&&decide (c % 8<6)&&decide ((1:Int)<SM.length))->VN (bTB (bCh (bL (.ord .le)) (bL (.ord .lt)) aEw (b2 (aU .mod) iI yP) aFz)) (bTB (b2 (bL (.ord .gt)) (aL iD (aC o9 aO)) cV)) (St kvs cells seed NS Q L T num bare rings (.int c) (.int (c / 8)) (.lst (SM.map enP)))=.ok b:=by
  rintro b rfl;cases h1:decide (4<=c % 8) with
  | false=>rw [h1] at c46;exact aDx (dC (aIn rfl (aH rfl rfl m8) c46))
  | true=>
   rw [h1] at c46;cases h2:decide (c % 8<6) with
   | false=>rw [h2] at c66;exact aDx (dC (aF0 rfl (aH rfl rfl m8) c46 rfl c66))
   | true=>rw [h2] at c66;exact aGm (dC (aF0 rfl (aH rfl rfl m8) c46 rfl c66)) (dC (aH (aK (aD rfl rfl) (aK8 SM)) rfl c1))
 have fin:∀{r:Res Fl},gbr (St kvs cells seed NS Q L T num bare rings (.int c) (.int (c / 8)) (.lst (SM.map enP)))=r->YC (St kvs cells seed NS Q L T num bare rings (.int c) m sm)=r:=fun {r} h=>pre r h
 cases hA:(decide (c % 8<4)&&decide ((Q.length:Int)<10)) with
 | true=>
  rw [Bool.and_eq_true,decide_eq_true_eq,decide_eq_true_eq] at hA;have T1:=t1 true (by rw [decide_eq_true hA.1,decide_eq_true hA.2];rfl);have gm:=eX (c / 8) NS.length hNp;obtain ⟨s,hs,es⟩:=mK NS (c / 8 % NS.length) (Int.emod_nonneg _ (by lia)) (Int.emod_lt_of_pos _ hNp);obtain ⟨v,hv,ev⟩:=G6 (s:=s) hst (by rw [hNS];exact List.mem_map.mpr ⟨s,hs,rfl⟩);have gs:getD (.dct kvs) (.str s)=.ok (.int v):=by
   show (if keyOk (.str s) then Res.ofOpt (bN kvs (.str s)) else .bad)=_;rw [ev];rfl
  have f1:=gJ (c / 8) NS.length hNp (by lia);obtain ⟨pw,hp,f2⟩:∃pw:Int,0<pw/\aU .pow (.int 10) (.int 9)=.ok (.int pw):=⟨10 ^ 9,by decide,PJ 9 (by decide)⟩
  have f3:=eX (c / 8 / NS.length) pw hp;have f4:=eV num 1;have f5:=eV (num+1) (c / 8 / NS.length % pw);have h9:0<=c / 8 / NS.length % pw:=Int.emod_nonneg _ (by lia);generalize hn:num+1+c / 8 / NS.length % pw=n at f5;have G:=g.piece (n:=n) (s:=s) (v:=v) (by lia) hv ev (by lia);refine ⟨_,_,T,n,rings,bare,.int (c / 8),.lst (SM.map enP),G,hr,by lia,by lia,fin ?_⟩;have s1:cL false 7 (b2 (aU .add) (b2 (aU .add) nQ cV) (b2 (aU .mod) (b2 (aU .fdiv) nO (aL iD (aC bQ aO))) (b2 (aU .pow) v8 aIg))) true (St kvs cells seed NS Q L T num bare rings (.int c) (.int (c / 8)) (.lst (SM.map enP)))=.ok (.nx (St kvs cells seed NS Q L T n bare rings (.int c) (.int (c / 8)) (.lst (SM.map enP)))):=
   cA (aH (aH rfl rfl f4) (aH (aH rfl (aK (aD rfl rfl) (aIv NS)) f1) (aH rfl rfl f2) f3) f5)
  have s2:nJ 4 (cJ (aC nQ (aC (b2 getD bQ (b2 (aU .mod) nO (aL iD (aC bQ aO)))) aO))) (St kvs cells seed NS Q L T n bare rings (.int c) (.int (c / 8)) (.lst (SM.map enP)))=.ok (.nx (St kvs cells seed NS (Q++[(n,s)]) L T n bare rings (.int c) (.int (c / 8)) (.lst (SM.map enP)))):=by
   have d0:cJ (aC nQ (aC (b2 getD bQ (b2 (aU .mod) nO (aL iD (aC bQ aO)))) aO)) (St kvs cells seed NS Q L T n bare rings (.int c) (.int (c / 8)) (.lst (SM.map enP)))=.ok (.tup [.int n,.str s]):=gC (aD rfl (aD (aH rfl (aH rfl (aK (aD rfl rfl) (aIv NS)) gm) es) rfl)) (by rw [bK];simp);refine (u5 (ρ:=St kvs cells seed NS Q L T n bare rings (.int c) (.int (c / 8)) (.lst (SM.map enP))) d0 rfl (by rw [List.length_map,bK];lia) rfl).trans ?_;show _=Res.ok (Fl.nx [.dct kvs,cells,.int seed,.lst (NS.map D.str),.lst ((Q++[(n,s)]).map pcD),.lst (L.map enP),.lst (T.map bH),.int n,.int bare,.int rings,.int c,.int (c / 8),.lst (SM.map enP)]);rw [List.map_append];rfl
  have cf:gF 13 (rQ (aC (b2 (aU .add) (b2 getD dY (b2 getD bQ (b2 (aU .mod) nO (aL iD (aC bQ aO))))) cV) aO) qL) pM (n_) (cJ (aC nQ (aC iW aO))) false (St kvs cells seed NS (Q++[(n,s)]) L T n bare rings (.int c) (.int (c / 8)) (.lst (SM.map enP)))=.ok (.lst (((List.range (v+1)).map fun (h:Nat)=>((n,(h:Int)):Pt)).map enP)):=by
   refine mV (xN (n:=(v:Int)+1) (aD (aH (aH rfl (aH rfl (aH rfl (aK (aD rfl rfl) (aIv NS)) gm) es) gs) rfl (eV v 1)) rfl) (by lia) (by lia)) (by rw [List.length_map,List.length_range,bK];lia) ?_;rw [fO _ (fun (k:Nat)=>D.int (0+(k:Int))) (fun _=>true) (fun (k:Nat)=>enP (n,(k:Int)))]
   ·rw [show ((v:Int)+1).toNat=v+1 by lia];rw [List.filter_eq_self.mpr (fun _ _=>rfl),List.map_map,List.nil_append];rfl
   ·intro acc k;refine jJ (ρ:=St kvs cells seed NS (Q++[(n,s)]) L T n bare rings (.int c) (.int (c / 8)) (.lst (SM.map enP))) rfl rfl fun _=>⟨?_,rfl⟩
    have d1:cJ (aC nQ (aC iW aO)) (St kvs cells seed NS (Q++[(n,s)]) L T n bare rings (.int c) (.int (c / 8)) (.lst (SM.map enP))++[D.int (0+(k:Int))])=.ok (.tup [.int n,.int (0+(k:Int))]):=gC (aD rfl (aD rfl rfl)) (by rw [bK];simp);refine d1.trans ?_;rw [Int.zero_add];rfl
  have s3:cL false 5 (b2 (aU .add) fK (gF 13 (rQ (aC (b2 (aU .add) (b2 getD dY (b2 getD bQ (b2 (aU .mod) nO (aL iD (aC bQ aO))))) cV) aO) qL) pM (n_) (cJ (aC nQ (aC iW aO))) false)) true (St kvs cells seed NS (Q++[(n,s)]) L T n bare rings (.int c) (.int (c / 8)) (.lst (SM.map enP)))=.ok (.nx (St kvs cells seed NS (Q++[(n,s)]) (L++(List.range (v+1)).map fun (h:Nat)=>((n,(h:Int)):Pt)) T n bare rings (.int c) (.int (c / 8)) (.lst (SM.map enP)))):=by
   refine (cA (aH rfl cf (KY (L.map enP) _ (by simp only [List.length_map,List.length_range,bK];lia) (G3 _) (G3 _)))).trans ?_;rw [<-List.map_append];rfl
  exact PB T1 (aN s1 (aN s2 s3))
 | false=>
  have T1:=t1 false hA.symm;cases hB:(decide (4<=c % 8)&&decide (c % 8<6)&&decide ((1:Int)<SM.length)) with
  | true=>
   have T2:=t2 true hB.symm;rw [Bool.and_eq_true,decide_eq_true_eq] at hB;obtain ⟨a,b,ha,hb',hlt,et⟩:=aEc SM (c / 8) (hSM.nodup g.ln) (by lia) (by have:=hSM.length_le;lia);have G:=g.tie (hSM.mem ha) (hSM.mem hb') hlt;refine ⟨Q,_,T++[(a,b)],num,rings,bare,.int (c / 8),.lst (SM.map enP),G,hr,by simp,by lia,fin (nR T1 (PB T2 ?_))⟩;have s1:nJ 6 (aL (dI 2 fQ) (aC o9 (aC nO aO))) (St kvs cells seed NS Q L T num bare rings (.int c) (.int (c / 8)) (.lst (SM.map enP)))=.ok (.nx (St kvs cells seed NS Q L (T++[(a,b)]) num bare rings (.int c) (.int (c / 8)) (.lst (SM.map enP)))):=by
    have d0:aL (dI 2 fQ) (aC o9 (aC nO aO)) (St kvs cells seed NS Q L T num bare rings (.int c) (.int (c / 8)) (.lst (SM.map enP)))=.ok (bH (a,b)):=aK (aD rfl (aD rfl rfl)) ((eF rfl).trans et);refine (u5 (ρ:=St kvs cells seed NS Q L T num bare rings (.int c) (.int (c / 8)) (.lst (SM.map enP))) d0 rfl (by rw [List.length_map,bK];lia) rfl).trans ?_;show _=Res.ok (Fl.nx [.dct kvs,cells,.int seed,.lst (NS.map D.str),.lst (Q.map pcD),.lst (L.map enP),.lst ((T++[(a,b)]).map bH),.int num,.int bare,.int rings,.int c,.int (c / 8),.lst (SM.map enP)]);rw [List.map_append];rfl
   have gl:getD (.lst ((T++[(a,b)]).map bH)) (.int (-1))=.ok (bH (a,b)):=by
    show Res.ofOpt ((ixD ((T++[(a,b)]).map bH).length (-1)).bind fun j=>((T++[(a,b)]).map bH)[j]?)=_;have:ixD ((T++[(a,b)]).map bH).length (-1)=some T.length:=by
     unfold ixD;rw [if_neg (by decide),if_pos (by simp only [List.length_map,List.length_append,List.length_cons,List.length_nil];lia)]
     congr 1
     simp only [List.length_map,List.length_append,List.length_cons,List.length_nil];lia
    rw [this];simp
   have cf:gF 13 (eQ fK false) pM (bTB (b2 (bL .notin) iW (b2 getD mH (b1 S7 cV)))) iW false (St kvs cells seed NS Q L (T++[(a,b)]) num bare rings (.int c) (.int (c / 8)) (.lst (SM.map enP)))=.ok (.lst ((L.filter fun x=>!(decide (a=x)||decide (b=x))).map enP)):=by
    refine mV (g8 rfl rfl) (by rw [List.length_map,bK];lia) ?_;rw [fO _ enP (fun x=>!(decide (a=x)||decide (b=x))) enP]
    ·rfl
    ·intro acc p;have cn:bL .notin (enP p) (bH (a,b))=.ok (.bl (!(decide (a=p)||decide (b=p)))):=by
      show (if (enP p).cG aZ&&D.iQ aZ [enP a,enP b] then Res.ok (D.bl (!([enP a,enP b].any fun y=>eqD y (enP p)))) else .bad)=_;rw [if_pos (show (D.cG aZ (enP p)&&D.iQ aZ [enP a,enP b])=true from rfl)];simp only [List.any_cons,List.any_nil,z_,Bool.or_false]
     exact jJ (ρ:=St kvs cells seed NS Q L (T++[(a,b)]) num bare rings (.int c) (.int (c / 8)) (.lst (SM.map enP))) rfl (dC (aH rfl (aH rfl rfl gl) cn)) fun _=>⟨rfl,rfl⟩
   exact aN s1 (cA cf)
  | false=>
   have T2:=t2 false hB.symm;cases h6:(c % 8==6) with
   | true=>
    rw [h6] at e6;refine ⟨Q,L,T,num,rings,bare+1,.int (c / 8),.lst (SM.map enP),g,hr,by lia,by lia,fin (nR T1 (nR T2 (PB (dC (aH (aH rfl rfl m8) rfl e6)) ?_)))⟩;exact cA (aH rfl rfl (eV bare 1))
   | false=>
    rw [h6] at e6;cases h7:(c % 8==7) with
    | true=>
     rw [h7] at e7;have f2:aU .pow (.int 10) (.int 50)=.ok (.int (10 ^ 50)):=PJ 50 (by decide);have f3:=eX (c / 8) (10 ^ 50) (by decide);refine ⟨Q,L,T,num,rings+c / 8 % 10 ^ 50,bare,.int (c / 8),.lst (SM.map enP),g,Int.add_nonneg hr (Int.emod_nonneg _ (by decide)),by lia,by lia,fin (nR T1 (nR T2 (nR (dC (aH (aH rfl rfl m8) rfl e6)) (PB (dC (aH (aH rfl rfl m8) rfl e7)) ?_))))⟩;exact cA (aH rfl (aH rfl (aH rfl rfl f2) f3) (eV rings _))
    | false=>
     rw [h7] at e7;exact ⟨Q,L,T,num,rings,bare,.int (c / 8),.lst (SM.map enP),g,hr,by lia,by lia,fin (nR T1 (nR T2 (nR (dC (aH (aH rfl rfl m8) rfl e6)) (nR (dC (aH (aH rfl rfl m8) rfl e7)) rfl))))⟩
end
end Lk07
end
section
namespace Lk07
open PySem L2 Mi
section
variable {kvs:List (D×D)} {cells:D} {seed:Int} {NS:List Str}
theorem G7 (hst:bV kvs) (hNS:eO kvs=NS.map D.str) (hne:NS≠[]) (hNl:NS.length<=1000):∀(cs:List Int) {Q:List Pc} {L:List Pt} {T:List Tie} {num rings:Int} {bare:Nat} {x m sm:D},Gr kvs Q L T num->0<=rings->T.length+cs.length<=1000->bare+cs.length<=1000->
  ∃(Q':List Pc) (L':List Pt) (T':List Tie) (num' rings':Int) (bare':Nat) (x' m' sm':D),Gr kvs Q' L' T' num'/\0<=rings'/\T'.length<=T.length+cs.length/\bare'<=bare+cs.length/\qN (tg1 10) YC (cs.map D.int) (St kvs cells seed NS Q L T num bare rings x m sm)=.ok (.nx (St kvs cells seed NS Q' L' T' num' bare' rings' x' m' sm'))
 | [],Q,L,T,num,rings,bare,x,m,sm,g,hr,_,_=>⟨Q,L,T,num,rings,bare,x,m,sm,g,hr,by simp,by simp,rfl⟩
 | c::cs,Q,L,T,num,rings,bare,x,m,sm,g,hr,h1,h2=>by
  rw [List.length_cons] at h1 h2;obtain ⟨Q1,L1,T1,n1,r1,b1,m1,s1,g1,hr1,i1,i2,e1⟩:=aEd (cells:=cells) (seed:=seed) (rings:=rings) (c:=c) (m:=m) (sm:=sm) hst hNS hne hNl g (bare:=bare) (by lia) (by lia) hr;obtain ⟨Q2,L2,T2,n2,r2,b2,x2,m2,s2,g2,hr2,j1,j2,e2⟩:=G7 hst hNS hne hNl cs (rings:=r1) (bare:=b1) (x:=.int c) (m:=m1) (sm:=s1) g1 hr1 (by lia) (by lia);refine ⟨Q2,L2,T2,n2,r2,b2,x2,m2,s2,g2,hr2,by simp only [List.length_cons];lia,by simp only [List.length_cons];lia,?_⟩;exact cX (ρ1:=St kvs cells seed NS Q L T num bare rings (.int c) m sm) rfl e1 e2
end
theorem gr0 {kvs:List (D×D)}:Gr kvs [] [] [] 0:=⟨by simp [ends],by simp,by simp,by lia,by simp,by simp [ends],by simp,by simp,by simp,by simp,by simp [ends,hks],by simp⟩
end Lk07
end
section
namespace Lk07
open PySem L2 Mi
noncomputable def YD:D->Tie
 | .tup [.tup [.int a,.int b],.tup [.int c,.int d]]=>((a,b),(c,d))
 | _=>((0,0),(0,0))
theorem vP (t:Tie):YD (bH t)=t:=rfl
def bU (U:List Tie):List Tie:=(iR (U.map bH)).map YD
theorem cT (U:List Tie):(bU U).Perm U:=by
 have h:=(dW (U.map bH)).map YD;rw [List.map_map] at h;have e:U.map (YD ∘ bH)=U:=by
  conv=>rhs;rw [<-List.map_id U]
  exact List.map_congr_left fun t _=>vP t
 rw [e] at h;exact h
theorem LR (U:List Tie):(bU U).map bH=iR (U.map bH):=by
 unfold bU;rw [List.map_map]
 conv=>rhs;rw [<-List.map_id (iR (U.map bH))]
 refine List.map_congr_left fun d hd=>?_
 obtain ⟨t,_,rfl⟩:=List.mem_map.mp ((dW (U.map bH)).mem_iff.mp hd);rfl
theorem aEe (s t:Tie):∃k,fG .lt (bH s) (bH t)=some k:=by
 have e:fG .lt (bH s) (bH t)=(if eqD (enP s.1) (enP t.1) then (if eqD (enP s.2) (enP t.2) then some (jE.lt.nat 0 0) else fG .lt (enP s.2) (enP t.2)) else fG .lt (enP s.1) (enP t.1)):=rfl;rw [e,vN,vN];split
 ·split
  ·exact ⟨_,rfl⟩
  ·exact ⟨_,rfl⟩
 ·exact ⟨_,rfl⟩
theorem oN (U:List Tie):bI (U.map bH)=true:=by
 unfold bI;refine List.all_eq_true.mpr fun d hd=>?_
 obtain ⟨t,ht,rfl⟩:=List.mem_map.mp hd;have hk:gK ((U.map bH).headD .non)=5:=by
  cases U with
  | nil=>cases ht
  | cons u U=>rfl
 have h5:gK (bH t)=5:=rfl;have hp:(bH t).plain=true:=rfl;have hq:(bH t).cG aZ=true:=rfl;rw [hk,h5,hp,hq];refine List.all_eq_true.mpr fun b hb=>?_
 obtain ⟨u,_,rfl⟩:=List.mem_map.mp hb;obtain ⟨k,e⟩:=aEe t u;rw [e];rfl
theorem rE (U:List Tie):fL [.lst (U.map bH)]=.ok (.lst ((bU U).map bH)):=by
 show (if bI (U.map bH) then Res.ok (D.lst (iR (U.map bH))) else .bad)=_;rw [oN,if_pos rfl,LR]
def LeT (s t:Tie):Prop:=leE (bH s) (bH t)=true
theorem oO (U:List Tie):(bU U).Pairwise LeT:=by
 have h:=j9 (U.map bH);rw [<-LR,List.pairwise_map] at h;exact h
theorem L_:∀{xs ys:List Tie},xs.map bH=ys.map bH->xs=ys
 | [],[],_=>rfl
 | x::xs,y::ys,h=>by
  rw [List.map_cons,List.map_cons,List.cons.injEq] at h;have e:=congrArg YD h.1;rw [vP,vP] at e;rw [e,L_ h.2]
 | [],_::_,h=>by cases h
 | _::_,[],h=>by cases h
theorem eq_of_sorted {U V:List Tie} (h:U.Perm V) (h1:U.Pairwise LeT) (h2:V.Pairwise LeT):U=V:=by
 refine L_ (uQ (fun d hd=>?_) (h.map bH) (List.pairwise_map.mpr h1) (List.pairwise_map.mpr h2));obtain ⟨t,_,rfl⟩:=List.mem_map.mp hd;rfl
theorem aB6 {U:List Tie} (h:U.Pairwise LeT):bU U=U:=eq_of_sorted (cT U) (oO U) h
theorem BJ (a b:Int):eqD (.int a) (.int b)=(a==b):=rfl
theorem YF (a b:Pc):∃k,fG .lt (pcD a) (pcD b)=some k/\(a.1≠b.1->k=decide (a.1<b.1)):=by
 have e:fG .lt (pcD a) (pcD b)=(if eqD (.int a.1) (.int b.1) then (if eqD (.str a.2) (.str b.2) then some (jE.lt.nat 0 0) else some (jE.lt.str a.2 b.2)) else some (jE.lt.int a.1 b.1)):=rfl;rw [e,BJ];by_cases h:a.1=b.1
 ·rw [if_pos (by simp [h])];split
  ·exact ⟨_,rfl,fun z=>absurd h z⟩
  ·exact ⟨_,rfl,fun z=>absurd h z⟩
 ·rw [if_neg (by simp [h])];exact ⟨_,rfl,fun _=>rfl⟩
theorem jD (U:List Pc):bI (U.map pcD)=true:=by
 unfold bI;refine List.all_eq_true.mpr fun d hd=>?_
 obtain ⟨t,ht,rfl⟩:=List.mem_map.mp hd;have hk:gK ((U.map pcD).headD .non)=3:=by
  cases U with
  | nil=>cases ht
  | cons u U=>rfl
 have h5:gK (pcD t)=3:=rfl;have hp:(pcD t).plain=true:=rfl;have hq:(pcD t).cG aZ=true:=rfl;rw [hk,h5,hp,hq];refine List.all_eq_true.mpr fun b hb=>?_
 obtain ⟨u,_,rfl⟩:=List.mem_map.mp hb;obtain ⟨k,e,_⟩:=YF t u;rw [e];rfl
def LtN (a b:Pc):Prop:=a.1<b.1
theorem fZ (T:List Tie):D.a_ (T.map bH)=true:=GZ T
theorem YG (T:List Pc):D.a_ (T.map pcD)=true:=PQ T
theorem rG (Q:List Pc) (V:List Tie) (r:Int):(d_ Q V r).pure=true:=by
 show ((D.tup (Q.map pcD)).pure&&((D.tup (V.map bH)).pure&&(true&&true)))=true;rw [PQ,GZ];rfl
theorem p7:∀{kvs:List (D×D)},bV kvs->∃NS:List Str,eO kvs=NS.map D.str
 | [],_=>⟨[],rfl⟩
 | p::kvs,h=>by
  obtain ⟨s,v,e,_⟩:=h p (List.mem_cons_self ..);obtain ⟨NS,ih⟩:=p7 (kvs:=kvs) fun q hq=>h q (List.mem_cons_of_mem _ hq)
  refine ⟨s::NS,?_⟩;subst e;show D.str s::eO kvs=_;rw [ih];rfl
theorem R6 {kvs:List (D×D)} (h:bV kvs):v9 [.dct kvs]=.ok (.lst (eO kvs)):=by
 have e:kvs.all (fun p=>!isTup p.1)=true:=List.all_eq_true.mpr fun p hp=>by
  obtain ⟨s,v,rfl,_⟩:=h p hp;rfl
 show (if kvs.all (fun p=>!isTup p.1) then Res.ok (D.lst (eO kvs)) else .bad)=_;rw [e,if_pos rfl]
theorem aB7 {U W:List Pc} (p:U.Perm W) (h:W.Pairwise LtN):fL [.lst (U.map pcD)]=.ok (.lst (W.map pcD)):=by
 show (if bI (U.map pcD) then Res.ok (D.lst (iR (U.map pcD))) else .bad)=_;rw [jD,if_pos rfl]
 congr 2
 refine uQ (fun d hd=>?_) ((dW _).trans (p.map pcD)) (j9 _) (List.pairwise_map.mpr (h.imp fun {a b} hab=>?_))
 ·obtain ⟨t,_,rfl⟩:=List.mem_map.mp ((dW (U.map pcD)).mem_iff.mp hd);rfl
 ·have hab:a.1<b.1:=hab;obtain ⟨k,e,hk⟩:=YF b a;have e1:=yS (pcD b) (pcD a) k rfl rfl e;rw [hk (by lia),decide_eq_false (by lia)] at e1;unfold leE;rw [<-e1];rfl
theorem call_v {n m:Nat} {f:FS} {ds:List D} {d:D} (h:f (ds++List.replicate (m-n) D.uD)=.ok (.rt d)):fnS n m f ds=.ok d:=by
 show (do let r <- f (ds++List.replicate (m-n) D.uD);aBx r)=_;rw [h];rfl
theorem G8 {n:Nat} {t:D->Res (List D)} {c:FT} {f:FE} {k:Bool} {ρ acc bs:List D} {x y:D} {b:Bool} (hρ:ρ.length=n) (ht:t x=.ok bs) (h1:c (ρ++bs)=.ok b) (h2:b=true->f (ρ++bs)=.ok y/\(k||y.pure)=true):qM n t c f k ρ acc x=.ok (if b then acc++[y] else acc):=by
 unfold qM;rw [ht,Res.aY,D_ hρ,h1,Res.aY];cases b with
 | false=>rfl
 | true=>
  obtain ⟨h3,h4⟩:=h2 rfl;rw [if_pos rfl,h3,Res.aY,if_pos h4];rfl
theorem aCh {f:FE} {ρ:List D} {d:D} {b:Bool} (h:f ρ=.ok d) (h2:aJ8 d=.ok b):bTr f ρ=.ok b:=by
 unfold bTr;rw [h];exact h2
theorem tL {f:FT} {ρ:List D} {b:Bool} (h:f ρ=.ok b):CW f ρ=.ok (!b):=by
 unfold CW;rw [h];rfl
theorem aJc {x y:FT} {ρ:List D} {r:Res Bool} (h1:x ρ=.ok false) (h2:y ρ=r):bOr x y ρ=r:=by
 unfold bOr;rw [h1];exact h2
theorem aCi {a b:FE} {ρ:List D} {r:Res D} (h1:a ρ=.ok (.bl true)) (h2:b ρ=r):J5 a b ρ=r:=by
 unfold J5;rw [h1];exact h2
theorem aHa {f:D->Res D} {a:FE} {ρ:List D} {x y:D} (h1:a ρ=.ok x) (h2:f x=.ok y):b1 f a ρ=.ok y:=by
 unfold b1;rw [h1];exact h2
theorem irr (a b:Pt) (h:ltP a b):¬ltP b a:=by
 simp only [ltP] at *;lia
section
variable (Q:List Pc) (T:List Tie) (r:Int)
theorem n0:getD (d_ Q T r) (.int 0)=.ok (.tup (Q.map pcD)):=rfl
theorem n1:getD (d_ Q T r) (.int 1)=.ok (.tup (T.map bH)):=rfl
theorem n2:getD (d_ Q T r) (.int 2)=.ok (.int r):=rfl
end
theorem G9 {tt:D}:∀(T:List Tie) (E:List Pt) (x y:D),E.length+2*T.length<lim->∃x' y',qN (tgN [2,3]) (bT (nJ 1 gD) (nJ 1 bQ)) (T.map bH) [tt,.lst (E.map enP),x,y]=.ok (.nx [tt,.lst ((E++ends T).map enP),x',y'])
 | [],E,x,y,_=>⟨x,y,by simp [ends,qN]⟩
 | t::T,E,x,y,h=>by
  rw [List.length_cons] at h;obtain ⟨x',y',ih⟩:=G9 (tt:=tt) T (E++[t.1,t.2]) (enP t.1) (enP t.2) (by rw [List.length_append];simp only [List.length_cons,List.length_nil];lia);refine ⟨x',y',cX (ρ1:=[tt,.lst (E.map enP),enP t.1,enP t.2]) (ρ2:=[tt,.lst ((E++[t.1,t.2]).map enP),enP t.1,enP t.2]) rfl (aN (ρ':=[tt,.lst (E.map enP++[enP t.1]),enP t.1,enP t.2]) (u5 (i:=1) (ρ:=[tt,.lst (E.map enP),enP t.1,enP t.2]) rfl rfl (by rw [List.length_map];lia) rfl) ?_) ?_⟩
  ·rw [u5 (i:=1) (ρ:=[tt,.lst (E.map enP++[enP t.1]),enP t.1,enP t.2]) (d:=enP t.2) rfl rfl (by rw [List.length_append,List.length_map];simp only [List.length_cons,List.length_nil];lia) rfl];simp
  ·rw [ih];simp [ends]
def jN (E:List Pt):Nat:=(E.filter fun e=>e.1==0).length
theorem aB8 {n:Nat} {ρ:List D} (hρ:ρ.length=n) (hv:∀e:Pt,jX n (ρ++[enP e])=.ok (enP e)) (acc:List D) (e:Pt):qM n pM (bTB (b2 (bL .eq) (b2 getD (jX n) cU) cU)) (jX n) false ρ acc (enP e)=.ok (if (e.1==0) then acc++[enP e] else acc):=
 G8 hρ rfl (dC (aH (aH (x:=enP e) (hv e) rfl (z:=.int e.1) rfl) rfl rfl)) fun _=>⟨hv e,rfl⟩
theorem P0 (E:List Pt) (h:E.length<=lim):dI 1 h_ [.lst (E.map enP)]=.ok (.int (jN E)):=by
 refine (eF rfl).trans (call_v ?_);have hf:=fO (qM 1 pM (bTB (b2 (bL .eq) (b2 getD gM cU) cU)) gM false [.lst (E.map enP)]) enP (fun e:Pt=>e.1==0) enP (fun acc e=>aB8 rfl (fun _=>rfl) acc e) E [];refine lY (d:=.int (jN E)) (aK (xs:=[.lst ((E.filter fun e=>e.1==0).map enP)]) (aD (mV (g8 rfl rfl) (by rw [List.length_map];exact h) (by simpa using hf)) rfl) ?_) rfl;rw [pD,List.length_map];rfl
theorem BK (T:List Tie):(ends T).length=2*T.length:=by
 induction T with
 | nil=>rfl
 | cons t T ih=>simp only [ends,List.flatMap_cons,List.length_append,List.length_cons,List.length_nil] at *;lia
theorem ends_app (T R:List Tie):ends (T++R)=ends T++ends R:=by simp [ends]
theorem mG {V U:List Tie} (h:V.Perm U):(ends V).Perm (ends U):=by
 unfold ends;induction h with
 | nil=>exact .nil
 | cons x _ ih=>simpa using ih
 | swap x y l=>
  simp only [List.flatMap_cons];rw [<-List.append_assoc,<-List.append_assoc];exact List.Perm.append_right _ List.perm_append_comm
 | trans _ _ ih1 ih2=>exact ih1.trans ih2
theorem aCj {f g:FS} {ρ:List D} {d:D} (h:f ρ=.ok (.rt d)):bT f g ρ=.ok (.rt d):=by
 unfold bT;rw [h];rfl
structure Net (kvs:List (D×D)) (Q:List Pc) (T:List Tie):Prop where
 nd:(ends T).Nodup
 small:T.length<=1000
 qs:Q.Pairwise LtN
 qpos:∀pc∈Q,0<pc.1
 ql:Q.length<=10
 sk:∀pc∈Q,∃v:Nat,v<=6/\bN kvs (.str pc.2)=some (.int v)
 lt:∀t∈T,ltP t.1 t.2
 srt:T.Pairwise LeT
 rims:∃S:List Int,S.Nodup/\(∀s∈S,0<=s/\s<S.length)/\(ends T).Perm (hks kvs Q++S.map rim)
theorem aEf (kvs:List (D×D)):Net kvs [] [] where
 nd:=List.nodup_nil
 small:=by simp
 qs:=.nil
 qpos:=fun _ h=>by cases h
 ql:=by simp
 sk:=fun _ h=>by cases h
 lt:=fun _ h=>by cases h
 srt:=.nil
 rims:=⟨[],List.nodup_nil,fun _ h=>(by cases h),.nil⟩
theorem aHb {kvs:List (D×D)} {Q:List Pc} {L:List Pt} {T R:List Tie} {num:Int} {S:List Int} (g:Gr kvs Q L T num) (hS:S.Nodup) (hS2:∀s∈S,0<=s/\s<S.length) (pR:(ends R).Perm (L++S.map rim)) (hR:∀t∈R,ltP t.1 t.2) (hsm:(T++R).length<=1000):Net kvs Q (bU (T++R)):=by
 have pE:(ends (bU (T++R))).Perm (ends T++L++S.map rim):=by
  refine (mG (cT _)).trans ?_;rw [ends_app,List.append_assoc];exact List.Perm.append_left _ pR
 have pos:∀e∈ends T++L,0<e.1:=fun e he=>by
  obtain ⟨pc,h1,h2⟩:=List.mem_map.mp (g.num e he);have:=(g.qb pc h1).1;lia
 refine ⟨?_,by rw [(cT _).length_eq];exact hsm,g.qs,fun pc h=>(g.qb pc h).1,g.ql,g.sk,fun t ht=>?_,oO _,S,hS,hS2,pE.trans (g.pm.append_right _)⟩
 ·refine pE.nodup_iff.mpr (List.nodup_append.mpr ⟨g.nd,?_,fun a ha b hb z=>?_⟩)
  ·refine List.Pairwise.map _ ?_ hS;intro a b hab z;exact hab (congrArg Prod.snd z)
  ·obtain ⟨s,_,rfl⟩:=List.mem_map.mp hb;have:=pos a ha;rw [z] at this;exact absurd this (Int.lt_irrefl 0)
 ·rcases List.mem_append.mp ((cT _).mem_iff.mp ht) with h|h
  ·exact g.lt t h
  ·exact hR t h
end Lk07
end
section
namespace Lk07
open PySem L2 Mi
theorem aB9 {kvs:List (D×D)} (hst:bV kvs) (hne:kvs≠[]) (hl:kvs.length<=5) (cs:List Int) (hc:cs.length<=200) (seed:Int):∃(Q:List Pc) (V:List Tie) (r:Int),Net kvs Q V/\0<=r/\dI 3 kE [.dct kvs,.lst (cs.map D.int),.int seed]=.ok (d_ Q V r):=by
 obtain ⟨NS,hNS⟩:=p7 hst;have lNS:NS.length=kvs.length:=by
  have:=congrArg List.length hNS;simpa [eO] using this.symm
 have nNS:NS≠[]:=fun z=>hne (by rw [z] at lNS;exact List.length_eq_zero_iff.mp lNS.symm)
 obtain ⟨Q,L,T,num,rings,bare,x,m,sm,g,hrg,i1,i2,e1⟩:=G7 (cells:=.lst (cs.map D.int)) (seed:=seed) hst hNS nNS (by lia) cs (rings:=0) (bare:=0) (m:=.uD) (sm:=.uD) gr0 (Int.le_refl 0) (by simp;lia) (by lia);have lL:L.length<=140:=by have:=g.ll;have:=g.ql;lia
 have posE:∀p∈ends T++L,0<p.1:=fun p hp=>by
  obtain ⟨pc,h1,h2⟩:=List.mem_map.mp (g.num p hp);have:=(g.qb pc h1).1;lia
 simp only [List.length_nil] at i1;obtain ⟨R,S,r1,rb,r2,r3,r4,r5⟩:=YB L bare seed (fun p hp=>posE p (List.mem_append_right _ hp)) (by lia);have lTR:(T++R).length<=1000:=by rw [List.length_append,r4];lia
 have hadd:aU .add (.lst (T.map bH)) (.lst (R.map bH))=.ok (.lst ((T++R).map bH)):=by
  rw [List.map_append];refine KY _ _ ?_ (fZ T) (fZ R);rw [List.length_map,List.length_map,bK];rw [List.length_append] at lTR;lia
 have hrim:dI 3 iK [.lst (L.map enP),.int bare,.int seed]=.ok (.lst (R.map bH)):=(eF rfl).trans r5;have hli:=R6 hst;rw [hNS] at hli;have hin:inner (.lst ((T++R).map bH))=true:=fZ _;refine ⟨Q,bU (T++R),rings,aHb g r1 rb r2 r3 lTR,hrg,(eF rfl).trans ?_⟩;have fin:oH [.dct kvs,.lst (cs.map D.int),.int seed,.uD,.uD,.uD,.uD,.uD,.uD,.uD,.uD,.uD,.uD]=.ok (.rt (d_ Q (bU (T++R)) rings)):=by
  refine aN (cA (aK (aD rfl rfl) hli)) ?_;refine aN (fJ rfl rfl) ?_;refine aN (cA rfl) ?_;refine aN (fJ rfl rfl) ?_;refine aN (cA rfl) ?_;refine aN (cA rfl) ?_;refine aN (cA rfl) ?_;refine aN (pQ rfl rfl e1) ?_;refine aN
   (fJ (aH rfl (aK (aD rfl (aD rfl (aD rfl rfl))) hrim) hadd) hin) ?_
  refine lY (gC (aD (aK (aD rfl rfl) rfl) (aD (aK (aD (aK (aD rfl rfl) (rE _)) rfl) rfl) (aD rfl rfl))) ?_) ?_
  ·rw [bK];show 3<=1000000;lia
  ·rw [rG];rfl
 show (do let r <- oH _;aBx r)=_;rw [show ([D.dct kvs,D.lst (cs.map D.int),D.int seed]++List.replicate (13-3) D.uD)=[.dct kvs,.lst (cs.map D.int),.int seed,.uD,.uD,.uD,.uD,.uD,.uD,.uD,.uD,.uD,.uD] from rfl,fin];rfl
def cellAt (ns:List Int) (k:Nat):Int:=ns.getD k 0
theorem cell_eq (ns:List Int) (k:Nat):dI 2 fB [.scr (ns.map D.int),.int k]=.ok (.int (cellAt ns k)):=by
 refine (eF rfl).trans ?_;have hl:iD [.scr (ns.map D.int)]=.ok (.int ns.length):=by
  show Res.ok (D.int ((ns.map D.int).length:Int))=_;rw [List.length_map]
 have hc:bL (.ord .lt) (.int k) (.int ns.length)=.ok (.bl (decide ((k:Int)<ns.length))):=rfl;show (do let r <- gU [.scr (ns.map D.int),.int k];aBx r)=_;by_cases h:k<ns.length
 ·have hg:getD (.scr (ns.map D.int)) (.int k)=.ok (.int (cellAt ns k)):=by
   show Res.ofOpt ((ixD (ns.map D.int).length k).bind fun j=>(ns.map D.int)[j]?)=_;have:ixD (ns.map D.int).length k=some k:=by
    unfold ixD;rw [if_pos (by lia),if_pos (by rw [List.length_map];lia)];rfl
   rw [this];show Res.ofOpt ((ns.map D.int)[k]?)=_;rw [List.getElem?_map,List.getElem?_eq_getElem h];show Res.ok (D.int ns[k])=_;rw [cellAt,List.getD_eq_getElem?_getD,List.getElem?_eq_getElem h];rfl
  have e:gU [.scr (ns.map D.int),.int k]=.ok (.rt (.int (cellAt ns k))):=by
   have ht:(bTB (b2 (bL (.ord .lt)) gM (aL iD (aC dY aO)))) [.scr (ns.map D.int),.int k]=.ok true:=by
    refine dC (aH rfl (aK (aD rfl rfl) hl) (hc.trans ?_));rw [decide_eq_true (by lia)]
   unfold gU bT;rw [PB (r:=.ok (.rt (.int (cellAt ns k)))) ht (lY (aH rfl rfl hg) rfl)];rfl
  rw [e];rfl
 ·have e:gU [.scr (ns.map D.int),.int k]=.ok (.rt (.int (cellAt ns k))):=by
   refine aN (nR (r:=.ok (.nx [.scr (ns.map D.int),.int k])) (dC (aH rfl (aK (aD rfl rfl) hl) (hc.trans ?_))) rfl) (lY ?_ rfl)
   ·rw [decide_eq_false (by lia)]
   ·rw [cellAt,List.getD_eq_getElem?_getD,List.getElem?_eq_none (by lia)];rfl
  rw [e];rfl
end Lk07
end
section
namespace Lk07
open PySem L2 Mi
def YH (kvs:List (D×D)) (pc:Pc):D×D:=(.int pc.1,.int (vOf kvs pc.2))
def aR (kvs:List (D×D)) (P:List Pc):List (D×D):=P.map (YH kvs)
theorem oR {kvs:List (D×D)} {n:Int}:∀{P:List Pc},n∉P.map (·.1)->bN (aR kvs P) (.int n)=none
 | [],_=>rfl
 | pc::P,h=>by
  rw [List.map_cons,List.mem_cons,not_or] at h;show (if eqD (.int pc.1) (.int n) then _ else bN (aR kvs P) (.int n))=none;rw [BJ,if_neg (by simpa using fun z=>h.1 z.symm),oR h.2]
theorem vQ {kvs:List (D×D)} {pc:Pc}:∀{P:List Pc},(P.map (·.1)).Nodup->pc∈P->bN (aR kvs P) (.int pc.1)=some (.int (vOf kvs pc.2))
 | q::P,hn,h=>by
  rw [List.map_cons,List.nodup_cons] at hn;show (if eqD (.int q.1) (.int pc.1) then some (D.int (vOf kvs q.2)) else bN (aR kvs P) (.int pc.1))=_;rw [BJ];rcases List.mem_cons.mp h with rfl|h
  ·rw [if_pos (by simp)]
  ·rw [if_neg,vQ hn.2 h];intro z;have z:q.1=pc.1:=by simpa using z
   exact hn.1 (z▸List.mem_map.mpr ⟨pc,h,rfl⟩)
theorem vR {k w:D}:∀{m:List (D×D)},bN m k=none->putD m k w=m++[(k,w)]
 | [],_=>rfl
 | (a,b)::m,h=>by
  rw [bN] at h;by_cases e:eqD a k=true
  ·rw [if_pos e] at h;cases h
  ·rw [if_neg e] at h;rw [putD,if_neg e,vR h];rfl
theorem nD (kvs:List (D×D)) (n:Int) (P:List Pc):sZ (aR kvs P) (.int n)=true:=by
 unfold sZ;rw [show keyOk (.int n)=true from rfl,Bool.true_and,List.all_eq_true];intro x hx;obtain ⟨y,_,rfl⟩:=List.mem_map.mp hx;rfl
noncomputable def aEg:FS:=(bT (sIf (bTB (b2 (bL (.ord .lt)) bQ cV)) (p_) (iT)) (bT (sIf (bTB (b2 (bL .isin) bQ gD)) (p_) (iT)) (bT (sIf (bTB (b2 (bL .notin) dX dY)) (p_) (iT)) (S8 2 bQ (b2 getD dY dX)))))
theorem xW {kvs:List (D×D)} (hst:bV kvs) {pp:D}:∀(P S:List Pc) (x y:D),((S++P).map (·.1)).Nodup->(∀pc∈P,0<pc.1)->(∀pc∈P,∃v:Nat,v<=6/\bN kvs (.str pc.2)=some (.int v))->(S++P).length<=1000->∃x' y',qN (tgN [3,4]) aEg (P.map pcD) [.dct kvs,pp,.dct (aR kvs S),x,y]=.ok (.nx [.dct kvs,pp,.dct (aR kvs (S++P)),x',y'])
 | [],S,x,y,_,_,_,_=>⟨x,y,by rw [List.append_nil];rfl⟩
 | pc::P,S,x,y,hn,hp,hk,hl=>by
  have hS:S++pc::P=(S++[pc])++P:=by simp
  obtain ⟨x',y',ih⟩:=xW hst (pp:=pp) P (S++[pc]) (.int pc.1) (.str pc.2) (by rw [<-hS];exact hn) (fun q h=>hp q (List.mem_cons_of_mem _ h)) (fun q h=>hk q (List.mem_cons_of_mem _ h)) (by rw [<-hS];exact hl);refine ⟨x',y',?_⟩;obtain ⟨v,hv,ev⟩:=hk pc (List.mem_cons_self ..);have h0:=hp pc (List.mem_cons_self ..);have hnot:pc.1∉S.map (·.1):=by
   rw [List.map_append] at hn;intro z;exact (List.nodup_append.mp hn).2.2 _ z pc.1 (by simp) rfl
  have hno:=oR (kvs:=kvs) hnot;have c1:bL (.ord .lt) (.int pc.1) (.int 1)=.ok (.bl false):=by
   show Res.ok (D.bl (decide (pc.1<1)))=_;rw [decide_eq_false (by lia)]
  have c2:bL .isin (.int pc.1) (.dct (aR kvs S))=.ok (.bl false):=by
   show (if sZ (aR kvs S) (.int pc.1) then Res.ok (D.bl (bN (aR kvs S) (.int pc.1)).isSome) else .bad)=_;rw [nD,if_pos rfl,hno];rfl
  have c3:bL .notin (.str pc.2) (.dct kvs)=.ok (.bl false):=by
   show (if sZ kvs (.str pc.2) then Res.ok (D.bl (!(bN kvs (.str pc.2)).isSome)) else .bad)=_;rw [rD hst,if_pos rfl,ev];rfl
  have gs:getD (.dct kvs) (.str pc.2)=.ok (.int v):=by
   show (if keyOk (.str pc.2) then Res.ofOpt (bN kvs (.str pc.2)) else .bad)=_;rw [ev];rfl
  have hlen:(aR kvs S).length<lim:=by
   rw [List.length_append] at hl;rw [aR,List.length_map,bK];lia
  have hput:putD (aR kvs S) (.int pc.1) (.int v)=aR kvs (S++[pc]):=by
   rw [vR hno,aR,aR,List.map_append];show _++[(D.int pc.1,D.int v)]=_++[(D.int pc.1,D.int (vOf kvs pc.2))];rw [xV ev]
  rw [hS,<-ih,List.map_cons];refine cX rfl ?_ rfl;refine aN (nR (dC (aH rfl rfl c1)) rfl) ?_;refine aN (nR (dC (aH rfl rfl c2)) rfl) ?_;refine aN (nR (dC (aH rfl rfl c3)) rfl) ?_;rw [<-hput];exact EY (kvs:=aR kvs S) (k:=.int pc.1) (aH rfl rfl gs) rfl rfl hlen (nD kvs _ S) rfl
noncomputable def Place (kvs:List (D×D)) (P:List Pc) (b:Int) (e:Pt):Prop:=(e.1=0->0<=e.2/\e.2<b)/\(e.1≠0->∃pc∈P,e.1=pc.1/\0<=e.2/\e.2<=vOf kvs pc.2)
theorem P_ {kvs:List (D×D)} {P:List Pc} {b:Int} {e:Pt} (hn:(P.map (·.1)).Nodup) (h:Place kvs P b e):dI 3 dD [.dct (aR kvs P),.int b,enP e]=.ok (.bl true):=by
 refine (eF rfl).trans (call_v ?_);refine aN (k_ (aH rfl rfl rfl) rfl) ?_;have ht:bTB (b2 (bL .eq) bQ cU) [.dct (aR kvs P),.int b,enP e,.int e.1]=.ok (e.1==0):=dC (aH rfl rfl rfl);have le0:0<=e.2->bL (.ord .le) (.int 0) (.int e.2)=.ok (.bl true):=fun h=>by
  show Res.ok (D.bl (decide (0<=e.2)))=_;rw [decide_eq_true h]
 by_cases h0:e.1=0
 ·rw [show (e.1==0)=true by simpa using h0] at ht;obtain ⟨a1,a2⟩:=h.1 h0;refine aCj (PB ht (lY (aF0 rfl (aH rfl rfl rfl) (le0 a1) rfl ?_) rfl));show Res.ok (D.bl (decide (e.2<b)))=_;rw [decide_eq_true a2]
 ·rw [show (e.1==0)=false by simpa using h0] at ht;obtain ⟨pc,m,e1,a1,a2⟩:=h.2 h0;have hl:=vQ (kvs:=kvs) hn m;refine aN (nR ht rfl) (lY (aCi (aH rfl rfl ?_) (aF0 (z:=.int (vOf kvs pc.2)) rfl (aH rfl rfl rfl) (le0 a1) (aH rfl rfl ?_) ?_)) rfl)
  ·show (if sZ (aR kvs P) (.int e.1) then Res.ok (D.bl (bN (aR kvs P) (.int e.1)).isSome) else .bad)=_;rw [nD,if_pos rfl,e1,hl];rfl
  ·show (if keyOk (.int e.1) then Res.ofOpt (bN (aR kvs P) (.int e.1)) else .bad)=_;rw [e1,hl];rfl
  ·show Res.ok (D.bl (decide (e.2<=(vOf kvs pc.2:Int))))=_;rw [decide_eq_true a2]
def dO (e:Pt):D×D:=(enP e,.bl true)
theorem oU {e:Pt}:∀{E:List Pt},e∉E->bN (E.map dO) (enP e)=none
 | [],_=>rfl
 | q::E,h=>by
  rw [List.mem_cons,not_or] at h;show (if eqD (enP q) (enP e) then _ else bN (E.map dO) (enP e))=none;rw [z_,if_neg (by simpa using fun z=>h.1 z.symm),oU h.2]
theorem t8 (e:Pt) (E:List Pt):sZ (E.map dO) (enP e)=true:=by
 unfold sZ;rw [show keyOk (enP e)=true from rfl,Bool.true_and,List.all_eq_true];intro x hx;obtain ⟨y,_,rfl⟩:=List.mem_map.mp hx;rfl
noncomputable def MF:FS:=(bT (sIf (bTB (b2 (bL .isin) dX bQ)) (p_) (iT)) (bT (sIf (CW (bTr (aL (dI 3 dD) (aC dY (aC gD (aC dX aO)))))) (p_) (iT)) (S8 3 dX (bC (.bl true)))))
theorem vU {kvs:List (D×D)} {P:List Pc} {b:Int} {ee:D} (hn:(P.map (·.1)).Nodup):∀(E S:List Pt) (x:D),(S++E).Nodup->(∀e∈E,Place kvs P b e)->(S++E).length<=10000->∃(m:List (D×D)) (x':D),qN (tg1 4) MF (E.map enP) [.dct (aR kvs P),ee,.int b,.dct (S.map dO),x]=.ok (.nx [.dct (aR kvs P),ee,.int b,.dct m,x'])
 | [],S,x,_,_,_=>⟨_,x,rfl⟩
 | e::E,S,x,hs,hp,hl=>by
  have hS:S++e::E=(S++[e])++E:=by simp
  obtain ⟨m,x',ih⟩:=vU (kvs:=kvs) (ee:=ee) hn E (S++[e]) (enP e) (by rw [<-hS];exact hs) (fun q h=>hp q (List.mem_cons_of_mem _ h)) (by rw [<-hS];exact hl);refine ⟨m,x',?_⟩;have hnot:e∉S:=fun z=>(List.nodup_append.mp hs).2.2 _ z e (by simp) rfl
  have c1:bL .isin (enP e) (.dct (S.map dO))=.ok (.bl false):=by
   show (if sZ (S.map dO) (enP e) then Res.ok (D.bl (bN (S.map dO) (enP e)).isSome) else .bad)=_;rw [t8,if_pos rfl,oU hnot];rfl
  have c2:=P_ hn (hp e (List.mem_cons_self ..));have hlen:(S.map dO).length<lim:=by
   rw [List.length_append] at hl;rw [List.length_map,bK];lia
  have hput:putD (S.map dO) (enP e) (.bl true)=(S++[e]).map dO:=by
   rw [vR (oU hnot),List.map_append];rfl
  rw [<-ih,List.map_cons];refine cX rfl ?_ rfl;refine aN (nR (dC (aH rfl rfl c1)) rfl) ?_;refine aN (nR (tL (b:=true) (aCh (aK (aD rfl (aD rfl (aD rfl rfl))) c2) rfl)) rfl) ?_;rw [<-hput];exact EY (i:=3) (kvs:=S.map dO) (k:=enP e) (d:=.bl true) rfl rfl rfl hlen (t8 e S) rfl
def cnt (kvs:List (D×D)) (pc:Pc):Int:=(vOf kvs pc.2:Int)+1
theorem aBa (kvs:List (D×D)) (pc:Pc):(aH8 kvs pc).length=vOf kvs pc.2+1:=by
 rw [aH8,List.length_map,List.length_range]
theorem YJ (kvs:List (D×D)):∀P:List Pc,((hks kvs P).length:Int)=(P.map (cnt kvs)).sum
 | []=>rfl
 | pc::P=>by
  have ih:=YJ kvs P;rw [List.map_cons,List.sum_cons,<-ih];show (((aH8 kvs pc++hks kvs P).length:Nat):Int)=_;rw [List.length_append,aBa,cnt];lia
theorem MJ (kvs:List (D×D)):∀P:List Pc,aE2 5 (b2 (aU .add) fK cV) ((aR kvs P).map (·.2))=.ok ((P.map (cnt kvs)).map D.int)
 | []=>rfl
 | pc::P=>by
  have ih:=MJ kvs P;have e0:(aR kvs (pc::P)).map (fun x=>x.2)=D.int (vOf kvs pc.2)::(aR kvs P).map (fun x=>x.2):=rfl;rw [e0,aE2];rw [aH (z:=.int (cnt kvs pc)) (x:=.int (vOf kvs pc.2)) (y:=.int 1) rfl rfl (eV _ _),Res.aY,ih];rfl
theorem xX:∀ns:List Int,intsOf (ns.map D.int)=some ns
 | []=>rfl
 | n::ns=>by
  show (intsOf (ns.map D.int)).map (n::·)=_;rw [xX ns];rfl
theorem aCk {kvs:List (D×D)} {P:List Pc} (hk:∀pc∈P,vOf kvs pc.2<=6) (hl:P.length<=1000):K3 [.lst ((P.map (cnt kvs)).map D.int)]=.ok (.int ((hks kvs P).length:Int)):=by
 unfold K3;simp only [xX];rw [if_pos,YJ];rw [Bool.and_eq_true,decide_eq_true_eq,List.length_map];refine ⟨List.all_eq_true.mpr fun i hi=>?_,by lia⟩;obtain ⟨pc,m,rfl⟩:=List.mem_map.mp hi;have:=hk pc m;rw [cnt,decide_eq_true (by lia),decide_eq_true (by lia)];rfl
theorem aBb {kvs:List (D×D)} {P:List Pc} {E:List Pt} (hn:(P.map (·.1)).Nodup) (hd:E.Nodup) (hp:∀e∈E,Place kvs P (jN E) e) (hl:E.length<=10000) (hP:P.length<=1000) (hk:∀pc∈P,vOf kvs pc.2<=6) (hc:(hks kvs P).length+jN E<=E.length):dI 2 jL [.dct (aR kvs P),.lst (E.map enP)]=.ok .non:=by
 obtain ⟨m,x',e⟩:=vU (kvs:=kvs) (P:=P) (b:=jN E) (ee:=.lst (E.map enP)) hn E [] .uD (by simpa using hd) hp (by simpa using hl);have ham:=P0 E (by rw [bK];lia);refine (eF rfl).trans ?_;have body:oK [.dct (aR kvs P),.lst (E.map enP),.uD,.uD,.uD]=.ok (.nx [.dct (aR kvs P),.lst (E.map enP),.int (jN E),.dct m,x']):=by
  refine aN (cA (i:=2) (aK (xs:=[.lst (E.map enP)]) (aD rfl rfl) ham)) ?_;refine aN (fJ rfl rfl) ?_;refine aN (pQ (d:=.lst (E.map enP)) (xs:=E.map enP) rfl rfl e) ?_;have hv:RW 0 5 (b2 (aU .add) fK cV) [.dct (aR kvs P),.lst (E.map enP),.int (jN E),.dct m,x']=.ok (.lst ((P.map (cnt kvs)).map D.int)):=by
   show (if decide ((aR kvs P).length<=lim)&&((aR kvs P).all (fun p=>!isTup p.1)&&D.a_ ((aR kvs P).map fun x=>x.2)) then Res.bind (aE2 5 (b2 (aU .add) fK cV) ((aR kvs P).map fun x=>x.2)) (fun ys=>Res.ok (D.lst ys)) else .bad)=_;have h1:decide ((aR kvs P).length<=lim)=true:=decide_eq_true (by rw [aR,List.length_map,bK];lia);have h2:(aR kvs P).all (fun p=>!isTup p.1)=true:=List.all_eq_true.mpr fun x hx=>by
    obtain ⟨y,_,rfl⟩:=List.mem_map.mp hx;rfl
   have h3:D.a_ ((aR kvs P).map (·.2))=true:=by
    rw [aR,List.map_map,show (fun p:D×D=>p.2) ∘ YH kvs=D.int ∘ fun pc:Pc=>(vOf kvs pc.2:Int) from rfl,<-List.map_map];exact o7 _
   rw [h1,h2,h3,if_pos (show (true&&(true&&true))=true from rfl),MJ];rfl
  refine nR (dC (aH (x:=.int (((E.map enP).length:Int)-jN E)) (y:=.int ((hks kvs P).length:Int)) (aH (x:=.int ((E.map enP).length:Int)) (y:=.int (jN E)) (aK (xs:=[.lst (E.map enP)]) (aD rfl rfl) (pD _)) rfl (u_ _ _)) (aK (xs:=[.lst ((P.map (cnt kvs)).map D.int)]) (aD hv rfl) (aCk hk hP)) ?_)) rfl;show Res.ok (D.bl (decide (((E.map enP).length:Int)-jN E<((hks kvs P).length:Int))))=_;rw [List.length_map,decide_eq_false (by lia)]
 show (do let r <- oK _;aBx r)=_;rw [show ([D.dct (aR kvs P),D.lst (E.map enP)]++List.replicate (5-2) D.uD)=[.dct (aR kvs P),.lst (E.map enP),.uD,.uD,.uD] from rfl,body];rfl
end Lk07
end
section
namespace Lk07
open PySem L2 Mi
noncomputable def norm (t:Tie):Tie:=(if ltP t.2 t.1 then t.2 else t.1,if ltP t.1 t.2 then t.2 else t.1)
theorem aEh {t:Tie} (h:ltP t.1 t.2):norm t=t:=by
 unfold norm;rw [if_neg (irr _ _ h),if_pos h]
theorem G_ {t:Tie} (h:ltP (norm t).1 (norm t).2):[t.1,t.2].Perm [(norm t).1,(norm t).2]:=by
 unfold norm at h ⊢;by_cases h1:ltP t.2 t.1
 ·rw [if_pos h1,if_neg (irr _ _ h1)];exact List.Perm.swap ..
 ·by_cases h2:ltP t.1 t.2
  ·rw [if_neg h1,if_pos h2]
  ·rw [if_neg h1,if_neg h2] at h;simp only [ltP] at h;lia
theorem HB:∀{U:List Tie},(∀t∈U.map norm,ltP t.1 t.2)->(ends U).Perm (ends (U.map norm))
 | [],_=>.nil
 | t::U,h=>by
  have ih:=HB (U:=U) fun x hx=>h x (by rw [List.map_cons];exact List.mem_cons_of_mem _ hx)
  have h1:=G_ (h (norm t) (by rw [List.map_cons];exact List.mem_cons_self ..));rw [List.map_cons];show ([t.1,t.2]++ends U).Perm ([(norm t).1,(norm t).2]++ends (U.map norm));exact h1.append ih
theorem aEi {f:FE} {ρ:List D} {d:D} (h:f ρ=.ok d):aA4 f ρ=.ok (.nx ρ):=by
 unfold aA4;rw [h];rfl
theorem YK {kvs:List (D×D)} {Q:List Pc} {e:Pt} (h:e∈hks kvs Q):∃pc∈Q,e.1=pc.1/\0<=e.2/\e.2<=vOf kvs pc.2:=by
 obtain ⟨pc,m,h⟩:=List.mem_flatMap.mp h;obtain ⟨k,hk,rfl⟩:=List.mem_map.mp h;have:=List.mem_range.mp hk;exact ⟨pc,m,rfl,by show (0:Int)<=k;lia,by show (k:Int)<=_;lia⟩
end Lk07
end
section
namespace Lk07
open PySem L2 Mi
theorem R7 {kvs:List (D×D)} (s:Str):bV kvs->(bN kvs (.str s)=none\/∃v:Nat,v<=6/\bN kvs (.str s)=some (.int v)):=by
 induction kvs with
 | nil=>exact fun _=>.inl rfl
 | cons p kvs ih=>
  intro h;obtain ⟨a,b⟩:=p;rw [bN];split
  ·obtain ⟨s',v,e,h0,h1⟩:=h _ (List.mem_cons_self ..);cases e;exact .inr ⟨v.toNat,by lia,by rw [show ((v.toNat:Nat):Int)=v by lia]⟩
  ·exact ih fun p hp=>h p (List.mem_cons_of_mem _ hp)
theorem aBc {c:FT} {g:FR} {ρ:List D} {a b:Bool} (h1:c ρ=.ok a) (h2:g ρ=b):rOr (rIf c) (zR (sIf c p_ iT) g) ρ=(a||b):=by
 show (rIf c ρ||zR (sIf c p_ iT) g ρ)=_;have e1:rIf c ρ=a:=by
  unfold rIf;rw [h1];cases a <;> rfl
 rw [e1];cases a with
 | true=>rfl
 | false=>
  have e2:sIf c p_ iT ρ=.ok (.nx ρ):=nR h1 rfl;unfold zR;rw [e2];show (false||g ρ)=(false||b);rw [h2]
theorem YL {c:FT} {ρ:List D} {a:Bool} (h1:c ρ=.ok a):rIf c ρ=a:=by
 unfold rIf;rw [h1];cases a <;> rfl
theorem sS {f:FS} {g:FR} {ρ ρ':List D} {b:Bool} (h1:f ρ=.ok (.nx ρ')) (h2:g ρ'=b):zR f g ρ=b:=by
 unfold zR;rw [h1];exact h2
theorem QB {i:Nat} {t:D->List D->Res (List D)} {body:FS} {g:FR} {ρ:List D} {d:D} {xs:List D} {b:Bool} (h1:jX i ρ=.ok d) (h2:qK d=.ok xs) (h3:o_ t body g xs ρ=b):zU i t body g ρ=b:=by
 unfold zU;rw [h1];simp only [h2];exact h3
theorem YM {t:D->List D->Res (List D)} {body:FS} {g:FR} {x:D} {xs ρ ρ1:List D} (h1:t x ρ=.ok ρ1) (h2:g ρ1=true):o_ t body g (x::xs) ρ=true:=by
 rw [o_,h1];simp only [h2,Bool.true_or]
theorem YQ {t:D->List D->Res (List D)} {body:FS} {g:FR} {x:D} {xs ρ ρ1 ρ2:List D} {b:Bool} (h1:t x ρ=.ok ρ1) (h2:g ρ1=false) (h3:body ρ1=.ok (.nx ρ2)) (h4:o_ t body g xs ρ2=b):o_ t body g (x::xs) ρ=b:=by
 rw [o_,h1];simp only [h2,Bool.false_or,h3];exact h4
noncomputable def sg:FR:=(rOr (rIf (bTB (b2 (bL (.ord .lt)) bQ cV))) (zR (sIf (bTB (b2 (bL (.ord .lt)) bQ cV)) (p_) (iT)) (rOr (rIf (bTB (b2 (bL .isin) bQ gD))) (zR (sIf (bTB (b2 (bL .isin) bQ gD)) (p_) (iT)) (rIf (bTB (b2 (bL .notin) dX dY)))))))
noncomputable def aHc (kvs:List (D×D)) (pc:Pc):Prop:=0<pc.1/\∃v:Nat,v<=6/\bN kvs (.str pc.2)=some (.int v)
noncomputable def p8 (kvs:List (D×D)) (P:List Pc):Prop:=(P.map (·.1)).Nodup/\∀pc∈P,aHc kvs pc
theorem aIw {kvs:List (D×D)} (hst:bV kvs) (S:List Pc) (pc:Pc) (pp:D):∃b,sg [.dct kvs,pp,.dct (aR kvs S),.int pc.1,.str pc.2]=b/\(b=false↔(pc.1∉S.map (·.1)/\aHc kvs pc)):=by
 have c1:bL (.ord .lt) (.int pc.1) (.int 1)=.ok (.bl (decide (pc.1<1))):=rfl;have c2:bL .isin (.int pc.1) (.dct (aR kvs S))=.ok (.bl (bN (aR kvs S) (.int pc.1)).isSome):=by
  show (if sZ (aR kvs S) (.int pc.1) then Res.ok (D.bl (bN (aR kvs S) (.int pc.1)).isSome) else .bad)=_;rw [nD,if_pos rfl]
 have c3:bL .notin (.str pc.2) (.dct kvs)=.ok (.bl (!(bN kvs (.str pc.2)).isSome)):=by
  show (if sZ kvs (.str pc.2) then Res.ok (D.bl (!(bN kvs (.str pc.2)).isSome)) else .bad)=_;rw [rD hst,if_pos rfl]
 refine ⟨_,aBc (dC (aH rfl rfl c1)) (aBc (dC (aH rfl rfl c2)) (YL (dC (aH rfl rfl c3)))),?_⟩;have k2:(bN (aR kvs S) (.int pc.1)).isSome=false↔pc.1∉S.map (·.1):=by
  constructor
  ·intro h z;obtain ⟨q,hq,e⟩:=List.mem_map.mp z;clear c1 c2 c3;induction S with
   | nil=>cases hq
   | cons q' S ih=>
    have e1:bN (aR kvs (q'::S)) (.int pc.1)=if eqD (.int q'.1) (.int pc.1) then some (D.int (vOf kvs q'.2)) else bN (aR kvs S) (.int pc.1):=rfl
    rw [e1,BJ] at h;by_cases hh:q'.1=pc.1
    ·rw [if_pos (by simpa using hh)] at h;cases h
    ·rw [if_neg (by simpa using hh)] at h;rcases List.mem_cons.mp hq with rfl|hq
     ·exact hh e
     ·exact ih h (List.mem_map.mpr ⟨q,hq,e⟩) hq
  ·intro h;rw [oR h];rfl
 have k3:(!(bN kvs (.str pc.2)).isSome)=false↔∃v:Nat,v<=6/\bN kvs (.str pc.2)=some (.int v):=by
  rcases R7 pc.2 hst with h|⟨v,h0,h⟩
  ·rw [h];simp
  ·rw [h];simp only [Option.isSome_some,Bool.not_true,true_iff];exact ⟨v,h0,rfl⟩
 rw [Bool.or_eq_false_iff,Bool.or_eq_false_iff,k2,k3,decide_eq_false_iff_not];unfold aHc;constructor
 ·rintro ⟨h1,h2,h3⟩;exact ⟨h2,by lia,h3⟩
 ·rintro ⟨h1,h2,h3⟩;exact ⟨by lia,h1,h3⟩
theorem sstep {kvs:List (D×D)} (hst:bV kvs) {pp:D} {S:List Pc} {pc:Pc} (hnot:pc.1∉S.map (·.1)) (hp:aHc kvs pc) (hl:S.length<=10000):aEg [.dct kvs,pp,.dct (aR kvs S),.int pc.1,.str pc.2]=.ok (.nx [.dct kvs,pp,.dct (aR kvs (S++[pc])),.int pc.1,.str pc.2]):=by
 obtain ⟨h0,v,hv,ev⟩:=hp;have hno:=oR (kvs:=kvs) hnot;have c1:bL (.ord .lt) (.int pc.1) (.int 1)=.ok (.bl false):=by
  show Res.ok (D.bl (decide (pc.1<1)))=_;rw [decide_eq_false (by lia)]
 have c2:bL .isin (.int pc.1) (.dct (aR kvs S))=.ok (.bl false):=by
  show (if sZ (aR kvs S) (.int pc.1) then Res.ok (D.bl (bN (aR kvs S) (.int pc.1)).isSome) else .bad)=_;rw [nD,if_pos rfl,hno];rfl
 have c3:bL .notin (.str pc.2) (.dct kvs)=.ok (.bl false):=by
  show (if sZ kvs (.str pc.2) then Res.ok (D.bl (!(bN kvs (.str pc.2)).isSome)) else .bad)=_;rw [rD hst,if_pos rfl,ev];rfl
 have gs:getD (.dct kvs) (.str pc.2)=.ok (.int v):=by
  show (if keyOk (.str pc.2) then Res.ofOpt (bN kvs (.str pc.2)) else .bad)=_;rw [ev];rfl
 have hlen:(aR kvs S).length<lim:=by
  rw [aR,List.length_map,bK];lia
 have hput:putD (aR kvs S) (.int pc.1) (.int v)=aR kvs (S++[pc]):=by
  rw [vR hno,aR,aR,List.map_append];show _++[(D.int pc.1,D.int v)]=_++[(D.int pc.1,D.int (vOf kvs pc.2))];rw [xV ev]
 refine aN (nR (dC (aH rfl rfl c1)) rfl) ?_;refine aN (nR (dC (aH rfl rfl c2)) rfl) ?_;refine aN (nR (dC (aH rfl rfl c3)) rfl) ?_;rw [<-hput];exact EY (kvs:=aR kvs S) (k:=.int pc.1) (aH rfl rfl gs) rfl rfl hlen (nD kvs _ S) rfl
theorem HD {kvs:List (D×D)} (hst:bV kvs) {pp:D}:∀(P S:List Pc) (x y:D),(S++P).length<=10000->∃b,o_ (tgN [3,4]) aEg sg (P.map pcD) [.dct kvs,pp,.dct (aR kvs S),x,y]=b/\(b=false↔((∀pc∈P,pc.1∉S.map (·.1))/\p8 kvs P))
 | [],S,x,y,_=>⟨false,rfl,by simp [p8]⟩
 | pc::P,S,x,y,hl=>by
  have hS:S++pc::P=(S++[pc])++P:=by simp
  obtain ⟨b,e1,e2⟩:=aIw hst S pc pp;cases b with
  | true=>
   refine ⟨true,YM rfl e1,⟨fun z=>(by cases z),fun ⟨h1,h2,h3⟩=>?_⟩⟩;exact absurd (e2.mpr ⟨h1 pc (List.mem_cons_self ..),h3 pc (List.mem_cons_self ..)⟩) (by simp)
  | false=>
   obtain ⟨h1,h2⟩:=e2.mp rfl;obtain ⟨b,i1,i2⟩:=HD hst (pp:=pp) P (S++[pc]) (.int pc.1) (.str pc.2) (by rw [<-hS];exact hl);refine ⟨b,YQ rfl e1 (sstep hst h1 h2 (by rw [List.length_append] at hl;lia)) i1,i2.trans ?_⟩;constructor
   ·rintro ⟨k1,k2,k3⟩;refine ⟨fun q hq=>?_,?_,fun q hq=>?_⟩
    ·rcases List.mem_cons.mp hq with rfl|hq
     ·exact h1
     ·exact fun z=>k1 q hq (by rw [List.map_append];exact List.mem_append_left _ z)
    ·rw [List.map_cons,List.nodup_cons];refine ⟨fun z=>?_,k2⟩;obtain ⟨q,hq,e⟩:=List.mem_map.mp z;exact k1 q hq (by rw [List.map_append];exact List.mem_append_right _ (by simp [e]))
    ·rcases List.mem_cons.mp hq with rfl|hq
     ·exact h2
     ·exact k3 q hq
   ·rintro ⟨k1,k2,k3⟩;rw [List.map_cons,List.nodup_cons] at k2;refine ⟨fun q hq z=>?_,k2.2,fun q hq=>k3 q (List.mem_cons_of_mem _ hq)⟩;rw [List.map_append] at z;rcases List.mem_append.mp z with z|z
    ·exact k1 q (List.mem_cons_of_mem _ hq) z
    ·have:q.1=pc.1:=by simpa using z
     exact k2.1 (this▸List.mem_map.mpr ⟨q,hq,rfl⟩)
theorem aEj {kvs:List (D×D)} (hst:bV kvs) (P:List Pc) (hl:P.length<=10000):∃b,c7 [.dct kvs,.tup (P.map pcD)]=b/\(b=false↔p8 kvs P):=by
 obtain ⟨b,h1,h2⟩:=HD hst (pp:=.tup (P.map pcD)) P [] .uD .uD (by simpa using hl);refine ⟨b,?_,h2.trans (by simp)⟩;show (true&&iZ [.dct kvs,.tup (P.map pcD),.uD,.uD,.uD])=b;rw [Bool.true_and];refine sS (fJ rfl rfl) ?_;exact QB rfl rfl h1
theorem HF {kvs:List (D×D)} (hst:bV kvs) {P:List Pc} (h:p8 kvs P) (hl:P.length<=1000):dI 2 cO [.dct kvs,.tup (P.map pcD)]=.ok (.dct (aR kvs P)):=by
 obtain ⟨x',y',e⟩:=xW hst (pp:=.tup (P.map pcD)) P [] .uD .uD (by simpa using h.1) (fun pc m=>(h.2 pc m).1) (fun pc m=>(h.2 pc m).2) (by simpa using hl);refine (eF rfl).trans (call_v ?_);refine aN (fJ rfl rfl) ?_;refine aN (pQ rfl rfl e) ?_;rfl
theorem QC (T:List Tie) (h:2*T.length<lim):dI 1 j6 [.tup (T.map bH)]=.ok (.lst ((ends T).map enP)):=by
 obtain ⟨x',y',e⟩:=G9 (tt:=.tup (T.map bH)) T [] .uD .uD (by simpa using h);refine (eF rfl).trans (call_v ?_);refine aN (fJ rfl rfl) ?_;refine aN (pQ rfl rfl e) ?_;rfl
end Lk07
end
section
namespace Lk07
open PySem L2 Mi
theorem aHd {a b:FE} {ρ:List D} (h1:a ρ=.ok (.bl false)):J5 a b ρ=.ok (.bl false):=by
 unfold J5;rw [h1];rfl
theorem aEk {kvs:List (D×D)} {P:List Pc} (hn:(P.map (·.1)).Nodup) (bd:Int) (e:Pt):∃b,dI 3 dD [.dct (aR kvs P),.int bd,enP e]=.ok (.bl b)/\(b=true↔Place kvs P bd e):=by
 by_cases hp:Place kvs P bd e
 ·exact ⟨true,P_ hn hp,by simp [hp]⟩
 refine ⟨false,?_,by simp [hp]⟩;refine (eF rfl).trans (call_v ?_);refine aN (k_ (aH rfl rfl rfl) rfl) ?_;have ht:bTB (b2 (bL .eq) bQ cU) [.dct (aR kvs P),.int bd,enP e,.int e.1]=.ok (e.1==0):=dC (aH rfl rfl rfl);have le0:∀k:Bool,decide (0<=e.2)=k->bL (.ord .le) (.int 0) (.int e.2)=.ok (.bl k):=fun k h=>by
  show Res.ok (D.bl (decide (0<=e.2)))=_;rw [h]
 by_cases h0:e.1=0
 ·rw [show (e.1==0)=true by simpa using h0] at ht;refine aCj (PB ht (lY ?_ rfl));by_cases h1:0<=e.2
  ·refine aF0 rfl (aH rfl rfl rfl) (le0 true (decide_eq_true h1)) rfl ?_;show Res.ok (D.bl (decide (e.2<bd)))=_;rw [decide_eq_false fun z=>hp ⟨fun _=>⟨h1,z⟩,fun z=>absurd h0 z⟩]
  ·exact aIn rfl (aH rfl rfl rfl) (le0 false (decide_eq_false h1))
 ·rw [show (e.1==0)=false by simpa using h0] at ht;refine aN (nR ht rfl) (lY ?_ rfl);have ci:bL .isin (.int e.1) (.dct (aR kvs P))=.ok (.bl (bN (aR kvs P) (.int e.1)).isSome):=by
   show (if sZ (aR kvs P) (.int e.1) then Res.ok (D.bl (bN (aR kvs P) (.int e.1)).isSome) else .bad)=_;rw [nD,if_pos rfl]
  by_cases hm:e.1∈P.map (·.1)
  ·obtain ⟨pc,m,e1⟩:=List.mem_map.mp hm;have hl:=vQ (kvs:=kvs) hn m;have e1:pc.1=e.1:=e1;rw [e1] at hl;rw [hl] at ci;refine aCi (aH rfl rfl ci) ?_;by_cases h1:0<=e.2
   ·refine aF0 (z:=.int (vOf kvs pc.2)) rfl (aH rfl rfl rfl) (le0 true (decide_eq_true h1)) (aH rfl rfl ?_) ?_
    ·show (if keyOk (.int e.1) then Res.ofOpt (bN (aR kvs P) (.int e.1)) else .bad)=_;rw [hl];rfl
    ·show Res.ok (D.bl (decide (e.2<=(vOf kvs pc.2:Int))))=_;rw [decide_eq_false fun z=>hp ⟨fun z=>absurd z h0,fun _=>⟨pc,m,e1.symm,h1,z⟩⟩]
   ·exact aIn rfl (aH rfl rfl rfl) (le0 false (decide_eq_false h1))
  ·rw [oR hm] at ci;exact aHd (aH rfl rfl ci)
theorem vV {e:Pt}:∀{E:List Pt},e∈E->(bN (E.map dO) (enP e)).isSome=true
 | q::E,h=>by
  show (if eqD (enP q) (enP e) then some (D.bl true) else bN (E.map dO) (enP e)).isSome=true;rw [z_];by_cases hh:q=e
  ·rw [if_pos (decide_eq_true hh)];rfl
  ·rw [if_neg (by simpa using hh)];rcases List.mem_cons.mp h with h|h
   ·exact absurd h.symm hh
   ·exact vV h
noncomputable def cg:FR:=(rOr (rIf (bTB (b2 (bL .isin) dX bQ))) (zR (sIf (bTB (b2 (bL .isin) dX bQ)) (p_) (iT)) (rIf (CW (bTr (aL (dI 3 dD) (aC dY (aC gD (aC dX aO)))))))))
theorem QD {kvs:List (D×D)} {P:List Pc} {bd:Int} {ee:D} (hn:(P.map (·.1)).Nodup):∀(E S:List Pt) (x:D),(S++E).length<=10000->∃b,o_ (tg1 4) MF cg (E.map enP) [.dct (aR kvs P),ee,.int bd,.dct (S.map dO),x]=b/\(b=false↔((∀e∈E,e∉S)/\E.Nodup/\∀e∈E,Place kvs P bd e))
 | [],S,x,_=>⟨false,rfl,by simp⟩
 | e::E,S,x,hl=>by
  have hS:S++e::E=(S++[e])++E:=by simp
  have c1:bL .isin (enP e) (.dct (S.map dO))=.ok (.bl (bN (S.map dO) (enP e)).isSome):=by
   show (if sZ (S.map dO) (enP e) then Res.ok (D.bl (bN (S.map dO) (enP e)).isSome) else .bad)=_;rw [t8,if_pos rfl]
  have k1:(bN (S.map dO) (enP e)).isSome=false↔e∉S:=by
   constructor
   ·intro h z;rw [vV z] at h;cases h
   ·intro h;rw [oU h];rfl
  obtain ⟨pb,c2,k2⟩:=aEk (kvs:=kvs) hn bd e;have hg:cg [.dct (aR kvs P),ee,.int bd,.dct (S.map dO),enP e]=((bN (S.map dO) (enP e)).isSome||!pb):=
   aBc (dC (aH rfl rfl c1)) (YL (tL (aCh (aK (aD rfl (aD rfl (aD rfl rfl))) c2) rfl)))
  by_cases hok:e∉S/\Place kvs P bd e
  ·obtain ⟨h1,h2⟩:=hok;have hg0:cg [.dct (aR kvs P),ee,.int bd,.dct (S.map dO),enP e]=false:=by
    rw [hg,k1.mpr h1,k2.mpr h2];rfl
   obtain ⟨b,i1,i2⟩:=QD (kvs:=kvs) (bd:=bd) (ee:=ee) hn E (S++[e]) (enP e) (by rw [<-hS];exact hl);have hlen:(S.map dO).length<lim:=by
    rw [List.length_append] at hl;rw [List.length_map,bK];lia
   have hput:putD (S.map dO) (enP e) (.bl true)=(S++[e]).map dO:=by
    rw [vR (oU h1),List.map_append];rfl
   have st:MF [.dct (aR kvs P),ee,.int bd,.dct (S.map dO),enP e]=.ok (.nx [.dct (aR kvs P),ee,.int bd,.dct ((S++[e]).map dO),enP e]):=by
    rw [k1.mpr h1] at c1;rw [k2.mpr h2] at c2;refine aN (nR (dC (aH rfl rfl c1)) rfl) ?_;refine aN (nR (tL (b:=true) (aCh (aK (aD rfl (aD rfl (aD rfl rfl))) c2) rfl)) rfl) ?_;rw [<-hput];exact EY (kvs:=S.map dO) (k:=enP e) rfl rfl rfl hlen (t8 e S) rfl
   refine ⟨b,YQ rfl hg0 st i1,i2.trans ?_⟩;constructor
   ·rintro ⟨j1,j2,j3⟩;refine ⟨fun q hq=>?_,?_,fun q hq=>?_⟩
    ·rcases List.mem_cons.mp hq with rfl|hq
     ·exact h1
     ·exact fun z=>j1 q hq (List.mem_append_left _ z)
    ·exact List.nodup_cons.mpr ⟨fun z=>j1 e z (by simp),j2⟩
    ·rcases List.mem_cons.mp hq with rfl|hq
     ·exact h2
     ·exact j3 q hq
   ·rintro ⟨j1,j2,j3⟩;rw [List.nodup_cons] at j2;refine ⟨fun q hq z=>?_,j2.2,fun q hq=>j3 q (List.mem_cons_of_mem _ hq)⟩;rcases List.mem_append.mp z with z|z
    ·exact j1 q (List.mem_cons_of_mem _ hq) z
    ·have:q=e:=by simpa using z
     exact j2.1 (this▸hq)
  ·have hg1:cg [.dct (aR kvs P),ee,.int bd,.dct (S.map dO),enP e]=true:=by
    rw [hg];by_cases h1:e∈S
    ·rw [vV h1];rfl
    ·have:pb=false:=by
      cases pb with
      | false=>rfl
      | true=>exact absurd ⟨h1,k2.mp rfl⟩ hok
     rw [this];simp
   refine ⟨true,YM rfl hg1,⟨fun z=>(by cases z),fun ⟨j1,_,j3⟩=>?_⟩⟩;exact absurd ⟨j1 e (List.mem_cons_self ..),j3 e (List.mem_cons_self ..)⟩ hok
noncomputable def aCl (kvs:List (D×D)) (P:List Pc) (E:List Pt):Prop:=E.Nodup/\(∀e∈E,Place kvs P (jN E) e)/\(hks kvs P).length+jN E<=E.length
noncomputable def aHe:FT:=(bTB (b2 (bL (.ord .lt)) (b2 (aU .sub) (aL iD (aC gM aO)) gD) (aL K3 (aC (RW 0 5 (b2 (aU .add) fK cV)) aO))))
theorem aBd {kvs:List (D×D)} {P:List Pc} {E:List Pt} (hP:P.length<=1000) (hk:∀pc∈P,vOf kvs pc.2<=6) {m:List (D×D)} {x':D}:aHe [.dct (aR kvs P),.lst (E.map enP),.int (jN E),.dct m,x']=.ok (decide ((E.length:Int)-jN E<((hks kvs P).length:Int))):=by
 have hv:RW 0 5 (b2 (aU .add) fK cV) [.dct (aR kvs P),.lst (E.map enP),.int (jN E),.dct m,x']=.ok (.lst ((P.map (cnt kvs)).map D.int)):=by
  show (if decide ((aR kvs P).length<=lim)&&((aR kvs P).all (fun p=>!isTup p.1)&&D.a_ ((aR kvs P).map fun x=>x.2)) then Res.bind (aE2 5 (b2 (aU .add) fK cV) ((aR kvs P).map fun x=>x.2)) (fun ys=>Res.ok (D.lst ys)) else .bad)=_;have h1:decide ((aR kvs P).length<=lim)=true:=decide_eq_true (by rw [aR,List.length_map,bK];lia);have h2:(aR kvs P).all (fun p=>!isTup p.1)=true:=List.all_eq_true.mpr fun x hx=>by
   obtain ⟨y,_,rfl⟩:=List.mem_map.mp hx;rfl
  have h3:D.a_ ((aR kvs P).map (·.2))=true:=by
   rw [aR,List.map_map,show (fun p:D×D=>p.2) ∘ YH kvs=D.int ∘ fun pc:Pc=>(vOf kvs pc.2:Int) from rfl,<-List.map_map];exact o7 _
  rw [h1,h2,h3,if_pos (show (true&&(true&&true))=true from rfl),MJ];rfl
 refine dC (aH (aH (aK (aD rfl rfl) (pD _)) rfl (u_ _ _)) (aK (aD hv rfl) (aCk hk hP)) ?_);show Res.ok (D.bl (decide (((E.map enP).length:Int)-jN E<((hks kvs P).length:Int))))=_;rw [List.length_map]
theorem aEm {kvs:List (D×D)} {P:List Pc} (hs:p8 kvs P) (E:List Pt) (hl:E.length<=10000) (hP:P.length<=1000):∃b,jM [.dct (aR kvs P),.lst (E.map enP)]=b/\(b=false↔aCl kvs P E):=by
 have hk:∀pc∈P,vOf kvs pc.2<=6:=fun pc h=>by
  obtain ⟨_,v,hv,ev⟩:=hs.2 pc h;rw [xV ev];exact hv
 obtain ⟨b,h1,h2⟩:=QD (kvs:=kvs) (P:=P) (bd:=jN E) (ee:=.lst (E.map enP)) hs.1 E [] .uD (by simpa using hl);have ham:=P0 E (by rw [bK];lia);have s1:cL false 2 (aL (dI 1 h_) (aC gM aO)) true [.dct (aR kvs P),.lst (E.map enP),.uD,.uD,.uD]=.ok (.nx [.dct (aR kvs P),.lst (E.map enP),.int (jN E),.uD,.uD]):=cA (aK (aD rfl rfl) ham);have s2:cL true 3 (bC (.dct [])) true [.dct (aR kvs P),.lst (E.map enP),.int (jN E),.uD,.uD]=.ok (.nx [.dct (aR kvs P),.lst (E.map enP),.int (jN E),.dct [],.uD]):=fJ rfl rfl;have rf:zU 1 (tg1 4) MF cg [.dct (aR kvs P),.lst (E.map enP),.int (jN E),.dct [],.uD]=b:=QB rfl rfl h1;cases b with
 | true=>
  refine ⟨true,?_,⟨fun z=>(by cases z),fun ⟨j1,j2,_⟩=>absurd (h2.mpr ⟨fun _ _ z=>(by cases z),j1,j2⟩) (by simp)⟩⟩;show (true&&kI [.dct (aR kvs P),.lst (E.map enP),.uD,.uD,.uD])=true;rw [Bool.true_and];refine sS s1 (sS s2 ?_);show (zU 1 (tg1 4) MF cg _||_)=true;rw [rf];rfl
 | false=>
  obtain ⟨_,j1,j2⟩:=h2.mp rfl;obtain ⟨m,x',e⟩:=vU (kvs:=kvs) (P:=P) (ee:=.lst (E.map enP)) hs.1 E [] .uD (by simpa using j1) j2 (by simpa using hl);have ct:=aBd (kvs:=kvs) (E:=E) (m:=m) (x':=x') hP hk;refine ⟨decide ((E.length:Int)-jN E<((hks kvs P).length:Int)),?_,?_⟩
  ·show (true&&kI [.dct (aR kvs P),.lst (E.map enP),.uD,.uD,.uD])=_;rw [Bool.true_and];refine sS s1 (sS s2 ?_);show (zU 1 (tg1 4) MF cg _||zR (uP 1 (tg1 4) MF) (rIf aHe) _)=_;rw [rf,Bool.false_or];exact sS (pQ rfl rfl e) (YL ct)
  ·rw [decide_eq_false_iff_not];constructor
   ·exact fun h=>⟨j1,j2,by lia⟩
   ·exact fun h=>by have:=h.2.2;lia
end Lk07
end
section
namespace Lk07
open PySem L2 Mi
noncomputable def aHs:D->Pc
 | .tup [.int n,.str s]=>(n,s)
 | _=>(0, "")
def jP (U:List Pc):List Pc:=(iR (U.map pcD)).map aHs
theorem BL (U:List Pc):(jP U).map pcD=iR (U.map pcD):=by
 unfold jP;rw [List.map_map]
 conv=>rhs;rw [<-List.map_id (iR (U.map pcD))]
 refine List.map_congr_left fun d hd=>?_
 obtain ⟨t,_,rfl⟩:=List.mem_map.mp ((dW (U.map pcD)).mem_iff.mp hd);rfl
theorem MK:∀{xs ys:List Pc},xs.map pcD=ys.map pcD->xs=ys
 | [],[],_=>rfl
 | x::xs,y::ys,h=>by
  rw [List.map_cons,List.map_cons,List.cons.injEq] at h;rw [MK h.2]
  congr 1
  have:=congrArg aHs h.1;exact this
 | [],_::_,h=>by cases h
 | _::_,[],h=>by cases h
theorem YS (P:List Pc):iY [.tup (P.map pcD)]=.ok (.lst ((jP P).map pcD)):=by
 show (if bI (P.map pcD) then Res.ok (D.lst (iR (P.map pcD))) else .bad)=_;rw [jD,if_pos rfl,BL]
theorem HH (U:List Tie):iY [.tup (U.map bH)]=.ok (.lst ((bU U).map bH)):=by
 show (if bI (U.map bH) then Res.ok (D.lst (iR (U.map bH))) else .bad)=_;rw [oN,if_pos rfl,LR]
theorem HJ (P:List Pc) (U:List Tie) (r:Int) (hl:U.length<=lim):dI 3 l_ [.tup (P.map pcD),.tup (U.map bH),.int r]=.ok (d_ (jP P) (bU (U.map norm)) r):=by
 refine (eF rfl).trans (call_v ?_);have h2:(2:Nat)<=lim:=by rw [bK];lia
 have hf:rR (qM 4 (aG1 2) n_ (cJ (aC (aL (cP .lt) (aC dX (aC fK aO))) (aC (aL (cP .gt) (aC dX (aC fK aO))) aO))) false [.tup (P.map pcD),.tup (U.map bH),.int r,.uD]) [] (U.map bH)=.ok ((U.map norm).map bH):=by
  rw [fO _ bH (fun _=>true) (fun t=>bH (norm t))]
  ·rw [List.filter_eq_self.mpr (fun _ _=>rfl),List.map_map,List.nil_append];rfl
  ·intro acc t;have e1:=G5 .lt t.1 t.2 ltP vN;have e2:=G5 .gt t.1 t.2 (fun x y=>ltP y x) PP;exact G8 (n:=4) (t:=aG1 2) (c:=n_) (k:=false) (acc:=acc) (ρ:=[.tup (P.map pcD),.tup (U.map bH),.int r,.uD]) (bs:=[enP t.1,enP t.2]) rfl rfl rfl fun _=>⟨gC (aD (aK (aD rfl (aD rfl rfl)) e1) (aD (aK (aD rfl (aD rfl rfl)) e2) rfl)) h2,rfl⟩
 have hs:=rE (U.map norm);refine aN (cA (mV (g8 rfl rfl) (by rw [List.length_map];exact hl) hf)) ?_;refine lY (gC (aD (aK (aD (aK (aD rfl rfl) (YS P)) rfl) rfl) (aD (aK (aD (aK (aD rfl rfl) hs) rfl) rfl) (aD rfl rfl))) ?_) ?_
 ·rw [bK];show 3<=1000000;lia
 ·rw [rG];rfl
section
variable {kvs:List (D×D)} {P:List Pc} {U:List Tie} {r:Int}
noncomputable def YT (kvs:List (D×D)) (P:List Pc) (U:List Tie) (r:Int):Prop:=0<=r/\p8 kvs P/\aCl kvs P (ends U)
theorem aBe (hst:bV kvs) (h:YT kvs P U r) (hP:P.length<=1000) (hU:U.length<=2000):dI 4 GD [.dct kvs,.tup (P.map pcD),.tup (U.map bH),.int r]=.ok (d_ (jP P) (bU (U.map norm)) r):=by
 obtain ⟨hr,hs,he⟩:=h;have hk:∀pc∈P,vOf kvs pc.2<=6:=fun pc h=>by
  obtain ⟨_,v,hv,ev⟩:=hs.2 pc h;rw [xV ev];exact hv
 have hc:=aBb (kvs:=kvs) (P:=P) (E:=ends U) hs.1 he.1 he.2.1 (by rw [BK];lia) hP hk he.2.2;have h1:=HF hst hs hP;have h2:=QC U (by rw [bK];lia);have ha:=HJ P U r (by rw [bK];lia);refine (eF rfl).trans (call_v ?_);show aCg [.dct kvs,.tup (P.map pcD),.tup (U.map bH),.int r]=_;have c0:bL (.ord .lt) (.int r) (.int 0)=.ok (.bl false):=by
  show Res.ok (D.bl (decide (r<0)))=_;rw [decide_eq_false (by lia)]
 refine aN (nR (dC (aH rfl rfl c0)) rfl) ?_;refine aN (aEi (aK (aD (aK (aD rfl (aD rfl rfl)) h1) (aD (aK (aD rfl rfl) h2) rfl)) hc)) ?_;exact lY (aK (aD rfl (aD rfl (aD rfl rfl))) ha) rfl
theorem QF {h:List D->Bool} {a:FA} {ρ:List D} {ds:List D} {b:Bool} (h1:a ρ=.ok ds) (h2:h ds=b):vB h a ρ=b:=by
 unfold vB;rw [h1];exact h2
theorem aHf (hst:bV kvs) (P:List Pc) (U:List Tie) (r:Int) (hP:P.length<=1000) (hU:U.length<=2000):∃b,GF [.dct kvs,.tup (P.map pcD),.tup (U.map bH),.int r]=b/\(b=false↔YT kvs P U r):=by
 obtain ⟨b1,s1,s2⟩:=aEj hst P (by lia);have c0:bL (.ord .lt) (.int r) (.int 0)=.ok (.bl (decide (r<0))):=rfl;have top:∀b,(rOr (vB (c7) (aC dY (aC gM aO))) (vB (jM) (aC (aL (dI 2 cO) (aC dY (aC gM aO))) (aC (aL (dI 1 j6) (aC gD aO)) aO)))) [.dct kvs,.tup (P.map pcD),.tup (U.map bH),.int r]=b->GF [.dct kvs,.tup (P.map pcD),.tup (U.map bH),.int r]=(decide (r<0)||b):=fun b h=>by
  show (true&&X4 [.dct kvs,.tup (P.map pcD),.tup (U.map bH),.int r])=_;rw [Bool.true_and];exact aBc (dC (aH rfl rfl c0)) h
 have r1:vB (c7) (aC dY (aC gM aO)) [.dct kvs,.tup (P.map pcD),.tup (U.map bH),.int r]=b1:=QF (ds:=[.dct kvs,.tup (P.map pcD)]) (aD rfl (aD rfl rfl)) s1;cases b1 with
 | true=>
  refine ⟨true,?_,⟨fun z=>(by cases z),fun h=>absurd (s2.mpr h.2.1) (by simp)⟩⟩;rw [top true (by show (vB _ _ _||_)=true;rw [r1];rfl)];simp
 | false=>
  have hs:=s2.mp rfl;obtain ⟨b2,t1,t2⟩:=aEm hs (ends U) (by rw [BK];lia) hP;have h1:=HF hst hs hP;have h2:=QC U (by rw [bK];lia);refine ⟨decide (r<0)||b2,top b2 ?_,?_⟩
  ·show (vB _ _ _||_)=b2;rw [r1,Bool.false_or];exact QF (ds:=[.dct (aR kvs P),.lst ((ends U).map enP)]) (aD (aK (aD rfl (aD rfl rfl)) h1) (aD (aK (aD rfl rfl) h2) rfl)) t1
  ·rw [Bool.or_eq_false_iff,decide_eq_false_iff_not,t2];constructor
   ·exact fun ⟨a,b⟩=>⟨by lia,hs,b⟩
   ·exact fun ⟨a,_,b⟩=>⟨by lia,b⟩
theorem sV {α:Type} (f:α->D) (h:∀a,(f a).plain=true):∀xs:List α,D.iH (xs.map f)=true
 | []=>rfl
 | x::xs=>by rw [List.map_cons,D.iH,h,sV f h xs];rfl
theorem vW {α:Type} (f:α->D) (n:Nat) (h:∀a,(f a).cG n=true):∀xs:List α,D.iQ n (xs.map f)=true
 | []=>by cases n <;> rfl
 | x::xs=>by
  have:=vW f n h xs;rw [List.map_cons];unfold D.iQ;rw [h,this];rfl
theorem vX (P:List Pc) (U:List Tie) (r:Int):(d_ P U r).plain=true:=by
 show (D.iH (P.map pcD)&&(D.iH (U.map bH)&&true))=true;rw [sV pcD (fun _=>rfl),sV bH (fun _=>rfl)];rfl
theorem QG (P:List Pc) (U:List Tie) (r:Int):(d_ P U r).cG aZ=true:=by
 show (D.iQ 10 (P.map pcD)&&(D.iQ 10 (U.map bH)&&true))=true;rw [vW pcD 10 (fun _=>rfl),vW bH 10 (fun _=>rfl)];rfl
structure Good (kvs:List (D×D)) (P:List Pc) (U:List Tie) (r:Int):Prop where
 made:YT kvs P U r
 ps:jP P=P
 ts:bU (U.map norm)=U
theorem QH (hst:bV kvs) (P:List Pc) (U:List Tie) (r:Int) (hP:P.length<=1000) (hU:U.length<=2000):∃b,dI 2 eG [.dct kvs,d_ P U r]=.ok (.bl b)/\(b=true↔Good kvs P U r):=by
 obtain ⟨b1,s1,s2⟩:=aHf hst P U r hP hU;have ha:(aC dY (aC (b2 getD gM cU) (aC (b2 getD gM cV) (aC (b2 getD gM v5) aO)))) [.dct kvs,d_ P U r]=.ok [.dct kvs,.tup (P.map pcD),.tup (U.map bH),.int r]:=
  aD rfl (aD (aH rfl rfl (n0 P U r)) (aD (aH rfl rfl (n1 P U r)) (aD (aH rfl rfl (n2 P U r)) rfl)))
 cases b1 with
 | true=>
  refine ⟨false,(eF rfl).trans (call_v ?_),⟨fun z=>(by cases z),fun g=>absurd (s2.mpr g.made) (by simp)⟩⟩;show xO _ _ _ _ _ [.dct kvs,d_ P U r]=_;unfold xO;rw [ha,Res.aY,if_pos s1]
 | false=>
  have hm:=s2.mp rfl;have e1:=aBe hst hm hP hU;refine ⟨eqD (d_ (jP P) (bU (U.map norm)) r) (d_ P U r),(eF rfl).trans (call_v ?_),?_⟩
  ·show xO _ _ _ _ _ [.dct kvs,d_ P U r]=_;unfold xO;rw [ha,Res.aY,if_neg (by rw [s1];simp),e1,Res.aY];show Res.bind (bL .eq (d_ (jP P) (bU (U.map norm)) r) (d_ P U r)) _=_;have:bL .eq (d_ (jP P) (bU (U.map norm)) r) (d_ P U r)=.ok (.bl (eqD (d_ (jP P) (bU (U.map norm)) r) (d_ P U r))):=by
    show (if (d_ (jP P) (bU (U.map norm)) r).cG aZ&&(d_ P U r).cG aZ then Res.ok (D.bl (eqD (d_ (jP P) (bU (U.map norm)) r) (d_ P U r))) else .bad)=_;rw [QG,QG];rfl
   rw [this];rfl
  ·constructor
   ·intro h;have:=VR _ _ (vX _ _ _) (vX _ _ _) h;unfold d_ at this;simp only [D.tup.injEq,List.cons.injEq,and_true] at this;exact ⟨hm,MK this.1,L_ this.2⟩
   ·intro g;rw [g.ps,g.ts];exact yQ _ (vX _ _ _)
end
end Lk07
end
section
namespace Lk07
open PySem L2 Mi
theorem aBf {Q:List Pc} (h:Q.Pairwise LtN):jP Q=Q:=by
 have h1:=aB7 (List.Perm.refl Q) h;have h2:fL [.lst (Q.map pcD)]=.ok (.lst (iR (Q.map pcD))):=by
  show (if bI (Q.map pcD) then Res.ok (D.lst (iR (Q.map pcD))) else .bad)=_;rw [jD,if_pos rfl]
 rw [h2] at h1;have h3:iR (Q.map pcD)=Q.map pcD:=by
  injection h1 with h1
  injection h1
 refine MK ?_;rw [BL,h3]
section
variable {kvs:List (D×D)} {Q:List Pc} {V:List Tie} {r:Int}
theorem aCm (n:Net kvs Q V):∀e∈hks kvs Q,0<e.1:=fun e he=>by
 obtain ⟨pc,m,h1,_⟩:=YK he;rw [h1];exact n.qpos pc m
theorem R8 (n:Net kvs Q V):(Q.map (·.1)).Nodup:=by
 refine List.Pairwise.map (S:=fun a b:Int=>a≠b) _ (fun a b hab=>?_) n.qs;have hab:a.1<b.1:=hab;lia
theorem YW (n:Net kvs Q V):p8 kvs Q:=⟨R8 n,fun pc h=>⟨n.qpos pc h,n.sk pc h⟩⟩
theorem YX (n:Net kvs Q V):∃S:List Int,S.Nodup/\(∀s∈S,0<=s/\s<S.length)/\(ends V).Perm (hks kvs Q++S.map rim)/\jN (ends V)=S.length:=by
 obtain ⟨S,s1,s2,s3⟩:=n.rims;refine ⟨S,s1,s2,s3,?_⟩;unfold jN;rw [(s3.filter _).length_eq,List.filter_append];have e1:(hks kvs Q).filter (fun e=>e.1==0)=[]:=List.filter_eq_nil_iff.mpr fun e he=>by
  have:=aCm n e he;simp;lia
 have e2:(S.map rim).filter (fun e=>e.1==0)=S.map rim:=List.filter_eq_self.mpr fun e he=>by
  obtain ⟨s,_,rfl⟩:=List.mem_map.mp he;rfl
 rw [e1,e2,List.nil_append,List.length_map]
theorem HN (n:Net kvs Q V):(ends V).length=(hks kvs Q).length+jN (ends V):=by
 obtain ⟨S,_,_,s3,s4⟩:=YX n;rw [s3.length_eq,List.length_append,s4,List.length_map]
theorem HQ (n:Net kvs Q V):∀e∈ends V,Place kvs Q (jN (ends V)) e:=fun e he=>by
 obtain ⟨S,s1,s2,s3,s4⟩:=YX n;rcases List.mem_append.mp (s3.mem_iff.mp he) with h|h
 ·have h0:=aCm n e h;exact ⟨fun z=>by lia,fun _=>YK h⟩
 ·obtain ⟨s,hs,rfl⟩:=List.mem_map.mp h;refine ⟨fun _=>?_,fun z=>absurd rfl z⟩;rw [s4];exact s2 s hs
theorem aBg (n:Net kvs Q V) (hr:0<=r):Good kvs Q V r:=by
 refine ⟨⟨hr,YW n,n.nd,HQ n,by rw [HN n];exact Nat.le_refl _⟩,aBf n.qs,?_⟩;have:V.map norm=V:=by
  conv=>rhs;rw [<-List.map_id V]
  exact List.map_congr_left fun t ht=>aEh (n.lt t ht)
 rw [this];exact aB6 n.srt
theorem YZ (h:r<0):¬Good kvs Q V r:=fun g=>by have:=g.made.1;lia
theorem QJ {P:List Pc} {U:List Tie} (h:¬(P.map (·.1)).Nodup):¬Good kvs P U r:=fun g=>h g.made.2.1.1
theorem aCn {P:List Pc} {U:List Tie} {pc:Pc} (m:pc∈P) (h:¬aHc kvs pc):¬Good kvs P U r:=fun g=>h (g.made.2.1.2 pc m)
theorem HR {P:List Pc} {U:List Tie} (h:¬(ends U).Nodup):¬Good kvs P U r:=fun g=>h g.made.2.2.1
theorem MN {P:List Pc} {U:List Tie} {e:Pt} (m:e∈ends U) (h:¬Place kvs P (jN (ends U)) e):¬Good kvs P U r:=fun g=>h (g.made.2.2.2.1 e m)
theorem Y0 {P:List Pc} {U:List Tie} (h:(ends U).length<(hks kvs P).length+jN (ends U)):¬Good kvs P U r:=fun g=>by have:=g.made.2.2.2.2;lia
theorem aHg {P:List Pc} {U:List Tie} (h:jP P≠P):¬Good kvs P U r:=fun g=>h g.ps
theorem aCo {P:List Pc} {U:List Tie} (h:bU (U.map norm)≠U):¬Good kvs P U r:=fun g=>h g.ts
theorem kO {U:List Tie} {t:Tie} (h:t∈U):t.1∈ends U/\t.2∈ends U:=by
 unfold ends;exact ⟨List.mem_flatMap.mpr ⟨t,h,by simp⟩,List.mem_flatMap.mpr ⟨t,h,by simp⟩⟩
theorem R9 {A B:List Pc} {a b:Pc} (h:a.1 > b.1):jP (A++a::b::B)≠A++a::b::B:=fun z=>by
 have h1:=j9 ((A++a::b::B).map pcD);rw [<-BL,z,List.pairwise_map,List.pairwise_append] at h1;have h2:=(List.pairwise_cons.mp h1.2.1).1 b (List.mem_cons_self ..);obtain ⟨k,e,hk⟩:=YF b a;have e1:=yS (pcD b) (pcD a) k rfl rfl e;rw [hk (by lia),decide_eq_true (by lia)] at e1;unfold leE at h2;rw [<-e1] at h2;cases h2
theorem R_ {A B:List Tie} {a b:Tie} (h:LeT b a) (hne:a≠b):bU ((A++a::b::B).map norm)≠A++a::b::B:=fun z=>by
 have h1:=oO ((A++a::b::B).map norm);rw [z,List.pairwise_append] at h1;have h2:=(List.pairwise_cons.mp h1.2.1).1 b (List.mem_cons_self ..);have:[a,b]=[b,a]:=eq_of_sorted (List.Perm.swap ..) (by simp [h2]) (by simp [h]);simp only [List.cons.injEq] at this;exact hne this.1
theorem Y4 {U:List Tie} {t:Tie} (m:t∈U) (h:ltP t.2 t.1):bU (U.map norm)≠U:=fun z=>by
 have h1:t∈U.map norm:=(cT _).mem_iff.mp (by rw [z];exact m);obtain ⟨u,_,e⟩:=List.mem_map.mp h1;unfold norm at e;have e1:=congrArg Prod.fst e;have e2:=congrArg Prod.snd e;simp only at e1 e2;by_cases c1:ltP u.2 u.1
 ·rw [if_pos c1] at e1;rw [if_neg (irr _ _ c1)] at e2;rw [<-e1,<-e2] at h;exact irr _ _ c1 h
 ·rw [if_neg c1] at e1;by_cases c2:ltP u.1 u.2
  ·rw [if_pos c2] at e2;rw [<-e1,<-e2] at h;exact c1 h
  ·rw [if_neg c2] at e2;rw [<-e1,<-e2] at h;simp only [ltP] at h;lia
end
end Lk07
end
section
namespace Lk07
open PySem L2 Mi
theorem wO (U:List Pt):bI (U.map enP)=true:=by
 unfold bI;refine List.all_eq_true.mpr fun d hd=>?_
 obtain ⟨t,ht,rfl⟩:=List.mem_map.mp hd;have hk:gK ((U.map enP).headD .non)=3:=by
  cases U with
  | nil=>cases ht
  | cons u U=>rfl
 have h5:gK (enP t)=3:=rfl;have hp:(enP t).plain=true:=rfl;have hq:(enP t).cG aZ=true:=rfl;rw [hk,h5,hp,hq];refine List.all_eq_true.mpr fun b hb=>?_
 obtain ⟨u,_,rfl⟩:=List.mem_map.mp hb;rw [vN];rfl
theorem aBh (E:List Pt):∃F:List Pt,F.Perm E/\fL [.lst (E.map enP)]=.ok (.lst (F.map enP)):=by
 let un:D->Pt:=fun d=>match d with|.tup [.int a,.int b]=>(a,b)|_=>(0,0)
 refine ⟨(iR (E.map enP)).map un,?_,?_⟩
 ·refine ((dW (E.map enP)).map un).trans ?_;rw [List.map_map];refine List.Perm.of_eq ?_
  conv=>rhs;rw [<-List.map_id E]
  exact List.map_congr_left fun a _=>rfl
 ·show (if bI (E.map enP) then Res.ok (D.lst (iR (E.map enP))) else .bad)=_;rw [wO,if_pos rfl,List.map_map]
  congr 2
  conv=>lhs;rw [<-List.map_id (iR (E.map enP))]
  refine List.map_congr_left fun d hd=>?_
  obtain ⟨t,_,rfl⟩:=List.mem_map.mp ((dW (E.map enP)).mem_iff.mp hd);rfl
theorem HS {f:FE} {t:D->List D->Res (List D)} {ρ ρ':List D} {d:D} (h:f ρ=.ok d) (hp:d.pure=true) (ht:t d ρ=.ok ρ'):aC9 f t ρ=.ok (.nx ρ'):=by
 unfold aC9;rw [h,Res.aY,if_pos hp,ht];rfl
theorem BP {a b:FE} {ρ:List D} {i j:Int} (h1:a ρ=.ok (.int i)) (h2:b ρ=.ok (.int j)):cJ (aC a (aC b aO)) ρ=.ok (enP (i,j)):=gC (aD h1 (aD h2 rfl)) (by rw [bK];simp)
theorem wQ {a b:FE} {ρ:List D} {t:Tie} (h1:a ρ=.ok (enP t.1)) (h2:b ρ=.ok (enP t.2)):cJ (aC a (aC b aO)) ρ=.ok (bH t):=gC (aD h1 (aD h2 rfl)) (by rw [bK];simp)
theorem MP {a:FE} {ρ:List D} {x:D} (h1:a ρ=.ok x):cJ (aC a aO) ρ=.ok (.tup [x]):=gC (aD h1 rfl) (by rw [bK];simp)
theorem pA {a b c:FE} {ρ:List D} {P:List Pc} {U:List Tie} {r:Int} (h1:a ρ=.ok (.tup (P.map pcD))) (h2:b ρ=.ok (.tup (U.map bH))) (h3:c ρ=.ok (.int r)):cJ (aC a (aC b (aC c aO))) ρ=.ok (d_ P U r):=gC (aD h1 (aD h2 (aD h3 rfl))) (by rw [bK];simp)
theorem aEn {α:Type} (f:α->D) (xs:List α):iD [.tup (xs.map f)]=.ok (.int xs.length):=by
 show Res.ok (D.int ((xs.map f).length:Int))=_;rw [List.length_map]
theorem aIx {α:Type} (f:α->D) (xs:List α):iD [.lst (xs.map f)]=.ok (.int xs.length):=by
 show Res.ok (D.int ((xs.map f).length:Int))=_;rw [List.length_map]
theorem aHh (n:Nat) (i:Int) (h0:0<=i) (h1:i<n):ixD n i=some i.toNat:=by
 unfold ixD;rw [if_pos h0,if_pos h1]
theorem aBi {α:Type} (f:α->D) (A B:List α) (p:α):getD (.tup ((A++p::B).map f)) (.int A.length)=.ok (f p):=by
 show Res.ofOpt ((ixD ((A++p::B).map f).length A.length).bind fun j=>((A++p::B).map f)[j]?)=_;rw [aHh _ _ (by lia) (by simp;lia)];simp only [Option.bind_some];rw [show ((A.length:Int)).toNat=A.length by lia,List.map_append,List.getElem?_append_right (by simp)];simp
theorem getL {α:Type} (f:α->D) (A B:List α) (p:α):getD (.lst ((A++p::B).map f)) (.int A.length)=.ok (f p):=by
 show Res.ofOpt ((ixD ((A++p::B).map f).length A.length).bind fun j=>((A++p::B).map f)[j]?)=_;rw [aHh _ _ (by lia) (by simp;lia)];simp only [Option.bind_some];rw [show ((A.length:Int)).toNat=A.length by lia,List.map_append,List.getElem?_append_right (by simp)];simp
theorem aIy {α:Type} (f:α->D) (A:List α) (p:α):getD (.tup ((A++[p]).map f)) (.int (-1))=.ok (f p):=by
 show Res.ofOpt ((ixD ((A++[p]).map f).length (-1)).bind fun j=>((A++[p]).map f)[j]?)=_;have:ixD ((A++[p]).map f).length (-1)=some A.length:=by
  unfold ixD;rw [if_neg (by decide),if_pos (by simp only [List.length_map,List.length_append,List.length_cons,List.length_nil];lia)]
  congr 1
  simp only [List.length_map,List.length_append,List.length_cons,List.length_nil];lia
 rw [this];simp
theorem iM {α:Type} (f:α->D) (h:∀a,(f a).pure=true):∀xs:List α,D.a_ (xs.map f)=true
 | []=>rfl
 | x::xs=>by rw [List.map_cons,D.a_,h,iM f h xs];rfl
theorem SJ {α:Type} (f:α->D) (h:∀a,(f a).pure=true) (A B:List α):PK (.tup ((A++B).map f)) none (some A.length)=.ok (.tup (A.map f)):=by
 show (if D.a_ ((A++B).map f) then Res.ok (D.tup (cutD ((A++B).map f) none (some A.length))) else .bad)=_;rw [iM f h,if_pos rfl];unfold cutD;rw [show wW ((A++B).map f).length 0 none=0 from rfl];have:wW ((A++B).map f).length ((A++B).map f).length (some A.length)=A.length:=by
  unfold wW;simp only;rw [if_neg (by lia),List.length_map,List.length_append];lia
 rw [this,List.drop_zero,Nat.sub_zero,List.map_append,List.take_append_of_le_length (by simp)];rw [List.take_of_length_le (by simp)]
theorem MT {α:Type} (f:α->D) (h:∀a,(f a).pure=true) (A B:List α):PK (.tup ((A++B).map f)) (some A.length) none=.ok (.tup (B.map f)):=by
 show (if D.a_ ((A++B).map f) then Res.ok (D.tup (cutD ((A++B).map f) (some A.length) none)) else .bad)=_;rw [iM f h,if_pos rfl];unfold cutD;have:wW ((A++B).map f).length 0 (some A.length)=A.length:=by
  unfold wW;simp only;rw [if_neg (by lia),List.length_map,List.length_append];lia
 rw [this,show wW ((A++B).map f).length ((A++B).map f).length none=((A++B).map f).length from rfl,List.map_append,List.drop_append_of_le_length (by simp),List.drop_of_length_le (by simp),List.nil_append];rw [List.take_of_length_le (by simp)]
theorem vY {α:Type} (f:α->D) (A B:List α) (h:A.length+B.length<=10000):mY (.tup (A.map f)) (.tup (B.map f))=.ok (.tup ((A++B).map f)):=by
 show (if decide ((A.map f).length+(B.map f).length<=lim) then Res.ok (D.tup (A.map f++B.map f)) else .bad)=_;rw [decide_eq_true (by rw [List.length_map,List.length_map,bK];lia),if_pos rfl,List.map_append]
theorem sW {α:Type} (f:α->D) (hp:∀a,(f a).pure=true) (A B:List α) (h:A.length+B.length<=10000):aU .add (.lst (A.map f)) (.lst (B.map f))=.ok (.lst ((A++B).map f)):=by
 rw [List.map_append];exact KY _ _ (by rw [List.length_map,List.length_map,bK];lia) (iM f hp _) (iM f hp _)
theorem nF {α:Type} (f:α->D) (hp:∀a,(f a).pure=true) {a:FA} {ρ:List D} (xs:List α) (h:a ρ=.ok (xs.map f)) (hl:xs.length<=10000):pU a ρ=.ok (.lst (xs.map f)):=by
 unfold pU;rw [h,Res.aY,if_pos (by rw [iM f hp,decide_eq_true (by rw [List.length_map,bK];lia)];rfl)];rfl
theorem aEo {α:Type} (fD:α->D) (hp:∀a,(fD a).pure=true) {i:Nat} {f:FE} {ρ:List D} (F:List α) (a:α) (h1:f ρ=.ok (fD a)) (h2:ρ.getD i .uD=.lst (F.map fD)) (h3:F.length<10000):nJ i f ρ=.ok (.nx (ρ.set i (.lst ((F++[a]).map fD)))):=by
 rw [List.map_append];exact u5 h1 h2 (by rw [List.length_map,bK];lia) (hp a)
theorem rH {α:Type} {Q:List α} {i:Int} (h0:0<=i) (h1:i<Q.length):∃A p B,Q=A++p::B/\(A.length:Int)=i:=by
 have hi:i.toNat<Q.length:=by lia
 refine ⟨Q.take i.toNat,Q[i.toNat],Q.drop (i.toNat+1),?_,?_⟩
 ·rw [<-List.drop_eq_getElem_cons hi,List.take_append_drop]
 ·rw [List.length_take];lia
abbrev Fa:=List Pc×List Tie×Int
def fD (f:Fa):D:=d_ f.1 f.2.1 f.2.2
theorem fV (f:Fa):(fD f).pure=true:=rG _ _ _
noncomputable def Bad (kvs:List (D×D)) (f:Fa):Prop:=¬Good kvs f.1 f.2.1 f.2.2/\f.1.length<=1000/\f.2.1.length<=2000
theorem aBj (p:Pt):(enP p).pure=true:=rfl
theorem gB (t:Tie):(bH t).pure=true:=rfl
theorem sX (t:Pc):(pcD t).pure=true:=rfl
noncomputable def rb:FS:=(cL false 1 (b2 (aU .add) (b2 (aU .add) gM (aL ZK (aC (b2 (bL .eq) (b2 getD gD cU) cU) aO))) (aL ZK (aC (b2 (bL .eq) (b2 getD bQ cU) cU) aO))) true)
def QK (e:Pt):Int:=if e.1==0 then 1 else 0
theorem oV (e:Pt) (E:List Pt):(jN (e::E):Int)=QK e+jN E:=by
 unfold jN QK;rw [List.filter_cons];split <;> simp <;> lia
theorem QL {a0:D}:∀(V:List Tie) (m:Int) (x y:D),∃x' y',qN (tgN [2,3]) rb (V.map bH) [a0,.int m,x,y]=.ok (.nx [a0,.int (m+jN (ends V)),x',y'])
 | [],m,x,y=>⟨x,y,by rw [show jN (ends [])=0 from rfl];simp [qN]⟩
 | t::V,m,x,y=>by
  obtain ⟨x',y',ih⟩:=QL (a0:=a0) V (m+QK t.1+QK t.2) (enP t.1) (enP t.2);refine ⟨x',y',cX rfl (cA ?_) (ih.trans ?_)⟩
  ·have k:∀e:Pt,ZK [.bl (e.1==0)]=.ok (.int (QK e)):=fun e=>rfl
   exact aH (aH rfl (aK (aD (aH (aH rfl rfl rfl) rfl rfl) rfl) (k t.1)) (eV _ _)) (aK (aD (aH (aH rfl rfl rfl) rfl rfl) rfl) (k t.2)) (eV _ _)
  ·rw [show ends (t::V)=t.1::t.2::ends V from rfl,oV,oV,Int.add_assoc (m+QK t.1),Int.add_assoc m,<-Int.add_assoc (QK t.1)]
theorem aCp (Q:List Pc) (V:List Tie) (r:Int):dI 1 cF [d_ Q V r]=.ok (.int (jN (ends V))):=by
 obtain ⟨x',y',h⟩:=QL (a0:=d_ Q V r) V 0 .uD .uD;rw [Int.zero_add] at h;refine (eF rfl).trans (call_v ?_);refine aN (cA rfl) ?_;refine aN (qZ ((g8 (aH rfl rfl rfl) rfl).trans ?_) h) (lY rfl rfl);show Res.ok (V.map bH,false||D.a_ (V.map bH))=_;rw [fZ];rfl
end Lk07
end
section
namespace Lk07
open PySem L2 Mi
theorem rJ {E F:List Pt} (h:E.Perm F):jN E=jN F:=(h.filter _).length_eq
theorem QM (E F:List Pt):jN (E++F)=jN E+jN F:=by
 unfold jN;rw [List.filter_append,List.length_append]
theorem Y5 {t:Tie} (h:t.1≠t.2):ltP (norm t).1 (norm t).2:=by
 unfold norm;by_cases h1:ltP t.2 t.1
 ·rw [if_pos h1,if_neg (irr _ _ h1)];exact h1
 ·by_cases h2:ltP t.1 t.2
  ·rw [if_neg h1,if_pos h2];exact h2
  ·exfalso;apply h;have:t.1.1=t.2.1/\t.1.2=t.2.2:=by
    simp only [ltP] at h1 h2;lia
   exact Prod.ext this.1 this.2
theorem nG (A B:List Tie) (t:Tie):(ends (A++t::B)).Perm ([t.1,t.2]++ends (A++B)):=by
 refine (mG (List.perm_middle (a:=t) (l₁:=A) (l₂:=B))).trans ?_;exact List.Perm.refl _
section
variable {kvs:List (D×D)} {Q:List Pc} {A B:List Tie} {t:Tie} {r:Int}
theorem aBk (n:Net kvs Q (A++t::B)):¬Good kvs Q (A++[(t.2,t.1)]++B) r:=by
 refine aCo (Y4 (t:=(t.2,t.1)) (by simp) ?_);exact n.lt t (by simp)
theorem aEp:¬Good kvs Q (A++[t]++t::B) r:=by
 refine HR fun z=>?_
 have h:=(nG (A++[t]) B t).nodup_iff.mp z;rw [List.nodup_append] at h;refine h.2.2 t.1 (by simp) t.1 ?_ rfl;exact (kO (t:=t) (by simp)).1
theorem aBl (n:Net kvs Q (A++t::B)) (h:0<t.2.1):¬Good kvs Q (A++B) r:=by
 have p:=nG A B t;have c:=HN n;have l:=p.length_eq;have m:(jN (ends (A++t::B)):Int)=QK t.1+(QK t.2+jN (ends (A++B))):=by
  rw [rJ p,show [t.1,t.2]++ends (A++B)=t.1::t.2::ends (A++B) from rfl,oV,oV]
 have o1:QK t.1<=1:=by unfold QK;split <;> lia
 have o2:QK t.2=0:=by
  unfold QK;rw [if_neg (by simp;lia)]
 rw [List.length_append] at l;refine Y0 ?_;simp only [List.length_cons,List.length_nil] at l;lia
theorem SN (n:Net kvs Q (A++t::B)) (h:t.1.1=0):¬Good kvs Q (bU ((A++[((0,(jN (ends (A++t::B)):Int)),t.2)]++B).map norm)) r:=by
 have p:=nG A B t;generalize hm:jN (ends (A++t::B))=m;have hne:(((0,(m:Int)),t.2):Tie).1≠(((0,(m:Int)),t.2):Tie).2:=fun z=>by
  have z:((0,(m:Int)):Pt)=t.2:=z;have:=(HQ n t.2 (kO (t:=t) (by simp)).2).1 (by rw [<-z]);rw [<-z,hm] at this;simp only at this;lia
 have e:A++[((0,(m:Int)),t.2)]++B=A++((0,(m:Int)),t.2)::B:=by simp
 rw [e];have q:=nG A B (((0,(m:Int)),t.2):Tie);have pe:(ends (bU ((A++((0,(m:Int)),t.2)::B).map norm))).Perm (ends (A++((0,(m:Int)),t.2)::B)):=by
  refine (mG (cT _)).trans (HB fun u hu=>?_).symm;obtain ⟨w,hw,rfl⟩:=List.mem_map.mp hu;refine Y5 ?_;rcases List.mem_append.mp hw with hw|hw
  ·have:=n.lt w (List.mem_append_left _ hw);intro z;rw [z] at this;simp only [ltP] at this;lia
  ·rcases List.mem_cons.mp hw with rfl|hw
   ·exact hne
   ·have:=n.lt w (List.mem_append_right _ (List.mem_cons_of_mem _ hw));intro z;rw [z] at this;simp only [ltP] at this;lia
 have hr:jN (ends (bU ((A++((0,(m:Int)),t.2)::B).map norm)))=m:=by
  have m2:jN [t.1,t.2]+jN (ends (A++B))=m:=by rw [<-QM,<-rJ p,hm]
  have k:∀x:Pt,x.1=0->(jN [x,t.2]:Int)=1+jN [t.2]:=fun x hx=>by
   rw [oV,QK,if_pos (by simpa using hx)]
  have k1:=k t.1 h;have k2:=k (0,(m:Int)) rfl;rw [rJ pe,rJ q,QM];show jN [((0,(m:Int)):Pt),t.2]+_=m;lia
 refine MN (e:=(0,(m:Int))) (pe.mem_iff.mpr (kO (t:=((0,(m:Int)),t.2)) (by simp)).1) fun z=>?_
 have:=z.1 rfl;rw [hr] at this;simp only at this;lia
theorem Y6:¬Good kvs Q (bU (A++[((0,-1),t.2)]++B)) r:=by
 refine MN (e:=(0,-1)) ((mG (cT _)).mem_iff.mpr (kO (t:=((0,-1),t.2)) (by simp)).1) fun z=>?_
 have:=(z.1 rfl).1;simp only at this;lia
theorem aBm {q:Tie} (n:Net kvs Q (A++[q]++t::B)):¬Good kvs Q (A++[t,q]++B) r:=by
 have e:A++[t,q]++B=A++t::q::B:=by simp
 rw [e];refine aCo (R_ ?_ ?_)
 ·have:=n.srt;rw [show A++[q]++t::B=A++q::t::B by simp,List.pairwise_append] at this;exact (List.pairwise_cons.mp this.2.1).1 t (List.mem_cons_self ..)
 ·intro z;subst z;exact absurd n.nd fun z=>by
   have h:=(nG (A++[t]) B t).nodup_iff.mp z;rw [List.nodup_append] at h;exact h.2.2 t.1 (by simp) t.1 (kO (t:=t) (by simp)).1 rfl
end
end Lk07
end
section
namespace Lk07
open PySem L2 Mi
theorem tM {α:Type} (f:α->D) {a b c:FE} {ρ:List D} {A B C:List α} (h1:a ρ=.ok (.tup (A.map f))) (h2:b ρ=.ok (.tup (B.map f))) (h3:c ρ=.ok (.tup (C.map f))) (hl:A.length+B.length+C.length<=10000):b2 mY (b2 mY a b) c ρ=.ok (.tup ((A++B++C).map f)):=
 aH (aH h1 h2 (vY f A B (by lia))) h3 (vY f (A++B) C (by rw [List.length_append];lia))
theorem QR (t:Tie):cP .lt [bH t]=.ok (enP (norm t).1)/\cP .gt [bH t]=.ok (enP (norm t).2):=
 ⟨G5 .lt t.1 t.2 ltP vN,G5 .gt t.1 t.2 (fun x y=>ltP y x) PP⟩
section
variable {kvs:List (D×D)} {Q:List Pc} {A B:List Tie} {t:Tie} {r c:Int}
noncomputable abbrev stT (Q:List Pc) (A B:List Tie) (t:Tie) (r c:Int) (F:List Fa) (x9:D):List D:=[d_ Q (A++t::B) r,.int c,.tup (Q.map pcD),.tup ((A++t::B).map bH),.int r,.int A.length,enP t.1,enP t.2,.lst (F.map fD),x9]
theorem slA {F:List Fa} {x9:D}:lC bQ (fH) (dH fK) (stT Q A B t r c F x9)=.ok (.tup (A.map bH)):=oM rfl rfl (eN rfl) (SJ bH gB A (t::B))
theorem slB {F:List Fa} {x9:D}:lC bQ (dH (b2 (aU .add) fK cV)) (fH) (stT Q A B t r c F x9)=.ok (.tup (B.map bH)):=by
 refine oM rfl (eN (aH rfl rfl (eV _ _))) rfl ?_;have:=MT bH gB (A++[t]) B;rw [show A++[t]++B=A++t::B by simp,show (((A++[t]).length:Nat):Int)=(A.length:Int)+1 by simp] at this;exact this
theorem slC {F:List Fa} {x9:D}:lC bQ (dH fK) (fH) (stT Q A B t r c F x9)=.ok (.tup ((t::B).map bH)):=oM rfl (eN rfl) rfl (MT bH gB A (t::B))
theorem apT {F:List Fa} {x9:D} {f:FE} {a:Fa} (h:f (stT Q A B t r c F x9)=.ok (fD a)) (hl:F.length<=100):nJ 8 f (stT Q A B t r c F x9)=.ok (.nx (stT Q A B t r c (F++[a]) x9)):=aEo fD fV F a h rfl (by lia)
theorem lens (n:Net kvs Q (A++t::B)):A.length+B.length<=999/\Q.length<=10:=by
 have:=n.small;rw [List.length_append,List.length_cons] at this;exact ⟨by lia,n.ql⟩
theorem lB {F:List Fa} {a:Fa} (h:∀f∈F,Bad kvs f) (ha:Bad kvs a):∀f∈F++[a],Bad kvs f:=fun f hf=>by
 rcases List.mem_append.mp hf with hf|hf
 ·exact h f hf
 ·rw [show f=a by simpa using hf];exact ha
theorem aIz (n:Net kvs Q (A++t::B)) {F:List Fa} {x9:D} (hF:∀f∈F,Bad kvs f) (hl:F.length<=50):∃F',(∀f∈F',Bad kvs f)/\F'.length<=F.length+1/\(sIf (bTB (b2 (bL (.ord .gt)) (b2 getD nQ cU) cU)) (nJ 8 (cJ (aC gD (aC (b2 mY (lC bQ (fH) (dH fK)) (lC bQ (dH (b2 (aU .add) fK cV)) (fH))) (aC dX aO))))) (iT)) (stT Q A B t r c F x9)=.ok (.nx (stT Q A B t r c F' x9)):=by
 obtain ⟨l1,l2⟩:=lens n;have ct:bTB (b2 (bL (.ord .gt)) (b2 getD nQ cU) cU) (stT Q A B t r c F x9)=.ok (decide (0<t.2.1)):=dC (aH (aH rfl rfl rfl) rfl rfl);by_cases h:0<t.2.1
 ·rw [decide_eq_true h] at ct;refine ⟨F++[(Q,A++B,r)],lB hF ⟨aBl n h,by show Q.length<=1000;lia,by show (A++B).length<=2000;rw [List.length_append];lia⟩,by simp,PB ct (apT (pA rfl (aH slA slB (vY bH A B (by lia))) rfl) (by lia))⟩
 ·rw [decide_eq_false h] at ct;exact ⟨F,hF,by lia,nR ct rfl⟩
noncomputable def t45:FS:=(bT (cL false 9 (b2 mY (b2 mY (lC bQ (fH) (dH fK)) (cJ (aC (cJ (aC (cJ (aC cU (aC (aL (dI 1 cF) (aC dY aO)) aO))) (aC nQ aO))) aO))) (lC bQ (dH (b2 (aU .add) fK cV)) (fH))) false) (bT (nJ 8 (cJ (aC gD (aC (aL gP (aC (aL fL (aC (gF 10 (eQ JZ false) pM (n_) (cJ (aC (aL (cP .lt) (aC iI aO)) (aC (aL (cP .gt) (aC iI aO)) aO))) false) aO)) aO)) (aC dX aO))))) (nJ 8 (cJ (aC gD (aC (aL gP (aC (aL iY (aC (b2 mY (b2 mY (lC bQ (fH) (dH fK)) (cJ (aC (cJ (aC (cJ (aC cU (aC (b1 S7 cV) aO))) (aC nQ aO))) aO))) (lC bQ (dH (b2 (aU .add) fK cV)) (fH))) aO)) aO)) (aC dX aO)))))))
theorem aHi (n:Net kvs Q (A++t::B)) {F:List Fa} (hF:∀f∈F,Bad kvs f) (hl:F.length<=50) (x9:D):∃F' y9,(∀f∈F',Bad kvs f)/\F'.length<=F.length+2/\(sIf (bTB (b2 (bL .eq) (b2 getD mH cU) cU)) t45 (iT)) (stT Q A B t r c F x9)=.ok (.nx (stT Q A B t r c F' y9)):=by
 obtain ⟨l1,l2⟩:=lens n;have ct:bTB (b2 (bL .eq) (b2 getD mH cU) cU) (stT Q A B t r c F x9)=.ok (t.1.1==0):=dC (aH (aH rfl rfl rfl) rfl rfl);by_cases h:t.1.1=0
 ·rw [show (t.1.1==0)=true by simpa using h] at ct;have hb:=SN (r:=r) n h;have hrim:=aCp Q (A++t::B) r;generalize jN (ends (A++t::B))=m at hb hrim;have w1:∀(F:List Fa) (x9:D),b2 mY (b2 mY (lC bQ (fH) (dH fK)) (cJ (aC (cJ (aC (cJ (aC cU (aC (aL (dI 1 cF) (aC dY aO)) aO))) (aC nQ aO))) aO))) (lC bQ (dH (b2 (aU .add) fK cV)) (fH)) (stT Q A B t r c F x9)=.ok (.tup ((A++[((0,(m:Int)),t.2)]++B).map bH)):=fun F x9=>
   tM bH slA (MP (wQ (t:=((0,(m:Int)),t.2)) (BP rfl (aK (aD rfl rfl) hrim)) rfl)) slB (by simp;lia)
  have lW:(A++[((0,(m:Int)),t.2)]++B).length<=1000:=by simp;lia
  generalize A++[((0,(m:Int)),t.2)]++B=W at w1 lW hb;have hf:∀F:List Fa,rR (qM 10 pM n_ (cJ (aC (aL (cP .lt) (aC iI aO)) (aC (aL (cP .gt) (aC iI aO)) aO))) false (stT Q A B t r c F (.tup (W.map bH)))) [] (W.map bH)=.ok ((W.map norm).map bH):=fun F=>by
   rw [fO _ bH (fun _=>true) (fun t=>bH (norm t))]
   ·rw [List.filter_eq_self.mpr (fun _ _=>rfl),List.map_map,List.nil_append];rfl
   ·intro acc u;exact jJ (ρ:=stT Q A B t r c F (.tup (W.map bH))) rfl rfl fun _=>⟨wQ (aK (aD rfl rfl) (QR u).1) (aK (aD rfl rfl) (QR u).2),rfl⟩
  have lU:(bU (W.map norm)).length<=2000:=by rw [(cT _).length_eq,List.length_map];lia
  have lU2:(bU (A++[((0,-1),t.2)]++B)).length<=2000:=by rw [(cT _).length_eq];simp;lia
  refine ⟨F++[(Q,bU (W.map norm),r)]++[(Q,bU (A++[((0,-1),t.2)]++B),r)],.tup (W.map bH),lB (lB hF ⟨hb,by show Q.length<=1000;lia,lU⟩) ⟨Y6,by show Q.length<=1000;lia,lU2⟩,by simp,PB ct ?_⟩;refine aN (k_ (w1 F x9) (fZ W)) ?_;refine aN (ρ':=stT Q A B t r c (F++[(Q,bU (W.map norm),r)]) (.tup (W.map bH))) (apT (pA rfl (aK (aD (aK (aD (mV (g8 rfl rfl) (by rw [List.length_map,bK];lia) (hf F)) rfl) (rE _)) rfl) rfl) rfl) (by lia)) ?_;refine apT (pA rfl (aK (aD (aK (aD (tM bH slA (MP (wQ (t:=((0,-1),t.2)) (BP rfl rfl) rfl)) slB (by simp;lia)) rfl) (HH _)) rfl) rfl) rfl) (by simp;lia)
 ·rw [show (t.1.1==0)=false by simpa using h] at ct;exact ⟨F,x9,hF,by lia,nR ct rfl⟩
theorem aJ0 (n:Net kvs Q (A++t::B)) {F:List Fa} {x9:D} (hF:∀f∈F,Bad kvs f) (hl:F.length<=50):∃F',(∀f∈F',Bad kvs f)/\F'.length<=F.length+1/\(sIf (bTB (b2 (bL (.ord .gt)) fK cU)) (nJ 8 (cJ (aC gD (aC (b2 mY (b2 mY (lC bQ (fH) (dH (b2 (aU .sub) fK cV))) (cJ (aC (b2 getD bQ fK) (aC (b2 getD bQ (b2 (aU .sub) fK cV)) aO)))) (lC bQ (dH (b2 (aU .add) fK cV)) (fH))) (aC dX aO))))) (iT)) (stT Q A B t r c F x9)=.ok (.nx (stT Q A B t r c F' x9)):=by
 obtain ⟨l1,l2⟩:=lens n;have ct:bTB (b2 (bL (.ord .gt)) fK cU) (stT Q A B t r c F x9)=.ok (decide ((0:Int)<A.length)):=dC (aH rfl rfl rfl);rcases List.eq_nil_or_concat A with e|⟨A',q,e⟩
 ·subst e;exact ⟨F,hF,by lia,nR ct rfl⟩
 ·rw [List.concat_eq_append] at e;subst e;rw [decide_eq_true (by simp)] at ct;have hm1:(((A'++[q]).length:Nat):Int)-1=A'.length:=by simp
  have l3:(A'++[q]).length=A'.length+1:=by simp
  refine ⟨F++[(Q,A'++[t,q]++B,r)],lB hF ⟨aBm n,by show Q.length<=1000;lia,by show (A'++[t,q]++B).length<=2000;simp;lia⟩,by simp,PB ct (apT (pA rfl (tM bH (A:=A') (B:=[t,q]) (C:=B) ?_ ?_ slB (by simp;lia)) rfl) (by lia))⟩
  ·refine oM rfl rfl (eN (aH rfl rfl ((u_ _ _).trans (by rw [hm1])))) ?_;have:=SJ bH gB A' ([q]++t::B);rw [<-List.append_assoc] at this;exact this
  ·refine gC (aD (aH rfl rfl (aBi bH _ _ _)) (aD (aH rfl (aH rfl rfl ((u_ _ _).trans (by rw [hm1]))) ?_) rfl)) (by rw [bK];simp);have:=aBi bH A' (t::B) q;rw [show A'++q::t::B=A'++[q]++t::B by simp] at this;exact this
theorem SQ {V:List Tie} (n:Net kvs Q V) (hV:0<V.length) (c:Int):∃F:List Fa,(∀f∈F,Bad kvs f)/\F.length<=10/\dI 2 gZ [d_ Q V r,.int c]=.ok (.lst (F.map fD)):=by
 have hp:(0:Int)<V.length:=by lia
 obtain ⟨A,t,B,rfl,hA⟩:=rH (Int.emod_nonneg c (by lia)) (Int.emod_lt_of_pos c hp);obtain ⟨l1,l2⟩:=lens n;have mq:=eX c (A++t::B).length hp;rw [<-hA] at mq;have b1:∀f∈[((Q,A++[(t.2,t.1)]++B,r):Fa)],Bad kvs f:=fun f hf=>by
  rw [show f=(Q,A++[(t.2,t.1)]++B,r) by simpa using hf];exact ⟨aBk n,by show Q.length<=1000;lia,by show (A++[(t.2,t.1)]++B).length<=2000;simp;lia⟩
 have b2':∀f∈[((Q,A++[(t.2,t.1)]++B,r):Fa)]++[(Q,A++[t]++t::B,r)],Bad kvs f:=lB b1 ⟨aEp,by show Q.length<=1000;lia,by show (A++[t]++t::B).length<=2000;simp;lia⟩;obtain ⟨F3,f1,f2,f3⟩:=aIz (r:=r) (c:=c) (x9:=.uD) n b2' (by simp);have f2:F3.length<=3:=f2;obtain ⟨F4,y9,g1,g2,g3⟩:=aHi (r:=r) (c:=c) n f1 (by lia) .uD;obtain ⟨F5,h1,h2,h3⟩:=aJ0 (r:=r) (c:=c) (x9:=y9) n g1 (by lia);refine ⟨F5,h1,by lia,(eF rfl).trans (call_v ?_)⟩;refine aN (HS rfl (rG _ _ _) rfl) ?_;refine aN (cA (aH rfl (aK (aD rfl rfl) (aEn bH _)) mq)) ?_;refine aN (HS (aH rfl rfl (aBi bH A B t)) rfl rfl) ?_;refine aN (ρ':=stT Q A B t r c [((Q,A++[(t.2,t.1)]++B,r):Fa)] .uD) ?_ ?_
 ·refine fJ (nF fD fV [((Q,A++[(t.2,t.1)]++B,r):Fa)] (aD (pA rfl (tM bH (A:=A) (B:=[(t.2,t.1)]) (C:=B) ?_ (MP (wQ (t:=(t.2,t.1)) rfl rfl)) ?_ (by simp;lia)) rfl) rfl) (by simp)) (iM fD fV _)
  ·exact oM rfl rfl (eN rfl) (SJ bH gB A (t::B))
  ·refine oM rfl (eN (aH rfl rfl (eV _ _))) rfl ?_;have:=MT bH gB (A++[t]) B;rw [show A++[t]++B=A++t::B by simp,show (((A++[t]).length:Nat):Int)=(A.length:Int)+1 by simp] at this;exact this
 refine aN (apT (a:=(Q,A++[t]++t::B,r)) (pA rfl (tM bH (A:=A) (B:=[t]) (C:=t::B) slA (MP (aH rfl rfl (aBi bH A B t))) slC (by simp;lia)) rfl) (by simp)) ?_;exact aN f3 (aN g3 (aN h3 rfl))
end
end Lk07
end
section
namespace Lk07
open PySem L2 Mi
theorem BR (p:Tie):p.1∈[(norm p).1,(norm p).2]/\p.2∈[(norm p).1,(norm p).2]:=by
 by_cases h:p.1=p.2
 ·have e:norm p=p:=by
   unfold norm;rw [h];simp only [ite_self];exact Prod.ext h.symm rfl
  rw [e];simp
 ·have:=G_ (Y5 h);exact ⟨this.mem_iff.mp (by simp),this.mem_iff.mp (by simp)⟩
section
variable {kvs:List (D×D)} {Q:List Pc} {A B:List Tie} {t:Tie} {r c:Int}
theorem aCq {W:List Tie} {p:Tie} {g:Pt} (h:p.1=p.2\/((g=p.1\/g=p.2)/\g∈ends W)):¬Good kvs Q (bU (W++[norm p])) r:=by
 refine HR fun z=>?_
 have z:=(mG (cT _)).nodup_iff.mp z;rw [ends_app,show ends [norm p]=[(norm p).1,(norm p).2] from rfl,List.nodup_append] at z;rcases h with h|⟨h,hg⟩
 ·have e:(norm p).1=(norm p).2:=by
   unfold norm;rw [h]
  have:=z.2.1;rw [e] at this;simp at this
 ·have m:=BR p;rcases h with rfl|rfl
  ·exact z.2.2 _ hg _ m.1 rfl
  ·exact z.2.2 _ hg _ m.2 rfl
theorem aK9 {f:Pt} (hf:f∈ends (A++t::B)) (hne:f≠t.2):¬Good kvs Q (bU (A++B++[norm (t.1,f)])) r:=by
 refine aCq (g:=f) ?_;have:=(nG A B t).mem_iff.mp hf;rcases List.mem_append.mp this with h|h
 ·left
  simp only [List.mem_cons,List.not_mem_nil,or_false] at h;rcases h with h|h
  ·exact h.symm
  ·exact absurd h hne
 ·exact .inr ⟨.inr rfl,h⟩
theorem aKa {f:Pt} (hf:f∈ends (A++t::B)) (hne:f≠t.1):¬Good kvs Q (bU (A++B++[norm (f,t.2)])) r:=by
 refine aCq (g:=f) ?_;have:=(nG A B t).mem_iff.mp hf;rcases List.mem_append.mp this with h|h
 ·left
  simp only [List.mem_cons,List.not_mem_nil,or_false] at h;rcases h with h|h
  ·exact absurd h hne
  ·exact h
 ·exact .inr ⟨.inl rfl,h⟩
theorem QS {a0 a1 a2 a3 a4 a5 a8 a9 a10 a11 a12:D}:∀(V:List Tie) (E:List Pt) (x:D),E.length+2*V.length<=10000->∃x',qN (tg1 7) (aHr 6 (aL v9 (aC nQ aO))) (V.map bH) [a0,a1,a2,a3,a4,a5,.lst (E.map enP),x,a8,a9,a10,a11,a12]=.ok (.nx [a0,a1,a2,a3,a4,a5,.lst ((E++ends V).map enP),x',a8,a9,a10,a11,a12])
 | [],E,x,_=>⟨x,by rw [show ends []=[] from rfl,List.append_nil];rfl⟩
 | t::V,E,x,h=>by
  rw [List.length_cons] at h;obtain ⟨x',ih⟩:=QS (a0:=a0) (a1:=a1) (a2:=a2) (a3:=a3) (a4:=a4) (a5:=a5) (a8:=a8) (a9:=a9) (a10:=a10) (a11:=a11) (a12:=a12) V (E++[t.1,t.2]) (bH t) (by simp;lia);refine ⟨x',cX (ρ1:=[a0,a1,a2,a3,a4,a5,.lst (E.map enP),bH t,a8,a9,a10,a11,a12]) (ρ2:=[a0,a1,a2,a3,a4,a5,.lst ((E++[t.1,t.2]).map enP),bH t,a8,a9,a10,a11,a12]) rfl ?_ ?_⟩
  ·unfold aHr;have e:aL v9 (aC nQ aO) [a0,a1,a2,a3,a4,a5,.lst (E.map enP),bH t,a8,a9,a10,a11,a12]=.ok (.lst [enP t.1,enP t.2]):=aK (aD rfl rfl) rfl;rw [e,Res.aY];show (if decide ((E.map enP).length+2<=lim)&&true then Res.ok (Fl.nx [a0,a1,a2,a3,a4,a5,.lst (E.map enP++[enP t.1,enP t.2]),bH t,a8,a9,a10,a11,a12]) else .bad)=_;rw [decide_eq_true (by rw [List.length_map,bK];lia),List.map_append];rfl
  ·rw [ih,show ends (t::V)=[t.1,t.2]++ends V from rfl,List.append_assoc]
theorem QT {ρ:List D} (i:Nat) {E:List Pt} {o:Pt} (hρ:ρ.length=13) (h6:jX 6 ρ=.ok (.lst (E.map enP))) (hi:∀x,jX i (ρ++[x])=.ok (enP o)) (hl:E.length<=10000):gF 13 (eQ mH false) pM (bTB (b2 (bL .ne) iW (jX i))) iW false ρ=.ok (.lst ((E.filter fun e=>!decide (e=o)).map enP)):=by
 refine mV (g8 h6 rfl) (by rw [List.length_map,bK];lia) ?_;rw [fO _ enP (fun e=>!decide (e=o)) enP]
 ·rfl
 ·intro acc p;have hv:jX 13 (ρ++[enP p])=.ok (enP p):=by
   have:(ρ++[enP p]).getD 13 .uD=enP p:=by
    rw [List.getD_eq_getElem?_getD,List.getElem?_append_right (by lia),hρ];rfl
   rw [X8,this];rfl
  exact jJ hρ (dC (aH hv (hi _) (X_ p o))) fun _=>⟨hv,rfl⟩
noncomputable def aJ1:FS:=(nJ 11 (cJ (aC (b2 getD dY cU) (aC (aL gP (aC (aL fL (aC (b2 (aU .add) fK (pU (aC (cJ (aC (aL (cP .lt) (aC o9 aO)) (aC (aL (cP .gt) (aC o9 aO)) aO))) aO))) aO)) aO)) (aC (b2 getD dY v5) aO)))))
theorem QV {V W:List Tie} {p:Tie} {F:List Fa} {a1 a2 a3 a4 a6 a7 a8 a9 a10:D} (hW:W.length<=1000) (hF:F.length<=10):aJ1 [d_ Q V r,a1,a2,a3,a4,.lst (W.map bH),a6,a7,a8,a9,a10,.lst (F.map fD),bH p]=.ok (.nx [d_ Q V r,a1,a2,a3,a4,.lst (W.map bH),a6,a7,a8,a9,a10,.lst ((F++[(Q,bU (W++[norm p]),r)]).map fD),bH p]):=by
 refine aEo fD fV F (Q,bU (W++[norm p]),r) (pA (aH rfl rfl (n0 Q V r)) (aK (aD (aK (aD (aH rfl (nF bH gB [norm p] (aD (wQ (aK (aD rfl rfl) (QR p).1) (aK (aD rfl rfl) (QR p).2)) rfl) (by simp)) (sW bH gB W [norm p] (by simp;lia))) rfl) (rE _)) rfl) rfl) (aH rfl rfl (n2 Q V r))) rfl (by lia)
theorem SX {V:List Tie} (n:Net kvs Q V) (hV:0<V.length) (c:Int):∃F:List Fa,(∀f∈F,Bad kvs f)/\F.length<=10/\dI 2 gY [d_ Q V r,.int c]=.ok (.lst (F.map fD)):=by
 have hp:(0:Int)<V.length:=by lia
 obtain ⟨A,t,B,hVe,hA⟩:=rH (Int.emod_nonneg c (by lia)) (Int.emod_lt_of_pos c hp);have mq:=eX c V.length hp;rw [<-hA] at mq;have fq:=gJ c V.length hp (by have:=n.small;lia);generalize hmo:c / (V.length:Int)=mo at fq;have hsm:=n.small;have g1:getD (.tup (V.map bH)) (.int A.length)=.ok (bH t):=by rw [hVe];exact aBi bH A B t
 have s1:PK (.tup (V.map bH)) none (some (A.length:Int))=.ok (.tup (A.map bH)):=by rw [hVe];exact SJ bH gB A (t::B)
 have s2:PK (.tup (V.map bH)) (some ((A.length:Int)+1)) none=.ok (.tup (B.map bH)):=by
  have:=MT bH gB (A++[t]) B;rw [show A++[t]++B=A++t::B by simp,show (((A++[t]).length:Nat):Int)=(A.length:Int)+1 by simp] at this;rw [hVe];exact this
 have lAB:A.length+B.length<=999:=by
  rw [hVe,List.length_append,List.length_cons] at hsm;lia
 have htm:t∈V:=by rw [hVe];simp
 have hlt:=n.lt t htm;have hne:t.1≠t.2:=fun z=>by
  rw [z] at hlt;simp only [ltP] at hlt;lia
 obtain ⟨x7,e1⟩:=QS (a0:=d_ Q V r) (a1:=.int c) (a2:=.int A.length) (a3:=enP t.1) (a4:=enP t.2) (a5:=.lst ((A++B).map bH)) (a8:=.uD) (a9:=.uD) (a10:=.uD) (a11:=.uD) (a12:=.uD) V [] .uD (by simp;lia);rw [List.nil_append] at e1;have lE:(ends V).length<=2000:=by rw [BK];lia
 let E1:=(ends V).filter fun e=>!decide (e=t.2)
 let E2:=(ends V).filter fun e=>!decide (e=t.1)
 have m1:t.1∈E1:=List.mem_filter.mpr ⟨(kO htm).1,by simpa using hne⟩;have m2:t.2∈E2:=List.mem_filter.mpr ⟨(kO htm).2,by simpa using fun z=>hne z.symm⟩;have p1:(0:Int)<E1.length:=by have:=List.length_pos_of_mem m1;lia
 have p2:(0:Int)<E2.length:=by have:=List.length_pos_of_mem m2;lia
 obtain ⟨f,hf,gf⟩:=A_ E1 (mo % E1.length) (Int.emod_nonneg _ (by lia)) (Int.emod_lt_of_pos _ p1);obtain ⟨g,hg,gg⟩:=A_ E2 (mo / 2 % E2.length) (Int.emod_nonneg _ (by lia)) (Int.emod_lt_of_pos _ p2);have hf2:=List.mem_filter.mp hf;have hg2:=List.mem_filter.mp hg;have lU:∀p:Tie,(bU (A++B++[norm p])).length<=2000:=fun p=>by
  rw [(cT _).length_eq];simp;lia
 refine ⟨[(Q,bU (A++B++[norm (t.1,f)]),r),(Q,bU (A++B++[norm (g,t.2)]),r)],fun x hx=>?_,by simp,(eF rfl).trans (call_v ?_)⟩
 ·simp only [List.mem_cons,List.not_mem_nil,or_false] at hx;have lq:=n.ql;rcases hx with rfl|rfl
  ·exact ⟨aK9 (t:=t) (by rw [<-hVe];exact hf2.1) (by simpa using hf2.2),by show Q.length<=1000;lia,lU _⟩
  ·exact ⟨aKa (t:=t) (by rw [<-hVe];exact hg2.1) (by simpa using hg2.2),by show Q.length<=1000;lia,lU _⟩
 have nv:∀ρ:List D,b2 getD dY cV (d_ Q V r::ρ)=.ok (.tup (V.map bH)):=fun ρ=>aH rfl rfl (n1 Q V r)
 refine aN (cA (aH rfl (aK (aD (nv _) rfl) (aEn bH _)) mq)) ?_;refine aN (HS (aH (nv _) rfl g1) rfl rfl) ?_;refine aN (ρ':=[d_ Q V r,.int c,.int A.length,enP t.1,enP t.2,.lst ((A++B).map bH),.uD,.uD,.uD,.uD,.uD,.uD,.uD]) ?_ ?_
 ·have ls:∀W:List Tie,v9 [.tup (W.map bH)]=.ok (.lst (W.map bH)):=fun W=>by
   show (if D.a_ (W.map bH) then Res.ok (D.lst (W.map bH)) else .bad)=_;rw [fZ];rfl
  exact cA (aH (aK (aD (oM (nv _) rfl (eN rfl) s1) rfl) (ls A)) (aK (aD (oM (nv _) (eN (aH rfl rfl (eV _ _))) rfl s2) rfl) (ls B)) (sW bH gB A B (by lia)))
 refine aN (fJ rfl rfl) ?_;refine aN (qZ ((g8 (nv _) rfl).trans ?_) e1) ?_
 ·show Res.ok (V.map bH,false||D.a_ (V.map bH))=_;rw [fZ];rfl
 refine aN (cA (QT 4 rfl rfl (fun _=>rfl) (by lia))) ?_;refine aN (cA (QT 3 rfl rfl (fun _=>rfl) (by lia))) ?_;refine aN (cA (aH rfl (aK (aD (nv _) rfl) (aEn bH _)) fq)) ?_;refine aN (fJ rfl rfl) ?_;have mo1:=eX mo E1.length p1;have mo2:=gJ mo 2 (by decide) (by decide);have mo3:=eX (mo / 2) E2.length p2;have lAB':(A++B).length<=1000:=by rw [List.length_append];lia
 refine aN (ρ':=[d_ Q V r,.int c,.int A.length,enP t.1,enP t.2,.lst ((A++B).map bH),.lst ((ends V).map enP),x7,.lst (E1.map enP),.lst (E2.map enP),.int mo,.lst ([((Q,bU (A++B++[norm (t.1,f)]),r):Fa),(Q,bU (A++B++[norm (g,t.2)]),r)].map fD),bH (g,t.2)]) (qZ ((g8 (d:=.lst [bH (t.1,f),bH (g,t.2)]) ?_ rfl).trans rfl) ?_) rfl
 ·exact nF bH gB [(t.1,f),(g,t.2)] (aD (wQ (t:=(t.1,f)) rfl (aH rfl (aH rfl (aK (aD rfl rfl) (aIx enP E1)) mo1) gf)) (aD (wQ (t:=(g,t.2)) (aH rfl (aH (aH rfl rfl mo2) (aK (aD rfl rfl) (aIx enP E2)) mo3) gg) rfl) rfl)) (by simp)
 ·refine cX (ρ1:=[d_ Q V r,.int c,.int A.length,enP t.1,enP t.2,.lst ((A++B).map bH),.lst ((ends V).map enP),x7,.lst (E1.map enP),.lst (E2.map enP),.int mo,.lst (([]:List Fa).map fD),bH (t.1,f)]) rfl (QV lAB' (by simp)) ?_;exact cX rfl (QV lAB' (by simp)) rfl
end
end Lk07
end
section
namespace Lk07
open PySem L2 Mi
theorem xY (U:List Pc):(jP U).Perm U:=by
 have h:=(dW (U.map pcD)).map aHs;rw [List.map_map] at h;have e:U.map (aHs ∘ pcD)=U:=by
  conv=>rhs;rw [<-List.map_id U]
  exact List.map_congr_left fun _ _=>rfl
 rw [e] at h;exact h
theorem Y7 (P:List Pc):fL [.lst (P.map pcD)]=.ok (.lst ((jP P).map pcD)):=by
 show (if bI (P.map pcD) then Res.ok (D.lst (iR (P.map pcD))) else .bad)=_;rw [jD,if_pos rfl,BL]
section
variable {kvs:List (D×D)} {Q:List Pc} {V U:List Tie} {r c:Int} {A B:List Pc} {p:Pc}
theorem aBn:¬Good kvs (A++[p]++p::B) U r:=by
 refine QJ fun z=>?_
 rw [List.map_append,List.nodup_append] at z;exact z.2.2 p.1 (by simp) p.1 (by simp) rfl
theorem aEq {s s':Str} {n:Int}:¬Good kvs (A++jP [(n,s),(n,s')]++B) U r:=by
 refine QJ fun z=>?_
 rw [List.map_append,List.map_append,List.nodup_append,List.nodup_append] at z;have:=((xY [(n,s),(n,s')]).map (·.1)).nodup_iff.mp z.1.2.1;simp at this
theorem aEr {s:Str} {n:Int} (h:n<=0):¬Good kvs ([(n,s)]++B) U r:=by
 refine aCn (pc:=(n,s)) (by simp) fun z=>?_
 have:0<n:=z.1;lia
theorem Y8 {q:Pc} (n:Net kvs (A++[q]++p::B) V):¬Good kvs (A++[p,q]++B) U r:=by
 have e:A++[p,q]++B=A++p::q::B:=by simp
 rw [e];refine aHg (R9 ?_);have:=n.qs;rw [List.pairwise_append] at this;exact this.2.2 q (by simp) p (by simp)
theorem t_ {x:Tie} {e:Pt} (he:e=x.1\/e=x.2) (h0:e.1≠0) (hno:∀pc∈Q,e.1=pc.1->¬(0<=e.2/\e.2<=vOf kvs pc.2)):¬Good kvs Q (bU (V++[x])) r:=by
 refine MN (e:=e) ((mG (cT _)).mem_iff.mpr ?_) fun z=>?_
 ·have:=kO (U:=V++[x]) (t:=x) (by simp);rcases he with rfl|rfl
  ·exact this.1
  ·exact this.2
 ·obtain ⟨pc,m,e1,h⟩:=z.2 h0;exact hno pc m e1 h
theorem aJ2 (n:Net kvs Q V) {a b:Pc} (ha:a∈Q) (hb:b∈Q) (e:a.1=b.1):a=b:=by
 have h:=n.qs;clear n;induction Q with
 | nil=>cases ha
 | cons q Q ih=>
  rw [List.pairwise_cons] at h;rcases List.mem_cons.mp ha with h1|h1 <;> rcases List.mem_cons.mp hb with h2|h2
  ·rw [h1,h2]
  ·have:q.1<b.1:=h.1 b h2;rw [h1] at e;lia
  ·have:q.1<a.1:=h.1 a h1;rw [h2] at e;lia
  ·exact ih h1 h2 h.2
def mvE (first low:Int) (e:Pt):Pt:=(if e.1==first then low else e.1,e.2)
noncomputable def mvb:FS:=(nJ 11 (aL gP (aC (aL fL (aC (gF 19 (eQ o9 false) pM (n_) (cJ (aC (b2 getD (pU (aC (b2 getD pK cU) (aC iI aO))) (aL ZK (aC (b2 (bL .eq) (b2 getD pK cU) JZ) aO))) (aC (b2 getD pK cV) aO))) false) aO)) aO)))
theorem Y9 {a0 a1 a2 a3 a4 a5 a6 a7 a8 a13 a14 a15 a16 a17 a18:D} {fi low:Int}:∀(W M:List Tie) (x:D),M.length+W.length<=9000->∃(M':List Tie) (x':D),M'.length=M.length+W.length/\qN (tg1 12) mvb (W.map bH) [a0,a1,a2,a3,a4,a5,a6,a7,a8,.int fi,.int low,.lst (M.map bH),x,a13,a14,a15,a16,a17,a18]=.ok (.nx [a0,a1,a2,a3,a4,a5,a6,a7,a8,.int fi,.int low,.lst (M'.map bH),x',a13,a14,a15,a16,a17,a18])
 | [],M,x,_=>⟨M,x,rfl,rfl⟩
 | t::W,M,x,hl=>by
  rw [List.length_cons] at hl;obtain ⟨F,f1,f2⟩:=aBh ([t.1,t.2].map (mvE fi low));obtain ⟨u,v,rfl⟩:∃u v,F=[u,v]:=by
   have:=f1.length_eq
   match F,this with
   | [u,v],_=>exact ⟨u,v,rfl⟩
  obtain ⟨M',x',h1,h2⟩:=Y9 (a0:=a0) (a1:=a1) (a2:=a2) (a3:=a3) (a4:=a4) (a5:=a5) (a6:=a6) (a7:=a7) (a8:=a8) (a13:=a13) (a14:=a14) (a15:=a15) (a16:=a16) (a17:=a17) (a18:=a18) (fi:=fi) (low:=low) W (M++[(u,v)]) (bH t) (by simp;lia);refine ⟨M',x',by rw [h1];simp;lia,cX rfl ?_ h2⟩;have cf:gF 19 (eQ o9 false) pM (n_) (cJ (aC (b2 getD (pU (aC (b2 getD pK cU) (aC iI aO))) (aL ZK (aC (b2 (bL .eq) (b2 getD pK cU) JZ) aO))) (aC (b2 getD pK cV) aO))) false [a0,a1,a2,a3,a4,a5,a6,a7,a8,.int fi,.int low,.lst (M.map bH),bH t,a13,a14,a15,a16,a17,a18]=.ok (.lst (([t.1,t.2].map (mvE fi low)).map enP)):=by
   refine mV (g8 (xs:=[t.1,t.2].map enP) rfl rfl) (by rw [bK];simp) ?_;rw [fO _ enP (fun _=>true) (fun e=>enP (mvE fi low e))]
   ·rw [List.filter_eq_self.mpr (fun _ _=>rfl),List.nil_append,List.map_map];rfl
   ·intro acc e;refine jJ (ρ:=[a0,a1,a2,a3,a4,a5,a6,a7,a8,.int fi,.int low,.lst (M.map bH),bH t,a13,a14,a15,a16,a17,a18]) rfl rfl fun _=>⟨BP (i:=(mvE fi low e).1) (j:=(mvE fi low e).2) (aH (x:=.lst [.int e.1,.int low]) ?_ (aK (xs:=[.bl (e.1==fi)]) (aD (aH (aH rfl rfl rfl) rfl rfl) rfl) rfl) ?_) (aH rfl rfl rfl),rfl⟩
    ·exact nF D.int (fun _=>rfl) [e.1,low] (aD (aH rfl rfl rfl) (aD rfl rfl)) (by simp)
    ·unfold mvE;cases (e.1==fi) <;> rfl
  exact aEo bH gB M (u,v) (aK (aD (aK (aD cf rfl) f2) rfl) rfl) rfl (by lia)
theorem Y_ {NS:List Str} {s:Str} {ρ:List D} (hst:bV kvs) (hNS:eO kvs=NS.map D.str) (hl:kvs.length<=5) (hρ:ρ.length=18) (h8:∀x,jX 8 (fzD 0 kvs (.dct kvs::ρ)++[x])=.ok (.str s)):XJ 19 0 pM (bTB (b2 (bL .ne) pK tB)) pK (.dct kvs::ρ)=.ok (.lst ((NS.filter fun e=>!(e==s)).map D.str)):=by
 have hz:(fzD 0 kvs (.dct kvs::ρ)).length=19:=by simp [fzD,hρ]
 have e:kvs.all (fun p=>!isTup p.1)=true:=List.all_eq_true.mpr fun p hp=>by
  obtain ⟨s,v,rfl,_⟩:=hst p hp;rfl
 have e2:D.a_ (kvs.map (·.2))=true:=by
  clear hNS h8 hz e hl;induction kvs with
  | nil=>rfl
  | cons q kvs ih=>
   obtain ⟨s,v,e,_⟩:=hst q (List.mem_cons_self ..);subst e;rw [List.map_cons,D.a_,ih fun p hp=>hst p (List.mem_cons_of_mem _ hp)];rfl
 show (if decide (kvs.length<=lim)&&(kvs.all (fun p=>!isTup p.1)&&D.a_ (kvs.map (·.2))) then Res.bind (rR (qM 19 pM (bTB (b2 (bL .ne) pK tB)) pK false (fzD 0 kvs (.dct kvs::ρ))) [] (eO kvs)) (fun ys=>Res.ok (D.lst ys)) else .bad)=_;rw [decide_eq_true (by rw [bK];lia),e,e2,if_pos (show (true&&(true&&true))=true from rfl),hNS,fO _ D.str (fun e=>!(e==s)) D.str]
 ·rfl
 ·intro acc w;have hv:jX 19 (fzD 0 kvs (.dct kvs::ρ)++[.str w])=.ok (.str w):=by
   have:(fzD 0 kvs (.dct kvs::ρ)++[D.str w]).getD 19 .uD=.str w:=by
    rw [List.getD_eq_getElem?_getD,List.getElem?_append_right (by lia),hz];rfl
   rw [X8,this];rfl
  exact jJ hz (dC (aH hv (h8 _) rfl)) fun _=>⟨hv,rfl⟩
end
end Lk07
end
section
namespace Lk07
open PySem L2 Mi
section
variable {kvs:List (D×D)} {Q:List Pc} {V:List Tie} {r c:Int}
noncomputable abbrev stP (kvs:List (D×D)) (Q:List Pc) (V:List Tie) (r c:Int) (k:Nat) (p:Pc) (fi low:Int) (x11 x12 x13 x14 x15 x16 x17 x18:D):List D:=[.dct kvs,d_ Q V r,.int c,.tup (Q.map pcD),.tup (V.map bH),.int r,.int k,.int p.1,.str p.2,.int fi,.int low,x11,x12,x13,x14,x15,x16,x17,x18]
theorem M3 {x:Tie} {f:FE} {ρ:List D} (hV:V.length<=1000) (h4:jX 4 ρ=.ok (.tup (V.map bH))) (hf:f ρ=.ok (bH x)):aL gP (aC (aL iY (aC (b2 mY dX (cJ (aC f aO))) aO)) aO) ρ=.ok (.tup ((bU (V++[x])).map bH)):=
 aK (aD (aK (aD (aH h4 (MP hf) (vY bH V [x] (by simp;lia))) rfl) (HH _)) rfl) rfl
noncomputable def aJ3:FS:=(bT (cL false 12 (cJ (aC (aL (cP .lt) (aC (jX 16) (aC (cJ (aC cU (aC (aL (dI 1 cF) (aC gM aO)) aO))) aO))) (aC (aL (cP .gt) (aC (jX 16) (aC (cJ (aC cU (aC (aL (dI 1 cF) (aC gM aO)) aO))) aO))) aO))) false) (nJ 15 (cJ (aC bQ (aC (aL gP (aC (aL iY (aC (b2 mY dX (cJ (aC o9 aO))) aO)) aO)) (aC fK aO))))))
theorem QW {k:Nat} {p:Pc} {fi low:Int} {x11 x12 x13 x14 x17 x18:D} {F:List Fa} {e:Pt} {m:Nat} (hm:dI 1 cF [d_ Q V r]=.ok (.int m)) (hV:V.length<=1000) (hF:F.length<=50):aJ3 (stP kvs Q V r c k p fi low x11 x12 x13 x14 (.lst (F.map fD)) (enP e) x17 x18)=.ok (.nx (stP kvs Q V r c k p fi low x11 (bH (norm (e,(0,(m:Int))))) x13 x14 (.lst ((F++[(Q,bU (V++[norm (e,(0,(m:Int)))]),r)]).map fD)) (enP e) x17 x18)):=by
 have e1:cP .lt [enP e,enP (0,(m:Int))]=.ok (enP (norm (e,(0,(m:Int)))).1):=G5 .lt e (0,(m:Int)) ltP vN;have e2:cP .gt [enP e,enP (0,(m:Int))]=.ok (enP (norm (e,(0,(m:Int)))).2):=G5 .gt e (0,(m:Int)) (fun x y=>ltP y x) PP;have w:cJ (aC cU (aC (aL (dI 1 cF) (aC gM aO)) aO)) (stP kvs Q V r c k p fi low x11 x12 x13 x14 (.lst (F.map fD)) (enP e) x17 x18)=.ok (enP (0,(m:Int))):=BP rfl (aK (aD rfl rfl) hm);refine aN (k_ (wQ (t:=norm (e,(0,(m:Int)))) (aK (aD rfl (aD w rfl)) e1) (aK (aD rfl (aD w rfl)) e2)) rfl) ?_;exact aEo fD fV F (Q,bU (V++[norm (e,(0,(m:Int)))]),r) (pA rfl (M3 hV rfl rfl) rfl) rfl (by lia)
set_option maxHeartbeats 2000000 in
theorem HW (n:Net kvs Q V) (hst:bV kvs) (h2:∃a b:Str,a≠b/\D.str a∈eO kvs/\D.str b∈eO kvs) (hk5:kvs.length<=5) (hQ:0<Q.length) (c:Int):∃F:List Fa,(∀f∈F,Bad kvs f)/\F.length<=10/\dI 3 eZ [.dct kvs,d_ Q V r,.int c]=.ok (.lst (F.map fD)):=by
 have hp:(0:Int)<Q.length:=by lia
 have lQ:=n.ql;have lV:=n.small;obtain ⟨A,p,B,hQe,hA⟩:=rH (Int.emod_nonneg c (by lia)) (Int.emod_lt_of_pos c hp);have mq:=eX c Q.length hp;rw [<-hA] at mq;have lAB:Q.length=A.length+B.length+1:=by rw [hQe];simp;lia
 have pm:p∈Q:=by rw [hQe];simp
 have ppos:=n.qpos p pm;obtain ⟨v,hv6,hv⟩:=n.sk p pm;obtain ⟨q0,Q',hq0⟩:∃q0 Q',Q=q0::Q':=by
  cases Q with
  | nil=>simp at hQ
  | cons q Q=>exact ⟨q,Q,rfl⟩
 obtain ⟨Q'',ql,hql⟩:∃Q'' ql,Q=Q''++[ql]:=by
  rcases List.eq_nil_or_concat Q with e|⟨Q'',ql,e⟩
  ·rw [e] at hQ;simp at hQ
  ·exact ⟨Q'',ql,by rw [e,List.concat_eq_append]⟩
 have g0:getD (.tup (Q.map pcD)) (.int 0)=.ok (pcD q0):=by rw [hq0];exact aBi pcD [] Q' q0
 have gA:getD (.tup (Q.map pcD)) (.int A.length)=.ok (pcD p):=by rw [hQe];exact aBi pcD A B p
 have gl:getD (.tup (Q.map pcD)) (.int (-1))=.ok (pcD ql):=by rw [hql];exact aIy pcD Q'' ql
 have s1:PK (.tup (Q.map pcD)) none (some (A.length:Int))=.ok (.tup (A.map pcD)):=by rw [hQe];exact SJ pcD sX A (p::B)
 have s2:PK (.tup (Q.map pcD)) (some (A.length:Int)) none=.ok (.tup ((p::B).map pcD)):=by rw [hQe];exact MT pcD sX A (p::B)
 have s3:PK (.tup (Q.map pcD)) (some ((A.length:Int)+1)) none=.ok (.tup (B.map pcD)):=by
  have:=MT pcD sX (A++[p]) B;rw [show A++[p]++B=A++p::B by simp,show (((A++[p]).length:Nat):Int)=(A.length:Int)+1 by simp] at this;rw [hQe];exact this
 have s4:PK (.tup (Q.map pcD)) (some (1:Int)) none=.ok (.tup (Q'.map pcD)):=by rw [hq0];exact MT pcD sX [q0] Q'
 have gs:getD (.dct kvs) (.str p.2)=.ok (.int v):=by
  show (if keyOk (.str p.2) then Res.ofOpt (bN kvs (.str p.2)) else .bad)=_;rw [hv];rfl
 obtain ⟨NS,hNS⟩:=p7 hst
 let O:=NS.filter fun e=>!(e==p.2)
 have hO:(0:Int)<O.length:=by
  obtain ⟨a,b,hab,ha,hb⟩:=h2;rw [hNS] at ha hb;obtain ⟨a',ha',ea⟩:=List.mem_map.mp ha;obtain ⟨b',hb',eb⟩:=List.mem_map.mp hb;cases ea;cases eb;have:∃w,w∈O:=by
   by_cases h:a=p.2
   ·exact ⟨b,List.mem_filter.mpr ⟨hb',by simpa using fun z=>hab (by rw [h,z])⟩⟩
   ·exact ⟨a,List.mem_filter.mpr ⟨ha',by simpa using h⟩⟩
  obtain ⟨w,hw⟩:=this;have:=List.length_pos_of_mem hw;lia
 obtain ⟨X,s',Y,hXe,hX⟩:=rH (Int.emod_nonneg (c / 7) (by lia)) (Int.emod_lt_of_pos (c / 7) hO);have go:getD (.lst (O.map D.str)) (.int (c / 7 % O.length))=.ok (.str s'):=by
  rw [<-hX,hXe];exact getL D.str X Y s'
 have p50:aU .pow (.int 10) (.int 50)=.ok (.int (10 ^ 50)):=PJ 50 (by decide);have m3:=eX c 3 (by decide);have f3:=gJ c 3 (by decide) (by decide);have m50:=eX (c / 3) (10 ^ 50) (by decide);have f7:=gJ c 7 (by decide) (by decide);have mO:=eX (c / 7) O.length hO;have c3a:0<=c % 3:=Int.emod_nonneg _ (by decide);have c3b:c % 3<3:=Int.emod_lt_of_pos _ (by decide);have ml:=vA (-(c % 3)) (c / 3 % 10 ^ 50) (j_ _ (by lia) (by lia));have hlow:-(c % 3)*(c / 3 % 10 ^ 50)<=0:=by
  have h:0<=c % 3*(c / 3 % 10 ^ 50):=Int.mul_nonneg c3a (Int.emod_nonneg _ (by decide));rw [Int.neg_mul];lia
 generalize hl:-(c % 3)*(c / 3 % 10 ^ 50)=low at ml hlow;have hrim:=aCp Q V r;generalize jN (ends V)=m at hrim
 let x1:Tie:=((0,(m:Int)),(p.1,(v:Int)+1))
 let x2:Tie:=((0,(m:Int)),(ql.1+1,0))
 let x3:Tie:=norm ((p.1,-1),(0,(m:Int)))
 let x4:Tie:=norm ((-p.1,0),(0,(m:Int)))
 obtain ⟨M,y12,lM,eM⟩:=Y9 (a0:=.dct kvs) (a1:=d_ Q V r) (a2:=.int c) (a3:=.tup (Q.map pcD)) (a4:=.tup (V.map bH)) (a5:=.int r) (a6:=.int A.length) (a7:=.int p.1) (a8:=.str p.2) (a13:=.uD) (a14:=.uD) (a15:=.uD) (a16:=.uD) (a17:=.uD) (a18:=.uD) (fi:=q0.1) (low:=low) V [] .uD (by simp;lia);have lM:M.length<=1000:=by rw [lM];simp;lia
 have lS:∀x:Tie,(bU (V++[x])).length<=2000:=fun x=>by rw [(cT _).length_eq];simp;lia
 have lQ1:Q.length<=1000:=by lia
 have b1:Bad kvs (A++[p]++p::B,V,r):=⟨aBn,by show (A++[p]++p::B).length<=1000;simp;lia,by show V.length<=2000;lia⟩
 have b2':Bad kvs (Q,bU (V++[x1]),r):=⟨t_ (e:=(p.1,(v:Int)+1)) (.inr rfl) (by show p.1≠0;lia) (fun pc hpc e=>by
  have:=aJ2 n pm hpc e;subst this;rw [xV hv];show ¬(0<=(v:Int)+1/\(v:Int)+1<=v);lia),lQ1,lS _⟩
 have b3:Bad kvs (Q,bU (V++[x2]),r):=⟨t_ (e:=(ql.1+1,0)) (.inr rfl) (by have:=n.qpos ql (by rw [hql];simp);show ql.1+1≠0;lia) (fun pc hpc e=>by
  have e:ql.1+1=pc.1:=e;have hq:=n.qs;rw [hql,List.pairwise_append] at hq;rw [hql] at hpc;rcases List.mem_append.mp hpc with h|h
  ·have:pc.1<ql.1:=hq.2.2 pc h ql (by simp);lia
  ·have:pc=ql:=by simpa using h
   subst this;lia),lQ1,lS _⟩
 have nm1:=BR ((p.1,-1),(0,(m:Int)));have nm2:=BR ((-p.1,0),(0,(m:Int)));have b4:Bad kvs (Q,bU (V++[x3]),r):=⟨t_ (e:=(p.1,-1)) (by simpa using nm1.1) (by show p.1≠0;lia) (fun pc hpc e=>by
  show ¬(0<=(-1:Int)/\_);lia),lQ1,lS _⟩
 have b5:Bad kvs (Q,bU (V++[x4]),r):=⟨t_ (e:=(-p.1,0)) (by simpa using nm2.1) (by show -p.1≠0;lia) (fun pc hpc e=>by
  have e:-p.1=pc.1:=e;have:=n.qpos pc hpc;lia),lQ1,lS _⟩
 have lX:(jP [(p.1,p.2),(p.1,s')]).length=2:=(xY _).length_eq;have b6:Bad kvs (A++jP [(p.1,p.2),(p.1,s')]++B,V,r):=⟨aEq,by show (A++jP [(p.1,p.2),(p.1,s')]++B).length<=1000;rw [List.length_append,List.length_append,lX];lia,by show V.length<=2000;lia⟩
 have lQ':Q'.length<=1000:=by
  rw [hq0] at lQ;simp at lQ;lia
 have b7:Bad kvs ([(low,q0.2)]++Q',bU M,r):=⟨aEr hlow,by show ([(low,q0.2)]++Q').length<=1000;rw [hq0] at lQ;simp at lQ ⊢;lia,by show (bU M).length<=2000;rw [(cT _).length_eq];lia⟩
 let F7:List Fa:=[(A++[p]++p::B,V,r)]++[(Q,bU (V++[x1]),r),(Q,bU (V++[x2]),r)]++[(Q,bU (V++[x3]),r)]++[(Q,bU (V++[x4]),r)]++[(A++jP [(p.1,p.2),(p.1,s')]++B,V,r)]++[([(low,q0.2)]++Q',bU M,r)]
 have bF:∀f∈F7,Bad kvs f:=by
  refine lB (lB (lB (lB (fun f hf=>?_) b4) b5) b6) b7;simp only [List.cons_append,List.nil_append,List.mem_cons,List.not_mem_nil,or_false] at hf;rcases hf with rfl|rfl|rfl
  ·exact b1
  ·exact b2'
  ·exact b3
 have lF:F7.length=7:=rfl;have last:∃F8:List Fa,(∀f∈F8,Bad kvs f)/\F8.length<=8/\∀x11 x12 x13 x14 x16 x17 x18,(sIf (bTB (b2 (bL (.ord .gt)) mH cU)) (nJ 15 (cJ (aC (b2 mY (b2 mY (lC bQ (fH) (dH (b2 (aU .sub) mH cV))) (cJ (aC (b2 getD bQ mH) (aC (b2 getD bQ (b2 (aU .sub) mH cV)) aO)))) (lC bQ (dH (b2 (aU .add) mH cV)) (fH))) (aC dX (aC fK aO))))) (iT)) (stP kvs Q V r c A.length p q0.1 low x11 x12 x13 x14 (.lst (F7.map fD)) x16 x17 x18)=.ok (.nx (stP kvs Q V r c A.length p q0.1 low x11 x12 x13 x14 (.lst (F8.map fD)) x16 x17 x18)):=by
  have ct:∀x11 x12 x13 x14 x16 x17 x18,bTB (b2 (bL (.ord .gt)) mH cU) (stP kvs Q V r c A.length p q0.1 low x11 x12 x13 x14 (.lst (F7.map fD)) x16 x17 x18)=.ok (decide ((0:Int)<A.length)):=fun _ _ _ _ _ _ _=>dC (aH rfl rfl rfl)
  rcases List.eq_nil_or_concat A with e|⟨A',q,e⟩
  ·rw [decide_eq_false (by rw [e];simp)] at ct;exact ⟨F7,bF,by rw [lF];lia,fun _ _ _ _ _ _ _=>nR (ct _ _ _ _ _ _ _) rfl⟩
  ·rw [List.concat_eq_append] at e;rw [decide_eq_true (by rw [e];simp)] at ct;have hm1:(A.length:Int)-1=A'.length:=by rw [e];simp
   have n':Net kvs (A'++[q]++p::B) V:=by rw [<-e,<-hQe];exact n
   have g5:getD (.tup (Q.map pcD)) (.int A'.length)=.ok (pcD q):=by
    have:=aBi pcD A' (p::B) q;rw [show A'++q::p::B=A'++[q]++p::B by simp,<-e,<-hQe] at this;exact this
   have s5:PK (.tup (Q.map pcD)) none (some (A'.length:Int))=.ok (.tup (A'.map pcD)):=by
    have:=SJ pcD sX A' ([q]++p::B);rw [<-List.append_assoc,<-e,<-hQe] at this;exact this
   have l3:A.length=A'.length+1:=by rw [e];simp
   refine ⟨F7++[(A'++[p,q]++B,V,r)],lB bF ⟨Y8 n',by show (A'++[p,q]++B).length<=1000;simp;lia,by show V.length<=2000;lia⟩,by rw [List.length_append,lF];simp,fun x11 x12 x13 x14 x16 x17 x18=>PB (ct _ _ _ _ _ _ _) ?_⟩;refine aEo fD fV F7 (A'++[p,q]++B,V,r) (pA (tM pcD (A:=A') (B:=[p,q]) (C:=B) ?_ ?_ ?_ (by simp;lia)) rfl rfl) rfl (by rw [lF];lia)
   ·exact oM rfl rfl (eN (aH rfl rfl ((u_ _ _).trans (by rw [hm1])))) s5
   ·exact gC (aD (aH rfl rfl gA) (aD (aH rfl (aH rfl rfl ((u_ _ _).trans (by rw [hm1]))) g5) rfl)) (by rw [bK];simp)
   ·exact oM rfl (eN (aH rfl rfl (eV _ _))) rfl s3
 obtain ⟨F8,c1,c2,c3⟩:=last;refine ⟨F8,c1,by lia,(eF rfl).trans (call_v ?_)⟩;have i1:∀ρ:List D,cJ (aC cU (aC (aL (dI 1 cF) (aC gM aO)) aO)) (.dct kvs::d_ Q V r::ρ)=.ok (enP (0,(m:Int))):=fun ρ=>BP rfl (aK (aD rfl rfl) hrim)
 refine aN (HS rfl (rG _ _ _) rfl) ?_;refine aN (cA (aH rfl (aK (aD rfl rfl) (aEn pcD _)) mq)) ?_;refine aN (HS (aH rfl rfl gA) rfl rfl) ?_;refine aN (k_ (aH (aH rfl rfl g0) rfl rfl) rfl) ?_;refine aN (cA (aH (aHa (aH rfl rfl m3) rfl) (aH (aH rfl rfl f3) (aH rfl rfl p50) m50) ml)) ?_;refine aN (fJ rfl rfl) ?_;refine aN (pQ rfl rfl eM) ?_;refine aN (k_ (M3 lV rfl (wQ (t:=x1) (i1 _) (BP rfl (aH (aH rfl rfl gs) rfl (eV _ _))))) (fZ _)) ?_;refine aN (k_ (M3 lV rfl (wQ (t:=x2) (i1 _) (BP (aH (aH (aH rfl rfl gl) rfl rfl) rfl (eV _ _)) rfl))) (fZ _)) ?_;refine aN (fJ (nF fD fV [((A++[p]++p::B,V,r):Fa)] (aD (pA (tM pcD (A:=A) (B:=[p]) (C:=p::B) (oM rfl rfl (eN rfl) s1) (MP (aH rfl rfl gA)) (oM rfl (eN rfl) rfl s2) (by simp;lia)) rfl rfl) rfl) (by simp)) (iM fD fV _)) ?_;refine aN (fJ (aH rfl (nF fD fV [((Q,bU (V++[x1]),r):Fa),(Q,bU (V++[x2]),r)] (aD (pA rfl rfl rfl) (aD (pA rfl rfl rfl) rfl)) (by simp)) (sW fD fV _ _ (by simp))) (iM fD fV _)) ?_;refine aN (qZ ((g8 (d:=.lst [enP (p.1,-1),enP (-p.1,0)]) ?_ rfl).trans rfl) (cX rfl (QW hrim lV (by simp)) (cX rfl (QW hrim lV (by simp)) rfl))) ?_
 ·exact nF enP aBj [(p.1,-1),(-p.1,0)] (aD (BP rfl rfl) (aD (BP (aHa rfl rfl) rfl) rfl)) (by simp)
 refine aN (cA (Y_ hst hNS hk5 rfl (fun _=>rfl))) ?_;refine aN (k_ (aK (aD (aK (aD (nF pcD sX [((p.1,p.2):Pc),(p.1,s')] (aD (gC (aD rfl (aD rfl rfl)) (by rw [bK];simp)) (aD (gC (aD rfl (aD (aH rfl (aH (aH rfl rfl f7) (aK (aD rfl rfl) (aIx D.str O)) mO) go) rfl)) (by rw [bK];simp)) rfl)) (by simp)) rfl) (Y7 _)) rfl) rfl) (YG _)) ?_;refine aN (aEo fD fV ([((A++[p]++p::B,V,r):Fa)]++[(Q,bU (V++[x1]),r),(Q,bU (V++[x2]),r)]++[(Q,bU (V++[x3]),r)]++[(Q,bU (V++[x4]),r)]) (A++jP [(p.1,p.2),(p.1,s')]++B,V,r) (pA (tM pcD (A:=A) (B:=jP [(p.1,p.2),(p.1,s')]) (C:=B) (oM rfl rfl (eN rfl) s1) rfl (oM rfl (eN (aH rfl rfl (eV _ _))) rfl s3) (by rw [lX];lia)) rfl rfl) rfl (by simp)) ?_;refine aN (aEo fD fV ([((A++[p]++p::B,V,r):Fa)]++[(Q,bU (V++[x1]),r),(Q,bU (V++[x2]),r)]++[(Q,bU (V++[x3]),r)]++[(Q,bU (V++[x4]),r)]++[(A++jP [(p.1,p.2),(p.1,s')]++B,V,r)]) ([(low,q0.2)]++Q',bU M,r) (pA (aH (MP (gC (aD rfl (aD (aH (aH rfl rfl g0) rfl rfl) rfl)) (by rw [bK];simp))) (oM rfl (eN rfl) rfl s4) (vY pcD [(low,q0.2)] Q' (by simp;lia))) (aK (aD (aK (aD rfl rfl) (rE M)) rfl) rfl) rfl) rfl (by simp)) ?_;exact aN (c3 _ _ _ _ _ _ _) rfl
end
end Lk07
end
section
namespace Lk07
open PySem L2 Mi
theorem xZ {kvs:List (D×D)} (hst:bV kvs):D.a_ (kvs.map (·.2))=true:=by
 induction kvs with
 | nil=>rfl
 | cons q kvs ih=>
  obtain ⟨s,v,e,_⟩:=hst q (List.mem_cons_self ..);subst e;rw [List.map_cons,D.a_,ih fun p hp=>hst p (List.mem_cons_of_mem _ hp)];rfl
theorem ZC {kvs:List (D×D)} (hst:bV kvs) (hne:kvs≠[]):vC [.dct kvs]=.ok (.dct kvs):=by
 have e:kvs.all (fun p=>!isTup p.1)=true:=List.all_eq_true.mpr fun p hp=>by
  obtain ⟨s,v,rfl,_⟩:=hst p hp;rfl
 have e0:kvs.isEmpty=false:=by
  cases kvs with
  | nil=>exact absurd rfl hne
  | cons _ _=>rfl
 show (if !kvs.isEmpty&&(kvs.all (fun p=>!isTup p.1)&&D.a_ (kvs.map (·.2))) then Res.ok (D.dct kvs) else .bad)=_;rw [e,e0,xZ hst];rfl
theorem rK (a b:Bool):dI 2 cR [.bl a,.bl b]=.ok (.bl (a==b)):=by
 cases a <;> cases b <;> rfl
theorem HX (s:Str):∀(kvs:List (D×D)),bV kvs->bN (pW kvs (.str s)) (.str s)=none
 | [],_=>rfl
 | (a,b)::kvs,h=>by
  have ih:=HX s kvs fun p hp=>h p (List.mem_cons_of_mem _ hp)
  unfold pW at ih ⊢;rw [List.filter_cons];by_cases e:eqD a (.str s)=true
  ·rw [if_neg (by simp [e]),ih]
  ·rw [if_pos (by simpa using e),bN,if_neg e,ih]
theorem S5 {kvs:List (D×D)} (h:bV kvs) (k:D):bV (pW kvs k):=fun p hp=>h p (List.mem_filter.mp hp).1
section
variable {kvs:List (D×D)} {Q:List Pc} {V:List Tie} {r:Int}
theorem M4 (hst:bV kvs) (n:Net kvs Q V) (hr:0<=r):dI 2 eG [.dct kvs,d_ Q V r]=.ok (.bl true):=by
 obtain ⟨b,h1,h2⟩:=QH hst Q V r (by have:=n.ql;lia) (by have:=n.small;lia);rw [h1,h2.mpr (aBg n hr)]
theorem ZD (hst:bV kvs) {f:Fa} (h:Bad kvs f):dI 2 eG [.dct kvs,fD f]=.ok (.bl false):=by
 obtain ⟨b,h1,h2⟩:=QH hst f.1 f.2.1 f.2.2 h.2.1 h.2.2;cases b with
 | true=>exact absurd (h2.mp rfl) h.1
 | false=>exact h1
theorem aEs (hr:0<=r):dI 2 eG [.dct [],d_ [] [] r]=.ok (.bl true):=M4 (fun p hp=>by cases hp) (aEf []) hr
noncomputable def fb:FS:=(sIf (bOr (CW (bTr (aL (dI 2 cR) (aC (aL (dI 2 eG) (aC (aL vC (aC gD aO)) (aC mH aO))) (aC (bC (.bl false)) aO))))) (CW (bTr (aL (dI 2 cR) (aC (aL (dI 2 eG) (aC (aL vC (aC gD aO)) (aC bQ aO))) (aC (bC (.bl true)) aO)))))) (v_ (bC (.bl false)) true) (iT))
theorem aCr (hst:bV kvs) (hne:kvs≠[]) (n:Net kvs Q V) (hr:0<=r) {a0 a1 a4 a5:D}:∀(F:List Fa) (x:D),(∀f∈F,Bad kvs f)->∃x',qN (tg1 6) fb (F.map fD) [a0,a1,.dct kvs,d_ Q V r,a4,a5,x]=.ok (.nx [a0,a1,.dct kvs,d_ Q V r,a4,a5,x'])
 | [],x,_=>⟨x,rfl⟩
 | f::F,x,h=>by
  obtain ⟨x',ih⟩:=aCr hst hne n hr (a0:=a0) (a1:=a1) (a4:=a4) (a5:=a5) F (fD f) fun g hg=>h g (List.mem_cons_of_mem _ hg)
  refine ⟨x',cX rfl ?_ ih⟩;have hd:=ZC hst hne;have w:aL vC (aC gD aO) [a0,a1,.dct kvs,d_ Q V r,a4,a5,fD f]=.ok (.dct kvs):=aK (aD rfl rfl) hd;refine nR (aJc (tL (aCh (aK (xs:=[.bl false,.bl false]) (aD (aK (xs:=[.dct kvs,fD f]) (aD w (aD rfl rfl)) (ZD hst (h f (List.mem_cons_self ..)))) (aD rfl rfl)) (rK false false)) rfl)) (tL (b:=true) (aCh (aK (xs:=[.bl true,.bl true]) (aD (aK (xs:=[.dct kvs,d_ Q V r]) (aD w (aD rfl rfl)) (M4 hst n hr)) (aD rfl rfl)) (rK true true)) rfl))) rfl
end
theorem main:∀ns:List Int,ns.length<=63->R3 [.scr (ns.map D.int)]=.ok (.bl true):=by
 intro ns hn;have c0:=cell_eq ns 0;have c1:=cell_eq ns 1;obtain ⟨kvs,k1,k5,k2,k3,k4⟩:=aB4 (cellAt ns 0) (cellAt ns 1);have k4':dI 2 jK [.int (cellAt ns 0),.int (cellAt ns 1)]=.ok (.dct kvs):=(eF rfl).trans k4;have hs:PK (.scr (ns.map D.int)) (some 2) (some 66)=.ok (.lst ((cutD ns (some 2) (some 66)).map D.int)):=by
  show (if D.a_ (ns.map D.int) then Res.ok (D.lst (cutD (ns.map D.int) (some 2) (some 66))) else .bad)=_;rw [o7,if_pos rfl,aDy]
 have hcl:=aDz ns (some 2) (some 66);generalize cutD ns (some 2) (some 66)=cs at hs hcl;obtain ⟨Q,V,r,n,hr,n2⟩:=aB9 k1 k2 k3 cs (by lia) (cellAt ns 0);generalize cellAt ns 1=c at c1 k4 k4';generalize cellAt ns 0=z0 at c0 k4 k4' n2;have hd:=ZC k1 k2;have p50:aU .pow (.int 10) (.int 50)=.ok (.int (10 ^ 50)):=PJ 50 (by decide);have m3:=eX c 3 (by decide);have f3:=gJ c 3 (by decide) (by decide);have m50:=eX (c / 3) (10 ^ 50) (by decide);have f2:=gJ c 2 (by decide) (by decide);have c3a:0<=c % 3:=Int.emod_nonneg _ (by decide);have c3b:c % 3<3:=Int.emod_lt_of_pos _ (by decide);have ml:=vA (c % 3) (c / 3 % 10 ^ 50) (j_ _ (by lia) (by lia));have hlow:0<=c % 3*(c / 3 % 10 ^ 50):=Int.mul_nonneg c3a (Int.emod_nonneg _ (by decide));generalize c % 3*(c / 3 % 10 ^ 50)=low at ml hlow;have lQ:=n.ql;have lV:=n.small
 let F0:List Fa:=[(Q,V,-1-low)]
 have b0:∀f∈F0,Bad kvs f:=fun f hf=>by
  rw [show f=(Q,V,-1-low) by simpa [F0] using hf];exact ⟨YZ (by show -1-low<0;lia),by show Q.length<=1000;lia,by show V.length<=2000;lia⟩
 have pcs:∃(F1:List Fa) (x5:D),(∀f∈F1,Bad kvs f)/\F1.length<=11/\(sIf (bTB (b2 (bL (.ord .gt)) (aL iD (aC (b2 getD bQ cU) aO)) cU)) (bT (cL false 4 (b2 (aU .add) dX (aL (dI 3 eZ) (aC gD (aC bQ (aC gM aO))))) true) (bT (cL true 5 (aL vC (aC gD aO)) true) (bT (aAy 5 (b2 getD (b2 getD (b2 getD bQ cU) (b2 (aU .mod) gM (aL iD (aC (b2 getD bQ cU) aO)))) cV)) (sIf (CW (bTr (aL (dI 2 cR) (aC (aL (dI 2 eG) (aC fK (aC bQ aO))) (aC (bC (.bl false)) aO))))) (v_ (bC (.bl false)) true) (iT))))) (iT)) [.scr (ns.map D.int),.int c,.dct kvs,d_ Q V r,.lst (F0.map fD),.uD,.uD]=.ok (.nx [.scr (ns.map D.int),.int c,.dct kvs,d_ Q V r,.lst (F1.map fD),x5,.uD]):=by
  have ct:bTB (b2 (bL (.ord .gt)) (aL iD (aC (b2 getD bQ cU) aO)) cU) [.scr (ns.map D.int),.int c,.dct kvs,d_ Q V r,.lst (F0.map fD),.uD,.uD]=.ok (decide ((0:Int)<Q.length)):=dC (aH (x:=.int Q.length) (aK (xs:=[.tup (Q.map pcD)]) (aD (aH (x:=d_ Q V r) rfl rfl (n0 Q V r)) rfl) (aEn pcD Q)) rfl rfl);by_cases hQ:0<Q.length
  ·rw [decide_eq_true (by lia)] at ct;have hp:(0:Int)<Q.length:=by lia
   obtain ⟨F,h1,h2,h3⟩:=HW (r:=r) n k1 k5 k3 hQ c;obtain ⟨A,p,B,hQe,hA⟩:=rH (Int.emod_nonneg c (by lia)) (Int.emod_lt_of_pos c hp);have mq:=eX c Q.length hp;rw [<-hA] at mq;have gA:getD (.tup (Q.map pcD)) (.int A.length)=.ok (pcD p):=by rw [hQe];exact aBi pcD A B p
   have pm:p∈Q:=by rw [hQe];simp
   obtain ⟨v,hv6,hv⟩:=n.sk p pm;have bf:Bad (pW kvs (.str p.2)) (Q,V,r):=⟨aCn pm fun z=>by
    obtain ⟨_,v,_,e⟩:=z;rw [HX p.2 kvs k1] at e;exact absurd e (by simp),by show Q.length<=1000;lia,by show V.length<=2000;lia⟩
   have ff:dI 2 eG [.dct (pW kvs (.str p.2)),d_ Q V r]=.ok (.bl false):=ZD (f:=(Q,V,r)) (S5 k1 _) bf;refine ⟨F0++F,.dct (pW kvs (.str p.2)),fun f hf=>(List.mem_append.mp hf).elim (b0 f) (h1 f),by rw [List.length_append];show 1+F.length<=11;lia,PB ct ?_⟩;refine aN (ρ':=[.scr (ns.map D.int),.int c,.dct kvs,d_ Q V r,.lst ((F0++F).map fD),.uD,.uD]) (cA (i:=4) (aH (x:=.lst (F0.map fD)) (y:=.lst (F.map fD)) rfl (aK (xs:=[.dct kvs,d_ Q V r,.int c]) (aD rfl (aD rfl (aD rfl rfl))) h3) (sW fD fV F0 F (by show 1+F.length<=10000;lia)))) ?_;refine aN (ρ':=[.scr (ns.map D.int),.int c,.dct kvs,d_ Q V r,.lst ((F0++F).map fD),.dct kvs,.uD]) (fJ (i:=5) (aK (xs:=[.dct kvs]) (aD rfl rfl) hd) (xZ k1)) ?_;refine aN (ρ':=[.scr (ns.map D.int),.int c,.dct kvs,d_ Q V r,.lst ((F0++F).map fD),.dct (pW kvs (.str p.2)),.uD]) ?_ ?_
   ·unfold aAy;have e:b2 getD (b2 getD (b2 getD bQ cU) (b2 (aU .mod) gM (aL iD (aC (b2 getD bQ cU) aO)))) cV [.scr (ns.map D.int),.int c,.dct kvs,d_ Q V r,.lst ((F0++F).map fD),.dct kvs,.uD]=.ok (.str p.2):=aH (x:=pcD p) (aH (x:=.tup (Q.map pcD)) (y:=.int A.length) (aH (x:=d_ Q V r) rfl rfl (n0 Q V r)) (aH (x:=.int c) rfl (aK (xs:=[.tup (Q.map pcD)]) (aD (aH (x:=d_ Q V r) rfl rfl (n0 Q V r)) rfl) (aEn pcD Q)) mq) gA) rfl rfl;rw [e,Res.aY];show (if (bN kvs (.str p.2)).isSome then Res.ok (Fl.nx [.scr (ns.map D.int),.int c,.dct kvs,d_ Q V r,.lst ((F0++F).map fD),.dct (pW kvs (.str p.2)),.uD]) else .bad)=_;rw [hv];rfl
   exact nR (tL (b:=true) (aCh (aK (xs:=[.bl false,.bl false]) (aD (aK (xs:=[.dct (pW kvs (.str p.2)),d_ Q V r]) (aD rfl (aD rfl rfl)) ff) (aD rfl rfl)) (rK false false)) rfl)) rfl
  ·rw [decide_eq_false (by lia)] at ct;exact ⟨F0,.uD,b0,by show 1<=11;lia,nR ct rfl⟩
 obtain ⟨F1,x5,q1,q2,q3⟩:=pcs;have tis:∃(F2:List Fa),(∀f∈F2,Bad kvs f)/\(sIf (bTB (b2 (bL (.ord .gt)) (aL iD (aC (b2 getD bQ cV) aO)) cU)) (cL false 4 (b2 (aU .add) (b2 (aU .add) dX (aL (dI 2 gZ) (aC bQ (aC (b2 (aU .fdiv) gM v5) aO)))) (aL (dI 2 gY) (aC bQ (aC gM aO)))) true) (iT)) [.scr (ns.map D.int),.int c,.dct kvs,d_ Q V r,.lst (F1.map fD),x5,.uD]=.ok (.nx [.scr (ns.map D.int),.int c,.dct kvs,d_ Q V r,.lst (F2.map fD),x5,.uD]):=by
  have ct:bTB (b2 (bL (.ord .gt)) (aL iD (aC (b2 getD bQ cV) aO)) cU) [.scr (ns.map D.int),.int c,.dct kvs,d_ Q V r,.lst (F1.map fD),x5,.uD]=.ok (decide ((0:Int)<V.length)):=dC (aH (x:=.int V.length) (aK (xs:=[.tup (V.map bH)]) (aD (aH (x:=d_ Q V r) rfl rfl (n1 Q V r)) rfl) (aEn bH V)) rfl rfl);by_cases hV:0<V.length
  ·rw [decide_eq_true (by lia)] at ct;obtain ⟨Fa',h1,h2,h3⟩:=SQ (r:=r) n hV (c / 2);obtain ⟨Fb,i1,i2,i3⟩:=SX (r:=r) n hV c;refine ⟨F1++Fa'++Fb,fun f hf=>?_,PB ct (cA (i:=4) (aH (x:=.lst ((F1++Fa').map fD)) (y:=.lst (Fb.map fD)) (aH (x:=.lst (F1.map fD)) (y:=.lst (Fa'.map fD)) rfl (aK (xs:=[d_ Q V r,.int (c / 2)]) (aD rfl (aD (aH (x:=.int c) rfl rfl f2) rfl)) h3) (sW fD fV F1 Fa' (by lia))) (aK (xs:=[d_ Q V r,.int c]) (aD rfl (aD rfl rfl)) i3) (sW fD fV (F1++Fa') Fb (by rw [List.length_append];lia))))⟩;rcases List.mem_append.mp hf with hf|hf
   ·exact (List.mem_append.mp hf).elim (q1 f) (h1 f)
   ·exact i1 f hf
  ·rw [decide_eq_false (by lia)] at ct;exact ⟨F1,q1,nR ct rfl⟩
 obtain ⟨F2,t1,t2⟩:=tis;obtain ⟨x6,e6⟩:=aCr k1 k2 n hr (a0:=.scr (ns.map D.int)) (a1:=.int c) (a4:=.lst (F2.map fD)) (a5:=x5) F2 .uD t1;refine call_v (n:=1) (m:=7) ?_;show aGz [.scr (ns.map D.int),.uD,.uD,.uD,.uD,.uD,.uD]=_;refine aN (ρ':=[.scr (ns.map D.int),.int c,.uD,.uD,.uD,.uD,.uD]) (cA (i:=1) (aK (xs:=[.scr (ns.map D.int),.int 1]) (aD rfl (aD rfl rfl)) c1)) ?_;refine aN (ρ':=[.scr (ns.map D.int),.int c,.dct kvs,.uD,.uD,.uD,.uD]) (cA (i:=2) (aK (xs:=[.int z0,.int c]) (aD (aK (xs:=[.scr (ns.map D.int),.int 0]) (aD rfl (aD rfl rfl)) c0) (aD rfl rfl)) k4')) ?_;refine aN (ρ':=[.scr (ns.map D.int),.int c,.dct kvs,d_ Q V r,.uD,.uD,.uD]) (cA (i:=3) (aK (xs:=[.dct kvs,.lst (cs.map D.int),.int z0]) (aD rfl (aD (oM (x:=.scr (ns.map D.int)) rfl (eN (i:=2) rfl) (eN (i:=66) rfl) hs) (aD (aK (xs:=[.scr (ns.map D.int),.int 0]) (aD rfl (aD rfl rfl)) c0) rfl))) n2)) ?_;refine aN (ρ':=[.scr (ns.map D.int),.int c,.dct kvs,d_ Q V r,.uD,.uD,.uD]) (nR (aJc (tL (b:=true) (aCh (aK (xs:=[.bl true,.bl true]) (aD (aK (xs:=[.dct kvs,d_ Q V r]) (aD (aK (xs:=[.dct kvs]) (aD rfl rfl) hd) (aD rfl rfl)) (M4 k1 n hr)) (aD rfl rfl)) (rK true true)) rfl)) (tL (b:=true) (aCh (aK (xs:=[.bl true,.bl true]) (aD (aK (xs:=[.dct [],d_ [] [] r]) (aD rfl (aD (pA (P:=[]) (U:=[]) (gC rfl (by rw [bK];simp)) (gC rfl (by rw [bK];simp)) (aH (x:=d_ Q V r) rfl rfl (Lk07.n2 Q V r))) rfl)) (aEs hr)) (aD rfl rfl)) (rK true true)) rfl))) rfl) ?_;refine aN (ρ':=[.scr (ns.map D.int),.int c,.dct kvs,d_ Q V r,.lst (F0.map fD),.uD,.uD]) (cA (i:=4) (nF fD fV F0 (aD (pA (aH (x:=d_ Q V r) rfl rfl (n0 Q V r)) (aH (x:=d_ Q V r) rfl rfl (n1 Q V r)) (aH (x:=.int (-1)) rfl (aH (x:=.int (c % 3)) (aH (x:=.int c) rfl rfl m3) (aH (x:=.int (c / 3)) (aH (x:=.int c) rfl rfl f3) (aH rfl rfl p50) m50) ml) (u_ _ _))) rfl) (by show 1<=10000;lia))) ?_;refine aN q3 (aN t2 ?_);exact aN (pQ (d:=.lst (F2.map fD)) (xs:=F2.map fD) rfl rfl e6) rfl
end Lk07
end
section
open PySem PySem.W PyProof.Rows
def PySem.W.Fast.tw11866956867703623574 : Unit:=()
def PySem.W.Fast.tw2878242597237439035 : Unit:=()
def PySem.W.Fast.tw4454343211231874312 : Unit:=()
def PySem.W.Fast.tw12139899670332460958 : Unit:=()
def PySem.W.Fast.tw1478359105384114623 : Unit:=()
def PySem.W.Fast.tw6774080868629991348 : Unit:=()
def PySem.W.Fast.tw9966051857133976059 : Unit:=()
def PySem.W.Fast.tw10567251382241955639 : Unit:=()
def PySem.W.Fast.tw10815495047518278064 : Unit:=()
def PySem.W.Fast.tw12718545846587627470 : Unit:=()
def PySem.W.Fast.tw3497861492174834152 : Unit:=()
def PySem.W.Fast.tw3919751114908887640 : Unit:=()
def PySem.W.Fast.tw11364499653819146765 : Unit:=()
def PySem.W.Fast.tw13787597130504355174 : Unit:=()
def PySem.W.Fast.tw10448144485454186125 : Unit:=()
def PySem.W.Fast.tw12096754749991739948 : Unit:=()
def PySem.W.Fast.tw4959211750699488855 : Unit:=()
def PySem.W.Fast.tw52811809268129205 : Unit:=()
def PySem.W.Fast.tw4894816001674821111 : Unit:=()
def PySem.W.Fast.tw13381915278765533912 : Unit:=()
def PySem.W.Fast.tw16517049260377389107 : Unit:=()
def PySem.W.Fast.tw18263540691053694616 : Unit:=()
def PySem.W.Fast.tw9736227362810352450 : Unit:=()
def PySem.W.Fast.tw12319009568494452451 : Unit:=()
def PySem.W.Fast.tw13762274985894537519 : Unit:=()
def PySem.W.Fast.tw15775463290034825811 : Unit:=()
def PySem.W.Fast.tw8403799258800346406 : Unit:=()
def PySem.W.Fast.tw7772397946109476049 : Unit:=()
def PySem.W.Fast.tw10588069147350787101 : Unit:=()
def PySem.W.Fast.tw8866242051929626850 : Unit:=()
def PySem.W.Fast.tw12006608548535705035 : Unit:=()
def PySem.W.Fast.tw2925138129019203503 : Unit:=()
def PySem.W.Fast.tw413775378727582026 : Unit:=()
def PySem.W.Fast.tw3677118789000474114 : Unit:=()
def PySem.W.Fast.tw5563427875795194030 : Unit:=()
def PySem.W.Fast.tw8435679372758122717 : Unit:=()
def PySem.W.Fast.tw1025128500709277621 : Unit:=()
def PySem.W.Fast.tw299839146489846242 : Unit:=()
def PySem.W.Fast.tw4823663039866781889 : Unit:=()
def PySem.W.Fast.tw9573756745928207474 : Unit:=()
def PySem.W.Fast.tw8547586414782048199 : Unit:=()
def PySem.W.Fast.tw3576986992712406921 : Unit:=()
def PySem.W.Fast.tw18183245682963830469 : Unit:=()
def PySem.W.Fast.tw13459428502037521657 : Unit:=()
set_option maxRecDepth 100000 in
set_option maxHeartbeats 0 in
theorem PySem.Challenge.cw_hookmill_k07_is_net_holds : PySem.Challenge.rw_hookmill_k07_is_net.Holds := by
 w_on;o_law;k_head;(case hw=>w_witness2)
 k_fill
 refine Lk07.walk (l:=PySem.Challenge.rw_hookmill_k07_is_net) Lk07.main rfl rfl (fun w h Y=>PySem.W.kIn_of Y) ?F
 case F=>
  intro w mg fa h KX G hmg
  refine' Lk07.aH3 KX G hmg ?a0 ?a1 ?a2 ?a3 ?a4 ?a5 ?a6 ?a7 ?a8 ?a9 ?a10 ?a11 ?a12 ?a13 ?a14 ?a15 ?l15 ?c15 ?k15 ?t15 ?a16 ?a17 ?a18 ?l18 ?c18 ?k18 ?z_len ?z_min ?z_max ?z_list ?z_tuple ?z_sorted ?z_range ?z_isinstance ?z_int ?z_bool ?z_str ?z_dict ?z_all ?z_enumerate ?z_sum ?z_zip ?z_abs ?z_reversed ?g_NoNet ?xe_CNoNet ?xm_CNoNet
  (case a0|a1|a2|a3|a4|a5|a6|a7|a8|a9|a10|a11|a12|a13|a14|a16|a17=>refine' Lk07.aIs ?a ?b ?c ?d;(case a=>k_is);(case b=>k_is);(case c=>k_is);case d=>k_is)
  (case a15|l15|c15|k15|t15|a18|l18|c18|k18|z_len|z_min|z_max|z_list|z_tuple|z_sorted|z_range|z_isinstance|z_int|z_bool|z_str|z_dict|z_all|z_enumerate|z_sum|z_zip|z_abs|z_reversed|g_NoNet=>k_is)
  (case xe_CNoNet=>k_exc)
  (case xm_CNoNet=>kts_exm)
end
