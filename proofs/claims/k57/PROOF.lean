import PyProof.Rows.All
import Wide.All
import OpenK.AllK
import Wide.FinOn
import PyProof.EqAt
import PyProof.EqKinds
import PyProof.TupleCall
import Lean
import PyProof.Rows.SortRuns
import PySem.Syntax
import PyProof.NeKinds
import PyProof.WalkInts
import KE.KDictList
import PyProof.CompUse
import PyProof.StrWalks
import PyProof.EnumMake
import PyProof.EnumFor
import PyProof.StrCalls2
import PyProof.StrBlock2
import PyProof.StrBlockI
import PyProof.SliceStr2
import PyProof.ConsumeWalk
import PyProof.StrLawsJoin
import KE.KTryMore
import KE.KTryDeep
import OpenK.KOwn
import PyProof.ExcClass3
import KE.KIsAll
import PyProof.ExcArgsOwn
import PyProof.NsDelKeeps
import PyProof.ListRange
import PyProof.DictWalks
import KE.KEqDict
import PyProof.Rows.TupAdd
import PyProof.DictIter
import PyProof.AttrMissHeap
import PyProof.ZipIter
import PyProof.TupleIter
import PyProof.WalksMore
import PyProof.FactsAll.zip
import KE.KDictOf
import PyProof.Conv_int
import PyProof.Conv_int_bool
import PyProof.StrBlockL
import PyProof.MakeMany
import PyProof.MeetsStr2
import PyProof.CallRoads3
import PyProof.Rows.TupIn
import KE.KRevIter
import PyProof.StationsW
import OpenK.KCls
import PyProof.InstStoreFacts
import PyProof.DictItems
import PyProof.Rows.StrInSeq3
import PyProof.MeetsSeq2
import KE.KPairComp
import PySem.Challenge.RW_hookmill_k57_whole_long_runs
set_option Elab.async false
set_option maxRecDepth 100000
set_option maxHeartbeats 4000000
noncomputable section
set_option linter.all false
set_option autoImplicit false
set_option genSizeOfSpec false
set_option genInjectivity true
abbrev nDb (x:PySem.Str):Prop := (x==("__debug__" : PySem.Str))=false
abbrev nCd (x:PySem.Str):Prop := (x==("__classdict__" : PySem.Str))=false
namespace L2
open PySem PySem.Spec PyProof.Rows
noncomputable abbrev Key:=Sum Int Str
noncomputable def FQ:Key->Value->Bool
 | .inl k,v=>Value.isInt k v
 | .inr x,v=>Value.isStrOf x v
noncomputable def aMp (w:World):Key->Int
 | .inl k=>hashInt k
 | .inr x=>hashStr w x
theorem cG:∀{k:Key} {v:Value},FQ k v=true->(∃i t,k=Sum.inl i/\v=Value.int i t)\/(∃x t,k=Sum.inr x/\v=Value.str x t)
 | .inl i,v,h=>by
  obtain ⟨t,e⟩:=Value.isInt_shape (k:=i) (v:=v) h;exact .inl ⟨i,t,rfl,e⟩
 | .inr x,v,h=>by
  obtain ⟨t,e⟩:=Value.isStrOf_shape (x:=x) (v:=v) h;exact .inr ⟨x,t,rfl,e⟩
theorem RM (i:Int) (t:Tok):FQ (.inl i) (.int i t)=true:=by simp [FQ,Value.isInt]
theorem RN (x:Str) (t:Tok):FQ (.inr x) (.str x t)=true:=by simp [FQ,Value.isStrOf]
theorem aG5 (a b:Int):decide ((Sum.inl a:Key)=Sum.inl b)=(a==b):=by
 by_cases e:a=b
 ·subst e;simp
 ·have h:¬(Sum.inl a:Key)=Sum.inl b:=fun q=>e (Sum.inl.inj q)
  rw [decide_eq_false h];exact (beq_eq_false_iff_ne.mpr e).symm
theorem aG6 (a b:Str):decide ((Sum.inr a:Key)=Sum.inr b)=decide (a=b):=by
 by_cases e:a=b
 ·subst e;simp
 ·have h:¬(Sum.inr a:Key)=Sum.inr b:=fun q=>e (Sum.inr.inj q)
  rw [decide_eq_false h,decide_eq_false e]
theorem aG7 (a:Int) (b:Str):decide ((Sum.inl a:Key)=Sum.inr b)=false:=decide_eq_false (fun q=>nomatch q)
theorem aG8 (a:Str) (b:Int):decide ((Sum.inr a:Key)=Sum.inl b)=false:=decide_eq_false (fun q=>nomatch q)
def bU (prog:Program) (w:World):PySem.KeyKind prog w Key where
 is:=FQ
 hash:=aMp w
 inj:=fun v a b ha hb=>by
  rcases cG ha with ⟨i,t,rfl,rfl⟩|⟨x,t,rfl,rfl⟩
  ·rcases cG hb with ⟨j,u,rfl,e⟩|⟨y,u,rfl,e⟩
   ·injection e with e1 _;rw [e1]
   ·exact nomatch e
  ·rcases cG hb with ⟨j,u,rfl,e⟩|⟨y,u,rfl,e⟩
   ·exact nomatch e
   ·injection e with e1 _;rw [e1]
 byValue:=fun k v h=>by
  rcases cG h with ⟨i,t,rfl,rfl⟩|⟨x,t,rfl,rfl⟩ <;> rfl
 pyHash:=fun hv h=>by
  rcases cG hv with ⟨i,t,rfl,rfl⟩|⟨x,t,rfl,rfl⟩
  ·exact wpAny_pyHash_int h
  ·exact wpAny_pyHash_str h
 eqBool:=fun hu hv h=>by
  rcases cG hu with ⟨i,t,rfl,rfl⟩|⟨x,t,rfl,rfl⟩
  ·rcases cG hv with ⟨j,u,rfl,rfl⟩|⟨y,u,rfl,rfl⟩
   ·rw [aG5] at h;exact wpAny_eqBool_int h
   ·rw [aG7] at h;exact SeqAt.EqAt.int_str i t y u _ _ _ _ h
  ·rcases cG hv with ⟨j,u,rfl,rfl⟩|⟨y,u,rfl,rfl⟩
   ·rw [aG8] at h;exact SeqAt.EqAt.str_int x t j u _ _ _ _ h
   ·rw [aG6] at h;exact wpAny_eqBool_str h
 «strs»:=fun k x t v h=>by
  rcases cG h with ⟨i,u,rfl,e⟩|⟨y,u,rfl,e⟩
  ·exact nomatch e
  ·injection e with e1 _
   subst e1;cases v <;> rfl
theorem FW (prog:Program) (w:World) (i:Int) (t:Tok):(bU prog w).is (.inl i) (.int i t)=true:=RM i t
theorem FZ (prog:Program) (w:World) (x:Str) (t:Tok):(bU prog w).is (.inr x) (.str x t)=true:=RN x t
inductive V where
 | non|bl (b:Bool)|int (i:Int)|str (x:Str)|byt (b:Array UInt8)|flt (b:UInt64)|ref (a:Addr)|ty (n:String)
 deriving DecidableEq
def RelV:V->Value->Prop
 | .non,u=>u=Value.none
 | .bl b,u=>u=Value.bool b
 | .int i,u=>∃t,u=Value.int i t
 | .str x,u=>∃t,u=Value.str x t
 | .byt b,u=>∃t,u=Value.bytes b t
 | .flt b,u=>∃t,u=Value.float b t
 | .ref a,u=>u=Value.ref a
 | .ty n,u=>u=Value.type n
abbrev Vals:List V->List Value->Prop:=Paired RelV
theorem Vals.length {xs:List V} {us:List Value} (r:Vals xs us):xs.length=us.length:=Paired.length r
theorem Vals.get:∀{xs:List V} {us:List Value} {i:Nat} {x:V},Vals xs us->xs[i]?=some x->∃u,us[i]?=some u/\RelV x u
 | _,_,_,_,.nil,e=>by simp at e
 | _,_,0,_,.cons r _,e=>by simp at e;subst e;exact ⟨_,rfl,r⟩
 | _,_,i+1,x,.cons _ t,e=>by
  obtain ⟨u,h1,h2⟩:=Vals.get (i:=i) (x:=x) t (by simpa using e);exact ⟨u,by simpa using h1,h2⟩
theorem Vals.set {x:V} {u:Value} (r:RelV x u):∀{xs:List V} {us:List Value} (i:Nat),Vals xs us->Vals (xs.set i x) (us.set i u)
 | _,_,_,.nil=>.nil
 | _,_,0,.cons _ t=>.cons r t
 | _,_,i+1,.cons q t=>.cons q (Vals.set r i t)
theorem Vals.append:∀{xs ys:List V} {us ws:List Value},Vals xs us->Vals ys ws->Vals (xs++ys) (us++ws)
 | _,_,_,_,.nil,s=>s
 | _,_,_,_,.cons r t,s=>.cons r (Vals.append t s)
theorem Vals.take:∀{xs:List V} {us:List Value} (n:Nat),Vals xs us->Vals (xs.take n) (us.take n)
 | _,_,0,_=>.nil
 | _,_,_+1,.nil=>.nil
 | _,_,n+1,.cons r t=>.cons r (Vals.take n t)
theorem Vals.drop:∀{xs:List V} {us:List Value} (n:Nat),Vals xs us->Vals (xs.drop n) (us.drop n)
 | _,_,0,r=>r
 | _,_,_+1,.nil=>.nil
 | _,_,n+1,.cons _ t=>Vals.drop n t
def FJ:Option V->Option Value->Prop
 | some v,some u=>RelV v u
 | none,none=>True
 | _,_=>False
def KV {κ:Type}:List (κ×V)->List (κ×Value)->Prop:=Paired fun (p:κ×V) (q:κ×Value)=>p.1=q.1/\RelV p.2 q.2
noncomputable def kV:Key->V
 | .inl i=>.int i
 | .inr x=>.str x
inductive HO where
 | lst (xs:List V)
 | tup (xs:List V)
 | dK (kvs:List (Key×V))|dT (kvs:List (List Key×V))
 | set (S:Int->Bool) (n:Nat)
 | ins (C dx:Addr) (fs:List (Str×V))
 | own (x:Addr)
 | xd (fs:List (Str×V))
 | met (f x:Addr)
 | rng (lo hi:Int)
 | frz (o:Obj) (u:HO)
 | tbl (ps:Array Value)
 | ext (φ:Heap->Prop)
noncomputable abbrev Hp:=Addr->Option HO
noncomputable def upd (H:Hp) (a:Addr) (o:HO):Hp:=fun b=>if b=a then some o else H b
theorem aF {H:Hp} {a:Addr} {o:HO}:upd H a o a=some o:=by unfold upd;rw [if_pos rfl]
theorem aN {H:Hp} {a b:Addr} {o:HO} (h:b≠a):upd H a o b=H b:=by unfold upd;rw [if_neg h]
theorem F_ {H:Hp} {a:Addr} {o u:HO}:upd (upd H a o) a u=upd H a u:=by
 funext b;unfold upd;split <;> rfl
theorem mR {H:Hp} {a b:Addr} {o u:HO} (h:H a=some o) (h':H b=some u) (d:o≠u):a≠b:=by
 intro e;subst e;rw [h] at h';exact d (Option.some.inj h')
theorem a_ {H:Hp} {a b:Addr} {o:HO} (h:H a=some o) (h':H b=none):a≠b:=by
 intro e;subst e;rw [h] at h';cases h'
def iU (h:Heap) (a:Addr) (its:Array Value):Prop:=∃o,h.get? a=some o/\o.cls=.type "tuple"/\∃n,(o.data,o.dict)=(Data.seq its n,none)
theorem iU.tup {h:Heap} {a:Addr} {its:Array Value} (t:iU h a its):IsTup h a its:=let ⟨o,e,c,n,d⟩:=t;⟨o,e,c,n,congrArg (·.1) d⟩
theorem iU.bare {h:Heap} {a:Addr} {its:Array Value} (t:iU h a its):∃o,h.get? a=some o/\o.dict=none:=let ⟨o,e,_,_,d⟩:=t;⟨o,e,congrArg (·.2) d⟩
theorem iU.new (h:Heap) (items:Array Value):iU (h.push {cls:=.type "tuple",data:=.seq items}) h.objs.size items:=⟨_,Heap.get?_push_size _ rfl,rfl,_,rfl⟩
section
variable (P:Program) (w:World)
def eQ (H:Hp) (h:Heap) (a:Addr):HO->Prop
 | .lst xs=>xs.length<=sizeLine/\∃(its:List Value) (n:Nat),Vals xs its/\h.get? a=some {cls:=.type "list",data:=.seq its.toArray n}
 | .tup xs=>xs.length<=sizeLine/\∃its:List Value,Vals xs its/\iU h a its.toArray
 | .dK kvs=>kvs.length<=sizeLine/\(a==sysModules)=false/\∃vs,KV kvs vs/\h.DictOf (bU P w) a vs
 | .dT kvs=>kvs.length<=sizeLine/\(a==sysModules)=false/\∃xs:List (List Key×Addr×Value),
   Paired (fun (p:List Key×V) (q:List Key×Addr×Value)=>p.1=q.1/\H q.2.1=some (.tup (p.1.map kV))/\RelV p.2 q.2.2) kvs xs/\
   ∃o es ep,h.get? a=some o/\o.ExactDict/\o.data=.dict es ep/\es.toList=xs.map (entryOfKey (tupleKind (bU P w)))/\(xs.map (·.1)).Nodup
 | .set S n=>h.SetOf (intKind P w) a S n
 | .ins C dx fs=>H dx=some (.own a)/\fs.length<=1000/\dx≠a/\h.get? a=some (PySem.W.instObj C dx)/\
   ∃mA,h.Ns1 dx mA/\(∀f,FJ (fs.lookup f) (mA f))/\PySem.Within mA (fs.map (·.1))
 | .own _=>∃o,h.get? a=some o
 | .xd fs=>∃mA,h.Ns1 a mA/\∀f,FJ (fs.lookup f) (mA f)
 | .rng lo hi=>∃t u v,h.get? a=some {cls:=.type "range",data:=.fields #[.int lo t,.int hi u,.int 1 v]}
 | .frz o u=>h.get? a=some o/\eQ H h a u
 | .tbl ps=>h.get? a=some {cls:=.none,data:=.fields ps}
 | .met f x=>h.get? a=some (PySem.W.methodObj (.ref f) (.ref x))
 | .ext φ=>φ h/\(∃o,h.get? a=some o)/\∀h1 h2:Heap,φ h1->(∀o,h1.get? a=some o->h2.get? a=some o)->φ h2
def HOk (H:Hp) (h:Heap):Prop:=∀a o,H a=some o->eQ P w H h a o
end
section
variable {P:Program} {w:World} {H H':Hp} {h h':Heap} {a:Addr} {o:HO}
theorem eQ.lt (x:eQ P w H h a o):a<h.objs.size:=by
 cases o with
 | lst xs=>obtain ⟨_,_,_,_,e⟩:=x;exact Heap.lt_size e
 | tup xs=>obtain ⟨_,_,_,p⟩:=x;exact p.tup.lt
 | dK kvs=>obtain ⟨_,_,_,_,o,_,_,e,_⟩:=x;exact Heap.lt_size e
 | dT kvs=>obtain ⟨_,_,_,_,o,_,_,e,_⟩:=x;exact Heap.lt_size e
 | set S n=>obtain ⟨o,_,_,_,e,_⟩:=x;exact Heap.lt_size e
 | ins C dx fs=>obtain ⟨_,_,_,e,_⟩:=x;exact Heap.lt_size e
 | own y=>obtain ⟨_,e⟩:=x;exact Heap.lt_size e
 | xd fs=>obtain ⟨_,⟨_,_,_,e,_⟩,_⟩:=x;exact Heap.lt_size e
 | rng lo hi=>obtain ⟨_,_,_,e⟩:=x;exact Heap.lt_size e
 | frz ob u=>obtain ⟨e,_⟩:=x;exact Heap.lt_size e
 | tbl ps=>exact Heap.lt_size (show h.get? a=some _ from x)
 | met f y=>exact Heap.lt_size (show h.get? a=some _ from x)
 | ext φ=>obtain ⟨_,⟨_,e⟩,_⟩:=x;exact Heap.lt_size e
theorem Paired.aJq {α β:Type} {F G:α->β->Prop}:∀{l₁:List α} {l₂:List β},Paired F l₁ l₂->(∀a b,F a b->G a b)->Paired G l₁ l₂
 | _,_,.nil,_=>.nil
 | _,_,.cons r t,f=>.cons (f _ _ r) (Paired.aJq t f)
theorem eQ.stay (x:eQ P w H h a o) (k:∀b u,(b=a\/H b=some (.own a))->h.get? b=some u->h'.get? b=some u)
  (ho:∀b,H b=some (.own a)->H' b=some (.own a)) (ht:∀b xs,H b=some (.tup xs)->H' b=some (.tup xs)):eQ P w H' h' a o:=by
 induction o with
 | lst xs=>obtain ⟨z,its,n,r,e⟩:=x;exact ⟨z,its,n,r,k _ _ (.inl rfl) e⟩
 | tup xs=>obtain ⟨z,its,r,ob,e,c⟩:=x;exact ⟨z,its,r,ob,k _ _ (.inl rfl) e,c⟩
 | dK kvs=>obtain ⟨z,y,vs,r,ob,es,ep,e,c⟩:=x;exact ⟨z,y,vs,r,ob,es,ep,k _ _ (.inl rfl) e,c⟩
 | dT kvs=>
  obtain ⟨z,y,xs,r,ob,es,ep,e,c⟩:=x;exact ⟨z,y,xs,Paired.aJq r fun p q z=>⟨z.1,ht _ _ z.2.1,z.2.2⟩,ob,es,ep,k _ _ (.inl rfl) e,c⟩
 | set S n=>obtain ⟨ob,es,ep,t,e,c⟩:=x;exact ⟨ob,es,ep,t,k _ _ (.inl rfl) e,c⟩
 | ins C dx fs=>
  obtain ⟨d,z,ne,e,mA,⟨od,es,ep,e2,c⟩,r⟩:=x;exact ⟨ho _ d,z,ne,k _ _ (.inl rfl) e,mA,⟨od,es,ep,k _ _ (.inr d) e2,c⟩,r⟩
 | own y=>obtain ⟨ob,e⟩:=x;exact ⟨ob,k _ _ (.inl rfl) e⟩
 | xd fs=>obtain ⟨mA,⟨od,es,ep,e,c⟩,r⟩:=x;exact ⟨mA,⟨od,es,ep,k _ _ (.inl rfl) e,c⟩,r⟩
 | rng lo hi=>obtain ⟨t,u,v,e⟩:=x;exact ⟨t,u,v,k _ _ (.inl rfl) e⟩
 | frz ob u ih=>obtain ⟨e,q⟩:=x;exact ⟨k _ _ (.inl rfl) e,ih q⟩
 | tbl ps=>
  have e:h.get? a=some {cls:=.none,data:=.fields ps}:=x;show h'.get? a=some {cls:=.none,data:=.fields ps};exact k a _ (.inl rfl) e
 | met f y=>
  have e:h.get? a=some (PySem.W.methodObj (.ref f) (.ref y)):=x;show h'.get? a=some (PySem.W.methodObj (.ref f) (.ref y));exact k a _ (.inl rfl) e
 | ext φ=>obtain ⟨p,⟨o,e⟩,st⟩:=x;exact ⟨st _ _ p fun o q=>k _ _ (.inl rfl) q,⟨o,k _ _ (.inl rfl) e⟩,st⟩
theorem HOk.lt (x:HOk P w H h) (e:H a=some o):a<h.objs.size:=(x a o e).lt
theorem HOk.fresh (x:HOk P w H h) (e:h.objs.size<=a):H a=none:=by
 cases q:H a with
 | none=>rfl
 | some u=>exact absurd (Nat.lt_of_lt_of_le (x.lt q) e) (Nat.lt_irrefl _)
theorem HOk.kept (x:HOk P w H h) (k:∀b u,h.get? b=some u->h'.get? b=some u):HOk P w H h':=fun a o e=>
 (x a o e).stay (fun b u _ q=>k b u q) (fun _ q=>q) fun _ _ q=>q
theorem HOk.laid (x:HOk P w H h) (k:∀b u,h.get? b=some u->h'.get? b=some u) (hp:h.objs.size<=a) (new:eQ P w (upd H a o) h' a o):HOk P w (upd H a o) h':=fun b u e=>by
 have hn:=x.fresh hp;by_cases hb:b=a
 ·subst hb;rw [aF] at e;cases e;exact new
 ·rw [aN hb] at e;exact (x b u e).stay (fun c v _ q=>k c v q) (fun c q=>by rw [aN (a_ q hn)];exact q) fun c xs q=>by rw [aN (a_ q hn)];exact q
end
def Rd (H:Hp) (a:Addr) (u:HO):Prop:=H a=some u\/∃o,H a=some (.frz o u)
theorem Rd.of {H:Hp} {a:Addr} {u:HO} (h:H a=some u):Rd H a u:=.inl h
theorem Rd.ok {P:Program} {w:World} {H:Hp} {h:Heap} {a:Addr} {u:HO} (r:Rd H a u) (x:HOk P w H h):eQ P w H h a u:=by
 rcases r with r|⟨o,r⟩
 ·exact x a u r
 ·obtain ⟨_,q⟩:=x a _ r;exact q
def Mut:Option HO->Prop
 | some (.lst _)=>True
 | some (.dK _)=>True
 | some (.dT _)=>True
 | some (.set _ _)=>True
 | some (.ins _ _ _)=>True
 | some (.ext _)=>True
 | _=>False
section
variable {P:Program} {w:World} {H:Hp} {h h':Heap} {x e:Addr} {o':HO}
theorem HOk.write (ok:HOk P w H h) (mu:Mut (H x)) (he:e=x\/H e=some (.own x)) (k:∀b u,b≠e->h.get? b=some u->h'.get? b=some u) (heo:∃u,h'.get? e=some u)
  (new:eQ P w (upd H x o') h' x o'):HOk P w (upd H x o') h':=fun b u q=>by
 have nown:∀c y,H c=some (.own y)->c≠x:=fun c y r z=>by subst z;rw [r] at mu;exact mu
 have ntup:∀c xs,H c=some (.tup xs)->c≠x:=fun c xs r z=>by subst z;rw [r] at mu;exact mu
 by_cases hb:b=x
 ·subst hb;rw [aF] at q;cases q;exact new
 ·rw [aN hb] at q;by_cases hbe:b=e
  ·have q':H b=some (.own x):=by
    rcases he with z|z
    ·exact absurd (hbe.trans z) hb
    ·rw [hbe];exact z
   rw [q] at q';cases q';obtain ⟨v,hv⟩:=heo;exact ⟨v,by rw [hbe];exact hv⟩
  ·refine (ok b u q).stay (fun c v hc r=>k c v ?_ r) (fun c r=>by rw [aN (nown c b r)];exact r) fun c xs r=>by rw [aN (ntup c xs r)];exact r
   rcases hc with rfl|hc
   ·exact hbe
   ·rintro rfl;rcases he with z|z
    ·exact nown c b hc z
    ·rw [hc] at z;cases z;exact hb rfl
end
structure Un (fs ex:List Addr) (H H':Hp) (h h':Heap):Prop where
 keep:∀b o,h.get? b=some o->H b=none->b∉fs->b∉ex->h'.get? b=some o
 slot:∀b o,h.get? b=some o->H b=none->b∈fs->b∉ex->∃sl,h'.get? b=some {o with slots:=sl}
 free:∀b o,h.get? b=some o->H b=none->b∉ex->H' b=none
 there:∀b o,h.get? b=some o->b∉ex->∃o',h'.get? b=some o'
 tups:∀b xs,H b=some (.tup xs)->H' b=some (.tup xs)
 frzs:∀b o u,H b=some (.frz o u)->H' b=some (.frz o u)
 tbls:∀b ps,H b=some (.tbl ps)->∃more,H' b=some (.tbl (ps++more))
section
variable {fs ex:List Addr} {H H1:Hp} {h h1 h':Heap} {a x e:Addr} {o:HO}
theorem Un.any (u:Un fs ex H H1 h h1) {b:Addr} {ob:Obj} (q:h.get? b=some ob) (n:H b=none) (hx:b∉ex):∃sl,h1.get? b=some {ob with slots:=sl}:=by
 by_cases hb:b∈fs
 ·exact u.slot b ob q n hb hx
 ·exact ⟨ob.slots,u.keep b ob q n hb hx⟩
theorem Un.kept (k:∀b u,h.get? b=some u->h'.get? b=some u):Un fs ex H H h h':=
 ⟨fun b ob q _ _ _=>k b ob q,fun b ob q _ _ _=>⟨ob.slots,k b ob q⟩,fun _ _ _ n _=>n,fun b ob q _=>⟨ob,k b ob q⟩,fun _ _ q=>q,fun _ _ _ q=>q,fun _ ps q=>⟨#[],by rw [q];simp⟩⟩
theorem Un.refl:Un fs ex H H h h:=Un.kept fun _ _ q=>q
theorem Un.laid (k:∀b u,h.get? b=some u->h'.get? b=some u) (hp:h.objs.size<=a) (hn:H a=none):Un fs ex H (upd H a o) h h' where
 keep:=fun b u q _ _ _=>k b u q
 slot:=fun b u q _ _ _=>⟨u.slots,k b u q⟩
 free:=fun b u q n _=>by rw [aN (Nat.ne_of_lt (Nat.lt_of_lt_of_le (Heap.lt_size q) hp))];exact n
 there:=fun b u q _=>⟨u,k b u q⟩
 tups:=fun b xs q=>by rw [aN (a_ q hn)];exact q
 frzs:=fun b u xs q=>by rw [aN (a_ q hn)];exact q
 tbls:=fun b ps q=>⟨#[],by rw [aN (a_ q hn),q];simp⟩
theorem Un.write (mu:Mut (H x)) (he:e=x\/H e=some (.own x)) (k:∀b u,b≠e->h.get? b=some u->h'.get? b=some u) (heo:∃u,h'.get? e=some u):Un fs ex H (upd H x o) h h':=by
 have hx:∀b,H b=none->b≠x:=fun b n z=>by subst z;rw [n] at mu;exact mu
 have hb:∀b,H b=none->b≠e:=fun b n z=>by
  subst z;rcases he with r|r
  ·exact hx b n r
  ·rw [n] at r;cases r
 have hm:∀b u,H b=some u->¬Mut (some u)->b≠x:=fun b u q nm z=>by subst z;rw [q] at mu;exact nm mu
 refine ⟨fun b u q n _ _=>k b u (hb b n) q,fun b u q n _ _=>⟨u.slots,k b u (hb b n) q⟩,fun b u q n _=>by rw [aN (hx b n)];exact n,fun b u q _=>?_,
  fun b xs q=>by rw [aN (hm b _ q fun z=>z)];exact q,fun b u xs q=>by rw [aN (hm b _ q fun z=>z)];exact q,fun b ps q=>⟨#[],by rw [aN (hm b _ q fun z=>z),q];simp⟩⟩
 by_cases hbe:b=e
 ·subst hbe;exact heo
 ·exact ⟨u,k b u hbe q⟩
end
noncomputable def trk (h:Heap) (H:Hp):List Addr:=(List.range h.objs.size).filter fun a=>(H a).isSome
def Y9 (h:Heap) (H:Hp):Heap:=PySem.W.hideAll h (trk h H)
theorem RP (h:Heap) (H:Hp):(Y9 h H).objs.size=h.objs.size:=PySem.W.hideAll_size _ _
theorem Y_ {h:Heap} {H:Hp} {b:Addr} {o:Obj} (e:h.get? b=some o) (n:H b=none):(Y9 h H).get? b=some o:=
 PySem.W.hideAll_get _ e fun hm=>by
  have q:(H b).isSome=true:=(List.mem_filter.mp hm).2;rw [n] at q;simp at q
theorem aCr {h:Heap} {H:Hp} {b:Addr} {o:Obj} (e:(Y9 h H).get? b=some o):h.get? b=some o/\H b=none:=by
 have e':h.get? b=some o:=PySem.W.of_hideAll (trk h H) e;refine ⟨e',?_⟩;cases q:H b with
 | none=>rfl
 | some x=>
  have hm:b∈trk h H:=List.mem_filter.mpr ⟨List.mem_range.mpr (Heap.lt_size e'),by simp [q]⟩;have z:(Y9 h H).get? b=none:=PySem.W.hideAll_none (trk h H) hm;rw [z] at e;cases e
structure Mod (K:PySem.W.Frag) (mg:Str->Option Value) (base:Heap):Prop where
 kin:K.In base
 glob:base.Ns mainGlobals mg
 blt:∃mb,base.Ns builtinsNs mb/\∀x:Str,x ≠ "__name__"->mb x=bootBuiltins x
 nolimit:base.NoLimit
/-- the context: a def's body (or a comprehension's block) running. base: fixed through the whole law; s₀, H₀: the entry; outer: the frames whose slots others may change (a def's callers); stack: all frames that run;
   ex: iterators that were made ahead of the entry and are walked here (a comprehension's); fn: the names whose cells were made at the entry (a def: all; a comprehension's block: its own); calm: not within an except suite; pn: pins that every state bears; xe: what is wanted of an exception that leaves the code -/
structure Cx where
 prog:Program
 w:World
 K:PySem.W.Frag
 mg:Str->Option Value
 base:Heap
 A:Around
 N:List Str
 s₀:Shared
 H₀:Hp
 env:Env
 outer:List Env
 stack:List Env
 ex:List Addr
 fn:Str->Bool
 calm:Bool
 pn:List (Addr×Obj)
 xe:Value->Shared->Prop
noncomputable def frs (l:List Env):List Addr:=l.filterMap (·.frame)
abbrev Cx.fs (X:Cx):List Addr:=frs X.outer
def Vis (sc:Scope) (x:Str):Prop:=sc.names.lookup x=some .local\/sc.names.lookup x=some .cell\/sc.names.lookup x=some .free
def Loc (sc:Scope) (x:Str):Prop:=sc.names.lookup x=some .local\/sc.names.lookup x=some .cell
def Look (env:Env) (h:Heap) (m:Str->Option Value) (x:Str) (u:Value):Prop:=
 (env.kindOf x=some .local/\m x=some u)\/((env.kindOf x=some .cell\/env.kindOf x=some .free)/\∃c,env.cells.lookup x=some c/\h.IsCell c (some u))
structure Cx.Ok (X:Cx):Prop where
 mod:Mod X.K X.mg X.base
 kind:X.env.scope.kind=.function
 glob:X.env.globals=mainGlobals
 blt:X.env.builtins=builtinsNs
 above:X.s₀.heap.objs.size<=X.env.locals
 inj:∀x y c,X.env.cells.lookup x=some c->X.env.cells.lookup y=some c->x=y
 has:∀x,(X.env.kindOf x=some .cell\/X.env.kindOf x=some .free)->∃c,X.env.cells.lookup x=some c
 cab:∀x c,X.fn x=true->X.env.cells.lookup x=some c->X.s₀.heap.objs.size<=c
 hd:X.calm=true->X.A.handled=none
 frames:X.A.frames=some X.stack
 stk:X.stack=X.outer\/(X.stack=X.env::X.outer/\X.env.frame=some X.env.locals)
 exf:∀b∈X.ex,b≠X.env.locals/\∀x c,X.env.cells.lookup x=some c->c≠b
 bs:∀b o,X.base.get? b=some o->X.s₀.heap.get? b=some o/\X.H₀ b=none
 bsz:X.base.objs.size<=X.s₀.heap.objs.size
 noex:∀b o,X.base.get? b=some o->b∉X.ex
 exfs:∀b∈X.ex,b∉X.fs
 NZ:X.s₀.heap.FunFrames X.base X.outer
 frf:∀b∈X.fs,X.H₀ b=none
structure Inv (X:Cx) (pins:List (Addr×Obj)) (σ:List (Option V)) (H:Hp) (s:Shared):Prop where
 ok:X.Ok
 os:s.os=X.s₀.os
 bare:AllBare s.gens
 base:Un X.fs X.ex X.H₀ H X.s₀.heap s.heap
 loc:∃m,s.heap.Ns X.env.locals m/\∀(i:Nat) (x:Str) (v:V),X.N[i]?=some x->σ[i]?=some (some v)->Vis X.env.scope x->∃u,RelV v u/\Look X.env s.heap m x u
 cell:∀x c,X.env.cells.lookup x=some c->∃v,s.heap.IsCell c v
 free:H X.env.locals=none
 freeC:∀x c,X.env.cells.lookup x=some c->H c=none
 pin:∀p∈X.pn++pins,s.heap.get? p.1=some p.2/\H p.1=none/\p.1≠X.env.locals/\p.1∉X.fs/\∀v,p.2.data≠.cell v
 hok:HOk X.prog X.w H s.heap
 len:σ.length=X.N.length
section
variable {X:Cx} {pins:List (Addr×Obj)} {σ:List (Option V)} {H H':Hp} {s:Shared} {h':Heap}
theorem Cx.Ok.aMq (ok:X.Ok) {b:Addr} {o:Obj} (e:X.base.get? b=some o):b∉X.fs:=fun hb=>by
 have:=(ok.NZ.mem hb).1;rw [e] at this;cases this
theorem Inv.bs (I:Inv X pins σ H s):∀b o,X.base.get? b=some o->s.heap.get? b=some o/\H b=none:=fun b o e=>
 ⟨I.base.keep b o (I.ok.bs b o e).1 (I.ok.bs b o e).2 (I.ok.aMq e) (I.ok.noex b o e),I.base.free b o (I.ok.bs b o e).1 (I.ok.bs b o e).2 (I.ok.noex b o e)⟩
theorem Inv.bk (I:Inv X pins σ H s):∀b o,X.base.get? b=some o->s.heap.get? b=some o:=fun b o e=>(I.bs b o e).1
theorem Inv.mod (I:Inv X pins σ H s):Mod X.K X.mg X.base:=I.ok.mod
theorem Inv.kIn (I:Inv X pins σ H s):X.K.In s.heap:=I.ok.mod.kin.keeps I.bk
theorem Inv.lt (I:Inv X pins σ H s):X.env.locals<s.heap.objs.size:=let ⟨_,hn,_⟩:=I.loc;hn.lt
theorem Inv.sz (I:Inv X pins σ H s):X.s₀.heap.objs.size<=s.heap.objs.size:=Nat.le_trans I.ok.above (Nat.le_of_lt I.lt)
theorem Inv.aM0 (I:Inv X pins σ H s) {a:Addr} (h:s.heap.objs.size<=a):a∉X.fs:=fun hb=>by
 obtain ⟨_,o,ho,_⟩:=I.ok.NZ.mem hb;exact absurd (Nat.lt_of_lt_of_le (Heap.lt_size ho) (Nat.le_trans I.sz h)) (Nat.lt_irrefl _)
theorem Inv.cne (I:Inv X pins σ H s):∀x c,X.env.cells.lookup x=some c->c≠X.env.locals:=fun x c e z=>by
 obtain ⟨v,o,ho,hd⟩:=I.cell x c e;obtain ⟨m,⟨o',es,ep,ho',hd',_⟩,_⟩:=I.loc;rw [z,ho'] at ho;cases ho;rw [hd'] at hd;cases hd
theorem Inv.NZ (I:Inv X pins σ H s):s.heap.FunFrames X.base X.outer:=by
 have all:∀(l:List Env),(∀b∈frs l,b∈X.fs)->X.s₀.heap.FunFrames X.base l->s.heap.FunFrames X.base l:=by
  intro l;induction l with
  | nil=>intro _ _;trivial
  | cons env r ih=>
   intro hs hl;obtain ⟨hk,⟨L,o,hf,hn,ho,hd⟩,hr⟩:=hl;have hL:L∈X.fs:=hs L (by unfold frs;rw [List.filterMap_cons,hf];exact List.mem_cons_self);obtain ⟨sl,e⟩:=I.base.slot L o ho (I.ok.frf L hL) hL fun z=>I.ok.exfs L z hL
   exact ⟨hk,⟨L,_,hf,hn,e,hd⟩,ih (fun b hb=>hs b (by unfold frs;rw [List.filterMap_cons,hf];exact List.mem_cons_of_mem _ hb)) hr⟩
 exact all X.outer (fun _ hb=>hb) I.ok.NZ
theorem Inv.stack (I:Inv X pins σ H s):s.heap.FunFrames X.base X.stack:=by
 rcases I.ok.stk with e|⟨e,hf⟩
 ·rw [e];exact I.NZ
 ·rw [e];obtain ⟨m,hn,_⟩:=I.loc;refine .cons (by rw [I.ok.kind];decide) hf hn ?_ I.NZ;exact Heap.get?_none_of_le (Nat.le_trans I.ok.bsz I.ok.above)
theorem Inv.JN (I:Inv X pins σ H s):∀b∈frs X.stack,b∈X.env.locals::X.fs:=fun b hb=>by
 rcases I.ok.stk with e|⟨e,hf⟩
 ·rw [e] at hb;exact List.mem_cons_of_mem _ hb
 ·rw [e] at hb;unfold frs at hb;rw [List.filterMap_cons,hf] at hb;exact hb
theorem Inv.GC (I:Inv X pins σ H s):∀b∈frs X.stack,H b=none:=fun b hb=>by
 rcases List.mem_cons.mp (I.JN b hb) with e|hb
 ·rw [e];exact I.free
 ·obtain ⟨_,o,ho,_⟩:=I.ok.NZ.mem hb;exact I.base.free b o ho (I.ok.frf b hb) fun z=>I.ok.exfs b z hb
theorem Inv.step {g':Array GenState} {t':Nat} {d':Drawn} {ch:List Addr} (I:Inv X pins σ H s)
  (hch:∀b∈ch,(b∈X.ex\/X.s₀.heap.objs.size<=b)/\b≠X.env.locals/\(∀x c,X.env.cells.lookup x=some c->c≠b)/\∀p∈X.pn++pins,p.1≠b)
  (keep:∀b o,b≠X.env.locals->b∉X.fs->b∉ch->s.heap.get? b=some o->H b=none->h'.get? b=some o)
  (slot:∀b o,b≠X.env.locals->b∈X.fs->b∉ch->s.heap.get? b=some o->H b=none->∃sl,h'.get? b=some {o with slots:=sl}) (free:∀b o,b∉ch->s.heap.get? b=some o->H b=none->H' b=none)
  (there:∀b o,b∉ch->s.heap.get? b=some o->∃o',h'.get? b=some o')
  (tups:∀b xs,H b=some (.tup xs)->H' b=some (.tup xs)) (frzs:∀b o u,H b=some (.frz o u)->H' b=some (.frz o u)) (tbls:∀b ps,H b=some (.tbl ps)->∃more,H' b=some (.tbl (ps++more)))
  (ns:∀m,s.heap.Ns X.env.locals m->h'.Ns X.env.locals m) (hok:HOk X.prog X.w H' h') (hg:AllBare g') :
  Inv X pins σ H' {s with heap:=h',gens:=g',drawn:=d',toks:=t'}:=by
 have neL:∀b o,X.s₀.heap.get? b=some o->b≠X.env.locals:=fun b o e=>Nat.ne_of_lt (Nat.lt_of_lt_of_le (Heap.lt_size e) I.ok.above)
 have neC:∀b o,X.s₀.heap.get? b=some o->b∉X.ex->b∉ch:=fun b o e hx hb=>by
  rcases (hch b hb).1 with z|z
  ·exact hx z
  ·exact absurd (Nat.lt_of_lt_of_le (Heap.lt_size e) z) (Nat.lt_irrefl _)
 have cellK:∀x c,X.env.cells.lookup x=some c->∀v,s.heap.IsCell c v->h'.IsCell c v:=fun x c e v ⟨o,ho,hd⟩=>by
  have nch:c∉ch:=fun z=>(hch c z).2.2.1 x c e rfl
  by_cases hc:c∈X.fs
  ·obtain ⟨sl,q⟩:=slot c o (I.cne x c e) hc nch ho (I.freeC x c e);exact ⟨_,q,hd⟩
  ·exact ⟨o,keep c o (I.cne x c e) hc nch ho (I.freeC x c e),hd⟩
 refine ⟨I.ok,I.os,hg,⟨fun b o e n hb hx=>?_,fun b o e n hb hx=>?_,fun b o e n hx=>?_,fun b o e hx=>?_,fun b xs e=>tups b xs (I.base.tups b xs e),fun b o xs e=>frzs b o xs (I.base.frzs b o xs e),fun b ps e=>?_⟩,?_,fun x c e=>?_,?_,fun x c e=>?_,fun p hp=>?_,hok,I.len⟩
 ·exact keep b o (neL b o e) hb (neC b o e hx) (I.base.keep b o e n hb hx) (I.base.free b o e n hx)
 ·obtain ⟨sl,e1⟩:=I.base.slot b o e n hb hx;obtain ⟨sl',e2⟩:=slot b _ (neL b o e) hb (neC b o e hx) e1 (I.base.free b o e n hx);exact ⟨sl',e2⟩
 ·obtain ⟨o',e1⟩:=I.base.there b o e hx;exact free b o' (neC b o e hx) e1 (I.base.free b o e n hx)
 ·obtain ⟨o',e1⟩:=I.base.there b o e hx;exact there b o' (neC b o e hx) e1
 ·obtain ⟨m1,e1⟩:=I.base.tbls b ps e;obtain ⟨m2,e2⟩:=tbls b _ e1;exact ⟨m1++m2,by rw [e2,Array.append_assoc]⟩
 ·obtain ⟨m,hn,hl⟩:=I.loc;refine ⟨m,ns m hn,fun i x v e1 e2 e3=>?_⟩;obtain ⟨u,r,l⟩:=hl i x v e1 e2 e3;refine ⟨u,r,?_⟩;rcases l with l|⟨k,c,e,z⟩
  ·exact .inl l
  ·exact .inr ⟨k,c,e,cellK x c e _ z⟩
 ·obtain ⟨v,z⟩:=I.cell x c e;exact ⟨v,cellK x c e v z⟩
 ·obtain ⟨m,⟨o,_,_,ho,_⟩,_⟩:=I.loc;exact free _ o (fun z=>(hch _ z).2.1 rfl) ho I.free
 ·obtain ⟨v,o,ho,hd⟩:=I.cell x c e;exact free c o (fun z=>(hch c z).2.2.1 x c e rfl) ho (I.freeC x c e)
 ·obtain ⟨e,n,ne,nf,d⟩:=I.pin p hp;have nch:p.1∉ch:=fun z=>(hch p.1 z).2.2.2 p hp rfl
  exact ⟨keep p.1 p.2 ne nf nch e n,free p.1 p.2 nch e n,ne,nf,d⟩
theorem Inv.un {t':Nat} (I:Inv X pins σ H s) (u:Un X.fs [] H H' s.heap h') (hok:HOk X.prog X.w H' h'):Inv X pins σ H' {s with heap:=h',toks:=t'}:=by
 obtain ⟨m,⟨o,es,ep,ho,r⟩,_⟩:=id I.loc;obtain ⟨sl,hL⟩:=u.any ho I.free (by simp);exact I.step (g':=s.gens) (d':=s.drawn) (ch:=[]) (fun _ z=>nomatch z) (fun b o _ hb _ e n=>u.keep b o e n hb (by simp)) (fun b o _ hb _ e n=>u.slot b o e n hb (by simp)) (fun b o _ e n=>u.free b o e n (by simp)) (fun b o _ e=>u.there b o e (by simp)) u.tups u.frzs u.tbls (fun m' hm=>by
  obtain ⟨o',es',ep',ho',r'⟩:=hm;rw [ho] at ho';cases ho';exact ⟨_,es',ep',hL,r'⟩) hok I.bare
theorem Inv.call {g':Array GenState} {t':Nat} {d':Drawn} {ch:List Addr} (I:Inv X pins σ H s) (u:Un (frs X.stack) ch H H' s.heap h') (hok:HOk X.prog X.w H' h') (hg:AllBare g')
  (hch:∀b∈ch,(b∈X.ex\/X.s₀.heap.objs.size<=b)/\b≠X.env.locals/\(∀x c,X.env.cells.lookup x=some c->c≠b)/\∀p∈X.pn++pins,p.1≠b) :
  Inv X pins σ H' {s with heap:=h',gens:=g',drawn:=d',toks:=t'}:=by
 obtain ⟨m,⟨o,es,ep,ho,r⟩,_⟩:=id I.loc;obtain ⟨sl,hL⟩:=u.any ho I.free fun z=>(hch _ z).2.1 rfl
 exact I.step (ch:=ch) hch (fun b o hL hb hc e n=>u.keep b o e n (fun z=>(List.mem_cons.mp (I.JN b z)).elim hL hb) hc) (fun b o _ _ hc e n=>u.any e n hc) (fun b o hc e n=>u.free b o e n hc) (fun b o hc e=>u.there b o e hc) u.tups u.frzs u.tbls (fun m' hm=>by
  obtain ⟨o',es',ep',ho',r'⟩:=hm;rw [ho] at ho';cases ho';exact ⟨_,es',ep',hL,r'⟩) hok hg
theorem Inv.turned {t':Nat} {it:Addr} (I:Inv X pins σ H s) (k:∀b o,b≠it->s.heap.get? b=some o->h'.get? b=some o) (hn:H it=none) (hL:it≠X.env.locals)
  (h1:it∈X.ex\/X.s₀.heap.objs.size<=it) (h2:∀x c,X.env.cells.lookup x=some c->c≠it) (h3:∀p∈X.pn++pins,p.1≠it):Inv X pins σ H {s with heap:=h',toks:=t'}:=by
 have nit:∀b u,H b=some u->b≠it:=fun b u e z=>by rw [z,hn] at e;cases e
 refine I.step (g':=s.gens) (d':=s.drawn) (ch:=[it]) (fun b hb=>?_) (fun b o _ _ hc e _=>k b o (fun z=>hc (by simp [z])) e) (fun b o _ _ hc e _=>⟨o.slots,k b o (fun z=>hc (by simp [z])) e⟩) (fun _ _ _ _ n=>n)
  (fun b o hc e=>⟨o,k b o (fun z=>hc (by simp [z])) e⟩) (fun _ _ e=>e) (fun _ _ _ e=>e) (fun b ps e=>⟨#[],by rw [e];simp⟩) (fun m hm=>?_) (fun b u e=>?_) I.bare
 ·have e:b=it:=by simpa using hb
  subst e;exact ⟨h1,hL,h2,h3⟩
 ·obtain ⟨o,es,ep,ho,r⟩:=hm;exact ⟨o,es,ep,k _ o (Ne.symm hL) ho,r⟩
 ·refine (I.hok b u e).stay (fun c v hc q=>k c v ?_ q) (fun _ q=>q) fun _ _ q=>q
  rcases hc with z|z
  ·rw [z];exact nit b u e
  ·exact nit c _ z
theorem Inv.tok (I:Inv X pins σ H s) (t:Nat):Inv X pins σ H {s with toks:=t}:=I.un (h':=s.heap) (t':=t) Un.refl I.hok
theorem Inv.kept {t':Nat} (I:Inv X pins σ H s) (k:∀b u,s.heap.get? b=some u->h'.get? b=some u):Inv X pins σ H {s with heap:=h',toks:=t'}:=I.un (Un.kept k) (I.hok.kept k)
theorem Inv.laid {a:Addr} {o:HO} {t':Nat} (I:Inv X pins σ H s) (k:∀b u,s.heap.get? b=some u->h'.get? b=some u) (hp:s.heap.objs.size<=a) (new:eQ X.prog X.w (upd H a o) h' a o) :
  Inv X pins σ (upd H a o) {s with heap:=h',toks:=t'}:=I.un (Un.laid k hp (I.hok.fresh hp)) (I.hok.laid k hp new)
theorem Inv.write {x e:Addr} {o:HO} {t':Nat} (I:Inv X pins σ H s) (mu:Mut (H x)) (he:e=x\/H e=some (.own x)) (k:∀b u,b≠e->s.heap.get? b=some u->h'.get? b=some u) (heo:∃u,h'.get? e=some u)
  (new:eQ X.prog X.w (upd H x o) h' x o):Inv X pins σ (upd H x o) {s with heap:=h',toks:=t'}:=I.un (Un.write mu he k heo) (I.hok.write mu he k heo new)
theorem Inv.weak {σ':List (Option V)} (I:Inv X pins σ H s) (hl:σ'.length=σ.length) (w:∀(i:Nat) v,σ'[i]?=some (some v)->σ[i]?=some (some v)):Inv X pins σ' H s:=
 ⟨I.ok,I.os,I.bare,I.base,let ⟨m,hn,hl'⟩:=I.loc;⟨m,hn,fun i x v e1 e2 e3=>hl' i x v e1 (w i v e2) e3⟩,I.cell,I.free,I.freeC,I.pin,I.hok,hl.trans I.len⟩
theorem Inv.GD {pins':List (Addr×Obj)} (I:Inv X pins σ H s) (h:∀p∈pins',s.heap.get? p.1=some p.2/\H p.1=none/\p.1≠X.env.locals/\p.1∉X.fs/\∀v,p.2.data≠.cell v):Inv X pins' σ H s:=
 ⟨I.ok,I.os,I.bare,I.base,I.loc,I.cell,I.free,I.freeC,fun p hp=>(List.mem_append.mp hp).elim (fun z=>I.pin p (List.mem_append_left _ z)) (h p),I.hok,I.len⟩
theorem wZ {N:List Str} (hN:N.Nodup) {i j:Nat} {x:Str} (a:N[i]?=some x) (b:N[j]?=some x):i=j:=by
 obtain ⟨h1,e1⟩:=List.getElem?_eq_some_iff.mp a;obtain ⟨h2,e2⟩:=List.getElem?_eq_some_iff.mp b;exact (List.getElem_inj hN).mp (e1.trans e2.symm)
theorem zJ {M:Model} {A:Around} {E:Value->Shared->Prop} {i:Nat} {x:Str} {v:V} {u:Value} {Q:Unit->Shared->Prop} (I:Inv X pins σ H s) (hN:X.N.Nodup) (hi:X.N[i]?=some x) (hx:Loc X.env.scope x) (r:RelV v u)
  (h:∀s',Inv X pins (σ.set i (some v)) H s'->(∃a,Heap.SameBut a s.heap s'.heap/\(a=X.env.locals\/X.env.cells.lookup x=some a))->Q () s') (hf:X.fn x=true\/X.env.scope.names.lookup x=some .local:=by first|exact .inl rfl|exact .inr rfl|assumption):wpAny M A (storeName X.env x u) Q E s:=by
 obtain ⟨m,hn,hl⟩:=id I.loc;have hcls:(X.env.scope.kind==.class||(X.env.scope.kind==.module&&X.env.locals != X.env.globals))=false:=by rw [I.ok.kind];rfl
 have hiσ:i<σ.length:=by rw [I.len];exact (List.getElem?_eq_some_iff.mp hi).1
 have cne:=I.cne;have tracked:∀{a:Addr} {h':Heap},(∃o,s.heap.get? a=some o/\H a=none)->Heap.SameBut a s.heap h'->HOk X.prog X.w H h':=fun {a h'} ha hs b ob e=>by
  obtain ⟨_,_,hfree⟩:=ha;refine (I.hok b ob e).stay (fun c w' hc q=>(hs.2 c ?_).trans q) (fun _ q=>q) fun _ _ q=>q
  rintro rfl;rcases hc with rfl|hc
  ·rw [hfree] at e;cases e
  ·rw [hfree] at hc;cases hc
 rcases hx with hk|hk
 ·refine wpAny_storeName_local hk hn (fun h' hn' hs=>?_) hcls;obtain ⟨oL,_,_,hoL,_⟩:=id hn;refine h _ ⟨I.ok,I.os,I.bare,⟨fun b o e n hb hx=>?_,fun b o e n hb hx=>?_,I.base.free,fun b o e hx=>?_,I.base.tups,I.base.frzs,I.base.tbls⟩,⟨_,hn',fun j y v' e1 e2 e3=>?_⟩,fun y c e=>?_,I.free,I.freeC,fun p hp=>?_,tracked ⟨oL,hoL,I.free⟩ hs,by simpa using I.len⟩ ⟨_,hs,.inl rfl⟩
  ·exact (hs.2 b (Nat.ne_of_lt (Nat.lt_of_lt_of_le (Heap.lt_size e) I.ok.above))).trans (I.base.keep b o e n hb hx)
  ·obtain ⟨sl,e1⟩:=I.base.slot b o e n hb hx;exact ⟨sl,(hs.2 b (Nat.ne_of_lt (Nat.lt_of_lt_of_le (Heap.lt_size e) I.ok.above))).trans e1⟩
  ·obtain ⟨o',e1⟩:=I.base.there b o e hx;exact ⟨o',(hs.2 b (Nat.ne_of_lt (Nat.lt_of_lt_of_le (Heap.lt_size e) I.ok.above))).trans e1⟩
  ·by_cases hj:j=i
   ·subst hj;rw [hi] at e1;cases e1;rw [List.getElem?_set_self hiσ] at e2;cases e2;exact ⟨u,r,.inl ⟨hk,by simp⟩⟩
   ·rw [List.getElem?_set_ne (Ne.symm hj)] at e2;obtain ⟨u',r',q⟩:=hl j y v' e1 e2 e3;refine ⟨u',r',?_⟩;rcases q with ⟨k,e⟩|⟨k,c,e,z⟩
    ·refine .inl ⟨k,?_⟩;have:y≠x:=fun e=>hj (wZ hN e1 (e▸hi))
     simp [this,e]
    ·exact .inr ⟨k,c,e,z.sameBut hs (cne y c e)⟩
  ·obtain ⟨w',z⟩:=I.cell y c e;exact ⟨w',z.sameBut hs (cne y c e)⟩
  ·obtain ⟨e,n,ne,nf,d⟩:=I.pin p hp;exact ⟨(hs.2 p.1 ne).trans e,n,ne,nf,d⟩
 ·have hfn:X.fn x=true:=by
   rcases hf with z|z
   ·exact z
   ·rw [z] at hk;cases hk
  obtain ⟨c,hc⟩:=I.ok.has x (.inl hk);obtain ⟨w',z⟩:=I.cell x c hc;refine wpAny_storeName_cell I.ok.kind hk hc z (fun h' hc' hs=>?_);obtain ⟨oc,hoc,hocd⟩:=id z;refine h {s with heap:=h'} ⟨I.ok,I.os,I.bare,⟨fun b o e n hb hx=>?_,fun b o e n hb hx=>?_,I.base.free,fun b o e hx=>?_,I.base.tups,I.base.frzs,I.base.tbls⟩,⟨m,hn.sameBut hs (Ne.symm (cne x c hc)),fun j y v' e1 e2 e3=>?_⟩,fun y c' e=>?_,I.free,I.freeC,fun p hp=>?_,tracked ⟨oc,hoc,I.freeC x c hc⟩ hs,by simpa using I.len⟩ ⟨c,hs,.inr hc⟩
  ·exact (hs.2 b (Nat.ne_of_lt (Nat.lt_of_lt_of_le (Heap.lt_size e) (I.ok.cab x c hfn hc)))).trans (I.base.keep b o e n hb hx)
  ·obtain ⟨sl,e1⟩:=I.base.slot b o e n hb hx;exact ⟨sl,(hs.2 b (Nat.ne_of_lt (Nat.lt_of_lt_of_le (Heap.lt_size e) (I.ok.cab x c hfn hc)))).trans e1⟩
  ·obtain ⟨o',e1⟩:=I.base.there b o e hx;exact ⟨o',(hs.2 b (Nat.ne_of_lt (Nat.lt_of_lt_of_le (Heap.lt_size e) (I.ok.cab x c hfn hc)))).trans e1⟩
  ·by_cases hj:j=i
   ·subst hj;rw [hi] at e1;cases e1;rw [List.getElem?_set_self hiσ] at e2;cases e2;exact ⟨u,r,.inr ⟨.inl hk,c,hc,hc'⟩⟩
   ·rw [List.getElem?_set_ne (Ne.symm hj)] at e2;obtain ⟨u',r',q⟩:=hl j y v' e1 e2 e3;refine ⟨u',r',?_⟩;rcases q with q|⟨k,c',e,z'⟩
    ·exact .inl q
    ·refine .inr ⟨k,c',e,z'.sameBut hs ?_⟩;rintro rfl;exact hj (wZ hN e1 (I.ok.inj _ _ _ e hc▸hi))
  ·by_cases hcc:c'=c
   ·subst hcc;exact ⟨_,hc'⟩
   ·obtain ⟨w2,z2⟩:=I.cell y c' e;exact ⟨w2,z2.sameBut hs hcc⟩
  ·obtain ⟨e,n,ne,nf,d⟩:=I.pin p hp;refine ⟨(hs.2 p.1 ?_).trans e,n,ne,nf,d⟩;intro q;rw [q,hoc] at e;have q':oc=p.2:=Option.some.inj e;exact d w' (by rw [<-q'];exact hocd)
theorem xF {M:Model} {A:Around} {E:Value->Shared->Prop} {i:Nat} {x:Str} {v:V} {u:Value} {Q:Unit->Shared->Prop} (I:Inv X pins σ H s) (hN:X.N.Nodup) (hi:X.N[i]?=some x) (hx:Loc X.env.scope x) (r:RelV v u)
  (h:∀s',Inv X pins (σ.set i (some v)) H s'->Q () s') (hf:X.fn x=true\/X.env.scope.names.lookup x=some .local:=by first|exact .inl rfl|exact .inr rfl|assumption):wpAny M A (storeName X.env x u) Q E s:=
 zJ I hN hi hx r (fun s' I' _=>h s' I') hf
theorem Inv.call' {s':Shared} {ch:List Addr} (I:Inv X pins σ H s) (ho:s'.os=s.os) (u:Un (frs X.stack) ch H H' s.heap s'.heap) (hok:HOk X.prog X.w H' s'.heap) (hg:AllBare s'.gens)
  (hch:∀b∈ch,(b∈X.ex\/X.s₀.heap.objs.size<=b)/\b≠X.env.locals/\(∀x c,X.env.cells.lookup x=some c->c≠b)/\∀p∈X.pn++pins,p.1≠b):Inv X pins σ H' s':=by
 obtain ⟨h',g',d',t',o'⟩:=s';have e:o'=s.os:=ho;subst e;exact I.call (g':=g') (t':=t') (d':=d') u hok hg hch
end
abbrev XK:=Value->Option Addr->Hp->Prop
noncomputable abbrev St:=List (Option V)
abbrev VK:=V->Hp->Prop
abbrev TE:=St->Hp->VK->Prop
abbrev TT:=St->Hp->(Bool->Hp->Prop)->Prop
abbrev TA:=St->Hp->(List V->Hp->Prop)->Prop
structure Ends where
 nx:St->Hp->Prop
 rt:VK
 bk:St->Hp->Prop:=fun _ _=>False
 ct:St->Hp->Prop:=fun _ _=>False
abbrev TS:=Ends->St->Hp->Prop
def EP (X:Cx) (pins:List (Addr×Obj)) (σ:St) (Q:VK) (u:Value) (s':Shared):Prop:=∃v H',Inv X pins σ H' s'/\RelV v u/\Q v H'
def TP (X:Cx) (pins:List (Addr×Obj)) (σ:St) (Q:Bool->Hp->Prop) (b:Bool) (s':Shared):Prop:=∃H',Inv X pins σ H' s'/\Q b H'
def AP (X:Cx) (pins:List (Addr×Obj)) (σ:St) (Q:List V->Hp->Prop) (us:List Value) (s':Shared):Prop:=∃vs H',Inv X pins σ H' s'/\Vals vs us/\Q vs H'
def SP (X:Cx) (pins:List (Addr×Obj)) (D:Ends) (f:Flow) (s':Shared):Prop:=
 match f with
 | .next=>∃σ' H',Inv X pins σ' H' s'/\D.nx σ' H'
 | .brk=>∃σ' H',Inv X pins σ' H' s'/\D.bk σ' H'
 | .cont=>∃σ' H',Inv X pins σ' H' s'/\D.ct σ' H'
 | .ret u=>∃v σ' H',Inv X pins σ' H' s'/\RelV v u/\D.rt v H'
def PE (X:Cx) (e:Expr) (t:TE):Prop:=
 ∀(pins:List (Addr×Obj)) (s:Shared) (σ:St) (H:Hp) (Q:VK),Inv X pins σ H s->t σ H Q->wpAny (model X.prog X.w) X.A (eval e X.env) (EP X pins σ Q) X.xe s
def PT (X:Cx) (e:Expr) (t:TT):Prop:=
 ∀(pins:List (Addr×Obj)) (s:Shared) (σ:St) (H:Hp) (Q:Bool->Hp->Prop),Inv X pins σ H s->t σ H Q->wpAny (model X.prog X.w) X.A (isTrue e X.env (eval e X.env)) (TP X pins σ Q) X.xe s
def PW (X:Cx) (e:Expr) (t:TT):Prop:=
 ∀(whole:Sem Value) (pins:List (Addr×Obj)) (s:Shared) (σ:St) (H:Hp) (Q:Bool->Hp->Prop),Inv X pins σ H s->t σ H Q->wpAny (model X.prog X.w) X.A (isTrue e X.env whole) (TP X pins σ Q) X.xe s
theorem PW.pt {X:Cx} {e:Expr} {t:TT} (h:PW X e t):PT X e t:=h _
def PA (X:Cx) (es:List Expr) (t:TA):Prop:=
 ∀(pos:Pos) (pins:List (Addr×Obj)) (s:Shared) (σ:St) (H:Hp) (Q:List V->Hp->Prop),Inv X pins σ H s->t σ H Q->wpAny (model X.prog X.w) X.A (spliced (backTo pos (starEach es X.env))) (AP X pins σ Q) X.xe s
def PS (X:Cx) (st:Stmt) (t:TS):Prop:=
 ∀(pins:List (Addr×Obj)) (s:Shared) (σ:St) (H:Hp) (D:Ends),Inv X pins σ H s->t D σ H->wpAny (model X.prog X.w) X.A (exec st X.env) (SP X pins D) X.xe s
def PSs (X:Cx) (st:List Stmt) (t:TS):Prop:=
 ∀(pins:List (Addr×Obj)) (s:Shared) (σ:St) (H:Hp) (D:Ends),Inv X pins σ H s->t D σ H->wpAny (model X.prog X.w) X.A (execs st X.env) (SP X pins D) X.xe s
theorem thn {α:Type} {t:Sem α} {Q Q':α->Shared->Prop} {M:Model} {A:Around} {E:Value->Shared->Prop} {s:Shared} (h:wpAny M A t Q E s) (hQ:∀a s,Q a s->Q' a s):wpAny M A t Q' E s:=wpAny_mono h hQ fun _ _ x=>x
section
variable {X:Cx}
theorem bin {a b:Expr} {ta tb:TE} (ha:PE X a ta) (hb:PE X b tb) {pins:List (Addr×Obj)} {s:Shared} {σ:St} {H:Hp} {R:V->V->Hp->Prop} (I:Inv X pins σ H s) (h:ta σ H fun x H1=>tb σ H1 fun y H2=>R x y H2)
  {α:Type} {Q:α->Shared->Prop} {f:Value->Value->Sem α}
  (hf:∀v u s2 x y H2,Inv X pins σ H2 s2->RelV x v->RelV y u->R x y H2->wpAny (model X.prog X.w) X.A (f v u) Q X.xe s2) :
  wpAny (model X.prog X.w) X.A (eval a X.env) (fun v s₁=>wpAny (model X.prog X.w) X.A (eval b X.env) (fun u s₂=>wpAny (model X.prog X.w) X.A (f v u) Q X.xe s₂) X.xe s₁) X.xe s:=by
 refine thn (ha pins s σ H _ I h) fun v s1 ⟨x,H1,I1,r1,q1⟩=>?_
 refine thn (hb pins s1 σ H1 _ I1 q1) fun u s2 ⟨y,H2,I2,r2,q2⟩=>?_
 exact hf v u s2 x y H2 I2 r1 r2 q2
noncomputable def eU (i:Nat):TE:=fun σ H Q=>∃v,σ[i]?=some (some v)/\Q v H
noncomputable def tC (v:V):TE:=fun _ H Q=>Q v H
theorem aW {i:Nat} {x:Str} {pos:Pos} (hN:X.N[i]?=some x) (hv:Vis X.env.scope x) (hd:nDb x:=by decide) (hcd:nCd x:=by decide):PE X (.Name x pos) (eU i):=by
 intro pins s σ H Q I h;obtain ⟨v,e,h⟩:=h;obtain ⟨m,hn,hl⟩:=I.loc;obtain ⟨u,r,l⟩:=hl i x v hN e hv;have fin:EP X pins σ Q u s:=⟨v,H,I,r,h⟩
 rcases l with ⟨hk,hm⟩|⟨hk,c,hc,hcell⟩
 ·exact wpAny_Name (wpAny_loadName_local I.ok.kind hk hn hm fin) hd
 ·rcases hk with hk|hk
  ·exact wpAny_Name (wpAny_loadName_cell I.ok.kind hk hc hcell fin) hd
  ·exact wpAny_Name (wpAny_loadName_free I.ok.kind hk hc hcell fin hcd) hd
theorem mU {i j pos}:PE X (.Constant (.int i) j pos) (tC (.int i)):=fun _ _ _ H _ I h=>wpAny_Constant_int ⟨.int i,H,I.tok _,⟨_,rfl⟩,h⟩
theorem aJr {b j pos}:PE X (.Constant (.bool b) j pos) (tC (.bl b)):=fun _ _ _ H _ I h=>Constant_bool ⟨.bl b,H,I,rfl,h⟩
theorem aG9 {j pos}:PE X (.Constant .none j pos) (tC .non):=fun _ _ _ H _ I h=>Constant_none ⟨.non,H,I,rfl,h⟩
theorem aBp {x j pos}:PE X (.Constant (.str x) j pos) (tC (.str x)):=fun _ _ _ H _ I h=>Calls.Constant_str ⟨.str x,H,I.tok _,⟨_,rfl⟩,h⟩
def Gl (X:Cx) (x:Str):Prop:=X.env.kindOf x=some .globalImplicit
theorem nJ {E:Value->Shared->Prop} {pins:List (Addr×Obj)} {s:Shared} {σ:St} {H:Hp} {x:Str} {u:Value} {pos:Pos} {Q:Value->Shared->Prop} (I:Inv X pins σ H s) (hg:Gl X x) (hm:X.mg x=some u) (h:Q u s)
  (hd:nDb x:=by decide):wpAny (model X.prog X.w) X.A (eval (.Name x pos) X.env) Q E s:=
 Calls.Name_function_global I.ok.kind hg (Calls.loadGlobal_global (by rw [I.ok.glob];exact I.mod.glob.keeps I.bk) hm h) hd
theorem lN {E:Value->Shared->Prop} {pins:List (Addr×Obj)} {s:Shared} {σ:St} {H:Hp} {x:Str} {u:Value} {pos:Pos} {Q:Value->Shared->Prop} (I:Inv X pins σ H s) (hg:Gl X x) (hm:X.mg x=none) (hv:bootBuiltins x=some u) (h:Q u s)
  (hn:x ≠ "__name__":=by decide) (hd:nDb x:=by decide):wpAny (model X.prog X.w) X.A (eval (.Name x pos) X.env) Q E s:=by
 obtain ⟨mb,h1,h2⟩:=I.mod.blt;exact Calls.Name_function_global I.ok.kind hg (Calls.loadGlobal_builtin (by rw [I.ok.glob];exact I.mod.glob.keeps I.bk) hm (by rw [I.ok.blt];exact h1.keeps I.bk) ((h2 x hn).trans hv) h) hd
theorem lX {x:Str} {v:V} {u:Value} {pos:Pos} (hg:Gl X x) (hm:X.mg x=some u) (r:RelV v u) (hd:nDb x:=by decide):PE X (.Name x pos) (tC v):=
 fun _ _ _ H _ I h=>nJ I hg hm ⟨v,H,I,r,h⟩ hd
theorem aCs {x:Str} {v:V} {u:Value} {pos:Pos} (hg:Gl X x) (hm:X.mg x=none) (hv:bootBuiltins x=some u) (r:RelV v u) (hn:x ≠ "__name__":=by decide) (hd:nDb x:=by decide):PE X (.Name x pos) (tC v):=
 fun _ _ _ H _ I h=>lN I hg hm hv ⟨v,H,I,r,h⟩ hn hd
def t2I (ta tb:TE) (k:Int->Int->Hp->Prop):St->Hp->Prop:=fun σ H=>ta σ H fun x H1=>tb σ H1 fun y H2=>∃i j,x=.int i/\y=.int j/\k i j H2
noncomputable def aFw (ta tb:TE):TE:=fun σ H Q=>t2I ta tb (fun i j H2=>Q (.int (i+j)) H2) σ H
noncomputable def aJs (ta tb:TE):TE:=fun σ H Q=>t2I ta tb (fun i j H2=>Q (.int (i-j)) H2) σ H
noncomputable def aM1 (ta tb:TE):TE:=fun σ H Q=>t2I ta tb (fun i j H2=>(-(2 ^ 64)<i/\i<2 ^ 64)/\Q (.int (i*j)) H2) σ H
variable {a b:Expr} {ta tb:TE} {pos:Pos}
theorem zK (ha:PE X a ta) (hb:PE X b tb):PE X (.BinOp a .Add b pos) (aFw ta tb):=by
 intro pins s σ H Q I h;refine wpAny_BinOp (bin ha hb I h fun v u s2 x y H2 I2 rx ry q=>?_);obtain ⟨i,j,rfl,rfl,q⟩:=q;obtain ⟨t,rfl⟩:=rx;obtain ⟨t',rfl⟩:=ry;exact add_int ⟨.int _,H2,I2.tok _,⟨_,rfl⟩,q⟩
theorem aBq (ha:PE X a ta) (hb:PE X b tb):PE X (.BinOp a .Sub b pos) (aJs ta tb):=by
 intro pins s σ H Q I h;refine wpAny_BinOp (bin ha hb I h fun v u s2 x y H2 I2 rx ry q=>?_);obtain ⟨i,j,rfl,rfl,q⟩:=q;obtain ⟨t,rfl⟩:=rx;obtain ⟨t',rfl⟩:=ry;exact sub_int ⟨.int _,H2,I2.tok _,⟨_,rfl⟩,q⟩
theorem aGa (ha:PE X a ta) (hb:PE X b tb):PE X (.BinOp a .Mult b pos) (aM1 ta tb):=by
 intro pins s σ H Q I h;refine wpAny_BinOp (bin ha hb I h fun v u s2 x y H2 I2 rx ry q=>?_);obtain ⟨i,j,rfl,rfl,⟨q1,q2⟩,q⟩:=q;obtain ⟨t,rfl⟩:=rx;obtain ⟨t',rfl⟩:=ry;exact mul_int ⟨.int _,H2,I2.tok _,⟨_,rfl⟩,q⟩ (.of_left (intBits_le_64 q1 q2))
def PC (X:Cx) (op:CmpOp) (a b:Expr) (t:TE):Prop:=
 ∀(pins:List (Addr×Obj)) (s:Shared) (σ:St) (H:Hp) (Q:VK),Inv X pins σ H s->t σ H Q->
  wpAny (model X.prog X.w) X.A (eval a X.env) (fun v s₁=>wpAny (model X.prog X.w) X.A (eval b X.env) (fun u s₂=>wpAny (model X.prog X.w) X.A (compareOp op v u) (EP X pins σ Q) X.xe s₂) X.xe s₁) X.xe s
theorem ZC (b:Expr) {op:CmpOp} (h:op≠.In) (h2:op≠.NotIn):behindInMarks op b=false:=by
 have e1:(op==CmpOp.In)=false:=by cases op <;> first|rfl|exact absurd rfl h
 have e2:(op==CmpOp.NotIn)=false:=by cases op <;> first|rfl|exact absurd rfl h2
 cases b <;> simp [behindInMarks,e1,e2]
noncomputable def aJt (p:Int->Int->Bool) (ta tb:TE):TE:=fun σ H Q=>t2I ta tb (fun i j H2=>Q (.bl (p i j)) H2) σ H
abbrev tGt:TE->TE->TE:=aJt fun i j=>decide (j<i)
abbrev aJu:TE->TE->TE:=aJt fun i j=>decide (i=j)
theorem aBr {op:CmpOp} {p:Int->Int->Bool} (ha:PE X a ta) (hb:PE X b tb)
  (rule:∀(i j:Int) (t u:Tok) (Q:Value->Shared->Prop) (s:Shared),Q (.bool (p i j)) s->wpAny (model X.prog X.w) X.A (compareOp op (.int i t) (.int j u)) Q X.xe s):PC X op a b (aJt p ta tb):=by
 intro pins s σ H Q I h;refine bin ha hb I h fun v u s2 x y H2 I2 rx ry q=>?_
 obtain ⟨i,j,rfl,rfl,q⟩:=q;obtain ⟨t,rfl⟩:=rx;obtain ⟨t',rfl⟩:=ry;exact rule i j t t' _ s2 ⟨.bl _,H2,I2,rfl,q⟩
theorem aJv (ha:PE X a ta) (hb:PE X b tb):PC X .Gt a b (tGt ta tb):=aBr ha hb fun _ _ _ _ _ _ h=>gt_int h
theorem aBs (ha:PE X a ta) (hb:PE X b tb):PC X .Eq a b (aJu ta tb):=aBr ha hb fun _ _ _ _ _ _ h=>eq_int (by rw [Bool.beq_eq_decide_eq];exact h)
noncomputable def tB (t:TE):TT:=fun σ H Q=>t σ H fun x H1=>∃c,x=.bl c/\Q c H1
theorem RQ {op:CmpOp} {t:TE} (h:PC X op a b t) (h1:behindInMarks op b=false:=by first|exact ZC _ (by decide) (by decide)|rfl):PT X (.Compare a [op] [b] pos) (tB t):=by
 intro pins s σ H Q I hw;refine wpAny_isTrue_Compare1 (thn (h pins s σ H _ I hw) fun v s1 h1=>thn h1 fun u s2 h2=>thn h2 fun c s3 ⟨x,H1,I1,r1,q1⟩=>?_) h1;obtain ⟨d,rfl,q⟩:=q1;cases r1;exact wpAny_truthy_bool ⟨H1,I1,q⟩
variable {tA tB':TT} {rest:List Expr}
noncomputable def aMr (t u:TT):TT:=fun σ H Q=>t σ H fun c H1=>if c=true then u σ H1 Q else Q false H1
noncomputable def tOr (t u:TT):TT:=fun σ H Q=>t σ H fun c H1=>if c=true then Q true H1 else u σ H1 Q
noncomputable def aMs (t:TT):TT:=fun σ H Q=>t σ H fun c H1=>Q (!c) H1
theorem aCt (ha:PT X a tA):PW X (.BoolOp .And [a] pos) tA:=by
 intro wh pins s σ H Q I h;refine isTrue_and (thn (ha pins s σ H Q I h) fun c s1 e=>?_);cases c with
 | true=>exact isTrue_and_nil e
 | false=>exact e
theorem aGb (ha:PT X a tA):PW X (.BoolOp .Or [a] pos) tA:=by
 intro wh pins s σ H Q I h;refine isTrue_or (thn (ha pins s σ H Q I h) fun c s1 e=>?_);cases c with
 | false=>exact isTrue_or_nil e
 | true=>exact e
theorem aGc (ha:PT X a tA) (hb:PW X (.BoolOp .And (b::rest) pos) tB'):PW X (.BoolOp .And (a::b::rest) pos) (aMr tA tB'):=by
 intro wh pins s σ H Q I h;refine isTrue_and (thn (ha pins s σ H _ I h) fun c s1 ⟨H1,I1,q1⟩=>?_);cases c with
 | true=>exact hb wh pins s1 σ H1 Q I1 q1
 | false=>exact ⟨H1,I1,q1⟩
theorem aJw (ha:PT X a tA) (hb:PW X (.BoolOp .Or (b::rest) pos) tB'):PW X (.BoolOp .Or (a::b::rest) pos) (tOr tA tB'):=by
 intro wh pins s σ H Q I h;refine isTrue_or (thn (ha pins s σ H _ I h) fun c s1 ⟨H1,I1,q1⟩=>?_);cases c with
 | true=>exact ⟨H1,I1,q1⟩
 | false=>exact hb wh pins s1 σ H1 Q I1 q1
theorem aGd (ha:PT X a tA):PT X (.UnaryOp .Not a pos) (aMs tA):=by
 intro pins s σ H Q I h;exact isTrue_not (ha pins s σ H (fun c H1=>Q (!c) H1) I h)
noncomputable def aJx (ta tb:TE):TE:=fun σ H Q=>ta σ H fun x H1=>∃c,x=.bl c/\if c=true then tb σ H1 Q else Q (.bl false) H1
noncomputable def aMt (ta tb:TE):TE:=fun σ H Q=>ta σ H fun x H1=>∃c,x=.bl c/\if c=true then Q (.bl true) H1 else tb σ H1 Q
theorem aGe {op} {t:TE} (h:PE X a t):PE X (.BoolOp op [a] pos) t:=fun pins s σ H Q I hw=>BoolOp_one (h pins s σ H Q I hw)
theorem aGf (ha:PE X a ta) (hb:PE X (.BoolOp .And (b::rest) pos) tb):PE X (.BoolOp .And (a::b::rest) pos) (aJx ta tb):=by
 intro pins s σ H Q I h;refine BoolOp_and (thn (ha pins s σ H _ I h) fun v s1 ⟨x,H1,I1,r1,q1⟩=>?_);obtain ⟨c,rfl,q1⟩:=q1;cases r1;refine wpAny_truthy_bool ?_;cases c with
 | true=>exact hb pins s1 σ H1 Q I1 q1
 | false=>exact ⟨.bl false,H1,I1,rfl,q1⟩
theorem aJy (ha:PE X a ta) (hb:PE X (.BoolOp .Or (b::rest) pos) tb):PE X (.BoolOp .Or (a::b::rest) pos) (aMt ta tb):=by
 intro pins s σ H Q I h;refine BoolOp_or (thn (ha pins s σ H _ I h) fun v s1 ⟨x,H1,I1,r1,q1⟩=>?_);obtain ⟨c,rfl,q1⟩:=q1;cases r1;refine wpAny_truthy_bool ?_;cases c with
 | false=>exact hb pins s1 σ H1 Q I1 q1
 | true=>exact ⟨.bl true,H1,I1,rfl,q1⟩
end
def SqL (K:PySem.W.Frag) (H:Hp) (a:Addr) (xs:List V):Prop:=
 Rd H a (.lst xs)\/
  ∃(o:Obj) (its:Array Value) (n:Nat),K.lookup a=some o/\o.cls=.type "list"/\o.dict=none/\o.data=.seq its n/\its.size<=sizeLine/\Vals xs its.toList
def SqT (K:PySem.W.Frag) (H:Hp) (a:Addr) (xs:List V):Prop:=
 Rd H a (.tup xs)\/
  ∃(o:Obj) (its:Array Value) (n:Nat),K.lookup a=some o/\o.cls=.type "tuple"/\o.data=.seq its n/\its.size<=sizeLine/\Vals xs its.toList
noncomputable def aMu:Value->Option V
 | .none=>some .non
 | .bool b=>some (.bl b)
 | .int i _=>some (.int i)
 | .str x _=>some (.str x)
 | .bytes b _=>some (.byt b)
 | .float b _=>some (.flt b)
 | .ref a=>some (.ref a)
 | .type n=>some (.ty n)
 | _=>none
theorem RelV.abs {x:V} {u:Value} (r:RelV x u):aMu u=some x:=by
 cases x with
 | non=>cases r;rfl
 | bl _=>cases r;rfl
 | int _=>obtain ⟨t,rfl⟩:=r;rfl
 | str _=>obtain ⟨t,rfl⟩:=r;rfl
 | byt _=>obtain ⟨t,rfl⟩:=r;rfl
 | flt _=>obtain ⟨t,rfl⟩:=r;rfl
 | ref _=>cases r;rfl
 | ty _=>cases r;rfl
theorem RelV.inj {x y:V} {u:Value} (r:RelV x u) (q:RelV y u):x=y:=Option.some.inj (r.abs.symm.trans q.abs)
theorem Vals.inj:∀{xs ys:List V} {us:List Value},Vals xs us->Vals ys us->xs=ys
 | _,_,_,.nil,.nil=>rfl
 | _,_,_,.cons r t,.cons r' t'=>by rw [r.inj r',Vals.inj t t']
section
variable {X:Cx} {pins:List (Addr×Obj)} {σ:St} {H:Hp} {s:Shared} {a:Addr} {xs ys:List V}
theorem SqL.of {K:PySem.W.Frag} (h:H a=some (.lst xs)):SqL K H a xs:=.inl (.inl h)
theorem SqT.of {K:PySem.W.Frag} (h:H a=some (.tup xs)):SqT K H a xs:=.inl (.inl h)
theorem Inv.list (I:Inv X pins σ H s) (h:SqL X.K H a xs):∃its:List Value,Vals xs its/\PlainL s.heap a its.toArray/\xs.length<=sizeLine:=by
 rcases h with h|⟨o,its,n,hk,hc,hd,hs,hz,r⟩
 ·obtain ⟨z,its,n,r,e⟩:=h.ok I.hok;exact ⟨its,r,⟨_,n,e,rfl,rfl,rfl⟩,z⟩
 ·refine ⟨its.toList,r,⟨o,n,I.kIn a o hk,hc,hd,by simpa using hs⟩,?_⟩;have e:=r.length;simp only [Array.length_toList] at e;lia
theorem Inv.tuple (I:Inv X pins σ H s) (h:SqT X.K H a xs):∃its:List Value,Vals xs its/\IsTup s.heap a its.toArray/\xs.length<=sizeLine:=by
 rcases h with h|⟨o,its,n,hk,hc,hs,hz,r⟩
 ·obtain ⟨z,its,r,p⟩:=h.ok I.hok;exact ⟨its,r,p.tup,z⟩
 ·refine ⟨its.toList,r,⟨o,I.kIn a o hk,hc,n,by simpa using hs⟩,?_⟩;have e:=r.length;simp only [Array.length_toList] at e;lia
theorem Inv.ZD (I:Inv X pins σ H s) (h:SqL X.K H a xs) (h':SqL X.K H a ys):xs=ys:=by
 obtain ⟨its,r,⟨o,n,e,_,_,d⟩,_⟩:=I.list h;obtain ⟨its',r',⟨o',n',e',_,_,d'⟩,_⟩:=I.list h';rw [e] at e';cases e';rw [d] at d';injection d' with d1 _
 have:its=its':=by simpa using congrArg Array.toList d1
 subst this;exact r.inj r'
theorem Inv.RT (I:Inv X pins σ H s) (h:SqT X.K H a xs) (h':SqT X.K H a ys):xs=ys:=by
 obtain ⟨its,r,⟨o,e,_,n,d⟩,_⟩:=I.tuple h;obtain ⟨its',r',⟨o',e',_,n',d'⟩,_⟩:=I.tuple h';rw [e] at e';cases e';rw [d] at d';injection d' with d1 _
 have:its=its':=by simpa using congrArg Array.toList d1
 subst this;exact r.inj r'
end
noncomputable abbrev Cx.wish (X:Cx) (E:Value->Shared->Prop):Cx:={X with xe:=E}
noncomputable abbrev Cx.nox (X:Cx):Cx:=X.wish fun _ _=>False
theorem Cx.Ok.wish {X:Cx} (ok:X.Ok) (E:Value->Shared->Prop):(X.wish E).Ok:=
 ⟨ok.mod,ok.kind,ok.glob,ok.blt,ok.above,ok.inj,ok.has,ok.cab,ok.hd,ok.frames,ok.stk,ok.exf,ok.bs,ok.bsz,ok.noex,ok.exfs,ok.NZ,ok.frf⟩
theorem Cx.Ok.jX {X:Cx} {E:Value->Shared->Prop} (ok:(X.wish E).Ok):X.Ok:=
 ⟨ok.mod,ok.kind,ok.glob,ok.blt,ok.above,ok.inj,ok.has,ok.cab,ok.hd,ok.frames,ok.stk,ok.exf,ok.bs,ok.bsz,ok.noex,ok.exfs,ok.NZ,ok.frf⟩
section
variable {X:Cx} {pins:List (Addr×Obj)} {σ:St} {H:Hp} {s:Shared} {E:Value->Shared->Prop}
theorem Inv.wish (I:Inv X pins σ H s) (E:Value->Shared->Prop):Inv (X.wish E) pins σ H s:=⟨I.ok.wish E,I.os,I.bare,I.base,I.loc,I.cell,I.free,I.freeC,I.pin,I.hok,I.len⟩
theorem Inv.jX (I:Inv (X.wish E) pins σ H s):Inv X pins σ H s:=⟨I.ok.jX,I.os,I.bare,I.base,I.loc,I.cell,I.free,I.freeC,I.pin,I.hok,I.len⟩
theorem SP.jX {D:Ends} {f:Flow} {s':Shared} (h:SP (X.wish E) pins D f s'):SP X pins D f s':=by
 cases f with
 | next=>obtain ⟨σ',H',I,q⟩:=h;exact ⟨σ',H',I.jX,q⟩
 | brk=>obtain ⟨σ',H',I,q⟩:=h;exact ⟨σ',H',I.jX,q⟩
 | cont=>obtain ⟨σ',H',I,q⟩:=h;exact ⟨σ',H',I.jX,q⟩
 | ret u=>obtain ⟨v,σ',H',I,r,q⟩:=h;exact ⟨v,σ',H',I.jX,r,q⟩
theorem PSs.nox {st:List Stmt} {t:TS} (h:PSs X.nox st t):PSs X st t:=fun pins s σ H D I hw=>
 wpAny_mono (h pins s σ H D (I.wish _) hw) (fun _ _ q=>q.jX) fun _ _ z=>False.elim z
end
section
variable {X:Cx} {st:Stmt} {rest:List Stmt} {t u:TS} {e:Expr} {te:TE} {pos:Pos}
noncomputable def aCu:TS:=fun D σ H=>D.nx σ H
noncomputable def vP (t u:TS):TS:=fun D σ H=>t {D with nx:=u D} σ H
theorem xG:PSs X [] aCu:=fun _ _ σ H _ I h=>wpAny_execs_nil ⟨σ,H,I,h⟩
theorem bN (h1:PS X st t) (h2:PSs X rest u):PSs X (st::rest) (vP t u):=by
 intro pins s σ H D I h;refine wpAny_execs_cons (thn (h1 pins s σ H {D with nx:=u D} I h) fun f s1 q=>?_);cases f with
 | next=>
  obtain ⟨σ',H',I',q⟩:=q;exact h2 pins s1 σ' H' D I' q
 | ret v=>exact q
 | brk=>exact q
 | cont=>exact q
theorem cX (h1:PS X st t):PSs X [st] t:=by
 intro pins s σ H D I h;refine wpAny_execs_cons (thn (h1 pins s σ H D I h) fun f s1 q=>?_);cases f with
 | next=>exact wpAny_execs_nil q
 | ret v=>exact q
 | brk=>exact q
 | cont=>exact q
theorem Inv.quiet {pins:List (Addr×Obj)} {σ:St} {H:Hp} {s:Shared} (I:Inv X pins σ H s):interactive X.env=false:=by simp [interactive,I.ok.kind]
noncomputable def xH (te:TE):TS:=fun D σ H=>te σ H fun _ H1=>D.nx σ H1
theorem jY (he:PE X e te) (hs:swapsWith e none pos.line X.env=pure false:=by rfl):PS X (.Expr e pos) (xH te):=by
 intro pins s σ H D I h;exact wpAny_Expr_any (thn (he pins s σ H _ I h) fun v s1 ⟨x,H1,I1,r1,q1⟩=>⟨σ,H1,I1,q1⟩) I.quiet hs
noncomputable def aGg (te:TE):TS:=fun D σ H=>te σ H D.rt
theorem zL (he:PE X e te):PS X (.Return (some e) pos) (aGg te):=by
 intro pins s σ H D I h;exact wpAny_Return_some (thn (he pins s σ H _ I h) fun v s1 ⟨x,H1,I1,r1,q1⟩=>⟨x,σ,H1,I1,r1,q1⟩)
noncomputable def aFx (c:TT) (t u:TS):TS:=fun D σ H=>c σ H fun b H1=>if b=true then t D σ H1 else u D σ H1
theorem N5 {c:Expr} {a b:List Stmt} {tc:TT} (hc:PT X c tc) (ha:PSs X a t) (hb:PSs X b u):PS X (.If c a b pos) (aFx tc t u):=by
 intro pins s σ H D I h;refine wpAny_If (thn (hc pins s σ H _ I h) fun d s1 ⟨H1,I1,q1⟩=>?_);cases d with
 | true=>exact ha pins s1 σ H1 D I1 q1
 | false=>exact hb pins s1 σ H1 D I1 q1
end
abbrev TG:=V->St->Hp->(St->Hp->Prop)->Prop
abbrev TGs:=List V->St->Hp->(St->Hp->Prop)->Prop
def PG (X:Cx) (target:Expr) (t:TG):Prop:=
 ∀(pins:List (Addr×Obj)) (s:Shared) (σ:St) (H:Hp) (v:V) (u:Value) (Q:St->Hp->Prop),Inv X pins σ H s->RelV v u->t v σ H Q->
  wpAny (model X.prog X.w) X.A (assign target X.env u) (fun _ s'=>∃σ' H',Inv X pins σ' H' s'/\Q σ' H') X.xe s
def PGs (X:Cx) (ts:List Expr) (t:TGs):Prop:=
 ∀(pins:List (Addr×Obj)) (s:Shared) (σ:St) (H:Hp) (vs:List V) (us:List Value) (Q:St->Hp->Prop),Inv X pins σ H s->Vals vs us->t vs σ H Q->
  wpAny (model X.prog X.w) X.A (assignInOrder ((assignEach ts X.env).map (·.2)) us) (fun _ s'=>∃σ' H',Inv X pins σ' H' s'/\Q σ' H') X.xe s
abbrev aMv:=V->V->V->Hp->(Hp->Prop)->Prop
def aMw (X:Cx) (t:aMv):Prop:=
 ∀(pins:List (Addr×Obj)) (s:Shared) (σ:St) (H:Hp) (o i v:V) (ov iv u:Value) (Q:Hp->Prop),Inv X pins σ H s->RelV o ov->RelV i iv->RelV v u->t o i v H Q->
  wpAny (model X.prog X.w) X.A (setItem ov iv u) (fun _ s'=>∃H',Inv X pins σ H' s'/\Q H') X.xe s
section
variable {X:Cx} {pos:Pos}
noncomputable def eV (i:Nat):TG:=fun v σ H Q=>Q (σ.set i (some v)) H
theorem aQ {i:Nat} {x:Str} (hN:X.N.Nodup) (hi:X.N[i]?=some x) (hx:Loc X.env.scope x) (hf:X.fn x=true\/X.env.scope.names.lookup x=some .local:=by first|exact .inl rfl|exact .inr rfl|assumption):PG X (.Name x pos) (eV i):=by
 intro pins s σ H v u Q I r h;exact wpAny_assign_Name (xF I hN hi hx r (fun s' I'=>⟨_,H,I',h⟩) hf)
noncomputable def aJ8:TGs:=fun vs σ H Q=>vs=[]/\Q σ H
noncomputable def N6 (t:TG) (u:TGs):TGs:=fun vs σ H Q=>∃v r,vs=v::r/\t v σ H fun σ' H'=>u r σ' H' Q
theorem jZ:PGs X [] aJ8:=by
 intro pins s σ H vs us Q I r h;obtain ⟨e,h⟩:=h;subst e;cases r;exact assignInOrder_nil ⟨σ,H,I,h⟩
theorem aZ {e:Expr} {es:List Expr} {t:TG} {u:TGs} (h1:PG X e t) (h2:PGs X es u)
  (hs:(assignEach (e::es) X.env).map (·.2)=assign e X.env::(assignEach es X.env).map (·.2):=by rfl):PGs X (e::es) (N6 t u):=by
 intro pins s σ H vs us Q I r h;obtain ⟨v,vr,e1,h⟩:=h;subst e1;cases r with
 | cons r rr=>
  rw [hs];refine assignInOrder_cons (thn (h1 pins s σ H _ _ _ I r h) fun _ s1 ⟨σ1,H1,I1,q1⟩=>?_);exact h2 pins s1 σ1 H1 _ _ Q I1 rr q1
noncomputable def aJ9 (K:PySem.W.Frag) (n:Nat) (t:TGs):TG:=fun v σ H Q=>∃a xs,v=.ref a/\SqT K H a xs/\xs.length=n/\t xs σ H Q
theorem JP {es:List Expr} {k:Nat} {t:TGs} {n:Nat} (hc:X.calm=true) (h:PGs X es t)
  (hn:(assignEach es X.env).length=n:=by rfl) (hst:(assignEach es X.env).findIdx? (·.1)=none:=by rfl):PG X (.Tuple es k pos) (aJ9 X.K n t):=by
 intro pins s σ H v u Q I r hw;obtain ⟨a,xs,e1,hq,hl,hw⟩:=hw;subst e1;cases r;obtain ⟨its,rv,ht,hz⟩:=I.tuple hq;refine assign_Tuple_tuple (I.ok.hd hc) ht (by simp [hn,<-hl,rv.length]) hst fun h' hx=>?_
 have I1:Inv X pins σ H {s with heap:=h'}:=I.kept (t':=s.toks) fun b o e=>hx b o (Nat.ne_of_lt (Heap.lt_size e)) e
 exact h pins _ σ H xs _ Q I1 (by simpa using rv) hw
noncomputable def zM (te:TE) (g:TG):TS:=fun D σ H=>te σ H fun x H1=>g x σ H1 D.nx
theorem lO {tg e:Expr} {te:TE} {g:TG} (he:PE X e te) (hg:PG X tg g) (hs:swapsWithSole [tg] e pos.line X.env=pure false:=by rfl) (hw:swappedStores [tg] e X.env=pure none:=by rfl)
  (h1:(assignEach [tg] X.env).map (·.2)=[assign tg X.env]:=by rfl):PS X (.Assign [tg] e pos) (zM te g):=by
 intro pins s σ H D I h;refine wpAny_Assign_stores (thn (he pins s σ H _ I h) fun v s1 ⟨x,H1,I1,r1,q1⟩=>?_) hs hw;rw [h1];exact thn (hg pins s1 σ H1 x v _ I1 r1 q1) fun _ s2 q=>q
theorem RV {i:Nat} {x:Str} {e:Expr} {te:TE} {pos':Pos} (hN:X.N.Nodup) (hi:X.N[i]?=some x) (hx:Loc X.env.scope x) (he:PE X e te) (hs:swapsWith e (some (.Name x pos')) pos.line X.env=pure false:=by rfl) (hf:X.fn x=true\/X.env.scope.names.lookup x=some .local:=by first|exact .inl rfl|exact .inr rfl|assumption) :
  PS X (.Assign [.Name x pos'] e pos) (zM te (eV i)):=by
 intro pins s σ H D I h;refine wpAny_Assign_Name (thn (he pins s σ H _ I h) fun v s1 ⟨y,H1,I1,r1,q1⟩=>?_) hs;exact xF I1 hN hi hx r1 (fun s2 I2=>⟨_,H1,I2,q1⟩) hf
end
section
variable {X:Cx} {pos:Pos}
def RW (c:TT) (tb:TS):TS:=fun D σ H=>∃W:Nat->St->Hp->Prop,(∃m,W m σ H)/\∀m σ H,W m σ H->
 c σ H fun b H1=>if b=true then ∃N:St->Hp->Prop,(∀σ' H',N σ' H'->∃m',m'<m/\W m' σ' H')/\tb {D with nx:=N,ct:=N,bk:=D.nx} σ H1 else D.nx σ H1
theorem JQ {c:Expr} {body:List Stmt} {tc:TT} {tb:TS} (hp:PassesOwn (model X.prog X.w) X.A X.env X.xe) (hc:PT X c tc) (hb:PSs X body tb):PS X (.While c body [] pos) (RW tc tb):=by
 intro pins s σ H D I h;obtain ⟨W,⟨m0,w0⟩,turn⟩:=h;refine wpAny_While (codeAny_whileLoop (fun n s'=>∃σ' H',Inv X pins σ' H' s'/\W n σ' H') ?_ m0 ⟨σ,H,I,w0⟩);rintro n s1 ⟨σ1,H1,I1,w1⟩;refine wpAny_passesOwn hp (thn (hc pins s1 σ1 H1 _ I1 (turn n σ1 H1 w1)) fun b s2 ⟨H2,I2,q2⟩=>?_);cases b with
 | true=>
  obtain ⟨N,hN,q2⟩:=q2;rw [if_pos rfl];refine wpAny_passesOwn hp (thn (hb pins s2 σ1 H2 _ I2 q2) fun f s3 q3=>?_);cases f with
  | next=>
   obtain ⟨σ3,H3,I3,n3⟩:=q3;obtain ⟨m',hm,w3⟩:=hN σ3 H3 n3;exact ⟨m',hm,σ3,H3,I3,w3⟩
  | cont=>
   obtain ⟨σ3,H3,I3,n3⟩:=q3;obtain ⟨m',hm,w3⟩:=hN σ3 H3 n3;exact ⟨m',hm,σ3,H3,I3,w3⟩
  | brk=>exact q3
  | ret v=>exact q3
 | false=>
  rw [if_neg Bool.false_ne_true];exact wpAny_execs_nil ⟨σ1,H2,I2,q2⟩
end
structure It where
 go:Nat->Hp->Prop
 yld:Nat->Hp->V->Hp->Prop
 stop:Nat->Hp->Prop
def Q_ (X:Cx) (pins:List (Addr×Obj)) (H:Hp) (b:Addr):Prop:=
 H b=none/\b≠X.env.locals/\b∉X.fs/\(b∈X.ex\/X.s₀.heap.objs.size<=b)/\(∀x c,X.env.cells.lookup x=some c->c≠b)/\∀p∈X.pn++pins,p.1≠b
theorem Inv.aCv {X:Cx} {pins:List (Addr×Obj)} {σ:St} {H H':Hp} {s:Shared} {b:Addr} (I:Inv X pins σ H s) (hb:s.heap.objs.size<=b) (hn:H' b=none):Q_ X pins H' b:=by
 refine ⟨hn,Nat.ne_of_gt (Nat.lt_of_lt_of_le I.lt hb),I.aM0 hb,.inr (Nat.le_trans I.sz hb),fun x c e z=>?_,fun p hp z=>?_⟩
 ·obtain ⟨v,q⟩:=I.cell x c e;exact absurd (Nat.lt_of_lt_of_le q.lt (by rw [z];exact hb)) (Nat.lt_irrefl _)
 ·exact absurd (Nat.lt_of_lt_of_le (Heap.lt_size (I.pin p hp).1) (by rw [z];exact hb)) (Nat.lt_irrefl _)
structure Turn (P:Program) (w:World) (K:PySem.W.Frag) (tg:Expr) (J:It) (fp:List Addr) (it:Addr) (tn:Nat->Heap->Prop):Prop where
 mem:it∈fp
 obj:∀i h,tn i h->∀b∈fp,∃o,h.get? b=some o/\∀v,o.data≠.cell v
 keep:∀i h h',tn i h->(∀b∈fp,∀o,h.get? b=some o->h'.get? b=some o)->tn i h'
 item:∀(X:Cx),X.prog=P->X.w=w->X.K=K->X.calm=true->∀(i:Nat) (pins:List (Addr×Obj)) (s:Shared) (σ:St) (H:Hp) (E:Value->Shared->Prop),Inv X pins σ H s->(∀b∈fp,Q_ X pins H b)->tn i s.heap->J.go i H->
  wpAny (model P w) X.A (pyNext (.ref it)) (fun r s1=>∃u,r=some u/\
   wpAny (model P w) X.A (letOwnedTupleGo tg (.ref it) u) (fun _ s2=>∃x H',Inv X pins σ H' s2/\RelV x u/\J.yld i H x H'/\tn (i+1) s2.heap/\∀b∈fp,H' b=none) E s1) E s
 done:∀(X:Cx),X.prog=P->X.w=w->X.K=K->X.calm=true->∀(i:Nat) (pins:List (Addr×Obj)) (s:Shared) (σ:St) (H:Hp) (E:Value->Shared->Prop),Inv X pins σ H s->(∀b∈fp,Q_ X pins H b)->tn i s.heap->J.stop i H->
  wpAny (model P w) X.A (pyNext (.ref it)) (fun r s1=>r=none/\Inv X pins σ H s1) E s
 self:∀(A:Around) (i:Nat) (s:Shared) (Q:Value->Shared->Prop) (E:Value->Shared->Prop),tn i s.heap->Q (.ref it) s->wpAny (model P w) A (pyIter (.ref it)) Q E s
abbrev TI:=St->Hp->(It->Hp->Prop)->Prop
def PIE (X:Cx) (pins:List (Addr×Obj)) (σ:St) (tg:Expr) (R:It->Hp->Prop) (itv:Value) (s2:Shared):Prop:=
 ∃(it:Addr) (fp:List Addr) (tn:Nat->Heap->Prop) (J:It) (H':Hp),itv=.ref it/\Inv X pins σ H' s2/\Turn X.prog X.w X.K tg J fp it tn/\tn 0 s2.heap/\(∀b∈fp,Q_ X pins H' b)/\R J H'
def PI (X:Cx) (tg iter:Expr) (wi:TI):Prop:=
 ∀(pins:List (Addr×Obj)) (s:Shared) (σ:St) (H:Hp) (R:It->Hp->Prop),Inv X pins σ H s->wi σ H R->
  wpAny (model X.prog X.w) X.A (eval iter X.env) (fun v s1=>wpAny (model X.prog X.w) X.A (pyIter v) (PIE X pins σ tg R) X.xe s1) X.xe s
theorem ZF {M:Model} {A:Around} {E:Value -> Shared -> Prop} {s:Shared} {tg:Expr} {it:Addr} {u:Value} {o:Obj} {n:String} {vs:Array Value} {Q:Unit -> Shared -> Prop} (ho:s.heap.get? it=some o) (hc:o.cls=.type n) (hd:o.data=.fields vs)
    (hn:["enumerate", "zip", "dict_itemiterator", "dict_reverseitemiterator", "odict_iterator", "itertools.zip_longest", "itertools.pairwise"].contains n=false) (hQ:Q () s):wpAny M A (letOwnedTupleGo tg (.ref it) u) Q E s := by
  unfold letOwnedTupleGo;cases tg <;> first
    | exact wpAny_pure hQ
    | (cases u <;> first
        | exact wpAny_pure hQ
        | (refine wpAny_bind (wpAny_load ho ?_)
           rw [hc, hd];show wpAny M A (if (["enumerate", "zip", "dict_itemiterator", "dict_reverseitemiterator", "odict_iterator", "itertools.zip_longest", "itertools.pairwise"].contains n&&vs[0]?==some (rawInt _))=true then _ else _) Q E s;rw [if_neg (by intro h; rw [hn, Bool.false_and] at h; cases h)];exact wpAny_pure hQ))
noncomputable def Itl (K:PySem.W.Frag) (a:Addr):It:=
 ⟨fun i H=>∃xs x,SqL K H a xs/\xs[i]?=some x,fun i H x H'=>H'=H/\∀xs,SqL K H a xs->xs[i]?=some x,fun i H=>∃xs,SqL K H a xs/\xs.length<=i⟩
noncomputable def Itt (K:PySem.W.Frag) (a:Addr):It:=
 ⟨fun i H=>∃xs x,SqT K H a xs/\xs[i]?=some x,fun i H x H'=>H'=H/\∀xs,SqT K H a xs->xs[i]?=some x,fun i H=>∃xs,SqT K H a xs/\xs.length<=i⟩
noncomputable def Itr (lo:Int) (n:Nat):It:=⟨fun i _=>i<n,fun i H x H'=>H'=H/\x=.int (lo+i),fun i _=>n<=i⟩
theorem q_ {P:Program} {w:World} {K:PySem.W.Frag} {tg:Expr} (a it:Addr):Turn P w K tg (Itl K a) [it] it (fun i h=>h.IsListIter it a i) where
 mem:=by simp
 obj:=fun i h st b hb=>by
  have e:b=it:=by simpa using hb
  subst e;obtain ⟨o,e,c,d⟩:=st;exact ⟨o,e,fun v z=>by rw [d] at z;cases z⟩
 keep:=fun i h h' st k=>st.at fun o e=>k it (by simp) o e
 item:=by
  intro X hP hw hK hc i pins s σ H E I hf st hg;subst hP hw hK;obtain ⟨xs,x,hq,hx⟩:=hg;obtain ⟨its,rv,p,hz⟩:=I.list hq;obtain ⟨u,hu,ru⟩:=rv.get hx;obtain ⟨f0,f1,f2,f3,f4,f5⟩:=hf it (by simp);refine wpAny_pyNext_list_item st p.isList (x:=u) (by simpa using hu) fun h' st' sb=>?_
  have I1:Inv X pins σ H {s with heap:=h'}:=I.turned (t':=s.toks) (fun b o hb e=>(sb.2 b hb).trans e) f0 f1 f3 f4 f5;obtain ⟨o,e,c,d⟩:=id st';exact ⟨u,rfl,ZF (s:={s with heap:=h'}) e c d (by decide) ⟨x,H,I1,ru,⟨rfl,fun ys hy=>by rw [I.ZD hy hq];exact hx⟩,st',fun b hb=>(hf b hb).1⟩⟩
 done:=by
  intro X hP hw hK hc i pins s σ H E I hf st hg;subst hP hw hK;obtain ⟨xs,hq,hx⟩:=hg;obtain ⟨its,rv,p,hz⟩:=I.list hq;obtain ⟨f0,f1,f2,f3,f4,f5⟩:=hf it (by simp);have hl:=rv.length;exact wpAny_pyNext_list_end (I.ok.hd hc) st p.isList (by simp;lia) fun h' eb=>⟨rfl,I.turned (t':=s.toks) (fun b o hb e=>eb b o hb e) f0 f1 f3 f4 f5⟩
 self:=fun _ _ _ _ _ st h=>wpAny_pyIter_listiter st h
theorem N7 {P:Program} {w:World} {K:PySem.W.Frag} {tg:Expr} (a it:Addr):Turn P w K tg (Itt K a) [it] it (fun i h=>h.IsTupleIter it a i) where
 mem:=by simp
 obj:=fun i h st b hb=>by
  have e:b=it:=by simpa using hb
  subst e;obtain ⟨o,e,c,d⟩:=st;exact ⟨o,e,fun v z=>by rw [d] at z;cases z⟩
 keep:=fun i h h' st k=>st.at fun o e=>k it (by simp) o e
 item:=by
  intro X hP hw hK hc i pins s σ H E I hf st hg;subst hP hw hK;obtain ⟨xs,x,hq,hx⟩:=hg;obtain ⟨its,rv,p,hz⟩:=I.tuple hq;obtain ⟨u,hu,ru⟩:=rv.get hx;obtain ⟨f0,f1,f2,f3,f4,f5⟩:=hf it (by simp);refine wpAny_pyNext_tuple_item st (show s.heap.IsTuple a its.toArray from p) (x:=u) (by simpa using hu) fun h' st' sb=>?_
  have I1:Inv X pins σ H {s with heap:=h'}:=I.turned (t':=s.toks) (fun b o hb e=>(sb.2 b hb).trans e) f0 f1 f3 f4 f5;obtain ⟨o,e,c,d⟩:=id st';exact ⟨u,rfl,ZF (s:={s with heap:=h'}) e c d (by decide) ⟨x,H,I1,ru,⟨rfl,fun ys hy=>by rw [I.RT hy hq];exact hx⟩,st',fun b hb=>(hf b hb).1⟩⟩
 done:=by
  intro X hP hw hK hc i pins s σ H E I hf st hg;subst hP hw hK;obtain ⟨xs,hq,hx⟩:=hg;obtain ⟨its,rv,p,hz⟩:=I.tuple hq;obtain ⟨f0,f1,f2,f3,f4,f5⟩:=hf it (by simp);have hl:=rv.length;exact wpAny_pyNext_tuple_end (I.ok.hd hc) st (show s.heap.IsTuple a its.toArray from p) (by simp;lia) fun h' eb=>⟨rfl,I.turned (t':=s.toks) (fun b o hb e=>eb b o hb e) f0 f1 f3 f4 f5⟩
 self:=fun _ _ _ _ _ st h=>wpAny_pyIter_tupleiter st h
theorem N8 {P:Program} {w:World} {K:PySem.W.Frag} {tg:Expr} (it:Addr) (lo:Int) (n:Nat):Turn P w K tg (Itr lo n) [it] it (fun i h=>IsRangeIter h it (lo+(i:Nat)*1) ((n:Int)-(i:Nat)) 1) where
 mem:=by simp
 obj:=fun i h st b hb=>by
  have e:b=it:=by simpa using hb
  subst e;exact ⟨_,st,fun v z=>by
   have z':Data.fields _=Data.cell v:=z;cases z'⟩
 keep:=fun i h h' st k=>k it (by simp) _ st
 item:=by
  intro X hP hw hK hc i pins s σ H E I hf st hg;subst hP hw hK;obtain ⟨f0,f1,f2,f3,f4,f5⟩:=hf it (by simp);have W:=Walks.range (prog:=X.prog) (w:=X.w) (I.ok.hd hc) it lo 1 n;refine W.item i s _ _ hg st fun v h' tk hv st' kk=>?_
  obtain ⟨t,rfl⟩:=hv;have I1:Inv X pins σ H {s with heap:=h',toks:=tk}:=I.turned (fun b o hb e=>kk b o (by simpa using hb) e) f0 f1 f3 f4 f5;refine ⟨_,rfl,ZF (s:={s with heap:=h',toks:=tk}) (n := "range_iterator") st' rfl rfl (by decide) ⟨.int (lo+i),H,I1,⟨t,?_⟩,⟨rfl,rfl⟩,st',fun b hb=>(hf b hb).1⟩⟩;rw [Int.mul_one]
 done:=by
  intro X hP hw hK hc i pins s σ H E I hf st hg;subst hP hw hK;obtain ⟨f0,f1,f2,f3,f4,f5⟩:=hf it (by simp);exact wpAny_pyNext_range_end (I.ok.hd hc) st (by have:n<=i:=hg;lia) fun h' eb=>⟨rfl,I.turned (t':=s.toks) (fun b o hb e=>eb b o hb e) f0 f1 f3 f4 f5⟩
 self:=fun _ _ _ _ _ st h=>wpAny_pyIter_rangeiter st h
section
variable {X:Cx} {tg:Expr}
theorem ZG {pins:List (Addr×Obj)} {σ:St} {H:Hp} {s:Shared} {R:It->Hp->Prop} {E:Value->Shared->Prop} {lo hi:Int} {t u v:Tok} {tk:Nat} (I:Inv X pins σ H s) (h1:-(2 ^ 62)<=lo) (h2:lo<2 ^ 62) (h3:-(2 ^ 62)<=hi) (h4:hi<2 ^ 62)
  (q:R (Itr lo (hi-lo).toNat) H):wpAny (model X.prog X.w) X.A (pyIter (.ref s.heap.objs.size)) (PIE X pins σ tg R) E {s with heap:=s.heap.push {cls:=.type "range",data:=.fields #[.int lo t,.int hi u,.int 1 v]},toks:=tk}:=by
 refine wpAny_pyIter_range (IsRange.new ..) (small_one h1 h2 h3 h4) ?_;have I1:Inv X pins σ H {s with heap:=s.heap.push {cls:=.type "range",data:=.fields #[.int lo t,.int hi u,.int 1 v]},toks:=tk}:=I.kept fun b o e=>Heap.get?_push_of_some _ e
 refine ⟨(s.heap.push {cls:=.type "range",data:=.fields #[.int lo t,.int hi u,.int 1 v]}).objs.size,[(s.heap.push {cls:=.type "range",data:=.fields #[.int lo t,.int hi u,.int 1 v]}).objs.size],_,_,H,rfl,
  I1.kept (t':=tk) fun b o e=>Heap.get?_push_of_some _ e,N8 _ lo (hi-lo).toNat,?_,fun b hb=>?_,q⟩
 ·have e1:lo+((0:Nat):Int)*1=lo:=by simp
  have e2:(((hi-lo).toNat:Nat):Int)-((0:Nat):Int)=Builtin.Range.rangeSize lo hi 1:=by rw [rangeSize_one];split <;> lia
  show IsRangeIter _ _ (lo+((0:Nat):Int)*1) ((((hi-lo).toNat:Nat):Int)-((0:Nat):Int)) 1;rw [e1,e2];exact Heap.get?_push_size _ rfl
 ·have e:b=(s.heap.push {cls:=.type "range",data:=.fields #[.int lo t,.int hi u,.int 1 v]}).objs.size:=by simpa using hb
  subst e;exact I1.aCv (Nat.le_refl _) (I1.hok.fresh (Nat.le_refl _))
def aJz (ta:TA):TI:=fun σ H R=>ta σ H fun vs H1=>∃j:Int,vs=[.int j]/\-(2 ^ 62)<=j/\j<2 ^ 62/\R (Itr 0 j.toNat) H1
theorem RX {a:Expr} {ta:TA} {p pos:Pos} (hg:Gl X "range") (hm:X.mg "range" = none) (ha:PA X [a] ta) (hs:starEach [a] X.env=[(false,eval a X.env)]:=by rfl):PI X tg (.Call (.Name "range" p) [a] [] pos) (aJz ta):=by
 intro pins s σ H R I h;refine Call_ (lN I hg hm boot_range (PyProof.Rows.callWith_type1 (thn (ha pos pins s σ H _ I h) fun us s1 ⟨vs,H1,I1,r1,q1⟩=>?_) hs rfl));obtain ⟨j,e,q1,q2,q⟩:=q1;subst e;cases r1 with
 | cons r rr=>
  cases rr;obtain ⟨t,rfl⟩:=r;exact call_range_1 (ZG I1 (by lia) (by lia) q1 q2 (by simpa using q))
def aM2 (wi:TI) (g:TG) (tb:TS):TS:=fun D σ H=>wi σ H fun J H1=>∃W:Nat->Nat->St->Hp->Prop,(∃m,W 0 m σ H1)/\∀i m σ H,W i m σ H->
 (J.stop i H/\D.nx σ H)\/(J.go i H/\∃N:St->Hp->Prop,(∀σ' H',N σ' H'->∃m',m'<m/\W (i+1) m' σ' H')/\∀x H',J.yld i H x H'->g x σ H' fun σ2 H2=>tb {D with nx:=N,ct:=N,bk:=D.nx} σ2 H2)
noncomputable def sE (fp:List Addr) (h:Heap):List (Addr×Obj):=fp.filterMap fun b=>(h.get? b).map fun o=>(b,o)
theorem lF {fp:List Addr} {h:Heap} {b:Addr} {o:Obj} (hb:b∈fp) (e:h.get? b=some o):(b,o)∈sE fp h:=List.mem_filterMap.mpr ⟨b,hb,by rw [e];rfl⟩
theorem RZ {fp:List Addr} {h:Heap} {p:Addr×Obj} (hp:p∈sE fp h):p.1∈fp/\h.get? p.1=some p.2:=by
 obtain ⟨b,hb,e⟩:=List.mem_filterMap.mp hp;cases q:h.get? b with
 | none=>rw [q] at e;cases e
 | some o=>
  rw [q] at e;have e':(b,o)=p:=Option.some.inj e;subst e';exact ⟨hb,q⟩
theorem Inv.pinned {pins:List (Addr×Obj)} {σ:St} {H:Hp} {s:Shared} {fp:List Addr} (I:Inv X pins σ H s) (hf:∀b∈fp,Q_ X pins H b) (ho:∀b∈fp,∃o,s.heap.get? b=some o/\∀v,o.data≠.cell v):Inv X (pins++sE fp s.heap) σ H s:=
 I.GD fun p hp=>(List.mem_append.mp hp).elim (fun z=>I.pin p (List.mem_append_right _ z)) fun z=>by
  obtain ⟨hb,e⟩:=RZ z;obtain ⟨f0,f1,f2,_⟩:=hf p.1 hb;obtain ⟨o,e',d⟩:=ho p.1 hb;rw [e] at e';cases e';exact ⟨e,f0,f1,f2,d⟩
theorem Inv.mV {pins pl:List (Addr×Obj)} {σ:St} {H:Hp} {s:Shared} (I:Inv X (pins++pl) σ H s):Inv X pins σ H s:=I.GD fun p hp=>I.pin p (List.mem_append_right _ (List.mem_append_left _ hp))
theorem JR {iter:Expr} {body:List Stmt} {wi:TI} {g:TG} {tb:TS} {pos:Pos} (hp:PassesOwn (model X.prog X.w) X.A X.env X.xe) (hc:X.calm=true) (hi:PI X tg iter wi) (hg:PG X tg g) (hb:PSs X body tb)
  (hs:∀x,foldedSetIterable iter X.env x=pure x:=by intro _;rfl):PS X (.For tg iter body [] pos) (aM2 wi g tb):=by
 intro pins s σ H D I h;refine wpAny_For (thn (hi pins s σ H _ I h) fun v s1 h1=>thn h1 fun itv s2 h2=>?_) hs;obtain ⟨it,fp,tn,J,H2,e,I2,T,st2,f2,W,⟨m0,w0⟩,turn⟩:=h2;subst e
 -- what stays true of the iterator's objects through the loop
 have stat:∀{H':Hp},(∀b∈fp,H' b=none)->∀b∈fp,Q_ X pins H' b:=fun hn b hb=>⟨hn b hb,(f2 b hb).2⟩
 refine codeAny_forLoop_any (fun n s'=>∃i σ' H',Inv X pins σ' H' s'/\tn i s'.heap/\(∀b∈fp,H' b=none)/\W i n σ' H') ?_ m0 ⟨0,σ,H2,I2,st2,fun b hb=>(f2 b hb).1,w0⟩;rintro n s3 ⟨i,σ3,H3,I3,st3,fr3,w3⟩;rcases turn i n σ3 H3 w3 with ⟨stop,qn⟩|⟨go,N,hN,step⟩
 ·refine wpAny_passesOwn hp (thn (T.done X rfl rfl rfl hc i pins s3 σ3 H3 X.xe I3 (stat fr3) st3 stop) fun r s4 ⟨hr,I4⟩=>?_);subst hr;exact wpAny_execs_nil ⟨σ3,H3,I4,qn⟩
 ·refine wpAny_passesOwn hp (thn (T.item X rfl rfl rfl hc i pins s3 σ3 H3 X.xe I3 (stat fr3) st3 go) fun r s4 ⟨u,hr,h4⟩=>?_);subst hr;refine wpAny_passesOwn hp (thn h4 fun _ s5 ⟨x,H5,I5,r5,y5,st5,fr5⟩=>?_);have I5':=I5.pinned (stat fr5) (T.obj _ _ st5);refine wpAny_passesOwn hp (thn (hg _ s5 σ3 H5 x u _ I5' r5 (step x H5 y5)) fun _ s6 ⟨σ6,H6,I6,q6⟩=>?_);refine wpAny_passesOwn hp (thn (hb _ s6 σ6 H6 _ I6 q6) fun f s7 q7=>?_);have again:∀{σ7:St} {H7:Hp},Inv X (pins++sE fp s5.heap) σ7 H7 s7->N σ7 H7->∃m,m<n/\∃i σ' H',Inv X pins σ' H' s7/\tn i s7.heap/\(∀b∈fp,H' b=none)/\W i m σ' H':=fun {σ7 H7} I7 n7=>by
   obtain ⟨m',hm,w7⟩:=hN σ7 H7 n7;refine ⟨m',hm,i+1,σ7,H7,I7.mV,T.keep _ _ _ st5 fun b hb o e=>(I7.pin (b,o) (List.mem_append_right _ (List.mem_append_right _ (lF hb e)))).1,fun b hb=>?_,w7⟩;obtain ⟨o,e,d⟩:=T.obj _ _ st5 b hb;exact (I7.pin (b,o) (List.mem_append_right _ (List.mem_append_right _ (lF hb e)))).2.1
  cases f with
  | next=>obtain ⟨σ7,H7,I7,n7⟩:=q7;exact again I7 n7
  | cont=>obtain ⟨σ7,H7,I7,n7⟩:=q7;exact again I7 n7
  | brk=>obtain ⟨σ7,H7,I7,q7⟩:=q7;exact ⟨σ7,H7,I7.mV,q7⟩
  | ret v=>obtain ⟨x7,σ7,H7,I7,r7,q7⟩:=q7;exact ⟨x7,σ7,H7,I7.mV,r7,q7⟩
end
abbrev R2:=V->V->Hp->VK->Prop
def OpR (X:Cx) (f:Value->Value->Sem Value) (r:R2):Prop:=
 ∀(pins:List (Addr×Obj)) (s:Shared) (σ:St) (H:Hp) (x y:V) (v u:Value) (Q:VK),Inv X pins σ H s->RelV x v->RelV y u->r x y H Q->
  wpAny (model X.prog X.w) X.A (f v u) (EP X pins σ Q) X.xe s
def UnR (X:Cx) (f:Value->Sem Value) (r:V->Hp->VK->Prop):Prop:=
 ∀(pins:List (Addr×Obj)) (s:Shared) (σ:St) (H:Hp) (x:V) (v:Value) (Q:VK),Inv X pins σ H s->RelV x v->r x H Q->
  wpAny (model X.prog X.w) X.A (f v) (EP X pins σ Q) X.xe s
def lM (X:Cx) (f:Value) (r:List V->Hp->VK->Prop):Prop:=
 ∀(pins:List (Addr×Obj)) (s:Shared) (σ:St) (H:Hp) (xs:List V) (us:List Value) (Q:VK),Inv X pins σ H s->Vals xs us->r xs H Q->
  wpAny (model X.prog X.w) X.A (call f us) (EP X pins σ Q) X.xe s
def aMx (X:Cx) (r:V->Hp->(Bool->Hp->Prop)->Prop):Prop:=
 ∀(pins:List (Addr×Obj)) (s:Shared) (σ:St) (H:Hp) (x:V) (v:Value) (Q:Bool->Hp->Prop),Inv X pins σ H s->RelV x v->r x H Q->
  wpAny (model X.prog X.w) X.A (truthy v) (TP X pins σ Q) X.xe s
noncomputable def tOp (r:R2) (ta tb:TE):TE:=fun σ H Q=>ta σ H fun x H1=>tb σ H1 fun y H2=>r x y H2 Q
noncomputable def tUn (r:V->Hp->VK->Prop) (ta:TE):TE:=fun σ H Q=>ta σ H fun x H1=>r x H1 Q
noncomputable def rI (C:Int->Int->Prop) (g:Int->Int->V):R2:=fun x y H Q=>∃i j,x=.int i/\y=.int j/\C i j/\Q (g i j) H
noncomputable def rI0 (g:Int->Int->V):R2:=fun x y H Q=>∃i j,x=.int i/\y=.int j/\Q (g i j) H
def rU (g:Int->V):V->Hp->VK->Prop:=fun x H Q=>∃i,x=.int i/\Q (g i) H
section
variable {X:Cx} {a b:Expr} {ta tb:TE} {pos:Pos}
theorem aK0 (ha:PE X a ta) (hb:PE X b tb) {pins:List (Addr×Obj)} {s:Shared} {σ:St} {H:Hp} {R:V->V->Hp->Prop} (I:Inv X pins σ H s)
  (h:ta σ H fun x H1=>tb σ H1 fun y H2=>R x y H2) {Q:Value->Shared->Prop} {f:Value->Value->Sem Value}
  (hf:∀v u s2 x y H2,Inv X pins σ H2 s2->RelV x v->RelV y u->R x y H2->wpAny (model X.prog X.w) X.A (f v u) Q X.xe s2) :
  wpAny (model X.prog X.w) X.A (eval a X.env) (fun v s₁=>wpAny (model X.prog X.w) X.A (eval b X.env) (fun u s₂=>wpAny (model X.prog X.w) X.A (f v u) Q X.xe s₂) X.xe s₁) X.xe s:=by
 refine thn (ha pins s σ H _ I h) fun v s1 ⟨x,H1,I1,r1,q1⟩=>?_
 refine thn (hb pins s1 σ H1 _ I1 q1) fun u s2 ⟨y,H2,I2,r2,q2⟩=>?_
 exact hf v u s2 x y H2 I2 r1 r2 q2
theorem aK1 {op:Operator} {r:R2} (ho:OpR X (binaryOp op) r) (ha:PE X a ta) (hb:PE X b tb):PE X (.BinOp a op b pos) (tOp r ta tb):=by
 intro pins s σ H Q I h;exact wpAny_BinOp (aK0 ha hb I h fun v u s2 x y H2 I2 rx ry q=>ho pins s2 σ H2 x y v u Q I2 rx ry q)
theorem aCw {op:UnaryOp} {r:V->Hp->VK->Prop} (ho:UnR X (unaryOp op) r) (ha:PE X a ta):PE X (.UnaryOp op a pos) (tUn r ta):=by
 intro pins s σ H Q I h;exact UnaryOp_ (thn (ha pins s σ H _ I h) fun v s1 ⟨x,H1,I1,r1,q1⟩=>ho pins s1 σ H1 x v Q I1 r1 q1)
theorem opI {f:Value->Value->Sem Value} {C:Int->Int->Prop} {g:Int->Int->Int}
  (rule:∀(i j:Int) (t u:Tok) (s:Shared) (Q:Value->Shared->Prop) (E:Value->Shared->Prop),C i j->Q (.int (g i j) s.toks) {s with toks:=s.toks+1}->wpAny (model X.prog X.w) X.A (f (.int i t) (.int j u)) Q E s) :
  OpR X f (rI C fun i j=>.int (g i j)):=by
 intro pins s σ H x y v u Q I rx ry h;obtain ⟨i,j,rfl,rfl,hc,q⟩:=h;obtain ⟨t,rfl⟩:=rx;obtain ⟨t',rfl⟩:=ry;exact rule i j t t' s _ _ hc ⟨.int (g i j),H,I.tok _,⟨_,rfl⟩,q⟩
theorem aM3 {f:Value->Value->Sem Value} {g:Int->Int->Int}
  (rule:∀(i j:Int) (t u:Tok) (s:Shared) (Q:Value->Shared->Prop) (E:Value->Shared->Prop),Q (.int (g i j) s.toks) {s with toks:=s.toks+1}->wpAny (model X.prog X.w) X.A (f (.int i t) (.int j u)) Q E s) :
  OpR X f (rI0 fun i j=>.int (g i j)):=by
 intro pins s σ H x y v u Q I rx ry h;obtain ⟨i,j,rfl,rfl,q⟩:=h;obtain ⟨t,rfl⟩:=rx;obtain ⟨t',rfl⟩:=ry;exact rule i j t t' s _ _ ⟨.int (g i j),H,I.tok _,⟨_,rfl⟩,q⟩
def aMy (i j:Int):Prop:=0<j/\j<1073741824
def aK2 (i j:Int):Prop:=(-(2 ^ 64)<i/\i<2 ^ 64)\/(-(2 ^ 64)<j/\j<2 ^ 64)
theorem aK2.ok {i j:Int} (h:aK2 i j):IntMulOk i j:=by
 rcases h with ⟨h1,h2⟩|⟨h1,h2⟩
 ·exact .of_left (intBits_le_64 h1 h2)
 ·exact .of_right (intBits_le_64 h1 h2)
theorem aGh:OpR X (binaryOp .Add) (rI0 fun i j=>.int (i+j)):=aM3 fun _ _ _ _ _ _ _ q=>add_int q
theorem aGi:OpR X (binaryOp .Sub) (rI0 fun i j=>.int (i-j)):=aM3 fun _ _ _ _ _ _ _ q=>sub_int q
theorem aGj:OpR X (binaryOp .Mult) (rI aK2 fun i j=>.int (i*j)):=opI fun _ _ _ _ _ _ _ hc q=>mul_int q hc.ok
theorem aCx:OpR X (binaryOp .FloorDiv) (rI aMy fun i j=>.int (i / j)):=opI fun i j _ _ _ _ _ hc q=>by
 have h1:(0:Int)<j:=hc.1;have h2:j<1073741824:=hc.2;exact floordiv_int (by lia) (by rw [Int.fdiv_eq_ediv_of_nonneg i (by lia)];exact q) (.inl (PyProof.noPylong_small (by lia)))
theorem aGk:OpR X (binaryOp .Mod) (rI (fun _ j=>0<j) fun i j=>.int (i % j)):=opI fun i j _ _ _ _ _ hc q=>by
 have h1:(0:Int)<j:=hc;exact mod_int' (by lia) (by rw [Int.fmod_eq_emod_of_nonneg i (by lia)];exact q)
theorem unI {f:Value->Sem Value} {g:Int->Int}
  (rule:∀(i:Int) (t:Tok) (s:Shared) (Q:Value->Shared->Prop) (E:Value->Shared->Prop),Q (.int (g i) s.toks) {s with toks:=s.toks+1}->wpAny (model X.prog X.w) X.A (f (.int i t)) Q E s) :
  UnR X f (rU fun i=>.int (g i)):=by
 intro pins s σ H x v Q I rx h;obtain ⟨i,rfl,q⟩:=h;obtain ⟨t,rfl⟩:=rx;exact rule i t s _ _ ⟨.int (g i),H,I.tok _,⟨_,rfl⟩,q⟩
theorem R1:UnR X (unaryOp .USub) (rU fun i=>.int (-i)):=unI fun _ _ _ _ _ q=>neg_int q
end
section
variable {X:Cx} {a b c:Expr} {ta tb:TE} {pos:Pos}
theorem aBt {pins:List (Addr×Obj)} {σ:St} {H:Hp} {s:Shared} {Q:VK} {k k':Bool} (I:Inv X pins σ H s) (q:Q (.bl k) H) (e:k=k'):EP X pins σ Q (.bool k') s:=by
 subst e;exact ⟨.bl k,H,I,rfl,q⟩
theorem R3:OpR X (compareOp .In) (fun x y H Q=>∃i j,x=.str i/\y=.str j/\Q (.bl (!(Builtin.Str.occurrences j i 0 j.length 1).isEmpty)) H):=by
 intro pins s σ H x y v u Q I rx ry h;obtain ⟨i,j,rfl,rfl,q⟩:=h;obtain ⟨t,rfl⟩:=rx;obtain ⟨t',rfl⟩:=ry;exact in_str (aBt I q rfl)
theorem aGl:OpR X (compareOp .Is) (fun x y H Q=>y=.non/\Q (.bl (decide (x=.non))) H):=by
 intro pins s σ H x y v u Q I rx ry h;obtain ⟨rfl,q⟩:=h;cases ry;refine is_none_gen (aBt I q ?_);cases x <;> first
  | (cases rx;rfl)
  | (obtain ⟨t,rfl⟩:=rx;rfl)
theorem fV (b:Expr) {op:CmpOp} (h:op≠.In:=by decide) (h2:op≠.NotIn:=by decide):behindInMarks op b=false:=by
 have e1:(op==CmpOp.In)=false:=by cases op <;> first|rfl|exact absurd rfl h
 have e2:(op==CmpOp.NotIn)=false:=by cases op <;> first|rfl|exact absurd rfl h2
 cases b <;> simp [behindInMarks,e1,e2]
theorem aCy {op:CmpOp} {r:R2} (ho:OpR X (compareOp op) r) (ha:PE X a ta) (hb:PE X b tb) (hm:behindInMarks op b=false):PE X (.Compare a [op] [b] pos) (tOp r ta tb):=by
 intro pins s σ H Q I h;exact wpAny_Compare1 (aK0 ha hb I h fun v u s2 x y H2 I2 rx ry q=>ho pins s2 σ H2 x y v u Q I2 rx ry q) hm
noncomputable def aK3 (t:TE):TT:=fun σ H Q=>t σ H fun x H'=>∃k,x=.bl k/\Q k H'
theorem aCz {op:CmpOp} {r:R2} (ho:OpR X (compareOp op) r) (ha:PE X a ta) (hb:PE X b tb) (hm:behindInMarks op b=false):PT X (.Compare a [op] [b] pos) (aK3 (tOp r ta tb)):=by
 intro pins s σ H Q I h;refine wpAny_isTrue_Compare1 (thn (ha pins s σ H _ I h) fun v s1 ⟨x,H1,I1,r1,q1⟩=>thn (hb pins s1 σ H1 _ I1 q1) fun u s2 ⟨y,H2,I2,r2,q2⟩=>
  thn (ho pins s2 σ H2 x y v u _ I2 r1 r2 q2) fun c s3 ⟨z,H3,I3,r3,k,e,q3⟩=>?_) hm
 subst e;cases r3;exact wpAny_truthy_bool ⟨H3,I3,q3⟩
def aJa (K:PySem.W.Frag) (x:V) (H:Hp) (k:Bool):Prop:=
 match x with
 | .non=>k=false
 | .bl b=>k=b
 | .int i=>k=(i != 0)
 | .str y=>y.length<=sizeLine/\k=((y.length:Int) != 0)
 | .byt y=>y.size<=sizeLine/\k=((y.size:Int) != 0)
 | .ref p=>(∃xs,SqL K H p xs/\k=!xs.isEmpty)\/(∃xs,SqT K H p xs/\k=!xs.isEmpty)\/∃kvs,H p=some (.dK kvs)/\k=!kvs.isEmpty
 | _=>False
theorem N_ {κ:Type} {kvs:List (κ×V)} {vs:List (κ×Value)} (r:KV kvs vs):(!vs.isEmpty)=!kvs.isEmpty:=by
 cases r <;> rfl
theorem wD {xs:List V} {its:List Value} (r:Vals xs its):(!its.toArray.isEmpty)=!xs.isEmpty:=by
 cases r <;> simp
theorem sG:(sizeLine:Nat)<2 ^ 63:=by rw [sizeLine_eq];decide
theorem aGm:aMx X (fun x H Q=>∃k,aJa X.K x H k/\Q k H):=by
 intro pins s σ H x v Q I rx h;obtain ⟨k,e,q⟩:=h;have hl:=sG;have hs:sizeLine=16777216:=sizeLine_eq;cases x with
 | non=>
  cases rx;have e':k=false:=e;subst e';exact truthy_none ⟨H,I,q⟩
 | bl b=>
  cases rx;have e':k=b:=e;subst e';exact wpAny_truthy_bool ⟨H,I,q⟩
 | int i=>
  obtain ⟨t,rfl⟩:=rx;have e':k=(i != 0):=e;subst e';exact PySem.P.truthy_int ⟨H,I,q⟩
 | str y=>
  obtain ⟨t,rfl⟩:=rx;obtain ⟨hy,e'⟩:y.length<=sizeLine/\k=((y.length:Int) != 0):=e;subst e';exact PySem.P.truthy_str (by lia) ⟨H,I.tok _,q⟩
 | byt y=>
  obtain ⟨t,rfl⟩:=rx;obtain ⟨hy,e'⟩:y.size<=sizeLine/\k=((y.size:Int) != 0):=e;subst e';exact PySem.W.truthy_bytes (by lia) ⟨H,I.tok _,q⟩
 | ref p=>
  cases rx;have e':(∃xs,SqL X.K H p xs/\k=!xs.isEmpty)\/(∃xs,SqT X.K H p xs/\k=!xs.isEmpty)\/∃kvs,H p=some (.dK kvs)/\k=!kvs.isEmpty:=e;rcases e' with ⟨xs,hx,e'⟩|⟨xs,hx,e'⟩|⟨kvs,hx,e'⟩
  ·subst e';obtain ⟨its,r,pl,hz⟩:=I.list hx;have hlen:=r.length;exact wpAny_truthy_list pl.isList (by simp only [List.size_toArray];lia) ⟨H,I.tok _,by rw [wD r];exact q⟩
  ·subst e';obtain ⟨its,r,pl,hz⟩:=I.tuple hx;have hlen:=r.length;exact truthy_tuple pl (by simp only [List.size_toArray];lia) ⟨H,I.tok _,by rw [wD r];exact q⟩
  ·subst e';obtain ⟨hz,hS,vs,r,m⟩:kvs.length<=sizeLine/\(p==sysModules)=false/\∃vs,KV kvs vs/\s.heap.DictOf (bU X.prog X.w) p vs:=I.hok p _ hx;have hlen:kvs.length=vs.length:=Paired.length r;exact wpAny_truthy_dict hS m (by lia) ⟨H,I.tok _,by rw [N_ r];exact q⟩
 | _=>exact (show False from e).elim
theorem JS (ha:PE X a ta) (he:∀whole,isTrue a X.env whole=(do let v <- whole;standAt a.pos;holding [v] (truthy v))) :
  PT X a (fun σ H Q=>ta σ H fun x H'=>∃k,aJa X.K x H' k/\Q k H'):=by
 intro pins s σ H Q I h;exact isTrue_plain (thn (ha pins s σ H _ I h) fun v s1 ⟨x,H1,I1,r1,q1⟩=>aGm pins s1 σ H1 x v Q I1 r1 q1) (he _)
theorem OD:OpR X (binaryOp .Add) (fun x y H Q=>∃i j,x=.str i/\y=.str j/\i.length+j.length<=sizeLine/\Q (.str (i++j)) H):=by
 intro pins s σ H x y v u Q I rx ry h;obtain ⟨i,j,rfl,rfl,hz,q⟩:=h;obtain ⟨t,rfl⟩:=rx;obtain ⟨t',rfl⟩:=ry;exact add_str (fun t' tk=>⟨.str (i++j),H,I.tok _,⟨_,rfl⟩,q⟩) hz
theorem vals1 {x:V} {us:List Value} (r:Vals [x] us):∃u,us=[u]/\RelV x u:=by
 cases r with
 | cons r1 r2=>cases r2;exact ⟨_,rfl,r1⟩
end
structure aD0 (h:Heap) (x dx C:Addr) (mA:Str->Option Value):Prop where
 obj:h.get? x=some (PySem.W.instObj C dx)
 ns:h.Ns1 dx mA
 ne:dx≠x
theorem R4 {h:Heap} {dx:Addr} {mA:Str->Option Value} (n:h.Ns1 dx mA):∃od,h.get? dx=some od/\∀name,PySem.W.lookIn name od=some (mA name):=by
 obtain ⟨o,es,ep,ho,hd,hk,_,hm⟩:=n;refine ⟨o,ho,fun name=>?_⟩;have e:=hm name;unfold nsFind findBy at e;rw [<-Array.find?_toList] at e;unfold PySem.W.lookIn;rw [hd];dsimp only;split
 ·rename_i y q;rw [q] at e;exact congrArg some e
 ·rename_i q;rw [q] at e;have a:es.toList.any (·.refKey)=false:=by
   rw [List.any_eq_false];intro y hy;obtain ⟨z,t,hkey⟩:=hk y (Array.mem_toList_iff.mp hy);simp [DictEntry.refKey,hkey]
  have a':¬es.toList.any (·.refKey)=true:=by rw [a];exact Bool.false_ne_true
  rw [if_neg a'];exact congrArg some e
theorem aD0.look {h:Heap} {x dx C:Addr} {mA:Str->Option Value} (I:aD0 h x dx C mA):∃od,PySem.W.InstAt h x (PySem.W.instObj C dx) C (some od)/\∀name,PySem.W.lookIn name od=some (mA name):=
 let ⟨od,ho,hl⟩:=R4 I.ns
 ⟨od,⟨I.obj,rfl,rfl,ho⟩,hl⟩
section
variable {prog:Program} {w:World} {A:Around} {E:Value->Shared->Prop} {s:Shared} {K:PySem.W.Frag} {x dx C f:Addr} {mA:Str->Option Value} {name:Str} {v:Value}
theorem xJ {expr:Bool} {Q:Value->Shared->Prop} (X:K.In s.heap) (I:aD0 s.heap x dx C mA) (hg:PySem.W.plainGet K C name=true) (hh:PySem.W.hasDictIn K C=true)
  (ha:PySem.W.findIn K (.ref C) name=some none) (hv:mA name=some v) (hv':PySem.W.handedIn v=true) (h:Q v {s with toks:=s.toks+1}) :
  wpAny (model prog w) A (getAttr (.ref x) name expr) Q E s:=by
 obtain ⟨od,J,hl⟩:=I.look;exact PySem.W.get_value X J (PySem.W.plainGet_of hg).1 (PySem.W.findObj_own hh ha rfl (by rw [hl,hv])) hv' h
theorem ZJ {pl:Sem Bool} {Q:Value×List Value->Shared->Prop} (X:K.In s.heap) (I:aD0 s.heap x dx C mA) (hg:PySem.W.plainGet K C name=true)
  (hf:PySem.W.findIn K (.ref C) name=some (some (.ref f))) (ht:PySem.W.isFn K (.ref f)=true) (hv:mA name=none) (h:Q (.ref f,[.ref x]) s) :
  wpAny (model prog w) A (getMethod (.ref x) name pl) Q E s:=by
 obtain ⟨od,J,hl⟩:=I.look;exact PySem.W.method_fn X J (PySem.W.plainGet_of hg).1 (PySem.W.plainGet_of hg).2 hf (beq_iff_eq.mp ht) (by show (PySem.W.lookIn name od).map (·.isSome)=some false;rw [hl,hv];rfl) h
theorem aD1 {ns:List Str} {Q:Unit->Shared->Prop} (X:K.In s.heap) (I:aD0 s.heap x dx C mA)
  (hs:PySem.W.findIn K (.ref C) "__setattr__" = some (some (.builtin "object.__setattr__"))) (hp:PySem.W.plainOver K C=true) (ht:PySem.W.takerIn K C name=some none) (hh:PySem.W.hasDictIn K C=true)
  (hw:PySem.Within mA ns) (hsz:ns.length<=sizeLine)
  (h:∀h',aD0 h' x dx C (fun y=>if y=name then some v else mA y)->Heap.SameBut dx s.heap h'->Q () {s with heap:=h',toks:=s.toks+2}) :
  wpAny (model prog w) A (setAttr (.ref x) name v) Q E s:=by
 obtain ⟨od,J,hl⟩:=I.look;refine PySem.W.set_plain X J hs (PySem.W.osa_open (s:={s with toks:=s.toks+1}) (r:=none) X J hp ht fun b=>?_);obtain ⟨cd,hc,hd'⟩:=PySem.W.any_some hh;have hx:s.heap.get? x=some ⟨.ref C,some dx,.plain,#[]⟩:=I.obj;refine wpAny_bind (wpAny_pure (wpAny_bind (wpAny_bind (wpAny_loadPart hx (wpAny_bind (PySem.W.Looks.here (s:={s with toks:=s.toks+1}) (PySem.W.looks_clsIn X hc) ?_))))));rw [hd'];refine wpAny_pure (a:=some dx) (wpAny_bind (wpAny_pure (wpAny_bind ?_)));refine wpAny_nsSet1 (s:={s with toks:=s.toks+1}) I.ns fun h' hn2 hs2=>?_
 obtain ⟨oD,esD,epD,hoD,hdD,hcD⟩:=hn2.count (PySem.Within.cons name v hw);refine wpAny_bind (wpAny_lookBehind hoD (by rw [hdD];exact pastItsLine_dict (Nat.le_trans hcD (by rw [List.length_cons];lia))) ?_);exact wpAny_pure (h _ ⟨(hs2.2 _ (Ne.symm I.ne)).trans I.obj,hn2,I.ne⟩ hs2)
theorem ZK {R:Result->Shared->Prop} {vs:List Value} {kw:List (Str×Value)} (X:K.In s.heap) (hm:PySem.W.makesIn K C=true)
  (hi:PySem.W.findIn K (.ref C) "__init__" = some (some (.ref f))) (hf:PySem.W.typeIn K (.ref f)=some (.type "function"))
  (h:codeAny (model prog w) (A.under (.builtin "type.__call__" ⟨.ref C::vs,kw⟩)) (.call (.ref f) ⟨.ref (s.heap.objs.size+1)::vs,kw⟩) (PySem.W.InitBack (s.heap.objs.size+1) R)
   {s with heap:=(s.heap.push PySem.W.emptyDict).push (PySem.W.instObj C s.heap.objs.size)}) :
  codeAny (model prog w) A (.call (.ref C) ⟨vs,kw⟩) R s:=by
 obtain ⟨hh,g,d,t,os⟩:=s;exact PySem.W.make_core (PySem.W.makes_of X hm) (PySem.W.looks_findIn X hi) (fun self=>PySem.W.bind_fn X self hf) (.inl rfl) h
end
noncomputable def oA (f:Str) (v:V):List (Str×V)->List (Str×V)
 | []=>[(f,v)]
 | (g,x)::r=>if g=f then (g,v)::r else (g,x)::oA f v r
theorem sI (f g:Str) (v:V):∀fs:List (Str×V),(oA f v fs).lookup g=if g=f then some v else fs.lookup g
 | []=>by
  show List.lookup g [(f,v)]=_;by_cases h:g=f
  ·have hb:(g==f)=true:=beq_iff_eq.mpr h;simp only [List.lookup,hb,if_pos h]
  ·have hb:(g==f)=false:=beq_eq_false_iff_ne.mpr h;simp only [List.lookup,hb,if_neg h]
 | (k,x)::r=>by
  have ih:=sI f g v r;rw [show oA f v ((k,x)::r)=(if k=f then (k,v)::r else (k,x)::oA f v r) from rfl];by_cases hk:k=f
  ·rw [if_pos hk];by_cases h:g=k
   ·have hb:(g==k)=true:=beq_iff_eq.mpr h;simp only [List.lookup,hb,if_pos (h.trans hk)]
   ·have hb:(g==k)=false:=beq_eq_false_iff_ne.mpr h;simp only [List.lookup,hb,if_neg (fun e:g=f=>h (e.trans hk.symm))]
  ·rw [if_neg hk];by_cases h:g=k
   ·have hb:(g==k)=true:=beq_iff_eq.mpr h;simp only [List.lookup,hb,if_neg (fun e:g=f=>hk (h.symm.trans e))]
   ·have hb:(g==k)=false:=beq_eq_false_iff_ne.mpr h;simp only [List.lookup,hb];exact ih
theorem sJ (f:Str) (v:V):∀fs:List (Str×V),f∈(oA f v fs).map (·.1)/\∀g,g∈fs.map (·.1)->g∈(oA f v fs).map (·.1)
 | []=>⟨by simp [oA],fun g h=>by simp at h⟩
 | (k,x)::r=>by
  obtain ⟨i1,i2⟩:=sJ f v r;rw [show oA f v ((k,x)::r)=(if k=f then (k,v)::r else (k,x)::oA f v r) from rfl];by_cases hk:k=f
  ·rw [if_pos hk];subst hk;exact ⟨by simp,fun g h=>by simpa using h⟩
  ·rw [if_neg hk];refine ⟨?_,fun g h=>?_⟩
   ·rw [List.map_cons];exact List.mem_cons_of_mem _ i1
   ·rw [List.map_cons] at h ⊢;rcases List.mem_cons.mp h with e|e
    ·exact List.mem_cons.mpr (.inl e)
    ·exact List.mem_cons_of_mem _ (i2 g e)
theorem sO (f:Str) (v:V):∀fs:List (Str×V),(oA f v fs).length<=fs.length+1
 | []=>by simp [oA]
 | (k,x)::r=>by
  have ih:=sO f v r;rw [show oA f v ((k,x)::r)=(if k=f then (k,v)::r else (k,x)::oA f v r) from rfl];by_cases hk:k=f
  ·rw [if_pos hk,List.length_cons,List.length_cons];lia
  ·rw [if_neg hk,List.length_cons,List.length_cons];lia
theorem FJ.some_of {v:V} {o:Option Value} (r:FJ (some v) o):∃u,o=some u/\RelV v u:=by
 cases o with
 | none=>exact (show False from r).elim
 | some u=>exact ⟨u,rfl,r⟩
theorem FJ.none_of {o:Option Value} (r:FJ none o):o=none:=by
 cases o with
 | none=>rfl
 | some u=>exact (show False from r).elim
theorem R5 {v:V} {u:Value} (r:RelV v u):PySem.W.handedIn u=true:=by
 cases v with
 | non=>cases (show u=Value.none from r);rfl
 | bl b=>cases (show u=Value.bool b from r);rfl
 | int i=>obtain ⟨t,e⟩:=(show ∃t,u=Value.int i t from r);cases e;rfl
 | str x=>obtain ⟨t,e⟩:=(show ∃t,u=Value.str x t from r);cases e;rfl
 | byt b=>obtain ⟨t,e⟩:=(show ∃t,u=Value.bytes b t from r);cases e;rfl
 | flt b=>obtain ⟨t,e⟩:=(show ∃t,u=Value.float b t from r);cases e;rfl
 | ref a=>cases (show u=Value.ref a from r);rfl
 | ty n=>cases (show u=Value.type n from r);rfl
section
variable {P:Program} {w:World} {H:Hp} {h:Heap} {a C dx:Addr} {fs:List (Str×V)}
theorem GF (hok:HOk P w H h) (e:H a=some (.ins C dx fs)):∃mA,aD0 h a dx C mA/\(∀f,FJ (fs.lookup f) (mA f))/\PySem.Within mA (fs.map (·.1))/\fs.length<=1000/\H dx=some (.own a):=by
 obtain ⟨d,z,ne,ob,mA,n,r,q⟩:=(show eQ P w H h a (.ins C dx fs) from hok a _ e)
 exact ⟨mA,⟨ob,n,ne⟩,r,q,z,d⟩
end
structure Cls (K:PySem.W.Frag) (C:Addr):Prop where
 pg:PySem.W.plainGet K C Str.empty=true
 hd:PySem.W.hasDictIn K C=true
 po:PySem.W.plainOver K C=true
 sa:PySem.W.findIn K (.ref C) "__setattr__" = some (some (.builtin "object.__setattr__"))
theorem Cls.get {K:PySem.W.Frag} {C:Addr} (c:Cls K C) (f:Str):PySem.W.plainGet K C f=true:=c.pg
def bZ (K:PySem.W.Frag) (C:Addr) (f:Str):Prop:=PySem.W.findIn K (.ref C) f=some none
theorem bZ.taker {K:PySem.W.Frag} {C:Addr} {f:Str} (n:bZ K C f):PySem.W.takerIn K C f=some none:=by
 unfold PySem.W.takerIn;rw [show PySem.W.findIn K (.ref C) f=some none from n];rfl
structure Meth (K:PySem.W.Frag) (C:Addr) (m:Str) (f:Addr):Prop where
 at_:PySem.W.findIn K (.ref C) m=some (some (.ref f))
 fn:PySem.W.isFn K (.ref f)=true
 kp:PySem.W.keepIn K (.ref f)=true
section
variable {X:Cx} {pins:List (Addr×Obj)} {σ:St} {H:Hp} {s:Shared} {a C dx:Addr} {fs:List (Str×V)} {f:Str} {v:V} {A:Around} {E:Value->Shared->Prop}
theorem OJ {b:Bool} {Q:Value->Shared->Prop} (I:Inv X pins σ H s) (e:H a=some (.ins C dx fs)) (c:Cls X.K C) (n:bZ X.K C f) (l:fs.lookup f=some v)
  (h:∀u s',Inv X pins σ H s'->RelV v u->Q u s'):wpAny (model X.prog X.w) A (getAttr (.ref a) f b) Q E s:=by
 obtain ⟨mA,O,r,_,_,_⟩:=GF I.hok e;obtain ⟨u,hu,ru⟩:=FJ.some_of (v:=v) (o:=mA f) (by rw [<-l];exact r f);exact xJ I.kIn O (c.get f) c.hd n hu (R5 ru) (h u _ (I.tok _) ru)
theorem O3 {m:Str} {g:Addr} {pl:Sem Bool} {Q:Value×List Value->Shared->Prop} (I:Inv X pins σ H s) (e:H a=some (.ins C dx fs)) (c:Cls X.K C) (k:Meth X.K C m g) (l:fs.lookup m=none)
  (h:Q (.ref g,[.ref a]) s):wpAny (model X.prog X.w) A (getMethod (.ref a) m pl) Q E s:=by
 obtain ⟨mA,O,r,_,_,_⟩:=GF I.hok e;have hn:mA m=none:=FJ.none_of (by rw [<-l];exact r m);exact ZJ I.kIn O (c.get m) k.at_ k.fn hn h
theorem O4 {y:V} {u:Value} {Q:Unit->Shared->Prop} (I:Inv X pins σ H s) (e:H a=some (.ins C dx fs)) (c:Cls X.K C) (n:bZ X.K C f) (hl:fs.length<1000) (ry:RelV y u)
  (h:∀s',Inv X pins σ (upd H a (.ins C dx (oA f y fs))) s'->Q () s'):wpAny (model X.prog X.w) A (setAttr (.ref a) f u) Q E s:=by
 obtain ⟨mA,O,r,wi,_,ho⟩:=GF I.hok e;have hz:(fs.map (·.1)).length<=sizeLine:=by rw [List.length_map,sizeLine_eq];lia
 refine aD1 I.kIn O c.sa c.po n.taker c.hd wi hz fun h' O' sb=>h _ ?_
 have hd:∃o,h'.get? dx=some o:=let ⟨o,_,_,e',_⟩:=O'.ns;⟨o,e'⟩
 refine I.write (x:=a) (e:=dx) (by rw [e];exact True.intro) (.inr ho) (fun b q hb z=>(sb.2 b hb).trans z) hd ?_;refine ⟨by rw [aN O.ne];exact ho,?_,O.ne,O'.obj,_,O'.ns,fun g=>?_,fun g hg=>?_⟩
 ·have:=sO f y fs;lia
 ·show FJ ((oA f y fs).lookup g) (if g=f then some u else mA g);rw [sI];by_cases q:g=f
  ·rw [if_pos q,if_pos q];exact ry
  ·rw [if_neg q,if_neg q];exact r g
 ·by_cases q:g=f
  ·rw [q];exact (sJ f y fs).1
  ·refine (sJ f y fs).2 g (wi g fun z=>hg ?_);show (if g=f then some u else mA g)=none;rw [if_neg q];exact z
theorem Inv.made (I:Inv X pins σ H s):Inv X pins σ (upd (upd H s.heap.objs.size (.own (s.heap.objs.size+1))) (s.heap.objs.size+1) (.ins C s.heap.objs.size []))
  {s with heap:=(s.heap.push PySem.W.emptyDict).push (PySem.W.instObj C s.heap.objs.size)}:=by
 have e1:(s.heap.push PySem.W.emptyDict).get? s.heap.objs.size=some PySem.W.emptyDict:=Heap.get?_push_size s.heap rfl;have e2:((s.heap.push PySem.W.emptyDict).push (PySem.W.instObj C s.heap.objs.size)).get? (s.heap.objs.size+1)=some (PySem.W.instObj C s.heap.objs.size):=by
  have:=Heap.get?_push_size (s.heap.push PySem.W.emptyDict) (o:=PySem.W.instObj C s.heap.objs.size) rfl;rwa [Heap.size_push] at this
 have e3:(s.heap.push PySem.W.emptyDict).Ns s.heap.objs.size (fun _=>none):=⟨PySem.W.emptyDict,#[],_,e1,rfl,(fun e he=>absurd he (by simp)),fun _=>rfl⟩
 have I1:=I.laid (a:=s.heap.objs.size) (o:=.own (s.heap.objs.size+1)) (h':=s.heap.push PySem.W.emptyDict) (t':=s.toks) (fun b u q=>Heap.get?_push_of_some _ q) (Nat.le_refl _) ⟨_,e1⟩;refine I1.laid (a:=s.heap.objs.size+1) (o:=.ins C s.heap.objs.size []) (t':=s.toks) (fun b u q=>Heap.get?_push_of_some _ q) (Nat.le_of_eq (Heap.size_push _ _)) ?_;have ne:s.heap.objs.size≠s.heap.objs.size+1:=Nat.ne_of_lt (Nat.lt_succ_self _);refine ⟨by rw [aN ne,aF],Nat.zero_le _,ne,e2,fun _=>none,(Heap.Ns1.of_empty e3).at fun o q=>Heap.get?_push_of_some _ q,fun _=>True.intro,fun y hy=>absurd rfl hy⟩
theorem aD2 {prog:Program} {w:World} {env:Env} {e:Expr} {f:Str} {pos:Pos} {s:Shared} {Q:Value->Shared->Prop} (hb:attributeBase e f env (eval e env)=eval e env)
  (h:wpAny (model prog w) A (eval e env) (fun o s₁=>wpAny (model prog w) A (getAttr o f true) Q E s₁) E s):wpAny (model prog w) A (eval (.Attribute e f pos) env) Q E s:=
 Attribute_any_ h (by rw [arm_eval_Attribute,hb])
end
noncomputable def JT (K:PySem.W.Frag) (ta:TE) (f:Str):TE:=fun σ H Q=>ta σ H fun x H1=>∃a C dx fs v,x=.ref a/\H1 a=some (.ins C dx fs)/\Cls K C/\bZ K C f/\fs.lookup f=some v/\Q v H1
def aFy (K:PySem.W.Frag) (ta tv:TE) (f:Str):TS:=fun D σ H=>tv σ H fun y H1=>ta σ H1 fun x H2=>∃a C dx fs,x=.ref a/\H2 a=some (.ins C dx fs)/\Cls K C/\bZ K C f/\fs.length<1000/\
 D.nx σ (upd H2 a (.ins C dx (oA f y fs)))
section
variable {X:Cx} {o e value:Expr} {f:Str} {pos pos':Pos} {ta tv:TE}
theorem gW (he:PE X e ta) (hb:attributeBase e f X.env (eval e X.env)=eval e X.env):PE X (.Attribute e f pos) (JT X.K ta f):=by
 intro pins s σ H Q I h;refine aD2 hb (thn (he pins s σ H _ I h) fun u s1 ⟨x,H1,I1,rx,a,C,dx,fs,v,ex,ea,c,n,l,q⟩=>?_);subst ex;obtain rfl:u=Value.ref a:=rx;exact OJ I1 ea c n l fun u' s2 I2 ru=>⟨v,H1,I2,ru,q⟩
theorem gY (ha:PE X o ta) (hv:PE X value tv) (hs:swapsWith value (some (.Attribute o f pos')) pos.line X.env=pure false):PS X (.Assign [.Attribute o f pos'] value pos) (aFy X.K ta tv f):=by
 intro pins s σ H D I h;refine plainObj_wpAny_Assign_Attribute (thn (hv pins s σ H _ I h) fun u s1 ⟨y,H1,I1,ry,q⟩=>thn (ha pins s1 σ H1 _ I1 q) fun ov s2 ⟨x,H2,I2,rx,a,C,dx,fs,ex,ea,c,n,l,q2⟩=>?_) hs;subst ex;obtain rfl:ov=Value.ref a:=rx;exact O4 I2 ea c n l ry fun s3 I3=>⟨σ,_,I3,q2⟩
end
structure lG (k:Nat) (A:Around):Prop where
 hd:A.handled=none
 dp:A.depth+3*k+5<recursionLimit
 un:A.units+16*k+200<cLine
theorem lG.mono {j k:Nat} {A:Around} (r:lG k A) (h:j<=k):lG j A:=⟨r.hd,by have:=r.dp;lia,by have:=r.un;lia⟩
theorem lG.deeper {k:Nat} {A:Around} (r:lG (k+1) A) (env:Env):lG k (A.deeper env):=
 ⟨r.hd,by have:=r.dp;show A.depth+1+3*k+5<_;lia,by have:=r.un;show A.units+3+16*k+200<_;lia⟩
theorem O5 {A:Around} {C:Addr} {us:List Value} {kw:List (Str×Value)}:(A.under (.builtin "type.__call__" ⟨.ref C::us,kw⟩)).depth=A.depth+1:=by
 first|rfl|simp [Around.under,Code.weight,Code.isCreation,Code.isGuard,Code.isCaller,Code.frames,Code.isFrame,guardIds]
theorem O6 {A:Around} {C:Addr} {us:List Value} {kw:List (Str×Value)}:(A.under (.builtin "type.__call__" ⟨.ref C::us,kw⟩)).units=A.units+1:=by
 first|rfl|simp [Around.under,Code.cUnits,Code.frames,Code.isFrame]
theorem lG.make {k:Nat} {A:Around} (r:lG (k+1) A) (C:Addr) (us:List Value) (kw:List (Str×Value)):lG k (A.under (.builtin "type.__call__" ⟨.ref C::us,kw⟩)):=
 ⟨r.hd,by have:=r.dp;rw [O5];lia,by have:=r.un;rw [O6];lia⟩
theorem lG.depth {k:Nat} {A:Around} (r:lG k A):A.depth<recursionLimit:=by have:=r.dp;lia
theorem lG.units {k:Nat} {A:Around} (r:lG k A):A.units+64<cLine:=by have:=r.un;lia
noncomputable def sS:TA:=fun _ H Q=>Q [] H
noncomputable def cR (ta:TE) (tr:TA):TA:=fun σ H Q=>ta σ H fun x H1=>tr σ H1 fun xs H2=>Q (x::xs) H2
section
variable {X:Cx} {e:Expr} {es:List Expr} {te:TE} {t:TA} {pos:Pos}
theorem dM:PA X [] sS:=fun _ _ _ _ H Q I h=>Calls.spliced_nil ⟨[],H,I,.nil,h⟩
theorem bD (ha:PE X e te) (hr:PA X es t) (hs:starEach (e::es) X.env=(false,eval e X.env)::starEach es X.env:=by rfl):PA X (e::es) (cR te t):=by
 intro pos pins s σ H Q I h;rw [hs];show wpAny _ _ (spliced ((false,eval e X.env)::backTo pos (starEach es X.env))) _ _ s;refine Calls.spliced_cons (thn (ha pins s σ H _ I h) fun u s1 ⟨x,H1,I1,r1,q1⟩=>?_);exact thn (hr pos pins s1 σ H1 _ I1 q1) fun us s2 ⟨xs,H2,I2,r2,q2⟩=>⟨x::xs,H2,I2,.cons r1 r2,q2⟩
def aM4 (t:TA):TE:=fun σ H Q=>t σ H fun xs H1=>xs.length<=sizeLine/\∀p,H1 p=none->Q (.ref p) (upd H1 p (.tup xs))
def aJb (t:TA):TE:=fun σ H Q=>t σ H fun xs H1=>xs.length<=sizeLine/\∀p,H1 p=none->Q (.ref p) (upd H1 p (.lst xs))
theorem R6 {x1} (h:PA X es t):PE X (.Tuple es x1 pos) (aM4 t):=by
 intro pins s σ H Q I hq;refine wpAny_Tuple_spliced (thn (h pos pins s σ H _ I hq) fun us s1 ⟨xs,H1,I1,r,z,q⟩=>⟨by rw [<-r.length];exact z,?_⟩);have hf:H1 s1.heap.objs.size=none:=I1.hok.fresh (Nat.le_refl _);refine ⟨.ref s1.heap.objs.size,upd H1 s1.heap.objs.size (.tup xs),I1.laid (t':=s1.toks) (fun b u e=>Heap.get?_push_of_some _ e) (Nat.le_refl _) ?_,rfl,q _ hf⟩;exact ⟨z,us,r,⟨_,Heap.get?_push_size _ rfl,rfl,_,rfl⟩⟩
theorem R7 (h:PA X es t):PE X (.List es pos) (aJb t):=by
 intro pins s σ H Q I hq;refine wpAny_List_spliced (thn (h pos pins s σ H _ I hq) fun us s1 ⟨xs,H1,I1,r,z,q⟩=>⟨by rw [<-r.length];exact z,?_⟩);have hf:H1 s1.heap.objs.size=none:=I1.hok.fresh (Nat.le_refl _);refine ⟨.ref s1.heap.objs.size,upd H1 s1.heap.objs.size (.lst xs),I1.laid (t':=s1.toks) (fun b u e=>Heap.get?_push_of_some _ e) (Nat.le_refl _) ?_,rfl,q _ hf⟩;exact ⟨z,us,0,r,Heap.get?_push_size _ rfl⟩
end
abbrev Sp:=List V->Hp->VK->XK->Prop
abbrev CXT:=List Env->Hp->Shared->XK->Value->Shared->Prop
structure aD3 (P:Program) (w:World) (K:PySem.W.Frag) (mg:Str->Option Value) (base:Heap) (A:Around) (outer:List Env) (s:Shared) (H:Hp):Prop where
 frames:A.frames=some outer
 mod:Mod K mg base
 bs:∀b o,base.get? b=some o->s.heap.get? b=some o/\H b=none
 bsz:base.objs.size<=s.heap.objs.size
 NZ:s.heap.FunFrames base outer
 frf:∀b∈frs outer,H b=none
 hok:HOk P w H s.heap
 bare:AllBare s.gens
def CE (outer:List Env) (P:Program) (w:World) (H:Hp) (s:Shared) (Q:VK) (u:Value) (s':Shared):Prop:=
 ∃v H',s'.os=s.os/\AllBare s'.gens/\Un (frs outer) [] H H' s.heap s'.heap/\HOk P w H' s'.heap/\RelV v u/\Q v H'
def CR (CX:CXT) (outer:List Env) (P:Program) (w:World) (H:Hp) (s:Shared) (Q:VK) (E:XK) (r:Result) (s':Shared):Prop:=
 match r with
 | .ok (.ret u)=>CE outer P w H s Q u s'
 | .ok _=>False
 | .error e=>CX outer H s E e s'
structure jU (P:Program) (w:World) (K:PySem.W.Frag) (mg:Str->Option Value) (base:Heap) (CX:CXT) (k:Nat) (f:Addr) (fd:FuncData) (ps:List Str) (sp:Sp):Prop where
 len:∀vs H Q E,sp vs H Q E->vs.length=ps.length
 run:∀(A:Around) (outer:List Env) (s:Shared) (H:Hp) (args:Args) (us:List Value) (vs:List V) (Q:VK) (E:XK),lG k A->aD3 P w K mg base A outer s H->BindsTo s fd args (ps.zip us)->Vals vs us->sp vs H Q E->
  codeAny (model P w) A (.call (.ref f) args) (CR CX outer P w H s Q E) s
theorem aD3.make {P:Program} {w:World} {K:PySem.W.Frag} {mg:Str->Option Value} {base:Heap} {A:Around} {outer:List Env} {s:Shared} {H:Hp} (e:aD3 P w K mg base A outer s H) (C:Addr) (us:List Value) (kw:List (Str×Value)) :
  aD3 P w K mg base (A.under (.builtin "type.__call__" ⟨.ref C::us,kw⟩)) outer s H:=⟨by first|exact e.frames|(simpa [Around.under,Code.envs,Code.isFrame,pushEnvs] using e.frames),e.mod,e.bs,e.bsz,e.NZ,e.frf,e.hok,e.bare⟩
section
variable {X:Cx} {pins:List (Addr×Obj)} {σ:St} {H:Hp} {s s':Shared}
theorem Inv.env0 (I:Inv X pins σ H s):aD3 X.prog X.w X.K X.mg X.base X.A X.stack s H:=
 ⟨I.ok.frames,I.ok.mod,I.bs,Nat.le_trans I.ok.bsz I.sz,I.stack,I.GC,I.hok,I.bare⟩
theorem Inv.after {Q:VK} {u:Value} (I:Inv X pins σ H s) (h:CE X.stack X.prog X.w H s Q u s'):EP X pins σ Q u s':=by
 obtain ⟨v,H',os,bare,un,hok,r,q⟩:=h;obtain ⟨hh,g,d,t,os'⟩:=s';obtain rfl:os'=s.os:=os;exact ⟨v,H',I.call (h':=hh) (g':=g) (d':=d) (t':=t) (ch:=[]) un hok bare (fun b z=>absurd z (by simp)),r,q⟩
end
noncomputable def aK4 (sp:Sp) (dvs:List V) (E:XK) (t:TA):TE:=fun σ H Q=>t σ H fun vs H1=>sp (vs++dvs) H1 Q E
noncomputable def O7 (C:Addr) (m:Str) (sp:Sp) (dvs:List V) (E:XK) (ta:TE) (t:TA):TE:=fun σ H Q=>ta σ H fun x H1=>∃a dx fs,x=.ref a/\H1 a=some (.ins C dx fs)/\fs.lookup m=none/\
 t σ H1 fun vs H2=>sp (x::(vs++dvs)) H2 Q E
def aK5 (C:Addr) (sp:Sp) (dvs:List V) (E:XK) (t:TA):TE:=fun σ H Q=>t σ H fun vs H1=>∀x dx,H1 x=none->H1 dx=none->dx≠x->
 sp (.ref x::(vs++dvs)) (upd (upd H1 dx (.own x)) x (.ins C dx [])) (fun v H2=>v=.non/\Q (.ref x) H2) E
def Binds (K:PySem.W.Frag) (fd:FuncData) (ps:List Str) (ds:List Value):Prop:=
 ∀(s:Shared) (us:List Value),K.In s.heap->(us++ds).length=ps.length->BindsTo s fd ⟨us,[]⟩ (ps.zip (us++ds))
theorem Binds.all {K:PySem.W.Frag} {fd:FuncData} {ps:List Str} (h:∀us:List Value,us.length=ps.length->bindArgs fd ⟨us,[]⟩=pure (ps.zip us)):Binds K fd ps []:=fun s us _ hl=>by
 rw [List.append_nil] at hl ⊢;exact .of_eq (h us hl)
def sU (CX:CXT) (X:Cx) (E:XK):Prop:=∀(pins:List (Addr×Obj)) (σ:St) (H:Hp) (s:Shared) (e:Value) (s':Shared),Inv X pins σ H s->CX X.stack H s E e s'->X.xe e s'
section
variable {X:Cx} {CX:CXT} {k:Nat} {f C:Addr} {fd:FuncData} {ps:List Str} {sp:Sp} {dvs:List V} {ds:List Value} {E:XK} {x m:Str} {p pos apos:Pos} {e o:Expr} {es:List Expr} {ta:TE} {t:TA}
theorem aBu {pins:List (Addr×Obj)} {σ:St} {H:Hp} {s:Shared} {Q:VK} {us:List Value} {vs:List V} (F:jU X.prog X.w X.K X.mg X.base CX k f fd ps sp) (hr:lG k X.A) (hb:Binds X.K fd ps ds) (hd:Vals dvs ds) (hx:sU CX X E)
  (I:Inv X pins σ H s) (r:Vals vs us) (h:sp (vs++dvs) H Q E):wpAny (model X.prog X.w) X.A (call (.ref f) us) (EP X pins σ Q) X.xe s:=by
 have r2:Vals (vs++dvs) (us++ds):=r.append hd;have hl:(us++ds).length=ps.length:=by rw [<-r2.length];exact F.len _ _ _ _ h
 refine wpAny_call (codeAny_mono (F.run X.A X.stack s H ⟨us,[]⟩ (us++ds) (vs++dvs) Q E hr I.env0 (hb s us I.kIn hl) r2 h) fun r s' hq=>?_);cases r with
 | error e=>exact hx pins σ H s e s' I hq
 | ok fl=>
  cases fl with
  | ret u=>exact I.after hq
  | next=>exact False.elim hq
  | brk=>exact False.elim hq
  | cont=>exact False.elim hq
theorem aD4 (F:jU X.prog X.w X.K X.mg X.base CX k f fd ps sp) (hr:lG k X.A) (hg:Gl X x) (hm:X.mg x=some (.ref f)) (hk:PySem.W.keepIn X.K (.ref f)=true) (hb:Binds X.K fd ps ds) (hd:Vals dvs ds) (hx:sU CX X E)
  (ha:PA X (e::es) t) (hdb:nDb x:=by decide) (he:starEach (e::es) X.env=(false,eval e X.env)::starEach es X.env:=by rfl) (hpl:(backTo pos (starEach es X.env)).any (·.1)=false:=by rfl) :
  PE X (.Call (.Name x p) (e::es) [] pos) (aK4 sp dvs E t):=by
 intro pins s σ H Q I h;refine wpAny_Call_Name_kw (nJ I hg hm ?_ hdb);refine PySem.W.callWith_K (h₀:=X.base) I.ok.mod.kin hk (thn (ha pos pins s σ H _ I h) fun us s1 ⟨vs,H1,I1,r,q⟩=>⟨I1.kIn,?_⟩) he hpl;exact aBu F hr hb hd hx I1 r q
theorem xK {pl:Sem Bool} (he:PE X o ta) (c:Cls X.K C) (hm:Meth X.K C m f) (F:jU X.prog X.w X.K X.mg X.base CX k f fd ps sp) (hr:lG k X.A) (hb:Binds X.K fd ps ds) (hd:Vals dvs ds) (hx:sU CX X E) (ha:PA X (e::es) t)
  (hst:starEach (e::es) X.env=(false,eval e X.env)::starEach es X.env:=by rfl) (hpl:(backTo pos (starEach es X.env)).any (·.1)=false:=by rfl)
  (ht:eval (.Call (.Attribute o m apos) (e::es) [] pos) X.env=(do
   let ov <- eval o X.env
   standAt apos.atName
   let (f,first) <- holding [ov] (getMethod ov m pl)
   callWith pos f first (backTo pos (starEach (e::es) X.env)) (backToKw pos (keywordEach [] X.env))):=by rfl) :
  PE X (.Call (.Attribute o m apos) (e::es) [] pos) (O7 C m sp dvs E ta t):=by
 intro pins s σ H Q I h;refine PySem.W.methodCall_KW (pl:=pl) (thn (he pins s σ H _ I h) fun u s1 ⟨x,H1,I1,rx,a,dx,fs,ex,ea,l,q⟩=>?_) ht;subst ex;obtain rfl:u=Value.ref a:=rx;refine O3 I1 ea c hm l ?_;refine PySem.W.callWith_K (first:=[.ref a]) (h₀:=X.base) I.ok.mod.kin hm.kp (thn (ha pos pins s1 σ H1 _ I1 q) fun us s2 ⟨vs,H2,I2,r,q2⟩=>⟨I2.kIn,?_⟩) hst hpl;exact aBu (us:=.ref a::us) (vs:=.ref a::vs) F hr hb hd hx I2 (.cons rfl r) q2
structure Mk (K:PySem.W.Frag) (C f:Addr):Prop where
 makes:PySem.W.makesIn K C=true
 init:PySem.W.findIn K (.ref C) "__init__" = some (some (.ref f))
 fn:PySem.W.isFn K (.ref f)=true
 kp:PySem.W.keepIn K (.ref C)=true
theorem ZL {pins:List (Addr×Obj)} {σ:St} {H:Hp} {s:Shared} {Q:VK} {us:List Value} {vs:List V} (M:Mk X.K C f) (F:jU X.prog X.w X.K X.mg X.base CX k f fd ps sp) (hr:lG (k+1) X.A) (hb:Binds X.K fd ps ds) (hd:Vals dvs ds)
  (hx:sU CX X E) (I:Inv X pins σ H s) (r:Vals vs us)
  (h:∀x dx,H x=none->H dx=none->dx≠x->sp (.ref x::(vs++dvs)) (upd (upd H dx (.own x)) x (.ins C dx [])) (fun v H2=>v=.non/\Q (.ref x) H2) E) :
  wpAny (model X.prog X.w) X.A (call (.ref C) us) (EP X pins σ Q) X.xe s:=by
 have hq:=h (s.heap.objs.size+1) s.heap.objs.size (I.hok.fresh (Nat.le_succ _)) (I.hok.fresh (Nat.le_refl _)) (Nat.ne_of_lt (Nat.lt_succ_self _));have I2:=Inv.made (C:=C) I;have r2:Vals (V.ref (s.heap.objs.size+1)::(vs++dvs)) (Value.ref (s.heap.objs.size+1)::(us++ds)):=.cons rfl (r.append hd);have hl:(Value.ref (s.heap.objs.size+1)::us++ds).length=ps.length:=by
  have e:=r2.length;rw [F.len _ _ _ _ hq] at e;exact e.symm
 refine wpAny_call (ZK (f:=f) I.kIn M.makes M.init (beq_iff_eq.mp M.fn) (codeAny_mono (F.run _ X.stack _ _ ⟨Value.ref (s.heap.objs.size+1)::us,[]⟩ (Value.ref (s.heap.objs.size+1)::(us++ds)) _ _ E (hr.make C us [])
  (I2.env0.make C us []) (hb _ (Value.ref (s.heap.objs.size+1)::us) I2.kIn hl) r2 hq) fun r s' hq'=>?_))
 cases r with
 | error e=>exact hx pins σ _ _ e s' I2 hq'
 | ok fl=>
  cases fl with
  | ret u=>
   obtain ⟨v,H',I3,rv,ev,q3⟩:=I2.after hq';subst ev;exact ⟨rv,⟨V.ref (s.heap.objs.size+1),H',I3,rfl,q3⟩⟩
  | next=>exact False.elim hq'
  | brk=>exact False.elim hq'
  | cont=>exact False.elim hq'
theorem aD5 (M:Mk X.K C f) (F:jU X.prog X.w X.K X.mg X.base CX k f fd ps sp) (hr:lG (k+1) X.A) (hg:Gl X x) (hm:X.mg x=some (.ref C)) (hb:Binds X.K fd ps ds) (hd:Vals dvs ds) (hx:sU CX X E)
  (ha:PA X (e::es) t) (hdb:nDb x:=by decide) (he:starEach (e::es) X.env=(false,eval e X.env)::starEach es X.env:=by rfl) (hpl:(backTo pos (starEach es X.env)).any (·.1)=false:=by rfl) :
  PE X (.Call (.Name x p) (e::es) [] pos) (aK5 C sp dvs E t):=by
 intro pins s σ H Q I h;refine wpAny_Call_Name_kw (nJ I hg hm ?_ hdb);refine PySem.W.callWith_K (h₀:=X.base) I.ok.mod.kin M.kp (thn (ha pos pins s σ H _ I h) fun us s1 ⟨vs,H1,I1,r,q⟩=>⟨I1.kIn,?_⟩) he hpl;exact ZL M F hr hb hd hx I1 r q
end
structure cC (N P:List Str) (sc:Scope):Prop where
 kind:sc.kind=.function
 co:sc.isCoroutine=false
 gen:sc.isGenerator=false
 nd:N.Nodup
 pre:N.take P.length=P
 par:∀x∈P,sc.names.lookup x=some .local\/sc.names.lookup x=some .cell
 nofree:∀y∈sc.names,y.2≠.free
theorem zN {kindOf:Str->Option NameKind} {x:Str}:∀{binds:List (Str×Value)} {m:Str->Option Value},(∀v,(x,v)∉binds)->bindL kindOf binds m x=m x
 | [],_,_=>rfl
 | (n,v)::r,m,h=>by
  unfold bindL;rw [zN fun w hw=>h w (List.mem_cons_of_mem _ hw)];split
  ·have:x≠n:=by rintro rfl;exact h v List.mem_cons_self
   simp [this]
  ·rfl
theorem zO {kindOf:Str->Option NameKind} {x:Str}:∀{binds:List (Str×Value)} {m:Str->Option Value},(∀v,(x,v)∉binds)->bindC kindOf binds m x=m x
 | [],_,_=>rfl
 | (n,v)::r,m,h=>by
  unfold bindC;rw [zO fun w hw=>h w (List.mem_cons_of_mem _ hw)];split
  ·rfl
  ·have:x≠n:=by rintro rfl;exact h v List.mem_cons_self
   simp [this]
theorem zP {kindOf:Str->Option NameKind} {x:Str} {v:Value}:∀{P:List Str} {vs:List Value} {i:Nat} {m:Str->Option Value},P.Nodup->P[i]?=some x->vs[i]?=some v->kindOf x=some .local->
  bindL kindOf (P.zip vs) m x=some v
 | [],_,_,_,_,h,_,_=>by simp at h
 | _::_,[],_,_,_,_,h,_=>by simp at h
 | p::P,w::vs,0,m,nd,h1,h2,hk=>by
  simp at h1 h2;subst h1;subst h2;show bindL kindOf ((p,w)::P.zip vs) m p=_;unfold bindL;rw [zN fun v hv=>(List.nodup_cons.mp nd).1 (List.of_mem_zip hv).1,if_pos hk];simp
 | p::P,w::vs,i+1,m,nd,h1,h2,hk=>by
  show bindL kindOf ((p,w)::P.zip vs) m x=_;unfold bindL;exact zP (i:=i) (List.nodup_cons.mp nd).2 (by simpa using h1) (by simpa using h2) hk
theorem zQ {kindOf:Str->Option NameKind} {x:Str} {v:Value}:∀{P:List Str} {vs:List Value} {i:Nat} {m:Str->Option Value},P.Nodup->P[i]?=some x->vs[i]?=some v->kindOf x≠some .local->
  bindC kindOf (P.zip vs) m x=some v
 | [],_,_,_,_,h,_,_=>by simp at h
 | _::_,[],_,_,_,_,h,_=>by simp at h
 | p::P,w::vs,0,m,nd,h1,h2,hk=>by
  simp at h1 h2;subst h1;subst h2;show bindC kindOf ((p,w)::P.zip vs) m p=_;unfold bindC;rw [zO fun v hv=>(List.nodup_cons.mp nd).1 (List.of_mem_zip hv).1,if_neg hk];simp
 | p::P,w::vs,i+1,m,nd,h1,h2,hk=>by
  show bindC kindOf ((p,w)::P.zip vs) m x=_;unfold bindC;exact zQ (i:=i) (List.nodup_cons.mp nd).2 (by simpa using h1) (by simpa using h2) hk
noncomputable def start (N:List Str) (vs:List V):St:=vs.map some++List.replicate (N.length-vs.length) none
noncomputable def JV (CX:CXT) (P:Program) (w:World) (K:PySem.W.Frag) (mg:Str->Option Value) (base:Heap) (N:List Str) (qual:Str) (scope:Scope) (f:Addr) (cd:Value) (A:Around) (outer:List Env) (s:Shared) (H:Hp) (E:XK):Cx where
 prog:=P
 w:=w
 K:=K
 mg:=mg
 base:=base
 A:=A.deeper (envOfC qual scope s.heap.objs.size f cd)
 N:=N
 s₀:=s
 H₀:=H
 env:=envOfC qual scope s.heap.objs.size f cd
 outer:=outer
 stack:=envOfC qual scope s.heap.objs.size f cd::outer
 ex:=[]
 calm:=true
 fn:=fun _=>true
 pn:=[]
 xe:=fun e s'=>wpAny (model P w) (A.deeper (envOfC qual scope s.heap.objs.size f cd)) (leaving (envOfC qual scope s.heap.objs.size f cd) e) (fun _ s''=>CX outer H s E e s'') (fun e' s''=>CX outer H s E e' s'') s'
theorem JW {sc:Scope} {n:Nat} {x:Str} (h:sc.names.lookup x=some .cell):∃c,(cellsFrom n sc.names []).lookup x=some c:=by
 have q:=PySem.W.cellsFrom_some sc.names n [] (.inl h);exact Option.isSome_iff_exists.mp q
theorem R8 {CX:CXT} {P:Program} {w:World} {K:PySem.W.Frag} {mg:Str->Option Value} {base:Heap} {N ps:List Str} {qual:Str} {scope:Scope} {f:Addr} {cd:Value} {A:Around} {outer:List Env} {s s1:Shared} {H:Hp} {E:XK} {us:List Value} {vs:List V}
  (S:cC N ps scope) (hd:A.handled=none) (e0:aD3 P w K mg base A outer s H) (hl:vs.length=ps.length) (r:Vals vs us)
  (x:InCallC s s.heap.objs.size (bindL (envOfC qual scope s.heap.objs.size f cd).kindOf (ps.zip us) fun _=>none) (cellsFrom (s.heap.objs.size+1) scope.names []) (bindC (envOfC qual scope s.heap.objs.size f cd).kindOf (ps.zip us) fun _=>none) s1) :
  Inv (JV CX P w K mg base N qual scope f cd A outer s H E) [] (start N vs) H s1:=by
 have hpl:ps.length<=N.length:=by have:=congrArg List.length S.pre;rw [List.length_take] at this;lia
 obtain ⟨h1,tk,rfl,hk⟩:=x.done;have noA:∀b:Addr,b∉(JV CX P w K mg base N qual scope f cd A outer s H E).ex:=fun b z=>absurd (show b∈([]:List Addr) from z) (by simp)
 refine ⟨⟨e0.mod,S.kind,rfl,rfl,Nat.le_refl _,fun y z c h1 h2=>?_,fun y hy=>?_,fun y c _ h=>?_,fun _=>hd,Around.frames_deeper e0.frames,.inr ⟨rfl,rfl⟩,fun b z=>absurd z (noA b),e0.bs,e0.bsz,fun b _ _=>noA b,fun b z=>absurd z (noA b),e0.NZ,e0.frf⟩,
  rfl,e0.bare,Un.kept hk,⟨_,x.toInCall.ns,fun i y v h1 h2 h3=>?_⟩,fun y c h=>⟨_,x.cell y c h⟩,e0.hok.fresh (Nat.le_refl _),fun y c h=>?_,fun p hp=>absurd (show p∈([]:List (Addr×Obj)) from hp) (by simp),e0.hok.kept hk,?_⟩
 ·exact name_of_addr x.apart (PySem.mem_of_lookup h1) (PySem.mem_of_lookup h2)
 ·have hy:scope.names.lookup y=some .cell\/scope.names.lookup y=some .free:=hy;rcases hy with hy|hy
  ·exact JW hy
  ·exact absurd rfl (S.nofree _ (PySem.mem_of_lookup hy))
 ·exact Nat.le_of_lt (x.above y c (PySem.mem_of_lookup h))
 ·have hi:i<vs.length:=by
   unfold start at h2;by_cases hi:i<vs.length
   ·exact hi
   ·rw [List.getElem?_append_right (by simpa using hi)] at h2;rw [List.getElem?_replicate] at h2;split at h2 <;> cases h2
  have ha:vs[i]?=some v:=by
   unfold start at h2;rw [List.getElem?_append_left (by simpa using hi),List.getElem?_map] at h2;cases e:vs[i]? with
   | none=>rw [e] at h2;cases h2
   | some a=>rw [e] at h2;cases h2;rfl
  obtain ⟨u,hu,rv⟩:=r.get ha;have hp:ps[i]?=some y:=by
   rw [<-S.pre,List.getElem?_take_of_lt (by lia)];exact h1
  have ndP:ps.Nodup:=by rw [<-S.pre];exact S.nd.sublist (List.take_sublist _ _)
  refine ⟨u,rv,?_⟩;rcases S.par y (List.mem_of_getElem? hp) with k|k
  ·exact .inl ⟨k,zP ndP hp hu k⟩
  ·obtain ⟨c,e⟩:=JW (n:=s.heap.objs.size+1) k;refine .inr ⟨.inl k,c,e,?_⟩;have q:=x.cell y c e;rw [zQ ndP hp hu (by show scope.names.lookup y≠_;rw [k];decide)] at q;exact q
 ·exact e0.hok.fresh (Nat.le_of_lt (x.above y c (PySem.mem_of_lookup h)))
 ·unfold start;show _=N.length;rw [List.length_append,List.length_map,List.length_replicate];lia
theorem aD6 {CX:CXT} {P:Program} {w:World} {K:PySem.W.Frag} {mg:Str->Option Value} {base:Heap} {k:Nat} {f:Addr} {name qual:Str} {params:Arguments} {body:List Stmt} {scope:Scope} {dV kV doc pm cdv ct oc:Value} {an od:Option Addr}
  {osl:Array (Option Value)} {N ps:List Str} {sp:Sp} (lk:K.lookup f=some ⟨oc,od,.func (PySem.W.fnOf name qual params body scope dV kV doc pm an cdv ct),osl⟩) (hcd:PySem.W.codeIn K cdv qual=true) (S:cC N ps scope)
  (len:∀vs H Q E,sp vs H Q E->vs.length=ps.length)
  (hbody:∀(A:Around) (outer:List Env) (s:Shared) (H:Hp) (vs:List V) (Q:VK) (E:XK),lG k (A.deeper (envOfC qual scope s.heap.objs.size f cdv))->sp vs H Q E->
   ∃t,PSs (JV CX P w K mg base N qual scope f cdv A outer s H E) body t/\t {nx:=fun _ H'=>Q .non H',rt:=Q} (start N vs) H) :
  jU P w K mg base CX (k+1) f (PySem.W.fnOf name qual params body scope dV kV doc pm an cdv ct) ps sp:=by
 refine ⟨len,fun A outer s H args us vs Q E hr e0 hb r hsp=>?_⟩;have hl:=len _ _ _ _ hsp;have KX:K.In s.heap:=e0.mod.kin.keeps fun b o e=>(e0.bs b o e).1
 have lim:s.heap.NoLimit:=e0.mod.nolimit.keeps fun b o e=>(e0.bs b o e).1
 have hkind:∀y∈ps.zip us,scope.names.lookup y.1=some .local\/(scope.names.lookup y.1=some .cell/\((cellsFrom (s.heap.objs.size+1) scope.names []).lookup y.1).isSome=true):=fun ⟨n,v⟩ hy=>by
  rcases S.par n (List.of_mem_zip hy).1 with q|q
  ·exact .inl q
  ·exact .inr ⟨q,PySem.W.cellsFrom_some _ _ _ (.inl q)⟩
 refine codeAny_call_function hr.depth (KX _ _ lk) rfl S.co S.gen rfl (PySem.W.codeRec_of KX hcd) (hb _ _ _ _ ?_);refine wpAny_newFunctionEnv_cells S.kind hkind fun env he s1 x=>?_
 subst he;refine ⟨lim.keeps x.toInCall.keep,codeAny_func ?_⟩;obtain ⟨t,ht,hq⟩:=hbody A outer s H vs Q E (hr.deeper _) hsp;have I:Inv (JV CX P w K mg base N qual scope f cdv A outer s H E) [] (start N vs) H s1:=R8 S hr.hd e0 hl r x;refine wpAny_mono (ht [] s1 (start N vs) H _ I hq) (fun fl s' hs=>?_) fun e s' hs=>hs
 have fin:∀{σ':St} {H':Hp} {v:V} {u:Value},Inv (JV CX P w K mg base N qual scope f cdv A outer s H E) [] σ' H' s'->RelV v u->Q v H'->CE outer P w H s Q u s':=
  fun {σ' H' v u} J rv q=>⟨v,H',J.os,J.bare,J.base,J.hok,rv,q⟩
 cases fl with
 | ret u=>
  obtain ⟨v,σ',H',J,rv,q⟩:=hs;exact fin J rv q
 | next=>
  obtain ⟨σ',H',J,q⟩:=hs;exact fin (v:=V.non) (u:=Value.none) J rfl q
 | brk=>
  obtain ⟨_,_,_,q⟩:=hs;exact False.elim q
 | cont=>
  obtain ⟨_,_,_,q⟩:=hs;exact False.elim q
section
variable {X:Cx} {x:Str} {p pos:Pos} {e:Expr} {es:List Expr} {t:TA} {id T:String} {r:List V->Hp->VK->Prop}
noncomputable def tCB (r:List V->Hp->VK->Prop) (t:TA):TE:=fun σ H Q=>t σ H fun vs H1=>r vs H1 Q
theorem oZ (hc:lM X (.builtin id) r) (hg:Gl X x) (hm:X.mg x=none) (hv:bootBuiltins x=some (.builtin id)) (ha:PA X (e::es) t) (hn:x ≠ "__name__":=by decide) (hdb:nDb x:=by decide)
  (he:starEach (e::es) X.env=(false,eval e X.env)::starEach es X.env:=by rfl) (hpl:(backTo pos (starEach es X.env)).any (·.1)=false:=by rfl):PE X (.Call (.Name x p) (e::es) [] pos) (tCB r t):=by
 intro pins s σ H Q I h;refine wpAny_Call_Name_kw (lN I hg hm hv ?_ hn hdb);exact PyProof.Rows.callWith_builtin1 (thn (ha pos pins s σ H _ I h) fun us s1 ⟨vs,H1,I1,r1,q1⟩=>hc pins s1 σ H1 vs us Q I1 r1 q1) he hpl
theorem R9 (hc:lM X (.type T) r) (hg:Gl X x) (hm:X.mg x=none) (hv:bootBuiltins x=some (.type T)) (ha:PA X (e::es) t) (hn:x ≠ "__name__":=by decide) (hdb:nDb x:=by decide)
  (he:starEach (e::es) X.env=(false,eval e X.env)::starEach es X.env:=by rfl) (hpl:(backTo pos (starEach es X.env)).any (·.1)=false:=by rfl):PE X (.Call (.Name x p) (e::es) [] pos) (tCB r t):=by
 intro pins s σ H Q I h;refine wpAny_Call_Name_kw (lN I hg hm hv ?_ hn hdb);exact PyProof.Rows.callWith_type1 (thn (ha pos pins s σ H _ I h) fun us s1 ⟨vs,H1,I1,r1,q1⟩=>hc pins s1 σ H1 vs us Q I1 r1 q1) he hpl
end
end L2
namespace HT
open PySem PyProof.Rows
section
variable {prog:Program} {w:World} {A:Around} {E:Value->Shared->Prop} {s:Shared}
theorem aD7 {t b:Addr} {vs ws:List Value} {Q:Value->Shared->Prop} (ht:IsTup s.heap t vs.toArray) (hb:IsTup s.heap b ws.toArray) (hv:vs≠[])
  (h1:ws=[]->Q (.ref t) s) (h2:ws≠[]->Q (.ref s.heap.objs.size) {s with heap:=s.heap.push {cls:=.type "tuple",data:=.seq (vs++ws).toArray}})
  (hsz:vs.length+ws.length<=sizeLine):wpAny (model prog w) A (binaryOp .Add (.ref t) (.ref b)) Q E s:=by
 obtain ⟨⟨cls,dd,data,sl⟩,ho,hc,n,hd⟩:=id ht;obtain ⟨⟨cls2,dd2,data2,sl2⟩,ho2,hc2,n2,hd2⟩:=id hb;simp only at hc hd hc2 hd2;subst hc hd hc2 hd2;have e:vs.toArray++ws.toArray=(vs++ws).toArray:=by simp
 by_cases hw:ws=[]
 ·exact concat_meets ⟨_,ho,rfl⟩ ⟨_,ho2,rfl⟩ noFill_tuple_add seq_tuple_add PySem.F.slot_tuple_add PySem.F.entry_tuple_add (PySem.F.args_tuple_add_2 _ _)
   (tuple_addW1 t b vs.toArray ws.toArray n n2 dd dd2 sl sl2 (by simpa using hv) (by simp [hw])) ⟨ho,ho2,h1 hw⟩
 ·refine concat_meets ⟨_,ho,rfl⟩ ⟨_,ho2,rfl⟩ noFill_tuple_add seq_tuple_add PySem.F.slot_tuple_add PySem.F.entry_tuple_add (PySem.F.args_tuple_add_2 _ _)
   (tuple_addW2 t b vs.toArray ws.toArray n n2 dd dd2 sl sl2 (by simpa using hv) (by simpa using hw) (by rw [List.size_toArray,List.size_toArray];exact hsz)) ⟨ho,ho2,?_⟩
  rw [e];exact h2 hw
noncomputable def sIx (n d:Nat):Option Int->Nat
 | none=>d
 | some v=>if v<0 then (v+(n:Int)).toNat else min v.toNat n
theorem aGn (n d:Nat) (hd:d<=n) (o:Option Int):sIx n d o<=n:=by
 cases o with
 | none=>exact hd
 | some v=>
  show (if v<0 then (v+(n:Int)).toNat else min v.toNat n)<=n;by_cases hv:v<0
  ·rw [if_pos hv];lia
  ·rw [if_neg hv];exact Nat.min_le_right _ _
theorem R_ (v:Int) (n d:Nat):(if v<0 then max (v+(n:Int)) 0 else min v (n:Int))=((sIx n d (some v):Nat):Int):=by
 show (if v<0 then max (v+(n:Int)) 0 else min v (n:Int))=(((if v<0 then (v+(n:Int)).toNat else min v.toNat n):Nat):Int);by_cases hv:v<0
 ·simp only [if_pos hv];lia
 ·simp only [if_neg hv];lia
theorem O8 (lo hi:Option Int) (n:Nat):Builtin.Slice.sliceAdjust lo hi 1 (n:Int)=(((sIx n 0 lo:Nat):Int),((sIx n n hi:Nat):Int)):=by
 have h1:¬((1:Int)<0):=by lia
 unfold Builtin.Slice.sliceAdjust;simp only [h1,if_false];refine Prod.ext ?_ ?_
 ·cases lo with
  | none=>rfl
  | some v=>exact R_ v n 0
 ·cases hi with
  | none=>rfl
  | some v=>exact R_ v n n
theorem O9 (i j:Nat):Builtin.Slice.slicePlaces (i:Int) (j:Int) 1=j-i:=by
 unfold Builtin.Slice.slicePlaces;have h1:(1:Int) > 0:=by lia
 simp only [h1,if_true,Int.ediv_one];split <;> lia
theorem wF {v:Value} {o:Option Int} {Q:Option Int->Shared->Prop} (p:IsPart v o) (h:Q o s):wpAny (model prog w) A (Builtin.Slice.slicePartIndex v) Q E s:=by
 cases p with
 | none=>exact slicePart_none h
 | int i t=>exact slicePart_int h
theorem oU {sl:Addr} {vl vu:Value} {lo hi:Option Int} {n:Nat} {Q:Int×Int×Nat->Shared->Prop} (hs:s.heap.IsSliceOf sl vl vu .none) (pl:IsPart vl lo) (pu:IsPart vu hi)
  (h:Q (((sIx n 0 lo:Nat):Int),1,sIx n n hi-sIx n 0 lo) s):wpAny (model prog w) A (Builtin.Slice.sliceApplied (.ref sl) (pure (n:Int))) Q E s:=by
 obtain ⟨os,hos,hcs,hds⟩:=id hs;unfold Builtin.Slice.sliceApplied Builtin.Slice.sliceFields;refine wpAny_bind (wpAny_bind (wpAny_field hos hds (x:=vl) rfl (wpAny_bind (wpAny_field hos hds (x:=vu) rfl (wpAny_bind (wpAny_field hos hds (x:=.none) rfl (wpAny_pure ?_)))))));refine wpAny_bind (slicePart_none ?_);show wpAny _ _ (if ((1:Int)==0)=true then _ else _) _ _ s;rw [if_neg (by decide)];refine wpAny_bind (wF pl (wpAny_bind (wF pu (wpAny_bind (wpAny_pure ?_)))));show wpAny _ _ (match Builtin.Slice.sliceAdjust lo hi 1 (n:Int) with|(lo,hi)=>pure (lo,(1:Int),Builtin.Slice.slicePlaces lo hi 1)) _ _ s;rw [O8 lo hi n];show wpAny _ _ (pure (((sIx n 0 lo:Nat):Int),(1:Int),Builtin.Slice.slicePlaces ((sIx n 0 lo:Nat):Int) ((sIx n n hi:Nat):Int) 1)) _ _ s;rw [O9];exact wpAny_pure h
theorem ZM (xs:Array Value) (i k:Nat):((List.range k).filterMap fun (m:Nat)=>xs[((i:Int)+(m:Int)*1).toNat]?).toArray=((xs.toList.drop i).take k).toArray:=by
 have e:(fun (m:Nat)=>xs[((i:Int)+(m:Int)*1).toNat]?)=fun m=>xs[i+m]?:=by
  funext m
  have:((i:Int)+(m:Int)*1).toNat=i+m:=by lia
  rw [this]
 rw [e];have:=pick_run xs i k;rw [List.filterMap_map] at this;have e2:((fun x=>xs[x]?) ∘ fun x=>i+x)=fun m=>xs[i+m]?:=rfl
 rw [e2] at this;rw [this]
theorem nM {t sl:Addr} {items:Array Value} {vl vu:Value} {lo hi:Option Int} {Q:Value->Shared->Prop} (ht:IsTup s.heap t items) (hs:s.heap.IsSliceOf sl vl vu .none) (pl:IsPart vl lo) (pu:IsPart vu hi)
  (hw:¬(sIx items.size 0 lo=0/\sIx items.size items.size hi=items.size))
  (h:Q (.ref s.heap.objs.size) {s with heap:=s.heap.push {cls:=.type "tuple",data:=.seq ((items.toList.drop (sIx items.size 0 lo)).take (sIx items.size items.size hi-sIx items.size 0 lo)).toArray}})
  (hsz:items.size<=sizeLine):wpAny (model prog w) A (getItem (.ref t) (.ref sl)) Q E s:=by
 have htake:sizeOk (.seq ((items.toList.drop (sIx items.size 0 lo)).take (sIx items.size items.size hi-sIx items.size 0 lo)).toArray):=by
  show ((items.toList.drop (sIx items.size 0 lo)).take (sIx items.size items.size hi-sIx items.size 0 lo)).toArray.size<=sizeLine;rw [List.size_toArray,List.length_take,List.length_drop,Array.length_toList];lia
 have hj:sIx items.size items.size hi<=items.size:=aGn _ _ (Nat.le_refl _) hi;obtain ⟨os,hos,hcs,hds⟩:=id hs;have hTs:s.TypeIs (.ref sl) "slice":=⟨os,hos,hcs⟩
 unfold getItem
 try with_reducible refine wpAny_holding ?_
 first|refine wpAny_bind (wpAny_pure ?_)|skip
 refine wpAny_bind (wpAny_sequenceKey ht.typeIs (by decide) ?_);refine wpAny_bind (wpAny_callSpecial?_slot (name:=Str.ofString "__getitem__") ht.typeIs PyProof.Rows.slot_tuple_getitem
  (wpAny_call_entry PyProof.Rows.slot_tuple_getitem ht.typeIs entry_tuple_getitem ?_ (args_tuple_getitem _ _)))
 show wpAny _ _ (Builtin.Tuple.tupleItemsOf (.ref t) >>= _) _ _ s;refine wpAny_bind (tupleItemsOf_ ht ?_);refine wpAny_bind (wpAny_typeOf hTs ?_);rw [if_pos (by decide)];refine wpAny_bind (oU hs pl pu ?_);have hno:¬((((sIx items.size 0 lo:Nat):Int)==0&&(1:Int)==1&&(sIx items.size items.size hi-sIx items.size 0 lo)==items.size)=true):=by
  intro q;rw [Bool.and_eq_true,Bool.and_eq_true] at q;have q1:((sIx items.size 0 lo:Nat):Int)=0:=eq_of_beq q.1.1;have q2:sIx items.size items.size hi-sIx items.size 0 lo=items.size:=eq_of_beq q.2;exact hw ⟨by lia,by lia⟩
 show wpAny _ _ (if (((sIx items.size 0 lo:Nat):Int)==0&&(1:Int)==1&&(sIx items.size items.size hi-sIx items.size 0 lo)==items.size)=true then _ else _) _ _ s;rw [if_neg hno,ZM]
 first
  | exact wpAny_bind (m:=Builtin.Tuple.tupleExact _) (wpAny_newObj_type (wpAny_pure ⟨_,rfl,wpAny_pure h⟩) htake)
  | exact wpAny_bind (m:=Builtin.Tuple.tupleExact _) (wpAny_newObj_type (wpAny_bind (wpAny_pure (wpAny_pure ⟨_,rfl,wpAny_pure h⟩))) htake)
  | exact wpAny_bind (wpAny_bind (m:=Builtin.Tuple.tupleExact _) (wpAny_newObj_type (wpAny_pure (wpAny_pure ⟨_,rfl,wpAny_pure h⟩)) htake))
  | exact wpAny_bind (wpAny_bind (m:=Builtin.Tuple.tupleExact _) (wpAny_newObj_type (wpAny_pure ⟨_,rfl,wpAny_pure h⟩) htake))
end
end HT
namespace L2
open PySem PySem.Spec PyProof.Rows
abbrev TO:=St->Hp->(Option Int->Hp->Prop)->Prop
def PO (X:Cx) (e:Option Expr) (t:TO):Prop:=
 ∀(pins:List (Addr×Obj)) (s:Shared) (σ:St) (H:Hp) (Q:Option Int->Hp->Prop),Inv X pins σ H s->t σ H Q->
  wpAny (model X.prog X.w) X.A (evalPart e X.env) (fun u s'=>∃o H',Inv X pins σ H' s'/\IsPart u o/\Q o H') X.xe s
noncomputable def aD8:TO:=fun _ H Q=>Q none H
noncomputable def aK6 (t:TE):TO:=fun σ H Q=>t σ H fun x H1=>∃i,x=.int i/\Q (some i) H1
section
variable {X:Cx} {e:Expr} {te:TE} {lo hi:Option Expr} {tl th:TO} {pos p2:Pos}
theorem aD9:PO X none aD8:=by
 intro pins s σ H Q I h;rw [evalPart_none];exact wpAny_pure ⟨none,H,I,.none,h⟩
theorem aDa (h:PE X e te):PO X (some e) (aK6 te):=by
 intro pins s σ H Q I hw;rw [evalPart_some];refine thn (h pins s σ H _ I hw) fun u s1 ⟨x,H1,I1,r1,q1⟩=>?_
 obtain ⟨i,rfl,q⟩:=q1;obtain ⟨t,rfl⟩:=r1;exact ⟨some i,H1,I1,.int i t,q⟩
def SlR (X:Cx) (r:V->Option Int->Option Int->Hp->VK->Prop):Prop:=
 ∀(pins:List (Addr×Obj)) (s:Shared) (σ:St) (H:Hp) (x:V) (v vl vu:Value) (lo hi:Option Int) (sl:Addr) (Q:VK),Inv X pins σ H s->RelV x v->s.heap.IsSliceOf sl vl vu .none->IsPart vl lo->IsPart vu hi->r x lo hi H Q->
  ∃T id,typeLookup (.type T) "__getitem__" = pure (some (.builtin id))/\s.TypeIs v T/\wpAny (model X.prog X.w) X.A (getItem v (.ref sl)) (EP X pins σ Q) X.xe s
noncomputable def tSl (r:V->Option Int->Option Int->Hp->VK->Prop) (te:TE) (tl th:TO):TE:=fun σ H Q=>te σ H fun x H1=>tl σ H1 fun l H2=>th σ H2 fun u H3=>r x l u H3 Q
theorem ZP {r:V->Option Int->Option Int->Hp->VK->Prop} (hr:SlR X r) (he:PE X e te) (hl:PO X lo tl) (hu:PO X hi th):PE X (.Subscript e (.Slice lo hi none p2) pos) (tSl r te tl th):=by
 intro pins s σ H Q I h;refine Subscript_ (thn (he pins s σ H _ I h) fun v s1 ⟨x,H1,I1,r1,q1⟩=>?_);refine wpAny_Slice (thn (hl pins s1 σ H1 _ I1 q1) fun vl s2 ⟨l,H2,I2,pl,q2⟩=>thn (hu pins s2 σ H2 _ I2 q2) fun vu s3 ⟨u,H3,I3,pu,q3⟩=>?_);rw [evalPart_none];refine wpAny_pure ?_;have I4:Inv X pins σ H3 {s3 with heap:=s3.heap.push {cls:=.type "slice",data:=.fields #[vl,vu,.none]}}:=I3.kept (t':=s3.toks) fun b ob q=>Heap.get?_push_of_some _ q
 obtain ⟨T,id,hT,ht,hg⟩:=hr pins {s3 with heap:=s3.heap.push {cls:=.type "slice",data:=.fields #[vl,vu,.none]}} σ H3 x v vl vu l u s3.heap.objs.size Q I4 r1 (Heap.IsSliceOf.new ..) pl pu q3;show wpAny (model X.prog X.w) X.A (subscriptTail e (.Slice lo hi none p2) v (.ref s3.heap.objs.size)) (EP X pins σ Q) X.xe {s3 with heap:=s3.heap.push {cls:=.type "slice",data:=.fields #[vl,vu,.none]}};exact tail_any (ops:=[.ref s3.heap.objs.size,v]) ht hT hg (by with_unfolding_all rfl)
noncomputable def SJ (xs:List V) (lo hi:Option Int):List V:=(xs.drop (HT.sIx xs.length 0 lo)).take (HT.sIx xs.length xs.length hi-HT.sIx xs.length 0 lo)
theorem sV (xs:List V) (lo hi:Option Int):(SJ xs lo hi).length<=xs.length:=by
 unfold SJ;rw [List.length_take,List.length_drop];lia
def aMz (K:PySem.W.Frag):V->Option Int->Option Int->Hp->VK->Prop:=fun x lo hi H Q=>∃a xs,x=.ref a/\SqT K H a xs/\
 ¬(HT.sIx xs.length 0 lo=0/\HT.sIx xs.length xs.length hi=xs.length)/\∀p,H p=none->Q (.ref p) (upd H p (.tup (SJ xs lo hi)))
theorem aGo:SlR X (aMz X.K):=by
 intro pins s σ H x v vl vu lo hi sl Q I rx hs pl pu h;obtain ⟨a,xs,rfl,hx,hw,q⟩:=h;cases rx;obtain ⟨its,r,ht,hz⟩:=I.tuple hx;have hlen:its.toArray.size=xs.length:=by rw [List.size_toArray];exact r.length.symm
 refine ⟨"tuple",_,PyProof.Rows.slot_tuple_getitem.lookup,ht.typeIs,?_⟩;refine HT.nM ht hs pl pu (by rw [hlen];exact hw) ?_ (by rw [hlen];exact hz);rw [hlen];refine ⟨.ref s.heap.objs.size,_,I.laid (t':=s.toks) (o:=.tup (SJ xs lo hi)) (fun b ob q=>Heap.get?_push_of_some _ q) (Nat.le_refl _) ?_,rfl,q _ (I.hok.fresh (Nat.le_refl _))⟩;exact ⟨Nat.le_trans (sV xs lo hi) hz,_,(r.drop (HT.sIx xs.length 0 lo)).take (HT.sIx xs.length xs.length hi-HT.sIx xs.length 0 lo),iU.new _ _⟩
def aK7 (K:PySem.W.Frag):R2:=fun x y H Q=>∃a b xs ys,x=.ref a/\y=.ref b/\SqT K H a xs/\SqT K H b ys/\xs≠[]/\xs.length+ys.length<=sizeLine/\
 (ys=[]->Q (.ref a) H)/\(ys≠[]->∀p,H p=none->Q (.ref p) (upd H p (.tup (xs++ys))))
theorem Vals.sW {xs:List V} {us:List Value} (r:Vals xs us):us=[]↔xs=[]:=by
 cases r with
 | nil=>simp
 | cons _ _=>simp
theorem aDb:OpR X (binaryOp .Add) (aK7 X.K):=by
 intro pins s σ H x y v u Q I rx ry h;obtain ⟨a,b,xs,ys,rfl,rfl,ha,hb,hx,hz,q1,q2⟩:=h;cases rx;cases ry;obtain ⟨its,r1,p1,_⟩:=I.tuple ha;obtain ⟨its2,r2,p2,_⟩:=I.tuple hb;refine HT.aD7 p1 p2 (fun z=>hx (r1.sW.mp z)) (fun z=>⟨.ref a,H,I,rfl,q1 (r2.sW.mp z)⟩) (fun z=>?_) (by rw [<-r1.length,<-r2.length];exact hz);refine ⟨.ref s.heap.objs.size,_,I.laid (t':=s.toks) (o:=.tup (xs++ys)) (fun b ob q=>Heap.get?_push_of_some _ q) (Nat.le_refl _) ?_,rfl,q2 (fun w=>z (r2.sW.mpr w)) _ (I.hok.fresh (Nat.le_refl _))⟩;exact ⟨by rw [List.length_append];exact hz,_,r1.append r2,iU.new _ _⟩
end
noncomputable def ixN (n:Nat) (i:Int):Option Nat:=if 0<=i then (if i<n then some i.toNat else none) else if -(n:Int)<=i then some (i+n).toNat else none
def atI {α:Type} (xs:List α) (i:Int):Option α:=(ixN xs.length i).bind fun j=>xs[j]?
theorem SM {n:Nat} {i:Int} {j:Nat} (h:ixN n i=some j):seqIndex? i n=some j/\j<n/\-(n:Int)<=i/\i<n:=by
 unfold ixN at h;by_cases h0:0<=i
 ·rw [if_pos h0] at h;by_cases h1:i<n
  ·rw [if_pos h1] at h;have e:i.toNat=j:=Option.some.inj h;exact ⟨by rw [seqIndex_of h0 h1,e],by lia,by lia,h1⟩
  ·rw [if_neg h1] at h;cases h
 ·rw [if_neg h0] at h;by_cases h1:-(n:Int)<=i
  ·rw [if_pos h1] at h;have e:(i+n).toNat=j:=Option.some.inj h;exact ⟨by rw [seqIndex_neg (by lia) h1,e],by lia,h1,by lia⟩
  ·rw [if_neg h1] at h;cases h
theorem GJ {α:Type} {xs:List α} {i:Int} {v:α} (h:atI xs i=some v):∃j,seqIndex? i xs.length=some j/\xs[j]?=some v/\j<xs.length/\-(xs.length:Int)<=i/\i<xs.length:=by
 unfold atI at h;cases e:ixN xs.length i with
 | none=>rw [e] at h;cases h
 | some j=>
  rw [e] at h;obtain ⟨h1,h2,h3,h4⟩:=SM e;exact ⟨j,h1,h,h2,h3,h4⟩
theorem aDc {α:Type} {xs:List α} {j:Nat} {v:α} (h:xs[j]?=some v):atI xs (j:Int)=some v:=by
 have hj:j<xs.length:=(List.getElem?_eq_some_iff.mp h).1;have e:ixN xs.length (j:Int)=some j:=by
  unfold ixN;rw [if_pos (by lia),if_pos (by lia)];simp
 unfold atI;rw [e];exact h
theorem JX {α:Type} (xs:List α) (v:α):atI (xs++[v]) (-1)=some v:=by
 have hl:(xs++[v]).length=xs.length+1:=by simp
 have e:ixN (xs++[v]).length (-1)=some xs.length:=by
  unfold ixN;rw [hl,if_neg (by decide),if_pos (by lia)]
  congr 1
  lia
 unfold atI;rw [e];show (xs++[v])[xs.length]?=some v;simp
def GK (b:Expr):Prop:=∀o i,subscripted b false o i=operate [o,i] (getItem o i)
def IxR (X:Cx) (r:R2):Prop:=
 ∀(value slice:Expr) (pins:List (Addr×Obj)) (s:Shared) (σ:St) (H:Hp) (x y:V) (v u:Value) (Q:VK),Inv X pins σ H s->RelV x v->RelV y u->r x y H Q->
  subscripted slice false v u=operate [v,u] (getItem v u)->wpAny (model X.prog X.w) X.A (subscriptTail value slice v u) (EP X pins σ Q) X.xe s
def MtR (X:Cx) (id:String) (r:V->List V->Hp->VK->Prop):Prop:=
 ∀(pins:List (Addr×Obj)) (s:Shared) (σ:St) (H:Hp) (x:V) (xs:List V) (v:Value) (us:List Value) (Q:VK),Inv X pins σ H s->RelV x v->Vals xs us->r x xs H Q->
  wpAny (model X.prog X.w) X.A (call (.builtin id) (v::us)) (EP X pins σ Q) X.xe s
section
variable {X:Cx} {a b:Expr} {ta tb:TE} {pos:Pos}
theorem ZQ {r:R2} (hr:IxR X r) (ha:PE X a ta) (hb:PE X b tb) (hs:GK b):PE X (.Subscript a b pos) (tOp r ta tb):=by
 intro pins s σ H Q I h;exact Subscript_ (aK0 ha hb I h fun v u s2 x y H2 I2 rx ry q=>hr a b pins s2 σ H2 x y v u Q I2 rx ry q (hs _ _))
def aJc (K:PySem.W.Frag):R2:=fun x y H Q=>∃p xs i v,x=.ref p/\y=.int i/\SqL K H p xs/\atI xs i=some v/\Q v H
def aN0 (K:PySem.W.Frag):R2:=fun x y H Q=>∃p xs i v,x=.ref p/\y=.int i/\SqT K H p xs/\atI xs i=some v/\Q v H
def aN1:R2:=fun x y H Q=>∃z i c,x=.str z/\y=.int i/\z.length<=sizeLine/\atI z.cps.toList i=some c/\Q (.str ⟨#[c]⟩) H
theorem nO:IxR X (aJc X.K):=by
 intro value slice pins s σ H x y v u Q I rx ry h hs;obtain ⟨p,xs,i,z,rfl,rfl,hq,he,q⟩:=h;cases rx;obtain ⟨t,rfl⟩:=ry;obtain ⟨its,r,pl,hz⟩:=I.list hq;obtain ⟨j,h1,h2,h3,h4,h5⟩:=GJ he;obtain ⟨w,ew,rw'⟩:=r.get h2;have hl:=r.length;have hn:=sG;have fin:EP X pins σ Q w s:=⟨z,H,I,rw',q⟩
 by_cases h0:0<=i
 ·have hj:i.toNat=j:=by
   rw [seqIndex_of h0 h5] at h1;exact Option.some.inj h1
  exact item_listR pl.isList h0 (by lia) (by rw [hj];simpa using ew) fin hs
 ·have hj:(i+(its.toArray.size:Int)).toNat=j:=by
   rw [seqIndex_neg (by lia) h4] at h1;rw [List.size_toArray,<-hl];exact Option.some.inj h1
  exact subscriptTail_builtinR (x:=w) pl.isList.typeIs slot_list_getitem.lookup
   (wpAny_getItem_list_neg (Q:=fun r s'=>r=w/\EP X pins σ Q r s') pl.isList (by lia) (by rw [List.size_toArray] <;> lia) (by lia) (by rw [hj];simpa using ew) ⟨rfl,fin⟩) hs
theorem aGp:IxR X (aN0 X.K):=by
 intro value slice pins s σ H x y v u Q I rx ry h hs;obtain ⟨p,xs,i,z,rfl,rfl,hq,he,q⟩:=h;cases rx;obtain ⟨t,rfl⟩:=ry;obtain ⟨its,r,pl,hz⟩:=I.tuple hq;obtain ⟨j,h1,h2,h3,h4,h5⟩:=GJ he;obtain ⟨w,ew,rw'⟩:=r.get h2;have hl:=r.length;have hn:=sG;have fin:EP X pins σ Q w s:=⟨z,H,I,rw',q⟩
 exact subscriptTail_builtinR (x:=w) pl.typeIs slot_tuple_getitem.lookup
  (getItem_tuple (j:=j) (Q:=fun r s'=>r=w/\EP X pins σ Q r s') pl (by lia) (by lia) (by rw [List.size_toArray,<-hl];exact h1) (by simpa using ew) ⟨rfl,fin⟩) hs
theorem aGq:IxR X aN1:=by
 intro value slice pins s σ H x y v u Q I rx ry h hs;obtain ⟨z,i,c,rfl,rfl,hz,he,q⟩:=h;obtain ⟨t,rfl⟩:=rx;obtain ⟨t',rfl⟩:=ry;obtain ⟨j,h1,h2,h3,h4,h5⟩:=GJ he;have hl:z.cps.toList.length=z.length:=by simp [Str.length]
 rw [hl] at h1 h4 h5;have hn:=sG;exact tail_any (typeIs_str s z t) slot_str_getitem.lookup (getItem_str (c:=c) (by
  have e1:decide (i < -(2 ^ 63:Int))=false:=decide_eq_false (by lia);have e2:decide (i >= 2 ^ 63)=false:=decide_eq_false (by lia);rw [e1,e2,Bool.or_false]) (by rw [h1];simpa using h2) ⟨.str ⟨#[c]⟩,H,I.tok _,⟨_,rfl⟩,q⟩) hs
theorem O_ (its:List Value) (n j:Nat) (u:Value):Obj.mapSeq (·.setIfInBounds j u) {cls:=.type "list",data:=.seq its.toArray n}={cls:=.type "list",data:=.seq (its.set j u).toArray n}:=by
 simp [Obj.mapSeq]
theorem Inv.lst {pins:List (Addr×Obj)} {σ:St} {H:Hp} {s:Shared} {p:Addr} {xs:List V} (I:Inv X pins σ H s) (h:H p=some (.lst xs)) :
  ∃(its:List Value) (n:Nat),Vals xs its/\s.heap.get? p=some {cls:=.type "list",data:=.seq its.toArray n}/\xs.length<=sizeLine:=by
 obtain ⟨z,its,n,r,e⟩:=I.hok p _ h;exact ⟨its,n,r,e,z⟩
theorem Inv.aGr {pins:List (Addr×Obj)} {σ:St} {H:Hp} {s:Shared} {p:Addr} {xs ys:List V} {its its':List Value} {n n':Nat} {f:Obj->Obj} (I:Inv X pins σ H s) (h:H p=some (.lst xs))
  (ho:s.heap.get? p=some {cls:=.type "list",data:=.seq its.toArray n}) (hf:f {cls:=.type "list",data:=.seq its.toArray n}={cls:=.type "list",data:=.seq its'.toArray n'}) (r:Vals ys its') (hz:ys.length<=sizeLine) (t:Nat) :
  Inv X pins σ (upd H p (.lst ys)) {s with heap:=s.heap.update p f,toks:=t}:=by
 have e:(s.heap.update p f).get? p=some {cls:=.type "list",data:=.seq its'.toArray n'}:=by
  rw [Heap.get?_update_self f ho (by rw [hf] <;> rfl),hf]
 refine I.write (x:=p) (e:=p) (by rw [h];trivial) (.inl rfl) (fun b u hb q=>(Heap.get?_update_other _ _ (Ne.symm hb)).trans q) ⟨_,e⟩ ?_;exact ⟨hz,its',n',r,e⟩
def aK8:V->V->V->Hp->(Hp->Prop)->Prop:=fun o i v H Q=>∃p xs k j,o=.ref p/\i=.int k/\H p=some (.lst xs)/\ixN xs.length k=some j/\Q (upd H p (.lst (xs.set j v)))
theorem set_list:aMw X aK8:=by
 intro pins s σ H o i v ov iv u Q I ro ri rv h;obtain ⟨p,xs,k,j,rfl,rfl,hp,hj,q⟩:=h;cases ro;obtain ⟨t,rfl⟩:=ri;obtain ⟨its,n,r,ho,hz⟩:=I.lst hp;obtain ⟨h1,h2,h3,h4⟩:=SM hj;have hl:=r.length;have hn:=sG;have I':Inv X pins σ (upd H p (.lst (xs.set j v))) {s with heap:=s.heap.update p (Obj.mapSeq (·.setIfInBounds j u))}:=
  I.aGr hp ho (O_ its n j u) (r.set rv j) (by rw [List.length_set];exact hz) s.toks
 by_cases h0:0<=k
 ·have hk:k.toNat=j:=by
   rw [seqIndex_of h0 h4] at h1;exact Option.some.inj h1
  exact PySem.W.ki_setAt ho h0 (by lia) (by rw [List.size_toArray,<-hl];exact h4) (by rw [hk];exact ⟨_,I',q⟩)
 ·have hk:(k+(its.toArray.size:Int)).toNat=j:=by
   rw [seqIndex_neg (by lia) h3] at h1;rw [List.size_toArray,<-hl];exact Option.some.inj h1
  exact PySem.W.ki_setBack ho (by lia) (by rw [List.size_toArray,<-hl];exact h3) (by lia) (by rw [hk];exact ⟨_,I',q⟩)
theorem zR (lo hi:Option Int) (n:Nat):(sliceBounds lo hi none n).1=((HT.sIx n 0 lo:Nat):Int)/\(sliceBounds lo hi none n).2.1=((HT.sIx n n hi:Nat):Int)/\(sliceBounds lo hi none n).2.2=1:=by
 refine ⟨?_,?_,rfl⟩
 ·cases lo with
  | none=>simp [sliceBounds,HT.sIx]
  | some i=>
   simp only [sliceBounds,HT.sIx,Option.getD_none,show (1:Int) > 0 by decide,if_true];by_cases h:i<0
   ·simp only [h,if_true] <;> lia
   ·simp only [h,if_false] <;> lia
 ·cases hi with
  | none=>simp [sliceBounds,HT.sIx]
  | some i=>
   simp only [sliceBounds,HT.sIx,Option.getD_none,show (1:Int) > 0 by decide,if_true];by_cases h:i<0
   ·simp only [h,if_true] <;> lia
   ·simp only [h,if_false] <;> lia
theorem xM (its:List Value) (lo hi:Option Int):slicePick its.toArray lo hi none=((its.drop (HT.sIx its.length 0 lo)).take (HT.sIx its.length its.length hi-HT.sIx its.length 0 lo)).toArray:=by
 obtain ⟨h1,h2,h3⟩:=zR lo hi its.toArray.size;unfold slicePick;rw [h1,h2,h3];simp only [sliceRange_one,pick_run,List.size_toArray] <;> rfl
def aN2 (K:PySem.W.Frag):V->Option Int->Option Int->Hp->VK->Prop:=fun x lo hi H Q=>∃a xs,x=.ref a/\SqL K H a xs/\∀p,H p=none->Q (.ref p) (upd H p (.lst (SJ xs lo hi)))
theorem SN:SlR X (aN2 X.K):=by
 intro pins s σ H x v vl vu lo hi sl Q I rx hs pl pu h;obtain ⟨a,xs,rfl,hx,q⟩:=h;cases rx;obtain ⟨its,r,ht,hz⟩:=I.list hx;have hlen:=r.length;refine ⟨"list",_,slot_list_getitem.lookup,ht.isList.typeIs,?_⟩;refine wpAny_getItem_list_slice ht.isList hs pl pu .none (by simp) ?_ (by rw [List.size_toArray] <;> lia);rw [xM,<-hlen];refine ⟨.ref s.heap.objs.size,_,I.laid (t':=s.toks) (o:=.lst (SJ xs lo hi)) (fun b ob q=>Heap.get?_push_of_some _ q) (Nat.le_refl _) ?_,rfl,q _ (I.hok.fresh (Nat.le_refl _))⟩;exact ⟨Nat.le_trans (sV xs lo hi) hz,_,0,(r.drop (HT.sIx xs.length 0 lo)).take (HT.sIx xs.length xs.length hi-HT.sIx xs.length 0 lo),Heap.get?_push_size _ rfl⟩
theorem gZ:lM X (.builtin "len") (fun xs H Q=>∃p ys,xs=[.ref p]/\(SqL X.K H p ys\/SqT X.K H p ys)/\Q (.int ys.length) H):=by
 intro pins s σ H xs us Q I r h;obtain ⟨p,ys,rfl,hq,q⟩:=h;obtain ⟨u,rfl,rx⟩:=vals1 r;cases rx;have hn:=sG;rcases hq with hq|hq
 ·obtain ⟨its,r',pl,hz⟩:=I.list hq;have hlen:=r'.length;exact Calls.call_len_list pl.isList (by simp only [List.size_toArray] <;> lia) ⟨.int ys.length,H,I.tok _,⟨s.toks+1,by rw [List.size_toArray,hlen]⟩,q⟩
 ·obtain ⟨its,r',pl,hz⟩:=I.tuple hq;have hlen:=r'.length;exact len_tuple pl (by simp only [List.size_toArray] <;> lia) ⟨.int ys.length,H,I.tok _,⟨s.toks+1,by rw [List.size_toArray,hlen]⟩,q⟩
theorem zT:lM X (.builtin "len") (fun xs H Q=>∃z,xs=[.str z]/\z.length<=sizeLine/\Q (.int z.length) H):=by
 intro pins s σ H xs us Q I r h;obtain ⟨z,rfl,hz,q⟩:=h;obtain ⟨u,rfl,t,rfl⟩:=vals1 r;have hn:=sG;exact len_str (by lia) ⟨.int z.length,H,I.tok _,⟨_,rfl⟩,q⟩
theorem oE:lM X (.type "list") (fun xs H Q=>∃p ys,xs=[.ref p]/\(SqL X.K H p ys\/SqT X.K H p ys)/\∀l,H l=none->Q (.ref l) (upd H l (.lst ys))):=by
 intro pins s σ H xs us Q I r h;obtain ⟨p,ys,rfl,hq,q⟩:=h;obtain ⟨u,rfl,rx⟩:=vals1 r;cases rx;have fin:∀(its:List Value),Vals ys its->ys.length<=sizeLine->∀(h':Heap) (c':Nat),(∀b o',s.heap.get? b=some o'->h'.get? b=some o')->
   h'.get? s.heap.objs.size=some {cls:=.type "list",dict:=none,data:=.seq its.toArray c',slots:=#[]}->EP X pins σ Q (.ref s.heap.objs.size) {s with heap:=h'}:=fun its r' hz h' c' kp e=>
  ⟨.ref s.heap.objs.size,_,I.laid (t':=s.toks) kp (Nat.le_refl _) (show eQ X.prog X.w _ h' _ (.lst ys) from ⟨hz,its,c',r',e⟩),rfl,q _ (I.hok.fresh (Nat.le_refl _))⟩
 rcases hq with hq|hq
 ·obtain ⟨its,r',pl,hz⟩:=I.list hq;have hlen:=r'.length;obtain ⟨o,ho,hc,n,hd⟩:=pl.isList;exact call_list_seq p (.inl rfl) ho hc hd (fun h' c' kp e=>fin its r' hz h' c' kp e) (by simp only [List.size_toArray] <;> lia)
 ·obtain ⟨its,r',pl,hz⟩:=I.tuple hq;have hlen:=r'.length;obtain ⟨o,ho,hc,n,hd⟩:=pl;exact call_list_seq p (.inr rfl) ho hc hd (fun h' c' kp e=>fin its r' hz h' c' kp e) (by simp only [List.size_toArray] <;> lia)
theorem mW:lM X (.type "tuple") (fun xs H Q=>∃p ys,xs=[.ref p]/\((SqL X.K H p ys/\∀l,H l=none->Q (.ref l) (upd H l (.tup ys)))\/(SqT X.K H p ys/\Q (.ref p) H))):=by
 intro pins s σ H xs us Q I r h;obtain ⟨p,ys,rfl,h⟩:=h;obtain ⟨u,rfl,rx⟩:=vals1 r;cases rx;rcases h with ⟨hq,q⟩|⟨hq,q⟩
 ·obtain ⟨its,r',pl,hz⟩:=I.list hq;have hlen:=r'.length;refine call_tuple_list pl.isList (fun h' kp=>?_) (by simp only [List.size_toArray] <;> lia);have I1:Inv X pins σ H {s with heap:=h'}:=I.kept (t':=s.toks) kp;have I2:Inv X pins σ (upd H h'.objs.size (.tup ys)) {s with heap:=h'.push {cls:=.type "tuple",data:=.seq its.toArray}}:=
   I1.laid (t':=s.toks) (fun b o e=>Heap.get?_push_of_some _ e) (Nat.le_refl _) (show eQ X.prog X.w _ _ _ (.tup ys) from ⟨hz,its,r',iU.new _ _⟩)
  exact ⟨.ref h'.objs.size,_,I2,rfl,q _ (I1.hok.fresh (Nat.le_refl _))⟩
 ·obtain ⟨its,r',pl,hz⟩:=I.tuple hq;exact call_tuple_same pl ⟨.ref p,H,I,rfl,q⟩
def tyV (K:PySem.W.Frag) (T:String) (x:V) (H:Hp):Prop:=match x with
 | .str _=>T = "str"
 | .int _=>T = "int"
 | .ref p=>(T = "list"/\∃xs,SqL K H p xs)\/(T = "tuple"/\((∃o,K.lookup p=some o/\o.cls=.type "tuple"/\o.dict=none)\/∃xs,H p=some (.tup xs)))\/
   (T = "dict"/\((∃kvs,H p=some (.dK kvs))\/∃kvs,H p=some (.dT kvs)))\/(T = "set"/\∃S n,H p=some (.set S n))
 | _=>False
theorem aBv {pins:List (Addr×Obj)} {σ:St} {H:Hp} {s:Shared} {T:String} {x:V} {v:Value} (I:Inv X pins σ H s) (r:RelV x v) (ty:tyV X.K T x H) :
  s.TypeIs v T/\∀a,v=.ref a->∃ob,s.heap.get? a=some ob/\ob.dict=none:=by
 cases x with
 | str z=>
  obtain ⟨t,rfl⟩:=r;cases (show T = "str" from ty);exact ⟨typeIs_str s z t,fun _ e=>nomatch e⟩
 | int i=>
  obtain ⟨t,rfl⟩:=r;cases (show T = "int" from ty);exact ⟨typeIs_int s i t,fun _ e=>nomatch e⟩
 | ref p=>
  cases r;rcases ty with ⟨rfl,xs,hq⟩|⟨rfl,⟨o,hk,hc,hd⟩|⟨xs,hk⟩⟩|⟨rfl,hk⟩|⟨rfl,S,n,hk⟩
  ·obtain ⟨its,_,pl,_⟩:=I.list hq;refine ⟨pl.isList.typeIs,fun a e=>?_⟩;cases e;obtain ⟨o,n,e,c,hd,_⟩:=pl;exact ⟨o,e,hd⟩
  ·refine ⟨⟨o,I.kIn p o hk,hc⟩,fun a e=>?_⟩;cases e;exact ⟨o,I.kIn _ o hk,hd⟩
  ·obtain ⟨_,its,_,pl⟩:=I.hok p _ hk;refine ⟨(iU.tup pl).typeIs,fun a e=>?_⟩;cases e;exact iU.bare pl
  ·have z:∃o,s.heap.get? p=some o/\o.ExactDict:=by
    rcases hk with ⟨kvs,hk⟩|⟨kvs,hk⟩
    ·obtain ⟨_,_,_,_,o,_,_,e,ex,_⟩:=I.hok p _ hk;exact ⟨o,e,ex⟩
    ·obtain ⟨_,_,_,_,o,_,_,e,ex,_⟩:=I.hok p _ hk;exact ⟨o,e,ex⟩
   obtain ⟨o,e,ex⟩:=z;refine ⟨⟨o,e,ex.1⟩,fun a e2=>?_⟩;cases e2;exact ⟨o,e,ex.2.1⟩
  ·obtain ⟨o,_,_,_,e,ex,_⟩:=I.hok p _ hk;refine ⟨⟨o,e,ex.1⟩,fun a e2=>?_⟩;cases e2;exact ⟨o,e,ex.2.1⟩
 | _=>exact False.elim ty
noncomputable def aM5 (K:PySem.W.Frag) (T:String) (r:V->List V->Hp->VK->Prop) (to:TE):TE:=fun σ H Q=>to σ H fun x H1=>tyV K T x H1/\r x [] H1 Q
noncomputable def tBM (K:PySem.W.Frag) (T:String) (r:V->List V->Hp->VK->Prop) (to:TE) (t:TA):TE:=fun σ H Q=>to σ H fun x H1=>tyV K T x H1/\t σ H1 fun xs H2=>r x xs H2 Q
variable {o e:Expr} {es:List Expr} {to:TE} {t:TA} {name:Str} {apos cpos:Pos} {T id:String} {r:V->List V->Hp->VK->Prop}
theorem JZ (pa:PlainAttrs T) (slot:Slot T name id) (hty:typeOf (.builtin id)=pure (.type "method_descriptor")) (hm:MtR X id r) (ho:PE X o to)
  (hbase:attributeBase o name X.env (eval o X.env)=eval o X.env:=by rfl) (hline:(apos.endLine==cpos.line)=true:=by rfl):PE X (.Call (.Attribute o name apos) [] [] cpos) (aM5 X.K T r to):=by
 intro pins s σ H Q I h;refine wpAny_Call_method0_late hbase hline (thn (ho pins s σ H _ I h) fun v s1 ⟨x,H1,I1,r1,ty,q1⟩=>?_);obtain ⟨h1,h2⟩:=aBv I1 r1 ty;exact ⟨T,id,pa,slot,hty,h1,h2,Calls.callWith_builtin rfl (PySem.evalArgs_none (hm pins s1 σ H1 x [] v [] Q I1 r1 .nil q1))⟩
theorem PJ (pa:PlainAttrs T) (slot:Slot T name id) (hty:typeOf (.builtin id)=pure (.type "method_descriptor")) (hm:MtR X id r) (ho:PE X o to) (ha:PA X (e::es) t)
  (hbase:attributeBase o name X.env (eval o X.env)=eval o X.env:=by rfl)
  (hfew:((backTo cpos (starEach (e::es) X.env)).all (fun x=>!x.1)&&(backToKw cpos (keywordEach [] X.env)).all (fun x=>x.1.isSome)
   && decide ((e::es).length+([]:List Keyword).length+(if ([]:List Keyword).isEmpty then 0 else 1)<30))=true:=by rfl)
  (hline:(apos.endLine==cpos.line)=true:=by rfl) (hs:starEach (e::es) X.env=(false,eval e X.env)::starEach es X.env:=by rfl) (hplain:(backTo cpos (starEach es X.env)).any (·.1)=false:=by rfl) :
  PE X (.Call (.Attribute o name apos) (e::es) [] cpos) (tBM X.K T r to t):=by
 intro pins s σ H Q I h;refine wpAny_Call_method_late hbase hfew hline rfl (thn (ho pins s σ H _ I h) fun v s1 ⟨x,H1,I1,r1,ty,q1⟩=>?_);obtain ⟨h1,h2⟩:=aBv I1 r1 ty;refine ⟨T,id,pa,slot,hty,h1,h2,?_⟩;have hA:=ha cpos pins s1 σ H1 _ I1 q1;rw [hs] at hA ⊢;refine Calls.callWith_builtin (by show (false||(backTo cpos (starEach es X.env)).any (·.1))=false;rw [hplain] <;> rfl) (Calls.evalArgs_plain ?_);exact thn hA fun us s2 ⟨vs,H2,I2,r2,q2⟩=>hm pins s2 σ H2 x vs v us Q I2 r1 r2 q2
end
def MtM (X:Cx) (id:String) (r:V->List V->Hp->VK->Prop):Prop:=
 ∀(pins:List (Addr×Obj)) (s:Shared) (σ:St) (H:Hp) (x:V) (xs:List V) (v:Value) (us:List Value) (Q:VK),Inv X pins σ H s->RelV x v->Vals xs us->r x xs H Q->
  wpAny (model X.prog X.w) X.A (call (.builtin id) (v::us)) (EP X pins σ Q) X.xe s
theorem Vals.one:∀{x:V} {us:List Value},Vals [x] us->∃u,us=[u]/\RelV x u
 | _,_,.cons r .nil=>⟨_,rfl,r⟩
theorem Vals.zero:∀{us:List Value},Vals [] us->us=[]
 | _,.nil=>rfl
theorem Vals.dropLast {xs:List V} {us:List Value} (h:Vals xs us):Vals xs.dropLast us.dropLast:=by
 induction h with
 | nil=>exact .nil
 | cons r t ih=>
  cases t with
  | nil=>exact .nil
  | cons q t'=>exact .cons r ih
theorem Vals.rep {xs:List V} {us:List Value} (h:Vals xs us):∀k:Nat,Vals (List.replicate k xs).flatten (List.replicate k us).flatten
 | 0=>.nil
 | k+1=>by
  rw [List.replicate_succ,List.replicate_succ,List.flatten_cons,List.flatten_cons];exact Vals.append h (Vals.rep h k)
theorem PK {α:Type} (l:List α):l.eraseIdx (l.length-1)=l.dropLast:=by
 induction l with
 | nil=>rfl
 | cons a r ih=>
  cases r with
  | nil=>rfl
  | cons b r=>
   have e:(a::b::r).length-1=((b::r).length-1)+1:=by
    have h1:(a::b::r).length=r.length+2:=rfl;have h2:(b::r).length=r.length+1:=rfl;lia
   rw [e,List.eraseIdx_cons_succ,ih]
   all_goals rfl
theorem foldl_rep (its:List Value):∀(k:Nat) (acc:List Value),
  List.foldl (fun x1 x2=>x1++x2) acc.toArray (List.replicate k its.toArray)=(acc++(List.replicate k its).flatten).toArray
 | 0,acc=>by simp
 | k+1,acc=>by
  have e:acc.toArray++its.toArray=(acc++its).toArray:=by simp
  have e2:(acc++its)++(List.replicate k its).flatten=acc++(List.replicate (k+1) its).flatten:=by
   rw [List.replicate_succ,List.flatten_cons,List.append_assoc]
  rw [<-e2,<-foldl_rep its k (acc++its),<-e,List.replicate_succ,List.foldl_cons]
section
variable {X:Cx} {pins:List (Addr×Obj)} {σ:St} {H:Hp} {s:Shared} {l:Addr} {xs ys:List V}
theorem Inv.aK9 {its its':List Value} {n:Nat} {f:Array Value->Array Value} {t':Nat} (I:Inv X pins σ H s) (hH:H l=some (.lst xs))
  (e:s.heap.get? l=some {cls:=.type "list",data:=.seq its.toArray n}) (hf:f its.toArray=its'.toArray) (hv:Vals ys its') (hz:ys.length<=sizeLine) :
  Inv X pins σ (upd H l (.lst ys)) {s with heap:=s.heap.update l (Obj.mapSeq f),toks:=t'}:=by
 have q:=PySem.IsL.update e f;rw [hf] at q;refine I.write (x:=l) (e:=l) (by rw [hH];exact trivial) (.inl rfl) (fun b' u hb hu=>(Heap.get?_update_other s.heap (Obj.mapSeq f) (Ne.symm hb)).trans hu) ⟨_,q⟩ ?_;exact ⟨hz,its',_,hv,q⟩
theorem Inv.aKa {its:List Value} {t':Nat} (I:Inv X pins σ H s) (hv:Vals ys its) (hz:ys.length<=sizeLine) :
  Inv X pins σ (upd H s.heap.objs.size (.lst ys)) {s with heap:=s.heap.push {cls:=.type "list",data:=.seq its.toArray},toks:=t'}:=
 I.laid (fun _ _ q=>Heap.get?_push_of_some _ q) (Nat.le_refl _) ⟨hz,its,0,hv,Heap.get?_push_size _ rfl⟩
theorem Inv.fresh (I:Inv X pins σ H s):H s.heap.objs.size=none:=I.hok.fresh (Nat.le_refl _)
theorem Inv.aGs (I:Inv X pins σ H s) (hH:H l=some (.lst xs)):xs.length<=sizeLine/\∃(its:List Value) (n:Nat),Vals xs its/\xs.length=its.length/\s.heap.get? l=some {cls:=.type "list",data:=.seq its.toArray n}:=by
 obtain ⟨z,its,n,r,e⟩:=I.hok l _ hH;exact ⟨z,its,n,r,r.length,e⟩
theorem J0 {n:Nat} (h:n<=sizeLine):Builtin.List.listTooLong n=false:=by
 unfold Builtin.List.listTooLong;exact decide_eq_false (by lia)
end
section
variable {X:Cx}
def xN:V->List V->Hp->VK->Prop:=fun x vs H Q=>∃l xs y,x=.ref l/\vs=[y]/\H l=some (.lst xs)/\xs.length<sizeLine/\Q .non (upd H l (.lst (xs++[y])))
theorem j0:MtM X "list.append" xN:=by
 intro pins s σ H x vs v us Q I rx rv h;obtain ⟨l,xs,y,rfl,rfl,hH,hz,q⟩:=h;cases rx;obtain ⟨u,rfl,ru⟩:=rv.one;obtain ⟨z,its,n,r,hl,e⟩:=I.aGs hH;refine call_meets F.slot_list_append ⟨_,e,rfl⟩ F.entry_list_append (F.args_list_append_2 _ _) (PySem.list_append l its.toArray n u (by rw [List.size_toArray];lia)) ⟨e,?_⟩;refine ⟨.non,_,I.aK9 (its':=its++[u]) hH e (by simp) (r.append (.cons ru .nil)) ?_,rfl,q⟩;rw [List.length_append,List.length_singleton];lia
def aDd:V->List V->Hp->VK->Prop:=fun x vs H Q=>∃l b xs zs,x=.ref l/\vs=[.ref b]/\H l=some (.lst xs)/\H b=some (.lst zs)/\xs.length+zs.length<=sizeLine/\Q .non (upd H l (.lst (xs++zs)))
theorem SQ:MtM X "list.extend" aDd:=by
 intro pins s σ H x vs v us Q I rx rv h;obtain ⟨l,b,xs,zs,rfl,rfl,hH,hB,hz,q⟩:=h;cases rx;obtain ⟨u,rfl,ru⟩:=rv.one;cases ru;obtain ⟨z,its,n,r,hl,e⟩:=I.aGs hH;obtain ⟨z2,its2,n2,r2,hl2,e2⟩:=I.aGs hB;have hsz:its.toArray.size+its2.toArray.size<=sizeLine:=by rw [List.size_toArray,List.size_toArray];lia
 have hlong:¬(!its.toArray.isEmpty&&Builtin.List.listTooLong (its.toArray.size+its2.toArray.size))=true:=by
  rw [J0 hsz,Bool.and_false];exact Bool.false_ne_true
 refine call_meets F.slot_list_extend ⟨_,e,rfl⟩ F.entry_list_extend (F.args_list_extend_2 _ _)
  (AutoSeq1.list_extend_list_list_0 l its.toArray n b its2.toArray n2 hlong (by rw [List.size_toArray];lia) (by lia)) ⟨e,e2,?_⟩
 refine ⟨.non,_,I.aK9 (its':=its++its2) hH e (by simp) (r.append r2) ?_,rfl,q⟩;rw [List.length_append];lia
def aM6:V->List V->Hp->VK->Prop:=fun x vs H Q=>∃l xs y,x=.ref l/\vs=[]/\H l=some (.lst xs)/\xs[xs.length-1]?=some y/\Q y (upd H l (.lst xs.dropLast))
theorem SX:MtM X "list.pop" aM6:=by
 intro pins s σ H x vs v us Q I rx rv h;obtain ⟨l,xs,y,rfl,rfl,hH,hy,q⟩:=h;cases rx;have hus:=rv.zero;subst hus;obtain ⟨z,its,n,r,hl,e⟩:=I.aGs hH;obtain ⟨u,hu,ru⟩:=r.get hy;have hy':its.toArray[its.toArray.size-1]?=some u:=by
  show its.toArray[its.length-1]?=some u;rw [<-Array.getElem?_toList,<-hl];exact hu
 refine call_meets F.slot_list_pop ⟨_,e,rfl⟩ F.entry_list_pop (F.args_list_pop_1 _) (MeetsSeq.list_pop_last l its.toArray n u hy' (by rw [List.size_toArray];lia)) ⟨e,?_⟩;refine ⟨y,_,I.aK9 (its':=its.dropLast) hH e ?_ r.dropLast ?_,ru,q⟩
 ·show its.toArray.eraseIdxIfInBounds (its.toArray.size-1)=its.dropLast.toArray;rw [List.size_toArray,List.eraseIdxIfInBounds_toArray,PK]
 ·rw [List.length_dropLast];lia
def aN3:R2:=fun x y H Q=>∃l k xs,x=.ref l/\y=.int k/\H l=some (.lst xs)/\-(2 ^ 63)<=k/\k<2 ^ 63/\xs.length*k.toNat<=sizeLine/\
 ∀p,H p=none->Q (.ref p) (upd H p (.lst (List.replicate k.toNat xs).flatten))
theorem len_rep {α:Type} (xs:List α) (k:Nat):(List.replicate k xs).flatten.length=k*xs.length:=by
 induction k with
 | zero=>simp
 | succ k ih=>rw [List.replicate_succ,List.flatten_cons,List.length_append,ih,Nat.succ_mul,Nat.add_comm]
theorem aGt:OpR X (binaryOp .Mult) aN3:=by
 intro pins s σ H x y v u Q I rx ry h;obtain ⟨l,k,xs,rfl,rfl,hH,h1,h2,hz,q⟩:=h;cases rx;obtain ⟨t,rfl⟩:=ry;obtain ⟨z,its,n,r,hl,e⟩:=I.aGs hH;have hlen:its.toArray.size*k.toNat<=sizeLine:=by rw [List.size_toArray,<-hl];exact hz
 have hcap:¬its.toArray.size*k.toNat > (2 ^ 63-1) / 8:=by
  have:(sizeLine:Nat)<=(2 ^ 63-1) / 8:=by decide
  lia
 have hfit:¬(!Builtin.List.listFitsIndex k)=true:=by
  rw [fitsIndex_both h1 h2];exact Bool.false_ne_true
 have hlong:¬Builtin.List.listTooLong (its.toArray.size*k.toNat)=true:=by
  rw [J0 hlen];exact Bool.false_ne_true
 have hnew:List.foldl (fun x1 x2=>x1++x2) #[] (List.replicate (if its.toArray.isEmpty=true then 0 else k.toNat) its.toArray)=(List.replicate k.toNat its).flatten.toArray:=by
  have f0:∀m:Nat,List.foldl (fun x1 x2=>x1++x2) #[] (List.replicate m its.toArray)=(List.replicate m its).flatten.toArray:=fun m=>by
   have:=foldl_rep its m [];rw [List.nil_append] at this;exact this
  rw [f0];cases its with
  | nil=>simp
  | cons a r'=>rw [if_neg (by simp)]
 refine wpAny_binaryOp_repeat_ref (T := "list") (U := "int") (by decide) ⟨_,e,rfl⟩ (fun s'=>typeIs_int s' k t) noFill_list_mul F.fills_int_mul F.slot_int_rmul repeat_list F.slot_int_index.lookup
  (call_meets F.slot_int_rmul (typeIs_int s k t) F.entry_int_rmul (F.args_int_rmul_2 _ _) (int___rmul___int_list k t l its.toArray n)
   ⟨e,rfl,⟨_,e,rfl⟩,call_meets F.slot_list_mul ⟨_,e,rfl⟩ F.entry_list_mul (F.args_list_mul_2 _ _) (AutoListH.list___mul___list_int_3 l its.toArray n k t hfit hcap hlong) ⟨e,?_⟩⟩)
 rw [hnew];exact ⟨.ref _,_,I.aKa (t':=s.toks) (r.rep k.toNat) (by rw [len_rep,Nat.mul_comm];exact hz),rfl,q _ I.fresh⟩
end
section
variable {κ:Type} [DecidableEq κ]
noncomputable def wG (kvs:List (κ×V)) (k:κ):Option V:=(kvs.find? fun kv=>decide (kv.1=k)).map (·.2)
noncomputable def putK (kvs:List (κ×V)) (k:κ) (v:V):List (κ×V):=
 if (kvs.any fun kv=>decide (kv.1=k))=true then kvs.map (fun kv=>if kv.1=k then (kv.1,v) else kv) else kvs++[(k,v)]
theorem mX {p:κ×V} {r:List (κ×V)} {k:κ} (e:p.1=k):wG (p::r) k=some p.2:=by simp [wG,List.find?_cons,e]
theorem mY {p:κ×V} {r:List (κ×V)} {k:κ} (e:¬p.1=k):wG (p::r) k=wG r k:=by simp [wG,List.find?_cons,e]
theorem mZ (k:κ):∀kvs:List (κ×V),(kvs.any fun kv=>decide (kv.1=k))=(wG kvs k).isSome
 | []=>rfl
 | p::r=>by
  rw [List.any_cons];by_cases e:p.1=k
  ·simp only [mX e,decide_eq_true e,Bool.true_or,Option.isSome_some]
  ·rw [mY e,decide_eq_false e,Bool.false_or];exact mZ k r
theorem jC (kvs:List (κ×V)) (k:κ) (v:V):(putK kvs k v).length<=kvs.length+1:=by
 unfold putK;split
 ·rw [List.length_map];lia
 ·rw [List.length_append,List.length_cons,List.length_nil];lia
theorem ZR {kvs:List (κ×V)} {k:κ} (v:V) (h:wG kvs k=none):putK kvs k v=kvs++[(k,v)]:=by
 unfold putK;rw [mZ,h];exact if_neg (by decide)
theorem FJ.sX {o:Option V} {u:Option Value} (r:FJ o u):o.isSome=u.isSome:=by
 cases o with
 | none=>cases u with
  | none=>rfl
  | some _=>exact (show False from r).elim
 | some _=>cases u with
  | none=>exact (show False from r).elim
  | some _=>rfl
theorem KV.val {kvs:List (κ×V)} {vs:List (κ×Value)} (r:KV kvs vs) (k:κ):FJ (wG kvs k) (valueAt vs k):=by
 unfold KV at r;induction r with
 | nil=>exact True.intro
 | @cons p q ps qs h t ih=>
  obtain ⟨h1,h2⟩:=h;by_cases e:p.1=k
  ·have e':q.1=k:=h1.symm.trans e;have b:valueAt (q::qs) k=some q.2:=by simp [valueAt,List.find?_cons,e']
   rw [mX e,b];exact h2
  ·have e':¬q.1=k:=fun z=>e (h1.trans z)
   have b:valueAt (q::qs) k=valueAt qs k:=by simp [valueAt,List.find?_cons,e']
   rw [mY e,b];exact ih
theorem KV.any {kvs:List (κ×V)} {vs:List (κ×Value)} (r:KV kvs vs) (k:κ):(kvs.any fun kv=>decide (kv.1=k))=vs.any fun kv=>decide (kv.1=k):=by
 unfold KV at r;induction r with
 | nil=>rfl
 | cons h t ih=>rw [List.any_cons,List.any_cons,ih,h.1]
theorem KV.repl {kvs:List (κ×V)} {vs:List (κ×Value)} (r:KV kvs vs) (k:κ) {y:V} {u:Value} (ry:RelV y u) :
  KV (kvs.map fun kv=>if kv.1=k then (kv.1,y) else kv) (vs.map fun kv=>if kv.1=k then (kv.1,u) else kv):=by
 unfold KV at r ⊢;induction r with
 | nil=>exact .nil
 | @cons p q ps qs h t ih=>
  rw [List.map_cons,List.map_cons];refine .cons ?_ ih;obtain ⟨h1,h2⟩:=h;by_cases e:p.1=k
  ·rw [if_pos e,if_pos (h1.symm.trans e)];exact ⟨h1,ry⟩
  ·rw [if_neg e,if_neg (fun z=>e (h1.trans z))];exact ⟨h1,h2⟩
theorem KV.put {kvs:List (κ×V)} {vs:List (κ×Value)} (r:KV kvs vs) (k:κ) {y:V} {u:Value} (ry:RelV y u):KV (putK kvs k y) (stored vs k u):=by
 unfold putK stored;rw [r.any k];by_cases e:(vs.any fun kv=>decide (kv.1=k))=true
 ·rw [if_pos e,if_pos e];exact r.repl k ry
 ·rw [if_neg e,if_neg e];exact Paired.snoc r ⟨rfl,ry⟩
theorem KV.length {kvs:List (κ×V)} {vs:List (κ×Value)} (r:KV kvs vs):kvs.length=vs.length:=Paired.length r
end
theorem zU {P:Program} {w:World} {k:Key} {u:Value} (r:RelV (kV k) u):(bU P w).is k u=true:=by
 cases k with
 | inl i=>obtain ⟨t,e⟩:=(show ∃t,u=Value.int i t from r);subst e;exact FW P w i t
 | inr x=>obtain ⟨t,e⟩:=(show ∃t,u=Value.str x t from r);subst e;exact FZ P w x t
theorem zV {P:Program} {w:World}:∀{ks:List Key} {us:List Value},Vals (ks.map kV) us->ItemsAre (bU P w) ks us
 | [],_,r=>by rw [List.map_nil] at r;cases r;exact .nil
 | k::ks,_,r=>by
  rw [List.map_cons] at r;cases r with
  | cons h t=>exact .cons (zU h) (zV t)
abbrev KT (H:Hp):List (List Key×V)->List (List Key×Addr×Value)->Prop:=Paired fun p q=>p.1=q.1/\H q.2.1=some (.tup (p.1.map kV))/\RelV p.2 q.2.2
theorem KT.val {H:Hp} {kvs:List (List Key×V)} {xs:List (List Key×Addr×Value)} (r:KT H kvs xs) (k:List Key):FJ (wG kvs k) ((atKey xs k).map (·.2)):=by
 induction r with
 | nil=>exact True.intro
 | @cons p q ps qs h t ih=>
  obtain ⟨h1,_,h2⟩:=h;by_cases e:p.1=k
  ·have e':q.1=k:=h1.symm.trans e;have b:atKey (q::qs) k=some q.2:=by simp [atKey,List.find?_cons,e']
   rw [mX e,b];exact h2
  ·have e':¬q.1=k:=fun z=>e (h1.trans z)
   have b:atKey (q::qs) k=atKey qs k:=by simp [atKey,List.find?_cons,e']
   rw [mY e,b];exact ih
theorem KT.repl {H:Hp} {kvs:List (List Key×V)} {xs:List (List Key×Addr×Value)} (r:KT H kvs xs) (k:List Key) {y:V} {u:Value} (ry:RelV y u) :
  KT H (kvs.map fun kv=>if kv.1=k then (kv.1,y) else kv) (xs.map (putAt k u)):=by
 induction r with
 | nil=>exact .nil
 | @cons p q ps qs h t ih=>
  rw [List.map_cons,List.map_cons];refine .cons ?_ ih;obtain ⟨h1,h2,h3⟩:=h;unfold putAt;by_cases e:p.1=k
  ·rw [if_pos e,if_pos (h1.symm.trans e)];exact ⟨h1,h2,ry⟩
  ·rw [if_neg e,if_neg (fun z=>e (h1.trans z))];exact ⟨h1,h2,h3⟩
theorem KT.put {H:Hp} {kvs:List (List Key×V)} {xs:List (List Key×Addr×Value)} (r:KT H kvs xs) (k:List Key) {b:Addr} {y:V} {u:Value} (hb:H b=some (.tup (k.map kV))) (ry:RelV y u) :
  KT H (putK kvs k y) (storedH xs k b u):=by
 have e:(kvs.any fun kv=>decide (kv.1=k))=(atKey xs k).isSome:=by
  rw [mZ,(r.val k).sX,Option.isSome_map]
 unfold putK storedH;rw [e];by_cases q:(atKey xs k).isSome=true
 ·rw [if_pos q,if_pos q];exact r.repl k ry
 ·rw [if_neg q,if_neg q];exact Paired.snoc r ⟨rfl,hb,ry⟩
theorem KT.keeps {H H':Hp} {kvs:List (List Key×V)} {xs:List (List Key×Addr×Value)} (r:KT H kvs xs) (ht:∀b ys,H b=some (.tup ys)->H' b=some (.tup ys)):KT H' kvs xs:=
 Paired.aJq r fun _ _ z=>⟨z.1,ht _ _ z.2.1,z.2.2⟩
section
variable {P:Program} {w:World} {H:Hp} {h:Heap} {a:Addr}
theorem aGu {u:HO} (ok:HOk P w H h) (e:Rd H a u):eQ P w H h a u:=e.ok ok
theorem ZV {kvs:List (Key×V)} (ok:HOk P w H h) (e:Rd H a (.dK kvs)):kvs.length<=sizeLine/\(a==sysModules)=false/\∃vs,KV kvs vs/\h.DictOf (bU P w) a vs:=
 show eQ P w H h a (.dK kvs) from aGu ok e
theorem PL {kvs:List (Key×V)} (ok:HOk P w H h) (e:H a=some (.dK kvs)):kvs.length<=sizeLine/\(a==sysModules)=false/\∃vs,KV kvs vs/\h.DictOf (bU P w) a vs:=ZV ok (.inl e)
theorem zW {ks:List Key} (ok:HOk P w H h) (e:H a=some (.tup (ks.map kV))):(tupleKind (bU P w)).is h ks a:=by
 obtain ⟨_,its,r,o,h1,h2,n,h3⟩:=(show eQ P w H h a (.tup (ks.map kV)) from ok a _ e)
 exact ⟨o,its.toArray,n,h1,h2,congrArg (·.1) h3,by simpa using zV r⟩
theorem ZW {kvs:List (List Key×V)} (ok:HOk P w H h) (e:Rd H a (.dT kvs)):kvs.length<=sizeLine/\(a==sysModules)=false/\
  ∃xs,KT H kvs xs/\h.DictOfH (tupleKind (bU P w)) a xs:=by
 obtain ⟨z,y,xs,r,o,es,ep,h1,h2,h3,h4,h5⟩:=(show eQ P w H h a (.dT kvs) from aGu ok e)
 refine ⟨z,y,xs,r,o,es,ep,h1,h2,h3,h4,fun x hx=>?_,h5⟩;have all:∀{l:List (List Key×V)} {m:List (List Key×Addr×Value)},KT H l m->∀x∈m,(tupleKind (bU P w)).is h x.1 x.2.1:=by
  intro l m q;induction q with
  | nil=>intro x hx;exact nomatch hx
  | @cons p q ps qs hq t ih=>
   intro x hx;rcases List.mem_cons.mp hx with e|hx
   ·subst e;exact zW ok (by rw [<-hq.1];exact hq.2.1)
   ·exact ih x hx
 exact all r x hx
theorem aDe {kvs:List (List Key×V)} (ok:HOk P w H h) (e:H a=some (.dT kvs)):kvs.length<=sizeLine/\(a==sysModules)=false/\
  ∃xs,KT H kvs xs/\h.DictOfH (tupleKind (bU P w)) a xs:=ZW ok (.inl e)
end
def YW (H:Hp) (a:Addr) (y:V) (r:Option V):Prop:=
 (∃kvs k,Rd H a (.dK kvs)/\y=kV k/\r=wG kvs k)\/∃kvs k b,Rd H a (.dT kvs)/\y=.ref b/\H b=some (.tup (k.map kV))/\r=wG kvs k
def aBw (H:Hp) (a:Addr) (y v:V) (H':Hp):Prop:=
 (∃kvs k,H a=some (.dK kvs)/\y=kV k/\kvs.length<sizeLine/\H'=upd H a (.dK (putK kvs k v)))\/
 ∃kvs k b,H a=some (.dT kvs)/\y=.ref b/\H b=some (.tup (k.map kV))/\kvs.length<sizeLine/\H'=upd H a (.dT (putK kvs k v))
theorem YW.k {H:Hp} {a:Addr} {kvs:List (Key×V)} {k:Key} (e:H a=some (.dK kvs)):YW H a (kV k) (wG kvs k):=.inl ⟨kvs,k,.inl e,rfl,rfl⟩
theorem YW.t {H:Hp} {a b:Addr} {kvs:List (List Key×V)} {k:List Key} (e:H a=some (.dT kvs)) (eb:H b=some (.tup (k.map kV))):YW H a (.ref b) (wG kvs k):=.inr ⟨kvs,k,b,.inl e,rfl,eb,rfl⟩
theorem aBw.k {H:Hp} {a:Addr} {kvs:List (Key×V)} {k:Key} {v:V} (e:H a=some (.dK kvs)) (hl:kvs.length<sizeLine):aBw H a (kV k) v (upd H a (.dK (putK kvs k v))):=.inl ⟨kvs,k,e,rfl,hl,rfl⟩
theorem aBw.t {H:Hp} {a b:Addr} {kvs:List (List Key×V)} {k:List Key} {v:V} (e:H a=some (.dT kvs)) (eb:H b=some (.tup (k.map kV))) (hl:kvs.length<sizeLine) :
  aBw H a (.ref b) v (upd H a (.dT (putK kvs k v))):=.inr ⟨kvs,k,b,e,rfl,eb,hl,rfl⟩
section
variable {X:Cx} {pins:List (Addr×Obj)} {σ:St} {H:Hp} {s:Shared} {a:Addr} {y v:V} {u r:Value} {o:Option V} {A:Around} {E:Value->Shared->Prop}
theorem Inv.big (I:Inv X pins σ H s):sysModules<s.heap.objs.size:=by
 have h:mainGlobals<s.heap.objs.size:=(I.mod.glob.keeps I.bk).lt;exact Nat.lt_trans (by decide) h
theorem S5 {Q:Value->Shared->Prop} (hu:A.units+1<cLine) (I:Inv X pins σ H s) (g:YW H a y (some v)) (ry:RelV y u) (h:∀w' s',Inv X pins σ H s'->RelV v w'->Q w' s') :
  wpAny (model X.prog X.w) A (getItem (.ref a) u) Q E s:=by
 rcases g with ⟨kvs,k,e,ey,l⟩|⟨kvs,k,b,e,ey,eb,l⟩
 ·subst ey;obtain ⟨z,hd,vs,rel,dd⟩:=ZV I.hok e;obtain ⟨w',hw,rw'⟩:=FJ.some_of (v:=v) (o:=valueAt vs k) (by rw [l];exact rel.val k);exact wpAny_getItem_of (zU ry) dd.mapOf hw (h w' _ (I.tok _) rw')
 ·subst ey;cases (show u=Value.ref b from ry);obtain ⟨z,hd,xs,rel,dd⟩:=ZW I.hok e;obtain ⟨w',hw,rw'⟩:=FJ.some_of (v:=v) (o:=(atKey xs k).map (·.2)) (by rw [l];exact rel.val k);obtain ⟨p,hp,hp2⟩:=Option.map_eq_some_iff.mp hw;refine wpAny_getItem_heap (tupleKind_room_in1 hu) (zW I.hok eb) dd hp ?_;rw [hp2];exact h w' _ (I.tok _) rw'
theorem aN4 {Q:Value->Shared->Prop} (hu:A.units+1<cLine) (I:Inv X pins σ H s) (g:YW H a y o) (ry:RelV y u) (h:∀s',Inv X pins σ H s'->Q (.bool o.isSome) s') :
  wpAny (model X.prog X.w) A (compareOp .In u (.ref a)) Q E s:=by
 rcases g with ⟨kvs,k,e,ey,l⟩|⟨kvs,k,b,e,ey,eb,l⟩
 ·subst ey;obtain ⟨z,hd,vs,rel,dd⟩:=ZV I.hok e;refine wpAny_in_of (zU ry) hd dd.mapOf ?_;rw [<-(rel.val k).sX,<-l];exact h _ (I.tok _)
 ·subst ey;cases (show u=Value.ref b from ry);obtain ⟨z,hd,xs,rel,dd⟩:=ZW I.hok e;refine wpAny_in_heap (tupleKind_room_in1 hu) (zW I.hok eb) hd dd ?_;have q:=(rel.val k).sX;rw [Option.isSome_map] at q;rw [<-q,<-l];exact h _ (I.tok _)
theorem S6 {h':Heap} {t':Nat} {ob:HO} (I:Inv X pins σ H s) (mu:Mut (H a)) (hs:Heap.SameBut a s.heap h') (he:∃q,h'.get? a=some q) (new:eQ X.prog X.w (upd H a ob) h' a ob) :
  Inv X pins σ (upd H a ob) {s with heap:=h',toks:=t'}:=
 I.write (x:=a) (e:=a) mu (.inl rfl) (fun b q hb z=>(hs.2 b hb).trans z) he new
theorem S7 {P:Program} {w:World} {H':Hp} {h':Heap} {kvs:List (Key×V)} {vs:List (Key×Value)} (z:kvs.length<=sizeLine) (hd:(a==sysModules)=false) (rel:KV kvs vs) (dd:h'.DictOf (bU P w) a vs) :
  eQ P w H' h' a (.dK kvs):=⟨z,hd,vs,rel,dd⟩
theorem S8 {H':Hp} {Q:Unit->Shared->Prop} (hu:A.units+1<cLine) (I:Inv X pins σ H s) (g:aBw H a y v H') (ry:RelV y u) (rv:RelV v r) (h:∀s',Inv X pins σ H' s'->Q () s') :
  wpAny (model X.prog X.w) A (setItem (.ref a) u r) Q E s:=by
 rcases g with ⟨kvs,k,e,ey,l,eH⟩|⟨kvs,k,b,e,ey,eb,l,eH⟩
 ·subst ey eH;obtain ⟨z,hd,vs,rel,dd⟩:=PL I.hok e;have hz:vs.length<=sizeLine:=by rw [<-rel.length];exact z
  have hl:(putK kvs k v).length<=sizeLine:=by have:=jC kvs k v;lia
  refine wpAny_setItem_pairs (hsz:=hz) (zU ry) dd fun h' dd' hs=>h _ ?_
  have he:∃q,h'.get? a=some q:=let ⟨q,_,_,hq,_⟩:=dd';⟨q,hq⟩
  exact S6 I (by rw [e];exact True.intro) hs he (S7 hl hd (rel.put k rv) dd')
 ·subst ey eH;cases (show u=Value.ref b from ry);obtain ⟨z,hd,xs,rel,dd⟩:=aDe I.hok e;have hz:xs.length<=sizeLine:=by rw [<-Paired.length rel];exact z
  have hl:(putK kvs k v).length<=sizeLine:=by have:=jC kvs k v;lia
  refine wpAny_setItem_heap (hsz:=hz) (tupleKind_room_in1 hu) (zW I.hok eb) dd fun h' dd' hs=>h _ ?_
  obtain ⟨q,es,ep,hq,h2,h3,h4,_,h5⟩:=dd';refine S6 I (by rw [e];exact True.intro) hs ⟨q,hq⟩ ⟨hl,hd,_,(rel.put k eb rv).keeps fun c ys ec=>?_,q,es,ep,hq,h2,h3,h4,h5⟩;rw [aN (mR ec e (fun z=>nomatch z))];exact ec
end
theorem GP {X:Cx} {pins:List (Addr×Obj)} {σ:St} {H:Hp} {s:Shared} {a:Addr} {y:V} {o:Option V} (I:Inv X pins σ H s) (g:YW H a y o):s.TypeIs (.ref a) "dict":=by
 rcases g with ⟨kvs,k,e,_,_⟩|⟨kvs,k,b,e,_,_,_⟩
 ·obtain ⟨_,_,vs,_,dd⟩:=ZV I.hok e;exact dd.typeIs
 ·obtain ⟨_,_,xs,_,dd⟩:=ZW I.hok e;exact dd.typeIs
theorem ZX {P:Program} {w:World} {H:Hp} (h:Heap) (hb:sysModules<h.objs.size):eQ P w H (h.push {cls:=.type "dict",data:=.dict #[]}) h.objs.size (.dK []):=
 ⟨Nat.zero_le _,beq_eq_false_iff_ne.mpr (Ne.symm (Nat.ne_of_lt hb)),[],.nil,Heap.DictOf.new h⟩
def J1:TE:=fun _ H Q=>∀p,H p=none->Q (.ref p) (upd H p (.dK []))
section
variable {X:Cx} {pos:Pos}
theorem J2:PE X (.Dict [] [] pos) J1:=fun pins s σ H Q I h=>
 wpAny_Dict_empty ⟨.ref s.heap.objs.size,_,I.laid (a:=s.heap.objs.size) (o:=.dK []) (t':=s.toks) (fun _ _ q=>Heap.get?_push_of_some _ q) (Nat.le_refl _) (ZX s.heap I.big),rfl,h _ (I.hok.fresh (Nat.le_refl _))⟩
end
def d_ (kvs more:List (Key×V)):List (Key×V):=more.foldl (fun acc kv=>putK acc kv.1 kv.2) kvs
theorem KV.merge:∀{more:List (Key×V)} {rs:List (Key×Value)} {kvs:List (Key×V)} {vs:List (Key×Value)},KV more rs->KV kvs vs->KV (d_ kvs more) (merged vs rs):=by
 intro more rs kvs vs r;unfold KV at r;induction r generalizing kvs vs with
 | nil=>intro q;exact q
 | @cons p q ps qs h t ih=>
  intro r0;have e:KV (putK kvs p.1 p.2) (stored vs q.1 q.2):=by
   have:=r0.put p.1 h.2;rw [<-h.1];exact this
  exact ih e
theorem jD:∀(more kvs:List (Key×V)),(d_ kvs more).length<=kvs.length+more.length
 | [],kvs=>by show kvs.length<=kvs.length+0;lia
 | p::r,kvs=>by
  have h1:=jD r (putK kvs p.1 p.2);have h2:=jC kvs p.1 p.2;show (d_ (putK kvs p.1 p.2) r).length<=_;rw [List.length_cons];lia
end L2
namespace Att
open PySem PySem.W PySem.Calls PyProof.Rows
theorem sY {P:Params} {h:Heap}:∀(ns:List Int) (vs:List Value),WellAll P h vs (ns.map WData.int)->IntsAre vs ns:=by
 intro ns;induction ns with
 | nil=>
  intro vs w;rw [List.map_nil] at w;cases w;exact .nil
 | cons n ns ih=>
  intro vs w;rw [List.map_cons] at w;cases w with
  | cons a b=>
   cases a;exact .cons _ _ (ih _ b)
theorem S9 {l:OpenLaw} {n:Nat} (hn:l.most=some n) {P:Params} {h:Heap} {args:List WData} {vals:List Value}
  (hpre:l.row.toRowW.claim.pre args=true) (hwl:WellAll P h vals args) :
  ∃a vs ns,vals=[Value.ref a]/\args=[WData.list (ns.map WData.int)]/\h.get? a=some {cls:=.type "list",data:=.seq vs.toArray}/\IntsAre vs ns/\ns.length<=n:=by
 have hsh:WShape.hasAll [] args [.list .int]=true:=(pre_splitW hpre).1;have hc:l.pre.holds [] {args:=args}=true:=(pre_splitW hpre).2;obtain ⟨d,r,rfl,h1,h2⟩:=hasAllW_cons hsh;obtain rfl:=hasAllW_nil h2;obtain ⟨xs,rfl,h3⟩:=hasW_list h1;obtain ⟨ns,rfl⟩:=items_int h3;have hlen:ns.length<=n:=by
  unfold OpenLaw.pre at hc;have h4:(WTm.not (.lt (.lit (.int (n:Int))) (.len (.arg 0)))).holds [] {args:=[.list (ns.map .int)]}=true:=by
   have h4:=(holds_andW hc).1;rw [hn] at h4;exact h4
  have h5:=condW_of h4 (w_not (w_lt w_lit (w_len_list (w_arg rfl))));rw [List.length_map] at h5;refine Nat.le_of_not_lt fun q=>?_
  have q':(n:Int)<((ns.length:Nat):Int):=by lia
  first
   | (rw [decide_eq_true q'] at h5;exact absurd h5 (by decide))
   | (simp at h5;lia)
 cases hwl with
 | cons w1 w2=>
  cases w2;cases w1 with
  | list ho hall=>exact ⟨_,_,ns,rfl,rfl,ho,sY ns _ hall,hlen⟩
theorem S_ (l:OpenLaw) (args:List WData):l.row.toRowW.claim.post args (.bool true) args=true:=
 postW_of (r:=l.row.toRowW) (X:=(true==true))
  (show WShape.has [] (.bool true) .bool=true by first|rfl|decide|simp [WShape.has,WShape.arms,WShape.armsAll])
  (show (WTm.eq .res (.lit (.bool true))).value [] {args:=args,res:=some (.bool true),after:=args}=some (.bool (true==true)) from w_eq_bool (w_res rfl) w_lit) rfl
theorem GQ {l:OpenLaw} {n:Nat} {q:Program} {loose:List Str} {XP:(Str->Option Value)->Heap->Prop} {YP:World->Heap->Prop} {d:DefRec}
  (hn:l.most=some n) (hdf:d.params.defaults=[])
  (call:∀(w:World) (s₀ s₁:Shared) (mg mb:Str->Option Value) (fa:Addr) (o:Obj) (pm cd doc:Value) (a:Addr) (vs:List Value) (ns:List Int),
   Ground q loose [] XP w s₀ mg mb s₁.heap->YP w s₁.heap->
   s₁.heap.get? fa=some o->o.data=.func (docDef d.name d.params d.body d.scope pm cd doc)->s₁.heap.CodeRec cd d.name->mg d.name=some (.ref fa)->
   s₁.heap.get? a=some {cls:=.type "list",data:=.seq vs.toArray}->IntsAre vs ns->ns.length<=n->s₁.gens=#[]->
   codeAny (model l.prog w) callerA (.call (.ref fa) ⟨[.ref a],[]⟩) (fun r s'=>r=.ok (.ret (.bool true))/\OldK s₁.heap s'.heap/\s'.os=s₁.os/\AllBare s'.gens) s₁) :
  WalkO q loose XP YP l.row.toRowW d [] (fun f vs=>PySem.call f vs):=by
 intro w s₀ s₁ mg mb G Y fa o pm cd doc dV kV ho hd hcd hD hmg hg args vals as hpre hlay hrd hwl hlo;obtain rfl:dV=.none:=Dflts.none hD hdf;obtain rfl:kV=.none:=Dflts.noKw hD;obtain ⟨a,vs,ns,rfl,rfl,hobj,hints,hlen⟩:=S9 hn hpre hwl;refine enter_call (codeAny_mono (call w s₀ s₁ mg mb fa o pm cd doc a vs ns G Y ho (fd_plain hd) hcd hmg hobj hints hlen hg) fun r s' hq=>?_);obtain ⟨rfl,h2,h3,h4⟩:=hq;exact ⟨.inl ⟨.bool true,.bool true,[],rfl,fun _=>rfl,.bool true,S_ l _,fun _=>⟨List.Pairwise.nil,fun _ hm=>(nomatch hm)⟩⟩,h2,h3,h4⟩
end Att
namespace L2
open PySem PySem.Spec PyProof.Rows
theorem j4:∀{vs:List Value} {ns:List Int},IntsAre vs ns->Vals (ns.map V.int) vs
 | _,_,.nil=>.nil
 | _,_,.cons n t h=>.cons ⟨t,rfl⟩ (j4 h)
def Only (H:Hp):Prop:=∀b,H b=none\/∃o xs,H b=some (.frz o (.lst xs))
theorem ZZ {P:Program} {w:World} {K:PySem.W.Frag} {mg mb:Str->Option Value} {CX:CXT} {k:Nat} {fa a:Addr} {fd:FuncData} {x:Str} {sp:Sp} {s₁:Shared} {vs:List Value} {ns:List Int}
  (KX:K.In s₁.heap) (hns:s₁.heap.Ns mainGlobals mg) (hb:s₁.heap.Ns builtinsNs mb) (hbb:∀x:Str,x ≠ "__name__"->mb x=bootBuiltins x) (hlim:s₁.heap.NoLimit) (hg:s₁.gens=#[])
  (ha:s₁.heap.get? a=some {cls:=.type "list",data:=.seq vs.toArray}) (hi:IntsAre vs ns) (hl:ns.length<=sizeLine) (hr:lG k callerA)
  (F:∀base:Heap,K.In base->base.Ns mainGlobals mg->jU P w K mg base CX k fa fd [x] sp) (hbind:∀(s:Shared) (u:Value),BindsTo s fd ⟨[u],[]⟩ [(x,u)])
  (hsp:∀H:Hp,Only H->SqL K H a (ns.map V.int)->sp [.ref a] H (fun v _=>v=.bl true) fun _ _ _=>False)
  (hCX:∀H e s',CX [] H s₁ (fun _ _ _=>False) e s'->False) :
  codeAny (model P w) callerA (.call (.ref fa) ⟨[.ref a],[]⟩) (fun r s'=>r=.ok (.ret (.bool true))/\OldK s₁.heap s'.heap/\s'.os=s₁.os/\AllBare s'.gens) s₁:=by
 have rv:=j4 hi;have lenV:=hi.length
 -- from an abstract heap in which nothing but the script may be tracked
 have core:∀H:Hp,Only H->SqL K H a (ns.map V.int)->HOk P w H s₁.heap->(∀b,H b≠none->b=a)->(H a≠none->K.lookup a=none)->
   codeAny (model P w) callerA (.call (.ref fa) ⟨[.ref a],[]⟩) (fun r s'=>r=.ok (.ret (.bool true))/\OldK s₁.heap s'.heap/\s'.os=s₁.os/\AllBare s'.gens) s₁:=by
  intro H hO hS hok hA hK;have base_of:∀{b:Addr} {o:Obj},s₁.heap.get? b=some o->H b=none->(Y9 s₁.heap H).get? b=some o:=fun e n=>Y_ e n
  have noA:∀{b:Addr} {o:Obj} {es:Array DictEntry} {ep:Nat},s₁.heap.get? b=some o->o.data=.dict es ep->H b=none:=fun {b o es ep} e d=>by
   cases q:H b with
   | none=>rfl
   | some u=>
    have e':b=a:=hA b (by rw [q];simp);subst e';rw [ha] at e;cases e;have d':Data.seq vs.toArray _=Data.dict es ep:=d;cases d'
  have nsK:∀{b:Addr} {m:Str->Option Value},s₁.heap.Ns b m->(Y9 s₁.heap H).Ns b m:=fun {b m} ⟨o,es,ep,e,d,r⟩=>⟨o,es,ep,base_of e (noA e d),d,r⟩
  have hKb:K.In (Y9 s₁.heap H):=fun b o e=>base_of (KX b o e) (by
   cases q:H b with
   | none=>rfl
   | some u=>
    have e':b=a:=hA b (by rw [q];simp);subst e';rw [hK (by rw [q];simp)] at e;cases e)
  have hM:Mod K mg (Y9 s₁.heap H):=⟨hKb,nsK hns,⟨mb,nsK hb,hbb⟩,let ⟨mc,h1,h2⟩:=hlim;⟨mc,nsK h1,h2⟩⟩
  have e0:aD3 P w K mg (Y9 s₁.heap H) callerA [] s₁ H:=⟨rfl,hM,fun b o e=>aCr e,Nat.le_of_eq (RP _ _),trivial,fun b hb=>absurd (show b∈([]:List Addr) from hb) (by simp),hok,.of_eq hg⟩
  refine codeAny_mono ((F _ hKb (nsK hns)).run callerA [] s₁ H ⟨[.ref a],[]⟩ [.ref a] [.ref a] _ _ hr e0 (hbind s₁ (.ref a)) (.cons rfl .nil) (hsp H hO hS)) fun r s' h=>?_
  cases r with
  | error e=>exact (hCX H e s' h).elim
  | ok fl=>
   cases fl with
   | next=>exact False.elim h
   | brk=>exact False.elim h
   | cont=>exact False.elim h
   | ret u=>
    obtain ⟨v,H',os,bare,un,hok',r',q⟩:=h;have q':v=.bl true:=q;subst q';obtain rfl:u=Value.bool true:=r';refine ⟨rfl,OldK.of_keep fun b o e=>?_,os,bare⟩;cases q:H b with
    | none=>exact un.keep b o e q (by intro z;exact absurd (show b∈([]:List Addr) from z) (by simp)) (by simp)
    | some u=>
     rcases hO b with z|⟨ob,xs,z⟩
     ·rw [q] at z;cases z
     ·have z2:=un.frzs b ob _ z;obtain ⟨e1,_⟩:=hok b _ z;obtain ⟨e2,_⟩:=hok' b _ z2;rw [e] at e1;cases e1;exact e2
 cases hk:K.lookup a with
 | some o=>
  -- the script is one of the module's own objects
  have e:=KX a o hk;rw [ha] at e;cases e;refine core (fun _=>none) (fun _=>.inl rfl) (.inr ⟨_,vs.toArray,_,hk,rfl,rfl,rfl,by rw [List.size_toArray,lenV];exact hl,by simpa using rv⟩) (fun b u z=>by have z':(none:Option HO)=some u:=z;cases z') (fun b z=>absurd rfl z) fun z=>absurd rfl z
 | none=>
  refine core (fun b=>if b=a then some (.frz {cls:=.type "list",data:=.seq vs.toArray} (.lst (ns.map V.int))) else none) (fun b=>?_) (.inl (.inr ⟨{cls:=.type "list",data:=.seq vs.toArray},if_pos rfl⟩)) (fun b u z=>?_) (fun b z=>?_) fun _=>hk
  ·by_cases hb:b=a
   ·exact .inr ⟨_,_,if_pos hb⟩
   ·exact .inl (if_neg hb)
  ·by_cases hb:b=a
   ·have z':=(if_pos hb).symm.trans z;cases z';subst hb;exact ⟨ha,by rw [List.length_map];exact hl,vs,_,rv,ha⟩
   ·have z':=(if_neg hb).symm.trans z;cases z'
  ·by_cases hb:b=a
   ·exact hb
   ·exact absurd (if_neg hb) z
theorem aDf {l:PySem.W.OpenLaw} {n k:Nat} {q:Program} {loose:List Str} {XP:(Str->Option Value)->Heap->Prop} {YP:World->Heap->Prop} {d:DefRec} {K:Params->PySem.W.Frag} {CX:World->CXT} {sp:World->Sp} {x:Str}
  (hn:l.most=some n) (hn2:n<=sizeLine) (hdf:d.params.defaults=[]) (hr:lG k callerA)
  (hY:∀(w:World) (h:Heap),YP w h->(K w.params).In h)
  (F:∀(w:World) (mg:Str->Option Value) (fa:Addr) (h:Heap),(K w.params).In h->h.Ns mainGlobals mg->mg d.name=some (.ref fa)->
   ∃fd:FuncData,(∀(s:Shared) (u:Value),BindsTo s fd ⟨[u],[]⟩ [(x,u)])/\
    ∀base:Heap,(K w.params).In base->base.Ns mainGlobals mg->jU l.prog w (K w.params) mg base (CX w) k fa fd [x] (sp w))
  (hsp:∀(w:World) (H:Hp) (a:Addr) (ns:List Int),ns.length<=n->Only H->SqL (K w.params) H a (ns.map V.int)->sp w [.ref a] H (fun v _=>v=.bl true) fun _ _ _=>False)
  (hCX:∀(w:World) (H:Hp) (s:Shared) (e:Value) (s':Shared),CX w [] H s (fun _ _ _=>False) e s'->False) :
  PySem.W.WalkO q loose XP YP l.row.toRowW d [] (fun f vs=>PySem.call f vs):=by
 refine Att.GQ hn hdf fun w s₀ s₁ mg mb fa o pm cd doc a vs ns G Y ho hd hcd hmg hobj hints hlen hg=>?_
 have KX:=hY w _ Y;obtain ⟨fd,hb,hF⟩:=F w mg fa _ KX G.T.g hmg;exact ZZ KX G.T.g G.T.b G.T.builtins G.T.nolimit hg hobj hints (Nat.le_trans hlen hn2) hr hF hb (fun H hO hS=>hsp w H a ns hlen hO hS) fun H e s'=>hCX w H s₁ e s'
noncomputable def dU (s:Stmt):Arguments:=match s with
 | .FunctionDef _ a _ _ _ _ _ _ _ _=>a
 | _=>{posonlyargs:=[],args:=[],vararg:=none,kwonlyargs:=[],kw_defaults:=[],kwarg:=none,defaults:=[]}
noncomputable def cN (s:Stmt):List Stmt:=match s with
 | .FunctionDef _ _ b _ _ _ _ _ _ _=>b
 | _=>[]
noncomputable def aM (s:Stmt):Scope:=match s with
 | .FunctionDef _ _ _ _ _ _ sc _ _ _=>sc
 | _=>{kind:=.function,names:=[],isGenerator:=false,isCoroutine:=false}
noncomputable abbrev CX0:CXT:=fun _ _ _ _ _ _=>False
noncomputable abbrev E0:XK:=fun _ _ _=>False
theorem aDg {X:Cx}:sU CX0 X E0:=fun _ _ _ _ _ _ _ h=>h.elim
structure Fun (K:PySem.W.Frag) (x qual:Str) (st:Stmt) (f:Addr) (fd:FuncData):Prop where
 ex:∃(oc:Value) (od:Option Addr) (kV doc pm:Value) (an:Option Addr) (cdv ct:Value) (osl:Array (Option Value)),
  fd=PySem.W.fnOf x qual (dU st) (cN st) (aM st) .none kV doc pm an cdv ct/\K.lookup f=some ⟨oc,od,.func fd,osl⟩/\PySem.W.codeIn K cdv qual=true
 kp:PySem.W.keepIn K (.ref f)=true
section
variable {P:Program} {w:World} {K:PySem.W.Frag} {mg:Str->Option Value} {base:Heap}
theorem Fun.ok {x qual:Str} {st:Stmt} {f:Addr} {fd:FuncData} {N ps:List Str} {k:Nat} {sp:Sp} (F:Fun K x qual st f fd) (S:cC N ps (aM st)) (len:∀vs H Q E,sp vs H Q E->vs.length=ps.length)
  (hbody:∀(cdv:Value) (A:Around) (outer:List Env) (s:Shared) (H:Hp) (vs:List V) (Q:VK) (E:XK),lG k (A.deeper (envOfC qual (aM st) s.heap.objs.size f cdv))->sp vs H Q E->
   ∃t,PSs (JV CX0 P w K mg base N qual (aM st) f cdv A outer s H E).nox (cN st) t/\t {nx:=fun _ H'=>Q .non H',rt:=Q} (start N vs) H):jU P w K mg base CX0 (k+1) f fd ps sp:=by
 obtain ⟨oc,od,kV,doc,pm,an,cdv,ct,osl,rfl,lk,hcd⟩:=F.ex;refine aD6 lk hcd S len fun A outer s H vs Q E hr hsp=>?_
 obtain ⟨t,h,q⟩:=hbody cdv A outer s H vs Q E hr hsp;exact ⟨t,h.nox,q⟩
theorem Fun.binds {x qual:Str} {st:Stmt} {f:Addr} {fd:FuncData} {ps:List Str} (F:Fun K x qual st f fd)
  (h:∀(kV doc pm:Value) (an:Option Addr) (cdv ct:Value) (us:List Value),us.length=ps.length->bindArgs (PySem.W.fnOf x qual (dU st) (cN st) (aM st) .none kV doc pm an cdv ct) ⟨us,[]⟩=pure (ps.zip us)):Binds K fd ps []:=by
 obtain ⟨oc,od,kV,doc,pm,an,cdv,ct,osl,rfl,lk,hcd⟩:=F.ex;exact .all (h kV doc pm an cdv ct)
theorem fW {x qual:Str} {st:Stmt} {f:Addr} {oc:Value} {od an:Option Addr} {osl:Array (Option Value)} {kV doc pm cdv ct:Value} (l:K.lookup f=some ⟨oc,od,.func (PySem.W.fnOf x qual (dU st) (cN st) (aM st) .none kV doc pm an cdv ct),osl⟩)
  (c:PySem.W.codeIn K cdv qual=true) (k:PySem.W.keepIn K (.ref f)=true):Fun K x qual st f (PySem.W.fnOf x qual (dU st) (cN st) (aM st) .none kV doc pm an cdv ct):=⟨⟨oc,od,kV,doc,pm,an,cdv,ct,osl,rfl,l,c⟩,k⟩
end
def bO (H H':Hp):Prop:=∀b o,H b=some o->H' b=some o
theorem bO.refl (H:Hp):bO H H:=fun _ _ h=>h
theorem bO.trans {H H1 H2:Hp} (a:bO H H1) (b:bO H1 H2):bO H H2:=fun c o h=>b c o (a c o h)
theorem bO.free {H H':Hp} (e:bO H H') {l:Addr} (h:H' l=Option.none):H l=Option.none:=by
 cases q:H l with
 | none=>rfl
 | some o=>
  rw [e l o q] at h;cases h
section
variable {κ:Type} [DecidableEq κ]
theorem Z0 {kvs:List (κ×V)} {k:κ} (h:wG kvs k=none):¬k∈kvs.map (·.1):=by
 intro m;obtain ⟨p,hp,e⟩:=List.mem_map.mp m;have q:(kvs.any fun kv=>decide (kv.1=k))=true:=List.any_eq_true.mpr ⟨p,hp,decide_eq_true e⟩;rw [mZ,h] at q;exact absurd q (by simp)
theorem TF:∀{l:List κ} {k:κ},l.Nodup->¬k∈l->(l++[k]).Nodup
 | [],k,_,_=>by simp
 | a::r,k,h,hk=>by
  obtain ⟨h1,h2⟩:=List.nodup_cons.mp h;show (a::(r++[k])).Nodup;refine List.nodup_cons.mpr ⟨fun m=>?_,TF h2 fun m=>hk (List.mem_cons.mpr (Or.inr m))⟩;rcases List.mem_append.mp m with q|q
  ·exact h1 q
  ·exact hk (List.mem_cons.mpr (Or.inl (List.mem_singleton.mp q).symm))
theorem aDh {kvs:List (κ×V)} {k:κ} (v:V) (hn:(kvs.map (·.1)).Nodup) (h:wG kvs k=none):((putK kvs k v).map (·.1)).Nodup:=by
 rw [ZR v h,List.map_append];exact TF hn (Z0 h)
end
end L2
namespace Mi
open PySem
inductive D where
 | uD|non|bl (b:Bool)|int (i:Int)|str (x:Str)
 | tup (xs:List D)|lst (xs:List D)|dct (kvs:List (D×D))|scr (xs:List D)|fdc (kvs:List (D×D))|cel (a:Nat) (xs:List D)|exc (c:Str) (fs:List (Str×Str))|ins (c:Str) (fs:List (Str×D))
 deriving Inhabited
mutual
noncomputable def D.pure:D->Bool
 | .tup xs=>D.aG xs
 | .lst _=>false
 | .dct _=>false
 | .uD=>false
 | .scr xs=>D.aG xs
 | .fdc _=>false
 | .cel _ _=>false
 | .exc _ _=>false
 | .ins _ _=>false
 | _=>true
noncomputable def D.aG:List D->Bool
 | []=>true
 | x::xs=>x.pure&&D.aG xs
end
mutual
noncomputable def eqD:D->D->Bool
 | .non,.non=>true
 | .bl a,.bl b=>a==b
 | .int a,.int b=>a==b
 | .bl a,.int b=>(if a then (1:Int) else 0)==b
 | .int a,.bl b=>a==(if b then (1:Int) else 0)
 | .str a,.str b=>a==b
 | .tup xs,.tup ys=>zX xs ys
 | .lst xs,.lst ys=>zX xs ys
 | _,_=>false
noncomputable def zX:List D->List D->Bool
 | [],[]=>true
 | x::xs,y::ys=>eqD x y&&zX xs ys
 | _,_=>false
end
mutual
noncomputable def D.cL:Nat->D->Bool
 | n+1,.tup xs=>D.eX n xs
 | n+1,.lst xs=>D.eX n xs
 | 0,.tup _=>false
 | 0,.lst _=>false
 | _,.dct _=>false
 | _,.uD=>false
 | _,.scr _=>false
 | _,.fdc _=>false
 | _,.cel _ _=>false
 | _,.exc _ _=>false
 | _,.ins _ _=>false
 | _,_=>true
noncomputable def D.eX:Nat->List D->Bool
 | _,[]=>true
 | n,x::xs=>D.cL n x&&D.eX n xs
end
inductive TJ where|lt|le|gt|ge
 deriving DecidableEq
noncomputable def TJ.int:TJ->Int->Int->Bool
 | .lt,a,b=>decide (a<b)|.le,a,b=>decide (a<=b)|.gt,a,b=>decide (b<a)|.ge,a,b=>decide (b<=a)
noncomputable def TJ.nat:TJ->Nat->Nat->Bool
 | .lt,a,b=>decide (a<b)|.le,a,b=>decide (a<=b)|.gt,a,b=>decide (b<a)|.ge,a,b=>decide (b<=a)
noncomputable def Z1 (a b:Str):Bool:=decide (a.cps.toList<b.cps.toList)
def TJ.str:TJ->Str->Str->Bool
 | .lt,a,b=>Z1 a b|.le,a,b=>!Z1 b a|.gt,a,b=>Z1 b a|.ge,a,b=>!Z1 a b
mutual
noncomputable def aM7 (o:TJ):D->D->Option Bool
 | .int a,.int b=>some (o.int a b)
 | .str a,.str b=>some (o.str a b)
 | .tup xs,.tup ys=>aGv o xs ys
 | _,_=>none
noncomputable def aGv (o:TJ):List D->List D->Option Bool
 | [],ys=>some (o.nat 0 ys.length)
 | x::xs,[]=>some (o.nat (x::xs).length 0)
 | x::xs,y::ys=>if eqD x y then aGv o xs ys else aM7 o x y
end
inductive Res (α:Type) where
 | ok (a:α)|err (c:Str) (as:List D)|bad
noncomputable def Res.bind {α β:Type}:Res α->(α->Res β)->Res β
 | .ok a,f=>f a
 | .err c as,_=>.err c as
 | .bad,_=>.bad
noncomputable instance:Monad Res where
 pure:=.ok
 bind:=Res.bind
@[simp] theorem Res.aU {α β:Type} (a:α) (f:α->Res β):((Res.ok a) >>= f)=f a:=rfl
@[simp] theorem Res.aJd {α β:Type} (c:Str) (as:List D) (f:α->Res β):((Res.err c as:Res α) >>= f)=.err c as:=rfl
@[simp] theorem Res.aJe {α β:Type} (f:α->Res β):((Res.bad:Res α) >>= f)=.bad:=rfl
@[simp] theorem Res.pure_eq {α:Type} (a:α):(pure a:Res α)=.ok a:=rfl
theorem Res.aDi {α β:Type} {m:Res α} {f:α->Res β} {b:β} (h:(m >>= f)=.ok b):∃a,m=.ok a/\f a=.ok b:=by
 cases m with
 | ok a=>exact ⟨a,rfl,h⟩
 | err c as=>cases h
 | bad=>cases h
noncomputable def Res.ofOpt {α:Type}:Option α->Res α
 | some a=>.ok a
 | none=>.bad
@[simp] theorem Res.aFz {α:Type} (a:α):Res.ofOpt (some a)=.ok a:=rfl
theorem Res.jE {α:Type} {o:Option α} {a:α} (h:Res.ofOpt o=.ok a):o=some a:=by
 cases o with
 | none=>cases h
 | some b=>cases h;rfl
noncomputable def lim:Nat:=1000000
inductive Bop where|add|sub|mul|fdiv|mod|pow
 deriving DecidableEq
inductive Cop where|eq|ne|ord (o:TJ)|isin|notin|isN|notN
 deriving DecidableEq
noncomputable def j5 (i:Int):Bool:=decide (-(2 ^ 64)<i)&&decide (i<2 ^ 64)
def aR:Bop->D->D->Res D
 | .add,.int a,.int b=>.ok (.int (a+b))
 | .sub,.int a,.int b=>.ok (.int (a-b))
 | .mul,.int a,.int b=>if j5 a||j5 b then .ok (.int (a*b)) else .bad
 | .fdiv,.int a,.int b=>if decide (0<b)&&decide (b<1073741824) then .ok (.int (a / b)) else .bad
 | .mod,.int a,.int b=>if decide (0<b) then .ok (.int (a % b)) else .bad
 | .pow,.int a,.int b=>if decide (0<=b)&&decide (b<=1000000)&&decide (a.natAbs<2 ^ 64) then .ok (.int (a ^ b.toNat)) else .bad
 | .add,.str a,.str b=>if decide (a.length+b.length<=lim) then .ok (.str (a++b)) else .bad
 | .add,.lst a,.lst b=>if decide (a.length+b.length<=lim)&&D.aG a&&D.aG b then .ok (.lst (a++b)) else .bad
 | _,_,_=>.bad
def aKb:D->Res Bool
 | .non=>.ok false
 | .bl b=>.ok b
 | .int i=>.ok (i != 0)
 | .str x=>if decide (x.length<=lim) then .ok ((x.length:Int) != 0) else .bad
 | .tup xs=>.ok (!xs.isEmpty)
 | .lst xs=>.ok (!xs.isEmpty)
 | .dct kvs=>.ok (!kvs.isEmpty)
 | .uD=>.bad
 | .fdc _=>.bad
 | .cel _ _=>.bad
 | .exc _ _=>.bad
 | .ins _ _=>.bad
 | .scr xs=>.ok (!xs.isEmpty)
noncomputable def eY:D->Bool
 | .int _=>true
 | .str _=>true
 | _=>false
def keyOk:D->Bool
 | .int _=>true
 | .str _=>true
 | .tup xs=>xs.all eY
 | _=>false
noncomputable def isTup:D->Bool
 | .tup _=>true
 | _=>false
def cF:List (D×D)->D->Option D
 | [],_=>none
 | (k,v)::r,q=>if eqD k q then some v else cF r q
def putD:List (D×D)->D->D->List (D×D)
 | [],q,w=>[(q,w)]
 | (k,v)::r,q,w=>if eqD k q then (k,w)::r else (k,v)::putD r q w
def sZ (kvs:List (D×D)) (k:D):Bool:=keyOk k&&kvs.all (fun p=>isTup p.1==isTup k)
noncomputable def bH:Nat:=12
def mO:Cop->D->D->Res D
 | .eq,a,b=>if a.cL bH&&b.cL bH then .ok (.bl (eqD a b)) else .bad
 | .ne,a,b=>if a.cL bH&&b.cL bH then .ok (.bl (!eqD a b)) else .bad
 | .ord o,a,b=>if a.cL bH&&b.cL bH then (match aM7 o a b with|some k=>.ok (.bl k)|none=>.bad) else .bad
 | .isin,a,.tup ys=>if a.cL bH&&D.eX bH ys then .ok (.bl (ys.any fun y=>eqD y a)) else .bad
 | .isin,a,.lst ys=>if a.cL bH&&D.eX bH ys then .ok (.bl (ys.any fun y=>eqD y a)) else .bad
 | .isin,a,.dct kvs=>if sZ kvs a then .ok (.bl (cF kvs a).isSome) else .bad
 | .notin,a,.tup ys=>if a.cL bH&&D.eX bH ys then .ok (.bl (!(ys.any fun y=>eqD y a))) else .bad
 | .notin,a,.lst ys=>if a.cL bH&&D.eX bH ys then .ok (.bl (!(ys.any fun y=>eqD y a))) else .bad
 | .notin,a,.dct kvs=>if sZ kvs a then .ok (.bl (!(cF kvs a).isSome)) else .bad
 | .isN,.scr _,.non=>.bad
 | .notN,.scr _,.non=>.bad
 | .isN,.fdc _,.non=>.bad
 | .notN,.fdc _,.non=>.bad
 | .isN,.cel _ _,.non=>.bad
 | .notN,.cel _ _,.non=>.bad
 | .isN,.non,.non=>.ok (.bl true)
 | .isN,a,.non=>.ok (.bl false)
 | .notN,.non,.non=>.ok (.bl false)
 | .notN,a,.non=>.ok (.bl true)
 | _,_,_=>.bad
noncomputable def ixD (n:Nat) (i:Int):Option Nat:=if 0<=i then (if i<n then some i.toNat else none) else if -(n:Int)<=i then some (i+n).toNat else none
def getD (d i:D):Res D:=
 match d,i with
 | .tup xs,.int i=>Res.ofOpt ((ixD xs.length i).bind fun j=>xs[j]?)
 | .lst xs,.int i=>Res.ofOpt ((ixD xs.length i).bind fun j=>xs[j]?)
 | .scr xs,.int i=>Res.ofOpt ((ixD xs.length i).bind fun j=>xs[j]?)
 | .cel _ xs,.int i=>Res.ofOpt ((ixD xs.length i).bind fun j=>xs[j]?)
 | .str x,.int i=>if decide (x.length<=lim) then Res.ofOpt (((ixD x.cps.toList.length i).bind fun j=>x.cps.toList[j]?).map fun c=>D.str ⟨#[c]⟩) else .bad
 | .dct kvs,k=>if keyOk k then Res.ofOpt (cF kvs k) else .bad
 | .fdc kvs,k=>if keyOk k then Res.ofOpt (cF kvs k) else .bad
 | _,_=>.bad
noncomputable def aBx (n d:Nat):Option Int->Nat
 | none=>d
 | some v=>if v<0 then (max (v+(n:Int)) 0).toNat else (min v (n:Int)).toNat
def cutD {α:Type} (xs:List α) (lo hi:Option Int):List α:=(xs.drop (aBx xs.length 0 lo)).take (aBx xs.length xs.length hi-aBx xs.length 0 lo)
inductive Ty where|int|str|bool|list|tuple|dict
 deriving DecidableEq
noncomputable def TQ:Ty->D->Res Bool
 | _,.uD=>.bad
 | _,.scr _=>.bad
 | _,.fdc _=>.bad
 | _,.cel _ _=>.bad
 | _,.exc _ _=>.bad
 | _,.ins _ _=>.bad
 | .int,.int _=>.ok true
 | .int,.bl _=>.ok true
 | .bool,.bl _=>.ok true
 | .str,.str _=>.ok true
 | .tuple,.tup _=>.ok true
 | .list,.lst _=>.ok true
 | .dict,.dct _=>.ok true
 | _,_=>.ok false
noncomputable def t_ (i:Int):Bool:=decide (-(2 ^ 62)<=i)&&decide (i<2 ^ 62)
noncomputable def asB:D->Res Bool
 | .bl b=>.ok b
 | _=>.bad
noncomputable def asI:D->Res Int
 | .int i=>.ok i
 | _=>.bad
inductive Fl where
 | nx (ρ:List D)|rt (d:D)|bk (ρ:List D)|ct (ρ:List D)
noncomputable def aN5:Fl->Res D
 | .rt d=>.ok d
 | .nx _=>.ok .non
 | _=>.bad
noncomputable abbrev FE:=List D->Res D
noncomputable abbrev FT:=List D->Res Bool
noncomputable abbrev FA:=List D->Res (List D)
noncomputable def bT (i:Nat):FE:=fun ρ=>match ρ.getD i .uD with|.uD=>.bad|d=>.ok d
noncomputable def bC (d:D):FE:=fun _=>.ok d
abbrev fQ:FE := bT 2
abbrev iI:FE := bT 0
abbrev e_:FE := bT 1
abbrev fB:FE := bT 3
abbrev gQ:FE := bT 4
abbrev zH:FE := bT 6
abbrev RB:FE := bT 7
abbrev uT:FE := bT 5
abbrev gD:FE := bT 9
abbrev dH:FE := bT 10
abbrev dN:FE := bT 11
abbrev GR:FE := bT 8
abbrev xO:FE := bT 17
abbrev TV:FE := bT 15
abbrev lY:FE := bT 12
abbrev TX:FE := bT 18
abbrev j6:FE := bT 14
abbrev gR:FE := bT 13
abbrev fZ:FE := bC (.int 0)
abbrev jV:FE := bC (.int 2)
abbrev dO:FE := bC (.int 1)
abbrev jW:FE := bC (.int 3)
abbrev xP:FE := bC (.int 26)
abbrev RC:FE := bC (.int 4)
abbrev aJf:FE := bC (.int 8)
abbrev YX:FE := bC (.int 5)
abbrev aGw:FE := bC (.int 7)
abbrev YZ:FE := bC (.int 9)
abbrev aDj:FE := bC (.int 13)
abbrev wH:FE := bC (.int 400)
abbrev TY:FE := bC (.int 300)
noncomputable def b2 (f:D->D->Res D) (a b:FE):FE:=fun ρ=>do let x <- a ρ;let y <- b ρ;f x y
noncomputable def b1 (f:D->Res D) (a:FE):FE:=fun ρ=>do let x <- a ρ;f x
def bTB (a:FE):FT:=fun ρ=>do let x <- a ρ;asB x
noncomputable def aDk (a:FT):FT:=fun ρ=>do let x <- a ρ;pure (!x)
noncomputable def PN (a b:FT):FT:=fun ρ=>do let x <- a ρ;if x then b ρ else pure false
noncomputable def bOr (a b:FT):FT:=fun ρ=>do let x <- a ρ;if x then pure true else b ρ
def Z2 (a b:FE):FE:=fun ρ=>do let x <- a ρ;let k <- asB x;if k then b ρ else pure (.bl false)
def aJg (a b:FE):FE:=fun ρ=>do let x <- a ρ;let k <- asB x;if k then pure (.bl true) else b ρ
noncomputable def aV:FA:=fun _=>.ok []
noncomputable def aC (a:FE) (b:FA):FA:=fun ρ=>do let x <- a ρ;let xs <- b ρ;pure (x::xs)
def gU (a:FA):FE:=fun ρ=>do let xs <- a ρ;if decide (xs.length<=lim) then pure (.tup xs) else .bad
def cP (a:FA):FE:=fun ρ=>do let xs <- a ρ;if decide (xs.length<=lim) then pure (.lst xs) else .bad
noncomputable def aX (f:List D->Res D) (a:FA):FE:=fun ρ=>do let xs <- a ρ;f xs
noncomputable def bM (f:D->List D->Res D) (o:FE) (a:FA):FE:=fun ρ=>do let x <- o ρ;let xs <- a ρ;f x xs
def dI (a:FE):List D->Res (Option Int):=fun ρ=>do let x <- a ρ;let i <- asI x;pure (some i)
noncomputable def iJ:List D->Res (Option Int):=fun _=>.ok none
def aN6:D->Res Bool
 | .dct _=>.bad
 | .scr _=>.bad
 | .fdc _=>.bad
 | d=>aKb d
def bTr (a:FE):FT:=fun ρ=>do let x <- a ρ;aN6 x
noncomputable def aJh:D->Res D
 | .int i=>.ok (.int (-i))
 | _=>.bad
def aJi:D->Option Int->Option Int->Res D
 | .lst xs,lo,hi=>if D.aG xs then .ok (.lst (cutD xs lo hi)) else .bad
 | .scr xs,lo,hi=>if D.aG xs then .ok (.lst (cutD xs lo hi)) else .bad
 | .tup xs,lo,hi=>if !D.aG xs||decide (aBx xs.length 0 lo=0/\aBx xs.length xs.length hi=xs.length) then .bad else .ok (.tup (cutD xs lo hi))
 | _,_,_=>.bad
def m5:List D->Res D
 | [.tup xs]=>.ok (.int xs.length)
 | [.lst xs]=>.ok (.int xs.length)
 | [.scr xs]=>.ok (.int xs.length)
 | [.cel _ xs]=>.ok (.int xs.length)
 | [.str x]=>if decide (x.length<=lim) then .ok (.int x.length) else .bad
 | _=>.bad
noncomputable def aGx (kvs:List (D×D)):List D:=kvs.map (·.1)
def PP:List D->Res D
 | [.tup xs]=>if D.aG xs then .ok (.lst xs) else .bad
 | [.lst xs]=>if D.aG xs then .ok (.lst xs) else .bad
 | [.dct kvs]=>if kvs.all (fun p=>!isTup p.1) then .ok (.lst (aGx kvs)) else .bad
 | _=>.bad
noncomputable def g8:List D->Res D
 | [.tup xs]=>.ok (.tup xs)
 | [.lst xs]=>.ok (.tup xs)
 | _=>.bad
noncomputable def Ty.nm:Ty->String
 | .int => "int" | .str => "str" | .bool => "bool" | .list => "list" | .tuple => "tuple" | .dict => "dict"
def PQ (t:Ty) (d:D):Res D:=do let k <- TQ t d;pure (.bl k)
noncomputable def oF (n:Nat) (f:List D->Res D):List D->Res D:=fun ds=>if decide (ds.length=n) then f ds else .bad
noncomputable abbrev FI:=List D->Res (List D×Bool)
noncomputable def J3:D->Res (List D)
 | .lst xs=>.ok xs
 | .tup xs=>.ok xs
 | _=>.bad
def uU:List D->Res (List D×Bool)
 | [.int n]=>if t_ n then .ok ((List.range n.toNat).map fun (k:Nat)=>D.int (0+(k:Int)),true) else .bad
 | _=>.bad
noncomputable def vQ (f:FA) (g:List D->Res (List D×Bool)):FI:=fun ρ=>do let xs <- f ρ;g xs
noncomputable def J4 (n:Nat) (ρ:List D):List D:=(List.range n).map fun i=>ρ.getD i .uD
noncomputable def GX:D->Res (List D):=fun d=>.ok [d]
def GZ (n:Nat) (t:D->Res (List D)) (c:FT) (f:FE) (k:Bool) (ρ:List D) (acc:List D) (x:D):Res (List D):=do
 let bs <- t x
 let ok <- c (J4 n ρ++bs)
 if ok then (do
  let y <- f (J4 n ρ++bs)
  if k||y.pure then pure (acc++[y]) else .bad)
 else pure acc
noncomputable def uV (g:List D->D->Res (List D)):List D->List D->Res (List D)
 | acc,[]=>.ok acc
 | acc,x::xs=>do let a <- g acc x;uV g a xs
def jQ (n:Nat) (it:FI) (t:D->Res (List D)) (c:FT) (f:FE) (k:Bool):FE:=fun ρ=>do
 let xs <- it ρ
 if decide (xs.1.length<=lim) then (do
  let ys <- uV (GZ n t c f k ρ) [] xs.1
  pure (.lst ys)) else .bad
noncomputable def j7:FT:=fun _=>.ok true
noncomputable abbrev FS:=List D->Res Fl
def inner:D->Bool
 | .lst xs=>D.aG xs
 | .dct kvs=>D.aG (kvs.map (·.2))
 | .cel _ xs=>D.aG xs
 | _=>false
noncomputable def RD:FS:=fun ρ=>.ok (.nx ρ)
noncomputable def bA (f g:FS):FS:=fun ρ=>do
 let r <- f ρ
 match r with
 | .nx ρ'=>g ρ'
 | r=>.ok r
def cJ (o:Bool) (i:Nat) (f:FE) (k:Bool):FS:=fun ρ=>do
 let d <- f ρ
 if (if o then k&&inner d else k||d.pure) then .ok (.nx (ρ.set i d)) else .bad
noncomputable def sIf (c:FT) (f g:FS):FS:=fun ρ=>do
 let k <- c ρ
 if k then f ρ else g ρ
noncomputable def xQ (f:FE) (k:Bool):FS:=fun ρ=>do
 let d <- f ρ
 if k||d.pure then .ok (.rt d) else .bad
def PX (i:Nat):FS:=fun ρ=>do
 let d <- bT i ρ
 .ok (.rt d)
noncomputable def rtX:Nat:=1000000
def RG (i:Nat) (f:FE):FS:=fun ρ=>do
 let d <- f ρ
 match ρ.getD i .uD with
 | .lst xs=>if decide (xs.length<lim)&&d.pure then .ok (.nx (ρ.set i (.lst (xs++[d])))) else .bad
 | _=>.bad
def aDl (i:Nat) (f:FE) (g:FE):FS:=fun ρ=>do
 let d <- g ρ
 let k <- f ρ
 match ρ.getD i .uD with
 | .dct kvs=>if decide (kvs.length<lim)&&sZ kvs k&&d.pure then .ok (.nx (ρ.set i (.dct (putD kvs k d)))) else .bad
 | _=>.bad
noncomputable def tg1 (i:Nat):D->List D->Res (List D):=fun d ρ=>.ok (ρ.set i d)
noncomputable def G3:List Nat->List D->List D->List D
 | i::is,d::ds,ρ=>G3 is ds (ρ.set i d)
 | _,_,ρ=>ρ
def tgN (is:List Nat):D->List D->Res (List D)
 | .tup ds,ρ=>if decide (ds.length=is.length) then .ok (G3 is ds ρ) else .bad
 | _,_=>.bad
noncomputable def zY (t:D->List D->Res (List D)) (body:FS):List D->List D->Res Fl
 | [],ρ=>.ok (.nx ρ)
 | x::xs,ρ=>do
  let ρ1 <- t x ρ
  let r <- body ρ1
  match r with
  | .nx ρ'=>zY t body xs ρ'
  | .ct ρ'=>zY t body xs ρ'
  | .bk ρ'=>.ok (.nx ρ')
  | .rt d=>.ok (.rt d)
def Y0 (it:FI) (t:D->List D->Res (List D)) (body:FS):FS:=fun ρ=>do
 let xs <- it ρ
 if xs.2 then zY t body xs.1 ρ else .bad
def fnS (n m:Nat) (f:FS):List D->Res D:=fun ds=>do
 let r <- f (ds++List.replicate (m-n) .uD)
 aN5 r
end Mi
namespace Mi
open PySem L2
class KFrag where
 K:PySem.W.Frag
variable [KFrag]
def aDm (H:Hp) (a:Addr) (xs:List V):Prop:=(∃o,H a=some (.frz o (.lst xs)))\/
 ∃(o:Obj) (its:Array Value) (n:Nat),KFrag.K.lookup a=some o/\o.cls=.type "list"/\o.dict=none/\o.data=.seq its n/\its.size<=sizeLine/\Vals xs its.toList
theorem aDm.sq {H:Hp} {a:Addr} {xs:List V} {K:PySem.W.Frag} (h:aDm H a xs) (hK:KFrag.K=K):SqL K H a xs:=by
 subst hK;rcases h with ⟨o,h⟩|h
 ·exact .inl (.inr ⟨o,h⟩)
 ·exact .inr h
noncomputable def kD:Key->D
 | .inl i=>.int i
 | .inr x=>.str x
noncomputable def P_:HO->Bool
 | .lst _=>true
 | .dK _=>true
 | .dT _=>true
 | _=>false
def XO (a C:Addr) (dx:Option Addr) (h:Heap):Prop:=∃o,h.get? a=some o/\o.cls=.ref C/\o.dict=dx/\∃vs,o.data=.fields vs
def XD (dx:Addr) (fs:List (Str×Str)) (h:Heap):Prop:=∃mA,h.Ns1 dx mA/\PySem.Within mA (fs.map (·.1))/\∀f,match fs.lookup f with
 | some t=>∃tk,mA f=some (.str t tk)
 | none=>mA f=none
def XDs (H:Hp) (fs:List (Str×Str)):Option Addr->Prop
 | none=>fs=[]
 | some d=>H d=some (.ext (XD d fs))
mutual
inductive Rep (P:Addr->Prop) (H:Hp):V->D->Prop
 | non:Rep P H .non .non
 | bl (b:Bool):Rep P H (.bl b) (.bl b)
 | int (i:Int):Rep P H (.int i) (.int i)
 | str (x:Str):Rep P H (.str x) (.str x)
 | tup {a:Addr} {xs:List V} {ds:List D}:H a=some (.tup xs)->bF P H xs ds->Rep P H (.ref a) (.tup ds)
 | lst {a:Addr} {xs:List V} {ds:List D}:H a=some (.lst xs)->P a->bF P H xs ds->Rep P H (.ref a) (.lst ds)
 | cel {a:Addr} {xs:List V} {ds:List D}:H a=some (.lst xs)->P a->bF P H xs ds->Rep P H (.ref a) (.cel a ds)
 | frz {a:Addr} {xs:List V} {ds:List D}:aDm H a xs->bF P H xs ds->Rep P H (.ref a) (.scr ds)
 | dK {a:Addr} {kvs:List (Key×V)} {ds:List (D×D)}:H a=some (.dK kvs)->P a->d9 P H kvs ds->(kvs.map (·.1)).Nodup->Rep P H (.ref a) (.dct ds)
 | dT {a:Addr} {kvs:List (List Key×V)} {ds:List (D×D)}:H a=some (.dT kvs)->P a->jR P H kvs ds->(kvs.map (·.1)).Nodup->Rep P H (.ref a) (.dct ds)
 | fdK {a:Addr} {o:Obj} {kvs:List (Key×V)} {ds:List (D×D)}:H a=some (.frz o (.dK kvs))->d9 P H kvs ds->(kvs.map (·.1)).Nodup->Rep P H (.ref a) (.fdc ds)
 | fdT {a:Addr} {o:Obj} {kvs:List (List Key×V)} {ds:List (D×D)}:H a=some (.frz o (.dT kvs))->jR P H kvs ds->(kvs.map (·.1)).Nodup->Rep P H (.ref a) (.fdc ds)
 | exc {a C:Addr} {dx:Option Addr} {c:Str} {fs:List (Str×Str)}:PySem.W.nsIn KFrag.K mainGlobals c=some (some (.ref C))->H a=some (.ext (XO a C dx))->XDs H fs dx->Rep P H (.ref a) (.exc c fs)
 | ins {a C dx:Addr} {c:Str} {vs:List (Str×V)} {fs:List (Str×D)}:PySem.W.nsIn KFrag.K mainGlobals c=some (some (.ref C))->H a=some (.ins C dx vs)->lZ P H vs fs->Rep P H (.ref a) (.ins c fs)
inductive lZ (P:Addr->Prop) (H:Hp):List (Str×V)->List (Str×D)->Prop
 | nil:lZ P H [] []
 | cons {f:Str} {v:V} {d:D} {r:List (Str×V)} {ds:List (Str×D)}:Rep P H v d->lZ P H r ds->lZ P H ((f,v)::r) ((f,d)::ds)
inductive bF (P:Addr->Prop) (H:Hp):List V->List D->Prop
 | nil:bF P H [] []
 | cons {v:V} {d:D} {vs:List V} {ds:List D}:Rep P H v d->bF P H vs ds->bF P H (v::vs) (d::ds)
inductive d9 (P:Addr->Prop) (H:Hp):List (Key×V)->List (D×D)->Prop
 | nil:d9 P H [] []
 | cons {k:Key} {v:V} {d:D} {r:List (Key×V)} {ds:List (D×D)}:Rep P H v d->d9 P H r ds->d9 P H ((k,v)::r) ((kD k,d)::ds)
inductive jR (P:Addr->Prop) (H:Hp):List (List Key×V)->List (D×D)->Prop
 | nil:jR P H [] []
 | cons {k:List Key} {v:V} {d:D} {r:List (List Key×V)} {ds:List (D×D)}:Rep P H v d->jR P H r ds->jR P H ((k,v)::r) ((.tup (k.map kD),d)::ds)
end
def T3 (P:Addr->Prop) (H H':Hp):Prop:=∀a o,H a=some o->(P a\/P_ o=false)->H' a=some o
theorem T3.same {P:Addr->Prop} {H H':Hp} (h:bO H H'):T3 P H H':=fun a o e _=>h a o e
mutual
theorem Rep.keep {P P':Addr->Prop} {H H':Hp} (k:T3 P H H') (m:∀a,P a->P' a):∀{v:V} {d:D},Rep P H v d->Rep P' H' v d
 | _,_,.non=>.non
 | _,_,.bl b=>.bl b
 | _,_,.int i=>.int i
 | _,_,.str x=>.str x
 | _,_,.tup e r=>.tup (k _ _ e (.inr rfl)) (bF.keep k m r)
 | _,_,.lst e p r=>.lst (k _ _ e (.inl p)) (m _ p) (bF.keep k m r)
 | _,_,.cel e p r=>.cel (k _ _ e (.inl p)) (m _ p) (bF.keep k m r)
 | _,_,.frz e r=>.frz (e.imp (fun ⟨o,e⟩=>⟨o,k _ _ e (.inr rfl)⟩) id) (bF.keep k m r)
 | _,_,.dK e p r n=>.dK (k _ _ e (.inl p)) (m _ p) (d9.keep k m r) n
 | _,_,.dT e p r n=>.dT (k _ _ e (.inl p)) (m _ p) (jR.keep k m r) n
 | _,_,.fdK e r n=>.fdK (k _ _ e (.inr rfl)) (d9.keep k m r) n
 | _,_,.fdT e r n=>.fdT (k _ _ e (.inr rfl)) (jR.keep k m r) n
 | _,_,.exc (dx:=dx) n e q=>.exc n (k _ _ e (.inr rfl)) (match dx,q with|none,q=>q|some _,q=>k _ _ q (.inr rfl))
 | _,_,.ins n e r=>.ins n (k _ _ e (.inr rfl)) (lZ.keep k m r)
theorem lZ.keep {P P':Addr->Prop} {H H':Hp} (k:T3 P H H') (m:∀a,P a->P' a):∀{v:List (Str×V)} {d:List (Str×D)},lZ P H v d->lZ P' H' v d
 | _,_,.nil=>.nil
 | _,_,.cons r t=>.cons (Rep.keep k m r) (lZ.keep k m t)
theorem bF.keep {P P':Addr->Prop} {H H':Hp} (k:T3 P H H') (m:∀a,P a->P' a):∀{v:List V} {d:List D},bF P H v d->bF P' H' v d
 | _,_,.nil=>.nil
 | _,_,.cons r t=>.cons (Rep.keep k m r) (bF.keep k m t)
theorem d9.keep {P P':Addr->Prop} {H H':Hp} (k:T3 P H H') (m:∀a,P a->P' a):∀{v:List (Key×V)} {d:List (D×D)},d9 P H v d->d9 P' H' v d
 | _,_,.nil=>.nil
 | _,_,.cons r t=>.cons (Rep.keep k m r) (d9.keep k m t)
theorem jR.keep {P P':Addr->Prop} {H H':Hp} (k:T3 P H H') (m:∀a,P a->P' a):∀{v:List (List Key×V)} {d:List (D×D)},jR P H v d->jR P' H' v d
 | _,_,.nil=>.nil
 | _,_,.cons r t=>.cons (Rep.keep k m r) (jR.keep k m t)
end
theorem Rep.mono {P P':Addr->Prop} {H:Hp} {v:V} {d:D} (r:Rep P H v d) (m:∀a,P a->P' a):Rep P' H v d:=r.keep (fun _ _ e _=>e) m
theorem bF.mono {P P':Addr->Prop} {H:Hp} {v:List V} {d:List D} (r:bF P H v d) (m:∀a,P a->P' a):bF P' H v d:=r.keep (fun _ _ e _=>e) m
theorem Rep.same {P:Addr->Prop} {H H':Hp} {v:V} {d:D} (r:Rep P H v d) (s:bO H H'):Rep P H' v d:=r.keep (.same s) fun _ h=>h
theorem bF.same {P:Addr->Prop} {H H':Hp} {v:List V} {d:List D} (r:bF P H v d) (s:bO H H'):bF P H' v d:=r.keep (.same s) fun _ h=>h
mutual
theorem Rep.bL {P P':Addr->Prop} {H:Hp}:∀{v:V} {d:D},Rep P H v d->d.pure=true->Rep P' H v d
 | _,_,.non,_=>.non
 | _,_,.bl b,_=>.bl b
 | _,_,.int i,_=>.int i
 | _,_,.str x,_=>.str x
 | _,_,.tup e r,h=>.tup e (bF.bL r (by rw [D.pure] at h;exact h))
 | _,_,.lst _ _ _,h=>by rw [D.pure] at h;cases h
 | _,_,.cel _ _ _,h=>by rw [D.pure] at h;cases h
 | _,_,.frz e r,h=>.frz e (bF.bL r (by rw [D.pure] at h;exact h))
 | _,_,.dK _ _ _ _,h=>by rw [D.pure] at h;cases h
 | _,_,.dT _ _ _ _,h=>by rw [D.pure] at h;cases h
 | _,_,.fdK _ _ _,h=>by rw [D.pure] at h;cases h
 | _,_,.fdT _ _ _,h=>by rw [D.pure] at h;cases h
 | _,_,.exc _ _ _,h=>by rw [D.pure] at h;cases h
 | _,_,.ins _ _ _,h=>by rw [D.pure] at h;cases h
theorem bF.bL {P P':Addr->Prop} {H:Hp}:∀{v:List V} {d:List D},bF P H v d->D.aG d=true->bF P' H v d
 | _,_,.nil,_=>.nil
 | _,_,.cons r t,h=>by
  rw [D.aG,Bool.and_eq_true] at h;exact .cons (Rep.bL r h.1) (bF.bL t h.2)
end
theorem bF.length {P:Addr->Prop} {H:Hp}:∀{v:List V} {d:List D},bF P H v d->v.length=d.length
 | _,_,.nil=>rfl
 | _,_,.cons _ t=>by rw [List.length_cons,List.length_cons,bF.length t]
theorem bF.get {P:Addr->Prop} {H:Hp}:∀{vs:List V} {ds:List D} {i:Nat} {d:D},bF P H vs ds->ds[i]?=some d->∃v,vs[i]?=some v/\Rep P H v d
 | _,_,_,_,.nil,e=>by simp at e
 | _,_,0,_,.cons r _,e=>by simp at e;subst e;exact ⟨_,rfl,r⟩
 | _,_,i+1,d,.cons _ t,e=>by
  obtain ⟨v,h1,h2⟩:=bF.get (i:=i) (d:=d) t (by simpa using e);exact ⟨v,by simpa using h1,h2⟩
theorem bF.append {P:Addr->Prop} {H:Hp}:∀{vs ws:List V} {ds es:List D},bF P H vs ds->bF P H ws es->bF P H (vs++ws) (ds++es)
 | _,_,_,_,.nil,s=>s
 | _,_,_,_,.cons r t,s=>.cons r (bF.append t s)
theorem bF.take {P:Addr->Prop} {H:Hp}:∀{vs:List V} {ds:List D} (n:Nat),bF P H vs ds->bF P H (vs.take n) (ds.take n)
 | _,_,0,_=>.nil
 | _,_,_+1,.nil=>.nil
 | _,_,n+1,.cons r t=>.cons r (bF.take n t)
theorem bF.drop {P:Addr->Prop} {H:Hp}:∀{vs:List V} {ds:List D} (n:Nat),bF P H vs ds->bF P H (vs.drop n) (ds.drop n)
 | _,_,0,r=>r
 | _,_,_+1,.nil=>.nil
 | _,_,n+1,.cons _ t=>bF.drop n t
theorem bF.set {P:Addr->Prop} {H:Hp} {v:V} {d:D} (r:Rep P H v d):∀{vs:List V} {ds:List D} (n:Nat),bF P H vs ds->bF P H (vs.set n v) (ds.set n d)
 | _,_,_,.nil=>.nil
 | _,_,0,.cons _ t=>.cons r t
 | _,_,n+1,.cons q t=>.cons q (bF.set r n t)
theorem bF.snoc {P:Addr->Prop} {H:Hp} {vs:List V} {ds:List D} {v:V} {d:D} (t:bF P H vs ds) (r:Rep P H v d):bF P H (vs++[v]) (ds++[d]):=t.append (.cons r .nil)
theorem Rep.uD {P:Addr->Prop} {H:Hp} {v:V}:¬Rep P H v .uD:=fun h=>by cases h
abbrev All:Addr->Prop:=fun _=>True
abbrev New (H:Hp):Addr->Prop:=fun a=>H a=none
theorem Rep.all {P:Addr->Prop} {H:Hp} {v:V} {d:D} (r:Rep P H v d):Rep All H v d:=r.mono fun _ _=>trivial
theorem bF.all {P:Addr->Prop} {H:Hp} {v:List V} {d:List D} (r:bF P H v d):bF All H v d:=r.mono fun _ _=>trivial
theorem bO.new {H H':Hp} (s:bO H H'):∀a,New H' a->New H a:=fun a h=>s.free h
theorem bO.upd {H:Hp} {a:Addr} {o:HO} (h:H a=none):bO H (upd H a o):=fun b u e=>by rw [aN (a_ e h)];exact e
def ER (H:Hp) (σ:St) (ρ:List D):Prop:=∀i,ρ.getD i .uD≠.uD->∃v,σ[i]?=some (some v)/\Rep All H v (ρ.getD i .uD)
theorem ER.same {H H':Hp} {σ:St} {ρ:List D} (e:ER H σ ρ) (s:bO H H'):ER H' σ ρ:=fun i h=>by
 obtain ⟨v,h1,h2⟩:=e i h;exact ⟨v,h1,h2.same s⟩
theorem PE.imp {X:Cx} {e:PySem.Expr} {t t':TE} (h:PE X e t) (i:∀σ H Q,t' σ H Q->t σ H Q):PE X e t':=fun pins s σ H Q I q=>h pins s σ H Q I (i σ H Q q)
theorem PT.imp {X:Cx} {e:PySem.Expr} {t t':TT} (h:PT X e t) (i:∀σ H Q,t' σ H Q->t σ H Q):PT X e t':=fun pins s σ H Q I q=>h pins s σ H Q I (i σ H Q q)
theorem PA.imp {X:Cx} {e:List PySem.Expr} {t t':TA} (h:PA X e t) (i:∀σ H Q,t' σ H Q->t σ H Q):PA X e t':=fun pos pins s σ H Q I q=>h pos pins s σ H Q I (i σ H Q q)
end Mi
namespace L2
open PySem PySem.Spec PyProof.Rows
noncomputable def l_ (own:List Str) (x:Str):Str:=if own.contains x then x++(" " : Str) else x
def clF (env:Env):List (Str×NameKind)->List (Str×Addr)->List (Str×Addr)
 | [],acc=>acc
 | (n,k)::r,acc=>clF env r (if k==.free then (n,(env.cells.lookup n).getD 0)::acc else acc)
theorem nP {env:Env}:∀(names:List (Str×NameKind)) (acc:List (Str×Addr)),(∀y∈names,y.2=.free->∃c,env.cells.lookup y.1=some c)->
  (forIn names acc fun x cs=>(match x with
   | (name,kind)=>if (kind==.free)=true then cellOf env name >>= fun c=>pure (ForInStep.yield ((name,c)::cs)) else pure (ForInStep.yield cs):Sem (ForInStep (List (Str×Addr)))))=(pure (clF env names acc):Sem _)
 | [],acc,_=>by rw [List.forIn_nil];rfl
 | (n,k)::r,acc,h=>by
  rw [List.forIn_cons];by_cases hk:(k==.free)=true
  ·have hk':k=.free:=by simpa using hk
   obtain ⟨c,e⟩:=h (n,k) (List.mem_cons_self ..) hk';have e':cellOf env n=pure c:=by
    unfold cellOf;have e2:env.cells.lookup n=some c:=e;rw [e2]
   dsimp only;rw [if_pos hk,e',pure_bind,pure_bind];dsimp only;rw [nP r _ fun y hy=>h y (List.mem_cons_of_mem _ hy)];have e2:env.cells.lookup n=some c:=e;simp only [clF,hk,if_true,e2,Option.getD_some]
  ·dsimp only;rw [if_neg hk,pure_bind];dsimp only;rw [nP r _ fun y hy=>h y (List.mem_cons_of_mem _ hy)];simp only [clF,hk,Bool.false_eq_true,if_false]
theorem QB {env:Env} {scope:Scope} (h:∀y∈scope.names,y.2=.free->∃c,env.cells.lookup y.1=some c):closureFor scope env=pure (clF env scope.names []):=by
 unfold closureFor;have:=nP (env:=env) scope.names [] h;simp only [bind_pure] at *;exact this
theorem G4 {env:Env}:∀{names:List (Str×NameKind)} {acc:List (Str×Addr)} {x:Str} {c:Addr},(∀y∈names,y.2=.free->∃c,env.cells.lookup y.1=some c)->(∀x c,acc.lookup x=some c->env.cells.lookup x=some c)->
  (clF env names acc).lookup x=some c->env.cells.lookup x=some c
 | [],acc,x,c,_,h,e=>h x c e
 | (n,k)::r,acc,x,c,q,h,e=>by
  unfold clF at e;refine G4 (fun y hy=>q y (List.mem_cons_of_mem _ hy)) (fun y d hy=>?_) e;by_cases hk:(k==.free)=true
  ·rw [if_pos hk,List.lookup_cons] at hy;obtain ⟨c',e'⟩:=q (n,k) (List.mem_cons_self ..) (by simpa using hk);have e2:env.cells.lookup n=some c':=e';cases hyn:y==n with
   | true=>
    rw [hyn] at hy;have:y=n:=by simpa using hyn
    subst this;rw [e2] at hy;simp only [Option.getD_some] at hy;rw [e2];exact hy
   | false=>rw [hyn] at hy;exact h y d hy
  ·rw [if_neg hk] at hy;exact h y d hy
theorem T4 {env:Env}:∀{names:List (Str×NameKind)} {acc:List (Str×Addr)} {x:Str},(∃c,acc.lookup x=some c)->∃c,(clF env names acc).lookup x=some c
 | [],_,_,h=>h
 | (n,k)::r,acc,x,⟨c,h⟩=>by
  unfold clF;refine T4 ?_;by_cases hk:(k==.free)=true
  ·rw [if_pos hk,List.lookup_cons];cases x==n with
   | true=>exact ⟨_,rfl⟩
   | false=>exact ⟨c,h⟩
  ·rw [if_neg hk];exact ⟨c,h⟩
theorem G5 {env:Env}:∀{names:List (Str×NameKind)} {acc:List (Str×Addr)} {x:Str},(x,NameKind.free)∈names->∃c,(clF env names acc).lookup x=some c
 | (n,k)::r,acc,x,h=>by
  unfold clF;rcases List.mem_cons.mp h with e|h
  ·cases e;refine T4 ?_;rw [if_pos (by decide),List.lookup_cons];simp
  ·exact G5 h
structure fG (N:List Str) (sc scope:Scope) (own:List Str):Prop where
 kind:scope.kind=.function
 nocell:∀y∈scope.names,y.2≠.cell
 names:∀y∈scope.names,y.2=.local->scope.names.lookup y.1=some .local
 free:∀y∈scope.names,y.2=.free->sc.names.lookup y.1=some .cell\/sc.names.lookup y.1=some .free
 ownl:∀x∈own,scope.names.lookup x=some .local
 hid:∀x∈own,scope.names.lookup (x++(" " : Str))=none
 loc:∀y∈scope.names,y.2=.local->y.1∈own\/y.1∉N
structure fH (X X':Cx) (scope:Scope) (own:List Str):Prop where
 prog:X'.prog=X.prog
 w:X'.w=X.w
 K:X'.K=X.K
 mg:X'.mg=X.mg
 base:X'.base=X.base
 A:X'.A=X.A
 N:X'.N=X.N.map (l_ own)++own
 scope:X'.env.scope=relabel scope X.env
 calm:X'.calm=X.calm
 xe:X'.xe=fun _ _=>False
def J5 (X:Cx) (scope:Scope) (cl:List (Str×Addr)) (C:Addr) (own:List Str) (s₂:Shared) (H₂:Hp) (fp:List Addr):Cx:=
 {X with N:=X.N.map (l_ own)++own,s₀:=s₂,H₀:=H₂,env:=compEnvC scope cl C X.env,outer:=X.stack,stack:=X.stack,ex:=fp,fn:=fun _=>false,pn:=[],xe:=fun _ _=>False}
theorem T5 {X:Cx} {scope:Scope} {cl:List (Str×Addr)} {C:Addr} {own:List Str} {s₂:Shared} {H₂:Hp} {fp:List Addr}:fH X (J5 X scope cl C own s₂ H₂ fp) scope own:=
 ⟨rfl,rfl,rfl,rfl,rfl,rfl,rfl,rfl,rfl,rfl⟩
def Ext (σ σ2:St):Prop:=σ2.length=σ.length/\∀(i:Nat) v,σ[i]?=some (some v)->σ2[i]?=some (some v)
def QC (wi:TI) (g:TG) (tc:TT) (te:TE) (m:Nat):TE:=fun σ H Q=>wi σ H fun J H1=>∀p,H1 p=none->
 ∃W:Nat->Nat->List V->Hp->Prop,(∃n,W 0 n [] (upd H1 p (.lst [])))/\∀i n ys H,W i n ys H->H p=some (.lst ys)/\((J.stop i H/\Q (.ref p) H)\/(J.go i H/\ys.length<sizeLine/\
  ∀x H2,J.yld i H x H2->g x (σ++List.replicate m none) H2 fun σ2 H3=>Ext (σ++List.replicate m none) σ2/\tc σ2 H3 fun b H4=>if b=true then te σ2 H4 fun y H5=>H5 p=some (.lst ys)/\∃n',n'<n/\W (i+1) n' (ys++[y]) (upd H5 p (.lst (ys++[y])))
   else ∃n',n'<n/\W (i+1) n' ys H4))
section
variable {X:Cx} {scope:Scope} {own:List Str}
theorem Inv.comp {pins:List (Addr×Obj)} {σ:St} {H2:Hp} {s2:Shared} {fp:List Addr} {h1:Heap} {t1:Nat} (I:Inv X pins σ H2 s2) (S:fG X.N X.env.scope scope own) (hf:∀b∈fp,Q_ X pins H2 b)
  (hfx:∀b∈fp,b<s2.heap.objs.size) (hns:h1.Ns (s2.heap.objs.size+1) (fun _=>none))
  (hk:∀b o,s2.heap.get? b=some o->h1.get? b=some o) (hacc:h1.get? s2.heap.objs.size=some {cls:=.type "list",data:=.seq #[]}) :
  Inv (J5 X scope (clF X.env scope.names []) (s2.heap.objs.size+1) own s2 H2 fp) [] (σ++List.replicate own.length none) (upd H2 s2.heap.objs.size (.lst [])) {s2 with heap:=h1,toks:=t1}:=by
 have hD:H2 s2.heap.objs.size=none:=I.hok.fresh (Nat.le_refl _);have hC:H2 (s2.heap.objs.size+1)=none:=I.hok.fresh (Nat.le_succ _);have cells:∀y∈scope.names,y.2=.free->∃c,X.env.cells.lookup y.1=some c:=fun y hy hk=>I.ok.has y.1 (S.free y hy hk)
 have sub:∀x c,(clF X.env scope.names []).lookup x=some c->X.env.cells.lookup x=some c:=fun x c e=>G4 cells (fun _ _ h=>by simp at h) e
 have relk:∀x,(relabel scope X.env).names.lookup x=some .cell\/(relabel scope X.env).names.lookup x=some .free->(x,NameKind.free)∈scope.names:=by
  intro x hx;have go:∀(l:List (Str×NameKind)),(∀y∈l,y.2≠.cell)->((l.map fun (n,k)=>if (k==NameKind.free&&X.env.scope.kind==.function&&X.env.kindOf n==some .cell) then (n,NameKind.cell) else (n,k)).lookup x=some .cell\/(l.map fun (n,k)=>if (k==NameKind.free&&X.env.scope.kind==.function&&X.env.kindOf n==some .cell) then (n,NameKind.cell) else (n,k)).lookup x=some .free)->(x,NameKind.free)∈l:=by
   intro l;induction l with
   | nil=>intro _ h;rcases h with h|h <;> simp at h
   | cons p l ih=>
    obtain ⟨n,k⟩:=p;intro nc h;rw [List.map_cons] at h;dsimp only at h;by_cases hc:(k==NameKind.free&&X.env.scope.kind==.function&&X.env.kindOf n==some .cell)=true
    ·rw [if_pos hc] at h;rw [List.lookup_cons] at h;cases e:x==n with
     | true=>
      have:x=n:=by simpa using e
      subst this;simp only [Bool.and_eq_true] at hc;have:k=.free:=by simpa using hc.1.1
      subst this;exact List.mem_cons_self ..
     | false=>
      rw [e] at h;exact List.mem_cons_of_mem _ (ih (fun y hy=>nc y (List.mem_cons_of_mem _ hy)) h)
    ·rw [if_neg hc] at h;rw [List.lookup_cons] at h;cases e:x==n with
     | true=>
      have:x=n:=by simpa using e
      subst this;rw [e] at h;dsimp only at h;rcases h with h|h
      ·exact absurd (Option.some.inj h) (nc (x,k) (List.mem_cons_self ..))
      ·have:=Option.some.inj h;subst this;exact List.mem_cons_self ..
     | false=>
      rw [e] at h;exact List.mem_cons_of_mem _ (ih (fun y hy=>nc y (List.mem_cons_of_mem _ hy)) h)
  exact go scope.names S.nocell hx
 have hne:s2.heap.objs.size≠s2.heap.objs.size+1:=Nat.ne_of_lt (Nat.lt_succ_self _);have hlt:∀b o,s2.heap.get? b=some o->b<s2.heap.objs.size:=fun b o e=>Heap.lt_size e
 have hstk:∀b∈frs X.stack,b<s2.heap.objs.size:=fun b hb=>by
  obtain ⟨_,o,ho,_⟩:=I.stack.mem hb;exact hlt b o ho
 refine ⟨⟨I.mod,?_,I.ok.glob,I.ok.blt,Nat.le_succ _,fun x y c e1 e2=>I.ok.inj x y c (sub x c e1) (sub y c e2),fun x hx=>?_,fun _ _ h=>(by cases h),I.ok.hd,I.ok.frames,.inl rfl,fun b hb=>?_,fun b o e=>I.bs b o e,?_,fun b o e hb=>?_,fun b hb hz=>?_,I.stack,I.GC⟩,
  rfl,I.bare,Un.laid hk (Nat.le_refl _) hD,?_,fun x c e=>?_,?_,fun x c e=>?_,fun p hp=>(by simp [J5] at hp),?_,?_⟩
 ·exact S.kind
 ·have hx':(relabel scope X.env).names.lookup x=some .cell\/(relabel scope X.env).names.lookup x=some .free:=hx;exact G5 (relk x hx')
 ·refine ⟨Nat.ne_of_lt (Nat.lt_succ_of_lt (hfx b hb)),fun x c e z=>?_⟩;exact (hf b hb).2.2.2.2.1 x c (sub x c e) z
 ·exact Nat.le_trans I.ok.bsz I.sz
 ·rcases (hf b hb).2.2.2.1 with z|z
  ·exact I.ok.noex b o e z
  ·exact absurd (Nat.lt_of_lt_of_le (Heap.lt_size e) (Nat.le_trans I.ok.bsz z)) (Nat.lt_irrefl _)
 ·rcases List.mem_cons.mp (I.JN b hz) with z'|z'
  ·exact (hf b hb).2.1 z'
  ·exact (hf b hb).2.2.1 z'
 ·refine ⟨_,hns,fun i x v e1 e2 e3=>?_⟩;have hi:i<σ.length:=by
   rcases Nat.lt_or_ge i σ.length with h|h
   ·exact h
   ·rw [List.getElem?_append_right h,List.getElem?_replicate] at e2;split at e2 <;> cases e2
  rw [List.getElem?_append_left hi] at e2;have hiN:i<X.N.length:=by rw [<-I.len];exact hi
  have e1':(X.N.map (l_ own))[i]?=some x:=by
   have:(X.N.map (l_ own)++own)[i]?=some x:=e1;rwa [List.getElem?_append_left (by rw [List.length_map];exact hiN)] at this
  rw [List.getElem?_map] at e1';obtain ⟨y,hy,ey⟩:=Option.map_eq_some_iff.mp e1';have hyN:y∈X.N:=List.mem_of_getElem? hy;have e3':(relabel scope X.env).names.lookup x=some .local\/(relabel scope X.env).names.lookup x=some .cell\/(relabel scope X.env).names.lookup x=some .free:=e3;have keys:∀z k,(relabel scope X.env).names.lookup z=some k->∃k',scope.names.lookup z=some k'/\(k=.local->k'=.local):=by
   intro z k;show (scope.names.map fun (n,k)=>if (k==NameKind.free&&X.env.scope.kind==.function&&X.env.kindOf n==some .cell) then (n,NameKind.cell) else (n,k)).lookup z=some k->_;generalize scope.names=l;induction l with
   | nil=>intro h;simp at h
   | cons p l ih=>
    obtain ⟨n,k0⟩:=p;intro h;rw [List.map_cons] at h;dsimp only at h;by_cases hc:(k0==NameKind.free&&X.env.scope.kind==.function&&X.env.kindOf n==some .cell)=true
    ·rw [if_pos hc,List.lookup_cons] at h;rw [List.lookup_cons];cases e:z==n with
     | true=>
      rw [e] at h;dsimp only at h;cases h;exact ⟨k0,rfl,fun q=>by cases q⟩
     | false=>rw [e] at h;exact ih h
    ·rw [if_neg hc,List.lookup_cons] at h;rw [List.lookup_cons];cases e:z==n with
     | true=>
      rw [e] at h;dsimp only at h;cases h;exact ⟨_,rfl,fun q=>q⟩
     | false=>rw [e] at h;exact ih h
  by_cases hown:own.contains y=true
  ·exfalso;have ex:x=y++(" " : Str):=by rw [<-ey];unfold l_;rw [if_pos hown]
   have hn:=S.hid y (by simpa using hown);rw [<-ex] at hn;rcases e3' with q|q|q
   all_goals
    obtain ⟨k',hk',_⟩:=keys _ _ q;rw [hn] at hk';cases hk'
  ·have ex:x=y:=by rw [<-ey];unfold l_;rw [if_neg hown]
   subst ex;rcases e3' with q|q
   ·exfalso;obtain ⟨k',hk',hl⟩:=keys _ _ q;have:=hl rfl;subst this;rcases S.loc _ (PySem.mem_of_lookup hk') rfl with z|z
    ·exact hown (by simpa using z)
    ·exact z hyN
   ·have hfr:=relk x q;have hv:=S.free _ hfr rfl;obtain ⟨m,_,hl⟩:=I.loc;obtain ⟨u,ru,lk⟩:=hl i x v hy e2 (.inr hv);refine ⟨u,ru,.inr ⟨q,?_⟩⟩;rcases lk with ⟨z,_⟩|⟨_,c,hc,o,ho,hd⟩
    ·have z':X.env.scope.names.lookup x=some .local:=z;rcases hv with hv|hv <;> (rw [z'] at hv;cases hv)
    ·obtain ⟨c',hc'⟩:=G5 (env:=X.env) (acc:=[]) hfr;have:=sub x c' hc';rw [hc] at this;cases this;exact ⟨c,hc',o,hk c o ho,hd⟩
 ·obtain ⟨v,z⟩:=I.cell x c (sub x c e);obtain ⟨o,ho,hd⟩:=z;exact ⟨v,o,hk c o ho,hd⟩
 ·show upd H2 _ _ (s2.heap.objs.size+1)=none;rw [aN (Ne.symm hne)];exact hC
 ·obtain ⟨v,o,ho,_⟩:=I.cell x c (sub x c e);show upd H2 _ _ c=none;rw [aN (Nat.ne_of_lt (hlt c o ho))];exact I.freeC x c (sub x c e)
 ·exact I.hok.laid hk (Nat.le_refl _) ⟨Nat.zero_le _,[],0,.nil,hacc⟩
 ·show (σ++List.replicate own.length none).length=(X.N.map (l_ own)++own).length;rw [List.length_append,List.length_append,List.length_replicate,List.length_map,I.len]
end
section
variable {X:Cx} {scope:Scope} {own:List Str}
def cI (X':Cx) (σ:St) (fp:List Addr) (tn:Nat->Heap->Prop) (W:Nat->Nat->List V->Hp->Prop) (n:Nat) (s:Shared):Prop:=∃i ys H',Inv X' [] σ H' s/\tn i s.heap/\(∀b∈fp,H' b=none)/\W i n ys H'
abbrev cE (X X':Cx) (use:Option (Value->Sem Unit)) (QQ:Value->Shared->Prop) (p:Addr):Value->Shared->Prop:=notedBy (model X.prog X.w) X.A X'.env fun e s'=>compPost (model X.prog X.w) X.A X.xe use QQ (.ref p) (p+1) (.error e) s'
def cB (X':Cx) (σ:St) (fp:List Addr) (tn:Nat->Heap->Prop) (W:Nat->Nat->List V->Hp->Prop) (n i:Nat) (h:Heap):Prop:=∀{ys':List V} {H9:Hp} {s9:Shared} {σ9:St},Ext σ σ9->Inv X' ([]++sE fp h) σ9 H9 s9->(∃n',n'<n/\W (i+1) n' ys' H9)->∃m,m<n/\cI X' σ fp tn W m s9
theorem T6 {elt iter tg:Expr} {ifs:List Expr} {wi:TI} {g:TG} {tc:TT} {te:TE} {pos ps:Pos} {use:Option (Value->Sem Unit)} {QQ:Value->Shared->Prop} {pins:List (Addr×Obj)} {s:Shared} {σ:St} {H:Hp} {R:VK} (S:fG X.N X.env.scope scope own) (hcalm:X.calm=true) (hi:PI X tg iter wi)
  (hg:∀X',fH X X' scope own->PG X' tg g) (hc:(ifs=[]/\tc=fun _ H Q=>Q true H)\/∃c,ifs=[c]/\∀X',fH X X' scope own->PT X' c tc) (he:∀X',fH X X' scope own->PE X' elt te)
  (hs:∀x,foldedSetIterable iter X.env x=pure x) (I:Inv X pins σ H s) (h:QC wi g tc te own.length σ H R)
  (last:∀{p C:Addr} {H5:Hp} {s6:Shared} {m6:Str->Option Value},Inv X pins σ H5 s6->Q_ X pins H5 C->s6.heap.Ns C m6->R (.ref p) H5->compPost (model X.prog X.w) X.A X.xe use QQ (.ref p) C (.ok .next) s6) :
  wpAny (model X.prog X.w) X.A (comprehension (.ListComp elt [⟨tg,iter,ifs,0⟩] scope pos) scope X.env ps (newList []) false (eval iter X.env) use) QQ X.xe s:=by
 have cells:∀y∈scope.names,y.2=.free->∃c,X.env.cells.lookup y.1=some c:=fun y hy hk=>I.ok.has y.1 (S.free y hy hk)
 refine wpAny_comprehension_free rfl hs (QB cells) S.kind S.names (thn (hi pins s σ H _ I h) fun xv s1 h1=>thn h1 fun itv s2 h2=>?_);obtain ⟨it,fp,tn,J,H2,e,I2,T,st2,f2,hW⟩:=h2;subst e;have hD:H2 s2.heap.objs.size=none:=I2.hok.fresh (Nat.le_refl _);obtain ⟨W,⟨n0,w0⟩,turn⟩:=hW _ hD;have hfx:∀b∈fp,b<s2.heap.objs.size:=fun b hb=>by
  obtain ⟨o,ho,_⟩:=T.obj 0 _ st2 b hb;exact Heap.lt_size ho
 refine wpAny_newObj_type (wpAny_newFunctionEnv S.nocell (by intro y hy;simp at hy) (fun h₁ hns₁ hsb₁=>?_) S.kind);dsimp only at hns₁ hsb₁ ⊢;have hC:(s2.heap.push {cls:=.type "list",dict:=none,data:=.seq ([]:List Value).toArray}).objs.size=s2.heap.objs.size+1:=Heap.size_push ..;have hne:s2.heap.objs.size≠s2.heap.objs.size+1:=Nat.ne_of_lt (Nat.lt_succ_self _);rw [hC] at hns₁ hsb₁ ⊢;have old:∀b o,s2.heap.get? b=some o->h₁.get? b=some o:=fun b o e=>hsb₁.extBut b o (Nat.ne_of_lt (Nat.lt_succ_of_lt (Heap.lt_size e))) (Heap.get?_push_of_some _ (Heap.get?_push_of_some _ e))
 have hacc:h₁.get? s2.heap.objs.size=some {cls:=.type "list",data:=.seq #[]}:=hsb₁.extBut _ _ hne (Heap.get?_push_of_some _ (Heap.get?_push_size _ rfl));have I4:=Inv.comp (t1:=s2.toks+([]:List (Str×Value)).length) I2 S f2 hfx hns₁ old hacc;generalize hX':J5 X scope (clF X.env scope.names []) (s2.heap.objs.size+1) own s2 H2 fp=X' at I4;have cc:fH X X' scope own:=by rw [<-hX'];exact T5
 have eenv:X'.env=compEnvC scope (clF X.env scope.names []) (s2.heap.objs.size+1) X.env:=by rw [<-hX'];rfl
 have eA:X'.A=X.A:=cc.A;have ep:X'.prog=X.prog:=cc.prog;have ew:X'.w=X.w:=cc.w;have efs:X'.fs=frs X.stack:=by rw [<-hX'];rfl
 have eex:X'.ex=fp:=by rw [<-hX'];rfl
 have es0:X'.s₀=s2:=by rw [<-hX'];rfl
 have eH0:X'.H₀=H2:=by rw [<-hX'];rfl
 have epn:X'.pn=[]:=by rw [<-hX'];rfl
 have eK:X'.K=X.K:=cc.K;have exe:=cc.xe;have ecalm:X'.calm=true:=cc.calm.trans hcalm
 -- the iterator's records within the block
 have fpok:∀{H':Hp},(∀b∈fp,H' b=none)->∀b∈fp,Q_ X' [] H' b:=fun {H'} hn b hb=>by
  obtain ⟨_,f1,f3,_,f5,_⟩:=f2 b hb;refine ⟨hn b hb,?_,?_,.inl (by rw [eex];exact hb),fun x c e=>?_,fun p hp=>by rw [epn] at hp;simp at hp⟩
  ·rw [eenv];exact Nat.ne_of_lt (Nat.lt_succ_of_lt (hfx b hb))
  ·rw [efs];intro z;rcases List.mem_cons.mp (I2.JN b z) with z|z
   ·exact f1 z
   ·exact f3 z
  ·rw [eenv] at e;exact f5 x c (G4 cells (fun _ _ h=>by simp at h) e)
 have st4:tn 0 h₁:=T.keep _ _ _ st2 fun b _ o e=>old b o e
 have fr4:∀b∈fp,(upd H2 s2.heap.objs.size (.lst [])) b=none:=fun b hb=>by rw [aN (Nat.ne_of_lt (hfx b hb))];exact (f2 b hb).1
 have loop:∀s4:Shared,s4={s2 with heap:=h₁,toks:=s2.toks+([]:List (Str×Value)).length}->
   codeAny (model X.prog X.w) X.A (.compLoop (.ListComp elt [⟨tg,iter,ifs,0⟩] scope pos) 0 (.ref it) (.ref s2.heap.objs.size) X'.env)
    (compPost (model X.prog X.w) X.A X.xe use QQ (.ref s2.heap.objs.size) (s2.heap.objs.size+1)) s4:=by
  rintro s4 rfl;have put:∀(n i:Nat) (ys:List V) (s7:Shared) (σ8:St) (H8:Hp) (s8:Shared),cB X' (σ++List.replicate own.length none) fp tn W n i s7.heap->Inv X' ([]++sE fp s7.heap) σ8 H8 s8->Ext (σ++List.replicate own.length none) σ8->ys.length<sizeLine->(te σ8 H8 fun y H5=>H5 s2.heap.objs.size=some (.lst ys)/\∃n',n'<n/\W (i+1) n' (ys++[y]) (upd H5 s2.heap.objs.size (.lst (ys++[y]))))->
    wpAny (model X.prog X.w) X.A (eval elt X'.env) (fun x s₄=>wpAny (model X.prog X.w) X.A (call (.builtin "list.append") [.ref s2.heap.objs.size,x]) (fun _ s₅=>∃m,m<n/\cI X' (σ++List.replicate own.length none) fp tn W m s₅) (cE X X' use QQ s2.heap.objs.size) s₄) (cE X X' use QQ s2.heap.objs.size) s8:=by
   intro n i ys s7 σ8 H8 s8 back I8 ext8 hlen q8;have he':=he X' cc _ s8 _ H8 _ I8 q8;rw [ep,ew,eA,exe] at he';refine wpAny_mono he' (fun yv s10 ⟨y,H10,I10,r10,p10,q10⟩=>?_) fun _ _ z=>False.elim z
   have hm:=j0 (X:=X') _ s10 σ8 H10 (.ref s2.heap.objs.size) [y] (.ref s2.heap.objs.size) [yv] (fun _ H11=>∃n',n'<n/\W (i+1) n' (ys++[y]) H11) I10 rfl (.cons r10 .nil) ⟨s2.heap.objs.size,ys,y,rfl,rfl,p10,hlen,q10⟩;rw [ep,ew,eA,exe] at hm;exact wpAny_mono hm (fun _ s11 ⟨_,H11,I11,_,q11⟩=>back ext8 I11 q11) fun _ _ z=>False.elim z
  have key:∀(PO:Nat->Shared->Prop),(∀(n i:Nat) (ys:List V) (s7:Shared) (σ8:St) (H8:Hp) (s8:Shared),cB X' (σ++List.replicate own.length none) fp tn W n i s7.heap->Inv X' ([]++sE fp s7.heap) σ8 H8 s8->Ext (σ++List.replicate own.length none) σ8->ys.length<sizeLine->(tc σ8 H8 fun b H4=>if b=true then te σ8 H4 fun y H5=>H5 s2.heap.objs.size=some (.lst ys)/\∃n',n'<n/\W (i+1) n' (ys++[y]) (upd H5 s2.heap.objs.size (.lst (ys++[y]))) else ∃n',n'<n/\W (i+1) n' ys H4)->PO n s8)->
    ∀n s5,(cI X' (σ++List.replicate own.length none) fp tn W n s5)->wpAny (model X.prog X.w) X.A (pyNext (.ref it)) (fun r s₁=>match r with
     | none=>compPost (model X.prog X.w) X.A X.xe use QQ (.ref s2.heap.objs.size) (s2.heap.objs.size+1) (.ok .next) s₁
     | some v=>wpAny (model X.prog X.w) X.A (letOwnedTupleGo tg (.ref it) v) (fun _ s₀=>wpAny (model X.prog X.w) X.A (assign tg X'.env v) (fun _ s₂=>PO n s₂) (cE X X' use QQ s2.heap.objs.size) s₀) (cE X X' use QQ s2.heap.objs.size) s₁) (cE X X' use QQ s2.heap.objs.size) s5:=by
   intro PO hPO;rintro n s5 ⟨i,ys,H5,I5,st5,fr5,w5⟩;obtain ⟨hacc5,tr⟩:=turn i n ys H5 w5;rcases tr with ⟨stop,q⟩|⟨go,hlen,step⟩
   ·have done:=T.done X' ep ew eK ecalm i [] s5 _ H5 (cE X X' use QQ s2.heap.objs.size) I5 (fpok fr5) st5 stop;rw [eA] at done;refine thn done fun r s6 ⟨hr,I6⟩=>?_
    subst hr;obtain ⟨m6,hn6,_⟩:=id I6.loc;rw [eenv] at hn6;have u6:Un (frs X.stack) fp H2 H5 s2.heap s6.heap:=by
     have:=I6.base;rw [efs,eex,eH0,es0] at this;exact this
    have hCn:H5 (s2.heap.objs.size+1)=none:=by
     have:=I6.free;rw [eenv] at this;exact this
    have hok6:HOk X.prog X.w H5 s6.heap:=by
     have:=I6.hok;rw [ep,ew] at this;exact this
    have hos:s6.os=s2.os:=by have:=I6.os;rw [es0] at this;exact this
    obtain ⟨hh,gg,dd,tt,oo⟩:=s6;obtain rfl:oo=s2.os:=hos;have fin:=Inv.call (h':=hh) (g':=gg) (d':=dd) (t':=tt) (ch:=fp) I2 u6 hok6 I6.bare fun b hb=>⟨(f2 b hb).2.2.2.1,(f2 b hb).2.1,(f2 b hb).2.2.2.2.1,(f2 b hb).2.2.2.2.2⟩
    refine last fin ⟨hCn,Nat.ne_of_gt (Nat.lt_succ_of_lt I2.lt),I2.aM0 (Nat.le_succ _),.inr (Nat.le_trans I2.sz (Nat.le_succ _)),fun x c e z=>?_,fun p hp z=>?_⟩ hn6 q
    ·obtain ⟨v,qq⟩:=I2.cell x c e;exact absurd (Nat.lt_succ_of_lt qq.lt) (by rw [z];exact Nat.lt_irrefl _)
    ·exact absurd (Nat.lt_succ_of_lt (Heap.lt_size (I2.pin p hp).1)) (by rw [z];exact Nat.lt_irrefl _)
   ·have item:=T.item X' ep ew eK ecalm i [] s5 _ H5 (cE X X' use QQ s2.heap.objs.size) I5 (fpok fr5) st5 go;rw [eA] at item;refine thn item fun r s6 ⟨u,hr,h6⟩=>?_
    subst hr;refine thn h6 fun _ s7 ⟨x,H7,I7,r7,y7,st7,fr7⟩=>?_
    have I7':=I7.pinned (fpok fr7) (T.obj _ _ st7);have hg':=hg X' cc _ s7 _ H7 x u _ I7' r7 (step x H7 y7);rw [ep,ew,eA,exe] at hg';refine wpAny_mono hg' (fun _ s8 ⟨σ8,H8,I8,ext8,q8⟩=>?_) fun _ _ z=>False.elim z
    have back:cB X' (σ++List.replicate own.length none) fp tn W n i s7.heap:=by
     rintro ys' H9 s9 σ9 ex9 I9 ⟨n',hn',w9⟩;refine ⟨n',hn',i+1,ys',H9,(I9.weak ex9.1.symm ex9.2).mV,T.keep _ _ _ st7 fun b hb o e=>(I9.pin (b,o) (List.mem_append_right _ (List.mem_append_right _ (lF hb e)))).1,fun b hb=>?_,w9⟩;obtain ⟨o,e,d⟩:=T.obj _ _ st7 b hb;exact (I9.pin (b,o) (List.mem_append_right _ (List.mem_append_right _ (lF hb e)))).2.1
    exact hPO n i ys s7 σ8 H8 s8 back I8 ext8 hlen q8
  rcases hc with ⟨rfl,rfl⟩|⟨c,rfl,hc⟩
  ·refine PySem.W.kcp_loop _ (key _ fun n i ys s7 σ8 H8 s8 back I8 ext8 hlen q8=>?_) n0 ⟨0,[],_,I4,st4,fr4,w0⟩;simp only [if_true] at q8;exact put n i ys s7 σ8 H8 s8 back I8 ext8 hlen q8
  ·refine PySem.W.kct_loop _ (key _ fun n i ys s7 σ8 H8 s8 back I8 ext8 hlen q8=>?_) n0 ⟨0,[],_,I4,st4,fr4,w0⟩;have hc':=hc X' cc _ s8 _ H8 _ I8 q8;rw [ep,ew,eA,exe] at hc';refine wpAny_mono hc' (fun b s9 ⟨H9,I9,q9⟩=>?_) fun _ _ z=>False.elim z
   cases b with
   | false=>
    simp only [Bool.false_eq_true,if_false] at q9 ⊢;exact back ext8 I9 q9
   | true=>
    simp only [if_true] at q9 ⊢;exact put n i ys s7 σ8 H9 s9 back I9 ext8 hlen q9
 have l4:=loop _ rfl;rw [eenv] at l4;exact codeAny_compStart_list l4 (T.self X.A 0 _ _ _ st4 l4)
theorem Z3 {pins:List (Addr×Obj)} {σ:St} {Q:VK} {p C:Addr} {H5:Hp} {s6:Shared} {m6:Str->Option Value} (f:Inv X pins σ H5 s6) (k:Q_ X pins H5 C) (n:s6.heap.Ns C m6) (q:Q (.ref p) H5):compPost (model X.prog X.w) X.A X.xe none (EP X pins σ Q) (.ref p) C (.ok .next) s6:=
 ⟨m6,n,fun h' sb=>⟨.ref p,H5,Inv.turned (t':=s6.toks) f (fun b o hb e=>sb.extBut b o hb e) k.1 k.2.1 k.2.2.2.1 k.2.2.2.2.1 k.2.2.2.2.2,rfl,q⟩⟩
theorem Z4 {elt iter tg:Expr} {wi:TI} {g:TG} {te:TE} {pos:Pos} (S:fG X.N X.env.scope scope own) (hcalm:X.calm=true) (hi:PI X tg iter wi)
  (hg:∀X',fH X X' scope own->PG X' tg g) (he:∀X',fH X X' scope own->PE X' elt te)
  (hs:∀x,foldedSetIterable iter X.env x=pure x):PE X (.ListComp elt [⟨tg,iter,[],0⟩] scope pos) (QC wi g (fun _ H Q=>Q true H) te own.length):=by
 intro pins s σ H Q I h;rw [eval_ListComp];exact T6 S hcalm hi hg (.inl ⟨rfl,rfl⟩) he hs I h Z3
end
end L2
namespace Mi
open PySem L2 PySem.SeqAt
variable [KFrag]
theorem jO {X:Cx} {pins:List (Addr×Obj)} {σ:St} {H:Hp} {s:Shared} {a:Addr} {xs:List V} (I:Inv X pins σ H s) (e:H a=some (.tup xs)):∃its:List Value,Vals xs its/\s.heap.IsTuple a its.toArray:=by
 obtain ⟨_,its,r,p⟩:xs.length<=sizeLine/\∃its:List Value,Vals xs its/\iU s.heap a its.toArray:=I.hok a _ e;exact ⟨its,r,p.tup⟩
theorem lR {X:Cx} {pins:List (Addr×Obj)} {σ:St} {H:Hp} {s:Shared} {a:Addr} {xs:List V} (I:Inv X pins σ H s) (e:SqL X.K H a xs):∃its:List Value,Vals xs its/\s.heap.IsList a its.toArray:=by
 obtain ⟨its,r,p,_⟩:=I.list e;exact ⟨its,r,p.isList⟩
theorem Rep.fX {P:Addr->Prop} {H:Hp} {K:PySem.W.Frag} {v:V} {ds:List D} (r:Rep P H v (.lst ds)):∃a xs,v=.ref a/\SqL K H a xs/\bF P H xs ds:=by
 cases r with
 | lst e p r=>exact ⟨_,_,rfl,.inl (.inl e),r⟩
theorem Rep.eO {P:Addr->Prop} {H:Hp} {v:V} {ds:List D} (r:Rep P H v (.tup ds)):∃a xs,v=.ref a/\H a=some (.tup xs)/\bF P H xs ds:=by
 cases r with
 | tup e r=>exact ⟨_,_,rfl,e,r⟩
mutual
theorem xR:∀(n:Nat) (d:D),d.cL n=true->eqD d d=true
 | _,.non,_=>rfl
 | _,.bl b,_=>by simp [eqD]
 | _,.int i,_=>by simp [eqD]
 | _,.str x,_=>by simp [eqD]
 | n+1,.tup xs,h=>by rw [D.cL] at h;rw [eqD];exact uW n xs h
 | n+1,.lst xs,h=>by rw [D.cL] at h;rw [eqD];exact uW n xs h
 | 0,.tup xs,h=>by simp [D.cL] at h
 | 0,.lst xs,h=>by simp [D.cL] at h
 | n,.dct _,h=>by cases n <;> simp [D.cL] at h
 | n,.uD,h=>by cases n <;> simp [D.cL] at h
 | n,.scr _,h=>by cases n <;> simp [D.cL] at h
 | n,.fdc _,h=>by cases n <;> simp [D.cL] at h
 | n,.exc _ _,h=>by cases n <;> simp [D.cL] at h
 | n,.ins _ _,h=>by cases n <;> simp [D.cL] at h
 | n,.cel _ _,h=>by cases n <;> simp [D.cL] at h
theorem uW:∀(n:Nat) (ds:List D),D.eX n ds=true->zX ds ds=true
 | _,[],_=>rfl
 | n,d::ds,h=>by
  rw [D.eX,Bool.and_eq_true] at h;rw [zX,xR n d h.1,uW n ds h.2];rfl
end
mutual
theorem Rep.inj {P P':Addr->Prop} {H:Hp}:∀(n:Nat) {v:V} {d e:D},d.cL n=true->e.cL n=true->Rep P H v d->Rep P' H v e->d=e
 | _,_,_,_,_,_,.non,.non=>rfl
 | _,_,_,_,_,_,.bl _,.bl _=>rfl
 | _,_,_,_,_,_,.int _,.int _=>rfl
 | _,_,_,_,_,_,.str _,.str _=>rfl
 | n+1,_,.tup ds,_,h,h',.tup e1 r1,q=>by
  cases q with
  | tup e2 r2=>
   rw [e1] at e2;cases e2;rw [D.cL] at h h';rw [bF.inj n h h' r1 r2]
  | lst e2 _ _=>rw [e1] at e2;cases e2
  | frz e2 _=>simp [D.cL] at h'
  | fdK e2 _ _=>simp [D.cL] at h'
  | cel e2 _ _=>simp [D.cL] at h'
  | fdT e2 _ _=>simp [D.cL] at h'
  | exc _ _ _=>simp [D.cL] at h'
  | ins _ _ _=>simp [D.cL] at h'
  | dK e2 _ _ _=>rw [e1] at e2;cases e2
  | dT e2 _ _ _=>rw [e1] at e2;cases e2
 | n+1,_,.lst ds,_,h,h',.lst e1 p r1,q=>by
  cases q with
  | tup e2 r2=>rw [e1] at e2;cases e2
  | lst e2 _ r2=>
   rw [e1] at e2;cases e2;rw [D.cL] at h h';rw [bF.inj n h h' r1 r2]
  | frz e2 _=>simp [D.cL] at h'
  | fdK e2 _ _=>simp [D.cL] at h'
  | cel e2 _ _=>simp [D.cL] at h'
  | fdT e2 _ _=>simp [D.cL] at h'
  | exc _ _ _=>simp [D.cL] at h'
  | ins _ _ _=>simp [D.cL] at h'
  | dK e2 _ _ _=>rw [e1] at e2;cases e2
  | dT e2 _ _ _=>rw [e1] at e2;cases e2
 | 0,_,.tup ds,_,h,_,_,_=>by simp [D.cL] at h
 | 0,_,.lst ds,_,h,_,_,_=>by simp [D.cL] at h
 | n,_,.dct _,_,h,_,_,_=>by cases n <;> simp [D.cL] at h
 | n,_,.scr _,_,h,_,_,_=>by cases n <;> simp [D.cL] at h
 | n,_,.fdc _,_,h,_,_,_=>by cases n <;> simp [D.cL] at h
 | n,_,.exc _ _,_,h,_,_,_=>by cases n <;> simp [D.cL] at h
 | n,_,.ins _ _,_,h,_,_,_=>by cases n <;> simp [D.cL] at h
 | n,_,.cel _ _,_,h,_,_,_=>by cases n <;> simp [D.cL] at h
theorem bF.inj {P P':Addr->Prop} {H:Hp}:∀(n:Nat) {v:List V} {d e:List D},D.eX n d=true->D.eX n e=true->bF P H v d->bF P' H v e->d=e
 | _,_,_,_,_,_,.nil,.nil=>rfl
 | n,_,_,_,h,h',.cons r t,.cons r' t'=>by
  rw [D.eX,Bool.and_eq_true] at h h';rw [Rep.inj n h.1 h'.1 r r',bF.inj n h.2 h'.2 t t']
end
theorem nQ:∀(xs ys:List D),zX xs ys=((List.range (min xs.length ys.length)).all (fun j=>eqD (xs.getD j .non) (ys.getD j .non))&&xs.length==ys.length)
 | [],[]=>by simp [zX]
 | [],y::ys=>by simp [zX]
 | x::xs,[]=>by simp [zX]
 | x::xs,y::ys=>by
  have e:min (x::xs).length (y::ys).length=min xs.length ys.length+1:=by simp only [List.length_cons];lia
  rw [zX,nQ xs ys,e,List.range_succ_eq_map,List.all_cons,List.all_map,Bool.and_assoc]
  congr 1
  simp [Function.comp_def]
theorem m7 {n:Nat}:∀{ds:List D} {j:Nat},D.eX n ds=true->j<ds.length->(ds.getD j .non).cL n=true
 | [],j,_,h=>by simp at h
 | d::ds,0,h,_=>by rw [D.eX,Bool.and_eq_true] at h;exact h.1
 | d::ds,j+1,h,hj=>by
  rw [D.eX,Bool.and_eq_true] at h;simpa using m7 (ds:=ds) (j:=j) h.2 (by simpa using hj)
theorem bF.getD {P:Addr->Prop} {H:Hp} {vs:List V} {ds:List D} {j:Nat} (r:bF P H vs ds) (hj:j<ds.length):∃v,vs[j]?=some v/\Rep P H v (ds.getD j .non):=by
 obtain ⟨v,h1,h2⟩:=r.get (i:=j) (d:=ds.getD j .non) (by simp [hj]);exact ⟨v,h1,h2⟩
section
variable {X:Cx} {pins:List (Addr×Obj)} {σ:St} {H:Hp} {s:Shared}
theorem uX {A:Around} {x y:V} {a b:D} {u v:Value} (ha:a.cL 0=true) (hb:b.cL 0=true) (rx:Rep All H x a) (ry:Rep All H y b) (ru:RelV x u) (rv:RelV y v):RcAt A s u v (eqD a b)/\RcNeAt A s u v (!eqD a b)/\EqAt A s u v (eqD a b):=by
 cases rx with
 | non=>
  cases ru;cases ry with
  | non=>cases rv;exact ⟨RcAt.none_none,RcNeAt.none_none,EqAt.same _⟩
  | bl _=>cases rv;exact ⟨RcAt.none_bool _,RcNeAt.none_bool _,EqAt.none_bool _⟩
  | int _=>obtain ⟨t,rfl⟩:=rv;exact ⟨RcAt.none_int _ _,RcNeAt.none_int _ _,EqAt.none_int _ _⟩
  | str _=>obtain ⟨t,rfl⟩:=rv;exact ⟨RcAt.none_str _ _,RcNeAt.none_str _ _,EqAt.none_str _ _⟩
  | _=>simp [D.cL] at hb
 | bl _=>
  cases ru;cases ry with
  | non=>cases rv;exact ⟨RcAt.bool_none _,RcNeAt.bool_none _,EqAt.bool_none _⟩
  | bl _=>cases rv;exact ⟨RcAt.bool_bool _ _,RcNeAt.bool_bool _ _,EqAt.bool_bool _ _⟩
  | int _=>obtain ⟨t,rfl⟩:=rv;exact ⟨RcAt.bool_int _ _ _,RcNeAt.bool_int _ _ _,EqAt.bool_int _ _ _⟩
  | str _=>obtain ⟨t,rfl⟩:=rv;exact ⟨RcAt.bool_str _ _ _,RcNeAt.bool_str _ _ _,EqAt.bool_str _ _ _⟩
  | _=>simp [D.cL] at hb
 | int _=>
  obtain ⟨t,rfl⟩:=ru;cases ry with
  | non=>cases rv;exact ⟨RcAt.int_none _ _,RcNeAt.int_none _ _,EqAt.int_none _ _⟩
  | bl _=>cases rv;exact ⟨RcAt.int_bool _ _ _,RcNeAt.int_bool _ _ _,EqAt.int_bool _ _ _⟩
  | int _=>obtain ⟨t',rfl⟩:=rv;exact ⟨RcAt.int_int _ _ _ _,RcNeAt.int_int _ _ _ _,EqAt.int_int _ _ _ _⟩
  | str _=>obtain ⟨t',rfl⟩:=rv;exact ⟨RcAt.int_str _ _ _ _,RcNeAt.int_str _ _ _ _,EqAt.int_str _ _ _ _⟩
  | _=>simp [D.cL] at hb
 | str _=>
  obtain ⟨t,rfl⟩:=ru;cases ry with
  | non=>cases rv;exact ⟨RcAt.str_none _ _,RcNeAt.str_none _ _,EqAt.str_none _ _⟩
  | bl _=>cases rv;exact ⟨RcAt.str_bool _ _ _,RcNeAt.str_bool _ _ _,EqAt.str_bool _ _ _⟩
  | int _=>obtain ⟨t',rfl⟩:=rv;exact ⟨RcAt.str_int _ _ _ _,RcNeAt.str_int _ _ _ _,EqAt.str_int _ _ _ _⟩
  | str _=>obtain ⟨t',rfl⟩:=rv;exact ⟨RcAt.str_str _ _ _ _,RcNeAt.str_str _ _ _ _,EqAt.str_str _ _ _ _⟩
  | _=>simp [D.cL] at hb
 | _=>simp [D.cL] at ha
theorem T7 (I:Inv X pins σ H s):∀(n:Nat) (A:Around) {x y:V} {a b:D} {u v:Value},A.units+n<cLine->a.cL n=true->b.cL n=true->Rep All H x a->Rep All H y b->RelV x u->RelV y v->
  RcAt A s u v (eqD a b)/\RcNeAt A s u v (!eqD a b)/\EqAt A s u v (eqD a b):=by
 intro n;induction n with
 | zero=>exact fun A=>fun _ ha hb rx ry ru rv=>uX ha hb rx ry ru rv
 | succ n ih=>
  intro A x y a b u v hu ha hb rx ry ru rv;have hu0:A.units<cLine:=by lia
  have hu1:A.in1.units+n<cLine:=by show A.units+1+n<cLine;lia
  have itm:∀{xs ys:List V} {ds es:List D} {i1 i2:List Value},D.eX n ds=true->D.eX n es=true->bF All H xs ds->bF All H ys es->Vals xs i1->Vals ys i2->∀j (g1:j<i1.toArray.size) (g2:j<i2.toArray.size),EqAt A.in1 s i1.toArray[j] i2.toArray[j] (eqD (ds.getD j .non) (es.getD j .non)):=by
   intro xs ys ds es i1 i2 ha hb r1 r2 vr1 vr2 j g1 g2;have z1:i1.toArray.size=ds.length:=by rw [List.size_toArray,<-vr1.length,r1.length]
   have z2:i2.toArray.size=es.length:=by rw [List.size_toArray,<-vr2.length,r2.length]
   obtain ⟨v1,w1,rr1⟩:=r1.getD (j:=j) (by lia);obtain ⟨v2,w2,rr2⟩:=r2.getD (j:=j) (by lia);obtain ⟨u1,k1,l1⟩:=vr1.get w1;obtain ⟨u2,k2,l2⟩:=vr2.get w2;have m1:i1.toArray[j]=u1:=by
    rw [List.getElem?_eq_getElem (by simpa using g1)] at k1;simpa using Option.some.inj k1
   have m2:i2.toArray[j]=u2:=by
    rw [List.getElem?_eq_getElem (by simpa using g2)] at k2;simpa using Option.some.inj k2
   rw [m1,m2];exact (ih A.in1 hu1 (m7 ha (by lia)) (m7 hb (by lia)) rr1 rr2 l1 l2).2.2
  cases a with
  | non=>
   cases b with
   | tup es=>
    cases rx;cases ru;obtain ⟨q,ys,rfl,e2,r2⟩:=ry.eO;cases rv;obtain ⟨its2,vr2,h2⟩:=jO I e2;exact ⟨RcAt.none_tuple h2 hu0,RcNeAt.none_tuple h2 hu0,EqAt.none_tuple h2 hu0⟩
   | lst es=>
    cases rx;cases ru;obtain ⟨q,ys,rfl,e2,r2⟩:=ry.fX (K:=X.K);cases rv;obtain ⟨its2,vr2,h2⟩:=lR I e2;exact ⟨RcAt.none_list h2 hu0,RcNeAt.none_list h2 hu0,EqAt.none_list h2 hu0⟩
   | _=>first|exact uX rfl rfl rx ry ru rv|exact absurd ry Rep.uD|simp [D.cL] at hb
  | bl _=>
   cases b with
   | tup es=>
    cases rx;cases ru;obtain ⟨q,ys,rfl,e2,r2⟩:=ry.eO;cases rv;obtain ⟨its2,vr2,h2⟩:=jO I e2;exact ⟨RcAt.bool_tuple _ h2 hu0,RcNeAt.bool_tuple _ h2 hu0,EqAt.bool_tuple _ h2 hu0⟩
   | lst es=>
    cases rx;cases ru;obtain ⟨q,ys,rfl,e2,r2⟩:=ry.fX (K:=X.K);cases rv;obtain ⟨its2,vr2,h2⟩:=lR I e2;exact ⟨RcAt.bool_list _ h2 hu0,RcNeAt.bool_list _ h2 hu0,EqAt.bool_list _ h2 hu0⟩
   | _=>first|exact uX rfl rfl rx ry ru rv|exact absurd ry Rep.uD|simp [D.cL] at hb
  | int _=>
   cases b with
   | tup es=>
    cases rx;obtain ⟨t1,rfl⟩:=ru;obtain ⟨q,ys,rfl,e2,r2⟩:=ry.eO;cases rv;obtain ⟨its2,vr2,h2⟩:=jO I e2;exact ⟨RcAt.int_tuple _ _ h2 hu0,RcNeAt.int_tuple _ _ h2 hu0,EqAt.int_tuple _ _ h2 hu0⟩
   | lst es=>
    cases rx;obtain ⟨t1,rfl⟩:=ru;obtain ⟨q,ys,rfl,e2,r2⟩:=ry.fX (K:=X.K);cases rv;obtain ⟨its2,vr2,h2⟩:=lR I e2;exact ⟨RcAt.int_list _ _ h2 hu0,RcNeAt.int_list _ _ h2 hu0,EqAt.int_list _ _ h2 hu0⟩
   | _=>first|exact uX rfl rfl rx ry ru rv|exact absurd ry Rep.uD|simp [D.cL] at hb
  | str _=>
   cases b with
   | tup es=>
    cases rx;obtain ⟨t1,rfl⟩:=ru;obtain ⟨q,ys,rfl,e2,r2⟩:=ry.eO;cases rv;obtain ⟨its2,vr2,h2⟩:=jO I e2;exact ⟨RcAt.str_tuple _ _ h2 hu0,RcNeAt.str_tuple _ _ h2 hu0,EqAt.str_tuple _ _ h2 hu0⟩
   | lst es=>
    cases rx;obtain ⟨t1,rfl⟩:=ru;obtain ⟨q,ys,rfl,e2,r2⟩:=ry.fX (K:=X.K);cases rv;obtain ⟨its2,vr2,h2⟩:=lR I e2;exact ⟨RcAt.str_list _ _ h2 hu0,RcNeAt.str_list _ _ h2 hu0,EqAt.str_list _ _ h2 hu0⟩
   | _=>first|exact uX rfl rfl rx ry ru rv|exact absurd ry Rep.uD|simp [D.cL] at hb
  | tup ds=>
   obtain ⟨p,xs,rfl,e1,r1⟩:=rx.eO;cases ru;obtain ⟨its1,vr1,h1⟩:=jO I e1;rw [D.cL] at ha;cases b with
   | non=>cases ry;cases rv;exact ⟨RcAt.tuple_none h1 hu0,RcNeAt.tuple_none h1 hu0,EqAt.tuple_none h1 hu0⟩
   | bl _=>cases ry;cases rv;exact ⟨RcAt.tuple_bool _ h1 hu0,RcNeAt.tuple_bool _ h1 hu0,EqAt.tuple_bool _ h1 hu0⟩
   | int _=>cases ry;obtain ⟨t2,rfl⟩:=rv;exact ⟨RcAt.tuple_int _ _ h1 hu0,RcNeAt.tuple_int _ _ h1 hu0,EqAt.tuple_int _ _ h1 hu0⟩
   | str _=>cases ry;obtain ⟨t2,rfl⟩:=rv;exact ⟨RcAt.tuple_str _ _ h1 hu0,RcNeAt.tuple_str _ _ h1 hu0,EqAt.tuple_str _ _ h1 hu0⟩
   | tup es=>
    obtain ⟨q,ys,rfl,e2,r2⟩:=ry.eO;cases rv;obtain ⟨its2,vr2,h2⟩:=jO I e2;rw [D.cL] at hb;have z1:its1.toArray.size=ds.length:=by rw [List.size_toArray,<-vr1.length,r1.length]
    have z2:its2.toArray.size=es.length:=by rw [List.size_toArray,<-vr2.length,r2.length]
    have he:=itm ha hb r1 r2 vr1 vr2;have ee:eqD (.tup ds) (.tup es)=((List.range (min its1.toArray.size its2.toArray.size)).all (fun j=>eqD (ds.getD j .non) (es.getD j .non))&&its1.toArray.size==its2.toArray.size):=by
     rw [eqD,nQ,z1,z2]
    have r0:=RcAt.tuples h1 h2 hu0 he;have r0':=RcNeAt.tuples h1 h2 hu0 he;rw [<-ee] at r0 r0';refine ⟨r0,r0',?_⟩;by_cases hpq:p=q
    ·subst hpq;have hab:(D.tup ds)=(.tup es):=Rep.inj (n+1) (by rw [D.cL];exact ha) (by rw [D.cL];exact hb) rx ry;rw [<-hab,xR (n+1) _ (by rw [D.cL];exact ha)];exact EqAt.same _
    ·exact EqAt.of_refs hpq r0
   | lst es=>
    obtain ⟨q,ys,rfl,e2,r2⟩:=ry.fX (K:=X.K);cases rv;obtain ⟨its2,vr2,h2⟩:=lR I e2;exact ⟨RcAt.tuple_list h1 h2 hu0,RcNeAt.tuple_list h1 h2 hu0,EqAt.tuple_list h1 h2 hu0⟩
   | _=>first|exact absurd ry Rep.uD|simp [D.cL] at hb
  | lst ds=>
   obtain ⟨p,xs,rfl,e1,r1⟩:=rx.fX (K:=X.K);cases ru;obtain ⟨its1,vr1,h1⟩:=lR I e1;rw [D.cL] at ha;cases b with
   | non=>cases ry;cases rv;exact ⟨RcAt.list_none h1 hu0,RcNeAt.list_none h1 hu0,EqAt.list_none h1 hu0⟩
   | bl _=>cases ry;cases rv;exact ⟨RcAt.list_bool _ h1 hu0,RcNeAt.list_bool _ h1 hu0,EqAt.list_bool _ h1 hu0⟩
   | int _=>cases ry;obtain ⟨t2,rfl⟩:=rv;exact ⟨RcAt.list_int _ _ h1 hu0,RcNeAt.list_int _ _ h1 hu0,EqAt.list_int _ _ h1 hu0⟩
   | str _=>cases ry;obtain ⟨t2,rfl⟩:=rv;exact ⟨RcAt.list_str _ _ h1 hu0,RcNeAt.list_str _ _ h1 hu0,EqAt.list_str _ _ h1 hu0⟩
   | tup es=>
    obtain ⟨q,ys,rfl,e2,r2⟩:=ry.eO;cases rv;obtain ⟨its2,vr2,h2⟩:=jO I e2;exact ⟨RcAt.list_tuple h1 h2 hu0,RcNeAt.list_tuple h1 h2 hu0,EqAt.list_tuple h1 h2 hu0⟩
   | lst es=>
    obtain ⟨q,ys,rfl,e2,r2⟩:=ry.fX (K:=X.K);cases rv;obtain ⟨its2,vr2,h2⟩:=lR I e2;rw [D.cL] at hb;have z1:its1.toArray.size=ds.length:=by rw [List.size_toArray,<-vr1.length,r1.length]
    have z2:its2.toArray.size=es.length:=by rw [List.size_toArray,<-vr2.length,r2.length]
    have he:=itm ha hb r1 r2 vr1 vr2;have r00:RcAt A s (.ref p) (.ref q) (eqD (.lst ds) (.lst es))/\RcNeAt A s (.ref p) (.ref q) (!eqD (.lst ds) (.lst es)):=by
     rw [eqD,nQ];by_cases hz:ds.length=es.length
     ·have r0:=RcAt.lists h1 h2 (by lia) hu0 he;have r0':=RcNeAt.lists h1 h2 (by lia) hu0 he;rw [z1] at r0 r0';rw [show min ds.length es.length=ds.length by lia,show (ds.length==es.length)=true by simpa using hz,Bool.and_true];exact ⟨r0,r0'⟩
     ·have hz':(its1.toArray.size != its2.toArray.size)=true:=by rw [z1,z2];simpa using hz
      rw [show (ds.length==es.length)=false by simpa using hz,Bool.and_false];exact ⟨RcAt.lists_lengths h1 h2 hz' hu0,RcNeAt.lists_lengths h1 h2 hz' hu0⟩
    obtain ⟨r0,r0'⟩:=r00;refine ⟨r0,r0',?_⟩;by_cases hpq:p=q
    ·subst hpq;have hab:(D.lst ds)=(.lst es):=Rep.inj (n+1) (by rw [D.cL];exact ha) (by rw [D.cL];exact hb) rx ry;rw [<-hab,xR (n+1) _ (by rw [D.cL];exact ha)];exact EqAt.same _
    ·exact EqAt.of_refs hpq r0
   | _=>first|exact absurd ry Rep.uD|simp [D.cL] at hb
  | _=>first|exact absurd rx Rep.uD|simp [D.cL] at ha
end
end Mi
namespace Mi
open PySem L2 PySem.SeqAt PySem.Spec PyProof.Rows
variable [KFrag]
def kR (H:Hp) (d:D) (fr:Bool) (Q:VK):Prop:=∀v H',bO H H'->Rep All H' v d->(fr=true->Rep (New H) H' v d)->Q v H'
noncomputable def gE (f:FE) (fr:Bool):TE:=fun σ H Q=>∃ρ d,ER H σ ρ/\f ρ=.ok d/\kR H d fr Q
noncomputable def gT (f:FT):TT:=fun σ H Q=>∃ρ b,ER H σ ρ/\f ρ=.ok b/\∀H',bO H H'->Q b H'
noncomputable def gA (f:FA) (fr:Bool):TA:=fun σ H Q=>∃ρ ds,ER H σ ρ/\f ρ=.ok ds/\∀vs H',bO H H'->bF All H' vs ds->(fr=true->bF (New H) H' vs ds)->Q vs H'
theorem kR.self {H:Hp} {d:D} {fr:Bool} {Q:VK} {v:V} (q:kR H d fr Q) (r:Rep All H v d) (r2:fr=true->Rep (New H) H v d):Q v H:=q v H (bO.refl H) r r2
theorem kR.imp {H H':Hp} {d:D} {fr fr':Bool} {Q:VK} (q:kR H d fr Q) (s:bO H H') (h:fr=true->fr'=true):kR H' d fr' Q:=fun v H2 s2 r n=>q v H2 (s.trans s2) r fun hf=>(n (h hf)).mono (bO.new s)
theorem kR.int {H:Hp} {i:Int} {fr:Bool} {Q:VK} (q:kR H (.int i) fr Q):Q (.int i) H:=q.self (.int i) fun _=>.int i
theorem kR.bl {H:Hp} {i:Bool} {fr:Bool} {Q:VK} (q:kR H (.bl i) fr Q):Q (.bl i) H:=q.self (.bl i) fun _=>.bl i
theorem kR.str {H:Hp} {i:Str} {fr:Bool} {Q:VK} (q:kR H (.str i) fr Q):Q (.str i) H:=q.self (.str i) fun _=>.str i
theorem kR.non {H:Hp} {fr:Bool} {Q:VK} (q:kR H .non fr Q):Q .non H:=q.self .non fun _=>.non
noncomputable def r2 (f:D->D->Res D) (fr:Bool):R2:=fun x y H Q=>∃a b d,Rep All H x a/\Rep All H y b/\f a b=.ok d/\kR H d fr Q
def r1 (f:D->Res D) (fr:Bool):V->Hp->VK->Prop:=fun x H Q=>∃a d,Rep All H x a/\f a=.ok d/\kR H d fr Q
def rs (f:List D->Res D) (fr:Bool):List V->Hp->VK->Prop:=fun xs H Q=>∃ds d,bF All H xs ds/\f ds=.ok d/\kR H d fr Q
def rm (f:D->List D->Res D) (fr:Bool):V->List V->Hp->VK->Prop:=fun x xs H Q=>∃a ds d,Rep All H x a/\bF All H xs ds/\f a ds=.ok d/\kR H d fr Q
theorem bI {α β:Type} {m:Res α} {f:α->Res β} {b:β} (h:(do let x <- m;f x)=.ok b):∃a,m=.ok a/\f a=.ok b:=Res.aDi h
section
variable {X:Cx} {a b e:Expr} {pos:Pos} {fa fb fe:FE} {ra rb re:Bool} {ga:FT}
theorem ER.var {H:Hp} {σ:L2.St} {ρ:List D} {i:Nat} {d:D} (E:ER H σ ρ) (h:bT i ρ=.ok d):∃v,σ[i]?=some (some v)/\Rep All H v d/\ρ.getD i .uD=d:=by
 have:ρ.getD i .uD=d/\d≠.uD:=by
  unfold bT at h;split at h
  ·cases h
  ·cases h;refine ⟨rfl,fun z=>?_⟩;rename_i q;exact q z
 obtain ⟨e1,e2⟩:=this;obtain ⟨v,h1,h2⟩:=E i (by rw [e1];exact e2);exact ⟨v,h1,by rw [e1] at h2;exact h2,e1⟩
theorem aB {i:Nat} {x:Str} (hN:X.N[i]?=some x:=by exact rfl) (hv:Vis X.env.scope x:=by trivial) (hd:nDb x:=by decide) (hcd:nCd x:=by decide):PE X (.Name x pos) (gE (bT i) false):=
 PE.imp (aW hN hv hd hcd) fun σ H Q ⟨ρ,d,E,h,q⟩=>by
  obtain ⟨v,h1,h2,_⟩:=E.var h;exact ⟨v,h1,q.self h2 (fun z=>by cases z)⟩
theorem aD {i j}:PE X (.Constant (.int i) j pos) (gE (bC (.int i)) true):=PE.imp mU fun σ H Q ⟨ρ,d,E,h,q⟩=>by cases h;exact q.int
theorem G6 {i j}:PE X (.Constant (.bool i) j pos) (gE (bC (.bl i)) true):=PE.imp aJr fun σ H Q ⟨ρ,d,E,h,q⟩=>by cases h;exact q.bl
theorem zZ {i j}:PE X (.Constant (.str i) j pos) (gE (bC (.str i)) true):=PE.imp aBp fun σ H Q ⟨ρ,d,E,h,q⟩=>by cases h;exact q.str
theorem T8 {j}:PE X (.Constant .none j pos) (gE (bC .non) true):=PE.imp aG9 fun σ H Q ⟨ρ,d,E,h,q⟩=>by cases h;exact q.non
theorem two {f:D->D->Res D} {fr:Bool} {σ:L2.St} {H:Hp} {Q:VK} (h:gE (b2 f fa fb) fr σ H Q):tOp (r2 f fr) (gE fa ra) (gE fb rb) σ H Q:=by
 obtain ⟨ρ,d,E,h,q⟩:=h;obtain ⟨x,h1,h⟩:=bI h;obtain ⟨y,h2,h⟩:=bI h;refine ⟨ρ,x,E,h1,fun v H1 s1 rp1 _=>⟨ρ,y,E.same s1,h2,fun u H2 s2 rp2 _=>⟨x,y,d,rp1.same s2,rp2,h,q.imp (s1.trans s2) id⟩⟩⟩
theorem aO {o:Operator} {f:D->D->Res D} {fr:Bool} (ho:OpR X (binaryOp o) (r2 f fr)) (ha:PE X a (gE fa ra)) (hb:PE X b (gE fb rb)):PE X (.BinOp a o b pos) (gE (b2 f fa fb) fr):=PE.imp (aK1 ho ha hb) fun _ _ _=>two
theorem T9 {o:CmpOp} {f:D->D->Res D} {fr:Bool} (ho:OpR X (compareOp o) (r2 f fr)) (ha:PE X a (gE fa ra)) (hb:PE X b (gE fb rb)) (hm:behindInMarks o b=false):PE X (.Compare a [o] [b] pos) (gE (b2 f fa fb) fr):=PE.imp (aCy ho ha hb hm) fun _ _ _=>two
theorem fJ {o:CmpOp} {f:D->D->Res D} {fr:Bool} (ho:OpR X (compareOp o) (r2 f fr)) (ha:PE X a (gE fa ra)) (hb:PE X b (gE fb rb)) (hm:behindInMarks o b=false):PT X (.Compare a [o] [b] pos) (gT (bTB (b2 f fa fb))):=
 PT.imp (aCz ho ha hb hm) fun σ H Q ⟨ρ,k,E,h,q⟩=>by
  obtain ⟨d,h1,h2⟩:=bI h;refine two ⟨ρ,d,E,h1,fun v H' s r _=>?_⟩;cases d <;> simp only [asB] at h2 <;> cases h2
  cases r;exact ⟨_,rfl,q H' s⟩
theorem aKc {o:UnaryOp} {f:D->Res D} {fr:Bool} (ho:UnR X (unaryOp o) (r1 f fr)) (ha:PE X a (gE fa ra)):PE X (.UnaryOp o a pos) (gE (b1 f fa) fr):=
 PE.imp (aCw ho ha) fun σ H Q ⟨ρ,d,E,h,q⟩=>by
  obtain ⟨x,h1,h⟩:=bI h;exact ⟨ρ,x,E,h1,fun v H1 s1 rp1 _=>⟨x,d,rp1,h,q.imp s1 id⟩⟩
theorem aKd {f:D->D->Res D} {fr:Bool} (ho:IxR X (r2 f fr)) (ha:PE X a (gE fa ra)) (hb:PE X b (gE fb rb)) (hs:GK b):PE X (.Subscript a b pos) (gE (b2 f fa fb) fr):=PE.imp (ZQ ho ha hb hs) fun _ _ _=>two
theorem aN7 {H:Hp} {v:V} {d:D} {k:Bool} (r:Rep All H v d) (h:aKb d=.ok k) (hd:∀kvs,d≠.dct kvs) (hs:∀xs,d≠.scr xs):aJa X.K v H k:=by
 cases r with
 | non=>cases h;rfl
 | bl b=>cases h;rfl
 | int i=>cases h;rfl
 | str x=>
  simp only [aKb] at h;split at h
  ·rename_i hl;cases h;exact ⟨Nat.le_trans (of_decide_eq_true hl) (by rw [sizeLine_eq];decide),rfl⟩
  ·cases h
 | tup e rr=>cases h;exact .inr (.inl ⟨_,.of e,by cases rr <;> rfl⟩)
 | lst e p rr=>cases h;exact .inl ⟨_,.of e,by cases rr <;> rfl⟩
 | frz e rr=>exact absurd rfl (hs _)
 | dK e p rr n=>exact absurd rfl (hd _)
 | dT e p rr n=>exact absurd rfl (hd _)
 | fdK e rr n=>cases h
 | fdT e rr n=>cases h
 | exc n e q=>cases h
 | ins n e q=>cases h
 | cel e p rr=>cases h
theorem oG (ha:PE X a (gE fa ra)) (he:∀whole,isTrue a X.env whole=(do let v <- whole;standAt a.pos;holding [v] (truthy v)):=by intro _;rfl):PT X a (gT (bTr fa)):=
 PT.imp (JS ha he) fun σ H Q ⟨ρ,k,E,h,q⟩=>by
  obtain ⟨d,h1,h2⟩:=bI h;refine ⟨ρ,d,E,h1,fun v H' s r _=>⟨k,aN7 r ?_ ?_ ?_,q H' s⟩⟩
  ·cases d <;> first|exact h2|cases h2
  ·rintro kvs rfl;cases h2
  ·rintro kvs rfl;cases h2
theorem J6 (ha:PT X a (gT ga)):PT X (.UnaryOp .Not a pos) (gT (aDk ga)):=PT.imp (aGd ha) fun σ H Q ⟨ρ,k,E,h,q⟩=>by
  obtain ⟨d,h1,h2⟩:=bI h;cases h2;exact ⟨ρ,d,E,h1,fun H' s=>q H' s⟩
theorem aBy {op} (ha:PE X a (gE fa ra)):PE X (.BoolOp op [a] pos) (gE fa ra):=aGe ha
theorem aBz {d:D} {k:Bool} (h:asB d=.ok k):d=.bl k:=by cases d <;> simp only [asB] at h <;> cases h;rfl
theorem aGy {d:D} {k:Int} (h:asI d=.ok k):d=.int k:=by cases d <;> simp only [asI] at h <;> cases h;rfl
theorem aGz {rest:List Expr} (ha:PE X a (gE fa ra)) (hb:PE X (.BoolOp .And (b::rest) pos) (gE fb rb)):PE X (.BoolOp .And (a::b::rest) pos) (gE (Z2 fa fb) rb):=PE.imp (aGf ha hb) fun σ H Q ⟨ρ,k,E,h,q⟩=>by
  obtain ⟨d,h1,h⟩:=bI h;obtain ⟨z,h2,h3⟩:=bI h;cases aBz h2;refine ⟨ρ,_,E,h1,fun v H' s r _=>?_⟩;cases r;refine ⟨_,rfl,?_⟩;cases z with
  | true=>rw [if_pos rfl];rw [if_pos rfl] at h3;exact ⟨ρ,k,E.same s,h3,q.imp s id⟩
  | false=>rw [if_neg (by simp)];rw [if_neg (by simp)] at h3;cases h3;exact (q.imp s id).bl
theorem aKe {rest:List Expr} (ha:PE X a (gE fa ra)) (hb:PE X (.BoolOp .Or (b::rest) pos) (gE fb rb)):PE X (.BoolOp .Or (a::b::rest) pos) (gE (aJg fa fb) rb):=PE.imp (aJy ha hb) fun σ H Q ⟨ρ,k,E,h,q⟩=>by
  obtain ⟨d,h1,h⟩:=bI h;obtain ⟨z,h2,h3⟩:=bI h;cases aBz h2;refine ⟨ρ,_,E,h1,fun v H' s r _=>?_⟩;cases r;refine ⟨_,rfl,?_⟩;cases z with
  | true=>rw [if_pos rfl];rw [if_pos rfl] at h3;cases h3;exact (q.imp s id).bl
  | false=>rw [if_neg (by simp)];rw [if_neg (by simp)] at h3;exact ⟨ρ,k,E.same s,h3,q.imp s id⟩
theorem aK:PA X [] (gA aV true):=PA.imp dM fun σ H Q ⟨ρ,ds,E,h,q⟩=>by cases h;exact q [] H (bO.refl H) .nil fun _=>.nil
theorem aA {es:List Expr} {f:FA} {r:Bool} (he:PE X e (gE fe re)) (hes:PA X es (gA f r)) (hs:starEach (e::es) X.env=(false,eval e X.env)::starEach es X.env:=by rfl):PA X (e::es) (gA (aC fe f) (re&&r)):=PA.imp (bD he hes hs) fun σ H Q ⟨ρ,ds,E,h,q⟩=>by
  obtain ⟨x,h1,h⟩:=bI h;obtain ⟨xs,h2,h⟩:=bI h;cases h;refine ⟨ρ,x,E,h1,fun v H1 s1 r1 n1=>⟨ρ,xs,E.same s1,h2,fun vs H2 s2 r2 n2=>q _ _ (s1.trans s2) (.cons (r1.same s2) r2) fun hf=>?_⟩⟩;obtain ⟨f1,f2⟩:=(Bool.and_eq_true _ _▸hf:re=true/\r=true)
  exact .cons ((n1 f1).same s2) ((n2 f2).mono (bO.new s1))
theorem cD {es:List Expr} {f:FA} {r:Bool} {x1} (h:PA X es (gA f r)):PE X (.Tuple es x1 pos) (gE (gU f) r):=PE.imp (R6 h) fun σ H Q ⟨ρ,d,E,h,q⟩=>by
  obtain ⟨xs,h1,h⟩:=bI h;split at h
  ·rename_i hl;cases h;refine ⟨ρ,xs,E,h1,fun vs H1 s1 r1 n1=>⟨?_,fun p hp=>?_⟩⟩
   ·rw [r1.length];exact Nat.le_trans (of_decide_eq_true hl) (by rw [sizeLine_eq];decide)
   ·have sp:bO H1 (upd H1 p (.tup vs)):=bO.upd hp;exact q _ _ (s1.trans sp) (.tup aF (r1.same sp)) fun hf=>.tup aF ((n1 hf).same sp)
  ·cases h
theorem bJ {es:List Expr} {f:FA} {r:Bool} (h:PA X es (gA f r)):PE X (.List es pos) (gE (cP f) r):=PE.imp (R7 h) fun σ H Q ⟨ρ,d,E,h,q⟩=>by
  obtain ⟨xs,h1,h⟩:=bI h;split at h
  ·rename_i hl;cases h;refine ⟨ρ,xs,E,h1,fun vs H1 s1 r1 n1=>⟨?_,fun p hp=>?_⟩⟩
   ·rw [r1.length];exact Nat.le_trans (of_decide_eq_true hl) (by rw [sizeLine_eq];decide)
   ·have sp:bO H1 (upd H1 p (.lst vs)):=bO.upd hp;exact q _ _ (s1.trans sp) (.lst aF trivial (r1.same sp)) fun hf=>.lst aF (s1.free hp) ((n1 hf).same sp)
  ·cases h
theorem Z5:PE X (.Dict [] [] pos) (gE (bC (.dct [])) true):=PE.imp J2 fun σ H Q ⟨ρ,d,E,h,q⟩=>by
  cases h;exact fun p hp=>q _ _ (bO.upd hp) (.dK aF trivial .nil List.nodup_nil) fun _=>.dK aF hp .nil List.nodup_nil
end
section
variable {X:Cx} {a b e:Expr} {pos:Pos} {ga gb:FT}
theorem jF {n:Nat} (h:decide (n<=lim)=true):n<=sizeLine:=Nat.le_trans (of_decide_eq_true h) (by rw [sizeLine_eq];decide)
theorem aC0 {n:Nat} (h:decide (n<lim)=true):n<sizeLine:=Nat.lt_of_lt_of_le (of_decide_eq_true h) (by rw [sizeLine_eq];decide)
theorem Rep.aH0 {P:Addr->Prop} {H:Hp} {v:V} {ds:List D} (r:Rep P H v (.lst ds)):∃a xs,v=.ref a/\Rd H a (.lst xs)/\bF P H xs ds:=by
 cases r with
 | lst e p rr=>exact ⟨_,_,rfl,.inl e,rr⟩
theorem PW.imp {X:Cx} {e:PySem.Expr} {t t':TT} (h:PW X e t) (i:∀σ H Q,t' σ H Q->t σ H Q):PW X e t':=fun wh pins s σ H Q I q=>h wh pins s σ H Q I (i σ H Q q)
theorem T_ (ha:PT X a (gT ga)):PW X (.BoolOp .And [a] pos) (gT ga):=aCt ha
theorem J7 (ha:PT X a (gT ga)):PW X (.BoolOp .Or [a] pos) (gT ga):=aGb ha
theorem UG {rest:List Expr} (ha:PT X a (gT ga)) (hb:PW X (.BoolOp .And (b::rest) pos) (gT gb)):PW X (.BoolOp .And (a::b::rest) pos) (gT (PN ga gb)):=PW.imp (aGc ha hb) fun σ H Q ⟨ρ,k,E,h,q⟩=>by
 obtain ⟨z,h1,h3⟩:=bI h;refine ⟨ρ,z,E,h1,fun H' s=>?_⟩;cases z with
 | true=>rw [if_pos rfl];rw [if_pos rfl] at h3;exact ⟨ρ,k,E.same s,h3,fun H2 s2=>q H2 (s.trans s2)⟩
 | false=>rw [if_neg (by simp)];rw [if_neg (by simp)] at h3;cases h3;exact q H' s
theorem UJ {rest:List Expr} (ha:PT X a (gT ga)) (hb:PW X (.BoolOp .Or (b::rest) pos) (gT gb)):PW X (.BoolOp .Or (a::b::rest) pos) (gT (bOr ga gb)):=PW.imp (aJw ha hb) fun σ H Q ⟨ρ,k,E,h,q⟩=>by
 obtain ⟨z,h1,h3⟩:=bI h;refine ⟨ρ,z,E,h1,fun H' s=>?_⟩;cases z with
 | true=>rw [if_pos rfl];rw [if_pos rfl] at h3;cases h3;exact q H' s
 | false=>rw [if_neg (by simp)];rw [if_neg (by simp)] at h3;exact ⟨ρ,k,E.same s,h3,fun H2 s2=>q H2 (s.trans s2)⟩
theorem aY:OpR X (binaryOp .Add) (r2 (aR .add) true):=by
 intro pins s σ H x y v u Q I rx ry h;obtain ⟨a,b,d,p,q,e,k⟩:=h;cases p with
 | int i=>
  cases q with
  | int j=>cases e;exact aGh pins s σ H _ _ v u Q I rx ry ⟨i,j,rfl,rfl,k.int⟩
  | _=>simp [aR] at e
 | str i=>
  cases q with
  | str j=>
   simp only [aR] at e;split at e
   ·rename_i hl;cases e;exact OD pins s σ H _ _ v u Q I rx ry ⟨i,j,rfl,rfl,jF hl,k.str⟩
   ·cases e
  | _=>simp [aR] at e
 | non=>simp [aR] at e
 | bl _=>simp [aR] at e
 | tup _ _=>simp [aR] at e
 | dK _ _ _ _=>simp [aR] at e
 | dT _ _ _ _=>simp [aR] at e
 | fdK _ _ _=>simp [aR] at e
 | fdT _ _ _=>simp [aR] at e
 | exc _ _ _=>simp [aR] at e
 | ins _ _ _=>simp [aR] at e
 | cel _ _ _=>simp [aR] at e
 | @lst a1 xs ds e1 p1 r1=>
  have hR:Rep All H (.ref a1) (.lst ds):=.lst e1 p1 r1;cases b with
  | lst es=>
   simp only [aR] at e;split at e
   ·rename_i hl;cases e;rw [Bool.and_eq_true,Bool.and_eq_true] at hl;obtain ⟨⟨hl,hp1⟩,hp2⟩:=hl;obtain ⟨l1,xs1,e1',rd1,rr1⟩:=hR.aH0;obtain ⟨l2,xs2,rfl,rd2,rr2⟩:=q.aH0;cases e1';cases rx;cases ry;obtain ⟨z,its,n,vr1,ee1⟩:=rd1.ok I.hok;obtain ⟨z2,its2,n2,vr2,ee2⟩:=rd2.ok I.hok;have hz:xs1.length+xs2.length<=sizeLine:=by rw [rr1.length,rr2.length];exact jF hl
    have t1:=vr1.length;have t2:=vr2.length;refine PySem.P.add_list ee1 ee2 ?_ (by rw [List.size_toArray,List.size_toArray];lia);have ea:its.toArray++its2.toArray=(its++its2).toArray:=by simp
    rw [ea];refine ⟨.ref _,_,I.aKa (t':=s.toks) (vr1.append vr2) (by rw [List.length_append];lia),rfl,?_⟩;have sp:bO H (upd H s.heap.objs.size (.lst (xs1++xs2))):=bO.upd I.fresh;exact k _ _ sp (.lst aF trivial ((rr1.append rr2).same sp)) fun _=>.lst aF I.fresh (((rr1.bL hp1).append (rr2.bL hp2)).same sp)
   ·cases e
  | _=>simp [aR] at e
 | frz _ _=>simp [aR] at e
theorem G7 {f:Value->Value->Sem Value} {C:Int->Int->Prop} {g:Int->Int->V} {op:D->D->Res D} (h:OpR X f (rI C g))
  (hi:∀i j d,op (.int i) (.int j)=.ok d->C i j/\∃k,d=.int k/\g i j=.int k) (hn:∀a b d,op a b=.ok d->(∃i,a=.int i)/\∃j,b=.int j):OpR X f (r2 op true):=by
 intro pins s σ H x y v u Q I rx ry ⟨a,b,d,p,q,e,k⟩;obtain ⟨⟨i,rfl⟩,⟨j,rfl⟩⟩:=hn a b d e;cases p;cases q;obtain ⟨hc,m,rfl,hm⟩:=hi i j d e;exact h pins s σ H _ _ v u Q I rx ry ⟨i,j,rfl,rfl,hc,by rw [hm];exact k.int⟩
theorem UL:OpR X (binaryOp .Sub) (r2 (aR .sub) true):=by
 intro pins s σ H x y v u Q I rx ry ⟨a,b,d,p,q,e,k⟩;cases a <;> cases b <;> simp [aR] at e
 cases p;cases q;subst e;exact aGi pins s σ H _ _ v u Q I rx ry ⟨_,_,rfl,rfl,k.int⟩
theorem aH1:OpR X (binaryOp .Mult) (r2 (aR .mul) true):=by
 refine G7 aGj (fun i j d e=>?_) fun a b d e=>?_
 ·simp only [aR] at e;split at e
  ·rename_i hl;cases e;refine ⟨?_,_,rfl,rfl⟩;simp only [j5,Bool.or_eq_true,Bool.and_eq_true,decide_eq_true_eq] at hl;exact hl
  ·cases e
 ·cases a <;> cases b <;> first|exact ⟨⟨_,rfl⟩,_,rfl⟩|simp [aR] at e
theorem dJ:OpR X (binaryOp .FloorDiv) (r2 (aR .fdiv) true):=by
 refine G7 aCx (fun i j d e=>?_) fun a b d e=>?_
 ·simp only [aR] at e;split at e
  ·rename_i hl;cases e;refine ⟨?_,_,rfl,rfl⟩;simp only [Bool.and_eq_true,decide_eq_true_eq] at hl;exact hl
  ·cases e
 ·cases a <;> cases b <;> first|exact ⟨⟨_,rfl⟩,_,rfl⟩|simp [aR] at e
theorem cQ:OpR X (binaryOp .Mod) (r2 (aR .mod) true):=by
 refine G7 aGk (fun i j d e=>?_) fun a b d e=>?_
 ·simp only [aR] at e;split at e
  ·rename_i hl;cases e;refine ⟨?_,_,rfl,rfl⟩;simp only [Bool.and_eq_true,decide_eq_true_eq] at hl;exact hl
  ·cases e
 ·cases a <;> cases b <;> first|exact ⟨⟨_,rfl⟩,_,rfl⟩|simp [aR] at e
theorem aH2:UnR X (unaryOp .USub) (r1 aJh true):=by
 intro pins s σ H x v Q I rx ⟨a,d,p,e,k⟩;cases a <;> simp [aJh] at e
 subst e;cases p;exact R1 pins s σ H _ v Q I rx ⟨_,rfl,k.int⟩
theorem Z6 (hu:X.A.units+20<cLine):OpR X (compareOp .Eq) (r2 (mO .eq) true):=by
 intro pins s σ H x y v u Q I rx ry ⟨a,b,d,p,q,e,k⟩;simp only [mO] at e;split at e
 ·rename_i hl;cases e;rw [Bool.and_eq_true] at hl;exact (T7 I bH X.A (by have:bH=12:=rfl;lia) hl.1 hl.2 p q rx ry).1 X.prog X.w X.xe _ ⟨.bl _,H,I,rfl,k.bl⟩
 ·cases e
theorem aDn (hu:X.A.units+20<cLine):OpR X (compareOp .NotEq) (r2 (mO .ne) true):=by
 intro pins s σ H x y v u Q I rx ry ⟨a,b,d,p,q,e,k⟩;simp only [mO] at e;split at e
 ·rename_i hl;cases e;rw [Bool.and_eq_true] at hl;exact (T7 I bH X.A (by have:bH=12:=rfl;lia) hl.1 hl.2 p q rx ry).2.1 X.prog X.w X.xe _ ⟨.bl _,H,I,rfl,k.bl⟩
 ·cases e
theorem aH3:OpR X (compareOp .Is) (r2 (mO .isN) true):=by
 intro pins s σ H x y v u Q I rx ry ⟨a,b,d,p,q,e,k⟩;cases b <;> simp only [mO] at e <;> (try (cases e;done)) <;> (try (split at e <;> cases e;done))
 cases q;refine aGl pins s σ H x .non v u Q I rx ry ⟨rfl,?_⟩;cases p <;> simp only [mO] at e <;> cases e <;> exact k.bl
end
theorem UT (k q:Key):eqD (kD k) (kD q)=decide (k=q):=by
 cases k <;> cases q <;> simp [kD,eqD,Bool.beq_eq_decide_eq]
theorem aC1:∀(k q:List Key),zX (k.map kD) (q.map kD)=decide (k=q)
 | [],[]=>by simp [zX]
 | [],_::_=>by simp [zX]
 | _::_,[]=>by simp [zX]
 | a::k,b::q=>by
  rw [List.map_cons,List.map_cons,zX,UT,aC1 k q];by_cases h:a=b <;> by_cases h':k=q <;> simp [h,h']
theorem aDo (k q:List Key):eqD (.tup (k.map kD)) (.tup (q.map kD))=decide (k=q):=by rw [eqD,aC1]
theorem aDp {P:Addr->Prop} {H:Hp} {k:Key}:∀{kvs:List (Key×V)} {ds:List (D×D)},d9 P H kvs ds->(∃v d,wG kvs k=some v/\cF ds (kD k)=some d/\Rep P H v d)\/(wG kvs k=none/\cF ds (kD k)=none)
 | _,_,.nil=>.inr ⟨rfl,rfl⟩
 | _,_,.cons (k:=k') r t=>by
  by_cases h:k'=k
  ·subst h;exact .inl ⟨_,_,mX rfl,by rw [cF,UT,if_pos (by simp)],r⟩
  ·rw [cF,UT,if_neg (by simpa using h),mY (p:=(k',_)) h];exact aDp t
theorem aDq {P:Addr->Prop} {H:Hp} {k:List Key}:∀{kvs:List (List Key×V)} {ds:List (D×D)},jR P H kvs ds->(∃v d,wG kvs k=some v/\cF ds (.tup (k.map kD))=some d/\Rep P H v d)\/(wG kvs k=none/\cF ds (.tup (k.map kD))=none)
 | _,_,.nil=>.inr ⟨rfl,rfl⟩
 | _,_,.cons (k:=k') r t=>by
  by_cases h:k'=k
  ·subst h;exact .inl ⟨_,_,mX rfl,by rw [cF,aDo,if_pos (by simp)],r⟩
  ·rw [cF,aDo,if_neg (by simpa using h),mY (p:=(k',_)) h];exact aDq t
theorem xT {H:Hp} {v:V} {d:D} (h:eY d=true) (r:Rep All H v d):∃k,v=kV k/\d=kD k:=by
 cases r <;> simp [eY] at h
 ·exact ⟨.inl _,rfl,rfl⟩
 ·exact ⟨.inr _,rfl,rfl⟩
theorem flat_keys {H:Hp}:∀{vs:List V} {ds:List D},ds.all eY=true->bF All H vs ds->∃ks:List Key,vs=ks.map kV/\ds=ks.map kD
 | _,_,_,.nil=>⟨[],rfl,rfl⟩
 | _,_,h,.cons r t=>by
  rw [List.all_cons,Bool.and_eq_true] at h;obtain ⟨k,rfl,rfl⟩:=xT h.1 r;obtain ⟨ks,rfl,rfl⟩:=flat_keys h.2 t;exact ⟨k::ks,rfl,rfl⟩
theorem gF {H:Hp} {y:V} {k:D} (h:keyOk k=true) (r:Rep All H y k):(∃q,y=kV q/\k=kD q)\/∃(b:Addr) (ks:List Key),y=.ref b/\H b=some (.tup (ks.map kV))/\k=.tup (ks.map kD):=by
 cases k <;> simp [keyOk] at h
 ·exact .inl (xT rfl r)
 ·exact .inl (xT rfl r)
 ·obtain ⟨a,xs,rfl,e,rr⟩:=r.eO;obtain ⟨ks,rfl,rfl⟩:=flat_keys (List.all_eq_true.mpr h) rr;exact .inr ⟨a,ks,rfl,e,rfl⟩
theorem lH (k:Key):isTup (kD k)=false:=by cases k <;> rfl
section
variable {X:Cx} {pins:List (Addr×Obj)} {σ:L2.St} {H:Hp} {s:Shared} {a:Addr}
theorem xU {o o':HO} (e:H a=some o):upd (upd H a o') a o=H:=by
 rw [F_]
 funext b
 by_cases h:b=a
 ·subst h;rw [aF,e]
 ·rw [aN h]
theorem lJ (I:Inv X pins σ H s) (e:H a=some (.dK [])):Inv X pins σ (upd H a (.dT [])) s:=by
 obtain ⟨z,hd,vs,rel,o,es,ep,h1,h2,h3,h4,h5,h6⟩:=PL I.hok e;cases rel;refine I.write (t':=s.toks) (x:=a) (e:=a) (h':=s.heap) (by rw [e];trivial) (.inl rfl) (fun _ _ _ q=>q) ⟨o,h1⟩ ?_;refine ⟨Nat.zero_le _,hd,[],.nil,o,es,ep,h1,h2,h3,?_,List.nodup_nil⟩;cases h5':es.toList with
 | nil=>rfl
 | cons _ _=>rw [h5'] at h5;cases h5
theorem iV (I:Inv X pins σ H s) (e:H a=some (.dT [])):Inv X pins σ (upd H a (.dK [])) s:=by
 obtain ⟨z,hd,vs,rel,o,es,ep,h1,h2,h3,h4,h5,h6⟩:=aDe I.hok e;cases rel;refine I.write (t':=s.toks) (x:=a) (e:=a) (h':=s.heap) (by rw [e];trivial) (.inl rfl) (fun _ _ _ q=>q) ⟨o,h1⟩ ?_;have h0:es.toList=[]:=h4;refine ⟨Nat.zero_le _,hd,[],.nil,o,es,ep,h1,h2,h3,?_,?_,List.nodup_nil⟩
 ·intro x hx;have:x∈es.toList:=by simpa using hx
  rw [h0] at this;cases this
 ·rw [h0];exact .nil
theorem J8 {P:Addr->Prop}:∀{kvs:List (Key×V)} {ds:List (D×D)},d9 P H kvs ds->∀p∈ds,isTup p.1=false
 | _,_,.nil,_,h=>by cases h
 | _,_,.cons r t,p,h=>by
  rcases List.mem_cons.mp h with rfl|h
  ·exact lH _
  ·exact J8 t p h
theorem J9 {P:Addr->Prop}:∀{kvs:List (List Key×V)} {ds:List (D×D)},jR P H kvs ds->∀p∈ds,isTup p.1=true
 | _,_,.nil,_,h=>by cases h
 | _,_,.cons r t,p,h=>by
  rcases List.mem_cons.mp h with rfl|h
  ·rfl
  ·exact J9 t p h
theorem aH4 {x y:V} {ds:List (D×D)} {k:D} (I:Inv X pins σ H s) (rd:Rep All H x (.dct ds)) (rk:Rep All H y k) (hk:sZ ds k=true) :
  ∃H1 a o,x=.ref a/\Inv X pins σ H1 s/\(∀s',Inv X pins σ H1 s'->Inv X pins σ H s')/\YW H1 a y o/\((o=none/\cF ds k=none)\/∃v d,o=some v/\cF ds k=some d/\Rep All H v d):=by
 unfold sZ at hk;rw [Bool.and_eq_true] at hk;obtain ⟨h1,h2⟩:=hk;cases rd with
 | @dK a kvs ds e _ r n=>
  rcases gF h1 rk with ⟨q,rfl,rfl⟩|⟨b,ks,rfl,eb,rfl⟩
  ·refine ⟨H,a,_,rfl,I,fun _ h=>h,.k e,?_⟩;rcases aDp (k:=q) r with ⟨v,d,g1,g2,g3⟩|⟨g1,g2⟩
   ·exact .inr ⟨v,d,g1,g2,g3⟩
   ·exact .inl ⟨g1,g2⟩
  ·cases r with
   | nil=>
    have e2:=xU (o':=.dT []) e;refine ⟨upd H a (.dT []),a,none,rfl,lJ I e,fun s' I'=>?_,.t (k:=ks) aF (by rw [aN (mR eb e (by intro z;cases z))];exact eb),.inl ⟨rfl,rfl⟩⟩;have:=iV I' aF;rwa [e2] at this
   | cons r t=>
    rw [List.all_cons,lH] at h2;simp [isTup] at h2
 | @dT a kvs ds e _ r n=>
  rcases gF h1 rk with ⟨q,rfl,rfl⟩|⟨b,ks,rfl,eb,rfl⟩
  ·cases r with
   | nil=>
    have e2:=xU (o':=.dK []) e;refine ⟨upd H a (.dK []),a,none,rfl,iV I e,fun s' I'=>?_,.k (k:=q) aF,.inl ⟨rfl,rfl⟩⟩;have:=lJ I' aF;rwa [e2] at this
   | cons r t=>
    rw [List.all_cons,lH] at h2;simp [isTup] at h2
  ·refine ⟨H,a,_,rfl,I,fun _ h=>h,.t e eb,?_⟩;rcases aDq (k:=ks) r with ⟨v,d,g1,g2,g3⟩|⟨g1,g2⟩
   ·exact .inr ⟨v,d,g1,g2,g3⟩
   ·exact .inl ⟨g1,g2⟩
theorem Z7 {x:V} {ds:List (D×D)} {k d:D} (rd:Rep All H x (.dct ds)) (hk:keyOk k=true) (h:cF ds k=some d):sZ ds k=true:=by
 have one:∀{ds:List (D×D)},cF ds k=some d->∃p∈ds,eqD p.1 k=true:=by
  intro ds;induction ds with
  | nil=>intro h;cases h
  | cons p ds ih=>
   intro h;obtain ⟨p1,p2⟩:=p;rw [cF] at h;by_cases hq:eqD p1 k=true
   ·exact ⟨_,List.mem_cons_self ..,hq⟩
   ·rw [if_neg hq] at h;obtain ⟨p,hp,e⟩:=ih h;exact ⟨p,List.mem_cons_of_mem _ hp,e⟩
 obtain ⟨p,hp,he⟩:=one h;unfold sZ;rw [hk,Bool.true_and,List.all_eq_true];intro q hq;have same:isTup p.1=isTup k:=by
  obtain ⟨p1,p2⟩:=p;cases p1 <;> cases k <;> simp [eqD,keyOk,isTup] at he hk ⊢
 cases rd with
 | dK e _ r n=>rw [J8 r q hq,<-same,J8 r p hp];rfl
 | dT e _ r n=>rw [J9 r q hq,<-same,J9 r p hp];rfl
end
section
variable {X:Cx} {a b e:Expr} {pos:Pos} {fa fb:FE} {ra rb:Bool}
def Y4 (H:Hp) (u:Value):D:=by
 classical
 exact if h:∃d,d.cL bH=true/\∃v,RelV v u/\Rep All H v d then Classical.choose h else .non
theorem UV {H:Hp} {u:Value} {v:V} {d:D} (hq:d.cL bH=true) (rv:RelV v u) (r:Rep All H v d):Y4 H u=d:=by
 unfold Y4;have h:∃d,d.cL bH=true/\∃v,RelV v u/\Rep All H v d:=⟨d,hq,v,rv,r⟩
 rw [dif_pos h];obtain ⟨h2,v',rv',r'⟩:=Classical.choose_spec h;have:=rv'.inj rv;subst this;exact Rep.inj bH h2 hq r' r
theorem G8 {H:Hp} {a:D}:∀{xs:List V} {ds:List D} {its:List Value},D.eX bH ds=true->bF All H xs ds->Vals xs its->(its.any fun u=>eqD (Y4 H u) a)=ds.any fun y=>eqD y a
 | _,_,_,_,.nil,.nil=>rfl
 | _,_,_,h,.cons r t,.cons v vt=>by
  rw [D.eX,Bool.and_eq_true] at h;rw [List.any_cons,List.any_cons,UV h.1 v r,G8 h.2 t vt]
theorem UW {pins:List (Addr×Obj)} {σ:L2.St} {H:Hp} {s:Shared} (I:Inv X pins σ H s) (hu:X.A.units+20<cLine) {a:D} {x:V} {v:Value} (ha:a.cL bH=true) (rx:Rep All H x a) (rv:RelV x v)
  {xs:List V} {ds:List D} {its:List Value} (h:D.eX bH ds=true) (r:bF All H xs ds) (vr:Vals xs its) (u:Value) (hm:u∈its):EqAt X.A.in1 s u v (eqD (Y4 H u) a):=by
 obtain ⟨j,hj,e⟩:=List.getElem_of_mem hm;have hj':j<ds.length:=by rw [<-r.length,vr.length];exact hj
 obtain ⟨w,h1,h2⟩:=r.get (i:=j) (d:=ds[j]) (by simp [hj']);obtain ⟨u',h3,h4⟩:=vr.get h1;rw [List.getElem?_eq_getElem hj,e] at h3;cases h3;have hd:ds[j].cL bH=true:=by
  have:=m7 (j:=j) h hj';rwa [List.getD_eq_getElem?_getD,List.getElem?_eq_getElem hj'] at this
 rw [UV hd h4 h2];exact (T7 I bH X.A.in1 (by show X.A.units+1+12<cLine;lia) hd ha h2 rx h4 rv).2.2
theorem aKf (hu:X.A.units+20<cLine):OpR X (compareOp .In) (r2 (mO .isin) true):=by
 intro pins s σ H x y v u Q I rx ry ⟨a,b,d,p,q,e,k⟩;cases b with
 | tup ys=>
  simp only [mO] at e;split at e
  ·rename_i hl;cases e;rw [Bool.and_eq_true] at hl;obtain ⟨l,xs,rfl,ee,rr⟩:=q.eO;cases ry;obtain ⟨its,vr,pl⟩:=jO I ee;refine in_tupleAt (fun u=>eqD (Y4 H u) a) pl (fun w hw=>UW I hu hl.1 p rx hl.2 rr vr w (by simpa using hw)) ⟨.bl _,H,I,rfl,?_⟩;rw [show its.toArray.any (fun u=>eqD (Y4 H u) a)=its.any (fun u=>eqD (Y4 H u) a) by simp,G8 hl.2 rr vr];exact k.bl
  ·cases e
 | lst ys=>
  simp only [mO] at e;split at e
  ·rename_i hl;cases e;rw [Bool.and_eq_true] at hl;obtain ⟨l,xs,rfl,ee,rr⟩:=q.fX (K:=X.K);cases ry;obtain ⟨its,vr,pl⟩:=lR I ee;refine in_listAt (fun u=>eqD (Y4 H u) a) pl (fun w hw=>UW I hu hl.1 p rx hl.2 rr vr w (by simpa using hw)) ⟨.bl _,H,I,rfl,?_⟩;rw [show its.toArray.any (fun u=>eqD (Y4 H u) a)=its.any (fun u=>eqD (Y4 H u) a) by simp,G8 hl.2 rr vr];exact k.bl
  ·cases e
 | dct kvs=>
  simp only [mO] at e;split at e
  ·rename_i hl;cases e;obtain ⟨H1,a1,o,rfl,I1,bk,g,hc⟩:=aH4 I q p hl;cases ry;refine aN4 (by lia) I1 g rx fun s' I'=>⟨.bl _,H,bk s' I',rfl,?_⟩
   rcases hc with ⟨rfl,h2⟩|⟨w,dd,rfl,h2,_⟩
   ·rw [h2] at k;exact k.bl
   ·rw [h2] at k;exact k.bl
  ·cases e
 | _=>simp [mO] at e
theorem aH5 {α:Type} (xs:List α) (i:Int):L2.atI xs i=(ixD xs.length i).bind fun j=>xs[j]?:=rfl
theorem bF.atI {P:Addr->Prop} {H:Hp} {xs:List V} {ds:List D} {i:Int} {d:D} (r:bF P H xs ds) (h:((ixD ds.length i).bind fun j=>ds[j]?)=some d):∃v,L2.atI xs i=some v/\Rep P H v d:=by
 rw [aH5,r.length];cases hi:ixD ds.length i with
 | none=>rw [hi] at h;cases h
 | some j=>
  rw [hi] at h;obtain ⟨v,h1,h2⟩:=r.get h;exact ⟨v,h1,h2⟩
theorem z6 {X:Cx} {value slice:Expr} {pins:List (Addr×Obj)} {s:Shared} {σ:L2.St} {H:Hp} {a:Addr} {y v':V} {u:Value} {Q:VK} (hu:X.A.units+20<cLine) (I:Inv X pins σ H s) (g:YW H a y (some v')) (ry:RelV y u) {H':Hp}
  (hs:subscripted slice false (.ref a) u=operate [.ref a,u] (getItem (.ref a) u)) (bk:∀s',Inv X pins σ H s'->Inv X pins σ H' s') (q:Q v' H') :
  wpAny (model X.prog X.w) X.A (subscriptTail value slice (.ref a) u) (EP X pins σ Q) X.xe s:=by
 have hT:=GP I g;unfold subscriptTail;refine wpAny_bind ?_;rw [getitemInPython_of_ne hT.not_modules];refine wpAny_bind (wpAny_specialOf hT PySem.F.slot_dict_getitem.lookup ?_);have fin:wpAny (model X.prog X.w) X.A (subscripted slice false (.ref a) u) (fun r s₃=>wpAny (model X.prog X.w) X.A (letTemporaryGo value (.ref a) r >>= fun _=>pure r) (EP X pins σ Q) X.xe s₃) X.xe s:=by
  rw [hs];exact wpAny_operating (S5 (by lia) I g ry fun w' s3 I3 rw'=>wpAny_bind (wpAny_letTemporaryGo (wpAny_pure ⟨v',H',bk s3 I3,rw',q⟩)))
 first
  | exact wpAny_pure (wpAny_bind fin)
  | exact wpAny_bind (wpAny_pure (wpAny_bind fin))
  | exact wpAny_bind fin
theorem J_ {k d:D}:∀{ds:List (D×D)},keyOk k=true->cF ds k=some d->∃p∈ds,isTup p.1=isTup k
 | [],_,h=>by cases h
 | (p1,p2)::ds,hk,h=>by
  rw [cF] at h;by_cases hq:eqD p1 k=true
  ·refine ⟨_,List.mem_cons_self ..,?_⟩;cases p1 <;> cases k <;> simp [eqD,keyOk,isTup] at hq hk ⊢
  ·rw [if_neg hq] at h;obtain ⟨p,hp,e⟩:=J_ hk h;exact ⟨p,List.mem_cons_of_mem _ hp,e⟩
theorem aKg {H:Hp} {x y:V} {ds:List (D×D)} {k d:D} (rd:Rep All H x (.fdc ds)) (rk:Rep All H y k) (hk:keyOk k=true) (h:cF ds k=some d):∃a v,x=.ref a/\YW H a y (some v)/\Rep All H v d:=by
 obtain ⟨p,hp,et⟩:=J_ hk h;cases rd with
 | @fdK a o kvs ds e r n=>
  rcases gF hk rk with ⟨q,rfl,rfl⟩|⟨b,ks,rfl,eb,rfl⟩
  ·rcases aDp (k:=q) r with ⟨v,d',g1,g2,g3⟩|⟨g1,g2⟩
   ·rw [g2] at h;cases h;exact ⟨a,v,rfl,.inl ⟨kvs,q,.inr ⟨o,e⟩,rfl,g1.symm⟩,g3⟩
   ·rw [g2] at h;cases h
  ·rw [J8 r p hp] at et;cases et
 | @fdT a o kvs ds e r n=>
  rcases gF hk rk with ⟨q,rfl,rfl⟩|⟨b,ks,rfl,eb,rfl⟩
  ·rw [J9 r p hp,lH] at et;cases et
  ·rcases aDq (k:=ks) r with ⟨v,d',g1,g2,g3⟩|⟨g1,g2⟩
   ·rw [g2] at h;cases h;exact ⟨a,v,rfl,.inr ⟨kvs,ks,b,.inr ⟨o,e⟩,rfl,eb,g1.symm⟩,g3⟩
   ·rw [g2] at h;cases h
theorem aKh (hK:KFrag.K=X.K) (hu:X.A.units+20<cLine):IxR X (r2 getD false):=by
 intro value slice pins s σ H x y v u Q I rx ry ⟨a,b,d,p,q,e,k⟩ hs;cases a with
 | tup ys=>
  cases b <;> simp only [getD] at e <;> (try (cases e;done))
  have e':=Res.jE e;obtain ⟨l,xs,rfl,ee,rr⟩:=p.eO;cases q;obtain ⟨w,h1,h2⟩:=rr.atI e';exact aGp value slice pins s σ H _ _ v u Q I rx ry ⟨l,xs,_,w,rfl,rfl,.of ee,h1,k.self h2 fun z=>by cases z⟩ hs
 | lst ys=>
  cases b <;> simp only [getD] at e <;> (try (cases e;done))
  have e':=Res.jE e;obtain ⟨l,xs,rfl,ee,rr⟩:=p.fX (K:=X.K);cases q;obtain ⟨w,h1,h2⟩:=rr.atI e';exact nO value slice pins s σ H _ _ v u Q I rx ry ⟨l,xs,_,w,rfl,rfl,ee,h1,k.self h2 fun z=>by cases z⟩ hs
 | cel ca ys=>
  cases b <;> simp only [getD] at e <;> (try (cases e;done))
  have e':=Res.jE e;cases p with
  | cel ee pp rr=>
   cases q;obtain ⟨w,h1,h2⟩:=rr.atI e';exact nO value slice pins s σ H _ _ v u Q I rx ry ⟨_,_,_,w,rfl,rfl,.inl (.inl ee),h1,k.self h2 fun z=>by cases z⟩ hs
 | scr ys=>
  cases b <;> simp only [getD] at e <;> (try (cases e;done))
  have e':=Res.jE e;cases p with
  | frz ee rr=>
   cases q;obtain ⟨w,h1,h2⟩:=rr.atI e';exact nO value slice pins s σ H _ _ v u Q I rx ry ⟨_,_,_,w,rfl,rfl,ee.sq hK,h1,k.self h2 fun z=>by cases z⟩ hs
 | str z=>
  cases b <;> simp only [getD] at e <;> (try (cases e;done))
  split at e
  ·rename_i hl;have e':=Res.jE e;obtain ⟨cc,h1,h2⟩:=Option.map_eq_some_iff.mp e';subst h2;cases p;cases q;exact aGq value slice pins s σ H _ _ v u Q I rx ry ⟨z,_,cc,rfl,rfl,jF hl,h1,k.str⟩ hs
  ·cases e
 | dct kvs=>
  have e':keyOk b=true/\cF kvs b=some d:=by
   cases b <;> simp only [getD] at e <;> (split at e <;> first|(rename_i hl;exact ⟨hl,Res.jE e⟩)|cases e)
  obtain ⟨H1,a1,o,rfl,I1,bk,g,hc⟩:=aH4 I p q (Z7 p e'.1 e'.2);cases rx;rcases hc with ⟨rfl,h2⟩|⟨w,dd,rfl,h2,h3⟩
  ·rw [h2] at e';cases e'.2
  ·rw [h2] at e';cases e'.2;exact z6 hu I1 g ry hs bk (k.self h3 fun z=>by cases z)
 | fdc kvs=>
  have e':keyOk b=true/\cF kvs b=some d:=by
   cases b <;> simp only [getD] at e <;> (split at e <;> first|(rename_i hl;exact ⟨hl,Res.jE e⟩)|cases e)
  obtain ⟨a1,w,rfl,g,h3⟩:=aKg p q e'.1 e'.2;cases rx;exact z6 hu I g ry hs (fun _ h=>h) (k.self h3 fun z=>by cases z)
 | _=>cases b <;> simp [getD] at e
theorem cH {X:Cx} {a b:Expr} {pos:Pos} {fa fb:FE} {ra rb:Bool} (ha:PE X a (gE fa ra)) (hb:PE X b (gE fb rb)) (hK:KFrag.K=X.K:=by assumption) (hu:X.A.units+20<cLine:=by assumption) (hs:GK b:=by exact fun _ _=>rfl):PE X (.Subscript a b pos) (gE (b2 getD fa fb) false):=aKd (aKh hK hu) ha hb hs
noncomputable def gO (f:List D->Res (Option Int)):TO:=fun σ H Q=>∃ρ i,ER H σ ρ/\f ρ=.ok i/\∀H',bO H H'->Q i H'
theorem PO.imp {X:Cx} {e:Option PySem.Expr} {t t':TO} (h:PO X e t) (i:∀σ H Q,t' σ H Q->t σ H Q):PO X e t':=fun pins s σ H Q I q=>h pins s σ H Q I (i σ H Q q)
theorem gG:PO X none (gO iJ):=PO.imp aD9 fun σ H Q ⟨ρ,i,E,h,q⟩=>by cases h;exact q H (bO.refl H)
theorem cT (ha:PE X a (gE fa ra)):PO X (some a) (gO (dI fa)):=PO.imp (aDa ha) fun σ H Q ⟨ρ,i,E,h,q⟩=>by
 obtain ⟨x,h1,h⟩:=bI h;obtain ⟨j,h2,h⟩:=bI h;cases h;have e:=aGy h2;subst e;exact ⟨ρ,_,E,h1,fun v H' s r _=>by cases r;exact ⟨j,rfl,q H' s⟩⟩
theorem aC2 (n d:Nat) (o:Option Int):HT.sIx n d o=aBx n d o:=by
 cases o with
 | none=>rfl
 | some v=>
  show (if v<0 then (v+(n:Int)).toNat else min v.toNat n)=(if v<0 then (max (v+(n:Int)) 0).toNat else (min v (n:Int)).toNat);split <;> lia
theorem bF.cut {P:Addr->Prop} {H:Hp} {xs:List V} {ds:List D} (r:bF P H xs ds) (lo hi:Option Int):bF P H (SJ xs lo hi) (cutD ds lo hi):=by
 unfold SJ cutD;rw [r.length];simp only [aC2];exact (r.drop _).take _
theorem b7 {ds:List D}:D.aG ds=true↔∀d∈ds,d.pure=true:=by
 induction ds with
 | nil=>simp [D.aG]
 | cons d ds ih=>rw [D.aG,Bool.and_eq_true,ih];simp
def rSl:V->Option Int->Option Int->Hp->VK->Prop:=fun x lo hi H Q=>∃a d,Rep All H x a/\aJi a lo hi=.ok d/\kR H d true Q
theorem aKi (hK:KFrag.K=X.K):SlR X rSl:=by
 intro pins s σ H x v vl vu lo hi sl Q I rx hs pl pu ⟨a,d,p,e,k⟩;cases a <;> simp only [aJi] at e <;> (try (cases e;done))
 ·split at e
  ·cases e
  ·rename_i hw;cases e;obtain ⟨l,xs,rfl,ee,rr⟩:=p.eO;refine aGo pins s σ H _ v vl vu lo hi sl Q I rx hs pl pu ⟨l,xs,rfl,.of ee,?_,fun p hp=>?_⟩
   ·simp only [aC2,rr.length];simp only [Bool.not_eq_true',Bool.or_eq_true,not_or,Bool.not_eq_false',decide_eq_true_eq] at hw;exact hw.2
   ·have sp:bO H (upd H p (.tup (SJ xs lo hi))):=bO.upd hp;have hp2:D.aG ‹List D›=true:=by
     simp only [Bool.or_eq_true,not_or,Bool.not_eq_true'] at hw;simpa using hw.1
    exact k _ _ sp (.tup aF ((rr.cut lo hi).same sp)) fun z=>.tup aF (((rr.bL hp2).cut lo hi).same sp)
 ·split at e
  ·rename_i hl;cases e;obtain ⟨l,xs,rfl,ee,rr⟩:=p.fX (K:=X.K);refine SN pins s σ H _ v vl vu lo hi sl Q I rx hs pl pu ⟨l,xs,rfl,ee,fun p hp=>?_⟩;have sp:bO H (upd H p (.lst (SJ xs lo hi))):=bO.upd hp;exact k _ _ sp (.lst aF trivial ((rr.cut lo hi).same sp)) fun z=>.lst aF hp (((rr.bL hl).cut lo hi).same sp)
  ·cases e
 ·split at e
  ·rename_i hl;cases e;cases p with
   | @frz l xs ds ee rr=>
    refine SN pins s σ H _ v vl vu lo hi sl Q I rx hs pl pu ⟨l,xs,rfl,ee.sq hK,fun p hp=>?_⟩;have sp:bO H (upd H p (.lst (SJ xs lo hi))):=bO.upd hp;exact k _ _ sp (.lst aF trivial ((rr.cut lo hi).same sp)) fun z=>.lst aF hp (((rr.bL hl).cut lo hi).same sp)
  ·cases e
end
end Mi
namespace PySem.Mm
open PySem PyProof.Rows PySem.W
theorem z7 {prog:Program} {w:World} {A:Around} {E:Value->Shared->Prop} {s:Shared} {Q:Value->Shared->Prop} {K:Type} [DecidableEq K] {knd:KeyKind prog w K} {d:Addr} {kvs:List (K×Value)} {ep n:Nat} (hh:A.handled=none) (lo:(d==sysModules)=false)
  (hm:s.heap.DictAt knd d kvs ep) (hn:kvs.length=n) (hl:n<=2 ^ 24)
  (q:∀h' tk acc c,(∀b o,s.heap.get? b=some o->h'.get? b=some o)->h'.get? s.heap.objs.size=some {cls:=.type "list",dict:=none,data:=.seq acc c,slots:=#[]}->
   ItemsOf (fun i v=>∃k x,kvs[i]?=some (k,x)/\knd.is k v=true) acc n->Q (.ref s.heap.objs.size) {s with heap:=h',toks:=tk}):wpAny (model prog w) A (call (.type "list") [.ref d]) Q E s:=by
 subst hn;exact kdl_call (kdl_dict lo) hh hm (kdl_size hl) q
end PySem.Mm
namespace Mi
open PySem L2 PySem.SeqAt PySem.Spec PyProof.Rows
variable [KFrag]
section
variable {X:Cx} {a b e:Expr} {es:List Expr} {pos p:Pos} {fa:FE} {ra:Bool} {fs:FA} {rr:Bool} {x:Str} {id T:String}
theorem gH {P:Addr->Prop} {H:Hp} {xs:List V} {us:List Value} {d:D} (r:bF P H xs [d]) (vr:Vals xs us):∃v u,xs=[v]/\us=[u]/\Rep P H v d/\RelV v u:=by
 cases r with
 | cons r t=>
  cases t;cases vr with
  | cons v vt=>
   cases vt;exact ⟨_,_,rfl,rfl,r,v⟩
theorem KC {f:List D->Res D} {fr:Bool} {σ:L2.St} {H:Hp} {Q:VK} (h:gE (aX f fs) fr σ H Q):tCB (rs f fr) (gA fs rr) σ H Q:=by
 obtain ⟨ρ,d,E,h,q⟩:=h;obtain ⟨ds,h1,h2⟩:=bI h;exact ⟨ρ,ds,E,h1,fun vs H1 s1 r1 _=>⟨ds,d,r1,h2,q.imp s1 id⟩⟩
theorem cU {f:List D->Res D} {fr:Bool} (hc:lM X (.builtin id) (rs f fr)) (hg:Gl X x) (hm:X.mg x=none) (hv:bootBuiltins x=some (.builtin id)) (ha:PA X (e::es) (gA fs rr)) (hn:x ≠ "__name__":=by decide) (hdb:nDb x:=by decide)
  (he:starEach (e::es) X.env=(false,eval e X.env)::starEach es X.env:=by rfl) (hpl:(backTo pos (starEach es X.env)).any (·.1)=false:=by rfl):PE X (.Call (.Name x p) (e::es) [] pos) (gE (aX f fs) fr):=
 PE.imp (oZ hc hg hm hv ha hn hdb he hpl) fun _ _ _=>KC
theorem c7 {f:List D->Res D} {fr:Bool} (hc:lM X (.type T) (rs f fr)) (hg:Gl X x) (hm:X.mg x=none) (hv:bootBuiltins x=some (.type T)) (ha:PA X (e::es) (gA fs rr)) (hn:x ≠ "__name__":=by decide) (hdb:nDb x:=by decide)
  (he:starEach (e::es) X.env=(false,eval e X.env)::starEach es X.env:=by rfl) (hpl:(backTo pos (starEach es X.env)).any (·.1)=false:=by rfl):PE X (.Call (.Name x p) (e::es) [] pos) (gE (aX f fs) fr):=
 PE.imp (R9 hc hg hm hv ha hn hdb he hpl) fun _ _ _=>KC
theorem m8 (hK:KFrag.K=X.K):lM X (.builtin "len") (rs m5 true):=by
 intro pins s σ H xs us Q I vr ⟨ds,d,r,e,k⟩;unfold m5 at e;split at e
 ·cases e;obtain ⟨vv,uu,rfl,rfl,r,v⟩:=gH r vr;obtain ⟨l,ys,rfl,hl,rr⟩:=r.eO;cases v;exact gZ pins s σ H [.ref l] [.ref l] Q I (.cons rfl .nil) ⟨l,ys,rfl,.inr (.of hl),by rw [rr.length];exact k.int⟩
 ·cases e;obtain ⟨vv,uu,rfl,rfl,r,v⟩:=gH r vr;obtain ⟨l,ys,rfl,hl,rr⟩:=r.fX (K:=X.K);cases v;exact gZ pins s σ H [.ref l] [.ref l] Q I (.cons rfl .nil) ⟨l,ys,rfl,.inl hl,by rw [rr.length];exact k.int⟩
 ·cases e;obtain ⟨vv,uu,rfl,rfl,r,v⟩:=gH r vr;cases r with
  | @frz l xs ds ee rr=>
   cases v;exact gZ pins s σ H [.ref l] [.ref l] Q I (.cons rfl .nil) ⟨l,xs,rfl,.inl (ee.sq hK),by rw [rr.length];exact k.int⟩
 ·cases e;obtain ⟨vv,uu,rfl,rfl,r,v⟩:=gH r vr;cases r with
  | cel ee pp rr=>
   cases v;exact gZ pins s σ H [.ref _] [.ref _] Q I (.cons rfl .nil) ⟨_,_,rfl,.inl (.inl (.inl ee)),by rw [rr.length];exact k.int⟩
 ·split at e
  ·rename_i hl;cases e;obtain ⟨vv,uu,rfl,rfl,r,v⟩:=gH r vr;cases r;exact zT pins s σ H _ _ Q I (.cons v .nil) ⟨_,rfl,jF hl,k.int⟩
  ·cases e
 ·cases e
theorem d9.keys {P P':Addr->Prop} {H:Hp}:∀{kvs:List (Key×V)} {ds:List (D×D)},d9 P H kvs ds->bF P' H (kvs.map fun p=>kV p.1) (aGx ds)
 | _,_,.nil=>.nil
 | _,_,.cons (k:=k) _ t=>.cons (by cases k <;> first|exact .int _|exact .str _) t.keys
theorem list_dict {pins:List (Addr×Obj)} {s:Shared} {σ:L2.St} {H:Hp} {l:Addr} {kvs:List (Key×V)} (hc:X.calm=true) (I:Inv X pins σ H s) (e:H l=some (.dK kvs)) {Q:Value->Shared->Prop}
  (q:∀p s',H p=none->Inv X pins σ (upd H p (.lst (kvs.map fun p=>kV p.1))) s'->(∀l0 o0,H l0=some o0->l0≠p)->Q (.ref p) s'):wpAny (model X.prog X.w) X.A (call (.type "list") [.ref l]) Q X.xe s:=by
 obtain ⟨z,hd,vs,rel,dd⟩:=PL I.hok e;obtain ⟨ep,da⟩:=dd.dictAt;have hlen:kvs.length=vs.length:=Paired.length rel;refine Mm.z7 (I.ok.hd hc) hd da rfl (by rw [<-hlen];rw [sizeLine_eq] at z;lia) fun h' tk acc' c' kp e1 it=>?_
 obtain ⟨i1,i2⟩:=it;have hfr:H s.heap.objs.size=none:=I.hok.fresh (Nat.le_refl _);refine q _ _ hfr (I.laid (t':=tk) kp (Nat.le_refl _) ?_) fun l0 o0 h0=>a_ h0 hfr
 refine ⟨by rw [List.length_map];exact z,acc'.toList,c',?_,by simpa using e1⟩;have gen:∀(kvs:List (Key×V)) (vs:List (Key×Value)) (xs:List Value),KV kvs vs->xs.length=vs.length->(∀(j:Nat) (v:Value),xs[j]?=some v->∃k x,vs[j]?=some (k,x)/\(bU X.prog X.w).is k v=true)->Vals (kvs.map fun p=>kV p.1) xs:=by
  intro kvs vs xs rel;induction rel generalizing xs with
  | nil=>intro hl _;cases xs with|nil=>exact .nil|cons _ _=>simp at hl
  | @cons p q ps qs hpq t ih=>
   intro hl g;cases xs with
   | nil=>simp at hl
   | cons x xs=>
    refine .cons ?_ (ih xs (by simpa using hl) fun j v hv=>g (j+1) v (by simpa using hv));obtain ⟨k,x',h1,h2⟩:=g 0 x rfl;have h1':q=(k,x'):=by simpa using h1
    show RelV (kV p.1) x;rw [hpq.1,h1'];rcases cG h2 with ⟨i,t,rfl,rfl⟩|⟨i,t,rfl,rfl⟩
    ·exact ⟨t,rfl⟩
    ·exact ⟨t,rfl⟩
 exact gen kvs vs acc'.toList rel (by simpa using i1) fun j v hv=>i2 j v (by simpa using hv)
theorem U0 (hc:X.calm=true):lM X (.type "list") (rs PP true):=by
 intro pins s σ H xs us Q I vr ⟨ds,d,r,e,k⟩;unfold PP at e;split at e
 ·split at e
  ·rename_i hl;cases e;obtain ⟨vv,uu,rfl,rfl,r,v⟩:=gH r vr;obtain ⟨l,ys,rfl,hl',rr⟩:=r.eO;cases v;refine oE pins s σ H [.ref l] [.ref l] Q I (.cons rfl .nil) ⟨l,ys,rfl,.inr (.of hl'),fun p hp=>?_⟩;have sp:bO H (upd H p (.lst ys)):=bO.upd hp;exact k _ _ sp (.lst aF trivial (rr.same sp)) fun _=>.lst aF hp ((rr.bL hl).same sp)
  ·cases e
 ·split at e
  ·rename_i hl;cases e;obtain ⟨vv,uu,rfl,rfl,r,v⟩:=gH r vr;obtain ⟨l,ys,rfl,hl',rr⟩:=r.fX (K:=X.K);cases v;refine oE pins s σ H [.ref l] [.ref l] Q I (.cons rfl .nil) ⟨l,ys,rfl,.inl hl',fun p hp=>?_⟩;have sp:bO H (upd H p (.lst ys)):=bO.upd hp;exact k _ _ sp (.lst aF trivial (rr.same sp)) fun _=>.lst aF hp ((rr.bL hl).same sp)
  ·cases e
 ·split at e
  ·rename_i hl;cases e;obtain ⟨vv,uu,rfl,rfl,r,v⟩:=gH r vr;cases r with
   | @dK l kvs ds e _ r n=>
    cases v;refine list_dict hc I e fun p s' hp I' _=>⟨.ref p,_,I',rfl,?_⟩
    have sp:bO H (upd H p (.lst (kvs.map fun p=>kV p.1))):=bO.upd hp;exact k _ _ sp (.lst aF trivial (r.keys.same sp)) fun _=>.lst aF hp (r.keys.same sp)
   | @dT l kvs ds e _ r n=>
    cases v;cases r with
    | cons r t=>simp [isTup] at hl
    | nil=>
     have e2:=xU (o':=.dK []) e;refine list_dict hc (iV I e) aF fun p s' hp I' hne=>?_
     have hp':p≠l:=fun z=>by subst z;rw [aF] at hp;cases hp
     have hpn:H p=none:=by rw [aN hp'] at hp;exact hp
     have hcm:upd (upd (upd H l (.dK [])) p (.lst [])) l (.dT [])=upd H p (.lst []):=by
      funext b
      by_cases hb:b=l
      ·subst hb;rw [aF,aN (Ne.symm hp'),e]
      ·rw [aN hb];by_cases hb2:b=p
       ·subst hb2;rw [aF,aF]
       ·rw [aN hb2,aN hb2,aN hb]
     have I2:=lJ I' (a:=l) (by rw [aN (Ne.symm hp'),aF]);have I3:Inv X pins σ (upd H p (.lst [])) s':=by
      have:Inv X pins σ (upd (upd (upd H l (.dK [])) p (.lst [])) l (.dT [])) s':=I2;rwa [hcm] at this
     have sp:bO H (upd H p (.lst [])):=bO.upd hpn;exact ⟨.ref p,_,I3,rfl,k _ _ sp (.lst aF trivial .nil) fun _=>.lst aF hpn .nil⟩
  ·cases e
 ·cases e
theorem g_:lM X (.type "tuple") (rs g8 false):=by
 intro pins s σ H xs us Q I vr ⟨ds,d,r,e,k⟩;unfold g8 at e;split at e
 ·cases e;obtain ⟨vv,uu,rfl,rfl,r,v⟩:=gH r vr;obtain ⟨l,ys,rfl,hl',rr⟩:=r.eO;cases v;exact mW pins s σ H [.ref l] [.ref l] Q I (.cons rfl .nil) ⟨l,ys,rfl,.inr ⟨.of hl',k.self (.tup hl' rr) fun z=>by cases z⟩⟩
 ·cases e;obtain ⟨vv,uu,rfl,rfl,r,v⟩:=gH r vr;obtain ⟨l,ys,rfl,hl',rr⟩:=r.fX (K:=X.K);cases v;refine mW pins s σ H [.ref l] [.ref l] Q I (.cons rfl .nil) ⟨l,ys,rfl,.inl ⟨hl',fun p hp=>?_⟩⟩;have sp:bO H (upd H p (.tup ys)):=bO.upd hp;exact k _ _ sp (.tup aF (rr.same sp)) fun z=>by cases z
 ·cases e
theorem isi {pins:List (Addr×Obj)} {s:Shared} {σ:L2.St} {H:Hp} {v:V} {u:Value} {d:D} {t:Ty} {k:Bool} (I:Inv X pins σ H s) (r:Rep All H v d) (ru:RelV v u) (h:TQ t d=.ok k) {Q:Value->Shared->Prop}
  (q:∀tk,Q (.bool k) {s with toks:=tk}):wpAny (model X.prog X.w) X.A (call (.builtin "isinstance") [u,.type t.nm]) Q X.xe s:=by
 have q0:Q (.bool k) s:=q s.toks;cases r with
 | non=>cases ru;cases t <;> simp only [TQ] at h <;> cases h <;> first|exact IsiPair.NoneType_int (q _)|exact IsiPair.NoneType_str (q _)|exact IsiPair.NoneType_bool (q _)|exact IsiPair.NoneType_list (q _)|exact IsiPair.NoneType_tuple (q _)|exact IsiPair.NoneType_dict (q _)
 | bl b=>cases ru;cases t <;> simp only [TQ] at h <;> cases h <;> first|exact IsiPair.bool_int q0|exact IsiPair.bool_str (q _)|exact IsiPair.bool_bool q0|exact IsiPair.bool_list (q _)|exact IsiPair.bool_tuple (q _)|exact IsiPair.bool_dict (q _)
 | int b=>obtain ⟨tt,rfl⟩:=ru;cases t <;> simp only [TQ] at h <;> cases h <;> first|exact IsiPair.int_int q0|exact IsiPair.int_str (q _)|exact IsiPair.int_bool (q _)|exact IsiPair.int_list (q _)|exact IsiPair.int_tuple (q _)|exact IsiPair.int_dict (q _)
 | str b=>obtain ⟨tt,rfl⟩:=ru;cases t <;> simp only [TQ] at h <;> cases h <;> first|exact IsiPair.str_int (q _)|exact IsiPair.str_str q0|exact IsiPair.str_bool (q _)|exact IsiPair.str_list (q _)|exact IsiPair.str_tuple (q _)|exact IsiPair.str_dict (q _)
 | tup e rr=>
  cases ru;obtain ⟨its,vr,o,ho,hc,_⟩:=jO I e;cases t <;> simp only [TQ] at h <;> cases h <;> first|exact IsiPair.tuple_int ho hc (q _)|exact IsiPair.tuple_str ho hc (q _)|exact IsiPair.tuple_bool ho hc (q _)|exact IsiPair.tuple_list ho hc (q _)|exact IsiPair.tuple_tuple ho hc q0|exact IsiPair.tuple_dict ho hc (q _)
 | lst e p rr=>
  cases ru;obtain ⟨its,vr,o,ho,hc,_⟩:=lR I (.of e);cases t <;> simp only [TQ] at h <;> cases h <;> first|exact IsiPair.list_int ho hc (q _)|exact IsiPair.list_str ho hc (q _)|exact IsiPair.list_bool ho hc (q _)|exact IsiPair.list_list ho hc q0|exact IsiPair.list_tuple ho hc (q _)|exact IsiPair.list_dict ho hc (q _)
 | frz e rr=>cases t <;> cases h
 | fdK e rr n=>cases t <;> cases h
 | fdT e rr n=>cases t <;> cases h
 | exc n e q=>cases t <;> cases h
 | ins n e q=>cases t <;> cases h
 | cel e p rr=>cases t <;> cases h
 | dK e p rr n=>
  cases ru;obtain ⟨_,_,_,_,o,_,_,ho,hx,_⟩:=PL I.hok e;have hc:=hx.1;cases t <;> simp only [TQ] at h <;> cases h <;> first|exact IsiPair.dict_int ho hc (q _)|exact IsiPair.dict_str ho hc (q _)|exact IsiPair.dict_bool ho hc (q _)|exact IsiPair.dict_list ho hc (q _)|exact IsiPair.dict_tuple ho hc (q _)|exact IsiPair.dict_dict ho hc q0
 | dT e p rr n=>
  cases ru;obtain ⟨_,_,_,_,o,_,_,ho,hx,_⟩:=aDe I.hok e;have hc:=hx.1;cases t <;> simp only [TQ] at h <;> cases h <;> first|exact IsiPair.dict_int ho hc (q _)|exact IsiPair.dict_str ho hc (q _)|exact IsiPair.dict_bool ho hc (q _)|exact IsiPair.dict_list ho hc (q _)|exact IsiPair.dict_tuple ho hc (q _)|exact IsiPair.dict_dict ho hc q0
def aN8 (t:Ty):List V->Hp->VK->Prop:=fun xs H Q=>∃v d k,xs=[v,.ty t.nm]/\Rep All H v d/\TQ t d=.ok k/\Q (.bl k) H
theorem aH6 (t:Ty):lM X (.builtin "isinstance") (aN8 t):=by
 intro pins s σ H xs us Q I vr ⟨v,d,k,e,r,h,q⟩;subst e;cases vr with
 | cons rv vt=>
  cases vt with
  | cons rt vt=>
   cases vt;cases rt;exact isi I r rv h fun tk=>⟨.bl k,H,I.tok tk,rfl,q⟩
theorem z8 (t:Ty) {y:Str} {p2:Pos} (ha:PE X a (gE fa ra)) (hg:Gl X "isinstance") (hm:X.mg "isinstance" = none) (hv:bootBuiltins "isinstance" = some (.builtin "isinstance")) (gy:Gl X y) (my:X.mg y=none) (vy:bootBuiltins y=some (.type t.nm))
  (hy:y ≠ "__name__":=by decide) (hyd:(y==("__debug__" : Str))=false:=by decide)
  (he:starEach [a,.Name y p2] X.env=(false,eval a X.env)::starEach [.Name y p2] X.env:=by rfl) (he2:starEach [.Name y p2] X.env=(false,eval (.Name y p2) X.env)::starEach [] X.env:=by rfl)
  (hpl:(backTo pos (starEach [.Name y p2] X.env)).any (·.1)=false:=by rfl):PE X (.Call (.Name "isinstance" p) [a,.Name y p2] [] pos) (gE (b1 (PQ t) fa) true):=
 PE.imp (oZ (aH6 t) hg hm hv (bD ha (bD (aCs gy my vy (v:=.ty t.nm) rfl hy hyd) dM he2) he) (by decide) (by decide) he hpl) fun σ H Q ⟨ρ,d,E,h,q⟩=>by
  obtain ⟨x,h1,h⟩:=bI h;obtain ⟨k,h2,h⟩:=bI h;cases h;exact ⟨ρ,x,E,h1,fun v H1 s1 r1 _=>⟨v,x,k,rfl,r1,h2,(q.imp s1 id).bl⟩⟩
theorem aH7 {o:Expr} {fo:FE} {ro fr:Bool} {name:Str} {apos cpos:Pos} {f:D->List D->Res D} (pa:PlainAttrs T) (slot:Slot T name id) (hty:typeOf (.builtin id)=pure (.type "method_descriptor")) (hm:MtR X id (rm f fr)) (ho:PE X o (gE fo ro)) (ha:PA X (e::es) (gA fs rr))
  (hT:∀(d:D) (ds:List D) (r:D) (v:V) (H:Hp),f d ds=.ok r->Rep All H v d->tyV X.K T v H)
  (hbase:attributeBase o name X.env (eval o X.env)=eval o X.env:=by rfl)
  (hfew:((backTo cpos (starEach (e::es) X.env)).all (fun x=>!x.1)&&(backToKw cpos (keywordEach [] X.env)).all (fun x=>x.1.isSome)
   && decide ((e::es).length+([]:List Keyword).length+(if ([]:List Keyword).isEmpty then 0 else 1)<30))=true:=by rfl)
  (hline:(apos.endLine==cpos.line)=true:=by rfl) (hs:starEach (e::es) X.env=(false,eval e X.env)::starEach es X.env:=by rfl) (hplain:(backTo cpos (starEach es X.env)).any (·.1)=false:=by rfl) :
  PE X (.Call (.Attribute o name apos) (e::es) [] cpos) (gE (bM f fo fs) fr):=
 PE.imp (PJ pa slot hty hm ho ha hbase hfew hline hs hplain) fun σ H Q ⟨ρ,d,E,h,q⟩=>by
  obtain ⟨x,h1,h⟩:=bI h;obtain ⟨ds,h2,h⟩:=bI h;exact ⟨ρ,x,E,h1,fun v H1 s1 r1 _=>⟨hT x ds d v H1 h r1,ρ,ds,E.same s1,h2,fun vs H2 s2 r2 _=>⟨x,ds,d,r1.same s2,r2,h,q.imp (s1.trans s2) fun z=>z⟩⟩⟩
noncomputable def spD (f:List D->Res D) (n:Nat):Sp:=fun vs H Q _=>∃ds d,ds.length=n/\bF All H vs ds/\f ds=.ok d/\kR H d true Q
theorem aDr {f:List D->Res D} {n:Nat} {vs:List V} {H:Hp} {Q:VK} {E:XK} (h:spD f n vs H Q E):vs.length=n:=by
 obtain ⟨ds,d,h1,r,_⟩:=h;rw [r.length,h1]
theorem aDs {k:Nat} {fad:Addr} {fd:FuncData} {ps:List Str} {f:List D->Res D} {n:Nat} (F:jU X.prog X.w X.K X.mg X.base CX0 k fad fd ps (spD f n)) (hr:lG k X.A) (hg:Gl X x) (hm:X.mg x=some (.ref fad)) (hk:PySem.W.keepIn X.K (.ref fad)=true) (hb:Binds X.K fd ps [])
  (ha:PA X (e::es) (gA fs rr)) (hdb:nDb x:=by decide) (he:starEach (e::es) X.env=(false,eval e X.env)::starEach es X.env:=by rfl) (hpl:(backTo pos (starEach es X.env)).any (·.1)=false:=by rfl) :
  PE X (.Call (.Name x p) (e::es) [] pos) (gE (aX (oF n f) fs) true):=
 PE.imp (aD4 F hr hg hm hk hb .nil aDg ha hdb he hpl) fun σ H Q ⟨ρ,d,E,h,q⟩=>by
  obtain ⟨ds,h1,h⟩:=bI h;unfold oF at h;split at h
  ·rename_i hl;exact ⟨ρ,ds,E,h1,fun vs H1 s1 r1 _=>⟨ds,d,of_decide_eq_true hl,by rw [List.append_nil];exact r1,h,q.imp s1 id⟩⟩
  ·cases h
end
end Mi
namespace Mi
open PySem L2 PySem.SeqAt PySem.Spec PyProof.Rows
noncomputable def z9 (x:Str):List D:=x.cps.toList.map fun c=>D.str ⟨#[c]⟩
noncomputable def U3 (xs:List D):List D:=xs.zipIdx.map fun p=>.tup [.int p.2,p.1]
noncomputable def aJj (xs ys:List D):List D:=(xs.zip ys).map fun p=>.tup [p.1,p.2]
noncomputable def Z8 (m:Nat) (xs:List D):List D:=xs.zipIdx.map fun p=>.tup [.int ((m+p.2:Nat):Int),p.1]
variable [KFrag]
noncomputable def aKj (x:Str):It:=⟨fun i _=>i<x.cps.size,fun i H v H'=>H'=H/\∃c,x.cps[i]?=some c/\v=.str ⟨#[c]⟩,fun i _=>x.cps.size<=i⟩
def Ite (K:PySem.W.Frag) (a:Addr):It:=
 ⟨fun i H=>∃xs x,SqL K H a xs/\xs[i]?=some x,fun i H v H'=>∃t x,(∀xs,SqL K H a xs->xs[i]?=some x)/\v=.ref t/\H t=none/\H'=upd H t (.tup [.int i,x]),fun i H=>∃xs,SqL K H a xs/\xs.length<=i⟩
def aN9 (K:PySem.W.Frag) (m:Nat) (a:Addr):It:=
 ⟨fun i H=>∃xs x,SqL K H a xs/\xs[i]?=some x,fun i H v H'=>∃t x,(∀xs,SqL K H a xs->xs[i]?=some x)/\v=.ref t/\H t=none/\H'=upd H t (.tup [.int ((m+i:Nat):Int),x]),fun i H=>∃xs,SqL K H a xs/\xs.length<=i⟩
def Itz (a b:Addr):It :=
  ⟨fun i H => ∃xs ys x y, H a=some (.tup xs) /\ H b=some (.tup ys) /\ xs[i]?=some x /\ ys[i]?=some y, fun i H v H' => ∃t x y, (∀xs, H a=some (.tup xs) -> xs[i]?=some x) /\ (∀ys, H b=some (.tup ys) -> ys[i]?=some y) /\ v=.ref t /\ H t=none /\ H'=upd H t (.tup [x, y]),
   fun i H => ∃xs ys, H a=some (.tup xs) /\ H b=some (.tup ys) /\ ys.length=xs.length /\ xs.length <= i⟩
noncomputable def aNa (K:PySem.W.Frag) (a:Addr) (n:Nat):It:=
 ⟨fun i H=>∃xs x,SqL K H a xs/\xs.length=n/\i<n/\xs[n-1-i]?=some x,fun i H x H'=>H'=H/\∀xs,SqL K H a xs->xs[n-1-i]?=some x,fun i _=>n<=i⟩
theorem Z9 {m:Nat} {xs:List D} {i:Nat}:(Z8 m xs)[i]?=(xs[i]?).map fun d=>.tup [.int ((m+i:Nat):Int),d]:=by
 unfold Z8;rw [List.getElem?_map,List.getElem?_zipIdx,Nat.zero_add];cases xs[i]? <;> rfl
theorem Z_ {xs:List D} {i:Nat}:(U3 xs)[i]?=(xs[i]?).map fun d=>.tup [.int i,d]:=by
 unfold U3;rw [List.getElem?_map,List.getElem?_zipIdx,Nat.zero_add];cases xs[i]? <;> rfl
theorem U4 (xs:List D):(U3 xs).length=xs.length:=by simp [U3]
inductive ItQ (K:PySem.W.Frag) (P:Addr->Prop) (J:It) (H:Hp) (items:List D):Prop
 | lst (a:Addr) (e:J=Itl K a) (r:Rep P H (.ref a) (.lst items))
 | tup (a:Addr) (e:J=Itt K a) (r:Rep P H (.ref a) (.tup items))
 | rng (lo:Int) (n:Nat) (e:J=Itr lo n) (r:items=(List.range n).map fun (k:Nat)=>D.int (lo+k))
 | chs (x:Str) (e:J=aKj x) (r:items=z9 x)
 | enm (a:Addr) (ds:List D) (e:J=Ite K a) (r:Rep P H (.ref a) (.lst ds)) (h:items=U3 ds)
 | enf (m:Nat) (a:Addr) (ds:List D) (e:J=aN9 K m a) (r:Rep P H (.ref a) (.lst ds)) (h:items=Z8 m ds)
 | rev (a:Addr) (ds:List D) (e:J=aNa K a ds.length) (r:Rep P H (.ref a) (.lst ds)) (h:items=ds.reverse)
 | scr (a:Addr) (hK:KFrag.K=K) (e:J=Itl K a) (r:Rep P H (.ref a) (.scr items))
 | zip (a b:Addr) (ds es:List D) (e:J=Itz a b) (r:Rep P H (.ref a) (.tup ds)) (q:Rep P H (.ref b) (.tup es)) (n:es.length=ds.length) (h:items=aJj ds es)
theorem ItQ.keep {K:PySem.W.Frag} {P P':Addr->Prop} {J:It} {H H':Hp} {items:List D} (h:ItQ K P J H items) (k:T3 P H H') (m:∀a,P a->P' a):ItQ K P' J H' items:=by
 cases h with
 | lst a e r=>exact .lst a e (r.keep k m)
 | tup a e r=>exact .tup a e (r.keep k m)
 | rng lo n e r=>exact .rng lo n e r
 | chs x e r=>exact .chs x e r
 | enm a ds e r h=>exact .enm a ds e (r.keep k m) h
 | enf m' a ds e r h=>exact .enf m' a ds e (r.keep k m) h
 | zip a b ds es e r q n h=>exact .zip a b ds es e (r.keep k m) (q.keep k m) n h
 | rev a ds e r h=>exact .rev a ds e (r.keep k m) h
 | scr a hK e r=>exact .scr a hK e (r.keep k m)
theorem ItQ.stop {K:PySem.W.Frag} {P:Addr->Prop} {J:It} {H:Hp} {items:List D} {i:Nat} (h:ItQ K P J H items) (hi:items.length<=i):J.stop i H:=by
 cases h with
 | lst a e r=>
  subst e;obtain ⟨a',xs,e,hq,rr⟩:=r.fX (K:=K);cases e;exact ⟨xs,hq,by rw [rr.length];exact hi⟩
 | tup a e r=>
  subst e;obtain ⟨a',xs,e,hq,rr⟩:=r.eO;cases e;exact ⟨xs,.of hq,by rw [rr.length];exact hi⟩
 | rng lo n e r=>
  subst e r;show n<=i;simpa using hi
 | chs x e r=>
  subst e r;show x.cps.size<=i;simpa [z9] using hi
 | enm a ds e r h=>
  subst e h;obtain ⟨a',xs,e,hq,rr⟩:=r.fX (K:=K);cases e;exact ⟨xs,hq,by rw [rr.length,<-U4];exact hi⟩
 | enf m a ds e r h=>
  subst e h;obtain ⟨a',xs,e,hq,rr⟩:=r.fX (K:=K);cases e;exact ⟨xs,hq,by rw [rr.length];simpa [Z8] using hi⟩
 | zip a b ds es e r q n h=>
  subst e h;obtain ⟨a',xs,e,hq,rr⟩:=r.eO;cases e;obtain ⟨b',ys,e,hq2,rr2⟩:=q.eO;cases e;have:(aJj ds es).length=ds.length:=by simp [aJj,n]
  exact ⟨xs,ys,hq,hq2,by rw [rr.length,rr2.length];exact n,by rw [rr.length];lia⟩
 | rev a ds e r h=>
  subst e h;rw [List.length_reverse] at hi;exact hi
 | scr a hK e r=>
  subst e;cases r with
  | frz ee rr=>exact ⟨_,ee.sq hK,by rw [rr.length];exact hi⟩
theorem ItQ.go {K:PySem.W.Frag} {P:Addr->Prop} {J:It} {H:Hp} {items:List D} {i:Nat} {d:D} (h:ItQ K P J H items) (hi:items[i]?=some d):J.go i H/\∀x H',J.yld i H x H'->bO H H'/\Rep P H' x d:=by
 cases h with
 | lst a e r=>
  subst e;obtain ⟨a',xs,e,hq,rr⟩:=r.fX (K:=K);cases e;obtain ⟨v,h1,h2⟩:=rr.get hi;refine ⟨⟨xs,v,hq,h1⟩,fun x H' ⟨e,hy⟩=>?_⟩;subst e;refine ⟨bO.refl _,?_⟩;have:=hy xs hq;rw [h1] at this;cases this;exact h2
 | tup a e r=>
  subst e;obtain ⟨a',xs,e,hq,rr⟩:=r.eO;cases e;obtain ⟨v,h1,h2⟩:=rr.get hi;refine ⟨⟨xs,v,.of hq,h1⟩,fun x H' ⟨e,hy⟩=>?_⟩;subst e;refine ⟨bO.refl _,?_⟩;have:=hy xs (.of hq);rw [h1] at this;cases this;exact h2
 | rng lo n e r=>
  subst e r;have hlt:i<n:=by
   have:=(List.getElem?_eq_some_iff.mp hi).1;simpa using this
  refine ⟨hlt,fun x H' ⟨e,hy⟩=>?_⟩;subst e;have e2:D.int (lo+(i:Int))=d:=by simpa [hlt] using hi
  rw [hy,<-e2];exact ⟨bO.refl _,.int _⟩
 | chs z e r=>
  subst e r;have hlt:i<z.cps.size:=by
   have:=(List.getElem?_eq_some_iff.mp hi).1;simpa [z9] using this
  refine ⟨hlt,fun x H' ⟨e,c,hc,hv⟩=>?_⟩;subst e hv;refine ⟨bO.refl _,?_⟩;have e2:D.str ⟨#[c]⟩=d:=by
   unfold z9 at hi;rw [List.getElem?_map,Array.getElem?_toList,hc] at hi;simpa using hi
  rw [<-e2];exact .str _
 | enm a ds e r h=>
  subst e h;obtain ⟨a',xs,e,hq,rr⟩:=r.fX (K:=K);cases e;rw [Z_] at hi;cases hd:ds[i]? with
  | none=>rw [hd] at hi;cases hi
  | some y=>
   rw [hd] at hi;cases hi;obtain ⟨v,h1,h2⟩:=rr.get hd;refine ⟨⟨xs,v,hq,h1⟩,fun x H' ⟨t,u,hy,e1,e2,e3⟩=>?_⟩;subst e1 e3;have:=hy xs hq;rw [h1] at this;cases this;have sp:bO H (upd H t (.tup [.int i,v])):=bO.upd e2;exact ⟨sp,.tup aF (.cons (.int _) (.cons (h2.same sp) .nil))⟩
 | enf m a ds e r h=>
  subst e h;obtain ⟨a',xs,e,hq,rr⟩:=r.fX (K:=K);cases e;rw [Z9] at hi;obtain ⟨y,hd,rfl⟩:=Option.map_eq_some_iff.mp hi;obtain ⟨v,h1,h2⟩:=rr.get hd;refine ⟨⟨xs,v,hq,h1⟩,fun x H' ⟨t,u,hy,e1,e2,e3⟩=>?_⟩;subst e1 e3;have:=hy xs hq;rw [h1] at this;cases this;have sp:bO H (upd H t (.tup [.int ((m+i:Nat):Int),v])):=bO.upd e2;exact ⟨sp,.tup aF (.cons (.int _) (.cons (h2.same sp) .nil))⟩
 | zip a b ds es e r q n h=>
  subst e h;obtain ⟨a',xs,e,hq,rr⟩:=r.eO;cases e;obtain ⟨b',ys,e,hq2,rr2⟩:=q.eO;cases e;unfold aJj at hi;rw [List.getElem?_map] at hi;obtain ⟨⟨x,y⟩,hd,rfl⟩:=Option.map_eq_some_iff.mp hi;rw [List.getElem?_zip_eq_some] at hd;obtain ⟨v,h1,h2⟩:=rr.get hd.1;obtain ⟨v',h3,h4⟩:=rr2.get hd.2;refine ⟨⟨xs,ys,v,v',hq,hq2,h1,h3⟩,fun x H' ⟨t,u,u',hy,hy',e1,e2,e3⟩=>?_⟩;subst e1 e3;have z:=hy xs hq;rw [h1] at z;cases z;have z:=hy' ys hq2;rw [h3] at z;cases z;have sp:bO H (upd H t (.tup [v,v'])):=bO.upd e2;exact ⟨sp,.tup aF (.cons (h2.same sp) (.cons (h4.same sp) .nil))⟩
 | rev a ds e r h=>
  subst e h;obtain ⟨a',xs,e,hq,rr⟩:=r.fX (K:=K);cases e;have hl:i<ds.length:=by
   rcases Nat.lt_or_ge i ds.length with z|z
   ·exact z
   ·rw [List.getElem?_eq_none (by rw [List.length_reverse];exact z)] at hi;cases hi
  rw [List.getElem?_reverse hl] at hi;obtain ⟨v,h1,h2⟩:=rr.get hi;refine ⟨⟨xs,v,hq,rr.length,hl,h1⟩,fun x H' ⟨e,hy⟩=>?_⟩;subst e;have:=hy xs hq;rw [h1] at this;cases this;exact ⟨bO.refl _,h2⟩
 | scr a hK e r=>
  subst e;cases r with
  | @frz _ xs _ ee rr=>
   obtain ⟨v,h1,h2⟩:=rr.get hi;refine ⟨⟨xs,v,ee.sq hK,h1⟩,fun x H' ⟨e,hy⟩=>?_⟩;subst e;refine ⟨bO.refl _,?_⟩;have:=hy xs (ee.sq hK);rw [h1] at this;cases this;exact h2
noncomputable def gI (K:PySem.W.Frag) (f:FI):TI:=fun σ H R=>∃ρ items k,ER H σ ρ/\f ρ=.ok (items,k)/\∀J H1,bO H H1->ItQ K All J H1 items->(k=true->ItQ K (New H) J H1 items)->R J H1
section
variable {X:Cx} {tg l a b:Expr} {rr:Bool} {fs:FA} {p pos:Pos}
theorem aA0 {pins:List (Addr×Obj)} {s1:Shared} {σ:L2.St} {H1:Hp} {R:It->Hp->Prop} {v:V} {u:Value} {d:D} {items:List D} (I1:Inv X pins σ H1 s1) (r:Rep All H1 v d) (ru:RelV v u) (hi:J3 d=.ok items)
  (q:∀J,(∀P:Addr->Prop,Rep P H1 v d->ItQ X.K P J H1 items)->R J H1):wpAny (model X.prog X.w) X.A (pyIter u) (PIE X pins σ tg R) X.xe s1:=by
 cases d <;> simp only [J3] at hi <;> cases hi
 ·obtain ⟨a,xs,rfl,e,rr⟩:=r.eO;cases ru;obtain ⟨its,rv,p,hz⟩:=I1.tuple (.of e);refine wpAny_pyIter_tuple (show s1.heap.IsTuple a its.toArray from p) ?_;refine ⟨s1.heap.objs.size,[s1.heap.objs.size],_,_,H1,rfl,I1.kept (t':=s1.toks) fun b o e=>Heap.get?_push_of_some _ e,N7 a _,⟨_,Heap.get?_push_size _ rfl,rfl,rfl⟩,fun b hb=>?_,q _ fun P r=>.tup a rfl r⟩;have e:b=s1.heap.objs.size:=by simpa using hb
  subst e;exact I1.aCv (Nat.le_refl _) (I1.hok.fresh (Nat.le_refl _))
 ·obtain ⟨a,xs,rfl,e,rr⟩:=r.fX (K:=X.K);cases ru;obtain ⟨its,rv,p,hz⟩:=I1.list e;refine wpAny_pyIter_list p.isList ?_;refine ⟨s1.heap.objs.size,[s1.heap.objs.size],_,_,H1,rfl,I1.kept (t':=s1.toks) fun b o e=>Heap.get?_push_of_some _ e,q_ a _,⟨_,Heap.get?_push_size _ rfl,rfl,rfl⟩,fun b hb=>?_,q _ fun P r=>.lst a rfl r⟩;have e:b=s1.heap.objs.size:=by simpa using hb
  subst e;exact I1.aCv (Nat.le_refl _) (I1.hok.fresh (Nat.le_refl _))
theorem QD {i:Int} (h:t_ i=true):-(2 ^ 62)<=i/\i<2 ^ 62:=by
 simp only [t_,Bool.and_eq_true,decide_eq_true_eq] at h;exact h
theorem PI.imp {w w':TI} (h:PI X tg l w) (i:∀σ H R,w' σ H R->w σ H R):PI X tg l w':=fun pins s σ H R I q=>h pins s σ H R I (i σ H R q)
theorem G9 (hg:Gl X "range") (hm:X.mg "range" = none) (ha:PA X [a] (gA fs rr)) (hs:starEach [a] X.env=[(false,eval a X.env)]:=by rfl):PI X tg (.Call (.Name "range" p) [a] [] pos) (gI X.K (vQ fs uU)):=
 PI.imp (RX hg hm ha hs) fun σ H R ⟨ρ,items,k,E,h,q⟩=>by
  obtain ⟨xs,h1,h⟩:=bI h;unfold uU at h;split at h
  ·split at h
   ·rename_i hb;cases h;obtain ⟨b1,b2⟩:=QD hb;refine ⟨ρ,_,E,h1,fun vs H1 s1 r1 _=>?_⟩;cases r1 with
    | cons r t=>
     cases t;cases r;exact ⟨_,rfl,b1,b2,q _ H1 s1 (.rng 0 _ rfl rfl) fun _=>.rng 0 _ rfl rfl⟩
   ·cases h
  ·cases h
end
theorem aA1 (n:Nat) (ρ bs:List D) (i:Nat) (h:i<n):(J4 n ρ++bs).getD i .uD=ρ.getD i .uD:=by
 rw [List.getD_eq_getElem?_getD,List.getElem?_append_left (by simp [J4];exact h)];simp [J4,h]
theorem KD (n:Nat) (ρ:List D):(J4 n ρ).length=n:=by simp [J4]
def TgC (g:TG) (t:D->Res (List D)) (n m:Nat):Prop:=∀(v:V) (d:D) (bs:List D) (σ:L2.St) (H:Hp) (Q:L2.St->Hp->Prop),σ.length=n->Rep All H v d->t d=.ok bs->
 (∀σ2,Ext (σ++List.replicate m none) σ2->(∀j b,bs[j]?=some b->∃w,σ2[n+j]?=some (some w)/\Rep All H w b)->Q σ2 H)->g v (σ++List.replicate m none) H Q
theorem ER.ext {H:Hp} {σ σ2:L2.St} {ρ bs:List D} {n m:Nat} (E:ER H σ ρ) (hn:σ.length=n) (x:Ext (σ++List.replicate m none) σ2) (hb:∀j b,bs[j]?=some b->∃w,σ2[n+j]?=some (some w)/\Rep All H w b):ER H σ2 (J4 n ρ++bs):=by
 intro i hi;by_cases h:i<n
 ·rw [aA1 n ρ bs i h] at hi ⊢;obtain ⟨v,h1,h2⟩:=E i hi;exact ⟨v,x.2 i v (by rw [List.getElem?_append_left (by rw [hn];exact h)];exact h1),h2⟩
 ·have e:(J4 n ρ++bs).getD i .uD=bs.getD (i-n) .uD:=by
   rw [List.getD_eq_getElem?_getD,List.getElem?_append_right (by rw [KD];lia),KD,<-List.getD_eq_getElem?_getD]
  rw [e] at hi ⊢;cases hq:bs[i-n]? with
  | none=>rw [List.getD_eq_getElem?_getD,hq] at hi;exact absurd rfl hi
  | some b=>
   obtain ⟨w,h1,h2⟩:=hb (i-n) b hq;rw [List.getD_eq_getElem?_getD,hq];exact ⟨w,by rw [<-h1];congr 1;lia,h2⟩
theorem A_ {K:PySem.W.Frag} {it:FI} {t:D->Res (List D)} {c:FT} {f:FE} {k:Bool} {n m:Nat} {g:TG} {tc:TT} (tg:TgC g t n m) (hc:∀σ H Q,gT c σ H Q->tc σ H Q) {σ:L2.St} {H:Hp} {Q:VK} (hn:σ.length=n) (h:gE (jQ n it t c f k) true σ H Q) :
  QC (gI K it) g tc (gE f k) m σ H Q:=by
 obtain ⟨ρ,d,E,h,q⟩:=h;obtain ⟨⟨items,kk⟩,h1,h⟩:=bI h;split at h
 ·rename_i hlim;obtain ⟨ys,h2,h⟩:=bI h;cases h;refine ⟨ρ,items,kk,E,h1,fun J H1 s1 hJ _ p hp=>?_⟩;have hp0:H p=none:=s1.free hp;refine ⟨fun i n' vs H'=>n'=items.length-i/\i<=items.length/\H' p=some (.lst vs)/\bO H1 H'/\∃acc,acc.length<=i/\bF (fun a=>H a=none/\a≠p) H' vs acc/\uV (GZ n t c f k ρ) acc (items.drop i)=.ok ys,⟨items.length,?_⟩,?_⟩
  ·exact ⟨rfl,Nat.zero_le _,aF,bO.upd hp,[],Nat.zero_le _,.nil,h2⟩
  ·rintro i n' vs H' ⟨rfl,hi,hH,sm,acc,hal,racc,hf⟩;refine ⟨hH,?_⟩;have hJ':ItQ K All J H' items:=hJ.keep (.same sm) fun _ z=>z
   rcases Nat.lt_or_ge i items.length with hlt|hge
   ·refine .inr ?_;have e:items[i]?=some items[i]:=List.getElem?_eq_getElem hlt;obtain ⟨g1,g2⟩:=hJ'.go e;have hl1:items.length<=lim:=of_decide_eq_true hlim;refine ⟨g1,?_,fun x H2 hy=>?_⟩
    ·rw [racc.length];exact Nat.lt_of_le_of_lt hal (Nat.lt_of_lt_of_le hlt (Nat.le_trans hl1 (by rw [sizeLine_eq];decide)))
    ·obtain ⟨sH,rx⟩:=g2 x H2 hy;have hH:=sH p _ hH;have sm:=sm.trans sH;have racc:=racc.same sH;rw [List.drop_eq_getElem_cons hlt] at hf;obtain ⟨acc2,hs,hf⟩:=bI hf;obtain ⟨bs,hb,hs⟩:=bI hs;obtain ⟨ok,hok,hs⟩:=bI hs;refine tg x items[i] bs σ H2 _ hn rx hb fun σ2 hx hbs=>⟨hx,hc _ _ _ ?_⟩
     have E2:ER H2 σ2 (J4 n ρ++bs):=(E.same (s1.trans sm)).ext hn hx hbs;refine ⟨_,ok,E2,hok,fun H4 s4=>?_⟩;cases ok with
     | true=>
      rw [if_pos rfl];rw [if_pos rfl] at hs;obtain ⟨y,hy2,hs⟩:=bI hs;split at hs
      ·rename_i hk;cases hs;refine ⟨_,y,E2.same s4,hy2,fun w H5 s5 r5 n5=>⟨s5 p _ (s4 p _ hH),items.length-(i+1),by lia,rfl,hlt,aF,?_,acc++[y],?_,?_,hf⟩⟩
       ·exact fun b o e=>by
         rw [aN (a_ e hp)];exact s5 b o (s4 b o (sm b o e))
       ·rw [List.length_append,List.length_singleton];lia
       ·have hp5:H5 p=some (.lst vs):=s5 p _ (s4 p _ hH);have ry:Rep (fun a=>H a=none/\a≠p) H5 w y:=by
         rw [Bool.or_eq_true] at hk;rcases hk with hk|hk
         ·exact (n5 hk).mono fun a ha=>⟨((s1.trans sm).trans s4).free ha,fun z=>by subst z;have h0:=s4 _ _ hH;rw [show H4 _=none from ha] at h0;cases h0⟩
         ·exact r5.bL hk
        have all:bF (fun a=>H a=none/\a≠p) H5 (vs++[w]) (acc++[y]):=(racc.same (s4.trans s5)).snoc ry;refine all.keep (fun b o e hb=>?_) fun _ z=>z
        rw [aN]
        ·exact e
        ·rcases hb with hb|hb
         ·exact hb.2
         ·intro z;subst z;rw [hp5] at e;cases e;cases hb
      ·cases hs
     | false=>
      rw [if_neg (by simp)];rw [if_neg (by simp)] at hs;cases hs;exact ⟨items.length-(i+1),by lia,rfl,hlt,s4 p _ hH,sm.trans s4,acc,by lia,racc.same s4,hf⟩
   ·refine .inl ⟨hJ'.stop hge,?_⟩;rw [List.drop_eq_nil_of_le hge] at hf;cases hf;exact q _ _ (s1.trans sm) (.lst hH trivial racc.all) fun _=>.lst hH hp0 (racc.mono fun a z=>z.1)
 ·cases h
def gIx:List Nat->TGs
 | []=>aJ8
 | i::is=>N6 (eV i) (gIx is)
noncomputable def QF:List Nat->List V->L2.St->L2.St
 | i::is,v::vs,σ=>QF is vs (σ.set i (some v))
 | _,_,σ=>σ
theorem G_ {H:Hp} {Q:L2.St->Hp->Prop}:∀(is:List Nat) (vs:List V) (σ:L2.St),vs.length=is.length->Q (QF is vs σ) H->gIx is vs σ H Q
 | [],[],σ,_,q=>⟨rfl,q⟩
 | i::is,v::vs,σ,h,q=>⟨v,vs,rfl,G_ is vs (σ.set i (some v)) (by simpa using h) q⟩
 | [],_::_,_,h,_=>by simp at h
 | _::_,[],_,h,_=>by simp at h
theorem nR (n:Nat):TgC (eV n) GX n 1:=by
 intro v d bs σ H Q hn r h q;cases h;have hl:(σ++List.replicate 1 (none:Option V)).length=n+1:=by simp [hn]
 refine q _ ⟨by simp,fun i w hi=>?_⟩ fun j b hj=>?_
 ·have:i≠n:=fun z=>by
   subst z;rw [List.getElem?_append_right (by lia)] at hi;simp [hn] at hi
  rw [List.getElem?_set_ne (Ne.symm this)];exact hi
 ·have e:j=0:=by
   have:=(List.getElem?_eq_some_iff.mp hj).1;simp at this;exact this
  subst e;have e:d=b:=by simpa using hj
  subst e;exact ⟨v,by rw [Nat.add_zero,List.getElem?_set_self (by lia)],r⟩
section
variable {X:Cx} {scope:Scope} {ownN:List Str} {elt iter tg:Expr} {it:FI} {t:D->Res (List D)} {g:TG} {fe:FE} {re:Bool} {pos:Pos}
theorem aDt {n m:Nat} (S:fG X.N X.env.scope scope ownN) (hn:X.N.length=n) (hm:ownN.length=m) (hcalm:X.calm=true) (hi:PI X tg iter (gI X.K it)) (ht:TgC g t n m) (hg:∀X',fH X X' scope ownN->PG X' tg g) (he:∀X',fH X X' scope ownN->PE X' elt (gE fe re))
  (hs:∀x,foldedSetIterable iter X.env x=pure x):PE X (.ListComp elt [⟨tg,iter,[],0⟩] scope pos) (gE (jQ n it t j7 fe re) true):=by
 intro pins s σ H Q I h;subst hm;exact Z4 S hcalm hi hg he hs pins s σ H Q I (A_ ht (fun σ H Q h=>by obtain ⟨ρ,b,E,h,q⟩:=h;cases h;exact q H (bO.refl H)) (I.len.trans hn) h)
end
mutual
theorem Rep.dom {P:Addr->Prop} {H:Hp}:∀{v:V} {d:D},Rep P H v d->Rep (fun a=>P a/\H a≠none) H v d
 | _,_,.non=>.non
 | _,_,.bl b=>.bl b
 | _,_,.int i=>.int i
 | _,_,.str x=>.str x
 | _,_,.tup e r=>.tup e (bF.dom r)
 | _,_,.lst e p r=>.lst e ⟨p,by rw [e];simp⟩ (bF.dom r)
 | _,_,.cel e p r=>.cel e ⟨p,by rw [e];simp⟩ (bF.dom r)
 | _,_,.frz e r=>.frz e (bF.dom r)
 | _,_,.dK e p r n=>.dK e ⟨p,by rw [e];simp⟩ (d9.dom r) n
 | _,_,.dT e p r n=>.dT e ⟨p,by rw [e];simp⟩ (jR.dom r) n
 | _,_,.fdK e r n=>.fdK e (d9.dom r) n
 | _,_,.fdT e r n=>.fdT e (jR.dom r) n
 | _,_,.exc n e q=>.exc n e q
 | _,_,.ins n e q=>.ins n e (lZ.dom q)
theorem lZ.dom {P:Addr->Prop} {H:Hp}:∀{v:List (Str×V)} {d:List (Str×D)},lZ P H v d->lZ (fun a=>P a/\H a≠none) H v d
 | _,_,.nil=>.nil
 | _,_,.cons r t=>.cons (Rep.dom r) (lZ.dom t)
theorem bF.dom {P:Addr->Prop} {H:Hp}:∀{v:List V} {d:List D},bF P H v d->bF (fun a=>P a/\H a≠none) H v d
 | _,_,.nil=>.nil
 | _,_,.cons r t=>.cons (Rep.dom r) (bF.dom t)
theorem d9.dom {P:Addr->Prop} {H:Hp}:∀{v:List (Key×V)} {d:List (D×D)},d9 P H v d->d9 (fun a=>P a/\H a≠none) H v d
 | _,_,.nil=>.nil
 | _,_,.cons r t=>.cons (Rep.dom r) (d9.dom t)
theorem jR.dom {P:Addr->Prop} {H:Hp}:∀{v:List (List Key×V)} {d:List (D×D)},jR P H v d->jR (fun a=>P a/\H a≠none) H v d
 | _,_,.nil=>.nil
 | _,_,.cons r t=>.cons (Rep.dom r) (jR.dom t)
end
theorem d9.bL {P P':Addr->Prop} {H:Hp}:∀{v:List (Key×V)} {d:List (D×D)},d9 P H v d->D.aG (d.map (·.2))=true->d9 P' H v d
 | _,_,.nil,_=>.nil
 | _,_,.cons r t,h=>by
  rw [List.map_cons,D.aG,Bool.and_eq_true] at h;exact .cons (r.bL h.1) (t.bL h.2)
theorem jR.bL {P P':Addr->Prop} {H:Hp}:∀{v:List (List Key×V)} {d:List (D×D)},jR P H v d->D.aG (d.map (·.2))=true->jR P' H v d
 | _,_,.nil,_=>.nil
 | _,_,.cons r t,h=>by
  rw [List.map_cons,D.aG,Bool.and_eq_true] at h;exact .cons (r.bL h.1) (t.bL h.2)
theorem Rep.aJk {P P':Addr->Prop} {H:Hp} {a:Addr} {d:D} (r:Rep P H (.ref a) d) (h:inner d=true) (hp:P' a):Rep P' H (.ref a) d:=by
 cases r with
 | tup e r=>cases h
 | lst e p r=>exact .lst e hp (r.bL h)
 | cel e p r=>exact .cel e hp (r.bL h)
 | frz e r=>cases h
 | dK e p r n=>exact .dK e hp (r.bL h) n
 | dT e p r n=>exact .dT e hp (r.bL h) n
 | fdK e r n=>cases h
 | fdT e r n=>cases h
 | exc n e q=>cases h
 | ins n e q=>cases h
def Own (own:Nat->Bool) (σ:L2.St) (a:Addr):Prop:=∃i,own i=true/\σ[i]?=some (some (.ref a))
structure ES (own:Nat->Bool) (H:Hp) (σ:L2.St) (ρ:List D):Prop where
 len:σ.length=ρ.length
 at_:∀i,ρ.getD i .uD≠.uD->∃v,σ[i]?=some (some v)/\(own i=false->Rep (fun a=>¬Own own σ a) H v (ρ.getD i .uD))
 own:∀i v,own i=true->σ[i]?=some (some v)->∃a o,v=.ref a/\Rep All H v (ρ.getD i .uD)/\inner (ρ.getD i .uD)=true/\H a=some o/\P_ o=true/\∀j,own j=true->σ[j]?=some (some (.ref a))->j=i
variable {own:Nat->Bool}
theorem ES.er {H:Hp} {σ:L2.St} {ρ:List D} (e:ES own H σ ρ):ER H σ ρ:=fun i hi=>by
 obtain ⟨v,h1,h2⟩:=e.at_ i hi;cases ho:own i with
 | false=>exact ⟨v,h1,(h2 ho).all⟩
 | true=>
  obtain ⟨a,o,_,h3,_⟩:=e.own i v ho h1;exact ⟨v,h1,h3⟩
theorem ES.live {H:Hp} {σ:L2.St} {ρ:List D} (e:ES own H σ ρ) {a:Addr} (h:Own own σ a):∃o,H a=some o/\P_ o=true:=by
 obtain ⟨i,hi,hs⟩:=h;obtain ⟨b,o,eb,_,_,h3,h4,_⟩:=e.own i _ hi hs;cases eb;exact ⟨o,h3,h4⟩
theorem ES.same {H H':Hp} {σ:L2.St} {ρ:List D} (e:ES own H σ ρ) (s:bO H H'):ES own H' σ ρ:=by
 refine ⟨e.len,fun i hi=>?_,fun i v hi hv=>?_⟩
 ·obtain ⟨v,h1,h2⟩:=e.at_ i hi;exact ⟨v,h1,fun ho=>(h2 ho).same s⟩
 ·obtain ⟨a,o,h1,h2,h3,h4,h5,h6⟩:=e.own i v hi hv;exact ⟨a,o,h1,h2.same s,h3,s _ _ h4,h5,h6⟩
def KU (own:Nat->Bool) (σ:L2.St) (H:Hp) (σ':L2.St) (H':Hp):Prop:=∀a o,H a=some o->¬Own own σ a->H' a=some o/\¬Own own σ' a
theorem KU.trans {σ σ1 σ2:L2.St} {H H1 H2:Hp} (a:KU own σ H σ1 H1) (b:KU own σ1 H1 σ2 H2):KU own σ H σ2 H2:=fun c o e n=>let ⟨e1,n1⟩:=a c o e n;b c o e1 n1
theorem KU.same {σ:L2.St} {H H':Hp} (s:bO H H'):KU own σ H σ H':=fun a o e n=>⟨s a o e,n⟩
theorem KU.keep {σ σ':L2.St} {H H':Hp} {ρ:List D} (k:KU own σ H σ' H') (e:ES own H σ ρ):T3 (fun a=>¬Own own σ a) H H':=fun a o h hp=>by
 by_cases ho:Own own σ a
 ·obtain ⟨o',h1,h2⟩:=e.live ho;rw [h] at h1;cases h1;rcases hp with hp|hp
  ·exact absurd ho hp
  ·rw [h2] at hp;cases hp
 ·exact (k a o h ho).1
theorem KU.rep {σ σ':L2.St} {H H':Hp} {ρ:List D} (k:KU own σ H σ' H') (e:ES own H σ ρ) {v:V} {d:D} (r:Rep (fun a=>¬Own own σ a) H v d):Rep (fun a=>¬Own own σ' a) H' v d:=by
 refine r.dom.keep (P':=fun a=>¬Own own σ' a) (fun a o h hp=>?_) fun a ⟨h1,h2⟩=>?_
 ·refine k.keep e a o h (hp.imp (fun z=>z.1) id)
 ·cases q:H a with
  | none=>exact absurd q h2
  | some o=>exact (k a o q h1).2
def kRt (own:Nat->Bool) (D:Ends) (σ:L2.St) (H:Hp) (d:Mi.D):Prop:=if own rtX=true then ∃d0 ρ',d=.tup (d0::ρ')/\∀v σ' H',KU own σ H σ' H'->ES own H' σ' ρ'->Rep (fun a=>(Own own σ a\/H a=none)/\∀i b xs,ρ'.getD i .uD=.cel b xs->a≠b) H' v d0->D.rt v H'
  else ∀v H',(∀a o,H a=some o->¬Own own σ a->H' a=some o)->Rep (fun a=>Own own σ a\/H a=none) H' v d->D.rt v H'
theorem kRt.old {own:Nat->Bool} {D:Ends} {σ:L2.St} {H:Hp} {d:Mi.D} (h:kRt own D σ H d) (hx:own rtX=false):∀v H',(∀a o,H a=some o->¬Own own σ a->H' a=some o)->Rep (fun a=>Own own σ a\/H a=none) H' v d->D.rt v H':=by
 unfold kRt at h;rw [if_neg (by rw [hx];simp)] at h;exact h
theorem kRt.mk {own:Nat->Bool} {D:Ends} {σ:L2.St} {H:Hp} {d:Mi.D} (hx:own rtX=false) (h:∀v H',(∀a o,H a=some o->¬Own own σ a->H' a=some o)->Rep (fun a=>Own own σ a\/H a=none) H' v d->D.rt v H'):kRt own D σ H d:=by
 unfold kRt;rw [if_neg (by rw [hx];simp)];exact h
def kS (own:Nat->Bool) (D:Ends) (σ:L2.St) (H:Hp):Fl->Prop
 | .nx ρ=>∀σ' H',KU own σ H σ' H'->ES own H' σ' ρ->D.nx σ' H'
 | .bk ρ=>∀σ' H',KU own σ H σ' H'->ES own H' σ' ρ->D.bk σ' H'
 | .ct ρ=>∀σ' H',KU own σ H σ' H'->ES own H' σ' ρ->D.ct σ' H'
 | .rt d=>kRt own D σ H d
theorem kS.step {D:Ends} {σ σ':L2.St} {H H':Hp} {fl:Fl} (k:KU own σ H σ' H') (h:kS own D σ H fl):kS own D σ' H' fl:=by
 cases fl with
 | nx ρ=>exact fun σ2 H2 k2 e=>h σ2 H2 (k.trans k2) e
 | bk ρ=>exact fun σ2 H2 k2 e=>h σ2 H2 (k.trans k2) e
 | ct ρ=>exact fun σ2 H2 k2 e=>h σ2 H2 (k.trans k2) e
 | rt d=>
  have old:∀a,(Own own σ' a\/H' a=none)->Own own σ a\/H a=none:=fun a ha=>by
   cases q:H a with
   | none=>exact .inr rfl
   | some o=>
    refine .inl (Classical.byContradiction fun n=>?_);obtain ⟨e1,n1⟩:=k a o q n;rcases ha with ha|ha
    ·exact n1 ha
    ·rw [e1] at ha;cases ha
  have h:kRt own D σ H d:=h;show kRt own D σ' H' d;unfold kRt at h ⊢;by_cases hx:own rtX=true
  ·rw [if_pos hx] at h ⊢;obtain ⟨d0,ρ',e,g⟩:=h;exact ⟨d0,ρ',e,fun v σ2 H2 k2 E2 r=>g v σ2 H2 (k.trans k2) E2 (r.mono fun a ha=>⟨old a ha.1,ha.2⟩)⟩
  ·rw [if_neg hx] at h ⊢;exact fun v H2 hk r=>h v H2 (fun a o e n=>let ⟨e1,n1⟩:=k a o e n;hk a o e1 n1) (r.mono fun a ha=>old a ha)
noncomputable def tS (own:Nat->Bool) (f:FS):TS:=fun D σ H=>∃ρ fl,ES own H σ ρ/\f ρ=.ok fl/\kS own D σ H fl
theorem PS.imp {X:Cx} {st:Stmt} {t t':TS} (h:PS X st t) (i:∀D σ H,t' D σ H->t D σ H):PS X st t':=fun pins s σ H D I q=>h pins s σ H D I (i D σ H q)
theorem PSs.imp {X:Cx} {st:List Stmt} {t t':TS} (h:PSs X st t) (i:∀D σ H,t' D σ H->t D σ H):PSs X st t':=fun pins s σ H D I q=>h pins s σ H D I (i D σ H q)
section
variable {X:Cx} {a b c e:Expr} {pos pos':Pos} {fe:FE} {re:Bool} {gc:FT} {f g:FS} {st:Stmt} {rest s1 s2:List Stmt}
theorem gJ:PSs X [] (tS own RD):=PSs.imp xG fun D σ H ⟨ρ,fl,E,h,q⟩=>by
 cases h;exact q σ H (fun a o e n=>⟨e,n⟩) E
theorem aDu {D:Ends} {σ:L2.St} {H:Hp} (h:tS own (bA f g) D σ H):vP (tS own f) (tS own g) D σ H:=by
 obtain ⟨ρ,fl,E,h,q⟩:=h;obtain ⟨r,h1,h2⟩:=bI h;refine ⟨ρ,r,E,h1,?_⟩;cases r with
 | nx ρ'=>exact fun σ' H' k E'=>⟨ρ',fl,E',h2,q.step k⟩
 | bk ρ'=>cases h2;exact q
 | ct ρ'=>cases h2;exact q
 | rt d=>cases h2;exact q
theorem aJ (h1:PS X st (tS own f)) (h2:PSs X rest (tS own g)):PSs X (st::rest) (tS own (bA f g)):=PSs.imp (bN h1 h2) fun _ _ _=>aDu
theorem bK (h1:PS X st (tS own f)):PSs X [st] (tS own f):=cX h1
theorem nT (hc:PT X c (gT gc)) (ha:PSs X s1 (tS own f)) (hb:PSs X s2 (tS own g)):PS X (.If c s1 s2 pos) (tS own (sIf gc f g)):=PS.imp (N5 hc ha hb) fun D σ H ⟨ρ,fl,E,h,q⟩=>by
 obtain ⟨k,h1,h2⟩:=bI h;refine ⟨ρ,k,E.er,h1,fun H' s=>?_⟩;cases k with
 | true=>rw [if_pos rfl];rw [if_pos rfl] at h2;exact ⟨ρ,fl,E.same s,h2,q.step (.same s)⟩
 | false=>rw [if_neg (by simp)];rw [if_neg (by simp)] at h2;exact ⟨ρ,fl,E.same s,h2,q.step (.same s)⟩
theorem gK (he:PE X e (gE fe re)) (hx:own rtX=false:=by rfl):PS X (.Return (some e) pos) (tS own (xQ fe re)):=PS.imp (zL he) fun D σ H ⟨ρ,fl,E,h,q⟩=>by
 obtain ⟨d,h1,h2⟩:=bI h;split at h2
 ·rename_i hk;cases h2;refine ⟨ρ,d,E.er,h1,fun v H' s r n=>q.old hx v H' (fun a o e _=>s a o e) ?_⟩;rw [Bool.or_eq_true] at hk;rcases hk with hk|hk
  ·exact (n hk).mono fun a ha=>.inr ha
  ·exact r.bL hk
 ·cases h2
theorem HB {i:Nat} {x:Str} (ho:own i=true) (hN:X.N[i]?=some x) (hv:Vis X.env.scope x) (hd:nDb x:=by decide) (hcd:nCd x:=by decide) (hx:own rtX=false:=by rfl):PS X (.Return (some (.Name x pos')) pos) (tS own (PX i)):=
 PS.imp (zL (aW hN hv hd hcd)) fun D σ H ⟨ρ,fl,E,h,q⟩=>by
 obtain ⟨d,h1,h2⟩:=bI h;cases h2;obtain ⟨v,hv,r,e⟩:=E.er.var h1;obtain ⟨a,o,rfl,r2,hin,_⟩:=E.own i v ho hv;rw [e] at hin;exact ⟨_,hv,q.old hx _ H (fun a o e _=>e) (r.aJk hin (.inl ⟨i,ho,hv⟩))⟩
theorem jG {σ:L2.St} {i:Nat} {v:V} (ho:own i=false) (a:Addr):Own own (σ.set i (some v)) a↔Own own σ a:=by
 constructor
 ·rintro ⟨j,hj,e⟩;have:i≠j:=fun z=>by subst z;rw [ho] at hj;cases hj
  rw [List.getElem?_set_ne this] at e;exact ⟨j,hj,e⟩
 ·rintro ⟨j,hj,e⟩;have:i≠j:=fun z=>by subst z;rw [ho] at hj;cases hj
  exact ⟨j,hj,by rw [List.getElem?_set_ne this];exact e⟩
theorem cY {ρ:List D} {i j:Nat} {d:D}:(ρ.set i d).getD j .uD=if i=j/\i<ρ.length then d else ρ.getD j .uD:=by
 rw [List.getD_eq_getElem?_getD,List.getD_eq_getElem?_getD,List.getElem?_set];by_cases h:i=j
 ·subst h;by_cases h2:i<ρ.length
  ·simp [h2]
  ·simp [h2]
 ·simp [h]
theorem ES.set {H:Hp} {σ:L2.St} {ρ:List D} {i:Nat} {v:V} {d:D} (E:ES own H σ ρ) (ho:own i=false) (r:Rep (fun a=>¬Own own σ a) H v d):ES own H (σ.set i (some v)) (ρ.set i d):=by
 have hO:(fun a=>¬Own own (σ.set i (some v)) a)=fun a=>¬Own own σ a:=funext fun a=>by rw [jG ho]
 refine ⟨by simp [E.len],fun j hj=>?_,fun j w hj hw=>?_⟩
 ·rw [cY] at hj ⊢;rw [hO];by_cases h:i=j/\i<ρ.length
  ·rw [if_pos h];obtain ⟨rfl,hl⟩:=h;exact ⟨v,by rw [List.getElem?_set_self (by rw [E.len];exact hl)],fun _=>r⟩
  ·rw [if_neg h] at hj ⊢;obtain ⟨w,h1,h2⟩:=E.at_ j hj;by_cases hij:i=j
   ·subst hij;have:i<σ.length:=(List.getElem?_eq_some_iff.mp h1).1;rw [E.len] at this;exact absurd ⟨rfl,this⟩ h
   ·exact ⟨w,by rw [List.getElem?_set_ne hij];exact h1,h2⟩
 ·have hij:i≠j:=fun z=>by subst z;rw [ho] at hj;cases hj
  rw [List.getElem?_set_ne hij] at hw;rw [cY,if_neg fun z=>hij z.1];obtain ⟨a,o,h1,h2,h3,h4,h5,h6⟩:=E.own j w hj hw;refine ⟨a,o,h1,h2,h3,h4,h5,fun k hk hs=>h6 k hk ?_⟩;have hik:i≠k:=fun z=>by subst z;rw [ho] at hk;cases hk
  rwa [List.getElem?_set_ne hik] at hs
theorem ES.aNb {H H':Hp} {σ:L2.St} {ρ:List D} {i:Nat} {a:Addr} {o:HO} {d:D} (E:ES own H σ ρ) (s:bO H H') (ho:own i=true) (hn:H a=none) (r:Rep All H' (.ref a) d) (hin:inner d=true) (ha:H' a=some o) (hm:P_ o=true) :
  ES own H' (σ.set i (some (.ref a))) (ρ.set i d)/\KU own σ H (σ.set i (some (.ref a))) H':=by
 have hO:∀b,H b≠none->¬Own own σ b->¬Own own (σ.set i (some (.ref a))) b:=fun b hb n ⟨j,hj,e⟩=>by
  by_cases hij:i=j
  ·subst hij;by_cases hl:i<σ.length
   ·rw [List.getElem?_set_self hl] at e;cases e;exact hb hn
   ·rw [List.getElem?_set,if_pos rfl,if_neg hl] at e;cases e
  ·rw [List.getElem?_set_ne hij] at e;exact n ⟨j,hj,e⟩
 refine ⟨⟨by simp [E.len],fun j hj=>?_,fun j w hj hw=>?_⟩,fun b ob e n=>⟨s b ob e,hO b (by rw [e];simp) n⟩⟩
 ·rw [cY] at hj ⊢;by_cases h:i=j/\i<ρ.length
  ·rw [if_pos h];obtain ⟨rfl,hl⟩:=h;exact ⟨.ref a,by rw [List.getElem?_set_self (by rw [E.len];exact hl)],fun z=>by rw [ho] at z;cases z⟩
  ·rw [if_neg h] at hj ⊢;obtain ⟨w,h1,h2⟩:=E.at_ j hj;by_cases hij:i=j
   ·subst hij;have:i<σ.length:=(List.getElem?_eq_some_iff.mp h1).1;rw [E.len] at this;exact absurd ⟨rfl,this⟩ h
   ·exact ⟨w,by rw [List.getElem?_set_ne hij];exact h1,fun hj=>((h2 hj).dom.same s).mono fun b ⟨n,hb⟩=>hO b hb n⟩
 ·by_cases hij:i=j
  ·subst hij;have hl:i<σ.length:=by
    have:=(List.getElem?_eq_some_iff.mp hw).1;simpa using this
   rw [List.getElem?_set_self hl] at hw;cases hw;rw [cY,if_pos ⟨rfl,by rw [<-E.len];exact hl⟩];refine ⟨a,o,rfl,r,hin,ha,hm,fun k hk hs=>?_⟩;by_cases hik:i=k
   ·exact hik.symm
   ·rw [List.getElem?_set_ne hik] at hs;obtain ⟨o',h1,_⟩:=E.live ⟨k,hk,hs⟩;rw [hn] at h1;cases h1
  ·rw [List.getElem?_set_ne hij] at hw;rw [cY,if_neg fun z=>hij z.1];obtain ⟨b,ob,h1,h2,h3,h4,h5,h6⟩:=E.own j w hj hw;refine ⟨b,ob,h1,h2.same s,h3,s _ _ h4,h5,fun k hk hs=>?_⟩;by_cases hik:i=k
   ·subst hik;by_cases hl:i<σ.length
    ·rw [List.getElem?_set_self hl] at hs;cases hs;rw [hn] at h4;cases h4
    ·rw [List.getElem?_set,if_pos rfl,if_neg hl] at hs;cases hs
   ·rw [List.getElem?_set_ne hik] at hs;exact h6 k hk hs
theorem aH8 {P:Addr->Prop} {H:Hp} {v:V} {d:D} (r:Rep P H v d) (hin:inner d=true):∃a o,v=.ref a/\P a/\H a=some o/\P_ o=true:=by
 cases r with
 | lst e p r=>exact ⟨_,_,rfl,p,e,rfl⟩
 | cel e p r=>exact ⟨_,_,rfl,p,e,rfl⟩
 | dK e p r n=>exact ⟨_,_,rfl,p,e,rfl⟩
 | dT e p r n=>exact ⟨_,_,rfl,p,e,rfl⟩
 | fdK e r n=>cases hin
 | fdT e r n=>cases hin
 | _=>cases hin
theorem aDv {H H':Hp} {σ:L2.St} {ρ:List D} (E:ES own H σ ρ) {v:V} {d:D} (r:Rep (New H) H' v d):Rep (fun a=>¬Own own σ a) H' v d:=r.mono fun a ha ho=>by
 obtain ⟨o,h1,_⟩:=E.live ho;rw [show H a=none from ha] at h1;cases h1
theorem U5 {o:Bool} {i:Nat} {D':Ends} {σ:L2.St} {H:Hp} (ho:own i=o) (h:tS own (cJ o i fe re) D' σ H):zM (gE fe re) (eV i) D' σ H:=by
 obtain ⟨ρ,fl,E,h,q⟩:=h;obtain ⟨d,h1,h2⟩:=bI h;cases o with
 | true=>
  simp only [if_true] at h2;split at h2
  ·rename_i hk;cases h2;refine ⟨ρ,d,E.er,h1,fun v H' s r n=>?_⟩;rw [Bool.and_eq_true] at hk;obtain ⟨a,ob,rfl,hn,ha,hm⟩:=aH8 (n hk.1) hk.2;obtain ⟨E2,k⟩:=E.aNb s ho hn r hk.2 ha hm;exact q _ H' k E2
  ·cases h2
 | false=>
  simp only [Bool.false_eq_true,if_false] at h2;split at h2
  ·rename_i hk;cases h2;refine ⟨ρ,d,E.er,h1,fun v H' s r n=>?_⟩;rw [Bool.or_eq_true] at hk;have r2:Rep (fun a=>¬Own own σ a) H' v d:=by
    rcases hk with hk|hk
    ·exact aDv E (n hk)
    ·exact r.bL hk
   exact q _ H' (fun a ob e hn=>⟨s a ob e,by rw [jG ho];exact hn⟩) ((E.same s).set ho r2)
  ·cases h2
theorem aH9 {i:Nat} {x:Str} {o:Bool} (ho:own i=o) (hN:X.N.Nodup) (hi:X.N[i]?=some x) (hx:Loc X.env.scope x) (he:PE X e (gE fe re)) (hs:swapsWith e (some (.Name x pos')) pos.line X.env=pure false:=by rfl) (hf:X.fn x=true\/X.env.scope.names.lookup x=some .local:=by first|exact .inl rfl|exact .inr rfl|assumption) :
  PS X (.Assign [.Name x pos'] e pos) (tS own (cJ o i fe re)):=PS.imp (RV hN hi hx he hs hf) fun _ _ _=>U5 ho
theorem bY {i:Nat} {x:Str} {o:Bool} (he:PE X e (gE fe re)) (ho:own i=o:=by rfl) (hN:X.N.Nodup:=by assumption) (hi:X.N[i]?=some x:=by exact rfl) (hx:Loc X.env.scope x:=by trivial) (hs:swapsWith e (some (.Name x pos')) pos.line X.env=pure false:=by rfl) (hf:X.fn x=true\/X.env.scope.names.lookup x=some .local:=by first|exact .inl rfl|exact .inr rfl|assumption):PS X (.Assign [.Name x pos'] e pos) (tS own (cJ o i fe re)):=aH9 ho hN hi hx he hs hf
theorem ES.mut {H:Hp} {σ:L2.St} {ρ:List D} {i:Nat} {a:Addr} {o:HO} {d:D} (E:ES own H σ ρ) (ho:own i=true) (hi:σ[i]?=some (some (.ref a))) (hm:P_ o=true) (r:Rep All (upd H a o) (.ref a) d) (hin:inner d=true) :
  ES own (upd H a o) σ (ρ.set i d)/\KU own σ H σ (upd H a o):=by
 have hOa:Own own σ a:=⟨i,ho,hi⟩
 obtain ⟨a',oa,ea,_,_,hHa,hma,huq⟩:=E.own i _ ho hi;cases ea;have k:KU own σ H σ (upd H a o):=fun b ob e n=>⟨by rw [aN (fun z=>by subst z;exact n hOa)];exact e,n⟩
 have hl:i<ρ.length:=by rw [<-E.len];exact (List.getElem?_eq_some_iff.mp hi).1
 refine ⟨⟨by simp [E.len],fun j hj=>?_,fun j w hj hw=>?_⟩,k⟩
 ·rw [cY] at hj ⊢;by_cases h:i=j/\i<ρ.length
  ·obtain ⟨rfl,_⟩:=h;exact ⟨_,hi,fun z=>by rw [ho] at z;cases z⟩
  ·rw [if_neg h] at hj ⊢;obtain ⟨w,h1,h2⟩:=E.at_ j hj;exact ⟨w,h1,fun hj=>k.rep E (h2 hj)⟩
 ·by_cases hij:i=j
  ·subst hij;rw [hi] at hw;cases hw;rw [cY,if_pos ⟨rfl,hl⟩];exact ⟨a,o,rfl,r,hin,aF,hm,huq⟩
  ·rw [cY,if_neg fun z=>hij z.1];obtain ⟨b,ob,h1,h2,h3,h4,h5,h6⟩:=E.own j w hj hw;subst h1;have hba:b≠a:=fun z=>by subst z;exact hij (h6 i ho hi)
   refine ⟨b,ob,rfl,?_,h3,by rw [aN hba];exact h4,h5,h6⟩;refine (h2.aJk (P':=fun c=>c=b) h3 rfl).keep (fun c oc hc hp=>?_) fun _ _=>trivial
   rw [aN]
   ·exact hc
   ·intro z;subst z;rcases hp with hp|hp
    ·exact hba hp.symm
    ·rw [hHa] at hc;cases hc;rw [hma] at hp;cases hp
theorem ES.ownAt {H:Hp} {σ:L2.St} {ρ:List D} {i:Nat} (E:ES own H σ ρ) (ho:own i=true) (hd:ρ.getD i .uD≠.uD):∃a o,σ[i]?=some (some (.ref a))/\Rep All H (.ref a) (ρ.getD i .uD)/\inner (ρ.getD i .uD)=true/\H a=some o/\P_ o=true:=by
 obtain ⟨v,h1,_⟩:=E.at_ i hd;obtain ⟨a,o,rfl,h2,h3,h4,h5,_⟩:=E.own i v ho h1;exact ⟨a,o,h1,h2,h3,h4,h5⟩
theorem U6 {H:Hp} {a:Addr} {xs:List D} (r:Rep All H (.ref a) (.lst xs)):∃vs,H a=some (.lst vs)/\bF All H vs xs:=by
 cases r with
 | lst e _ r=>exact ⟨_,e,r⟩
theorem bF.upd {H:Hp} {a:Addr} {vs:List V} {xs:List D} {o:HO} {ob:HO} (r:bF All H vs xs) (hp:D.aG xs=true) (ha:H a=some ob) (hm:P_ ob=true):bF All (upd H a o) vs xs:=by
 refine (r.bL (P':=fun _=>False) hp).keep (fun c oc hc h=>?_) fun _ h=>h.elim
 rw [aN]
 ·exact hc
 ·intro z;subst z;rcases h with h|h
  ·exact h
  ·rw [ha] at hc;cases hc;rw [hm] at h;cases h
theorem iW {xs ys:List D}:D.aG (xs++ys)=(D.aG xs&&D.aG ys):=by
 induction xs with
 | nil=>simp [D.aG]
 | cons x xs ih=>rw [List.cons_append,D.aG,D.aG,ih,Bool.and_assoc]
theorem oH {i:Nat} {x:Str} {p1 apos cpos:Pos} (ho:own i=true) (hN:X.N[i]?=some x) (hv:Vis X.env.scope x) (he:PE X e (gE fe re)) (hd:nDb x:=by decide) (hcd:nCd x:=by decide)
  (hbase:attributeBase (.Name x p1) "append" X.env (eval (.Name x p1) X.env)=eval (.Name x p1) X.env:=by rfl)
  (hs1:starEach [e] X.env=(false,eval e X.env)::starEach [] X.env:=by rfl)
  (hfew:((backTo cpos (starEach [e] X.env)).all (fun x=>!x.1)&&(backToKw cpos (keywordEach [] X.env)).all (fun x=>x.1.isSome)
   && decide (([e]:List Expr).length+([]:List Keyword).length+(if ([]:List Keyword).isEmpty then 0 else 1)<30))=true:=by rfl)
  (hline:(apos.endLine==cpos.line)=true:=by rfl)
  (hs:swapsWith (.Call (.Attribute (.Name x p1) "append" apos) [e] [] cpos) none pos.line X.env=pure false:=by rfl) :
  PS X (.Expr (.Call (.Attribute (.Name x p1) "append" apos) [e] [] cpos) pos) (tS own (RG i fe)):=
 PS.imp (jY (PJ PySem.F.plainAttrs_list PySem.F.slot_list_append PySem.F.type_list_append j0 (aW hN hv hd hcd) (bD he dM hs1) hbase hfew hline hs1 rfl) hs) fun D' σ H ⟨ρ,fl,E,h,q⟩=>by
 obtain ⟨d,h1,h2⟩:=bI h;split at h2
 ·rename_i xs hx;split at h2
  ·rename_i hk;cases h2;rw [Bool.and_eq_true] at hk;obtain ⟨a,o,hσ,r,hin,ha,hm⟩:=E.ownAt ho (by rw [hx];intro z;cases z);rw [hx] at r hin;obtain ⟨vs,hl,rr⟩:=U6 r;refine ⟨_,hσ,.inl ⟨rfl,vs,.of hl⟩,ρ,d,E.er,h1,fun v H' s rv _=>⟨a,vs,v,rfl,rfl,s _ _ hl,by rw [rr.length];exact aC0 hk.1,?_⟩⟩;have E':=E.same s;have hl':=s _ _ hl;obtain ⟨E2,k2⟩:=E'.mut (o:=.lst (vs++[v])) (d:=.lst (xs++[d])) ho hσ rfl (.lst aF trivial (((rr.same s).snoc rv).upd (by rw [iW];simp only [Bool.and_eq_true];exact ⟨hin,by simp [D.aG,hk.2]⟩) hl' rfl)) (by show D.aG (xs++[d])=true;rw [iW];simp only [Bool.and_eq_true];exact ⟨hin,by simp [D.aG,hk.2]⟩);exact q _ _ ((KU.same s).trans k2) E2
  ·cases h2
 ·cases h2
end
end Mi
namespace L2
open PySem PySem.Spec PyProof.Rows
section
variable {X:Cx} {scope:Scope} {own:List Str}
theorem aA2 {y:Str} {py:Pos} {iy:Nat} (hNn:X.N.Nodup) (hiy:X.N[iy]?=some y) (hxy:Loc X.env.scope y) (hfy:X.fn y=true\/X.env.scope.names.lookup y=some .local) {pins:List (Addr×Obj)} {σ:St} {D:Ends} {p C:Addr} {H5:Hp} {s6:Shared} {m6:Str->Option Value} (f:Inv X pins σ H5 s6) (k:Q_ X pins H5 C) (n:s6.heap.Ns C m6) (q:eV iy (.ref p) σ H5 D.nx):compPost (model X.prog X.w) X.A X.xe (some (assign (.Name y py) X.env)) (fun _ s'=>SP X pins D .next s') (.ref p) C (.ok .next) s6:=by
 obtain ⟨oC,esC,epC,hoC,hdC,_⟩:=id n;have finP:=f.GD (pins':=pins++[(C,oC)]) fun p hp=>(List.mem_append.mp hp).elim (fun z=>f.pin p (List.mem_append_right _ z)) fun z=>by
  have z':p=(C,oC):=by simpa using z
  subst z';exact ⟨hoC,k.1,k.2.1,k.2.2.1,fun v z=>by rw [hdC] at z;cases z⟩
 refine thn (aQ (pos:=py) hNn hiy hxy hfy _ _ σ H5 (.ref p) (.ref p) D.nx finP rfl q) fun _ s7 ⟨σ7,H7,I7,q7⟩=>?_
 obtain ⟨g7,hC7,_⟩:=I7.pin (C,oC) (List.mem_append_right _ (List.mem_append_right _ (by simp)));refine ⟨m6,n.at' fun o e=>?_,fun h' sb=>⟨σ7,H7,Inv.turned (t':=s7.toks) I7.mV (fun b o hb e=>sb.extBut b o hb e) hC7 k.2.1 k.2.2.2.1 k.2.2.2.2.1 k.2.2.2.2.2,q7⟩⟩;rw [hoC] at e;cases e;exact g7
theorem aKk {elt iter tg:Expr} {ifs:List Expr} {wi:TI} {g:TG} {tc:TT} {te:TE} {pos:Pos} (S:fG X.N X.env.scope scope own) (hcalm:X.calm=true) (hi:PI X tg iter wi)
  (hg:∀X',fH X X' scope own->PG X' tg g) (hc:(ifs=[]/\tc=fun _ H Q=>Q true H)\/∃c,ifs=[c]/\∀X',fH X X' scope own->PT X' c tc) (he:∀X',fH X X' scope own->PE X' elt te)
  (hs:∀x,foldedSetIterable iter X.env x=pure x) {y:Str} {py pos2:Pos} {iy:Nat} (hNn:X.N.Nodup) (hiy:X.N[iy]?=some y) (hxy:Loc X.env.scope y) (hfy:X.fn y=true\/X.env.scope.names.lookup y=some .local) (hsw:swapsWith (.ListComp elt [⟨tg,iter,ifs,0⟩] scope pos) (some (.Name y py)) pos2.line X.env=pure true):PS X (.Assign [.Name y py] (.ListComp elt [⟨tg,iter,ifs,0⟩] scope pos) pos2) (zM (QC wi g tc te own.length) (eV iy)):=by
 intro pins s σ H D I h;rw [exec_Assign_Name_used _ _ _ _ hsw];refine wpAny_bind (wpAny_standAt (wpAny_bind ?_));show wpAny _ X.A (do let _ <- comprehension (.ListComp elt [⟨tg,iter,ifs,0⟩] scope pos) scope X.env _ (newList []) false (eval iter X.env) (some (assign (.Name y py) X.env))) _ _ s;exact wpAny_bind (wpAny_mono (T6 (QQ:=fun _ s'=>SP X pins D .next s') S hcalm hi hg hc he hs I h (aA2 hNn hiy hxy hfy)) (fun _ s' hq=>wpAny_pure (wpAny_pure hq)) fun _ _ e=>e)
theorem KH {elt iter tg:Expr} {wi:TI} {g:TG} {te:TE} {pos:Pos} (S:fG X.N X.env.scope scope own) (hcalm:X.calm=true) (hi:PI X tg iter wi)
  (hg:∀X',fH X X' scope own->PG X' tg g) (he:∀X',fH X X' scope own->PE X' elt te)
  (hs:∀x,foldedSetIterable iter X.env x=pure x) {y:Str} {py pos2:Pos} {iy:Nat} (hNn:X.N.Nodup) (hiy:X.N[iy]?=some y) (hxy:Loc X.env.scope y) (hfy:X.fn y=true\/X.env.scope.names.lookup y=some .local) (hsw:swapsWith (.ListComp elt [⟨tg,iter,[],0⟩] scope pos) (some (.Name y py)) pos2.line X.env=pure true):PS X (.Assign [.Name y py] (.ListComp elt [⟨tg,iter,[],0⟩] scope pos) pos2) (zM (QC wi g (fun _ H Q=>Q true H) te own.length) (eV iy)):=
 aKk S hcalm hi hg (.inl ⟨rfl,rfl⟩) he hs hNn hiy hxy hfy hsw
end
end L2
namespace Mi
open PySem L2 PySem.SeqAt PySem.Spec PyProof.Rows
variable [KFrag]
variable {own:Nat->Bool}
section
variable {X:Cx} {a b c e:Expr} {pos pos':Pos} {fb fe:FE} {re:Bool} {f g:FS} {st:Stmt} {s1 s2:List Stmt}
variable {scope:Scope} {ownN:List Str} {elt iter tg:Expr} {it:FI} {t:D->Res (List D)} {gt:TG}
theorem aDw {n m:Nat} {y:Str} {py pos2:Pos} {iy:Nat} {o:Bool} (S:fG X.N X.env.scope scope ownN) (hn:X.N.length=n) (hm:ownN.length=m) (hcalm:X.calm=true) (hi:PI X tg iter (gI X.K it)) (ht:TgC gt t n m) (hg:∀X',fH X X' scope ownN->PG X' tg gt) (he:∀X',fH X X' scope ownN->PE X' elt (gE fe re))
  (hs:∀x,foldedSetIterable iter X.env x=pure x) (ho:own iy=o) (hNn:X.N.Nodup) (hiy:X.N[iy]?=some y) (hxy:Loc X.env.scope y) (hfy:X.fn y=true\/X.env.scope.names.lookup y=some .local) (hsw:swapsWith (.ListComp elt [⟨tg,iter,[],0⟩] scope pos) (some (.Name y py)) pos2.line X.env=pure true) :
  PS X (.Assign [.Name y py] (.ListComp elt [⟨tg,iter,[],0⟩] scope pos) pos2) (tS own (cJ o iy (jQ n it t j7 fe re) true)):=by
 intro pins s σ H D I h;subst hm;refine KH S hcalm hi hg he hs hNn hiy hxy hfy hsw pins s σ H D I ?_;exact A_ ht (fun σ H Q h=>by obtain ⟨ρ,b,E,h,q⟩:=h;cases h;exact q H (bO.refl H)) (I.len.trans hn) (U5 ho h)
theorem xV {κ:Type} [DecidableEq κ] {p:κ×V} {r:List (κ×V)} {k:κ} {v:V} (e:p.1=k) (h:k∉r.map (·.1)):putK (p::r) k v=(k,v)::r:=by
 unfold putK;rw [if_pos (by simp [e]),List.map_cons,if_pos e,e]
 congr 1
 have:∀q∈r,(fun kv:κ×V=>if kv.1=k then (kv.1,v) else kv) q=id q:=fun q hq=>by
  have:q.1≠k:=fun z=>h (List.mem_map.mpr ⟨q,hq,z⟩)
  simp [this]
 rw [List.map_congr_left this,List.map_id]
theorem xW {κ:Type} [DecidableEq κ] {p:κ×V} {r:List (κ×V)} {k:κ} {v:V} (e:¬p.1=k):putK (p::r) k v=p::putK r k v:=by
 unfold putK;rw [List.any_cons,decide_eq_false e,Bool.false_or];split
 ·rw [List.map_cons,if_neg e]
 ·rfl
theorem gM {κ:Type} [DecidableEq κ] {k:κ} {v:V}:∀{kvs:List (κ×V)},(kvs.map (·.1)).Nodup->((putK kvs k v).map (·.1)).Nodup:=fun {kvs} h=>by
 by_cases hk:wG kvs k=none
 ·exact aDh v h hk
 ·unfold putK;rw [if_pos (by rw [mZ];exact Option.isSome_iff_ne_none.mpr hk),List.map_map];have:(fun x:κ×V=>x.1) ∘ (fun kv:κ×V=>if kv.1=k then (kv.1,v) else kv)=fun x=>x.1:=by
   funext q
   simp only [Function.comp];split <;> rfl
  rw [this];exact h
theorem xX {P:Addr->Prop} {H:Hp} {k:Key} {v:V} {d:D} (rv:Rep P H v d):∀{kvs:List (Key×V)} {ds:List (D×D)},d9 P H kvs ds->(kvs.map (·.1)).Nodup->d9 P H (putK kvs k v) (putD ds (kD k) d)
 | _,_,.nil,_=>.cons rv .nil
 | _,_,.cons (k:=k') (v:=v') (r:=rs) r t,hn=>by
  rw [List.map_cons] at hn;obtain ⟨h1,h2⟩:=List.nodup_cons.mp hn;rw [putD,UT];by_cases h:k'=k
  ·subst h;rw [if_pos (by simp),xV rfl h1];exact .cons rv t
  ·rw [if_neg (by simpa using h),xW (p:=(k',v')) h];exact .cons r (xX rv t h2)
theorem o5 {P:Addr->Prop} {H:Hp} {k:List Key} {v:V} {d:D} (rv:Rep P H v d):∀{kvs:List (List Key×V)} {ds:List (D×D)},jR P H kvs ds->(kvs.map (·.1)).Nodup->jR P H (putK kvs k v) (putD ds (.tup (k.map kD)) d)
 | _,_,.nil,_=>.cons rv .nil
 | _,_,.cons (k:=k') (v:=v') (r:=rs) r t,hn=>by
  rw [List.map_cons] at hn;obtain ⟨h1,h2⟩:=List.nodup_cons.mp hn;rw [putD,aDo];by_cases h:k'=k
  ·subst h;rw [if_pos (by simp),xV rfl h1];exact .cons rv t
  ·rw [if_neg (by simpa using h),xW (p:=(k',v')) h];exact .cons r (o5 rv t h2)
theorem d9.length {P:Addr->Prop} {H:Hp}:∀{kvs:List (Key×V)} {ds:List (D×D)},d9 P H kvs ds->kvs.length=ds.length
 | _,_,.nil=>rfl
 | _,_,.cons _ t=>by rw [List.length_cons,List.length_cons,d9.length t]
theorem jR.length {P:Addr->Prop} {H:Hp}:∀{kvs:List (List Key×V)} {ds:List (D×D)},jR P H kvs ds->kvs.length=ds.length
 | _,_,.nil=>rfl
 | _,_,.cons _ t=>by rw [List.length_cons,List.length_cons,jR.length t]
theorem uY {H:Hp} {a:Addr} {o ob:HO} (ha:H a=some ob) (hm:P_ ob=true):T3 (fun _=>False) H (L2.upd H a o):=fun c oc hc h=>by
 rw [aN]
 ·exact hc
 ·intro z;subst z;rcases h with h|h
  ·exact h.elim
  ·rw [ha] at hc;cases hc;rw [hm] at h;cases h
theorem iY {d:D} {k:D} (hd:d.pure=true):∀{ds:List (D×D)},D.aG (ds.map (·.2))=true->D.aG ((putD ds k d).map (·.2))=true
 | [],_=>by simp [putD,D.aG,hd]
 | (q,w)::r,h=>by
  rw [List.map_cons,D.aG,Bool.and_eq_true] at h;rw [putD];split
  ·rw [List.map_cons,D.aG,Bool.and_eq_true];exact ⟨hd,h.2⟩
  ·rw [List.map_cons,D.aG,Bool.and_eq_true];exact ⟨h.1,iY hd h.2⟩
theorem aKl {pins:List (Addr×Obj)} {s:Shared} {σ:L2.St} {H:Hp} {ad:Addr} {y v:V} {ds:List (D×D)} {k d:D} (I:Inv X pins σ H s) (rd:Rep All H (.ref ad) (.dct ds)) (hin:D.aG (ds.map (·.2))=true) (rk:Rep All H y k) (hk:sZ ds k=true) (hl:ds.length<sizeLine) (rv:Rep All H v d) (hd:d.pure=true) :
  ∃H1 o,Inv X pins σ H1 s/\aBw H1 ad y v (L2.upd H ad o)/\P_ o=true/\Rep All (L2.upd H ad o) (.ref ad) (.dct (putD ds k d)):=by
 unfold sZ at hk;rw [Bool.and_eq_true] at hk;obtain ⟨h1,h2⟩:=hk;have rv':Rep (fun _=>False) H v d:=rv.bL hd;cases rd with
 | @dK _ kvs ds e _ r n=>
  have hlen:=r.length;rcases gF h1 rk with ⟨q,rfl,rfl⟩|⟨b,ks,rfl,eb,rfl⟩
  ·refine ⟨H,.dK (putK kvs q v),I,.k e (by lia),rfl,.dK aF trivial ?_ (gM n)⟩;exact (xX rv' (r.bL hin) n).keep (uY e rfl) fun _ z=>z.elim
  ·cases r with
   | nil=>
    refine ⟨L2.upd H ad (.dT []),.dT (putK [] ks v),lJ I e,?_,rfl,.dT aF trivial ?_ (gM List.nodup_nil)⟩
    ·have:=aBw.t (H:=L2.upd H ad (.dT [])) (a:=ad) (b:=b) (kvs:=[]) (k:=ks) (v:=v) aF (by rw [aN (mR eb e (by intro z;cases z))];exact eb) hl;rwa [F_] at this
    ·exact (o5 (k:=ks) rv' .nil List.nodup_nil).keep (uY e rfl) fun _ z=>z.elim
   | cons r t=>
    rw [List.all_cons,lH] at h2;simp [isTup] at h2
 | @dT _ kvs ds e _ r n=>
  have hlen:=r.length;rcases gF h1 rk with ⟨q,rfl,rfl⟩|⟨b,ks,rfl,eb,rfl⟩
  ·cases r with
   | nil=>
    refine ⟨L2.upd H ad (.dK []),.dK (putK [] q v),iV I e,?_,rfl,.dK aF trivial ?_ (gM List.nodup_nil)⟩
    ·have:=aBw.k (H:=L2.upd H ad (.dK [])) (a:=ad) (kvs:=[]) (k:=q) (v:=v) aF hl;rwa [F_] at this
    ·exact (xX (k:=q) rv' .nil List.nodup_nil).keep (uY e rfl) fun _ z=>z.elim
   | cons r t=>
    rw [List.all_cons,lH] at h2;simp [isTup] at h2
  ·refine ⟨H,.dT (putK kvs ks v),I,.t e eb (by lia),rfl,.dT aF trivial ?_ (gM n)⟩;exact (o5 rv' (r.bL hin) n).keep (uY e rfl) fun _ z=>z.elim
theorem aC3 {i:Nat} {x:Str} {p1:Pos} {value k:Expr} {fv fk:FE} {rv rk:Bool} (hu:X.A.units+20<cLine) (ho:own i=true) (hN:X.N[i]?=some x) (hvi:Vis X.env.scope x) (hk:PE X k (gE fk rk)) (hv:PE X value (gE fv rv))
  (hs:swapsWith value (some (.Subscript (.Name x p1) k pos')) pos.line X.env=pure false:=by rfl) (hd:nDb x:=by decide) (hcd:nCd x:=by decide) :
  PS X (.Assign [.Subscript (.Name x p1) k pos'] value pos) (tS own (aDl i fk fv)):=by
 intro pins s σ H D' I ⟨ρ,fl,E,h,q⟩;obtain ⟨d,h0,h⟩:=bI h;obtain ⟨kd,h1,h2⟩:=bI h;split at h2
 ·rename_i kvs hx;split at h2
  ·rename_i hg;cases h2;simp only [Bool.and_eq_true] at hg;obtain ⟨⟨hg1,hg2⟩,hg3⟩:=hg;obtain ⟨a,o,hσ,r,hin,ha,hm⟩:=E.ownAt ho (by rw [hx];intro z;cases z);rw [hx] at r hin;refine wpAny_Assign_Subscript (thn (hv pins s σ H (fun v H1=>bO H H1/\Rep All H1 v d) I ⟨ρ,d,E.er,h0,fun v H1 s1 r1 _=>⟨s1,r1⟩⟩) fun rr s1 ⟨v,H1,I1,rv1,sm1,rp1⟩=>
    thn (aW hN hvi hd hcd pins s1 σ H1 (fun w H2=>w=.ref a/\H2=H1) I1 ⟨_,hσ,rfl,rfl⟩) fun u s2 ⟨xx,H2,I2,rx,ex,eH⟩=>
    thn (hk pins s2 σ H2 (fun w H3=>bO H2 H3/\Rep All H3 w kd) I2 ⟨ρ,kd,by rw [eH];exact E.er.same sm1,h1,fun v H1 s1 r1 _=>⟨s1,r1⟩⟩) fun iv s3 ⟨y,H3,I3,ry,sm3,rp3⟩=>?_) hs
   subst ex eH;obtain rfl:u=Value.ref a:=rx;have sm:=sm1.trans sm3;obtain ⟨H4,o4,I4,g,hmo,rp⟩:=aKl I3 (r.same sm) hin rp3 hg2 (aC0 hg1) (rp1.same sm3) hg3;obtain ⟨E2,k2⟩:=(E.same sm).mut ho hσ hmo rp (iY hg3 hin);exact S8 (by lia) I4 g ry rv1 fun s4 I5=>⟨σ,_,I5,q _ _ ((KU.same sm).trans k2) E2⟩
  ·cases h2
 ·cases h2
def TgS (own:Nat->Bool) (g:TG) (t:D->List D->Res (List D)):Prop:=∀(v:V) (d:D) (ρ ρ':List D) (σ:L2.St) (H:Hp) (Q:L2.St->Hp->Prop),ES own H σ ρ->Rep (fun a=>¬Own own σ a) H v d->t d ρ=.ok ρ'->
 (∀σ',ES own H σ' ρ'->(∀a,Own own σ' a↔Own own σ a)->Q σ' H)->g v σ H Q
theorem uZ {i:Nat} (ho:own i=false):TgS own (eV i) (tg1 i):=fun v d ρ ρ' σ H Q E r h q=>by
 cases h;exact q _ (E.set ho r) fun a=>jG ho a
theorem ES.sets {H:Hp}:∀{is:List Nat} {vs:List V} {ds:List D} {σ:L2.St} {ρ:List D},(∀i∈is,own i=false)->ES own H σ ρ->bF (fun a=>¬Own own σ a) H vs ds->ES own H (QF is vs σ) (G3 is ds ρ)/\∀a,Own own (QF is vs σ) a↔Own own σ a
 | [],_,_,_,_,_,E,_=>by simp only [QF,G3];exact ⟨E,fun _=>trivial⟩
 | i::is,_,_,σ,ρ,h,E,.nil=>by simp only [QF,G3];exact ⟨E,fun _=>trivial⟩
 | i::is,_,_,σ,ρ,h,E,.cons (v:=v) r t=>by
  have ho:=h i (List.mem_cons_self ..);have hO:(fun a=>¬Own own (σ.set i (some v)) a)=fun a=>¬Own own σ a:=funext fun a=>by rw [jG ho]
  obtain ⟨h1,h2⟩:=ES.sets (is:=is) (fun j hj=>h j (List.mem_cons_of_mem _ hj)) (E.set ho r) (by rw [hO];exact t);exact ⟨h1,fun a=>(h2 a).trans (jG ho a)⟩
theorem HD (K:PySem.W.Frag) {is:List Nat} (ho:∀i∈is,own i=false):TgS own (aJ9 K is.length (gIx is)) (tgN is):=fun v d ρ ρ' σ H Q E r h q=>by
 cases d <;> simp only [tgN] at h <;> (try (cases h;done))
 split at h
 ·rename_i hl;cases h;have hl':=of_decide_eq_true hl;obtain ⟨a,xs,rfl,e,rr⟩:=r.eO;obtain ⟨h1,h2⟩:=E.sets ho rr;exact ⟨a,xs,rfl,.of e,by rw [rr.length];exact hl',G_ _ _ _ (by rw [rr.length];exact hl') (q _ h1 h2)⟩
 ·cases h
theorem ItQ.ku {K:PySem.W.Frag} {J:It} {items:List D} {σ σ':L2.St} {H H':Hp} {ρ:List D} (h:ItQ K (fun a=>¬Own own σ a) J H items) (k:KU own σ H σ' H') (E:ES own H σ ρ):ItQ K (fun a=>¬Own own σ' a) J H' items:=by
 cases h with
 | lst a e r=>exact .lst a e (k.rep E r)
 | tup a e r=>exact .tup a e (k.rep E r)
 | rng lo n e r=>exact .rng lo n e r
 | chs x e r=>exact .chs x e r
 | enm a ds e r h=>exact .enm a ds e (k.rep E r) h
 | enf m a ds e r h=>exact .enf m a ds e (k.rep E r) h
 | zip a b ds es e r q n h=>exact .zip a b ds es e (k.rep E r) (k.rep E q) n h
 | rev a ds e r h=>exact .rev a ds e (k.rep E r) h
 | scr a hK e r=>exact .scr a hK e (k.rep E r)
theorem KJ {K:PySem.W.Frag} {g:TG} {t:D->List D->Res (List D)} {body:FS} {D':Ends} {J:It} {items:List D} {σ:L2.St} {H1:Hp} {ρ:List D} {fl:Fl} (tg:TgS own g t) (E:ES own H1 σ ρ) (hJ:ItQ K (fun a=>¬Own own σ a) J H1 items) (hf:zY t body items ρ=.ok fl) (q:kS own D' σ H1 fl) :
  ∃W:Nat->Nat->L2.St->Hp->Prop,(∃m,W 0 m σ H1)/\∀i m σ H,W i m σ H->
   (J.stop i H/\D'.nx σ H)\/(J.go i H/\∃N:L2.St->Hp->Prop,(∀σ' H',N σ' H'->∃m',m'<m/\W (i+1) m' σ' H')/\∀x H',J.yld i H x H'->g x σ H' fun σ2 H2=>tS own body {D' with nx:=N,ct:=N,bk:=D'.nx} σ2 H2):=by
 refine ⟨fun i m σ' H'=>m=items.length-i/\i<=items.length/\ItQ K (fun a=>¬Own own σ' a) J H' items/\∃ρ',ES own H' σ' ρ'/\zY t body (items.drop i) ρ'=.ok fl/\kS own D' σ' H' fl,⟨items.length,rfl,Nat.zero_le _,hJ,ρ,E,hf,q⟩,?_⟩;rintro i m σ' H' ⟨rfl,hi,hJ',ρ',E',hf',q'⟩;rcases Nat.lt_or_ge i items.length with hlt|hge
 ·refine .inr ?_;have e:items[i]?=some items[i]:=List.getElem?_eq_getElem hlt;obtain ⟨g1,g2⟩:=hJ'.go e;rw [List.drop_eq_getElem_cons hlt] at hf';obtain ⟨ρ1,h1,hf2⟩:=bI hf';obtain ⟨r,h2,hf3⟩:=bI hf2;refine ⟨g1,fun σ2 H2=>ItQ K (fun a=>¬Own own σ2 a) J H2 items/\∃ρ',ES own H2 σ2 ρ'/\zY t body (items.drop (i+1)) ρ'=.ok fl/\kS own D' σ2 H2 fl,fun σ2 H2 ⟨n1,n2⟩=>⟨items.length-(i+1),by lia,rfl,hlt,n1,n2⟩,fun x H2 hy=>?_⟩;obtain ⟨sH,rx⟩:=g2 x H2 hy;have ks:KU own σ' H' σ' H2:=fun a o e n=>⟨sH a o e,n⟩
  have hJ':=hJ'.ku ks E';have q':=q'.step ks;have E':=E'.same sH;refine tg x items[i] ρ' ρ1 σ' H2 _ E' rx h1 fun σ2 E2 hO=>?_
  have k0:KU own σ' H2 σ2 H2:=fun a o e n=>⟨e,by rw [hO];exact n⟩
  have hJ2:=hJ'.ku k0 E';have q2:=q'.step k0;refine ⟨ρ1,r,E2,h2,?_⟩;cases r with
  | nx ρ2=>exact fun σ3 H3 k3 E3=>⟨hJ2.ku k3 E2,ρ2,E3,hf3,q2.step k3⟩
  | ct ρ2=>exact fun σ3 H3 k3 E3=>⟨hJ2.ku k3 E2,ρ2,E3,hf3,q2.step k3⟩
  | bk ρ2=>cases hf3;exact fun σ3 H3 k3 E3=>q2 σ3 H3 k3 E3
  | rt d=>cases hf3;exact q2
 ·refine .inl ⟨hJ'.stop hge,?_⟩;rw [List.drop_eq_nil_of_le hge] at hf';cases hf';exact q' σ' H' (fun a o e n=>⟨e,n⟩) E'
theorem wI {tg iter:Expr} {body:List Stmt} {g:TG} {t:D->List D->Res (List D)} {it:FI} {fb:FS} (hp:PassesOwn (model X.prog X.w) X.A X.env X.xe) (hc:X.calm=true) (hi:PI X tg iter (gI X.K it)) (ht:TgS own g t) (hg:PG X tg g) (hb:PSs X body (tS own fb))
  (hs:∀x,foldedSetIterable iter X.env x=pure x:=by intro _;rfl):PS X (.For tg iter body [] pos) (tS own (Y0 it t fb)):=PS.imp (JR hp hc hi hg hb hs) fun D' σ H ⟨ρ,fl,E,h,q⟩=>by
 obtain ⟨⟨items,k⟩,h1,h2⟩:=bI h;split at h2
 ·rename_i hk;exact ⟨ρ,items,k,E.er,h1,fun J H1 s1 _ hJ=>KJ ht (E.same s1) ((hJ hk).keep (fun _ _ e _=>e) fun a ha ho=>by
   obtain ⟨o,e1,_⟩:=E.live ho;rw [show H a=none from ha] at e1;cases e1) h2 (q.step (.same s1))⟩
 ·cases h2
theorem aA3 {own:Nat->Bool} {N ps:List Str} {vs:List V} {ds:List D} {H:Hp} (hst:start N vs=vs.map some++List.replicate (N.length-ps.length) none) (hl:ds.length=ps.length) (r:bF All H vs ds) (hown:∀i,i<ps.length->own i=false) (noown:∀a,¬Own own (start N vs) a):ES own H (start N vs) (ds++List.replicate (N.length-ps.length) .uD):=by
 refine ⟨by rw [hst];simp [r.length],fun i hi=>?_,fun i v hi hv=>?_⟩
 ·have hlt:i<ds.length:=Nat.lt_of_not_le fun hge=>hi (by
   rw [List.getD_eq_getElem?_getD,List.getElem?_append_right hge,List.getElem?_replicate];split <;> rfl)
  have e:(ds++List.replicate (N.length-ps.length) D.uD).getD i .uD=ds[i]:=by
   rw [List.getD_eq_getElem?_getD,List.getElem?_append_left hlt,List.getElem?_eq_getElem hlt];rfl
  obtain ⟨v,g1,g2⟩:=r.get (i:=i) (d:=ds[i]) (by simp [hlt]);refine ⟨v,by rw [hst,List.getElem?_append_left (by simp [r.length,hlt])];simp [g1],fun _=>?_⟩;rw [e];exact g2.mono fun a _=>noown a
 ·exfalso;rw [hst] at hv;by_cases h:i<ps.length
  ·rw [hown i h] at hi;cases hi
  ·rw [List.getElem?_append_right (by simp [r.length,hl];lia)] at hv;rw [List.getElem?_replicate] at hv;split at hv <;> cases hv
theorem aDx {own:Nat->Bool} {N ps:List Str} {f:FS} {vs:List V} {H:Hp} {Q:VK} {E:XK} (hx:own rtX=false) (hown:∀i,i<ps.length->own i=false) (h0:spD (fnS ps.length N.length f) ps.length vs H Q E):tS own f {nx:=fun _ H'=>Q .non H',rt:=Q} (start N vs) H:=by
 obtain ⟨ds,d,hl,r,h,q⟩:=h0
 ·obtain ⟨fl,h1,h2⟩:=bI h;have hst:start N vs=vs.map some++List.replicate (N.length-ps.length) none:=by
   show vs.map some++List.replicate (N.length-vs.length) none=_;rw [r.length,hl]
  have noown:∀a,¬Own own (start N vs) a:=fun a ⟨i,hi,e⟩=>by
   rw [hst] at e;by_cases h:i<ps.length
   ·rw [hown i h] at hi;cases hi
   ·rw [List.getElem?_append_right (by simp [r.length,hl];lia)] at e;rw [List.getElem?_replicate] at e;split at e <;> cases e
  have E0:ES own H (start N vs) (ds++List.replicate (N.length-ps.length) .uD):=aA3 hst hl r hown noown;refine ⟨_,fl,E0,h1,?_⟩;have sm:∀{σ':L2.St} {H':Hp},KU own (start N vs) H σ' H'->bO H H':=fun k a o e=>(k a o e (noown a)).1
  cases fl with
  | nx ρ'=>cases h2;exact fun σ' H' k E'=>q .non H' (sm k) .non fun _=>.non
  | rt d'=>
   cases h2;refine kRt.mk hx fun v H' hk rp=>q v H' (fun a o e=>hk a o e (noown a)) rp.all fun _=>rp.mono fun a ha=>?_
   rcases ha with ha|ha
   ·exact absurd ha (noown a)
   ·exact ha
  | bk ρ'=>cases h2
  | ct ρ'=>cases h2
theorem aHa {P:Program} {w:World} {K:PySem.W.Frag} {mg:Str->Option Value} {base:Heap} {x qual:Str} {st:Stmt} {fad:Addr} {fd:FuncData} {N ps:List Str} {k:Nat} {f:FS} (F:Fun K x qual st fad fd) (S:cC N ps (aM st)) (own:Nat->Bool) (hown:∀i,i<ps.length->own i=false) (hNl:ps.length<=N.length)
  (hbody:∀(cdv:Value) (A:Around) (outer:List Env) (s:Shared) (H:Hp) (E:XK),lG k (A.deeper (envOfC qual (aM st) s.heap.objs.size fad cdv))->PSs (JV CX0 P w K mg base N qual (aM st) fad cdv A outer s H E).nox (cN st) (tS own f)) (hx:own rtX=false:=by rfl):jU P w K mg base CX0 (k+1) fad fd ps (spD (fnS ps.length N.length f) ps.length):=
 F.ok S (fun vs H Q E h=>aDr h) fun cdv A outer s H vs Q E hr h=>⟨_,hbody cdv A outer s H E hr,aDx hx hown h⟩
end
structure aKm where
 s₀:Shared
 H₀:Hp
 env:Env
 outer:List Env
 stack:List Env
 ex:List Addr
 fn:Str->Bool
 pn:List (Addr×Obj)
abbrev mkC (X:Cx) (scope:Scope) (ownN:List Str) (y:aKm):Cx:=
 {X with N:=X.N.map (l_ ownN)++ownN,s₀:=y.s₀,H₀:=y.H₀,env:={y.env with scope:=relabel scope X.env},outer:=y.outer,stack:=y.stack,ex:=y.ex,fn:=y.fn,pn:=y.pn,xe:=fun _ _=>False}
theorem wJ {X X':Cx} {scope:Scope} {ownN:List Str} (cc:fH X X' scope ownN):∃y,X'=mkC X scope ownN y:=by
 refine ⟨⟨X'.s₀,X'.H₀,X'.env,X'.outer,X'.stack,X'.ex,X'.fn,X'.pn⟩,?_⟩;obtain ⟨h1,h2,h3,h4,h5,h6,h7,h8,h9,h10⟩:=cc;cases X' with
 | mk a b c d e f g h i j k l m n o p q=>
  cases j;dsimp only at *;subst h1 h2 h3 h4 h5 h6 h7 h8 h9 h10;rfl
section
variable {own:Nat->Bool} {X:Cx} {scope:Scope} {ownN:List Str} {elt iter tg:Expr} {it:FI} {t:D->Res (List D)} {g:TG} {fe:FE} {re:Bool} {pos:Pos} {n m:Nat}
theorem o8 (S:fG X.N X.env.scope scope ownN) (hn:X.N.length=n) (hm:ownN.length=m) (hcalm:X.calm=true) (hi:PI X tg iter (gI X.K it)) (ht:TgC g t n m) (hg:∀y,PG (mkC X scope ownN y) tg g) (he:∀y,PE (mkC X scope ownN y) elt (gE fe re))
  (hs:∀x,foldedSetIterable iter X.env x=pure x):PE X (.ListComp elt [⟨tg,iter,[],0⟩] scope pos) (gE (jQ n it t j7 fe re) true):=
 aDt S hn hm hcalm hi ht (fun X' cc=>by obtain ⟨y,rfl⟩:=wJ cc;exact hg y) (fun X' cc=>by obtain ⟨y,rfl⟩:=wJ cc;exact he y) hs
theorem KN {y:Str} {py pos2:Pos} {iy:Nat} {o:Bool} (S:fG X.N X.env.scope scope ownN) (hn:X.N.length=n) (hm:ownN.length=m) (hcalm:X.calm=true) (hi:PI X tg iter (gI X.K it)) (ht:TgC g t n m) (hg:∀y,PG (mkC X scope ownN y) tg g) (he:∀y,PE (mkC X scope ownN y) elt (gE fe re))
  (hs:∀x,foldedSetIterable iter X.env x=pure x) (ho:own iy=o) (hNn:X.N.Nodup) (hiy:X.N[iy]?=some y) (hxy:Loc X.env.scope y) (hfy:X.fn y=true\/X.env.scope.names.lookup y=some .local) (hsw:swapsWith (.ListComp elt [⟨tg,iter,[],0⟩] scope pos) (some (.Name y py)) pos2.line X.env=pure true) :
  PS X (.Assign [.Name y py] (.ListComp elt [⟨tg,iter,[],0⟩] scope pos) pos2) (tS own (cJ o iy (jQ n it t j7 fe re) true)):=
 aDw S hn hm hcalm hi ht (fun X' cc=>by obtain ⟨y,rfl⟩:=wJ cc;exact hg y) (fun X' cc=>by obtain ⟨y,rfl⟩:=wJ cc;exact he y) hs ho hNn hiy hxy hfy hsw
end
def iZ (P:Program) (w:World) (K:PySem.W.Frag) (mg:Str->Option Value) (base:Heap) (k:Nat) (x:Str) (n:Nat) (f:List D->Res D):Prop:=
 ∃(fad:Addr) (fd:FuncData) (ps:List Str),jU P w K mg base CX0 k fad fd ps (spD f n)/\mg x=some (.ref fad)/\PySem.W.keepIn K (.ref fad)=true/\Binds K fd ps []
section
variable {X:Cx} {e:Expr} {es:List Expr} {pos p:Pos} {fs:FA} {rr:Bool} {x:Str} {k n:Nat} {f:List D->Res D}
theorem eE {k':Nat} (C:iZ X.prog X.w X.K X.mg X.base k x n f) (hr:lG k' X.A) (hkk:k<=k') (hg:Gl X x) (ha:PA X (e::es) (gA fs rr)) (hdb:nDb x:=by decide) (he:starEach (e::es) X.env=(false,eval e X.env)::starEach es X.env:=by rfl) (hpl:(backTo pos (starEach es X.env)).any (·.1)=false:=by rfl) :
  PE X (.Call (.Name x p) (e::es) [] pos) (gE (aX (oF n f) fs) true):=by
 obtain ⟨fad,fd,ps,F,hm,hk,hb⟩:=C;exact aDs F (hr.mono hkk) hg hm hk hb ha hdb he hpl
theorem m9 {P:Program} {w:World} {K:PySem.W.Frag} {mg:Str->Option Value} {base:Heap} {st:Stmt} {fad:Addr} {fd:FuncData} {N ps:List Str} {fs:FS} (F:Fun K x x st fad fd) (hm:mg x=some (.ref fad)) (hb:Binds K fd ps []) (S:cC N ps (aM st)) (own:Nat->Bool) (hown:∀i,i<ps.length->own i=false) (hNl:ps.length<=N.length)
  (hbody:∀(cdv:Value) (A:Around) (outer:List Env) (s:Shared) (H:Hp) (E:XK),lG k (A.deeper (envOfC x (aM st) s.heap.objs.size fad cdv))->PSs (JV CX0 P w K mg base N x (aM st) fad cdv A outer s H E).nox (cN st) (tS own fs)) (hx:own rtX=false:=by rfl):iZ P w K mg base (k+1) x ps.length (fnS ps.length N.length fs):=
 ⟨fad,fd,ps,aHa F S own hown hNl hbody hx,hm,F.kp,hb⟩
end
theorem FN {A:Around} {k:Nat} (hr:lG k A):A.units+20<cLine:=Nat.lt_of_le_of_lt (Nat.add_le_add_left (by decide:20<=64) _) hr.units
structure Bt (mg:Str->Option Value):Prop where
 len:mg "len" = none
 min:mg "min" = none
 max:mg "max" = none
 list:mg "list" = none
 tuple:mg "tuple" = none
 sorted:mg "sorted" = none
 range:mg "range" = none
 isi:mg "isinstance" = none
 int:mg "int" = none
 bool:mg "bool" = none
 str:mg "str" = none
 dict:mg "dict" = none
 all:mg "all" = none
 enum:mg "enumerate" = none
 sum:mg "sum" = none
 zip:mg "zip" = none
 abs:mg "abs" = none
 reversed:mg "reversed" = none
theorem m_:bootBuiltins "len" = some (.builtin "len"):=by decide +kernel
theorem eF:bootBuiltins "isinstance" = some (.builtin "isinstance"):=by decide +kernel
theorem HF:bootBuiltins "list" = some (.type "list"):=by decide +kernel
theorem fC:bootBuiltins "tuple" = some (.type "tuple"):=by decide +kernel
theorem U7:bootBuiltins "int" = some (.type "int"):=by decide +kernel
theorem aDy:bootBuiltins "bool" = some (.type "bool"):=by decide +kernel
theorem ints_rep {P:Addr->Prop} {H:Hp}:∀ns:List Int,bF P H (ns.map V.int) (ns.map D.int)
 | []=>.nil
 | n::ns=>.cons (.int n) (ints_rep ns)
end Mi
namespace Mi
open PySem L2
theorem U8 {K:PySem.W.Frag} {f:List D->Res D} {H:Hp} {a:Addr} {ns:List Int} {E:XK} (main:∀ns:List Int,ns.length<=63->f [.scr (ns.map D.int)]=.ok (.bl true)) (hl:ns.length<=63) (hO:Only H) (hS:SqL K H a (ns.map V.int)):@spD ⟨K⟩ f 1 [.ref a] H (fun v _=>v=.bl true) E:=by
 letI:KFrag:=⟨K⟩
 refine ⟨[.scr (ns.map D.int)],.bl true,rfl,.cons (.frz ?_ (ints_rep ns)) .nil,main ns hl,fun v H' s r n=>by cases r;rfl⟩;rcases hS with (h|⟨o,h⟩)|h
 ·rcases hO a with z|⟨o,xs,z⟩
  ·rw [h] at z;cases z
  ·rw [h] at z;cases z
 ·exact .inl ⟨o,h⟩
 ·exact .inr h
end Mi
namespace Mi
open PySem L2 PySem.SeqAt PySem.Spec PyProof.Rows
noncomputable def nH (o:TJ):D->D->Res D
 | .int a,.int b=>.ok (.bl (o.int a b))
 | .str a,.str b=>.ok (.bl (o.str a b))
 | _,_=>.bad
variable [KFrag]
theorem aDz {X:Cx} {op:CmpOp} {o:TJ} (hi:∀(prog:Program) (w:World) (A:Around) (E:Value->Shared->Prop) (Q:Value->Shared->Prop) (s:Shared) (i j:Int) (t t':Tok),Q (.bool (o.int i j)) s->wpAny (model prog w) A (compareOp op (.int i t) (.int j t')) Q E s)
  (hs:∀(prog:Program) (w:World) (A:Around) (E:Value->Shared->Prop) (Q:Value->Shared->Prop) (s:Shared) (i j:Str) (t t':Tok),Q (.bool (o.str i j)) s->wpAny (model prog w) A (compareOp op (.str i t) (.str j t')) Q E s):OpR X (compareOp op) (r2 (nH o) true):=by
 intro pins s σ H x y v u Q I rx ry ⟨a,b,d,p,q,e,k⟩;unfold nH at e;split at e
 ·cases e;cases p;cases q;obtain ⟨t,rfl⟩:=rx;obtain ⟨t',rfl⟩:=ry;exact hi _ _ _ _ _ _ _ _ _ _ ⟨.bl _,H,I,rfl,k.bl⟩
 ·cases e;cases p;cases q;obtain ⟨t,rfl⟩:=rx;obtain ⟨t',rfl⟩:=ry;exact hs _ _ _ _ _ _ _ _ _ _ ⟨.bl _,H,I,rfl,k.bl⟩
 ·cases e
theorem aA4 {X:Cx}:OpR X (compareOp .Lt) (r2 (nH .lt) true):=aDz (fun _ _ _ _ _ _ _ _ _ _ h=>lt_int h) fun _ _ _ _ _ _ _ _ _ _ h=>lt_str h
theorem aE0 {X:Cx}:OpR X (compareOp .LtE) (r2 (nH .le) true):=aDz (fun _ _ _ _ _ _ _ _ _ _ h=>le_int h) fun _ _ _ _ _ _ _ _ _ _ h=>PySem.P.le_str h
theorem aKn {X:Cx}:OpR X (compareOp .GtE) (r2 (nH .ge) true):=aDz (fun _ _ _ _ _ _ _ _ _ _ h=>ge_int h) fun _ _ _ _ _ _ _ _ _ _ h=>PySem.P.ge_str h
end Mi
namespace Mi
open PySem L2 PySem.SeqAt PySem.Spec PyProof.Rows
def jH:D->D->Res D
 | .str x,.int n=>if decide (0<=n)&&decide (n<=100000)&&decide (x.length*n.toNat<=lim) then .ok (.str (Txt.mul x n)) else .bad
 | a,b=>aR .mul a b
def inX:D->D->Res D
 | .str c,.str x=>.ok (.bl (!(Builtin.Str.occurrences x c 0 x.length 1).isEmpty))
 | a,b=>mO .isin a b
def aHb:D->Option Int->Option Int->Res D
 | .str x,lo,hi=>if decide (x.length<=lim) then .ok (.str (Txt.slice x lo hi)) else .bad
 | d,lo,hi=>aJi d lo hi
def mQ (a:FE) (lo hi:List D->Res (Option Int)):FE:=fun ρ=>do let x <- a ρ;let l <- lo ρ;let h <- hi ρ;aHb x l h
def BJ:D->Res (List D)
 | .str x=>if decide (x.length<=lim) then .ok (z9 x) else .bad
 | d=>J3 d
def cO (a:FE) (fr:Bool):FI:=fun ρ=>do let x <- a ρ;let xs <- BJ x;pure (xs,fr||x.pure)
noncomputable def u_:List D->Option (List Str)
 | []=>some []
 | .str x::r=>(u_ r).map (x::·)
 | _::_=>none
def joinM:D->List D->Res D
 | .str sep,[.lst ds]=>match u_ ds with
  | some ts=>if JoinOk sep ts then .ok (.str (Txt.join sep ts)) else .bad
  | none=>.bad
 | _,_=>.bad
variable [KFrag]
section
variable {X:Cx}
theorem dW:OpR X (binaryOp .Mult) (r2 jH true):=by
 intro pins s σ H x y v u Q I rx ry ⟨a,b,d,p,q,e,k⟩;by_cases hs:∃z n,a=.str z/\b=.int n
 ·obtain ⟨z,n,rfl,rfl⟩:=hs;simp only [jH] at e;split at e
  ·rename_i hl;cases e;simp only [Bool.and_eq_true,decide_eq_true_eq] at hl;obtain ⟨⟨h0,h1⟩,h2⟩:=hl;cases p;cases q;obtain ⟨t,rfl⟩:=rx;obtain ⟨t',rfl⟩:=ry;have hz:z.length*n.toNat<=sizeLine:=Nat.le_trans h2 (by rw [sizeLine_eq];decide);refine SB.mul ⟨?_,fun h3 _=>?_,fun _ _=>?_⟩ fun t2 k2=>⟨.str _,H,I.tok k2,⟨t2,rfl⟩,k.str⟩
   ·rw [decide_eq_false (by lia),decide_eq_false (by lia)];rfl
   ·have hn:0<n:=by lia
    have h4:(z.length:Int)*n<=2 ^ 63-1:=by
     have h5:((z.length*n.toNat:Nat):Int)<=1000000:=by
      have:lim=1000000:=by unfold lim;exact Eq.refl _
      lia
     rw [Int.natCast_mul,Int.toNat_of_nonneg h0] at h5;lia
    have h6:=(Int.le_ediv_iff_mul_le hn).mpr h4;lia
   ·unfold Builtin.Str.tooLong;exact decide_eq_false (by lia)
  ·cases e
 ·have he:jH a b=aR .mul a b:=by
   unfold jH;split
   ·exact absurd ⟨_,_,rfl,rfl⟩ hs
   ·rfl
  rw [he] at e;exact aH1 pins s σ H x y v u Q I rx ry ⟨a,b,d,p,q,e,k⟩
theorem KQ (hu:X.A.units+20<cLine):OpR X (compareOp .In) (r2 inX true):=by
 intro pins s σ H x y v u Q I rx ry ⟨a,b,d,p,q,e,k⟩;by_cases hs:∃z n,a=.str z/\b=.str n
 ·obtain ⟨z,n,rfl,rfl⟩:=hs;cases e;cases p;cases q;exact R3 pins s σ H _ _ v u Q I rx ry ⟨_,_,rfl,rfl,k.bl⟩
 ·have he:inX a b=mO .isin a b:=by
   unfold inX;split
   ·exact absurd ⟨_,_,rfl,rfl⟩ hs
   ·rfl
  rw [he] at e;exact aKf hu pins s σ H x y v u Q I rx ry ⟨a,b,d,p,q,e,k⟩
theorem part_of {v:Value} {o:Option Int} (h:IsPart v o):∃l:Option (Int×Tok),partValue l=v/\l.map (·.1)=o:=by
 cases h with
 | none=>exact ⟨none,rfl,rfl⟩
 | int i t=>exact ⟨some (i,t),rfl,rfl⟩
theorem aHc (hK:KFrag.K=X.K):SlR X (fun x lo hi H Q=>∃a d,Rep All H x a/\aHb a lo hi=.ok d/\kR H d true Q):=by
 intro pins s σ H x v vl vu lo hi sl Q I rx hs pl pu ⟨a,d,p,e,k⟩;by_cases hz:∃z,a=.str z
 ·obtain ⟨z,rfl⟩:=hz;simp only [aHb] at e;split at e
  ·rename_i hl;cases e;cases p;obtain ⟨t,rfl⟩:=rx;obtain ⟨l,e1,e2⟩:=part_of pl;obtain ⟨m,e3,e4⟩:=part_of pu;subst e1 e2 e3 e4;refine ⟨"str",_,F.slot_str_getitem.lookup,typeIs_str _ _ _,?_⟩;obtain ⟨o,ho,hc,hd⟩:=hs;refine wpAny_getItem_str_slice (l:=l) (u:=m) (st:=none) ⟨o,ho,hc,hd⟩ rfl ?_;have hle:(Txt.slice z (l.map (·.1)) (m.map (·.1))).length<=sizeLine:=Nat.le_trans (Txt.slice_le ..) (jF hl);have q:∀(t':Tok) (k2:Nat),EP X pins σ Q (.str (Txt.slice z (l.map (·.1)) (m.map (·.1))) t') {s with toks:=k2}:=fun t' k2=>⟨.str _,H,I.tok k2,⟨t',rfl⟩,k.str⟩
   show Made.post (if ((1:Int)==1&&(Builtin.Str.strSliceIndices (l.map (·.1)) (m.map (·.1)) 1 z.length).length==z.length)=true then .val (.str z t) else .str ⟨((Builtin.Str.strSliceIndices (l.map (·.1)) (m.map (·.1)) 1 z.length).filterMap (z.cps[·]?)).toArray⟩) _ s;unfold Txt.slice at hle q;split
   ·rename_i hh;have:=q t s.toks;rw [if_pos hh] at this;exact this
   ·rename_i hh;rw [if_neg hh] at hle;have:=q s.toks (s.toks+1);rw [if_neg hh] at this;exact ⟨hle,this⟩
  ·cases e
 ·have he:aHb a lo hi=aJi a lo hi:=by
   unfold aHb;split
   ·exact absurd ⟨_,rfl⟩ hz
   ·rfl
  rw [he] at e;exact aKi hK pins s σ H x v vl vu lo hi sl Q I rx hs pl pu ⟨a,d,p,e,k⟩
theorem gP {e:Expr} {fe:FE} {re:Bool} {pos:Pos} {lo hi:Option Expr} {p2:Pos} {fl fh:List D->Res (Option Int)} (hK:KFrag.K=X.K) (he:PE X e (gE fe re)) (hl:PO X lo (gO fl)) (hh:PO X hi (gO fh)):PE X (.Subscript e (.Slice lo hi none p2) pos) (gE (mQ fe fl fh) true):=
 PE.imp (ZP (aHc hK) he hl hh) fun σ H Q ⟨ρ,d,E,h,q⟩=>by
  obtain ⟨x,h1,h⟩:=bI h;obtain ⟨l,h2,h⟩:=bI h;obtain ⟨u,h3,h⟩:=bI h;exact ⟨ρ,x,E,h1,fun v H1 s1 r1 _=>⟨ρ,l,E.same s1,h2,fun H2 s2=>⟨ρ,u,E.same (s1.trans s2),h3,fun H3 s3=>⟨x,d,r1.same (s2.trans s3),h,q.imp ((s1.trans s2).trans s3) id⟩⟩⟩⟩
theorem KR {P:Addr->Prop} {H:Hp}:∀{xs:List V} {ds:List D} {its:List Value} {ts:List Str},bF P H xs ds->Vals xs its->u_ ds=some ts->∃l:List (Str×Tok),its=strValues l/\l.map (·.1)=ts
 | [],[],[],_,_,_,h=>by cases h;exact ⟨[],rfl,rfl⟩
 | _,_,_,_,.cons (d:=d) r t,.cons rv tv,h=>by
  cases d with
  | str z=>
   obtain ⟨ts,h1,h2⟩:=Option.map_eq_some_iff.mp h;cases r;obtain ⟨tk,rfl⟩:=rv;obtain ⟨l,e1,e2⟩:=KR t tv h1;refine ⟨(z,tk)::l,?_,?_⟩
   ·rw [e1];rfl
   ·rw [<-h2,<-e2];rfl
  | _=>simp only [u_] at h;cases h
theorem aE1:MtR X "str.join" (rm joinM true):=by
 intro pins s σ H x xs v us Q I rv vr ⟨a,ds,d,ra,rs,h,k⟩;unfold joinM at h;split at h
 ·split at h
  ·rename_i ts hts;split at h
   ·rename_i hok;cases h;obtain ⟨vv,uu,rfl,rfl,r,rk⟩:=gH rs vr;obtain ⟨l,ys,rfl,hl,rr⟩:=r.fX (K:=X.K);cases rk;cases ra;obtain ⟨t,rfl⟩:=rv;obtain ⟨its,vr',pl⟩:=lR I hl;obtain ⟨l2,e1,e2⟩:=KR rr vr' hts;subst e1;exact SC.join pl e2 hok fun t' k2=>⟨.str _,H,I.tok k2,⟨t',rfl⟩,k.str⟩
   ·cases h
  ·cases h
 ·cases h
theorem aA5 {d:D} {ds:List D} {r:D} {v:V} {H:Hp} (h:joinM d ds=.ok r) (rp:Rep All H v d):tyV X.K "str" v H:=by
 have:∃z,d=.str z:=by
  unfold joinM at h;split at h
  ·exact ⟨_,rfl⟩
  ·cases h
 obtain ⟨z,rfl⟩:=this;cases rp;rfl
theorem aA6 {P:Program} {w:World} {K:PySem.W.Frag} {tg:Expr} (x:Str) (t:Tok) (it:Addr):Turn P w K tg (aKj x) [it] it (fun i h=>h.IsStrIter it (strIterType x) x t i) where
 mem:=by simp
 obj:=fun i h st b hb=>by
  have e:b=it:=by simpa using hb
  subst e;obtain ⟨o,e,c,d⟩:=st;exact ⟨o,e,fun v z=>by rw [d] at z;cases z⟩
 keep:=fun i h h' st k=>by
  obtain ⟨o,e,r⟩:=st;exact ⟨o,k it (by simp) o e,r⟩
 item:=by
  intro Y hP hw hK hc i pins s σ H E I hf st hg;subst hP hw hK;obtain ⟨f0,f1,f2,f3,f4,f5⟩:=hf it (by simp);have hx:x.cps[i]?=some x.cps[i]:=Array.getElem?_eq_getElem hg;have fin:∀(h':Heap) (ty:String),(["enumerate", "zip", "dict_itemiterator", "dict_reverseitemiterator", "odict_iterator", "itertools.zip_longest", "itertools.pairwise"].contains ty=false)->strIterType x=ty->h'.IsStrIter it ty x t (i+1)->Heap.SameBut it s.heap h'->
    ∃u,some (Value.str ⟨#[x.cps[i]]⟩ s.toks)=some u/\wpAny (model Y.prog Y.w) Y.A (letOwnedTupleGo tg (.ref it) u) (fun _ s2=>∃v H',Inv Y pins σ H' s2/\RelV v u/\(aKj x).yld i H v H'/\s2.heap.IsStrIter it (strIterType x) x t (i+1)/\∀b∈[it],H' b=none) E {s with heap:=h',toks:=s.toks+1}:=by
   intro h' ty hn hty st' sb;have I1:Inv Y pins σ H {s with heap:=h',toks:=s.toks+1}:=I.turned (fun b o hb e=>(sb.2 b hb).trans e) f0 f1 f3 f4 f5;obtain ⟨o,e,c,d⟩:=id st';exact ⟨_,rfl,ZF (s:={s with heap:=h',toks:=s.toks+1}) e c d hn ⟨.str ⟨#[x.cps[i]]⟩,H,I1,⟨_,rfl⟩,⟨rfl,_,hx,rfl⟩,by rw [hty];exact st',fun b hb=>(hf b hb).1⟩⟩
  cases ha:x.cps.all (·<128)
  ·have hty:strIterType x = "str_iterator":=by simp [strIterType,ha]
   rw [hty] at st;exact wpAny_pyNext_wide_item st hx fun h' st' sb=>fin h' _ (by decide) hty st' sb
  ·have hty:strIterType x = "str_ascii_iterator":=by simp [strIterType,ha]
   rw [hty] at st;exact wpAny_pyNext_ascii_item st hx fun h' st' sb=>fin h' _ (by decide) hty st' sb
 done:=by
  intro Y hP hw hK hc i pins s σ H E I hf st hg;subst hP hw hK;obtain ⟨f0,f1,f2,f3,f4,f5⟩:=hf it (by simp);have hx:x.cps[i]?=none:=Array.getElem?_eq_none hg;cases ha:x.cps.all (·<128)
  ·have hty:strIterType x = "str_iterator":=by simp [strIterType,ha]
   rw [hty] at st;exact wpAny_pyNext_wide_end (I.ok.hd hc) st hx fun h' eb=>⟨rfl,I.turned (t':=s.toks) (fun b o hb e=>eb b o hb e) f0 f1 f3 f4 f5⟩
  ·have hty:strIterType x = "str_ascii_iterator":=by simp [strIterType,ha]
   rw [hty] at st;exact wpAny_pyNext_ascii_end (I.ok.hd hc) st hx fun h' eb=>⟨rfl,I.turned (t':=s.toks) (fun b o hb e=>eb b o hb e) f0 f1 f3 f4 f5⟩
 self:=fun _ _ _ _ _ st h=>by
  cases ha:x.cps.all (·<128)
  ·have hty:strIterType x = "str_iterator":=by simp [strIterType,ha]
   rw [hty] at st;exact wpAny_pyIter_striter_wide st h
  ·have hty:strIterType x = "str_ascii_iterator":=by simp [strIterType,ha]
   rw [hty] at st;exact wpAny_pyIter_striter_ascii st h
section
variable {tg l a:Expr} {fl:FE} {rl:Bool}
theorem U9 {pins:List (Addr×Obj)} {s1:Shared} {σ:L2.St} {H1:Hp} {R:It->Hp->Prop} {v:V} {u:Value} {d:D} {items:List D} (I1:Inv X pins σ H1 s1) (r:Rep All H1 v d) (ru:RelV v u) (hi:BJ d=.ok items)
  (q:∀J,(∀P:Addr->Prop,Rep P H1 v d->ItQ X.K P J H1 items)->R J H1):wpAny (model X.prog X.w) X.A (pyIter u) (PIE X pins σ tg R) X.xe s1:=by
 by_cases hz:∃z,d=.str z
 ·obtain ⟨z,rfl⟩:=hz;simp only [BJ] at hi;split at hi
  ·cases hi;cases r;obtain ⟨t,rfl⟩:=ru;refine wpAny_pyIter_strU ?_;refine ⟨s1.heap.objs.size,[s1.heap.objs.size],_,_,H1,rfl,I1.kept (t':=s1.toks) fun b o e=>Heap.get?_push_of_some _ e,aA6 z t _,⟨_,Heap.get?_push_size _ rfl,rfl,rfl⟩,fun b hb=>?_,q _ fun P r=>.chs z rfl rfl⟩;have e:b=s1.heap.objs.size:=by simpa using hb
   subst e;exact I1.aCv (Nat.le_refl _) (I1.hok.fresh (Nat.le_refl _))
  ·cases hi
 ·have he:BJ d=J3 d:=by
   unfold BJ;split
   ·exact absurd ⟨_,rfl⟩ hz
   ·rfl
  rw [he] at hi;exact aA0 I1 r ru hi q
theorem iK (hl:PE X l (gE fl rl)):PI X tg l (gI X.K (cO fl rl)):=by
 intro pins s σ H R I ⟨ρ,items,k,E,h,q⟩;obtain ⟨d,h1,h⟩:=bI h;obtain ⟨its,h2,h⟩:=bI h;cases h;refine thn (hl pins s σ H _ I ⟨ρ,d,E,h1,fun v H1 s1 r1 n1=>(show (∃d',Rep All H1 v d/\d'=d/\∀J,(∀P:Addr->Prop,Rep P H1 v d->ItQ X.K P J H1 items)->R J H1) from ⟨d,r1,rfl,fun J hJ=>q J H1 s1 (hJ _ r1) fun hk=>hJ _ ?_⟩)⟩) fun u s1 ⟨v,H1,I1,ru,d',r1,e,q1⟩=>U9 I1 r1 ru h2 q1
 rw [Bool.or_eq_true] at hk;rcases hk with hk|hk
 ·exact n1 hk
 ·exact r1.bL hk
theorem HH {pins:List (Addr×Obj)} {s:Shared} {σ:L2.St} {H:Hp} {h':Heap} {t':Nat} {ch:List Addr} {a:Addr} {o:HO} (I:Inv X pins σ H s) (k:∀b u,b∉ch->s.heap.get? b=some u->h'.get? b=some u) (hf:∀b∈ch,Q_ X pins H b) (hp:s.heap.objs.size<=a)
  (new:eQ X.prog X.w (upd H a o) h' a o):Inv X pins σ (upd H a o) {s with heap:=h',toks:=t'}:=by
 have hn:H a=none:=I.hok.fresh hp;have nch:∀b u,H b=some u->b∉ch:=fun b u e z=>by rw [(hf b z).1] at e;cases e
 have kU:∀b u,H b=some u->upd H a o b=some u:=fun b u e=>by rw [aN (a_ e hn)];exact e
 refine I.step (g':=s.gens) (d':=s.drawn) (ch:=ch) (fun b hb=>?_) (fun b u _ _ hc e _=>k b u hc e) (fun b u _ _ hc e _=>⟨u.slots,k b u hc e⟩) (fun b u _ e n=>?_)
  (fun b u hc e=>⟨u,k b u hc e⟩) (fun b xs e=>kU b _ e) (fun b u v e=>kU b _ e) (fun b ps e=>⟨#[],by rw [kU b _ e];simp⟩) (fun m hm=>?_) (fun b u e=>?_) I.bare
 ·obtain ⟨_,f1,_,f3,f4,f5⟩:=hf b hb;exact ⟨f3,f1,f4,f5⟩
 ·rw [aN (fun z=>absurd (Nat.lt_of_lt_of_le (Heap.lt_size e) hp) (by rw [z];exact Nat.lt_irrefl _))];exact n
 ·obtain ⟨u,es,ep,hu,r⟩:=hm;exact ⟨u,es,ep,k _ u (fun z=>(hf _ z).2.1 rfl) hu,r⟩
 ·by_cases hb:b=a
  ·subst hb;rw [aF] at e;cases e;exact new
  ·rw [aN hb] at e;refine (I.hok b u e).stay (fun c v hc q=>k c v ?_ q) (fun c q=>kU c _ q) fun c xs q=>kU c _ q
   rcases hc with z|z
   ·rw [z];exact nch b u e
   ·exact nch c _ z
end
end
end Mi
namespace Mi
open PySem L2
theorem bQ:lim=1000000:=by unfold lim;exact Eq.refl _
theorem U_ {n:Nat} {ρ:List D} (h:ρ.length=n):J4 n ρ=ρ:=by
 subst h;apply List.ext_getElem
 ·simp [J4]
 ·intro i h1 h2;simp [J4,h2]
theorem eZ {n:Nat} {f:List D->Res D} {ds:List D} (h:ds.length=n):oF n f ds=f ds:=by
 unfold oF;rw [if_pos (by simp [h])]
theorem aL {f:D->D->Res D} {a b:FE} {ρ:List D} {x y z:D} (h1:a ρ=.ok x) (h2:b ρ=.ok y) (h3:f x y=.ok z):b2 f a b ρ=.ok z:=by
 unfold b2;rw [h1,Res.aU,h2,Res.aU,h3]
theorem bR {i:Nat} {f:FE} {ρ:List D} {d:D} (h:f ρ=.ok d):cJ false i f true ρ=.ok (.nx (ρ.set i d)):=by
 unfold cJ;rw [h,Res.aU];rfl
theorem vA {i:Nat} {f:FE} {ρ:List D} {d:D} (h:f ρ=.ok d) (hp:d.pure=true):cJ false i f false ρ=.ok (.nx (ρ.set i d)):=by
 unfold cJ;rw [h,Res.aU];simp only [hp,Bool.false_or,Bool.false_eq_true,if_false,if_true]
theorem iM {i:Nat} {f:FE} {ρ:List D} {d:D} (h:f ρ=.ok d) (hp:inner d=true):cJ true i f true ρ=.ok (.nx (ρ.set i d)):=by
 unfold cJ;rw [h,Res.aU];simp only [hp,Bool.and_self,if_true]
theorem aP {f g:FS} {ρ ρ':List D} {r:Res Fl} (h1:f ρ=.ok (.nx ρ')) (h2:g ρ'=r):bA f g ρ=r:=by
 unfold bA;rw [h1,Res.aU];exact h2
theorem aHd {c:FT} {f g:FS} {ρ:List D} {k:Bool} {r:Res Fl} (h1:c ρ=.ok k) (h2:(if k then f ρ else g ρ)=r):sIf c f g ρ=r:=by
 unfold sIf;rw [h1,Res.aU];exact h2
theorem aA7 {c:FT} {f g:FS} {ρ:List D} {r:Res Fl} (h1:c ρ=.ok true) (h2:f ρ=r):sIf c f g ρ=r:=aHd h1 (by rw [if_pos rfl];exact h2)
theorem HJ {c:FT} {f g:FS} {ρ:List D} {r:Res Fl} (h1:c ρ=.ok false) (h2:g ρ=r):sIf c f g ρ=r:=aHd h1 (by rw [if_neg (by simp)];exact h2)
theorem j8 {f:FE} {ρ:List D} {k:Bool} (h1:f ρ=.ok (.bl k)):bTB f ρ=.ok k:=by
 unfold bTB;rw [h1,Res.aU];rfl
theorem QG {a b:FT} {ρ:List D} {r:Res Bool} (h1:a ρ=.ok true) (h2:b ρ=r):PN a b ρ=r:=by
 unfold PN;rw [h1,Res.aU,if_pos rfl,h2]
theorem aA8 {a b:FT} {ρ:List D} (h1:a ρ=.ok false):PN a b ρ=.ok false:=by
 unfold PN;rw [h1,Res.aU,if_neg (by simp)];rfl
theorem aH {a:FE} {b:FA} {ρ:List D} {x:D} {xs:List D} (h1:a ρ=.ok x) (h2:b ρ=.ok xs):aC a b ρ=.ok (x::xs):=by
 unfold aC;rw [h1,Res.aU,h2,Res.aU];rfl
theorem bG {f:List D->Res D} {a:FA} {ρ:List D} {xs:List D} {d:D} (h1:a ρ=.ok xs) (h2:f xs=.ok d):aX f a ρ=.ok d:=by
 unfold aX;rw [h1,Res.aU,h2]
theorem j9 {a:FA} {ρ:List D} {xs:List D} (h:a ρ=.ok xs) (hl:xs.length<=lim):gU a ρ=.ok (.tup xs):=by
 unfold gU;rw [h,Res.aU,if_pos (decide_eq_true hl)];rfl
theorem oJ {f:FE} {ρ:List D} {d:D} {k:Bool} (h:f ρ=.ok d) (hp:(k||d.pure)=true):xQ f k ρ=.ok (.rt d):=by
 unfold xQ;rw [h,Res.aU,if_pos hp]
theorem wK {it:FI} {t:D->List D->Res (List D)} {body:FS} {ρ:List D} {xs:List D} {r:Res Fl} (h1:it ρ=.ok (xs,true)) (h2:zY t body xs ρ=r):Y0 it t body ρ=r:=by
 unfold Y0;rw [h1,Res.aU];exact h2
theorem VB {f:FA} {ρ:List D} {n:Int} (h:f ρ=.ok [.int n]) (h1:0<=n) (h2:n<=1000000):vQ f uU ρ=.ok ((List.range n.toNat).map fun (k:Nat)=>D.int (0+(k:Int)),true):=by
 unfold vQ;rw [h,Res.aU];have:t_ n=true:=by
  simp only [t_,Bool.and_eq_true,decide_eq_true_eq];lia
 simp only [uU,this,if_true]
theorem aC4 {i:Nat} {f g:FE} {ρ:List D} {kvs:List (D×D)} {k d:D} (h1:g ρ=.ok d) (h2:f ρ=.ok k) (h3:ρ.getD i .uD=.dct kvs) (h4:kvs.length<lim) (h5:sZ kvs k=true) (h6:d.pure=true):aDl i f g ρ=.ok (.nx (ρ.set i (.dct (putD kvs k d)))):=by
 unfold aDl;rw [h1,Res.aU,h2,Res.aU,h3];simp only [decide_eq_true h4,h5,h6,Bool.and_self,if_true]
theorem vB {i:Nat} {f:FE} {ρ:List D} {xs:List D} {d:D} (h1:f ρ=.ok d) (h3:ρ.getD i .uD=.lst xs) (h4:xs.length<lim) (h5:d.pure=true):RG i f ρ=.ok (.nx (ρ.set i (.lst (xs++[d])))):=by
 unfold RG;rw [h1,Res.aU,h3];simp only [decide_eq_true h4,h5,Bool.and_self,if_true]
theorem dB {t:D->List D->Res (List D)} {body:FS} {x:D} {xs:List D} {ρ ρ1 ρ2:List D} {r:Res Fl} (h1:t x ρ=.ok ρ1) (h2:body ρ1=.ok (.nx ρ2)) (h3:zY t body xs ρ2=r):zY t body (x::xs) ρ=r:=by
 rw [zY,h1,Res.aU,h2,Res.aU];exact h3
theorem VD {n:Nat} {it:FI} {t:D->Res (List D)} {c:FT} {f:FE} {k kk:Bool} {ρ:List D} {xs ys:List D} (h1:it ρ=.ok (xs,kk)) (h2:xs.length<=lim) (h3:uV (GZ n t c f k ρ) [] xs=.ok ys):jQ n it t c f k ρ=.ok (.lst ys):=by
 unfold jQ;rw [h1,Res.aU];simp only [decide_eq_true h2,if_true];rw [h3];rfl
theorem BK {n:Nat} {c:FT} {f:FE} {k:Bool} {ρ acc:List D} {x y:D} {b:Bool} (hρ:ρ.length=n) (h1:c (ρ++[x])=.ok b) (h2:b=true->f (ρ++[x])=.ok y/\(k||y.pure)=true):GZ n GX c f k ρ acc x=.ok (if b then acc++[y] else acc):=by
 unfold GZ;show (do let ok <- c (J4 n ρ++[x]);_)=_;rw [U_ hρ,h1,Res.aU];cases b with
 | true=>
  obtain ⟨e1,e2⟩:=h2 rfl;rw [if_pos rfl,e1,Res.aU,if_pos e2,if_pos rfl];rfl
 | false=>
  rw [if_neg (by simp),if_neg (by simp)];rfl
theorem bW (a b:Int):aR .add (.int a) (.int b)=.ok (.int (a+b)):=rfl
theorem aHe (a b:Int) (h:j5 b=true):aR .mul (.int a) (.int b)=.ok (.int (a*b)):=by
 simp only [aR,h,Bool.or_true,if_true]
theorem aE2 (a b:Int) (h:j5 a=true):aR .mul (.int a) (.int b)=.ok (.int (a*b)):=by
 simp only [aR,h,Bool.true_or,if_true]
theorem dX (a b:Int) (h1:0<b) (h2:b<1073741824):aR .fdiv (.int a) (.int b)=.ok (.int (a / b)):=by
 simp only [aR,decide_eq_true h1,decide_eq_true h2,Bool.and_self,if_true]
theorem cZ (a b:Int) (h1:0<b):aR .mod (.int a) (.int b)=.ok (.int (a % b)):=by
 simp only [aR,decide_eq_true h1,if_true]
theorem jJ (a:Int) (h1:-1000000<=a) (h2:a<=1000000):j5 a=true:=by
 simp only [j5,Bool.and_eq_true,decide_eq_true_eq];lia
theorem VF (a b:Str) (h:a.length+b.length<=lim):aR .add (.str a) (.str b)=.ok (.str (a++b)):=by
 simp only [aR,decide_eq_true h,if_true]
theorem QH (S:List Int):D.aG (S.map D.int)=true:=by
 induction S with
 | nil=>rfl
 | cons q Q ih=>rw [List.map_cons,D.aG,ih];rfl
theorem VG (ns:List Int) (lo hi:Option Int):cutD (ns.map D.int) lo hi=(cutD ns lo hi).map D.int:=by
 unfold cutD;rw [List.length_map,List.map_take,List.map_drop]
end Mi
namespace Mi
open PySem L2 PySem.SeqAt PySem.Spec PyProof.Rows
theorem HN {P:Program} {w:World} {H:Hp} {h:Heap} {a:Addr} {o:HO} (x:eQ P w H h a o):∃ob,h.get? a=some ob:=by
 cases o with
 | lst xs=>obtain ⟨_,_,_,_,e⟩:=x;exact ⟨_,e⟩
 | tup xs=>obtain ⟨_,_,_,_,e,_⟩:=x;exact ⟨_,e⟩
 | dK kvs=>obtain ⟨_,_,_,_,o,_,_,e,_⟩:=x;exact ⟨_,e⟩
 | dT kvs=>obtain ⟨_,_,_,_,o,_,_,e,_⟩:=x;exact ⟨_,e⟩
 | set S n=>obtain ⟨o,_,_,_,e,_⟩:=x;exact ⟨_,e⟩
 | ins C dx fs=>obtain ⟨_,_,_,e,_⟩:=x;exact ⟨_,e⟩
 | own y=>exact x
 | xd fs=>obtain ⟨_,⟨_,_,_,e,_⟩,_⟩:=x;exact ⟨_,e⟩
 | rng lo hi=>obtain ⟨_,_,_,e⟩:=x;exact ⟨_,e⟩
 | frz ob u=>obtain ⟨e,_⟩:=x;exact ⟨_,e⟩
 | tbl ps=>exact ⟨_,show h.get? a=some _ from x⟩
 | met f y=>exact ⟨_,show h.get? a=some _ from x⟩
 | ext φ=>obtain ⟨_,e,_⟩:=x;exact e
theorem aE3 {K:PySem.W.Frag} {h:Heap} {C:Addr} {bmB:List Value} {newId:String} (X:K.In h) (q:PySem.W.excIn K C bmB newId=true) :
  ∃bm N nm qn bs hdct sn sub ab col dd k0 k1 k2 k3 k5 mN,h.get? C=some (excClassObj nm qn C N bs bm hdct sn sub ab col dd k0 k1 k2 k3 k5 newId)/\h.Ns N mN/\mN "__init__" = none/\OwnTail h bmB bm:=by
 unfold PySem.W.excIn at q;split at q
 ·rename_i dd cd sl ho;split at q
  ·rename_i C' bm k0 k1 k2 k3 n k5 hm hs;rw [Bool.and_eq_true,Bool.and_eq_true,Bool.and_eq_true,Bool.and_eq_true,Bool.and_eq_true] at q;obtain ⟨⟨⟨⟨⟨q1,q2⟩,q3⟩,q4⟩,q5⟩,q6⟩:=q;have q1:=beq_iff_eq.mp q1;have q2:=beq_iff_eq.mp q2;rw [Bool.not_eq_true'] at q3;subst q1 q2;obtain ⟨nm,bs,mro,ns,qn,hd,sn,sub,ab,col,del⟩:=cd;obtain ⟨l⟩:=sl;dsimp only at hm q3 q5 q6 hs;subst hm q3 hs;exact ⟨bm,ns,nm,qn,bs,hd,sn,sub,ab,col,dd,k0,k1,k2,k3,k5,_,X _ _ ho,.of_isNs (PySem.W.isNs_of_in X q5),PySem.W.nsMap_none_of_in X q5 (beq_iff_eq.mp q6),PySem.W.tail_of_in X q4⟩
  ·cases q
 ·cases q
abbrev aKo:List Value:=[.type "ValueError",.type "Exception",.type "BaseException",.type "object"]
theorem aA9 {X:Cx} {x:Str} {C:Addr} {np cpos pos:Pos} {e:Expr} {ta:TA} (hc:X.calm=true) (hg:Gl X x) (hm:X.mg x=some (.ref C)) (hq:PySem.W.excIn X.K C aKo "ValueError.__new__" = true) (ha:PA X [e] ta)
  (he:starEach [e] X.env=[(false,eval e X.env)]:=by rfl) (hd:nDb x:=by decide) :
  PS X (.Raise (some (.Call (.Name x np) [e] [] cpos)) none pos) (fun D σ H=>ta σ H fun vs H1=>vs.length<=sizeLine/\∀(pins:List (Addr×Obj)) (s:Shared) (h2:Heap) (a:Addr) (us:List Value),Inv X pins σ H1 s->Heap.MadeExcOf s.heap h2 a (.ref C) us->X.xe (.ref a) {s with heap:=h2}):=by
 intro pins s σ H D I h;obtain ⟨bm,N,nm,qn,bs,hdct,sn,sub,ab,col,dd,k0,k1,k2,k3,k5,mN,hC,hN,hni,T⟩:=aE3 I.mod.kin hq;refine wpAny_Raise_call_subT (C:=C) (nm:=nm) (q:=qn) (N:=N) (bs:=bs) (bm:=bm) (hdct:=hdct) (sn:=sn) (sub:=sub) (ab:=ab) (col:=col) (dd:=dd) (k0:=k0) (k1:=k1) (k2:=k2) (k3:=k3) (k5:=k5)
  PySem.F.excBase_ValueError (mN:=mN) (T.hasType PySem.F.excBase_ValueError.hasBase) (I.ok.hd hc) (by rw [he];rfl) hni (nJ I hg hm ⟨rfl,?_⟩ hd)
 rw [he];have h':=ha cpos pins s σ H _ I h;rw [he] at h';refine Calls.evalArgs_plain (wpAny_mono h' (fun us s2 ⟨vs,H1,I1,r,hl,hx⟩=>⟨rfl,by rw [<-r.length];exact hl,I1.bk _ _ hC,hN.keeps I1.bk,T.keeps I1.bk,fun h2 a hm=>hx pins s2 h2 a us I1 hm⟩) fun _ _ y=>y)
end Mi
namespace Mi
open PySem L2 PySem.W PySem.SeqAt PySem.Spec PyProof.Rows PySem.Builtin PySem.Builtin.ObjectAttr PySem.Builtin.Getset_descriptor
def ExcAt (a C:Addr) (h:Heap):Prop:=∃o,h.get? a=some o/\o.cls=.ref C
structure XC (K:Frag) (C:Addr):Prop where
 cl:(clsIn K C).isSome=true
 ga:findIn K (.ref C) "__getattribute__" = some (some (.builtin "BaseException.__getattribute__"))
 gh:findIn K (.ref C) "__getattr__" = some none
 kc:findIn K (.ref C) "__class__" = some (some (.builtin "object.__class__"))
 kg:specialIn K (.builtin "object.__class__") "__get__" = some (some (.builtin "getset_descriptor.__get__"))
 kt:takesIn K (.builtin "object.__class__")=some true
 ob:mroIn K C (.type "object")=some true
 be:mroIn K C (.type "BaseException")=some true
section
variable {prog:Program} {w:World} {A:Around} {E:Value->Shared->Prop} {s:Shared} {K:Frag} {x C:Addr}
theorem BL {M:Model} {h:Heap} (p:ExcAt x C h):Looks M h (typeOf (.ref x)) (.ref C):=by
 obtain ⟨o,h1,h2⟩:=p;rw [<-h2];exact (Looks.ld h1).andThen .now
theorem aAa {M:Model} {h:Heap} (X:K.In h) (c:XC K C):Looks M h (find (.ref x) (.ref C) "__class__") (.bind (.builtin "getset_descriptor.__get__") (.builtin "object.__class__")):=by
 refine (looks_findIn (M:=M) X c.kc).andThen ((looks_specialIn (M:=M) X c.kg).andThen ?_);have L:Looks M h (dataDescriptor? (some (.builtin "object.__class__")) (some (.builtin "getset_descriptor.__get__"))) (some (.builtin "getset_descriptor.__get__",.builtin "object.__class__")):=(looks_takesIn (M:=M) X c.kt).andThen .now;exact L.andThen (Looks.tag .now)
theorem aE4 {R:Result->Shared->Prop} {tp:Value} (X:K.In s.heap) (p:ExcAt x C s.heap) (c:XC K C) (h:R (.ok (.ret (.ref C))) s) :
  codeAny (model prog w) A (.call (.builtin "getset_descriptor.__get__") ⟨[.builtin "object.__class__",.ref x,tp],[]⟩) R s:=by
 obtain ⟨hh,g,d,t,os⟩:=s;have L0:=BL (M:=model prog w) p;have L1:=looks_mroIn (M:=model prog w) X c.ob;refine codeAny_call_builtin KF.slot_gs.plain KF.entry_gs (KF.slot_gs.check _ _ _ _ _ _ _ _ KF.type_class (KF.args_gs _ _ _) ?_)
 (unfold Builtin.«getset_descriptor.__get__» descrGet;rw [dga_obj];refine wpAny_bind (wpAny_pure ?_);unfold descrGetter descrCheckInstance descrNameAndClass isInstance;simp only [KF.owner_class])
 repeat lk
 refine ⟨Code.quiet_builtin _ (by decide +kernel),codeAny_builtin KF.entry_class ?_⟩
 (unfold Builtin.«object.__class__» shownTypeOf;repeat lk)
 exact h
theorem VH {tk:Tok} {Q:Fin->Shared->Prop} (X:K.In s.heap) (p:ExcAt x C s.heap) (c:XC K C) (h:Q (.done (.ret (.ref C))) s) :
  wpAny (model prog w) A (Builtin.«object.__getattribute__» ⟨[.ref x,.str "__class__" tk],[]⟩) Q E s:=by
 obtain ⟨hh,g,d,t,os⟩:=s;have L0:=BL (M:=model prog w) p;have L1:=aAa (M:=model prog w) (x:=x) X c;unfold Builtin.«object.__getattribute__»;refine wpAny_bind (wpAny_pure ?_);refine wpAny_bind (wpAny_pure ?_);refine wpAny_bind (L0.at (wpAny_bind (L1.at ?_)));show wpAny _ _ (holding [_] (call _ [_,.ref x,.ref C]) >>= ret) _ _ _;exact wpAny_bind (wpAny_holding (wpAny_call (aE4 X p c (wpAny_pure h))))
theorem VJ {M:Model} {nv:Value} {Q:Unit->Shared->Prop} (X:K.In s.heap) (p:ExcAt x C s.heap) (c:XC K C) (h:Q () s):wpAny M A (checkBuiltinCall "BaseException.__getattribute__" ⟨[.ref x,nv],[]⟩) Q E s:=by
 obtain ⟨hh,g,d,t,os⟩:=s;have L0:Looks M hh (isInstance (.ref x) (.type "BaseException")) true:=(BL (M:=M) p).andThen (looks_mroIn (M:=M) X c.be);have e1:builtinKind "BaseException.__getattribute__" = some .slot:=by decide +kernel
 have e2:splitId "BaseException.__getattribute__" = some ("BaseException", "__getattribute__"):=by decide +kernel
 have ha:=F.args_bexc_ga (.ref x) nv;simp only [checkBuiltinCall,e1,e2];refine wpAny_bind (L0.at ?_)
 repeat (any_goals (first|assumption|wp_step))
theorem aE5 {Q:Option Value->Shared->Prop} (X:K.In s.heap) (p:ExcAt x C s.heap) (c:XC K C) (h:Q (some (.ref C)) {s with toks:=s.toks+1}):wpAny (model prog w) A (getAttr? (.ref x) "__class__") Q E s:=by
 obtain ⟨hh,g,d,t,os⟩:=s;have L0:=BL (M:=model prog w) p;have L1:=looks_findIn (M:=model prog w) X c.ga;have L2:=looks_findIn (M:=model prog w) X c.gh;have e2:(Value.builtin "BaseException.__getattribute__" == Value.builtin "object.__getattribute__")=false:=by decide +kernel
 have e1:(onTheHeap (Value.ref C)&&Value.builtin "BaseException.__getattribute__" == Value.builtin "object.__getattribute__")=false:=by rw [e2];rfl
 unfold getAttr? getAttrBy? getAttrBy;refine wpAny_bind (wpAny_mkText (wpAny_bind (wpAny_attempt (wpAny_holding (wpAny_bind (L0.at (wpAny_bind (L1.at ?_))))))));dsimp only;rw [e1,if_neg (by decide)];unfold getAttrByItsOwn hookBefore callGetattribute boundAndCalled;rw [if_pos (show onTheHeap (Value.ref C)=true from rfl)];refine wpAny_bind (L2.at (wpAny_bind (wpAny_attempt (wpAny_holding ?_))));rw [if_neg (by decide)];refine wpAny_bind (wpAny_of_eq (F.excAttr_ValueError.ga.bind (.ref x)) ?_);refine wpAny_call (codeAny_call_builtin F.excAttr_ValueError.ga.plain F.entry_bexc_ga (VJ (K:=K) (C:=C) X p c (VH (K:=K) (C:=C) X p c ?_)));show wpAny _ _ (handedOut (.ref C)) _ _ _;exact wpAny_pure (wpAny_pure h)
theorem KY (c:XC K C):KitX K (.ref x) (.ref C) (ExcAt x C) where
 ty:=fun _ _ _ p=>BL p
 it:=fun M h X _=>by
  obtain ⟨cd,hc⟩:=Option.isSome_iff_exists.mp c.cl;unfold clsIn at hc;split at hc
  ·rename_i ho;intro A' Q' E' s' k q
   (unfold isType loadHead;exact wpAny_bind (wpAny_loadPart (k _ _ (X _ _ ho)) (wpAny_pure q)))
  ·cases hc
 ne:=fun h tp dd its n sl X e=>by
  obtain ⟨cd,hc⟩:=Option.isSome_iff_exists.mp c.cl;unfold clsIn at hc;split at hc
  ·rename_i ho;refine Bool.eq_false_iff.mpr fun q=>?_
   have z:C=tp:=Value.ref.inj (beq_iff_eq.mp q);subst z;cases (X _ _ ho).symm.trans e
  ·cases hc
 ca:=fun X p h=>aE5 X p c h
end
end Mi
namespace Mi
open PySem L2 PySem.W PySem.SeqAt PySem.Spec PyProof.Rows
noncomputable abbrev mrk (X:Cx) (v:Value):Cx:={X with A:=X.A.mark (some v),calm:=false}
section
variable {X:Cx} {pins:List (Addr×Obj)} {σ:L2.St} {H H2:Hp} {s:Shared} {h h6:Heap} {a:Addr}
theorem VL (I:Inv X pins σ H s) (v:Value):Inv (mrk X v) pins σ H s:=
 ⟨⟨I.ok.mod,I.ok.kind,I.ok.glob,I.ok.blt,I.ok.above,I.ok.inj,I.ok.has,I.ok.cab,(fun z=>nomatch z),I.ok.frames,I.ok.stk,I.ok.exf,I.ok.bs,I.ok.bsz,I.ok.noex,I.ok.exfs,I.ok.NZ,I.ok.frf⟩,I.os,I.bare,I.base,I.loc,I.cell,I.free,I.freeC,I.pin,I.hok,I.len⟩
theorem VM {v:Value} (ok:X.Ok) (I:Inv (mrk X v) pins σ H s):Inv X pins σ H s:=
 ⟨ok,I.os,I.bare,I.base,I.loc,I.cell,I.free,I.freeC,I.pin,I.hok,I.len⟩
theorem aHf {fs:List Addr} {o:HO} (u:Un fs [] H H2 h h6) (hg:h.get? a=none) (hn:H2 a=none):Un fs [] H (upd H2 a o) h h6:=by
 have ne:∀b ob,h.get? b=some ob->b≠a:=fun b ob q z=>by rw [z,hg] at q;cases q
 refine ⟨u.keep,u.slot,fun b ob q n hx=>by rw [aN (ne b ob q)];exact u.free b ob q n hx,u.there,fun b xs q=>?_,fun b ob xs q=>?_,fun b ps q=>?_⟩
 ·have z:=u.tups b xs q;rw [aN (a_ z hn)];exact z
 ·have z:=u.frzs b ob xs q;rw [aN (a_ z hn)];exact z
 ·obtain ⟨m,z⟩:=u.tbls b ps q;exact ⟨m,by rw [aN (a_ z hn)];exact z⟩
theorem aE6 {P:Program} {w:World} {o:HO} (x:HOk P w H2 h6) (hn:H2 a=none) (new:eQ P w (upd H2 a o) h6 a o):HOk P w (upd H2 a o) h6:=fun b u e=>by
 by_cases hb:b=a
 ·subst hb;rw [aF] at e;cases e;exact new
 ·rw [aN hb] at e;exact (x b u e).stay (fun c v _ q=>q) (fun c q=>by rw [aN (a_ q hn)];exact q) fun c xs q=>by rw [aN (a_ q hn)];exact q
theorem aAb {i:Nat} {x:Str} {v:Option Value} {t':Nat} {h':Heap} {m:Str->Option Value} (I:Inv X pins σ H s) (hN:X.N.Nodup) (hi:X.N[i]?=some x) (hn:s.heap.Ns X.env.locals m)
  (hl:∀(i:Nat) (x:Str) (v:V),X.N[i]?=some x->σ[i]?=some (some v)->Vis X.env.scope x->∃u,RelV v u/\Look X.env s.heap m x u)
  (hn':h'.Ns X.env.locals (fun y=>if y=x then v else m y)) (hs:Heap.SameBut X.env.locals s.heap h'):Inv X pins (σ.set i none) H {s with heap:=h',toks:=t'}:=by
 have hiσ:i<σ.length:=by rw [I.len];exact (List.getElem?_eq_some_iff.mp hi).1
 have cne:=I.cne;have ne:∀b o,X.s₀.heap.get? b=some o->b≠X.env.locals:=fun b o e=>Nat.ne_of_lt (Nat.lt_of_lt_of_le (Heap.lt_size e) I.ok.above)
 refine ⟨I.ok,I.os,I.bare,⟨fun b o e n hb hx=>(hs.2 b (ne b o e)).trans (I.base.keep b o e n hb hx),fun b o e n hb hx=>?_,I.base.free,fun b o e hx=>?_,I.base.tups,I.base.frzs,I.base.tbls⟩,⟨_,hn',fun j y v' e1 e2 e3=>?_⟩,fun y c e=>?_,I.free,I.freeC,fun p hp=>?_,fun b ob e=>?_,by simpa using I.len⟩
 ·obtain ⟨sl,e1⟩:=I.base.slot b o e n hb hx;exact ⟨sl,(hs.2 b (ne b o e)).trans e1⟩
 ·obtain ⟨o',e1⟩:=I.base.there b o e hx;exact ⟨o',(hs.2 b (ne b o e)).trans e1⟩
 ·by_cases hj:j=i
  ·subst hj;rw [List.getElem?_set_self hiσ] at e2;cases e2
  ·rw [List.getElem?_set_ne (Ne.symm hj)] at e2;obtain ⟨u',r',q⟩:=hl j y v' e1 e2 e3;refine ⟨u',r',?_⟩;rcases q with ⟨k,e⟩|⟨k,c,e,z⟩
   ·refine .inl ⟨k,?_⟩;have:y≠x:=fun e=>hj (wZ hN e1 (e▸hi))
    simp [this,e]
   ·exact .inr ⟨k,c,e,z.sameBut hs (cne y c e)⟩
 ·obtain ⟨w',z⟩:=I.cell y c e;exact ⟨w',z.sameBut hs (cne y c e)⟩
 ·obtain ⟨e,n,ne,nf,d⟩:=I.pin p hp;exact ⟨(hs.2 p.1 ne).trans e,n,ne,nf,d⟩
 ·refine (I.hok b ob e).stay (fun c w' hc q=>(hs.2 c ?_).trans q) (fun _ q=>q) fun _ _ q=>q
  intro z;rcases hc with hc|hc
  ·rw [<-hc,z,I.free] at e;cases e
  ·rw [z,I.free] at hc;cases hc
end
variable [KFrag]
theorem BP:∀{cs:List Addr} {us:List Value},Vals (cs.map V.ref) us->us=cs.map Value.ref
 | [],_,.nil=>rfl
 | c::cs,_,.cons r t=>by rw [BP t];cases r;rfl
theorem KZ {H:Hp} {a:Addr} {o:HO} (h:H a=none):bO H (upd H a o):=fun b u e=>by rw [aN (a_ e h)];exact e
end Mi
namespace Mi
open PySem L2 PySem.SeqAt PySem.Spec PyProof.Rows
noncomputable def intsOf:List D->Option (List Int)
 | []=>some []
 | .int i::r=>(intsOf r).map (i::·)
 | _::_=>none
def j_:List D->Res D
 | [.lst ds]=>match intsOf ds with
  | some ns=>if ns.all (fun i=>decide (-1000<=i)&&decide (i<=1000))&&decide (ns.length<=100000) then .ok (.int ns.sum) else .bad
  | none=>.bad
 | _=>.bad
theorem BR:∀{ds:List D} {ns:List Int},intsOf ds=some ns->ds=ns.map D.int
 | [],ns,h=>by cases h;rfl
 | d::ds,ns,h=>by
  unfold intsOf at h;split at h
  ·rename_i e;cases e
  ·rename_i i r e;cases e;obtain ⟨ms,h1,h2⟩:=Option.map_eq_some_iff.mp h;subst h2;rw [List.map_cons,<-BR h1]
  ·cases h
theorem VN (ps:List (Int×Tok)):∀j,j<=ps.length->preSum (numAt ps.toArray) j=((ps.map (·.1)).take j).sum:=by
 intro j;induction j with
 | zero=>intro _;simp [preSum]
 | succ j ih=>
  intro hj;have hlt:j<ps.length:=by lia
  have e:numAt ps.toArray j=(ps.map (·.1))[j]'(by simpa using hlt):=by simp [numAt,hlt]
  rw [preSum,ih (by lia),e,<-List.take_append_getElem (by simpa using hlt),List.sum_append];simp
theorem BV (c:Int) (hc:0<=c):∀(l:List Int),(∀i∈l,-c<=i/\i<=c)->-(c*l.length)<=l.sum/\l.sum<=c*l.length
 | [],_=>by simp
 | x::l,h=>by
  have h1:=h x (List.mem_cons_self ..);have h2:=BV c hc l fun i hi=>h i (List.mem_cons_of_mem _ hi)
  simp only [List.sum_cons,List.length_cons,Int.natCast_add,Int.mul_add];simp only [Int.natCast_one,Int.mul_one];lia
variable [KFrag]
section
variable {X:Cx} {e:Expr} {rr:Bool}
theorem j4 {P:Addr->Prop} {H:Hp}:∀{ns:List Int} {ys:List V} {its:List Value},bF P H ys (ns.map D.int)->Vals ys its->∃ps:List (Int×Tok),its=ps.map (fun p=>Value.int p.1 p.2)/\ps.map (·.1)=ns
 | [],_,_,.nil,.nil=>⟨[],rfl,rfl⟩
 | n::ns,_,_,.cons r t,.cons v vs=>by
  obtain ⟨ps,h1,h2⟩:=j4 t vs;cases r;obtain ⟨tk,rfl⟩:=v;exact ⟨(n,tk)::ps,by rw [h1];rfl,by rw [List.map_cons,h2]⟩
theorem wL (hc:X.calm=true):lM X (.builtin "sum") (rs j_ true):=by
 intro pins s σ H xs us Q I vr ⟨ds,d,r,e,k⟩;unfold j_ at e;split at e
 ·split at e
  ·rename_i ns hns;split at e
   ·rename_i hb;rw [Bool.and_eq_true] at hb;cases e;obtain ⟨vv,uu,rfl,rfl,r,v⟩:=gH r vr;obtain ⟨l,ys,rfl,hl',rr⟩:=r.fX (K:=X.K);cases v;rw [BR hns] at rr;obtain ⟨its,vi,il,_⟩:=I.list hl';obtain ⟨ps,h1,h2⟩:=j4 rr vi;subst h1;have hlen:ps.length=ns.length:=by rw [<-h2,List.length_map]
    have hn:ns.length<=100000:=of_decide_eq_true hb.2;have hall:∀i∈ns,-1000<=i/\i<=1000:=fun i hi=>by
     have:=List.all_eq_true.mp hb.1 i hi;rw [Bool.and_eq_true,decide_eq_true_eq,decide_eq_true_eq] at this;exact this
    have ia:s.heap.IsList l (intItems ps.toArray):=by
     obtain ⟨o,n,e1,e2,e3,e4⟩:=il;exact ⟨o,e1,e2,n,by simpa [intItems] using e4⟩
    refine sum_intList (I.ok.hd hc) ia (fun j hj=>?_) fun h' tk t' kp=>⟨.int ns.sum,H,I.kept (t':=tk) kp,⟨t',?_⟩,k _ _ (bO.refl H) (.int _) fun _=>.int _⟩
    ·have hj':j<ps.length:=by simpa using hj
     refine ⟨?_,?_⟩
     ·have hm:numAt ps.toArray j∈ns:=by
       have e:numAt ps.toArray j=(ps.map (·.1))[j]'(by simpa using hj'):=by simp [numAt,hj']
       rw [e,<-h2];exact List.getElem_mem _
      have:=hall _ hm;unfold InLong;lia
     ·rw [VN ps (j+1) (by lia),h2];have:=BV 1000 (by decide) (ns.take (j+1)) fun i hi=>hall i (List.mem_of_mem_take hi)
      have hl:(ns.take (j+1)).length<=100000:=Nat.le_trans (List.length_take_le' ..) hn;unfold InLong;lia
    ·have:=VN ps ps.length (Nat.le_refl _);rw [h2,hlen,List.take_length] at this;rw [List.size_toArray,hlen,this]
   ·cases e
  ·cases e
 ·cases e
theorem wM:bootBuiltins "sum" = some (.builtin "sum"):=by decide +kernel
end
def DV (H:Hp) (a:Addr) (kvs:List (Key×V)):Prop:=H a=some (.dK kvs)\/(kvs=[]/\H a=some (.dT []))
theorem aC5 {κ:Type}:∀{kvs:List (κ×V)} {vs:List (κ×Value)} {i:Nat} {p:κ×V},KV kvs vs->kvs[i]?=some p->∃u,vs[i]?=some (p.1,u)/\RelV p.2 u
 | _,_,_,_,.nil,h=>by simp at h
 | _,_,0,_,.cons r _,h=>by
  simp at h;subst h;exact ⟨_,by simp [r.1],r.2⟩
 | _,_,i+1,_,.cons _ t,h=>by
  obtain ⟨u,h1,h2⟩:=aC5 t (by simpa using h);exact ⟨u,by simpa using h1,h2⟩
section
variable {X:Cx} {pins:List (Addr×Obj)} {σ:L2.St} {H:Hp} {s:Shared} {a:Addr} {kvs:List (Key×V)}
theorem aHg (hu:DV H a kvs):L2.Mut (H a):=by
 rcases hu with h|⟨_,h⟩ <;> rw [h] <;> trivial
theorem VP (I:Inv X pins σ H s) (hu:DV H a kvs):kvs.length<=sizeLine/\(a==sysModules)=false/\∃vs,KV kvs vs/\s.heap.DictOf (bU X.prog X.w) a vs:=by
 rcases hu with h|⟨rfl,h⟩
 ·exact PL I.hok h
 ·exact PL (iV I h).hok aF
theorem aHh (I:Inv X pins σ H s) (hu:DV H a kvs) {o:Obj} (ho:s.heap.get? a=some o):∃u,H a=some u/\∀(H':Hp) (h:Heap),h.get? a=some o->eQ X.prog X.w H' h a u:=by
 rcases hu with h|⟨_,h⟩
 ·obtain ⟨z,hs,vs,rel,o',es,ep,ho',c⟩:=I.hok a _ h;rw [ho] at ho';cases ho';exact ⟨_,h,fun H' h' e=>⟨z,hs,vs,rel,o,es,ep,e,c⟩⟩
 ·obtain ⟨z,hs,xs,rel,o',es,ep,ho',c⟩:=I.hok a _ h;rw [ho] at ho';cases ho';cases rel;exact ⟨_,h,fun H' h' e=>⟨z,hs,[],.nil,o,es,ep,e,c⟩⟩
end
noncomputable def aE7:HO->Bool
 | .tup _=>false
 | .frz _ (.lst _)=>false
 | _=>true
mutual
theorem xY {P:Addr->Prop} {H:Hp} {a:Addr} {u:HO} (ea:∀ob,H a=some ob->aE7 ob=true):∀{v:V} {d:D},Rep P H v d->d.pure=true->Rep P (upd H a u) v d
 | _,_,.non,_=>.non
 | _,_,.bl b,_=>.bl b
 | _,_,.int i,_=>.int i
 | _,_,.str x,_=>.str x
 | _,_,.tup (a:=b) e r,h=>.tup (by rw [aN (fun z=>by rw [z] at e;have:=ea _ e;cases this)];exact e) (nA ea r (by rw [D.pure] at h;exact h))
 | _,_,.lst _ _ _,h=>by rw [D.pure] at h;cases h
 | _,_,.frz e r,h=>.frz (e.imp (fun ⟨o,e⟩=>⟨o,by rw [aN (fun z=>by rw [z] at e;have:=ea _ e;cases this)];exact e⟩) id) (nA ea r (by rw [D.pure] at h;exact h))
 | _,_,.cel _ _ _,h=>by rw [D.pure] at h;cases h
 | _,_,.dK _ _ _ _,h=>by rw [D.pure] at h;cases h
 | _,_,.dT _ _ _ _,h=>by rw [D.pure] at h;cases h
 | _,_,.fdK _ _ _,h=>by rw [D.pure] at h;cases h
 | _,_,.fdT _ _ _,h=>by rw [D.pure] at h;cases h
 | _,_,.exc _ _ _,h=>by rw [D.pure] at h;cases h
 | _,_,.ins _ _ _,h=>by rw [D.pure] at h;cases h
theorem nA {P:Addr->Prop} {H:Hp} {a:Addr} {u:HO} (ea:∀ob,H a=some ob->aE7 ob=true):∀{v:List V} {d:List D},bF P H v d->D.aG d=true->bF P (upd H a u) v d
 | _,_,.nil,_=>.nil
 | _,_,.cons r t,h=>by
  rw [D.aG,Bool.and_eq_true] at h;exact .cons (xY ea r h.1) (nA ea t h.2)
end
end Mi
namespace Mi
open PySem L2 PySem.SeqAt PySem.Spec PyProof.Rows
variable [KFrag]
structure aKp (K:PySem.W.Frag) (x qual:Str) (st:Stmt) (f:Addr) (fd:FuncData) (T:Addr) (its:Array Value):Prop where
 ex:∃(oc:Value) (od:Option Addr) (kV doc pm:Value) (an:Option Addr) (cdv ct:Value) (osl:Array (Option Value)),
  fd=PySem.W.fnOf x qual (dU st) (cN st) (aM st) (.ref T) kV doc pm an cdv ct/\K.lookup f=some ⟨oc,od,.func fd,osl⟩/\PySem.W.codeIn K cdv qual=true
 kp:PySem.W.keepIn K (.ref f)=true
 df:∃(tc:Value) (td:Option Addr) (tn:Nat) (tl:Array (Option Value)),K.lookup T=some ⟨tc,td,.seq its tn,tl⟩
structure aNc (P:Program) (w:World) (K:PySem.W.Frag) (mg:Str->Option Value) (base:Heap) (k:Nat) (x kw:Str) (n:Nat) (df:D) (f:List D->Res D):Prop where
 ex:∃(fad:Addr) (fd:FuncData) (ps:List Str) (u:Value) (v:V),jU P w K mg base CX0 k fad fd ps (spD f (n+1))/\mg x=some (.ref fad)/\PySem.W.keepIn K (.ref fad)=true/\Binds K fd ps []/\Binds K fd ps [u]/\RelV v u/\(∀H:Hp,Rep All H v df)/\
  ∀(s:Shared) (us:List Value) (y:Value),K.In s.heap->us.length=n->BindsTo s fd ⟨us,[(kw,y)]⟩ (ps.zip (us++[y]))
end Mi
namespace Mi
open PySem L2 PySem.SeqAt PySem.Spec PyProof.Rows
def aHi:D->D->Res D
 | .tup a,.tup b=>if decide (a.length+b.length<=lim) then .ok (.tup (a++b)) else .bad
 | _,_=>.bad
def kE:List D->List D->List (D×D)->List (D×D)
 | k::ks,v::vs,m=>kE ks vs (putD m k v)
 | _,_,m=>m
noncomputable def RJ (c:FT) (body:FS):Nat->List D->Res Fl
 | 0,_=>.bad
 | n+1,ρ=>do
  let k <- c ρ
  if k then (do
   let r <- body ρ
   match r with
   | .nx ρ'=>RJ c body n ρ'
   | .ct ρ'=>RJ c body n ρ'
   | .bk ρ'=>.ok (.nx ρ')
   | .rt d=>.ok (.rt d))
  else .ok (.nx ρ)
def aKq (c:FT) (body:FS):FS:=fun ρ=>RJ c body 1000 ρ
variable [KFrag]
section
variable {X:Cx} {pos:Pos}
theorem aE8:OpR X (binaryOp .Add) (r2 aHi false):=by
 intro pins s σ H x y v u Q I rx ry h;obtain ⟨a,b,d,p,q,e,k⟩:=h;unfold aHi at e;split at e
 ·rename_i da db;split at e
  ·rename_i hl;cases e;cases p with
   | @tup l1 xs1 _ e1 r1=>
    cases q with
    | @tup l2 xs2 _ e2 r2=>
     cases rx;cases ry;have hz:xs1.length+xs2.length<=sizeLine:=by rw [r1.length,r2.length];exact jF hl
     obtain ⟨its,w1,p1,_⟩:=I.tuple (.of e1);obtain ⟨its2,w2,p2,_⟩:=I.tuple (.of e2);obtain ⟨⟨cls,dd,data,sl⟩,ho,hc,n,hd⟩:=id p1;obtain ⟨⟨cls2,dd2,data2,sl2⟩,ho2,hc2,n2,hd2⟩:=id p2;simp only at hc hd hc2 hd2;by_cases hv:its=[]
     ·have:xs1=[]:=w1.sW.mp hv;subst this;cases r1;refine concat_meets ⟨_,ho,hc⟩ ⟨_,ho2,hc2⟩ noFill_tuple_add seq_tuple_add PySem.F.slot_tuple_add PySem.F.entry_tuple_add (PySem.F.args_tuple_add_2 _ _)
       (tuple_addW0 l1 l2 its.toArray its2.toArray n n2 dd dd2 sl sl2 (by simp [hv])) ⟨by subst hc hd;exact ho,by subst hc2 hd2;exact ho2,.ref l2,H,I,rfl,?_⟩
      exact k.self (.tup e2 r2) (fun z=>by cases z)
     ·refine aDb pins s σ H (.ref l1) (.ref l2) _ _ Q I rfl rfl ⟨l1,l2,xs1,xs2,rfl,rfl,.of e1,.of e2,fun z=>hv (w1.sW.mpr z),hz,fun z=>?_,fun z p hp=>?_⟩
      ·subst z;cases r2;rw [List.append_nil] at k;exact k.self (.tup e1 r1) (fun z=>by cases z)
      ·have sp:bO H (upd H p (.tup (xs1++xs2))):=bO.upd hp;exact k _ _ sp (.tup aF ((r1.append r2).same sp)) fun z=>by cases z
  ·cases e
 ·cases e
theorem aHj {own:Nat->Bool} {c:Expr} {body:List Stmt} {gc:FT} {fb:FS} (hp:PassesOwn (model X.prog X.w) X.A X.env X.xe) (hc:PT X c (gT gc)) (hb:PSs X body (tS own fb)):PS X (.While c body [] pos) (tS own (aKq gc fb)):=
 PS.imp (JQ hp hc hb) fun D σ H ⟨ρ,fl,E,h,q⟩=>by
 refine ⟨fun m σ' H'=>∃ρ' ,ES own H' σ' ρ'/\RJ gc fb m ρ'=.ok fl/\kS own D σ' H' fl,⟨1000,ρ,E,h,q⟩,?_⟩;rintro m σ H ⟨ρ,E,h,q⟩;cases m with
 | zero=>cases h
 | succ m=>
  rw [RJ] at h;obtain ⟨k,h1,h2⟩:=bI h;refine ⟨ρ,k,E.er,h1,fun H1 s=>?_⟩;cases k with
  | true=>
   rw [if_pos rfl];rw [if_pos rfl] at h2;obtain ⟨r,h3,h4⟩:=bI h2;refine ⟨fun σ' H'=>∃ρ',ES own H' σ' ρ'/\RJ gc fb m ρ'=.ok fl/\kS own D σ' H' fl,fun σ' H' w=>⟨m,Nat.lt_succ_self m,w⟩,ρ,r,E.same s,h3,?_⟩;have q1:=q.step (.same s);cases r with
   | nx ρ'=>exact fun σ' H' ku E'=>⟨ρ',E',h4,q1.step ku⟩
   | ct ρ'=>exact fun σ' H' ku E'=>⟨ρ',E',h4,q1.step ku⟩
   | bk ρ'=>cases h4;exact fun σ' H' ku E'=>q1 σ' H' ku E'
   | rt d=>cases h4;exact q1
  | false=>
   rw [if_neg (by simp)];rw [if_neg (by simp)] at h2;cases h2;exact (q.step (.same s)) σ H1 (fun a o e n=>⟨e,n⟩) (E.same s)
end
theorem aHk {P:Program} {w:World} {k:Key} {v:Value} (h:(bU P w).is k v=true):RelV (kV k) v:=by
 have h:FQ k v=true:=h;rcases cG h with ⟨i,t,rfl,rfl⟩|⟨x,t,rfl,rfl⟩
 ·exact ⟨t,rfl⟩
 ·exact ⟨t,rfl⟩
section
variable {X:Cx} {pins:List (Addr×Obj)} {σ:L2.St} {H:Hp} {s:Shared} {a:Addr}
theorem aAc {o:Obj} {u:HO} (I:Inv X pins σ H s) (e:H a=some (.frz o u)) (hn:∀o u,X.H₀ a≠some (.frz o u)):Inv X pins σ (upd H a u) s:=by
 have ne:∀b,H b=none->b≠a:=fun b h z=>by subst z;rw [e] at h;cases h
 have keepT:∀b xs,H b=some (.tup xs)->upd H a u b=some (.tup xs):=fun b xs h=>by
  rw [aN (fun z=>by subst z;rw [e] at h;cases h)];exact h
 have keepO:∀b x,H b=some (.own x)->upd H a u b=some (.own x):=fun b x h=>by
  rw [aN (fun z=>by subst z;rw [e] at h;cases h)];exact h
 refine ⟨I.ok,I.os,I.bare,⟨I.base.keep,I.base.slot,fun b o h1 h2 h3=>?_,I.base.there,fun b xs h=>?_,fun b o' u' h=>?_,fun b ps h=>?_⟩,I.loc,I.cell,?_,fun x c h=>?_,fun p hp=>?_,fun b ob h=>?_,I.len⟩
 ·have:=I.base.free b o h1 h2 h3;rw [aN (ne b this)];exact this
 ·exact keepT b xs (I.base.tups b xs h)
 ·have:=I.base.frzs b o' u' h;rw [aN (fun z=>by subst z;exact hn _ _ h)];exact this
 ·obtain ⟨more,h1⟩:=I.base.tbls b ps h;refine ⟨more,?_⟩;rw [aN (fun z=>by subst z;rw [e] at h1;cases h1)];exact h1
 ·rw [aN (ne _ I.free)];exact I.free
 ·have:=I.freeC x c h;rw [aN (ne _ this)];exact this
 ·obtain ⟨h1,h2,h3⟩:=I.pin p hp;exact ⟨h1,by rw [aN (ne _ h2)];exact h2,h3⟩
 ·by_cases hb:b=a
  ·subst hb;rw [aF] at h;cases h;obtain ⟨_,h2⟩:=I.hok b _ e;exact h2.stay (fun _ _ _ q=>q) (fun c hc=>keepO c b hc) keepT
  ·rw [aN hb] at h;exact (I.hok b _ h).stay (fun _ _ _ q=>q) (fun c hc=>keepO c b hc) keepT
end
end Mi
namespace Wz
open PySem PySem.Spec
noncomputable abbrev itO (t:Addr) (i:Nat):Obj:={cls:=.type "tuple_iterator",data:=.fields #[.ref t,.int i 0]}
noncomputable abbrev tuO (xs:Array Value) (n:Nat) (dd:Option Addr) (sl:Array (Option Value)):Obj:={cls:=.type "tuple",dict:=dd,data:=.seq xs n,slots:=sl}
abbrev zpO (f0 f1:Value) (TI TO:Addr):Obj:={cls:=.type "zip",data:=.fields #[f0,f1,.bool false,.ref TI,.ref TO]}
noncomputable abbrev prO (a b:Value):Obj:={cls:=.type "tuple",data:=.seq #[a,b]}
theorem QJ (it t:Addr) (i:Nat) (xs:Array Value) (n:Nat) (dd:Option Addr) (sl:Array (Option Value)) (x:Value) (hx:xs[i]?=some x) :
  Meets (Builtin.«tuple_iterator.__next__» ⟨[.ref it],[]⟩) (fun _ R s=>s.heap.get? it=some (itO t i)/\s.heap.get? t=some (tuO xs n dd sl)/\R (.ok (.ret x)) {s with heap:=s.heap.update it (Obj.mapFields (·.setIfInBounds 1 (rawInt (i+1))))}):=.of_wp fun prog w A R s hs=>by
 obtain ⟨hp,g,d,tk,os⟩:=s;obtain ⟨e1,e2,hq⟩:=hs
 wp_walk
 rw [Int.toNat_natCast,hx]
 wp_walk
 exact ⟨_,rfl,hq⟩
theorem QK (it t:Addr) (i:Nat) (xs:Array Value) (n:Nat) (dd:Option Addr) (sl:Array (Option Value)) (hx:xs[i]?=none) :
  Meets (Builtin.«tuple_iterator.__next__» ⟨[.ref it],[]⟩) (fun A R s=>A.handled=none/\s.heap.get? it=some (itO t i)/\s.heap.get? t=some (tuO xs n dd sl)/\∀h' e,Heap.ExtBut it s.heap h'->(∃o,h'.get? e=some o/\o.cls=.type "StopIteration")->R (.error (.ref e)) {s with heap:=h'}):=.of_wp fun prog w A R s hs=>by
 obtain ⟨hp,g,d,tk,os⟩:=s;obtain ⟨hh,e1,e2,hq⟩:=hs
 wp_walk
 rw [Int.toNat_natCast,hx]
 wp_walk
 have hh1:A.in1.handled=none:=hh;unfold raiseNew
 wp_walk
 exact hq _ _ (((Heap.SameBut.update ..).extBut.push _).push _) ⟨_,Heap.get?_push_size _ rfl,rfl⟩
section
variable {prog:Program} {w:World} {A:Around} {E:Value->Shared->Prop} {s:Shared} {it t:Addr} {i:Nat} {xs:Array Value} {x:Value} {n:Nat} {dd:Option Addr} {sl:Array (Option Value)}
theorem drawn {Q:Value->Shared->Prop} (e1:s.heap.get? it=some (itO t i)) (e2:s.heap.get? t=some (tuO xs n dd sl)) (hx:xs[i]?=some x)
  (q:∀h',h'.get? it=some (itO t (i+1))->Heap.SameBut it s.heap h'->Q x {s with heap:=h'}):wpAny (model prog w) A (Builtin.SmallTypes.nextOf (.ref it)) Q E s:=by
 have ty:s.TypeIs (.ref it) "tuple_iterator":=⟨_,e1,rfl⟩
 refine wpAny_bind (wpAny_callSpecial?_slot ty F.slot_tuple_iterator_next ?_);refine call_meets F.slot_tuple_iterator_next ty F.entry_tuple_iterator_next (F.args_tuple_iterator_next_1 _) (QJ it t i xs n dd sl x hx) ⟨e1,e2,wpAny_pure (q _ ?_ (Heap.SameBut.update ..))⟩;exact Heap.get?_update_self _ e1 rfl
theorem over {Q:Value->Shared->Prop} (hh:A.handled=none) (e1:s.heap.get? it=some (itO t i)) (e2:s.heap.get? t=some (tuO xs n dd sl)) (hx:xs[i]?=none)
  (q:∀h' e,Heap.ExtBut it s.heap h'->(∃o,h'.get? e=some o/\o.cls=.type "StopIteration")->E (.ref e) {s with heap:=h'}):wpAny (model prog w) A (Builtin.SmallTypes.nextOf (.ref it)) Q E s:=by
 have ty:s.TypeIs (.ref it) "tuple_iterator":=⟨_,e1,rfl⟩
 refine wpAny_bind (wpAny_callSpecial?_slot ty F.slot_tuple_iterator_next ?_);exact call_meets F.slot_tuple_iterator_next ty F.entry_tuple_iterator_next (F.args_tuple_iterator_next_1 _) (QK it t i xs n dd sl hx) ⟨hh,e1,e2,fun h' e k o=>q h' e k o⟩
end
structure Apart (z TI TO i1 i2 l1 l2:Addr):Prop where
 zTI:z≠TI
 zTO:z≠TO
 z1:z≠i1
 z2:z≠i2
 zl:z≠l1
 zm:z≠l2
 TT:TI≠TO
 T1:TI≠i1
 T2:TI≠i2
 O1:TO≠i1
 O2:TO≠i2
 Ol:TO≠l1
 Om:TO≠l2
 ij:i1≠i2
 il:i1≠l1
 im:i1≠l2
 jl:i2≠l1
 jm:i2≠l2
def aAd (z TO i1 i2:Addr) (h h':Heap):Prop:=∀c o,c≠z->c≠TO->c≠i1->c≠i2->h.get? c=some o->h'.get? c=some o
noncomputable abbrev nxt (z:Addr):Sem PySem.Fin:=Builtin.«zip.__next__» ⟨[.ref z],[]⟩
abbrev Got (Q:Value->Shared->Prop):PySem.Fin->Shared->Prop:=fun r t=>∃v,r=.done (.ret v)/\Q v t
section
variable {prog:Program} {w:World} {A:Around} {E:Value->Shared->Prop} {s:Shared}
theorem there {c:Addr} {o:Obj} {Q:Option Obj->Shared->Prop} (e:s.heap.get? c=some o) (q:Q (some o) s):wpAny (model prog w) A (loadIfAlive c) Q E s:=fun Γ p _=>by
 show Sem.wp _ Γ (.loadIfAlive c pure) _ _ p s;rw [Sem.wp_loadIfAlive,e];exact q
end
theorem five (h:Heap) (a b c d e:Obj) (fa:a.isFreed=false) (fb:b.isFreed=false) (fc:c.isFreed=false) (fd:d.isFreed=false) (fe:e.isFreed=false) :
  (((((h.push a).push b).push c).push d).push e).get? h.objs.size=some a/\(((((h.push a).push b).push c).push d).push e).get? (h.objs.size+1)=some b/\(((((h.push a).push b).push c).push d).push e).get? (h.objs.size+2)=some c/\(((((h.push a).push b).push c).push d).push e).get? (h.objs.size+3)=some d/\(((((h.push a).push b).push c).push d).push e).get? (h.objs.size+4)=some e/\
  (∀x o,h.get? x=some o->(((((h.push a).push b).push c).push d).push e).get? x=some o)/\(((((h.push a).push b).push c).push d).push e).objs.size=h.objs.size+5:=by
 have z1:(h.push a).objs.size=h.objs.size+1:=Heap.size_push ..;have z2:((h.push a).push b).objs.size=h.objs.size+2:=(Heap.size_push ..).trans (by rw [z1]);have z3:(((h.push a).push b).push c).objs.size=h.objs.size+3:=(Heap.size_push ..).trans (by rw [z2]);have z4:((((h.push a).push b).push c).push d).objs.size=h.objs.size+4:=(Heap.size_push ..).trans (by rw [z3]);have up:∀{h:Heap} {x:Addr} {o q:Obj},h.get? x=some o->(h.push q).get? x=some o:=fun e=>Heap.get?_push_of_some _ e
 have g2:=Heap.get?_push_size (h.push a) (o:=b) fb;have g3:=Heap.get?_push_size ((h.push a).push b) (o:=c) fc;have g4:=Heap.get?_push_size (((h.push a).push b).push c) (o:=d) fd;have g5:=Heap.get?_push_size ((((h.push a).push b).push c).push d) (o:=e) fe;rw [z1] at g2;rw [z2] at g3;rw [z3] at g4;rw [z4] at g5;exact ⟨up (up (up (up (Heap.get?_push_size h fa)))),up (up (up g2)),up (up g3),up g4,g5,fun x o q=>up (up (up (up (up q)))),(Heap.size_push ..).trans (by rw [z4])⟩
theorem VR:typeLookup (.type "zip") "keys" = pure none:=by rw [typeLookup_type,builtinLookup_eq_fast];kernel_rfl
theorem noGet:typeLookup (.type "zip") "__getattr__" = pure none:=by rw [typeLookup_type,builtinLookup_eq_fast];kernel_rfl
theorem VV:entryFor table "zip.__getattribute__" = some Builtin.«object.__getattribute__»:=entryFor_alias (id' := "object.__getattribute__") (by kernel_rfl) (by decide +kernel) (by decide +kernel) (by kernel_rfl)
theorem mC (a:Addr) (f0 f1:Value) (TI TO:Addr) (u:Tok):Meets (Builtin.«object.__getattribute__» ⟨[.ref a,.str "keys" u],[]⟩) (fun A R s=>s.heap.get? a=some (zpO f0 f1 TI TO)/\raisesAttr (.ref a) "keys" A R s):=.of_wp fun prog w A R s hs=>by
 obtain ⟨hp,g,d,tk,os⟩:=s;obtain ⟨e,hh,q⟩:=hs;have ty:(⟨hp,g,d,tk,os⟩:Shared).TypeIs (.ref a) "zip":=⟨_,e,rfl⟩
 have no:=VR
 wp_walk
 exact wpAny_raiseAttrError hh q (attrMsg_fits (by decide +kernel) (by size_fits))
section
variable {prog:Program} {w:World} {A:Around} {E:Value->Shared->Prop} {hp:Heap} {g:Array GenState} {d:Drawn} {tk:Nat} {os:OsState} {a TI TO:Addr} {f0 f1:Value}
theorem gone {u:Tok} {kw:List (Str×Value)} {Q:Value->Shared->Prop} (e:hp.get? a=some (zpO f0 f1 TI TO)) (hh:A.handled=none) (hk:kw=[]) (q:∀h' tk' x,Heap.NewAttrErr hp h' x (.ref a) "keys"->E (.ref x) ⟨h',g,d,tk',os⟩) :
  wpAny (model prog w) A (call (.builtin "zip.__getattribute__") ([.ref a]++[.str "keys" u]) kw) Q E ⟨hp,g,d,tk,os⟩:=by
 subst hk;exact call_meets F.slot_zip_getattribute ⟨_,e,rfl⟩ VV (F.args_zip_getattribute_2 _ _) (mC a f0 f1 TI TO u) ⟨e,hh,fun h' tk' x hx=>q h' tk' x hx⟩
theorem lacks {Q:Option Value->Shared->Prop} (e:hp.get? a=some (zpO f0 f1 TI TO)) (hh:A.handled=none) (q:∀h' tk',(∀b o,hp.get? b=some o->h'.get? b=some o)->Q none ⟨h',g,d,tk',os⟩):wpAny (model prog w) A (getAttr? (.ref a) "keys") Q E ⟨hp,g,d,tk,os⟩:=by
 have ty:∀tk',(⟨hp,g,d,tk',os⟩:Shared).TypeIs (.ref a) "zip":=fun _=>⟨_,e,rfl⟩
 have f3:=F.slot_zip_getattribute.lookup;have f4:=F.slot_zip_getattribute.bind (.ref a);have f5:=noGet;have sub:=sub_AttributeError
 wp_walk using gone e hh
 case hk=>rfl
 intro h' tk' x hx;obtain ⟨t,u,ex⟩:=hx.there;show wpAny _ _ (getattributeRaised _ _ _ _ _ _ _) _ _ _
 wp_walk
 exact q _ _ hx.keeps
end
section
variable {d:Addr}
theorem apart {h:Heap} {c d:Addr} {o od:Obj} {T:String} (e:h.get? c=some o) (hc:o.cls=.type T) (ed:h.get? d=some od) (hd:od.cls=.type "dict") (ne:(Value.type T==Value.type "dict")=false):c≠d:=fun q=>by
 subst q;rw [e] at ed;cases ed;rw [hc] at hd;rw [hd] at ne;simp at ne
end
theorem i_:entryFor table "dict.update.loop" = some Builtin.«dict.update.loop»:=entryFor_of_tree (by kernel_rfl)
end Wz
namespace Mi
open PySem L2 PySem.SeqAt PySem.Spec PyProof.Rows
variable [KFrag]
theorem boot_zip:bootBuiltins "zip" = some (.type "zip"):=by decide +kernel
theorem xZ:bootBuiltins "dict" = some (.type "dict"):=by decide +kernel
theorem V0 {P:Addr->Prop} {H:Hp} {pr:Program} {w:World}:∀{vs:List V} {us:List Value} {ds:List D},bF P H vs ds->Vals vs us->ds.all eY=true->∃ks:List Key,ks.map kD=ds/\ks.length=us.length/\∀(i:Nat) (u:Value),us[i]?=some u->∃k,ks[i]?=some k/\(bU pr w).is k u=true
 | _,_,_,.nil,.nil,_=>⟨[],rfl,rfl,fun i u h=>by simp at h⟩
 | v::vs,u::us,d::ds,.cons r t,.cons rv tv,h=>by
  rw [List.all_cons,Bool.and_eq_true] at h;obtain ⟨ks,h1,h2,h3⟩:=V0 (pr:=pr) (w:=w) t tv h.2;obtain ⟨k,hk1,hk2⟩:∃k:Key,kD k=d/\(bU pr w).is k u=true:=by
   cases r with
   | int i=>exact ⟨.inl i,rfl,zU (k:=.inl i) rv⟩
   | str x=>exact ⟨.inr x,rfl,zU (k:=.inr x) rv⟩
   | _=>cases h.1
  refine ⟨k::ks,by rw [List.map_cons,hk1,h1],by rw [List.length_cons,List.length_cons,h2],fun i u' hu=>?_⟩;cases i with
  | zero=>simp at hu;subst hu;exact ⟨k,rfl,hk2⟩
  | succ i=>exact h3 i u' (by simpa using hu)
theorem x_ {P:Addr->Prop} {H:Hp} {k:Key} {v:V} {d:D} (r:Rep P H v d):∀{kvs:List (Key×V)} {ds:List (D×D)},d9 P H kvs ds->(kvs.map (·.1)).Nodup->d9 P H (putK kvs k v) (putD ds (kD k) d)
 | _,_,.nil,_=>.cons r .nil
 | _,_,.cons (k:=k') (v:=v') (r:=kvs) (ds:=ds) r' t,hn=>by
  rw [List.map_cons,List.nodup_cons] at hn;rw [putD,UT];by_cases h:k'=k
  ·rw [xV h (by rw [<-h];exact hn.1),if_pos (decide_eq_true h),h];exact .cons r t
  ·rw [xW h,if_neg (by simpa using h)];exact .cons r' (x_ r t hn.2)
theorem K7 {P:Addr->Prop} {H:Hp}:∀{ks:List Key} {vs:List V} {ds:List D} {kvs:List (Key×V)} {es:List (D×D)},bF P H vs ds->d9 P H kvs es->(kvs.map (·.1)).Nodup->d9 P H (d_ kvs (ks.zip vs)) (kE (ks.map kD) ds es)/\((d_ kvs (ks.zip vs)).map (·.1)).Nodup
 | [],_,_,_,_,_,r,n=>by
  rw [List.zip_nil_left];exact ⟨by cases ‹List D› <;> exact r,n⟩
 | k::ks,_,_,kvs,es,.nil,r,n=>⟨r,n⟩
 | k::ks,_,_,kvs,es,.cons rv tv,r,n=>K7 (ks:=ks) tv (x_ rv r n) (gM n)
theorem aHl {vs:List V} {us:List Value} (r:Vals vs us):∀ks:List Key,KV (ks.zip vs) (ks.zip us):=by
 induction r with
 | nil=>intro ks;rw [List.zip_nil_right,List.zip_nil_right];exact .nil
 | cons h t ih=>
  intro ks;cases ks with
  | nil=>exact .nil
  | cons k ks=>exact .cons ⟨rfl,h⟩ (ih ks)
theorem V1 {n l m:Nat} (hl:l<n) (hm:m<n):Wz.Apart (n+4) (n+2) (n+3) n (n+1) l m:=by
 constructor <;> (intro h;replace h:@Eq Nat _ _:=h;lia)
end Mi
namespace Mi
open PySem L2 PySem.SeqAt PySem.Spec PyProof.Rows
noncomputable def V2 (i j:Nat):FS:=fun ρ=>match ρ.getD i .uD with
 | .lst xs=>(match xs[xs.length-1]? with|some x=>.ok (.nx ((ρ.set i (.lst xs.dropLast)).set j x))|none=>.bad)
 | _=>.bad
def aJl (i:Nat) (f:FE):FS:=fun ρ=>do
 let d <- f ρ
 match ρ.getD i .uD,d with
 | .lst xs,.lst ys=>if decide (xs.length+ys.length<=lim)&&D.aG ys then .ok (.nx (ρ.set i (.lst (xs++ys)))) else .bad
 | _,_=>.bad
noncomputable def aG0:List D->Res D
 | [.bl b]=>.ok (.int (if b then 1 else 0))
 | [.int i]=>.ok (.int i)
 | _=>.bad
variable [KFrag]
theorem aE9 {X:Cx}:lM X (.type "int") (rs aG0 true):=by
 intro pins s σ H xs us Q I vr ⟨ds,d,r,e,k⟩;unfold aG0 at e;split at e
 ·cases e;obtain ⟨vv,uu,rfl,rfl,r,v⟩:=gH r vr;cases r;cases v;exact call_int_bool ⟨.int _,H,I.tok _,⟨_,rfl⟩,k.int⟩
 ·cases e;obtain ⟨vv,uu,rfl,rfl,r,v⟩:=gH r vr;cases r;obtain ⟨t,rfl⟩:=v;exact call_int_int ⟨.int _,H,I,⟨_,rfl⟩,k.int⟩
 ·cases e
section
variable {X:Cx} {own:Nat->Bool} {e:Expr} {fe:FE} {re:Bool} {pos:Pos}
theorem aEa {i j:Nat} {x y:Str} {p1 py apos cpos:Pos} (ho:own i=true) (hN:X.N[i]?=some x) (hv:Vis X.env.scope x) (hnd:X.N.Nodup) (hj:X.N[j]?=some y) (hy:Loc X.env.scope y) (hoj:own j=false) (hd:nDb x:=by decide) (hcd:nCd x:=by decide)
  (hbase:attributeBase (.Name x p1) "pop" X.env (eval (.Name x p1) X.env)=eval (.Name x p1) X.env:=by rfl)
  (hline:(apos.endLine==cpos.line)=true:=by rfl)
  (hs:swapsWith (.Call (.Attribute (.Name x p1) "pop" apos) [] [] cpos) (some (.Name y py)) pos.line X.env=pure false:=by rfl) (hf:X.fn y=true\/X.env.scope.names.lookup y=some .local:=by first|exact .inl rfl|exact .inr rfl|assumption) :
  PS X (.Assign [.Name y py] (.Call (.Attribute (.Name x p1) "pop" apos) [] [] cpos) pos) (tS own (V2 i j)):=
 PS.imp (RV hnd hj hy (JZ PySem.F.plainAttrs_list PySem.F.slot_list_pop PySem.F.type_list_pop SX (aW hN hv hd hcd) hbase hline) hs hf) fun D' σ H ⟨ρ,fl,E,h,q⟩=>by
 unfold V2 at h;split at h
 ·rename_i xs hx;split at h
  ·rename_i dx hdx;cases h;obtain ⟨a,o,hσ,r,hin,ha,hm⟩:=E.ownAt ho (by rw [hx];intro z;cases z);rw [hx] at r hin;obtain ⟨vs,hl,rr⟩:=U6 r;obtain ⟨v,hvx,rv⟩:=rr.get hdx;have hlen:=rr.length;refine ⟨_,hσ,.inl ⟨rfl,vs,.of hl⟩,a,vs,v,rfl,rfl,hl,by rw [hlen];exact hvx,?_⟩;have hin':D.aG xs=true:=hin;have pall:∀y∈xs,y.pure=true:=fun y hy=>b7.mp hin' y hy
   have pdx:dx.pure=true:=pall dx (List.mem_of_getElem? hdx);have pe:D.aG xs.dropLast=true:=b7.mpr fun y hy=>pall y (List.dropLast_subset _ hy)
   have er:bF All H vs.dropLast xs.dropLast:=by
    rw [List.dropLast_eq_take,List.dropLast_eq_take,hlen];exact rr.take _
   obtain ⟨E2,k2⟩:=E.mut (o:=.lst vs.dropLast) (d:=.lst xs.dropLast) ho hσ rfl (.lst aF trivial (er.upd pe hl rfl)) pe;have r1:=(bF.cons rv .nil).upd (o:=.lst vs.dropLast) (by rw [D.aG,pdx];rfl) hl rfl;cases r1 with
   | cons r1 _=>
    have E3:=E2.set hoj (v:=v) (d:=dx) (r1.bL pdx);exact q _ _ (k2.trans fun b ob eb nb=>⟨eb,by rw [jG hoj];exact nb⟩) E3
  ·cases h
 ·cases h
theorem aHm {i:Nat} {x:Str} {p1 apos cpos:Pos} (ho:own i=true) (hN:X.N[i]?=some x) (hv:Vis X.env.scope x) (he:PE X e (gE fe re)) (hd:nDb x:=by decide) (hcd:nCd x:=by decide)
  (hbase:attributeBase (.Name x p1) "extend" X.env (eval (.Name x p1) X.env)=eval (.Name x p1) X.env:=by rfl)
  (hs1:starEach [e] X.env=(false,eval e X.env)::starEach [] X.env:=by rfl)
  (hfew:((backTo cpos (starEach [e] X.env)).all (fun x=>!x.1)&&(backToKw cpos (keywordEach [] X.env)).all (fun x=>x.1.isSome)
   && decide (([e]:List Expr).length+([]:List Keyword).length+(if ([]:List Keyword).isEmpty then 0 else 1)<30))=true:=by rfl)
  (hline:(apos.endLine==cpos.line)=true:=by rfl)
  (hs:swapsWith (.Call (.Attribute (.Name x p1) "extend" apos) [e] [] cpos) none pos.line X.env=pure false:=by rfl) :
  PS X (.Expr (.Call (.Attribute (.Name x p1) "extend" apos) [e] [] cpos) pos) (tS own (aJl i fe)):=
 PS.imp (jY (PJ PySem.F.plainAttrs_list PySem.F.slot_list_extend PySem.F.type_list_extend SQ (aW hN hv hd hcd) (bD he dM hs1) hbase hfew hline hs1 rfl) hs) fun D' σ H ⟨ρ,fl,E,h,q⟩=>by
 obtain ⟨d,h1,h2⟩:=bI h;split at h2
 ·rename_i xs ys hx;split at h2
  ·rename_i hk;cases h2;rw [Bool.and_eq_true,decide_eq_true_eq] at hk;obtain ⟨a,o,hσ,r,hin,ha,hm⟩:=E.ownAt ho (by rw [hx];intro z;cases z);rw [hx] at r hin;obtain ⟨vs,hl,rr⟩:=U6 r;refine ⟨_,hσ,.inl ⟨rfl,vs,.of hl⟩,ρ,_,E.er,h1,fun v H' s rv _=>?_⟩;cases rv with
   | @lst b zs _ hb _ rz=>
    have E':=E.same s;have hl':=s _ _ hl;refine ⟨a,b,vs,zs,rfl,rfl,hl',hb,by rw [rr.length,rz.length];exact Nat.le_trans hk.1 (by rw [sizeLine_eq];decide),?_⟩;have hp:D.aG (xs++ys)=true:=by rw [iW,Bool.and_eq_true];exact ⟨hin,hk.2⟩
    obtain ⟨E2,k2⟩:=E'.mut (o:=.lst (vs++zs)) (d:=.lst (xs++ys)) ho hσ rfl (.lst aF trivial (((rr.same s).append rz).upd hp hl' rfl)) hp;exact q _ _ ((KU.same s).trans k2) E2
  ·cases h2
 ·cases h2
end
end Mi
namespace Mi
open PySem L2 PySem.SeqAt PySem.Spec PyProof.Rows
noncomputable abbrev FX:=List D->Res (D×List D)
noncomputable def QL:D->Option (List D)
 | .lst xs=>some xs
 | .cel _ xs=>some xs
 | _=>none
noncomputable def aEb:D->List D->D
 | .cel a _,xs=>.cel a xs
 | _,xs=>.lst xs
def aAe (i:Nat) (fk fv:FE):FS:=fun ρ=>do
 let d <- fv ρ
 let k <- fk ρ
 match QL (ρ.getD i .uD),k with
 | some xs,.int k=>if d.pure then (match ixD xs.length k with|some j=>.ok (.nx (ρ.set i (aEb (ρ.getD i .uD) (xs.set j d))))|none=>.bad) else .bad
 | _,_=>.bad
noncomputable def bPu (f:FE):FE:=fun ρ=>do
 let d <- f ρ
 if d.pure then .ok d else .bad
variable [KFrag]
section
variable {own:Nat->Bool}
theorem aC6 {P:Addr->Prop} {H:Hp} {a:Addr} {d:D} {xs:List D} (r:Rep P H (.ref a) d) (h:QL d=some xs):∃vs,H a=some (.lst vs)/\P a/\bF P H vs xs:=by
 cases d <;> simp only [QL] at h <;> cases h <;> cases r
 ·exact ⟨_,by assumption,by assumption,by assumption⟩
 ·exact ⟨_,by assumption,by assumption,by assumption⟩
theorem aEc {P:Addr->Prop} {H:Hp} {v:V} {b:Nat} {xs:List D} (r:Rep P H v (.cel b xs)):v=.ref b:=by cases r;rfl
theorem aC7 {P P':Addr->Prop} {H H':Hp} {a:Addr} {d:D} {xs xs':List D} {vs':List V} (r:Rep P H (.ref a) d) (h:QL d=some xs) (e:H' a=some (.lst vs')) (p:P' a) (r':bF P' H' vs' xs'):Rep P' H' (.ref a) (aEb d xs'):=by
 cases d <;> simp only [QL] at h <;> cases h <;> cases r
 ·exact .lst e p r'
 ·exact .cel e p r'
theorem aHn {d:D} {xs:List D} (h:QL d=some xs):inner d=D.aG xs:=by
 cases d <;> simp only [QL] at h <;> cases h <;> rfl
theorem V3 {d:D} {xs xs':List D} (h:QL d=some xs):inner (aEb d xs')=D.aG xs':=by
 cases d <;> simp only [QL] at h <;> cases h <;> rfl
theorem aHo {d:D} {xs:List D} (h:QL d=some xs):d≠.uD:=fun z=>by subst z;cases h
theorem ES.aM8 {H H':Hp} {σ:L2.St} {ρ:List D} {i:Nat} {a:Addr} {o:HO} {d:D} (E:ES own H σ ρ) (ho:own i=true) (hi:σ[i]?=some (some (.ref a))) (hk:∀b ob,H b=some ob->b≠a->H' b=some ob) (e:H' a=some o) (hm:P_ o=true) (r:Rep All H' (.ref a) d) (hin:inner d=true) :
  ES own H' σ (ρ.set i d)/\KU own σ H σ H':=by
 have hOa:Own own σ a:=⟨i,ho,hi⟩
 obtain ⟨a',oa,ea,_,_,hHa,hma,huq⟩:=E.own i _ ho hi;cases ea;have k:KU own σ H σ H':=fun b ob e n=>⟨hk b ob e (fun z=>by subst z;exact n hOa),n⟩
 have hl:i<ρ.length:=by rw [<-E.len];exact (List.getElem?_eq_some_iff.mp hi).1
 refine ⟨⟨by simp [E.len],fun j hj=>?_,fun j w hj hw=>?_⟩,k⟩
 ·rw [cY] at hj ⊢;by_cases h:i=j/\i<ρ.length
  ·obtain ⟨rfl,_⟩:=h;exact ⟨_,hi,fun z=>by rw [ho] at z;cases z⟩
  ·rw [if_neg h] at hj ⊢;obtain ⟨w,h1,h2⟩:=E.at_ j hj;exact ⟨w,h1,fun hj=>k.rep E (h2 hj)⟩
 ·by_cases hij:i=j
  ·subst hij;rw [hi] at hw;cases hw;rw [cY,if_pos ⟨rfl,hl⟩];exact ⟨a,o,rfl,r,hin,e,hm,huq⟩
  ·rw [cY,if_neg fun z=>hij z.1];obtain ⟨b,ob,h1,h2,h3,h4,h5,h6⟩:=E.own j w hj hw;subst h1;have hba:b≠a:=fun z=>by subst z;exact hij (h6 i ho hi)
   refine ⟨b,ob,rfl,?_,h3,hk _ _ h4 hba,h5,h6⟩;refine (h2.aJk (P':=fun c=>c=b) h3 rfl).keep (fun c oc hc hp=>?_) fun _ _=>trivial
   refine hk _ _ hc fun z=>?_
   subst z;rcases hp with hp|hp
   ·exact hba hp.symm
   ·rw [hHa] at hc;cases hc;rw [hma] at hp;cases hp
def NS (own:Nat->Bool) (ρ ρ':List D):Prop:=∀i,own i=false->ρ'.getD i .uD=ρ.getD i .uD
theorem NS.refl {ρ:List D}:NS own ρ ρ:=fun _ _=>rfl
theorem NS.set {ρ:List D} {i:Nat} {d:D} (ho:own i=true):NS own ρ (ρ.set i d):=fun j hj=>by
 rw [cY,if_neg];rintro ⟨rfl,_⟩;rw [ho] at hj;cases hj
def kX (own:Nat->Bool) (σ:L2.St) (H:Hp) (ρ:List D) (d:D) (ρ':List D) (Q:VK):Prop:=∀v H',KU own σ H σ H'->ES own H' σ ρ'->NS own ρ ρ'->Rep (New H) H' v d->Q v H'
noncomputable def gX (own:Nat->Bool) (f:FX):TE:=fun σ H Q=>∃ρ d ρ',ES own H σ ρ/\f ρ=.ok (d,ρ')/\kX own σ H ρ d ρ' Q
theorem HQ {σ:L2.St} {H:Hp} {ρ:List D} (E:ES own H σ ρ) {a:Addr} (h:H a=none):¬Own own σ a:=fun n=>by
 obtain ⟨o',e,_⟩:=E.live n;rw [h] at e;cases e
end
section
variable {own:Nat->Bool} {a e:Expr}
theorem aKr {σ:L2.St} {H:Hp} {ρ:List D} {i:Nat} {d:D} (E:ES own H σ ρ) (ho:own i=false) (h:bT i ρ=.ok d):∃v,σ[i]?=some (some v)/\Rep (fun a=>¬Own own σ a) H v d:=by
 obtain ⟨v,hv,r,e⟩:=E.er.var h;have hne:ρ.getD i .uD≠.uD:=fun z=>by
  rw [z] at e;subst e;exact Rep.uD r
 obtain ⟨w,hw,hr⟩:=E.at_ i hne;rw [hv] at hw;cases hw;have r2:=hr ho;rw [e] at r2;exact ⟨v,hv,r2⟩
end
section
variable {own:Nat->Bool} {a b e:Expr}
theorem V4 {σ:L2.St} {H:Hp} {ρ:List D} (E:ES own H σ ρ) {i b:Nat} {xs:List D} (h:ρ.getD i .uD=.cel b xs):∃vs,σ[i]?=some (some (.ref b))/\H b=some (.lst vs):=by
 obtain ⟨v,h1,h2⟩:=E.er i (by rw [h];intro z;cases z);rw [h] at h2;cases h2 with
 | cel e _ _=>exact ⟨_,h1,e⟩
theorem HR {σ:L2.St} {H:Hp} {ρ:List D} {i:Nat} {xs:List D} (E:ES own H σ ρ) (ho:own i=true) (h:QL (ρ.getD i .uD)=some xs):∃a vs,σ[i]?=some (some (.ref a))/\H a=some (.lst vs)/\bF All H vs xs/\D.aG xs=true/\Rep All H (.ref a) (ρ.getD i .uD)/\∀b,ρ.getD i .uD=.cel b xs->b=a:=by
 obtain ⟨a,o,hσ,r,hin,ha,hm⟩:=E.ownAt ho (aHo h);obtain ⟨vs,e,_,rr⟩:=aC6 r h;exact ⟨a,vs,hσ,e,rr,by rw [aHn h] at hin;exact hin,r,fun b hb=>by rw [hb] at r;have:=aEc r;cases this;rfl⟩
end
end Mi
namespace Mi
open PySem L2 PySem.SeqAt PySem.Spec PyProof.Rows
noncomputable def xcf (f:FX):List D->List D->List D->Res (List D×List D)
 | acc,[],ρ=>.ok (acc,ρ)
 | acc,x::xs,ρ=>do
  let p <- f (ρ++[x])
  if p.1.pure then xcf f (acc++[p.1]) xs p.2.dropLast else .bad
def V5 (it:FI) (f:FX):FX:=fun ρ=>do
 let xs <- it ρ
 if xs.2&&decide (xs.1.length<=lim) then (do
  let p <- xcf f [] xs.1 ρ
  .ok (.lst p.1,p.2)) else .bad
variable [KFrag]
section
variable {own:Nat->Bool} {X:Cx} {a b c e:Expr} {pos pos':Pos}
theorem aEd {i:Nat} {x:Str} {p1:Pos} {value k:Expr} {fv fk:FE} {rv rk:Bool} (ho:own i=true) (hN:X.N[i]?=some x) (hvi:Vis X.env.scope x) (hk:PE X k (gE fk rk)) (hv:PE X value (gE fv rv)) (hs:swapsWith value (some (.Subscript (.Name x p1) k pos')) pos.line X.env=pure false:=by rfl) (hd:nDb x:=by decide) (hcd:nCd x:=by decide) :
  PS X (.Assign [.Subscript (.Name x p1) k pos'] value pos) (tS own (aAe i fk fv)):=by
 intro pins s σ H D' I ⟨ρ,fl,E,h,q⟩;obtain ⟨d,h0,h⟩:=bI h;obtain ⟨kd,h1,h2⟩:=bI h;split at h2
 ·rename_i xs kk hx;split at h2
  ·rename_i hp;split at h2
   ·rename_i j hj;cases h2;obtain ⟨a,vs,hσ,e0,rr,hin,rp,_⟩:=HR E ho hx;have pn:D.aG (xs.set j d)=true:=b7.mpr fun y hy=>by
     rcases List.mem_or_eq_of_mem_set hy with hy|hy
     ·exact b7.mp hin y hy
     ·subst hy;exact hp
    have go:∀{v:V} {H2:Hp},bO H H2->Rep All H2 v d->D'.nx σ (upd H2 a (.lst (vs.set j v))):=fun {v H2} sm rv=>by
     have rn:bF All (upd H2 a (.lst (vs.set j v))) (vs.set j v) (xs.set j d):=((rr.same sm).set rv j).upd pn (sm _ _ e0) rfl;obtain ⟨E2,k2⟩:=(E.same sm).aM8 (H':=upd H2 a (.lst (vs.set j v))) (o:=.lst (vs.set j v)) (d:=aEb (ρ.getD i .uD) (xs.set j d)) ho hσ (fun b ob e n=>by rw [aN n];exact e) aF rfl (aC7 (rp.same sm) hx aF trivial rn) (by rw [V3 hx];exact pn);exact q _ _ ((KU.same sm).trans k2) E2
    refine wpAny_Assign_Subscript (thn (hv pins s σ H (fun v H1=>bO H H1/\Rep All H1 v d) I ⟨ρ,d,E.er,h0,fun v H1 s1 r1 _=>⟨s1,r1⟩⟩) fun u1 t1 ⟨v,H1,I1,rv1,sm1,rp1⟩=>
     thn (aW hN hvi hd hcd pins t1 σ H1 (fun w H2=>w=.ref a/\H2=H1) I1 ⟨_,hσ,rfl,rfl⟩) fun u2 t2 ⟨xx,H2,I2,rx,ex,eH⟩=>?_) hs
    subst ex;rw [eH] at I2;refine thn (hk pins t2 σ _ (fun w H3=>bO H1 H3/\w=.int kk) I2 ⟨ρ,_,E.er.same sm1,h1,fun w H3 s3 r3 _=>⟨s3,by cases r3;rfl⟩⟩) fun u3 t3 ⟨y,H3,I3,ry,sm3,ey⟩=>?_
    subst ey;exact thn (set_list pins t3 σ H3 (.ref a) (.int kk) v u2 u3 u1 (fun H4=>D'.nx σ H4) I3 rx ry rv1 ⟨a,vs,kk,j,rfl,rfl,(sm1.trans sm3) _ _ e0,by rw [rr.length];exact hj,go (sm1.trans sm3) (rp1.same sm3)⟩) fun _ t4 ⟨H4,I4,q4⟩=>⟨σ,H4,I4,q4⟩
   ·cases h2
  ·cases h2
 ·cases h2
theorem QM {pins:List (Addr×Obj)} {σ:L2.St} {H:Hp} {s:Shared} {a:Addr} {vs:List V} (I:Inv X pins σ H s) (e:H a=some (.lst vs)):∃o,Inv X pins σ (upd H a (.frz o (.lst vs))) s:=by
 obtain ⟨its,n,r,ho,hz⟩:=I.lst e;refine ⟨_,I.write (t':=s.toks) (x:=a) (e:=a) (h':=s.heap) (o:=.frz _ (.lst vs)) (by rw [e];trivial) (.inl rfl) (fun _ _ _ q=>q) ⟨_,ho⟩ ⟨ho,hz,its,n,r,ho⟩⟩
theorem ES.aNd {H H5:Hp} {σ:L2.St} {ρ ρ5:List D} {p:Addr} {o:HO} {vs:List V} (E:ES own H σ ρ) (k:KU own σ H σ H5) (E5:ES own H5 σ ρ5) (ns:NS own ρ ρ5) (hp:H p=none) (e5:H5 p=some (.lst vs)):ES own (upd H5 p o) σ ρ5/\KU own σ H σ (upd H5 p o):=by
 have k':KU own σ H σ (upd H5 p o):=fun b ob e n=>⟨by rw [aN (a_ e hp)];exact (k b ob e n).1,n⟩
 refine ⟨⟨E5.len,fun j hj=>?_,fun j w hj hw=>?_⟩,k'⟩
 ·obtain ⟨w,h1,h2⟩:=E5.at_ j hj;refine ⟨w,h1,fun hoj=>?_⟩;rw [ns j hoj] at hj ⊢;obtain ⟨w',h1',h2'⟩:=E.at_ j hj;rw [h1] at h1';cases h1';exact k'.rep E (h2' hoj)
 ·obtain ⟨b,ob,h1,h2,h3,h4,h5,h6⟩:=E5.own j w hj hw;subst h1;have hbp:b≠p:=fun z=>by subst z;exact HQ E hp ⟨j,hj,hw⟩
  refine ⟨b,ob,rfl,?_,h3,by rw [aN hbp];exact h4,h5,h6⟩;refine (h2.aJk (P':=fun c=>c=b) h3 rfl).keep (fun c oc hc hq=>?_) fun _ _=>trivial
  rw [aN]
  ·exact hc
  ·intro z;subst z;rcases hq with hq|hq
   ·exact hbp hq.symm
   ·rw [e5] at hc;cases hc;cases hq
theorem ES.snoc {H:Hp} {σ:L2.St} {ρ:List D} {x:V} {d:D} (E:ES own H σ ρ) (ho:own σ.length=false) (r:Rep (fun a=>¬Own own σ a) H x d):ES own H (σ++[some x]) (ρ++[d])/\∀a,Own own (σ++[some x]) a↔Own own σ a:=by
 have hO:∀a,Own own (σ++[some x]) a↔Own own σ a:=fun a=>by
  constructor
  ·rintro ⟨i,hi,e⟩;by_cases hl:i<σ.length
   ·exact ⟨i,hi,by rw [List.getElem?_append_left hl] at e;exact e⟩
   ·by_cases hq:i=σ.length
    ·subst hq;rw [ho] at hi;cases hi
    ·rw [List.getElem?_append_right (by lia)] at e;rw [List.getElem?_eq_none (by simp;lia)] at e;cases e
  ·rintro ⟨i,hi,e⟩;exact ⟨i,hi,by rw [List.getElem?_append_left (List.getElem?_eq_some_iff.mp e).1];exact e⟩
 have hOf:(fun a=>¬Own own (σ++[some x]) a)=fun a=>¬Own own σ a:=funext fun a=>by rw [hO]
 refine ⟨⟨by simp [E.len],fun i hi=>?_,fun i v hi hv=>?_⟩,hO⟩
 ·rw [hOf];by_cases hl:i<σ.length
  ·have e:(ρ++[d]).getD i .uD=ρ.getD i .uD:=by rw [List.getD_eq_getElem?_getD,List.getElem?_append_left (by rw [<-E.len];exact hl),List.getD_eq_getElem?_getD]
   rw [e] at hi ⊢;obtain ⟨v,h1,h2⟩:=E.at_ i hi;exact ⟨v,by rw [List.getElem?_append_left hl];exact h1,h2⟩
  ·by_cases hq:i=σ.length
   ·subst hq;have e:(ρ++[d]).getD σ.length .uD=d:=by rw [E.len];simp
    rw [e];exact ⟨x,by simp,fun _=>r⟩
   ·exfalso;apply hi;rw [List.getD_eq_getElem?_getD,List.getElem?_eq_none (by simp;rw [<-E.len];lia)];rfl
 ·have hl:i<σ.length:=Nat.lt_of_not_le fun hge=>by
   by_cases hq:i=σ.length
   ·subst hq;rw [ho] at hi;cases hi
   ·rw [List.getElem?_eq_none (by simp;lia)] at hv;cases hv
  rw [List.getElem?_append_left hl] at hv;have e:(ρ++[d]).getD i .uD=ρ.getD i .uD:=by rw [List.getD_eq_getElem?_getD,List.getElem?_append_left (by rw [<-E.len];exact hl),List.getD_eq_getElem?_getD]
  rw [e];obtain ⟨b,ob,h1,h2,h3,h4,h5,h6⟩:=E.own i v hi hv;refine ⟨b,ob,h1,h2,h3,h4,h5,fun j hj hs=>?_⟩;have hjl:j<σ.length:=Nat.lt_of_not_le fun hge=>by
   by_cases hq:j=σ.length
   ·subst hq;rw [ho] at hj;cases hj
   ·rw [List.getElem?_eq_none (by simp;lia)] at hs;cases hs
  exact h6 j hj (by rw [List.getElem?_append_left hjl] at hs;exact hs)
theorem ES.aHp {H:Hp} {σ:L2.St} {ρ:List D} {x:Option V} (E:ES own H (σ++[x]) ρ) (hO:∀a,Own own (σ++[x]) a↔Own own σ a):ES own H σ ρ.dropLast:=by
 have hl:ρ.length=σ.length+1:=by rw [<-E.len];simp
 have gd:∀i,i<σ.length->ρ.dropLast.getD i .uD=ρ.getD i .uD:=fun i hi=>by
  rw [List.getD_eq_getElem?_getD,List.getD_eq_getElem?_getD,List.getElem?_dropLast,if_pos (by lia)]
 have hOf:(fun a=>¬Own own (σ++[x]) a)=fun a=>¬Own own σ a:=funext fun a=>by rw [hO]
 refine ⟨by simp [hl],fun i hi=>?_,fun i v hi hv=>?_⟩
 ·have hlt:i<σ.length:=Nat.lt_of_not_le fun hge=>hi (by rw [List.getD_eq_getElem?_getD,List.getElem?_eq_none (by simp;lia)];rfl)
  rw [gd i hlt] at hi ⊢;obtain ⟨v,h1,h2⟩:=E.at_ i hi;rw [hOf] at h2;exact ⟨v,by rw [List.getElem?_append_left hlt] at h1;exact h1,h2⟩
 ·have hlt:i<σ.length:=(List.getElem?_eq_some_iff.mp hv).1;rw [gd i hlt];obtain ⟨b,ob,h1,h2,h3,h4,h5,h6⟩:=E.own i v hi (by rw [List.getElem?_append_left hlt];exact hv);exact ⟨b,ob,h1,h2,h3,h4,h5,fun j hj hs=>h6 j hj (by rw [List.getElem?_append_left (List.getElem?_eq_some_iff.mp hs).1];exact hs)⟩
theorem QR {K:PySem.W.Frag} {it:FI} {f:FX} {n:Nat} (ho:own n=false) {σ:L2.St} {H:Hp} {Q:VK} (hn:σ.length=n) (h:gX own (V5 it f) σ H Q) :
  QC (gI K it) (eV n) (fun _ H Q=>Q true H) (gX own f) 1 σ H Q:=by
 obtain ⟨ρ,d,ρ',E,h,q⟩:=h;obtain ⟨⟨items,kk⟩,h1,h⟩:=bI h;split at h
 ·rename_i hk;rw [Bool.and_eq_true] at hk;obtain ⟨⟨ys,ρf⟩,h2,h⟩:=bI h;cases h;refine ⟨ρ,items,kk,E.er,h1,fun J H1 s1 _ hJ p hp=>?_⟩;have hp0:H p=none:=s1.free hp;have hJ1:ItQ K (fun a=>¬Own own σ a) J H1 items:=(hJ hk.1).keep (fun _ _ e _=>e) fun a ha=>HQ E ha
  have E1:ES own H1 σ ρ:=E.same s1;refine ⟨fun i n' vs H'=>n'=items.length-i/\i<=items.length/\H' p=some (.lst vs)/\KU own σ H1 σ H'/\∃acc ρc,acc.length<=i/\D.aG acc=true/\bF (fun _=>False) H' vs acc/\ES own H' σ ρc/\NS own ρ ρc/\xcf f acc (items.drop i) ρc=.ok (ys,ρf),⟨items.length,?_⟩,?_⟩
  ·exact ⟨rfl,Nat.zero_le _,aF,.same (bO.upd hp),[],ρ,Nat.zero_le _,rfl,.nil,E1.same (bO.upd hp),.refl,h2⟩
  ·rintro i n' vs H' ⟨rfl,hi,hH,ku,acc,ρc,hal,hpa,racc,Ec,ns,hf⟩;refine ⟨hH,?_⟩;have hJ':ItQ K (fun a=>¬Own own σ a) J H' items:=hJ1.ku ku E1;rcases Nat.lt_or_ge i items.length with hlt|hge
   ·refine .inr ?_;have e:items[i]?=some items[i]:=List.getElem?_eq_getElem hlt;obtain ⟨g1,g2⟩:=hJ'.go e;have hl1:items.length<=lim:=of_decide_eq_true hk.2;refine ⟨g1,?_,fun x H2 hy=>?_⟩
    ·rw [racc.length];exact Nat.lt_of_le_of_lt hal (Nat.lt_of_lt_of_le hlt (Nat.le_trans hl1 (by rw [sizeLine_eq];decide)))
    ·obtain ⟨sH,rx⟩:=g2 x H2 hy;have es:(σ++List.replicate 1 none).set n (some x)=σ++[some x]:=by
      subst hn;simp
     show Ext _ ((σ++List.replicate 1 none).set n (some x))/\_;rw [es];rw [List.drop_eq_getElem_cons hlt] at hf;obtain ⟨⟨y,ρ2⟩,hfy,hf⟩:=bI hf;split at hf
     ·rename_i hpy;have Ec2:=Ec.same sH;obtain ⟨E2,hO⟩:=Ec2.snoc (by rw [hn];exact ho) rx;refine ⟨⟨by simp,fun j v hv=>?_⟩,?_⟩
      ·by_cases hj:j<σ.length
       ·rw [List.getElem?_append_left hj] at hv ⊢;exact hv
       ·rw [List.getElem?_append_right (by lia),List.getElem?_replicate] at hv;split at hv <;> cases hv
      ·dsimp only;rw [if_pos rfl];refine ⟨_,y,ρ2,E2,hfy,fun w H5 k5 E5 ns5 r5=>?_⟩;have k5':KU own σ H2 σ H5:=fun b ob eb nb=>⟨(k5 b ob eb (by rw [hO];exact nb)).1,nb⟩
       have hpn:¬Own own σ p:=HQ E hp0;have hp5:H5 p=some (.lst vs):=(k5' p _ (sH p _ hH) hpn).1;have E5':ES own H5 σ ρ2.dropLast:=E5.aHp hO;have hlc:ρc.length=σ.length:=Ec.len.symm;have nsc:NS own ρ ρ2.dropLast:=fun j hj=>by
        by_cases hjl:j<σ.length
        ·have hl2:ρ2.length=σ.length+1:=by rw [<-E5.len];simp
         rw [<-ns j hj,List.getD_eq_getElem?_getD,List.getElem?_dropLast,if_pos (by lia),<-List.getD_eq_getElem?_getD,ns5 j hj,List.getD_eq_getElem?_getD,List.getElem?_append_left (by lia),<-List.getD_eq_getElem?_getD]
        ·rw [List.getD_eq_getElem?_getD,List.getElem?_eq_none (by rw [<-E5'.len];lia),List.getD_eq_getElem?_getD,List.getElem?_eq_none (by rw [<-E.len];lia)]
       have ku5:KU own σ H1 σ H5:=ku.trans ((KU.same sH).trans k5');obtain ⟨E6,k6⟩:=E1.aNd (o:=.lst (vs++[w])) ku5 E5' nsc hp hp5;refine ⟨hp5,items.length-(i+1),by lia,rfl,hlt,aF,k6,acc++[y],ρ2.dropLast,?_,?_,?_,E6,nsc,hf⟩
       ·rw [List.length_append,List.length_singleton];lia
       ·rw [iW,hpa];simp [D.aG,hpy]
       ·have hpk:T3 (fun _=>False) H2 H5:=fun c oc hc hq=>by
         refine (k5' c oc hc fun nn=>?_).1;obtain ⟨o',e',hm⟩:=Ec2.live nn;rw [hc] at e';cases e';rcases hq with hq|hq
         ·exact hq
         ·rw [hm] at hq;cases hq
        have r1:bF (fun _=>False) H5 vs acc:=(racc.same sH).keep hpk fun _ z=>z
        have r2:bF (fun _=>False) H5 (vs++[w]) (acc++[y]):=r1.snoc (r5.bL hpy);exact r2.keep (uY hp5 rfl) fun _ z=>z
     ·cases hf
   ·refine .inl ⟨hJ'.stop hge,?_⟩;rw [List.drop_eq_nil_of_le hge] at hf;cases hf;exact q _ _ ((KU.same s1).trans ku) Ec ns (.lst hH hp0 (racc.mono fun _ z=>z.elim))
 ·cases h
end
end Mi
namespace Mi
open PySem L2 PySem.SeqAt PySem.Spec PyProof.Rows
def aAf (i:Nat) (t:D->List D->Res (List D)) (body:FS):FS:=fun ρ=>do
 let d <- bT i ρ
 match d with
 | .scr xs=>zY t body xs ρ
 | _=>.bad
variable [KFrag]
section
variable {X:Cx} {a:Expr} {fa:FE} {ra:Bool} {pos p:Pos}
theorem aHq {tg:Expr} {i:Nat} {x:Str} (hK:KFrag.K=X.K) (hN:X.N[i]?=some x) (hv:Vis X.env.scope x) (hd:nDb x:=by decide) (hcd:nCd x:=by decide) :
  PI X tg (.Name x pos) (fun σ H R=>∃v items,σ[i]?=some (some v)/\Rep All H v (.scr items)/\∀J,(∀P:Addr->Prop,Rep P H v (.scr items)->ItQ X.K P J H items)->R J H):=by
 intro pins s σ H R I ⟨v,items,hσ,r,q⟩;refine thn (aW (pos:=pos) hN hv hd hcd pins s σ H (fun w H1=>w=v/\H1=H) I ⟨v,hσ,rfl,rfl⟩) fun u s1 ⟨w,H1,I1,ru,e1,e2⟩=>?_
 subst e1 e2;cases r with
 | @frz a xs _ ee rr=>
  cases ru;obtain ⟨its,rv,p,hz⟩:=I1.list (ee.sq hK);refine wpAny_pyIter_list p.isList ?_;refine ⟨s1.heap.objs.size,[s1.heap.objs.size],_,_,H1,rfl,I1.kept (t':=s1.toks) fun b o e=>Heap.get?_push_of_some _ e,q_ a _,⟨_,Heap.get?_push_size _ rfl,rfl,rfl⟩,fun b hb=>?_,q _ fun P r=>.scr a hK rfl r⟩;have e:b=s1.heap.objs.size:=by simpa using hb
  subst e;exact I1.aCv (Nat.le_refl _) (I1.hok.fresh (Nat.le_refl _))
theorem aEe {own:Nat->Bool} {tg:Expr} {body:List Stmt} {g:TG} {t:D->List D->Res (List D)} {i:Nat} {x:Str} {px:Pos} {fb:FS} (hK:KFrag.K=X.K) (ho:own i=false) (hp:PassesOwn (model X.prog X.w) X.A X.env X.xe) (hc:X.calm=true) (hN:X.N[i]?=some x) (hv:Vis X.env.scope x) (ht:TgS own g t) (hg:PG X tg g) (hb:PSs X body (tS own fb))
  (hs:∀z,foldedSetIterable (.Name x px) X.env z=pure z:=by intro _;rfl) (hd:nDb x:=by decide) (hcd:nCd x:=by decide):PS X (.For tg (.Name x px) body [] pos) (tS own (aAf i t fb)):=PS.imp (JR hp hc (aHq hK hN hv hd hcd) hg hb hs) fun D' σ H ⟨ρ,fl,E,h,q⟩=>by
 obtain ⟨d,h1,h⟩:=bI h;split at h
 ·rename_i items;obtain ⟨v,hv,r⟩:=aKr E ho h1;exact ⟨v,items,hv,r.all,fun J hJ=>KJ ht E (hJ _ r) h q⟩
 ·cases h
theorem b8 (ha:PE X a (gE fa ra)):PE X a (gE (bPu fa) true):=PE.imp ha fun σ H Q ⟨ρ,d,E,h,q⟩=>by
 obtain ⟨x,h1,h⟩:=bI h;split at h
 ·rename_i hp;cases h;exact ⟨ρ,_,E,h1,fun v H' s r _=>q v H' s r fun _=>r.bL hp⟩
 ·cases h
end
end Mi
namespace Mi
open PySem L2 PySem.SeqAt PySem.Spec PyProof.Rows
noncomputable def forL (a i:Nat) (t:D->List D->Res (List D)) (body:FS):Nat->Nat->List D->Res Fl
 | 0,_,_=>.bad
 | n+1,k,ρ=>match ρ.getD i .uD with
  | .cel a' ys=>if a'=a then (match ys[k]? with
   | none=>.ok (.nx ρ)
   | some x=>do
    let ρ1 <- t x ρ
    let r <- body ρ1
    match r with
    | .nx ρ'=>forL a i t body n (k+1) ρ'
    | .ct ρ'=>forL a i t body n (k+1) ρ'
    | _=>.bad) else .bad
  | _=>.bad
open Classical in
def BW (i:Nat) (t:D->List D->Res (List D)) (body:FS):FS:=fun ρ=>match ρ.getD i .uD with
 | .lst xs=>if h:∃p:List D×List D,i<p.1.length/\∀a,forL a i t body 10000 0 (ρ.set i (.cel a xs))=.ok (.nx (p.1.set i (.cel a p.2))) then .ok (.nx (h.choose.1.set i (.lst h.choose.2))) else .bad
 | _=>.bad
theorem aEf {i:Nat} {t:D->List D->Res (List D)} {body:FS} {ρ xs:List D} {r:Fl} (hx:ρ.getD i .uD=.lst xs) (h:BW i t body ρ=.ok r):∃(ρ' xs':List D),i<ρ'.length/\r=.nx (ρ'.set i (.lst xs'))/\∀a,forL a i t body 10000 0 (ρ.set i (.cel a xs))=.ok (.nx (ρ'.set i (.cel a xs'))):=by
 unfold BW at h;rw [hx] at h;dsimp only at h;split at h
 ·rename_i e;cases h;exact ⟨_,_,e.choose_spec.1,rfl,e.choose_spec.2⟩
 ·cases h
theorem aEg {i:Nat} {t:D->List D->Res (List D)} {body:FS} {ρ xs ρ' xs':List D} (hx:ρ.getD i .uD=.lst xs) (hl:i<ρ'.length) (h:∀a,forL a i t body 10000 0 (ρ.set i (.cel a xs))=.ok (.nx (ρ'.set i (.cel a xs')))):BW i t body ρ=.ok (.nx (ρ'.set i (.lst xs'))):=by
 have e:∃p:List D×List D,i<p.1.length/\∀a,forL a i t body 10000 0 (ρ.set i (.cel a xs))=.ok (.nx (p.1.set i (.cel a p.2))):=⟨(ρ',xs'),hl,h⟩
 have q:BW i t body ρ=.ok (.nx (e.choose.1.set i (.lst e.choose.2))):=by
  unfold BW;rw [hx];dsimp only;rw [dif_pos e]
 rw [q];obtain ⟨z1,z2⟩:=e.choose_spec;have z:=z2 0;rw [h 0] at z;injection z with z
 injection z with z
 have g1:=congrArg (fun l:List D=>l.getD i .uD) z;simp only [List.getD_eq_getElem?_getD,List.getElem?_set_self hl,List.getElem?_set_self z1,Option.getD_some] at g1;injection g1 with _ g1
 have g2:=congrArg (fun l:List D=>l.set i (.lst xs')) z;simp only [List.set_set] at g2;rw [<-g1,<-g2]
variable [KFrag]
section
variable {own:Nat->Bool} {X:Cx} {pos:Pos}
theorem ES.cel {H:Hp} {σ:L2.St} {ρ:List D} {i:Nat} {a:Addr} {d:D} (E:ES own H σ ρ) (ho:own i=true) (hi:σ[i]?=some (some (.ref a))) (r:Rep All H (.ref a) d) (hin:inner d=true):ES own H σ (ρ.set i d):=by
 obtain ⟨a',o,e,_,_,h1,h2,_⟩:=E.own i _ ho hi;cases e;exact (E.aM8 (H':=H) (o:=o) (d:=d) ho hi (fun b ob e _=>e) h1 h2 r hin).1
theorem aHr {tg:Expr} {i:Nat} {x:Str} (hN:X.N[i]?=some x) (hv:Vis X.env.scope x) (hd:nDb x:=by decide) (hcd:nCd x:=by decide) :
  PI X tg (.Name x pos) (fun σ H R=>∃a vs,σ[i]?=some (some (.ref a))/\H a=some (.lst vs)/\R (Itl X.K a) H):=by
 intro pins s σ H R I ⟨a,vs,hσ,e,q⟩;refine thn (aW (pos:=pos) hN hv hd hcd pins s σ H (fun w H1=>w=.ref a/\H1=H) I ⟨_,hσ,rfl,rfl⟩) fun u s1 ⟨w,H1,I1,ru,e1,e2⟩=>?_
 subst e1 e2;cases ru;obtain ⟨its,rv,p,hz⟩:=I1.list (.inl (.inl e));refine wpAny_pyIter_list p.isList ?_;refine ⟨s1.heap.objs.size,[s1.heap.objs.size],_,_,H1,rfl,I1.kept (t':=s1.toks) fun b o e=>Heap.get?_push_of_some _ e,q_ a _,⟨_,Heap.get?_push_size _ rfl,rfl,rfl⟩,fun b hb=>?_,q⟩;have e:b=s1.heap.objs.size:=by simpa using hb
 subst e;exact I1.aCv (Nat.le_refl _) (I1.hok.fresh (Nat.le_refl _))
theorem aEh {tg:Expr} {body:List Stmt} {g:TG} {t:D->List D->Res (List D)} {i:Nat} {x:Str} {px:Pos} {fb:FS} (ho:own i=true) (hp:PassesOwn (model X.prog X.w) X.A X.env X.xe) (hc:X.calm=true) (hN:X.N[i]?=some x) (hv:Vis X.env.scope x) (ht:TgS own g t) (hg:PG X tg g) (hb:PSs X body (tS own fb))
  (hs:∀z,foldedSetIterable (.Name x px) X.env z=pure z:=by intro _;rfl) (hd:nDb x:=by decide) (hcd:nCd x:=by decide):PS X (.For tg (.Name x px) body [] pos) (tS own (BW i t fb)):=PS.imp (JR hp hc (aHr hN hv hd hcd) hg hb hs) fun D' σ H ⟨ρ,fl,E,h,q⟩=>by
 have hx:∃xs,ρ.getD i .uD=.lst xs:=by
  unfold BW at h;split at h
  ·exact ⟨_,by assumption⟩
  ·cases h
 obtain ⟨xs,hx⟩:=hx;obtain ⟨ρp,xs',hlp,rfl,hf⟩:=aEf hx h;obtain ⟨a,vs,hσ,e0,rr,hin,rp,_⟩:=HR E ho (xs:=xs) (by rw [hx];rfl);refine ⟨a,vs,hσ,e0,?_⟩;have E0:ES own H σ (ρ.set i (.cel a xs)):=E.cel ho hσ (.cel e0 trivial rr) hin;refine ⟨fun k m σ' H'=>∃ρ',ES own H' σ' ρ'/\forL a i t fb m k ρ'=.ok (.nx (ρp.set i (.cel a xs')))/\kS own D' σ' H' (.nx (ρp.set i (.lst xs'))),⟨10000,_,E0,hf a,q⟩,?_⟩;rintro k m σ' H' ⟨ρ',E',hf',q'⟩;cases m with
 | zero=>cases hf'
 | succ m=>
  rw [forL] at hf';split at hf'
  ·rename_i a' ys hy;split at hf'
   ·rename_i ea;subst ea;obtain ⟨ws,hσ',eb⟩:=V4 E' hy;obtain ⟨b,o,eb2,rb,hin',hb1,hb2,_⟩:=E'.own i _ ho hσ';cases eb2;rw [hy] at rb hin';obtain ⟨vs',e1,_,rr'⟩:=aC6 rb rfl;split at hf'
    ·rename_i hk;injection hf' with hf'
     injection hf' with hf'
     subst hf';refine .inl ⟨⟨vs',.inl (.inl e1),by rw [rr'.length];exact List.getElem?_eq_none_iff.mp hk⟩,?_⟩;have g1:(ρp.set i (D.cel a' xs')).getD i .uD=.cel a' xs':=by rw [List.getD_eq_getElem?_getD,List.getElem?_set_self hlp];rfl
     rw [g1] at hy;cases hy;have E2:ES own H' σ' ((ρp.set i (D.cel a' xs')).set i (.lst xs')):=E'.cel ho hσ' (.lst e1 trivial rr') hin';rw [List.set_set] at E2;exact q' σ' H' (fun b o e n=>⟨e,n⟩) E2
    ·rename_i dx hk;refine .inr ?_;obtain ⟨v,h1,h2⟩:=rr'.get hk;have pdx:dx.pure=true:=b7.mp hin' dx (List.mem_of_getElem? hk);obtain ⟨ρ1,g1,hf2⟩:=bI hf';obtain ⟨r,g2,hf3⟩:=bI hf2;refine ⟨⟨vs',v,.inl (.inl e1),h1⟩,fun σ2 H2=>∃ρ',ES own H2 σ2 ρ'/\forL a' i t fb m (k+1) ρ'=.ok (.nx (ρp.set i (.cel a' xs')))/\kS own D' σ2 H2 (.nx (ρp.set i (.lst xs'))),fun σ2 H2 w=>⟨m,Nat.lt_succ_self m,w⟩,fun x H2 hy2=>?_⟩;obtain ⟨rfl,hyl⟩:=hy2;have hv2:=hyl vs' (.inl (.inl e1));rw [h1] at hv2;cases hv2;refine ht v dx ρ' ρ1 σ' H2 _ E' (h2.bL pdx) g1 fun σ2 E2 hO=>?_
     have k0:KU own σ' H2 σ2 H2:=fun a o e n=>⟨e,by rw [hO];exact n⟩
     refine ⟨ρ1,r,E2,g2,?_⟩;cases r with
     | nx ρ2=>exact fun σ3 H3 k3 E3=>⟨ρ2,E3,hf3,(q'.step k0).step k3⟩
     | ct ρ2=>exact fun σ3 H3 k3 E3=>⟨ρ2,E3,hf3,(q'.step k0).step k3⟩
     | bk ρ2=>cases hf3
     | rt d=>cases hf3
   ·cases hf'
  ·cases hf'
end
section
variable {prog:Program} {w:World} {A:Around} {E:Value->Shared->Prop} {s:Shared}
theorem BX {it t:Addr} {items:Array Value} (hne:t≠it):∀(n i:Nat) (s:Shared) (Q:List Value->Shared->Prop),s.heap.IsListIter it t i->s.heap.IsList t items->i+n<=items.size->
  (∀h',h'.IsListIter it t (i+n)->Heap.SameBut it s.heap h'->Q ((items.toList.drop i).take n) {s with heap:=h'})->wpAny (model prog w) A (draw (.ref it) n) Q E s
 | 0,i,s,Q,hit,_,_,hQ=>by
  show wpAny _ _ (pure []) Q E s;exact wpAny_pure (by simpa using hQ s.heap hit (Heap.SameBut.refl ..))
 | n+1,i,s,Q,hit,ht,hle,hQ=>by
  have hlt:i<items.size:=by lia
  have keep:∀{h h':Heap},h.IsList t items->Heap.SameBut it h h'->h'.IsList t items:=fun {h h'} ⟨o,e,r⟩ sb=>⟨o,(sb.2 t hne).trans e,r⟩
  show wpAny _ _ (pyNext (.ref it) >>= _) Q E s;refine wpAny_bind (wpAny_pyNext_list_item hit ht (x:=items[i]) (by simp [hlt]) fun h₁ hit₁ hs₁=>?_);refine wpAny_bind (wpAny_holding (BX hne n (i+1) _ _ hit₁ (keep ht hs₁) (by lia) fun h₂ hit₂ hs₂=>wpAny_pure ?_));have hd:items.toList.drop i=items[i]::items.toList.drop (i+1):=by simp [List.drop_eq_getElem_cons,hlt]
  have:=hQ h₂ (by rw [show i+(n+1)=i+1+n by lia];exact hit₂) (hs₁.trans hs₂);rw [hd,List.take_succ_cons] at this;exact this
theorem HS {t:Addr} {items:Array Value} {targets:List (Bool×(Value->Sem Unit))} {Q:Unit->Shared->Prop} (hh:A.handled=none) (ht:s.heap.IsList t items)
  (hn:targets.length=items.size) (hstar:targets.findIdx? (·.1)=none)
  (h:∀h',Heap.ExtBut s.heap.objs.size s.heap h'->wpAny (model prog w) A (assignInOrder (targets.map (·.2)) items.toList) Q E {s with heap:=h'}) :
  wpAny (model prog w) A (unpack (.ref t) targets) Q E s:=by
 have hlt:t≠s.heap.objs.size:=by obtain ⟨o,ho,_⟩:=ht;exact Nat.ne_of_lt (Heap.lt_size ho)
 have push:∀o,(s.heap.push o).IsList t items:=fun o=>let ⟨o',e,r⟩:=ht;⟨o',Heap.get?_push_of_some _ e,r⟩
 unfold unpack;rw [hn,hstar];refine wpAny_bind (wpAny_holding ?_);unfold unpackItems;refine wpAny_bind ?_;unfold notIterableAtAll;refine wpAny_bind (wpAny_specialOf ht.typeIs PySem.F.slot_list_iter.lookup ?_);refine wpAny_pure ?_;simp only [Bool.false_eq_true,if_false];refine wpAny_bind (wpAny_holding (wpAny_pyIter_list ht ?_));refine wpAny_bind (wpAny_holding (BX hlt items.size 0 _ _ ⟨_,Heap.get?_push_size _ rfl,rfl,rfl⟩ (push _) (by lia) fun h₁ hit₁ hs₁=>?_));have hall:List.take items.size (List.drop 0 items.toList)=items.toList:=by
  rw [List.drop_zero];exact List.take_of_length_le (by simp)
 rw [hall];rw [if_neg (by simp)];have ht₁:h₁.IsList t items:=let ⟨o,e,r⟩:=push {cls:=.type "list_iterator",data:=.fields #[.ref t,.int 0 0]};⟨o,(hs₁.2 t hlt).trans e,r⟩
 refine wpAny_bind (wpAny_holding (wpAny_pyNext_list_end hh hit₁ ht₁ (by simp) fun h₂ he₂=>?_));simp only [Option.isSome_none,Bool.false_eq_true,if_false];exact wpAny_pure (h h₂ fun b o hb e=>he₂ b o hb (hs₁.extBut b o hb (Heap.get?_push_of_some _ e)))
end
section
variable {X:Cx} {e:Expr} {pos:Pos}
noncomputable def aHs (K:PySem.W.Frag) (n:Nat) (t:TGs):TG:=fun v σ H Q=>∃a xs,v=.ref a/\SqL K H a xs/\xs.length=n/\t xs σ H Q
theorem yC {es:List Expr} {k:Nat} {t:TGs} {n:Nat} (hc:X.calm=true) (h:PGs X es t)
  (hn:(assignEach es X.env).length=n:=by rfl) (hst:(assignEach es X.env).findIdx? (·.1)=none:=by rfl):PG X (.Tuple es k pos) (aHs X.K n t):=by
 intro pins s σ H v u Q I r hw;obtain ⟨a,xs,e1,hq,hl,hw⟩:=hw;subst e1;cases r;obtain ⟨its,rv,ht,hz⟩:=I.list hq;rw [assign_Tuple];refine wpAny_bind (wpAny_standAt (HS (I.ok.hd hc) ht.isList (by simp [hn,<-hl,rv.length]) hst fun h' hx=>?_));have I1:Inv X pins σ H {s with heap:=h'}:=I.kept (t':=s.toks) fun b o e=>hx b o (Nat.ne_of_lt (Heap.lt_size e)) e
 exact h pins _ σ H xs _ Q I1 (by simpa using rv) hw
end
end Mi
namespace Mi
open PySem PySem.Spec
namespace Rv
theorem QS:typeLookup (.type "tuple") "__reversed__" = pure none:=by rw [typeLookup_type,builtinLookup_eq_fast];kernel_rfl
theorem QT:typeLookup (.type "reversed") "__len__" = pure none:=by rw [typeLookup_type,builtinLookup_eq_fast];kernel_rfl
theorem slot_next:Slot "reversed" "__next__" "reversed.__next__":=
 .of (owner := "reversed") (n := "__next__") (by rw [typeLookup_type,builtinLookup_eq_fast];kernel_rfl) (by decide +kernel) (by decide +kernel) (by decide +kernel)
  (by first|exact .inl (by decide +kernel)|exact .inr (by decide +kernel)) (by rw [isSubtype_type];kernel_rfl)
theorem vC:Slot "reversed" "__length_hint__" "reversed.__length_hint__":=
 .of (owner := "reversed") (n := "__length_hint__") (by rw [typeLookup_type,builtinLookup_eq_fast];kernel_rfl) (by decide +kernel) (by decide +kernel) (by decide +kernel)
  (by first|exact .inl (by decide +kernel)|exact .inr (by decide +kernel)) (by rw [isSubtype_type];kernel_rfl)
theorem BZ:Slot "reversed" "__iter__" "reversed.__iter__":=
 .of (owner := "reversed") (n := "__iter__") (by rw [typeLookup_type,builtinLookup_eq_fast];kernel_rfl) (by decide +kernel) (by decide +kernel) (by decide +kernel)
  (by first|exact .inl (by decide +kernel)|exact .inr (by decide +kernel)) (by rw [isSubtype_type];kernel_rfl)
theorem entry_next:entryFor table "reversed.__next__" = some Builtin.«reversed.__next__»:=entryFor_of_tree (by kernel_rfl)
theorem QV:entryFor table "reversed.__length_hint__" = some Builtin.«reversed.__length_hint__»:=entryFor_of_tree (by kernel_rfl)
theorem QW:entryFor table "reversed.__iter__" = some Builtin.«dict_keyiterator.__iter__»:=
 entryFor_alias (id' := "dict_keyiterator.__iter__") (by kernel_rfl) (by first|rfl|decide +kernel|(unfold String.splitOn;simp +decide [String.splitOnAux])) (by decide +kernel) (by kernel_rfl)
theorem owner:Manifest.owners.lookup (String.ofList ['d','e','s','r','e','v','e','r'].reverse)=some Manifest.sig_reversed:=by kernel_rfl
theorem args_next (a:Value):argsOk "reversed.__next__" ⟨[a],[]⟩:=by
 unfold argsOk;rw [signature?_of (id := "reversed.__next__") (n:=['_','_','t','x','e','n','_','_']) (o:=['d','e','s','r','e','v','e','r']) (by kernel_rfl) owner];kernel_rfl
theorem V6 (a:Value):argsOk "reversed.__iter__" ⟨[a],[]⟩:=by
 unfold argsOk;rw [signature?_of (id := "reversed.__iter__") (n:=['_','_','r','e','t','i','_','_']) (o:=['d','e','s','r','e','v','e','r']) (by kernel_rfl) owner];kernel_rfl
theorem V7 (a:Value):argsOk "reversed.__length_hint__" ⟨[a],[]⟩:=by
 unfold argsOk;rw [signature?_of (id := "reversed.__length_hint__") (n:=['_','_','t','n','i','h','_','h','t','g','n','e','l','_','_']) (o:=['d','e','s','r','e','v','e','r']) (by kernel_rfl) owner];kernel_rfl
theorem V8:Slot "reversed" "__init__" "object.__init__":=
 .of (owner := "object") (n := "__init__") (by rw [typeLookup_type,builtinLookup_eq_fast];kernel_rfl) (by decide +kernel) (by decide +kernel) (by decide +kernel)
  (by first|exact .inl (by decide +kernel)|exact .inr (by decide +kernel)) (by rw [isSubtype_type];kernel_rfl)
theorem called:TypeCalled "reversed" "reversed.__new__" "object.__init__":=
 ⟨by decide +kernel,by decide +kernel,⟨_,_,PySem.F.mro_reversed⟩,PySem.F.made_reversed,by decide +kernel,by rw [isSubtype_type];kernel_rfl,V8⟩
noncomputable def obj (t:Addr) (i:Int):Obj:={cls:=.type "reversed",data:=.fields #[.ref t,rawInt i]}
theorem V9 (t:Addr) (items:Array Value) (n:Nat) (dct:Option Addr) (sl:Array (Option Value)) (hz:(items.size:Int)<2 ^ 62) :
  Meets (Builtin.«reversed.__new__» ⟨[.type "reversed",.ref t],[]⟩) (fun _ R s=>s.heap.get? t=some {cls:=.type "tuple",dict:=dct,data:=.seq items n,slots:=sl}/\
   ∀tk,R (.ok (.ret (.ref s.heap.objs.size))) {s with heap:=s.heap.push (obj t ((items.size:Int)-1)),toks:=tk}):=
 .of_wp fun prog w A R s h=>by
  obtain ⟨hp,g,d,tk,os⟩:=s;obtain ⟨hl,h⟩:=h;have hT:(Shared.mk hp g d tk os).TypeIs (.ref t) "tuple":=⟨_,hl,rfl⟩
  unfold Builtin.«reversed.__new__»;refine wpAny_bind (wpAny_of_eq (newClass_reversed _) ?_)
  try dsimp only
  refine wpAny_bind (wpAny_of_eq (a:=()) (by first|rfl|kernel_rfl) ?_);refine wpAny_bind (wpAny_of_eq (a:=()) (by first|rfl|kernel_rfl) ?_)
  try dsimp only
  refine wpAny_bind (wpAny_specialOf hT QS ?_)
  try dsimp only
  refine wpAny_bind ?_;refine wpAny_bind (wpAny_isInstance (T := "tuple") (b:=false) hT (by rw [isSubtype_type];kernel_rfl) ?_);refine wpAny_ite_split (fun hab=>absurd hab (by decide)) (fun _=>?_);refine wpAny_bind (wpAny_specialOf hT PyProof.Rows.slot_tuple_getitem.lookup ?_);dsimp only;rw [if_pos (by decide +kernel)];refine wpAny_pure ?_;rw [if_neg (by decide)];refine wpAny_bind (PyProof.Rows.len_tuple (items:=items) ⟨_,hl,rfl,n,rfl⟩ (by lia) ?_);refine wpAny_bind (wpAny_of_eq (a:=some (items.size:Int)) rfl ?_);dsimp only;refine wpAny_bind ?_;unfold Builtin.SmallTypes.newRecord;exact wpAny_newObj_type (wpAny_pure ⟨_,rfl,h _⟩)
theorem aAg {prog:Program} {w:World} {A:Around} {E:Value->Shared->Prop} {s:Shared} {t:Addr} {items:Array Value} {Q:Value->Shared->Prop} (hL:s.heap.IsTuple t items) (hz:(items.size:Int)<2 ^ 62)
  (h:∀tk,Q (.ref s.heap.objs.size) {s with heap:=s.heap.push (obj t ((items.size:Int)-1)),toks:=tk}):wpAny (model prog w) A (call (.type "reversed") [.ref t]) Q E s:=by
 obtain ⟨⟨c,dct,dt,sl⟩,hl,hc,n,hd⟩:=hL;replace hc:c=.type "tuple":=hc;replace hd:dt=.seq items n:=hd;subst hc hd;refine callType_new called (by decide) (PySem.F.typeCall_reversed_1 _) (PySem.F.newCall_reversed_1 _) (fun obj=>PySem.F.args_object_init_2 obj _) PySem.F.entry_reversed_new (V9 t items n dct sl hz) ⟨hl,fun tk=>⟨⟨_,Heap.get?_push_size _ rfl,rfl⟩,h tk⟩⟩
def Is (h:Heap) (a t:Addr) (i:Int):Prop:=∃o,h.get? a=some o/\o.cls=.type "reversed"/\o.data=.fields #[.ref t,rawInt i]
theorem Is.ty {s:Shared} {a t:Addr} {i:Int} (x:Is s.heap a t i):s.TypeIs (.ref a) "reversed":=let ⟨o,ho,hc,_⟩:=x;⟨o,ho,hc⟩
theorem Is.at {h h':Heap} {a t:Addr} {i:Int} (x:Is h a t i) (e:∀o,h.get? a=some o->h'.get? a=some o):Is h' a t i:=let ⟨o,ho,r⟩:=x;⟨o,e o ho,r⟩
section
variable {prog:Program} {w:World} {A:Around} {E:Value->Shared->Prop} {s:Shared}
theorem next_item {it t:Addr} {i:Nat} {items:Array Value} {x:Value} {Q:Option Value->Shared->Prop} (hit:Is s.heap it t (i:Int)) (hl:s.heap.IsTuple t items) (hx:items[i]?=some x) (hz:(items.size:Int)<2 ^ 62)
  (hQ:∀h' tk,Is h' it t ((i:Int)-1)->Heap.SameBut it s.heap h'->Q (some x) {s with heap:=h',toks:=tk}):wpAny (model prog w) A (pyNext (.ref it)) Q E s:=by
 obtain ⟨o,ho,hc,hd⟩:=id hit;have hi:i<items.size:=(Array.getElem?_eq_some_iff.mp hx).1;unfold pyNext;refine wpAny_bind (wpAny_attempt (wpAny_callSpecial?_slot (name:=Str.ofString "__next__") hit.ty slot_next
  (wpAny_call_entry slot_next hit.ty entry_next ?_ (args_next _))))
 unfold Builtin.«reversed.__next__»;refine wpAny_bind (wpAny_of_eq (a:=(Value.ref it,[])) rfl ?_)
 try dsimp only
 refine wpAny_bind (wpAny_field ho hd (x:=.ref t) rfl ?_);refine wpAny_bind (wpAny_field ho hd (x:=rawInt (i:Int)) rfl ?_);show wpAny _ _ (if (i:Int)<0 then _ else _) _ _ s;rw [if_neg (by lia)];refine wpAny_bind (wpAny_specialOf hl.typeIs PyProof.Rows.slot_tuple_getitem.lookup ?_);rw [if_neg (by simp)];refine wpAny_bind (wpAny_mkInt ?_);refine wpAny_bind (wpAny_attempt (PyProof.Rows.getItem_tuple (items:=items) (j:=i) (x:=x) hl (by lia) (by lia) (by unfold seqIndex?;simp;lia) hx ?_));dsimp only;refine wpAny_bind (wpAny_field ho hd (x:=rawInt (i:Int)) rfl ?_);show wpAny _ _ (setField (.ref it) 1 (rawInt ((i:Int)-1)) >>= _) _ _ _;refine wpAny_bind (wpAny_setField ho hd (by simp) ?_);refine wpAny_pure ⟨x,rfl,wpAny_pure (hQ _ _ ?_ (Heap.SameBut.update ..))⟩;exact ⟨_,Heap.get?_update_self _ ho (Obj.isFreed_of_fields (Obj.data_mapFields hd _)),(Obj.cls_mapFields ..).trans hc,by
  rw [Obj.data_mapFields hd];simp⟩
theorem next_end {it t:Addr} {Q:Option Value->Shared->Prop} (hh:A.handled=none) (hit:Is s.heap it t (-1))
  (hQ:∀h',Heap.ExtBut it s.heap h'->Q none {s with heap:=h'}):wpAny (model prog w) A (pyNext (.ref it)) Q E s:=by
 obtain ⟨o,ho,hc,hd⟩:=id hit;unfold pyNext;refine wpAny_bind (wpAny_attempt (wpAny_callSpecial?_slot (name:=Str.ofString "__next__") hit.ty slot_next
  (wpAny_call_entry slot_next hit.ty entry_next ?_ (args_next _))))
 unfold Builtin.«reversed.__next__»;refine wpAny_bind (wpAny_of_eq (a:=(Value.ref it,[])) rfl ?_)
 try dsimp only
 refine wpAny_bind (wpAny_field ho hd (x:=.ref t) rfl ?_);refine wpAny_bind (wpAny_field ho hd (x:=rawInt (-1)) rfl ?_);show wpAny _ _ (if (-1:Int)<0 then _ else _) _ _ s;rw [if_pos (by decide)];refine wpAny_bind (wpAny_rule ?_);refine wpAny_bind ?_;refine wpAny_bind (wpAny_setField ho hd (by simp) ?_);have h1:=Heap.get?_update_self (h:=s.heap) (a:=it) (Obj.mapFields (·.set! 1 (rawInt (-1)))) ho (Obj.isFreed_of_fields (Obj.data_mapFields hd _));have hd1:(Obj.mapFields (·.set! 1 (rawInt (-1))) o).data=.fields #[.ref t,rawInt (-1)]:=by rw [Obj.data_mapFields hd];simp
 refine wpAny_setField h1 hd1 (by simp) ?_;refine wpAny_bind ?_;unfold Builtin.SmallTypes.stopIteration;simp only [newExc,newTuple];refine wpAny_bind ?_;refine wpAny_bind (wpAny_newObj_type ?_ (by size_fits));refine wpAny_bind (m:=firstArgMember _ _) (wpAny_of_eq (a:=Value.none) (by first|rfl|(simp only [firstArgMember];rfl)) ?_);refine wpAny_newObj_type ?_ (by size_fits);simp only [raiseNew];refine wpAny_bind (wpAny_handled ?_)
 first|rw [show A.in1.handled=none from hh]|rw [hh]
 refine wpAny_bind (wpAny_pure (wpAny_throw ?_));refine wpAny_bind (wpAny_isInstance (T := "StopIteration") (b:=true) ⟨_,Heap.get?_push_size _ rfl,rfl⟩ isSubtype_stop ?_);exact wpAny_pure (hQ _ ((((Heap.SameBut.update ..).trans (Heap.SameBut.update ..)).extBut.push _).push _))
theorem B_ {it t:Addr} {i:Int} {Q:Value->Shared->Prop} (hit:Is s.heap it t i) (h:Q (.ref it) s):wpAny (model prog w) A (pyIter (.ref it)) Q E s:=by
 refine wpAny_pyIter_slot hit.ty BZ (wpAny_call_entry BZ hit.ty QW ?_ (V6 _));show wpAny _ _ (ret (.ref it)) _ _ s;exact wpAny_pure ⟨_,rfl, "reversed",_,hit.ty,slot_next.lookup,h⟩
end
theorem walks {prog:Program} {w:World} {A:Around} (hh:A.handled=none) (I l:Addr) (hne:l≠I) (items:Array Value) (hz:(items.size:Int)<2 ^ 62) :
  Walks prog w A I [I,l] [I] items.size (fun i v=>items[items.size-1-i]?=some v) (fun i h=>i<=items.size/\Is h I l ((items.size:Int)-1-(i:Int))/\h.IsTuple l items) where
 sub:=fun b hb=>by simp at hb;simp [hb]
 frame:=fun _ _ _ x hk=>⟨x.1,x.2.1.at fun o e=>hk I (by simp) o e,let ⟨o,e,r⟩:=x.2.2;⟨o,hk l (by simp) o e,r⟩⟩
 item:=fun i s Q E hi x hQ=>by
  have e:(items.size:Int)-1-(i:Int)=((items.size-1-i:Nat):Int):=by lia
  have hit:=x.2.1;rw [e] at hit;have hx:items[items.size-1-i]?=some (items[items.size-1-i]'(by lia)):=Array.getElem?_eq_getElem (by lia);refine next_item hit x.2.2 hx hz fun h' tk hit' hs'=>?_
  have e2:((items.size-1-i:Nat):Int)-1=(items.size:Int)-1-((i+1:Nat):Int):=by lia
  rw [e2] at hit';exact hQ _ h' tk hx ⟨hi,hit',let ⟨o,eo,r⟩:=x.2.2;⟨o,(hs'.2 l hne).trans eo,r⟩⟩ fun b o hb eo=>hs'.extBut b o (fun h=>hb (by simp [h])) eo
 done:=fun s Q E x hQ=>by
  have e:(items.size:Int)-1-(items.size:Int)=-1:=by lia
  have hit:=x.2.1;rw [e] at hit;exact next_end hh hit fun h' he'=>hQ h' s.toks fun b o hb eo=>he' b o (fun h=>hb (by simp [h])) eo
 self:=fun _ _ _ _ x hQ=>B_ x.2.1 hQ
section
variable {prog:Program} {w:World} {A:Around} {E:Value->Shared->Prop} {s:Shared}
theorem hint {I l:Addr} {items:Array Value} {Q:Bool->Shared->Prop} (hit:Is s.heap I l ((items.size:Int)-1)) (hl:s.heap.IsTuple l items) (hz:items.size<=sizeLine) (h:∀b tk,Q b {s with toks:=tk}):wpAny (model prog w) A (Builtin.List.listLengthHint (.ref I)) Q E s:=by
 unfold Builtin.List.listLengthHint;refine wpAny_bind (wpAny_specialOf hit.ty QT ?_);dsimp only;refine wpAny_ite_split (fun hab=>absurd hab (by decide +kernel)) (fun _=>?_);rw [if_neg (by simp)];refine wpAny_bind (wpAny_specialOf hit.ty vC.lookup ?_);generalize hid:("reversed.__length_hint__" : String)=id0
 wp_delta
 rw [show splitId id0=some ("reversed", "__length_hint__") from by subst hid;decide +kernel];subst hid;refine wpAny_bind (wpAny_isInstance (T := "reversed") (b:=true) hit.ty PySem.F.sub_reversed_self ?_);refine wpAny_ite_split (fun hab=>absurd hab (by decide)) (fun _=>?_);refine wpAny_ite_split (fun hab=>absurd hab (by decide +kernel)) (fun _=>?_);refine wpAny_bind (wpAny_rule ?_);refine wpAny_bind (wpAny_of_eq (vC.bind _) ?_);refine wpAny_bind (wpAny_attempt (wpAny_call_entry vC hit.ty QV ?_ (V7 _)));obtain ⟨o,ho,hc,hd⟩:=id hit;unfold Builtin.«reversed.__length_hint__»;refine wpAny_bind (wpAny_of_eq (a:=Value.ref I) rfl ?_);refine wpAny_bind (wpAny_field ho hd (x:=.ref l) rfl ?_);rw [if_neg (show ¬((Value.ref l==Value.none)=true) from Bool.false_ne_true)];rw [sizeLine_eq] at hz;refine wpAny_bind (PyProof.Rows.len_tuple (items:=items) hl (by lia) ?_);refine wpAny_bind (wpAny_of_eq (a:=some (items.size:Int)) rfl ?_);dsimp only;refine wpAny_bind (wpAny_field ho hd (x:=rawInt ((items.size:Int)-1)) rfl ?_);show wpAny _ _ (if (items.size:Int)<(items.size:Int)-1+1 then _ else _) _ _ _;rw [if_neg (by lia)];refine wpAny_bind (wpAny_mkInt (wpAny_pure ⟨_,rfl,?_⟩));dsimp only;refine wpAny_bind (wpAny_of_eq (a:=some ((items.size:Int)-1+1)) rfl ?_);dsimp only;rw [if_neg (by simp only [Builtin.List.listFitsIndex,Bool.not_eq_true',Bool.not_eq_false,Bool.and_eq_true,decide_eq_true_eq];lia),if_neg (by lia),if_neg (by simp only [Builtin.List.listTooLong,decide_eq_true_eq,sizeLine_eq];lia)];exact wpAny_pure (h _ _)
theorem extend {R:Result->Shared->Prop} {I l:Addr} {items:Array Value} (hh:A.handled=none) (hit:Is s.heap I l ((items.size:Int)-1)) (hl:s.heap.IsTuple l items) (hIl:l≠I) (S:Addr) (hSr:S≠I) (hSd:S≠l) (res:Value) (c₀:Nat) (hS:s.heap.get? S=some {cls:=.type "list",data:=.seq #[] c₀})
  (hR:∀h' tk acc' c',(∀b o,b≠S->b≠I->s.heap.get? b=some o->h'.get? b=some o)->h'.get? S=some {cls:=.type "list",dict:=none,data:=.seq acc' c',slots:=#[]}->ItemsOf (fun i v=>items[items.size-1-i]?=some v) acc' items.size->R (.ok (.ret res)) {s with heap:=h',toks:=tk}) (hn:items.size<=sizeLine) :
  wpAny (model prog w) A.in1 (Builtin.List.listExtendWith (.ref S) (.ref I) res)
   (fun fin s'=>match fin with|.done f=>R (.ok f) s'|.again c'=>c'.quiet=true/\codeAny (model prog w) A c' R s') (fun e s'=>R (.error e) s') s:=by
 have hz:(items.size:Int)<2 ^ 62:=by rw [sizeLine_eq] at hn;lia
 have W:=walks (prog:=prog) (w:=w) (A:=A.in1) hh I l hIl items hz;have hSf:S∉[I,l]:=by simp only [List.mem_cons,List.not_mem_nil,or_false,not_or];exact ⟨hSr,hSd⟩
 have st0:∀{h:Heap},Is h I l ((items.size:Int)-1)->h.IsTuple l items->0<=items.size/\Is h I l ((items.size:Int)-1-((0:Nat):Int))/\h.IsTuple l items:=fun {h} a b=>⟨Nat.zero_le _,by simpa using a,b⟩
 have key:∀(h:Heap) (c₁ tk:Nat),Is h I l ((items.size:Int)-1)->h.IsTuple l items->(∀b o,b≠S->s.heap.get? b=some o->h.get? b=some o)->
   h.get? S=some {cls:=.type "list",data:=.seq #[] c₁}->codeAny (model prog w) A (.builtin "list.extend.loop" ⟨[.ref S,.ref I,res],[]⟩) R {s with heap:=h,toks:=tk}:=by
  intro h c₁ tk h1 h2 hk hS₁;refine codeAny_extend_loopS W.toS hn S hSf res items.size 0 _ #[] c₁ rfl (Nat.zero_le _) (st0 h1 h2) hS₁ (ItemsOf.nil _) fun s' acc' c' hm hS' hacc=>?_
  rw [Moved.eq_with hm];refine hR s'.heap s'.toks acc' c' (fun b o hb hbI e=>hm.heap b o (fun hmem=>?_) (hk b o hb e)) hS' hacc;rcases List.mem_cons.mp hmem with e'|hmem
  ·exact hb e'
  ·exact hbI (List.mem_singleton.mp hmem)
 unfold Builtin.List.listExtendWith;refine wpAny_bind (wpAny_typeOf (T := "reversed") hit.ty ?_);have h1:Builtin.List.listSameRef (.ref S) (.ref I)=false:=by simp [Builtin.List.listSameRef,hSr]
 have n1:(Value.type "reversed" == Value.type "list")=false:=by decide
 have n2:(Value.type "reversed" == Value.type "tuple")=false:=by decide
 simp only [h1,n1,n2,Bool.or_false,Bool.false_eq_true,if_false];refine wpAny_bind (B_ hit ?_);refine wpAny_bind (wpAny_holding (hint hit hl hn fun b tk=>?_));refine wpAny_ite_split (fun _=>?_) (fun _=>wpAny_pure ⟨plainId_quiet PySem.F.plain_extend_loop _,key _ c₀ _ hit hl (fun b o _ e=>e) hS⟩);refine wpAny_bind (wpAny_rule ?_);refine wpAny_bind ?_;show wpAny _ _ (updateSeq S (·.push .none) >>= fun _=>updateSeq S (·.pop)) _ _ _;refine wpAny_bind (wpAny_updateSeq hS rfl ?_);have hS₂:=Heap.get?_update_self (Obj.mapSeq (·.push Value.none)) hS rfl;refine wpAny_updateSeq (hz:=by seq_fits) hS₂ rfl ?_;have hS₃:=Heap.get?_update_self (Obj.mapSeq (·.pop)) hS₂ rfl;have oth:∀b o,b≠S->s.heap.get? b=some o->((s.heap.update S (Obj.mapSeq (·.push Value.none))).update S (Obj.mapSeq (·.pop))).get? b=some o:=fun b o hb e=>(Heap.get?_update_other _ _ (Ne.symm hb)).trans ((Heap.get?_update_other _ _ (Ne.symm hb)).trans e)
 refine wpAny_pure ⟨plainId_quiet PySem.F.plain_extend_loop _,key _ _ _ (hit.at fun o e=>oth I o (Ne.symm hSr) e) (let ⟨o,e,r⟩:=hl;⟨o,oth l o (Ne.symm hSd) e,r⟩) (fun b o hb e=>oth b o hb e) hS₃⟩
theorem init {R:Result->Shared->Prop} {I l:Addr} {items:Array Value} (hh:A.handled=none) (hit:Is s.heap I l ((items.size:Int)-1)) (hl:s.heap.IsTuple l items) (hIl:l≠I) (S:Addr) (hSr:S≠I) (hSd:S≠l) (hS:s.heap.get? S=some {cls:=.type "list",data:=.seq #[]})
  (hR:∀h' tk acc' c',(∀b o,b≠S->b≠I->s.heap.get? b=some o->h'.get? b=some o)->h'.get? S=some {cls:=.type "list",dict:=none,data:=.seq acc' c',slots:=#[]}->ItemsOf (fun i v=>items[items.size-1-i]?=some v) acc' items.size->R (.ok (.ret .none)) {s with heap:=h',toks:=tk}) (hn:items.size<=sizeLine) :
  wpAny (model prog w) A.in1 (Builtin.«list.__init__» ⟨[.ref S,.ref I],[]⟩)
   (fun fin s'=>match fin with|.done f=>R (.ok f) s'|.again c'=>c'.quiet=true/\codeAny (model prog w) A c' R s') (fun e s'=>R (.error e) s') s:=by
 show wpAny _ _ (do let old <- Builtin.List.listItems (.ref S);Builtin.List.listUpdate (.ref S) (fun _=>#[]);letGo old.toList.reverse;Builtin.List.listExtendWith (.ref S) (.ref I) .none) _ _ s;refine wpAny_bind ?_;unfold Builtin.List.listItems;refine wpAny_bind (wpAny_seqItems hS rfl (wpAny_pure ?_));show wpAny _ _ (updateSeq S (fun _=>#[]) >>= fun _=>letGo (#[]:Array Value).toList.reverse >>= fun _=>Builtin.List.listExtendWith (.ref S) (.ref I) .none) _ _ s;refine wpAny_bind (wpAny_updateSeq hS rfl ?_);have hS₂:=Heap.get?_update_self (Obj.mapSeq (fun _=>(#[]:Array Value))) hS rfl;have oth:∀b o,b≠S->s.heap.get? b=some o->(s.heap.update S (Obj.mapSeq (fun _=>(#[]:Array Value)))).get? b=some o:=
  fun b o hb e=>(Heap.get?_update_other _ _ (Ne.symm hb)).trans e
 refine wpAny_bind (wpAny_letGo ?_);refine extend hh (hit.at fun o e=>oth I o (Ne.symm hSr) e) (let ⟨o,e,r⟩:=hl;⟨o,oth l o (Ne.symm hSd) e,r⟩) hIl S hSr hSd .none _ hS₂ (fun h' tk acc' c' hk hS' hacc=>?_) hn;exact hR h' tk acc' c' (fun b o hb hbI e=>hk b o hb hbI (oth b o hb e)) hS' hacc
theorem V_ {I l:Addr} {items:Array Value} {Q:Value->Shared->Prop} (hh:A.handled=none) (hit:Is s.heap I l ((items.size:Int)-1)) (hl:s.heap.IsTuple l items) (hIl:l≠I) (hn:items.size<=sizeLine)
  (hQ:∀h' tk acc' c',(∀b o,b≠I->s.heap.get? b=some o->h'.get? b=some o)->h'.get? s.heap.objs.size=some {cls:=.type "list",dict:=none,data:=.seq acc' c',slots:=#[]}->ItemsOf (fun i v=>items[items.size-1-i]?=some v) acc' items.size->Q (.ref s.heap.objs.size) {s with heap:=h',toks:=tk}) :
  wpAny (model prog w) A (call (.type "list") [.ref I]) Q E s:=by
 refine callType_codes (Q₁:=fun obj s₁=>obj=.ref s.heap.objs.size/\s₁={s with heap:=s.heap.push {cls:=.type "list",data:=.seq #[]}}) PySem.F.called_list (PySem.F.typeCall_list_1 _) PySem.F.entry_list_init
  (code_list_new _ ⟨rfl,rfl⟩) fun obj s₁ h₁=>?_
 obtain ⟨rfl,rfl⟩:=h₁;have hS:(s.heap.push {cls:=.type "list",data:=.seq #[]}).get? s.heap.objs.size=some {cls:=.type "list",data:=.seq #[]}:=Heap.get?_push_size _ rfl;have lt:∀{b:Addr} {o:Obj},s.heap.get? b=some o->s.heap.objs.size≠b:=fun e=>Nat.ne_of_gt (Heap.lt_size e)
 have l1:s.heap.objs.size≠I:=let ⟨o,e,_⟩:=hit;lt e
 have l2:s.heap.objs.size≠l:=let ⟨o,e,_⟩:=hl;lt e
 refine ⟨⟨_,hS,rfl⟩,PySem.F.args_list_init_2 _ _,init (A:=A.in1) hh (hit.at fun o e=>Heap.get?_push_of_some _ e) (let ⟨o,e,r⟩:=hl;⟨o,Heap.get?_push_of_some _ e,r⟩) hIl _ l1 l2 hS (fun h' tk acc' c' hk hS' hacc=>?_) hn⟩;exact ⟨rfl,hQ h' tk acc' c' (fun b o hb e=>hk b o (Ne.symm (lt e)) hb (Heap.get?_push_of_some _ e)) hS' hacc⟩
end
end Rv
end Mi
namespace Mi
open PySem L2 PySem.SeqAt PySem.Spec PyProof.Rows
def aKs:D->Res D
 | .tup xs=>if D.aG xs&&decide (xs.length<=lim) then .ok (.lst xs.reverse) else .bad
 | _=>.bad
theorem HW:bootBuiltins "reversed" = some (.type "reversed"):=by decide +kernel
variable [KFrag]
theorem bF.rev {P:Addr->Prop} {H:Hp}:∀{vs:List V} {ds:List D},bF P H vs ds->bF P H vs.reverse ds.reverse
 | _,_,.nil=>.nil
 | _,_,.cons r t=>by rw [List.reverse_cons,List.reverse_cons];exact t.rev.snoc r
theorem fK {ds:List D} (h:D.aG ds=true):D.aG ds.reverse=true:=b7.mpr fun y hy=>b7.mp h y (List.mem_reverse.mp hy)
theorem aAh {xs:List V} {its acc:List Value} (r:Vals xs its) (hl:acc.length=its.length) (h:∀j v,acc[j]?=some v->its[its.length-1-j]?=some v):Vals xs.reverse acc:=by
 have e:acc=its.reverse:=by
  refine List.ext_getElem? fun j=>?_
  by_cases hj:j<its.length
  ·have h1:acc[j]?=some (acc[j]'(by lia)):=List.getElem?_eq_getElem (by lia);have h2:=h j _ h1;rw [h1,List.getElem?_reverse hj,h2]
  ·rw [List.getElem?_eq_none (by lia),List.getElem?_eq_none (by rw [List.length_reverse];lia)]
 rw [e];clear e h hl;induction r with
 | nil=>exact .nil
 | cons h t ih=>
  rw [List.reverse_cons,List.reverse_cons];exact ih.append (.cons h .nil)
section
variable {X:Cx} {e:Expr} {fe:FE} {re:Bool} {p p2 pos pos2:Pos}
theorem aEi (hc:X.calm=true) (hg:Gl X "list") (hm:X.mg "list" = none) (hg2:Gl X "reversed") (hm2:X.mg "reversed" = none) (he:PE X e (gE fe re)) (hs:starEach [e] X.env=[(false,eval e X.env)]:=by rfl)
  (hs2:starEach [.Call (.Name "reversed" p2) [e] [] pos2] X.env=[(false,eval (.Call (.Name "reversed" p2) [e] [] pos2) X.env)]:=by rfl) :
  PE X (.Call (.Name "list" p) [.Call (.Name "reversed" p2) [e] [] pos2] [] pos) (gE (b1 aKs fe) true):=by
 intro pins s σ H Q I ⟨ρ,d,E,h,q⟩;obtain ⟨d0,h1,h2⟩:=bI h;unfold aKs at h2;split at h2
 rotate_left
 ·cases h2
 rename_i ds;split at h2
 rotate_left
 ·cases h2
 rename_i hb;cases h2;rw [Bool.and_eq_true] at hb;refine wpAny_Call_Name_kw (lN I hg hm HF ?_);refine PyProof.Rows.callWith_type1 ?_ hs2 rfl;rw [hs2];show wpAny _ _ (spliced [(false,eval (.Call (.Name "reversed" p2) [e] [] pos2) X.env)]) _ _ s;refine Calls.spliced_cons ?_;refine wpAny_Call_Name_kw (lN I hg2 hm2 HW ?_);refine PyProof.Rows.callWith_type1 ?_ hs rfl;rw [hs];show wpAny _ _ (spliced [(false,eval e X.env)]) _ _ s;refine Calls.spliced_cons (thn (he pins s σ H (fun v H1=>bO H H1/\Rep All H1 v (.tup ds)) I ⟨ρ,_,E,h1,fun v H1 s1 r1 _=>⟨s1,r1⟩⟩) fun u s1 ⟨x,H1,I1,ru,sm,rx⟩=>?_);obtain ⟨t,xs,rfl,ex,rr⟩:=rx.eO;cases ru;obtain ⟨its,rv,ht,hz⟩:=I1.tuple (.of ex);have htt:s1.heap.IsTuple t its.toArray:=ht;refine Calls.spliced_nil ?_;have hz':its.toArray.size<=sizeLine:=by rw [List.size_toArray,<-rv.length];exact hz
 refine Rv.aAg htt (by rw [sizeLine_eq] at hz';lia) fun tk=>?_
 refine Calls.spliced_nil ?_;have hne:t≠s1.heap.objs.size:=let ⟨o,e,_⟩:=htt;Nat.ne_of_lt (Heap.lt_size e)
 refine Rv.V_ (s:={s1 with heap:=s1.heap.push (Rv.obj t ((its.toArray.size:Int)-1)),toks:=tk}) (I:=s1.heap.objs.size) (l:=t) (items:=its.toArray) (I1.ok.hd hc) ⟨_,Heap.get?_push_size _ rfl,rfl,rfl⟩ (let ⟨o,e,r⟩:=htt;⟨o,Heap.get?_push_of_some _ e,r⟩) hne hz' fun h' tk' acc c hk hS hacc=>?_
 have hsz:((s1.heap.push (Rv.obj t ((its.toArray.size:Int)-1))).objs.size)=s1.heap.objs.size+1:=Heap.size_push ..;have hfr:H1 (s1.heap.push (Rv.obj t ((its.toArray.size:Int)-1))).objs.size=none:=I1.hok.fresh (by rw [hsz];lia);have hlen:acc.toList.length=its.length:=by have:=hacc.1;simpa using this
 have hv:Vals xs.reverse acc.toList:=aAh rv hlen fun j v hj=>by
  have:=hacc.2 j v (by simpa using hj);simpa using this
 have sm2:bO H1 (upd H1 (s1.heap.push (Rv.obj t ((its.toArray.size:Int)-1))).objs.size (.lst xs.reverse)):=bO.upd hfr;refine ⟨.ref (s1.heap.push (Rv.obj t ((its.toArray.size:Int)-1))).objs.size,_,I1.laid (a:=(s1.heap.push (Rv.obj t ((its.toArray.size:Int)-1))).objs.size) (o:=.lst xs.reverse) (h':=h') (t':=tk') (fun b o e=>hk b o (Nat.ne_of_lt (Heap.lt_size e)) (Heap.get?_push_of_some _ e)) (by rw [hsz];lia) ⟨by rw [List.length_reverse];exact hz,acc.toList,c,hv,by simpa using hS⟩,rfl,?_⟩;exact q _ _ (sm.trans sm2) (.lst aF trivial (rr.rev.same sm2)) fun _=>.lst aF (sm.free hfr) ((rr.rev.bL (fK hb.1)).same sm2)
end
end Mi
namespace Wl
open PySem PySem.Spec
noncomputable abbrev liO (xs:Array Value) (n:Nat):Obj:={cls:=.type "list",data:=.seq xs n}
theorem VR:typeLookup (.type "list") "keys" = pure none:=by rw [typeLookup_type,builtinLookup_eq_fast];kernel_rfl
theorem noGet:typeLookup (.type "list") "__getattr__" = pure none:=by rw [typeLookup_type,builtinLookup_eq_fast];kernel_rfl
theorem VV:entryFor table "list.__getattribute__" = some Builtin.«object.__getattribute__»:=entryFor_alias (id' := "object.__getattribute__") (by kernel_rfl) (by decide +kernel) (by decide +kernel) (by kernel_rfl)
theorem mC (a:Addr) (xs:Array Value) (n:Nat) (u:Tok):Meets (Builtin.«object.__getattribute__» ⟨[.ref a,.str "keys" u],[]⟩) (fun A R s=>s.heap.get? a=some (liO xs n)/\raisesAttr (.ref a) "keys" A R s):=.of_wp fun prog w A R s hs=>by
 obtain ⟨hp,g,d,tk,os⟩:=s;obtain ⟨e,hh,q⟩:=hs;have ty:(⟨hp,g,d,tk,os⟩:Shared).TypeIs (.ref a) "list":=⟨_,e,rfl⟩
 have no:=VR
 wp_walk
 exact wpAny_raiseAttrError hh q (attrMsg_fits (by decide +kernel) (by size_fits))
section
variable {prog:Program} {w:World} {A:Around} {E:Value->Shared->Prop} {hp:Heap} {g:Array GenState} {d:Drawn} {tk:Nat} {os:OsState} {a:Addr} {xs:Array Value} {n:Nat}
theorem gone {u:Tok} {kw:List (Str×Value)} {Q:Value->Shared->Prop} (e:hp.get? a=some (liO xs n)) (hh:A.handled=none) (hk:kw=[]) (q:∀h' tk' x,Heap.NewAttrErr hp h' x (.ref a) "keys"->E (.ref x) ⟨h',g,d,tk',os⟩) :
  wpAny (model prog w) A (call (.builtin "list.__getattribute__") ([.ref a]++[.str "keys" u]) kw) Q E ⟨hp,g,d,tk,os⟩:=by
 subst hk;exact call_meets F.slot_list_getattribute ⟨_,e,rfl⟩ VV (F.args_list_getattribute_2 _ _) (mC a xs n u) ⟨e,hh,fun h' tk' x hx=>q h' tk' x hx⟩
theorem lacks {Q:Option Value->Shared->Prop} (e:hp.get? a=some (liO xs n)) (hh:A.handled=none) (q:∀h' tk',(∀b o,hp.get? b=some o->h'.get? b=some o)->Q none ⟨h',g,d,tk',os⟩):wpAny (model prog w) A (getAttr? (.ref a) "keys") Q E ⟨hp,g,d,tk,os⟩:=by
 have ty:∀tk',(⟨hp,g,d,tk',os⟩:Shared).TypeIs (.ref a) "list":=fun _=>⟨_,e,rfl⟩
 have f3:=F.slot_list_getattribute.lookup;have f4:=F.slot_list_getattribute.bind (.ref a);have f5:=noGet;have sub:=sub_AttributeError
 wp_walk using gone e hh
 case hk=>rfl
 intro h' tk' x hx;obtain ⟨t,u,ex⟩:=hx.there;show wpAny _ _ (getattributeRaised _ _ _ _ _ _ _) _ _ _
 wp_walk
 exact q _ _ hx.keeps
end
theorem wN {h:Heap} {c d:Addr} {o od:Obj} {T U:String} (e:h.get? c=some o) (hc:o.cls=.type T) (ed:h.get? d=some od) (hd:od.cls=.type U) (ne:(Value.type T==Value.type U)=false):c≠d:=fun q=>by
 subst q;rw [e] at ed;cases ed;rw [hc] at hd;rw [hd] at ne;simp at ne
def Prs {prog:Program} {w:World} {K:Type} [DecidableEq K] (knd:KeyKind prog w K) (items:Array Value) (ps:List (K×Value)) (h:Heap):Prop:=items.size=ps.length/\∀(i:Nat) (kv:K×Value),ps[i]?=some kv->∃(p:Addr) (x:Value) (o:Obj) (n:Nat),items[i]?=some (Value.ref p)/\h.get? p=some o/\o.cls=.type "tuple"/\o.data=.seq #[x,kv.2] n/\knd.is kv.1 x=true
theorem Prs.keep {prog:Program} {w:World} {K:Type} [DecidableEq K] {knd:KeyKind prog w K} {items:Array Value} {ps:List (K×Value)} {h h':Heap} (x:Prs knd items ps h) (k:∀c o,o.cls=.type "tuple"->h.get? c=some o->h'.get? c=some o):Prs knd items ps h':=
 ⟨x.1,fun i kv e=>let ⟨p,v,o,n,h1,h2,h3,h4,h5⟩:=x.2 i kv e;⟨p,v,o,n,h1,k p o h3 h2,h3,h4,h5⟩⟩
section
variable {prog:Program} {w:World} {K:Type} [DecidableEq K] {knd:KeyKind prog w K} {A:Around} {R:Except Value Flow->Shared->Prop} {it l d:Addr} {items:Array Value} {ps:List (K×Value)} {nl:Nat}
theorem yD (hh:A.handled=none) (hdi:d≠it) (hdl:d≠l) (hil:l≠it) :
  ∀(m k:Nat) (s:Shared) (kvs:List (K×Value)),k+m=items.size->kvs.length+m<=sizeLine->s.heap.IsListIter it l k->s.heap.get? l=some (liO items nl)->Prs knd items ps s.heap->s.heap.DictOf knd d kvs->
  (∀h' tk,h'.DictOf knd d (merged kvs (ps.drop k))->(∀c o,c≠d->c≠it->s.heap.get? c=some o->h'.get? c=some o)->R (.ok (.ret .none)) {s with heap:=h',toks:=tk})->
  codeAny (model prog w) A (.builtin "dict.update.loop" ⟨[.ref d,.ref it,rawInt k,.none],[]⟩) R s:=by
 intro m;induction m with
 | zero=>
  intro k s kvs hkm hl Z el Pp hd q;refine codeAny_builtin Wz.i_ ?_;rw [Around.under_plainId (show plainId "dict.update.loop" = true by decide +kernel) _];refine wpAny_bind (m:=pyNext (.ref it)) (wpAny_pyNext_list_end hh Z ⟨_,el,rfl,_,rfl⟩ (Array.getElem?_eq_none (by lia)) fun h' kp=>?_);refine wpAny_bind (m:=Builtin.Dict.addKeywords d []) ?_;unfold Builtin.Dict.addKeywords;rw [List.forIn_nil];refine wpAny_bind (wpAny_pure (wpAny_pure (wpAny_pure ?_)));have e:ps.drop k=[]:=List.drop_eq_nil_of_le (by have:=Pp.1;lia);rw [e] at q;obtain ⟨o,es,ep,ho,r⟩:=hd;exact q _ s.toks ⟨o,es,ep,kp d o hdi ho,r⟩ fun c o _ c1 e=>kp c o c1 e
 | succ m ih=>
  intro k s kvs hkm hl Z el Pp hd q;have hlp:k<ps.length:=by have:=Pp.1;lia
  obtain ⟨p,x,o,n,hi,hp,hpc,hpd,his⟩:=Pp.2 k ps[k] (List.getElem?_eq_getElem hlp);have hpi:p≠it:=let ⟨oi,ei,ci,_⟩:=Z;wN hp hpc ei ci (by decide)
  refine codeAny_builtin Wz.i_ ?_;rw [Around.under_plainId (show plainId "dict.update.loop" = true by decide +kernel) _];refine wpAny_bind (m:=pyNext (.ref it)) (wpAny_pyNext_list_item Z ⟨_,el,rfl,_,rfl⟩ hi fun h' Z' kp=>?_);have hp':h'.get? p=some o:=(kp.2 p hpi).trans hp;refine wpAny_bind (wpAny_holding (wpAny_bind (wpAny_tryCatch ?_)));refine wpAny_bind (wpAny_typeOf (T := "tuple") ⟨_,hp',hpc⟩ ?_);rw [if_pos (by decide)];refine wpAny_bind (wpAny_seqItems hp' hpd (wpAny_pure ?_));show wpAny _ _ (holding [x,ps[k].2] (dictSet d x ps[k].2)) _ _ _;have hd':h'.DictOf knd d kvs:=let ⟨o,es,ep,ho,r⟩:=hd;⟨o,es,ep,(kp.2 d hdi).trans ho,r⟩
  obtain ⟨od,es,ep,ho,hc,_⟩:=id hd';refine wpAny_holding (wpAny_dictSet_pairs his hd' (fun h2 hd2' sb=>?_) (by lia));refine wpAny_pure ⟨Code.quiet_builtin _ (by decide +kernel),?_⟩;have ek:(rawInt (k+1):Value)=rawInt ((k+1:Nat):Int):=rfl;rw [ek];have hdrop:ps.drop k=ps[k]::ps.drop (k+1):=List.drop_eq_getElem_cons hlp;have ls:(stored kvs ps[k].1 ps[k].2).length<=kvs.length+1:=by
   unfold stored;split
   ·rw [List.length_map];lia
   ·rw [List.length_append];exact Nat.le_refl _
  have keep:∀c o,c≠d->c≠it->s.heap.get? c=some o->h2.get? c=some o:=fun c o c0 c1 e=>(sb.2 c c0).trans ((kp.2 c c1).trans e)
  have hdc:∀c (oc:Obj),oc.cls=.type "tuple"->s.heap.get? c=some oc->c≠d/\c≠it:=fun c oc hoc e=>⟨let ⟨o1,_,_,e1,c1,_⟩:=hd;wN e hoc e1 c1.1 (by decide),let ⟨oi,ei,ci,_⟩:=Z;wN e hoc ei ci (by decide)⟩
  refine ih (k+1) _ (stored kvs ps[k].1 ps[k].2) (by lia) (by lia) (let ⟨oi,ei,r⟩:=Z';⟨oi,(sb.2 it (Ne.symm hdi)).trans ei,r⟩) (keep l _ (Ne.symm hdl) hil el) (Pp.keep fun c oc hoc e=>keep c oc (hdc c oc hoc e).1 (hdc c oc hoc e).2 e) hd2' fun h3 tk hd3 kp3=>?_
  exact q h3 tk (by rw [hdrop];exact hd3) fun c o c0 c1 e=>kp3 c o c0 c1 (keep c o c0 c1 e)
end
section
variable {prog:Program} {w:World} {K:Type} [DecidableEq K] {knd:KeyKind prog w K} {A:Around} {E:Value->Shared->Prop} {hp:Heap} {g:Array GenState} {dr:Drawn} {tk:Nat} {os:OsState} {l:Addr} {items:Array Value} {ps:List (K×Value)} {nl:Nat}
theorem dict_list {Q:Value->Shared->Prop} (hh:A.handled=none) (el:hp.get? l=some (liO items nl)) (Pp:Prs knd items ps hp) (hz:items.size<=1000000)
  (q:∀h' tk',h'.DictOf knd hp.objs.size (merged [] ps)->(∀c o,hp.get? c=some o->h'.get? c=some o)->Q (.ref hp.objs.size) ⟨h',g,dr,tk',os⟩) :
  wpAny (model prog w) A (call (.type "dict") [.ref l]) Q E ⟨hp,g,dr,tk,os⟩:=by
 have hnew:(hp.push {cls:=.type "dict",data:=.dict #[]}).DictOf knd hp.objs.size []:=Heap.DictOf.new hp;have up:∀c o,hp.get? c=some o->(hp.push {cls:=.type "dict",data:=.dict #[]}).get? c=some o:=fun c o e=>Heap.get?_push_of_some _ e
 have lt:∀{c o},hp.get? c=some o->hp.objs.size≠c:=fun e=>Nat.ne_of_gt (Heap.lt_size e)
 refine callType_codes (Q₁:=fun v s₁=>v=.ref hp.objs.size/\s₁=⟨hp.push {cls:=.type "dict",data:=.dict #[]},g,dr,tk,os⟩) F.kt_called_dict (F.kt_typeCall_dict_1 _) F.entry_dict_init (kt_code_dict_new _ ⟨rfl,rfl⟩) fun v s₁ hv=>?_
 obtain ⟨rfl,rfl⟩:=hv;have ty:(⟨hp.push {cls:=.type "dict",data:=.dict #[]},g,dr,tk,os⟩:Shared).TypeIs (.ref hp.objs.size) "dict":=hnew.typeIs;have ez:=up _ _ el;have tz:(⟨hp.push {cls:=.type "dict",data:=.dict #[]},g,dr,tk,os⟩:Shared).TypeIs (.ref l) "list":=⟨_,ez,rfl⟩
 refine ⟨ty,F.args_dict_init_2 _ _,wpAny_bind (m:=Builtin.Dict.selfAndRest "__init__" _) (wpAny_bind (wpAny_notOrdered_dict ty (wpAny_pure ?_)))⟩;refine wpAny_bind (m:=typeOf (.ref l)) (wpAny_typeOf tz ?_);rw [if_pos (by decide)];refine wpAny_bind (lacks ez hh fun h' tk' kp=>?_);rw [if_pos (show (none:Option Value).isNone=true from rfl)];refine wpAny_bind (wpAny_rule (wpAny_bind (wpAny_pyIter_list ⟨_,kp _ _ ez,rfl,_,rfl⟩ (wpAny_pure ⟨Code.quiet_builtin _ (by decide +kernel),?_⟩))));have hd':h'.DictOf knd hp.objs.size []:=let ⟨o,es,ep,ho,r⟩:=hnew;⟨o,es,ep,kp _ _ ho,r⟩
 have ltd:hp.objs.size<h'.objs.size:=let ⟨o,es,ep,ho,r⟩:=hd';Heap.lt_size ho
 have ltl:l<h'.objs.size:=Heap.lt_size (kp _ _ ez);refine yD (A:=A.in1) (ps:=ps) (it:=h'.objs.size) (l:=l) (items:=items) (nl:=nl) (show A.in1.handled=none from hh) (Nat.ne_of_lt ltd) (lt el) (Nat.ne_of_lt ltl) items.size 0 _ [] (by lia) (by rw [List.length_nil,sizeLine_eq];lia) ⟨_,Heap.get?_push_size _ rfl,rfl,rfl⟩ (Heap.get?_push_of_some _ (kp _ _ ez)) (Pp.keep fun c o _ e=>Heap.get?_push_of_some _ (kp c o (up c o e))) (let ⟨o,es,ep,ho,r⟩:=hd';⟨o,es,ep,Heap.get?_push_of_some _ ho,r⟩) fun h2 tk2 hd2 kp2=>?_
 exact ⟨rfl,q h2 tk2 hd2 fun c o e=>kp2 c o (fun x=>lt e x.symm) (Nat.ne_of_lt (Heap.lt_size (kp c o (up c o e)))) (Heap.get?_push_of_some _ (kp c o (up c o e)))⟩
end
end Wl
namespace Mi
open PySem L2 PySem.SeqAt PySem.Spec PyProof.Rows
def vD:List D->Option (List (D×D))
 | []=>some []
 | .tup [k,v]::r=>if eY k&&v.pure then (vD r).map ((k,v)::·) else none
 | _::_=>none
def jA (kvs:List (D×D)) (more:List (D×D)):List (D×D):=more.foldl (fun acc p=>putD acc p.1 p.2) kvs
def K8:D->Res D
 | .lst xs=>match vD xs with
  | some ps=>if decide (xs.length<=1000) then .ok (.dct (jA [] ps)) else .bad
  | none=>.bad
 | _=>.bad
variable [KFrag]
theorem K9 {X:Cx} {pins:List (Addr×Obj)} {σ:L2.St} {H:Hp} {s:Shared} (I:Inv X pins σ H s):∀{xs:List D} {vs:List V} {us:List Value} {ps:List (D×D)},bF All H vs xs->Vals vs us->vD xs=some ps->
  ∃(kvs:List (Key×V)) (prs:List (Key×Value)),KV kvs prs/\d9 All H kvs ps/\D.aG (ps.map (·.2))=true/\us.length=prs.length/\∀(i:Nat) (kv:Key×Value),prs[i]?=some kv->∃(p:Addr) (x:Value) (o:Obj) (n:Nat),us[i]?=some (Value.ref p)/\s.heap.get? p=some o/\o.cls=.type "tuple"/\o.data=.seq #[x,kv.2] n/\(bU X.prog X.w).is kv.1 x=true
 | [],_,_,_,.nil,.nil,h=>by
  cases h;exact ⟨[],[],.nil,.nil,rfl,rfl,fun i kv h=>by simp at h⟩
 | d::xs,_,_,ps,.cons r t,.cons rv tv,h=>by
  unfold vD at h;split at h
  ·rename_i h0;cases h0
  ·rename_i k v r' h0;injection h0 with h0 h1
   subst h0 h1;split at h
   ·rename_i hf;rw [Bool.and_eq_true] at hf;obtain ⟨ps',hp,rfl⟩:=Option.map_eq_some_iff.mp h;obtain ⟨kvs,prs,g1,g2,g3,g4,g5⟩:=K9 I t tv hp;obtain ⟨a,ws,rfl,ea,rr⟩:=r.eO;cases rv;obtain ⟨its,rvs,o,ho,hc,n,hd⟩:=jO I ea;cases rr with
    | cons rk rr=>
     cases rr with
     | cons rw_ rr=>
      cases rr;cases rvs with
      | cons q1 rvs=>
       cases rvs with
       | cons q2 rvs=>
        cases rvs;rename_i wk ww uk uw;obtain ⟨key,hk1,hk2⟩:∃key:Key,kD key=k/\(bU X.prog X.w).is key uk=true:=by
         cases rk with
         | int i=>exact ⟨.inl i,rfl,zU (k:=.inl i) q1⟩
         | str x=>exact ⟨.inr x,rfl,zU (k:=.inr x) q1⟩
         | _=>cases hf.1
        subst hk1;refine ⟨(key,ww)::kvs,(key,uw)::prs,.cons ⟨rfl,q2⟩ g1,.cons rw_ g2,by rw [List.map_cons,D.aG,hf.2,g3];rfl,by rw [List.length_cons,List.length_cons,g4],fun i kv hi=>?_⟩;cases i with
        | zero=>
         simp at hi;subst hi;exact ⟨a,uk,o,n,rfl,ho,hc,hd,hk2⟩
        | succ i=>
         obtain ⟨p,x,o',n',z1,z2⟩:=g5 i kv (by simpa using hi);exact ⟨p,x,o',n',by simpa using z1,z2⟩
   ·cases h
  ·cases h
theorem wO {P:Addr->Prop} {H:Hp}:∀{more:List (Key×V)} {ds:List (D×D)} {kvs:List (Key×V)} {es:List (D×D)},d9 P H more ds->d9 P H kvs es->(kvs.map (·.1)).Nodup->d9 P H (d_ kvs more) (jA es ds)/\((d_ kvs more).map (·.1)).Nodup
 | _,_,_,_,.nil,r,n=>⟨r,n⟩
 | _,_,_,_,.cons (k:=k) rv t,r,n=>by have:=wO t (x_ (k:=k) rv r n) (gM n);exact this
theorem kI:∀{ds es:List (D×D)},D.aG (ds.map (·.2))=true->D.aG (es.map (·.2))=true->D.aG ((jA es ds).map (·.2))=true
 | [],_,_,h=>h
 | (k,v)::ds,es,h,h2=>by
  rw [List.map_cons,D.aG,Bool.and_eq_true] at h;exact kI (ds:=ds) h.2 (iY h.1 h2)
section
variable {X:Cx} {e:Expr} {fe:FE} {re:Bool} {p pos:Pos}
theorem WD (hc:X.calm=true) (hg:Gl X "dict") (hm:X.mg "dict" = none) (he:PE X e (gE fe re)) (hs:starEach [e] X.env=[(false,eval e X.env)]:=by rfl) :
  PE X (.Call (.Name "dict" p) [e] [] pos) (gE (b1 K8 fe) true):=by
 intro pins s σ H Q I ⟨ρ,d,E,h,q⟩;obtain ⟨d0,h1,h2⟩:=bI h;unfold K8 at h2;split at h2
 rotate_left
 ·cases h2
 rename_i xs;split at h2
 rotate_left
 ·cases h2
 rename_i ps hps;split at h2
 rotate_left
 ·cases h2
 rename_i hb;cases h2;have hb:=of_decide_eq_true hb;refine wpAny_Call_Name_kw (lN I hg hm xZ ?_);refine PyProof.Rows.callWith_type1 ?_ hs rfl;rw [hs];show wpAny _ _ (spliced [(false,eval e X.env)]) _ _ s;refine Calls.spliced_cons (thn (he pins s σ H (fun v H1=>bO H H1/\Rep All H1 v (.lst xs)) I ⟨ρ,_,E,h1,fun v H1 s1 r1 _=>⟨s1,r1⟩⟩) fun u s1 ⟨x,H1,I1,ru,sm,rx⟩=>?_);obtain ⟨a,vs,rfl,ea,rr⟩:∃a vs,x=.ref a/\H1 a=some (.lst vs)/\bF All H1 vs xs:=by
  cases rx with
  | lst e p r=>exact ⟨_,_,rfl,e,r⟩
 cases ru;refine Calls.spliced_nil ?_;obtain ⟨hz,its,nl,rv,hl⟩:vs.length<=sizeLine/\∃(its:List Value) (n:Nat),Vals vs its/\s1.heap.get? a=some {cls:=.type "list",data:=.seq its.toArray n}:=I1.hok a _ ea;obtain ⟨kvs,prs,g1,g2,g3,g4,g5⟩:=K9 I1 rr rv hps;have hlen:its.length<=1000:=by rw [<-rv.length,rr.length];exact hb
 obtain ⟨hp,g,dr,tk,os⟩:=s1;refine Wl.dict_list (knd:=bU X.prog X.w) (ps:=prs) (items:=its.toArray) (I1.ok.hd hc) hl ⟨by rw [List.size_toArray];exact g4,fun i kv hi=>?_⟩ (by rw [List.size_toArray];lia) fun h' tk' hd kp=>?_
 ·obtain ⟨p,x,o,n,z1,z2⟩:=g5 i kv hi;exact ⟨p,x,o,n,by simpa using z1,z2⟩
 ·have hfr:H1 hp.objs.size=none:=I1.hok.fresh (Nat.le_refl _);have rel:KV (d_ [] kvs) (merged [] prs):=g1.merge .nil;have hz2:(d_ [] kvs).length<=sizeLine:=by
   have:=jD kvs [];have l1:kvs.length=prs.length:=Paired.length g1;rw [List.length_nil] at this;rw [sizeLine_eq];lia
  obtain ⟨rk,nd⟩:=wO (kvs:=[]) g2 d9.nil List.nodup_nil;have sp:bO H1 (upd H1 hp.objs.size (.dK (d_ [] kvs))):=bO.upd hfr;have rk2:∀{P:Addr->Prop},d9 P (upd H1 hp.objs.size (.dK (d_ [] kvs))) (d_ [] kvs) (jA [] ps):=fun {P}=>(rk.keep (.same sp) fun _ h=>h).bL (kI g3 rfl)
  refine ⟨.ref hp.objs.size,_,I1.laid (a:=hp.objs.size) (t':=tk') (o:=.dK (d_ [] kvs)) kp (Nat.le_refl _) (S7 hz2 (beq_eq_false_iff_ne.mpr ?_) rel hd),rfl,?_⟩
  ·exact Ne.symm (Nat.ne_of_lt I1.big)
  ·exact q _ _ (sm.trans sp) (.dK aF trivial rk2 nd) fun _=>.dK aF (sm.free hfr) rk2 nd
end
end Mi
namespace Mi
open PySem
theorem WF (o:Obj) (f:Array Value->Array Value):(o.mapFields f).dict=o.dict:=by
 obtain ⟨c,d,dt,sl⟩:=o;cases dt <;> rfl
theorem K_ (T:Addr):(Value.ref T != Value.none)=true:=by simp
theorem aAi (L:Addr):¬((Value.none==rawInt L)=true):=by simp [rawInt]
def TrD (h B:Heap) (e:Addr) (c:Value) (dd:Option Addr) (fl:Value):Prop:=
 ∃o vs T oT ts,(h.get? e=some o/\o.cls=c/\o.dict=dd/\o.data=.fields vs)/\(vs[1]?=some (.ref T)/\B.get? T=none/\T≠e)/\h.get? T=some oT/\oT.data=.fields ts/\ts[3]?=some fl
def FD (B:Heap) (l:List Env) (e:Addr) (c:Value) (dd:Option Addr) (fl:Value) (h:Heap):Prop:=B.StaysIn h/\B.get? e=none/\h.FunFrames B l/\TrD h B e c dd fl
theorem FD.there {B h:Heap} {l:List Env} {e:Addr} {c fl:Value} {dd:Option Addr} (x:FD B l e c dd fl h):∃o,h.get? e=some o/\o.cls=c/\o.dict=dd/\∃vs,o.data=.fields vs:=by
 obtain ⟨_,_,_,o,vs,_,_,_,⟨a,b,d,f⟩,_⟩:=x;exact ⟨o,a,b,d,vs,f⟩
section
variable {M:Model} {A:Around} {E:Value->Shared->Prop} {s:Shared} {B:Heap} {env:Env} {outer l:List Env} {L e:Addr} {oe:Obj} {vs:Array Value} {head c:Value} {dd:Option Addr} {Q:Unit->Shared->Prop}
theorem HX {h:Heap} {a:Addr} {o:Obj} {ws:Array Value} (i:Nat) (v:Value) (ho:h.get? a=some o) (hd:o.data=.fields ws) :
  ∃h2:Heap,h2=h.update a (Obj.mapFields (·.setIfInBounds i v))/\(∀b,b≠a->h2.get? b=h.get? b)/\∃o2,h2.get? a=some o2/\o2.cls=o.cls/\o2.dict=o.dict/\o2.data=.fields (ws.setIfInBounds i v):=
 ⟨_,rfl,fun b hb=>Heap.get?_update_other _ _ (Ne.symm hb),_,Heap.get?_update_self _ ho (Obj.isFreed_of_fields (Obj.data_mapFields hd _)),Obj.cls_mapFields _ _,WF _ _,Obj.data_mapFields hd _⟩
theorem LC {had:Bool} (hfr:A.frames=some (env::outer)) (hl:s.heap.FunFrames B (env::outer)) (hf:env.frame=some L) (he:s.heap.get? e=some oe) (hB:B.StaysIn s.heap) (hn:B.get? e=none) (hd:oe.data=.fields vs) (hz:1<vs.size)
  (q:∀h',FD B (env::outer) e oe.cls oe.dict (rawInt L) h'->s.heap.UpToSlots h'->Q () {s with heap:=h'}) :
  wpAny M A (do let a <- frameOf env;let pl <- entryPlaceOf L had;let b <- EntryCells.newEntry head a .none (rawInt L) .none pl;setField (.ref e) 1 b) Q E s:=by
 have nf:e∉(env::outer).filterMap (·.frame):=fun z=>by
  obtain ⟨_,o,ho,k⟩:=hl.mem z;cases he.symm.trans ho;exact k _ hd
 refine wpAny_bind (wpAny_frameOf_fun hfr hl hf fun h1 so=>wpAny_bind (wpAny_entryPlaceOf fun pl hp=>?_));unfold EntryCells.newEntry;unfold newFields;refine wpAny_bind (wpAny_newObj_type ?_ (hp.sizeOk5 _ _ _ _ _));generalize hon:({cls:=.type "traceback",dict:=none,data:=.fields ([head,.ref L,.none,rawInt L,.none]++(if pl.isEmpty then List.replicate 6 Value.none else pl)).toArray}:Obj)=on;have e1:h1.get? e=some oe:=(so.2.1 e nf).trans he;have B1:B.StaysIn h1:=fun b o k=>(so.2.1 b fun z=>by rw [(hl.mem z).1] at k;cases k).trans (hB b o k)
 have e2:=Heap.get?_push_of_some (h:=h1) on e1;obtain ⟨h3,r3,k3,o3,g3,c3,d3,f3⟩:=HX 1 (.ref h1.objs.size) e2 hd;have ne:h1.objs.size≠e:=Nat.ne_of_gt (Heap.lt_size e1);have t3:h3.get? h1.objs.size=some on:=(k3 _ ne).trans (Heap.get?_push_size h1 (by rw [<-hon];rfl));have keep:∀b o,b≠e->h1.get? b=some o->h3.get? b=some o:=fun b o hb k=>(k3 b hb).trans (Heap.get?_push_of_some _ k)
 have nr:∀b o,s.heap.get? b=some o->(∀vs,o.data≠.fields vs)->b≠e:=fun b o k z w=>by
  rw [w] at k;cases he.symm.trans k;exact z _ hd
 have up:s.heap.UpToSlots h3:=fun b o k z=>by
  obtain ⟨sl,w⟩:=so.2.2 b o k;exact ⟨sl,keep b _ (nr b o k z) w⟩
 refine wpAny_setField e2 hd hz ?_;rw [<-r3];refine q h3 ⟨fun b o k=>keep b o (fun z=>by rw [z,hn] at k;cases k) (B1 b o k),hn,hl.of_keeps fun b o k z=>let ⟨sl,w⟩:=up b o k z;⟨_,w,rfl⟩,?_⟩ up;have don:on.data=.fields ([head,.ref L,.none,rawInt L,.none]++(if pl.isEmpty then List.replicate 6 Value.none else pl)).toArray:=by rw [<-hon]
 exact ⟨o3,_,h1.objs.size,on,_,⟨g3,c3,d3,f3⟩,⟨by simp [hz],B1.fresh,ne⟩,t3,don,by simp⟩
theorem nC {fl:Value} (x:FD B l e c dd fl s.heap) (q:∀h',FD B l e c dd .none h'->s.heap.UpToSlots h'->Q () {s with heap:=h'}):wpAny M A (setFlight (.ref e) none) Q E s:=by
 obtain ⟨k1,k2,k3,o,vs,T,oT,ts,⟨g1,g2,g3,g4⟩,⟨t1,t2,t3⟩,u1,u2,u3⟩:=x;obtain ⟨h2,r2,j2,o2,p1,p2,p3,p4⟩:=HX 3 Value.none u1 u2;have hz:3<ts.size:=(Array.getElem?_eq_some_iff.mp u3).1;have up:∀b o,s.heap.get? b=some o->(∀vs,o.data≠.fields vs)->h2.get? b=some o:=fun b o k z=>(j2 b fun w=>by
  rw [w] at k;cases u1.symm.trans k;exact z _ u2).trans k
 unfold setFlight;refine wpAny_bind (wpAny_field g1 g4 t1 ?_);rw [if_pos (K_ T)];refine wpAny_setField u1 u2 hz ?_;show Q () {s with heap:=s.heap.update T (Obj.mapFields (·.setIfInBounds 3 Value.none))};rw [<-r2];exact q h2 ⟨fun b o k=>(j2 b fun w=>by rw [w,t2] at k;cases k).trans (k1 b o k),k2,k3.of_keeps fun b o k z=>⟨o,up b o k z,rfl⟩,o,vs,T,o2,_,⟨(j2 e (Ne.symm t3)).trans g1,g2,g3,g4⟩,⟨t1,t2,t3⟩,p1,p4,by simp [hz]⟩ fun b o k z=>⟨o.slots,up b o k z⟩
theorem WK (hfr:A.frames=some (env::outer)) (hf:env.frame=some L) (x:FD B (env::outer) e c dd .none s.heap) (q:∀h',FD B (env::outer) e c dd (rawInt L) h'->s.heap.UpToSlots h'->Q () {s with heap:=h'}):wpAny M A (noteFrame (.ref e) env) Q E s:=by
 obtain ⟨k1,k2,k3,o,vs,T,oT,ts,⟨g1,g2,g3,g4⟩,⟨t1,t2,t3⟩,u1,u2,u3⟩:=x;obtain ⟨h2,r2,j2,o2,p1,p2,p3,p4⟩:=HX 3 Value.none u1 u2;have up:∀b o,s.heap.get? b=some o->(∀vs,o.data≠.fields vs)->h2.get? b=some o:=fun b o k z=>(j2 b fun w=>by
  rw [w] at k;cases u1.symm.trans k;exact z _ u2).trans k
 unfold noteFrame;simp only [hf];refine wpAny_bind (wpAny_field g1 g4 t1 ?_);rw [if_pos (K_ T)];refine wpAny_bind (wpAny_field u1 u2 u3 ?_);rw [if_neg (aAi L)];refine wpAny_bind (wpAny_setField u1 u2 (Array.getElem?_eq_some_iff.mp u3).1 ?_);rw [<-r2];have g1':h2.get? e=some o:=(j2 e (Ne.symm t3)).trans g1;subst g2 g3;refine LC (s:={s with heap:=h2}) hfr (k3.of_keeps fun b o k z=>⟨o,up b o k z,rfl⟩) hf g1' (fun b o k=>(j2 b fun w=>by rw [w,t2] at k;cases k).trans (k1 b o k)) k2 g4 (Array.getElem?_eq_some_iff.mp t1).1 fun h' y z=>q h' y fun b o k w=>z b o (up b o k w) w
theorem aAj (hfr:A.frames=some (env::outer)) (hf:env.frame=some L) (x:FD B (env::outer) e c dd .none s.heap) (q:∀h',FD B outer e c dd .none h'->s.heap.UpToSlots h'->Q () {s with heap:=h'}):wpAny M A (leaving env (.ref e)) Q E s:=by
 unfold leaving;refine wpAny_bind (WK hfr hf x fun h1 x1 u1=>nC (s:={s with heap:=h1}) x1 fun h2 x2 u2=>q h2 ⟨x2.1,x2.2.1,x2.2.2.1.2.2,x2.2.2.2⟩ (u1.trans u2))
theorem aAk (hfr:A.frames=some (env::outer)) (hf:env.frame=some L) (hl:s.heap.FunFrames B (env::outer)) (he:s.heap.get? e=some oe) (hB:B.StaysIn s.heap) (hn:B.get? e=none) (hd:oe.data=.fields vs) (hv:vs[1]?=some .none)
  (q:∀h',FD B outer e oe.cls oe.dict .none h'->s.heap.UpToSlots h'->Q () {s with heap:=h'}):wpAny M A (leaving env (.ref e)) Q E s:=by
 unfold leaving noteFrame;simp only [hf];refine wpAny_bind (wpAny_bind (wpAny_field he hd hv ?_));rw [if_neg (by decide)];exact LC hfr hl hf he hB hn hd (Array.getElem?_eq_some_iff.mp hv).1 fun h1 x1 u1=>nC (s:={s with heap:=h1}) x1 fun h2 x2 u2=>q h2 ⟨x2.1,x2.2.1,x2.2.2.1.2.2,x2.2.2.2⟩ (u1.trans u2)
end
end Mi
namespace Mi
open PySem L2 PySem.W PySem.SeqAt PySem.Spec PyProof.Rows Builtin Builtin.ObjectAttr
theorem XO.stay {a C:Addr} {dx:Option Addr} {h1 h2:Heap} (x:XO a C dx h1) (k:∀o,h1.get? a=some o->h2.get? a=some o):XO a C dx h2:=let ⟨o,e,r⟩:=x;⟨o,k _ e,r⟩
section
variable {P:Program} {w:World} {H:Hp} {h:Heap} {a C dx:Addr}
theorem aKt {dx:Option Addr} (x:XO a C dx h):eQ P w H h a (.ext (XO a C dx)):=⟨x,let ⟨o,e,_⟩:=x;⟨o,e⟩,fun _ _ y k=>y.stay k⟩
end
def CX2 (P:Program) (w:World):CXT:=fun outer H s E e s'=>∃(a C:Addr) (dd:Option Addr) (H1:Hp) (B:Heap),e=.ref a/\s'.os=s.os/\AllBare s'.gens/\FD B outer a (.ref C) dd .none s'.heap/\
 (∀h6:Heap,B.StaysIn h6->s'.heap.UpToSlots h6->Un (L2.frs outer) [] H H1 s.heap h6/\HOk P w H1 h6)/\H1 a=none/\s.heap.get? a=none/\E (.ref C) dd H1
section
variable {P:Program} {w:World} {K:PySem.W.Frag} {mg:Str->Option Value} {base:Heap} {N:List Str} {qual:Str} {scope:Scope} {f C:Addr} {cd:Value} {A:Around} {outer:List Env} {s:Shared} {H:Hp} {E:XK}
theorem nU:sU (CX2 P w) (JV (CX2 P w) P w K mg base N qual scope f cd A outer s H E) E:=by
 intro pins σ Hm sm e s' I hx;obtain ⟨a,C,dd,H1,B,rfl,os',bare',fly,clo,hn,hgone,hE⟩:=hx
 let env:=envOfC qual scope s.heap.objs.size f cd
 have hfr:L2.frs (env::outer)=s.heap.objs.size::L2.frs outer:=by
  unfold L2.frs;rw [List.filterMap_cons];rfl
 have u0:Un (L2.frs outer) [] H Hm s.heap sm.heap:=I.base;show wpAny (model P w) (A.deeper env) (leaving env (.ref a)) (fun _ s''=>CX2 P w outer H s E (.ref a) s'') (fun e' s''=>CX2 P w outer H s E e' s'') s';refine aAj (L:=s.heap.objs.size) I.ok.frames rfl fly fun h' x1 x4=>?_
 have hgone0:s.heap.get? a=none:=by
  cases q:s.heap.get? a with
  | none=>rfl
  | some o=>
   obtain ⟨o',e1⟩:=u0.there a o q (by simp);rw [hgone] at e1;cases e1
 refine ⟨a,C,dd,H1,B,rfl,os'.trans I.os,bare',x1,fun h6 st up=>?_,hn,hgone0,hE⟩;obtain ⟨u2,hok⟩:=clo h6 st (x4.trans up);have nL:∀b o,s.heap.get? b=some o->b∉L2.frs outer->b∉L2.frs (env::outer):=fun b o eb hb z=>by
  rw [hfr] at z;rcases List.mem_cons.mp z with z|z
  ·exact absurd (Heap.lt_size eb) (by rw [z];exact Nat.lt_irrefl _)
  ·exact hb z
 refine ⟨⟨fun b o eb hn hb hx'=>u2.keep b o (u0.keep b o eb hn hb hx') (u0.free b o eb hn hx') (nL b o eb hb) (by simp),fun b o eb hn hb hx'=>?_,fun b o eb hn hx'=>?_,fun b o eb hx'=>?_,fun b xs q=>u2.tups b xs (u0.tups b xs q),fun b o u q=>u2.frzs b o u (u0.frzs b o u q),fun b ps q=>?_⟩,hok⟩
 ·obtain ⟨sl,e1⟩:=u0.slot b o eb hn hb hx';obtain ⟨sl',e2⟩:=u2.slot b _ e1 (u0.free b o eb hn hx') (show b∈L2.frs (env::outer) by rw [hfr];exact List.mem_cons_of_mem _ hb) (by simp);exact ⟨sl',e2⟩
 ·obtain ⟨o',e1⟩:=u0.there b o eb hx';exact u2.free b o' e1 (u0.free b o eb hn hx') (by simp)
 ·obtain ⟨o',e1⟩:=u0.there b o eb hx';exact u2.there b o' e1 (by simp)
 ·obtain ⟨m1,q1⟩:=u0.tbls b ps q;obtain ⟨m2,q2⟩:=u2.tbls b _ q1;exact ⟨m1++m2,by rw [<-Array.append_assoc];exact q2⟩
end
end Mi
namespace Mi
open PySem L2 PySem.W PySem.SeqAt PySem.Spec PyProof.Rows
noncomputable def noE {α:Type} (f:List D->Res α):List D->Res α:=fun ρ=>match f ρ with|.ok a=>.ok a|_=>.bad
theorem WL {α:Type} {f:List D->Res α} {ρ:List D} {a:α} (h:f ρ=.ok a):noE f ρ=.ok a:=by unfold noE;rw [h]
theorem aC8 {α:Type} {f:List D->Res α} {ρ:List D}:(∃a,f ρ=.ok a/\noE f ρ=.ok a)\/noE f ρ=.bad:=by
 unfold noE;cases f ρ with
 | ok a=>exact .inl ⟨a,rfl,rfl⟩
 | err c as=>exact .inr rfl
 | bad=>exact .inr rfl
variable [KFrag]
def aKu (E:XK) (H:Hp) (c:Str) (as:List D):Prop:=∃fs C,as=[.exc c fs]/\nsIn KFrag.K mainGlobals c=some (some (.ref C))/\∀H' dx,bO H H'->XDs H' fs dx->E (.ref C) dx H'
def kZE (E:XK) (H:Hp) (Q:VK):Res D->Prop
 | .ok d=>kR H d true Q
 | .err c as=>aKu E H c as
 | .bad=>False
noncomputable def spZ (f:List D->Res D) (n:Nat):Sp:=fun vs H Q E=>∃ds,ds.length=n/\bF All H vs ds/\kZE E H Q (f ds)
def aAl (P:Program) (w:World) (K:PySem.W.Frag) (mg:Str->Option Value) (base:Heap) (k:Nat) (x:Str) (n:Nat) (f:List D->Res D):Prop:=
 ∃(fad:Addr) (fd:FuncData) (ps:List Str),jU P w K mg base (CX2 P w) k fad fd ps (spZ f n)/\mg x=some (.ref fad)/\PySem.W.keepIn K (.ref fad)=true/\Binds K fd ps []
end Mi
namespace Mi
open PySem L2 PySem.W PySem.SeqAt PySem.Spec PyProof.Rows Builtin Builtin.ObjectAttr
noncomputable def aG1 (tbl:List (Str×Bool)) (i:Nat):FE:=fun ρ=>match ρ.getD i .uD with
 | .exc c _=>(match tbl.lookup c with|some b=>.ok (.bl b)|none=>.bad)
 | _=>.bad
variable [KFrag]
theorem XO.exc {a C:Addr} {dx:Option Addr} {h:Heap} (x:XO a C dx h):ExcAt a C h:=let ⟨o,e,c,_⟩:=x;⟨o,e,c⟩
end Mi
namespace Mi
open PySem L2 PySem.W PySem.SeqAt PySem.Spec PyProof.Rows
variable [KFrag]
theorem LK {own:Nat->Bool} {σ:L2.St} {i:Nat} (ho:own i=false) (a:Addr):Own own (σ.set i none) a↔Own own σ a:=by
 constructor
 ·rintro ⟨j,hj,e⟩;have:i≠j:=fun z=>by subst z;rw [ho] at hj;cases hj
  rw [List.getElem?_set_ne this] at e;exact ⟨j,hj,e⟩
 ·rintro ⟨j,hj,e⟩;have:i≠j:=fun z=>by subst z;rw [ho] at hj;cases hj
  exact ⟨j,hj,by rw [List.getElem?_set_ne this];exact e⟩
theorem ES.drop {own:Nat->Bool} {H:Hp} {σ:L2.St} {ρ:List D} {i:Nat} (ho:own i=false) (es:ES own H σ ρ):ES own H (σ.set i none) (ρ.set i .uD):=by
 refine ⟨by simp [es.len],fun j hj=>?_,fun j v hj hv=>?_⟩
 ·rw [cY] at hj ⊢;by_cases h:i=j/\i<ρ.length
  ·rw [if_pos h] at hj;exact absurd rfl hj
  ·rw [if_neg h] at hj ⊢;obtain ⟨v,h1,h2⟩:=es.at_ j hj;have ne:i≠j:=fun z=>by
    subst z;have:i<σ.length:=(List.getElem?_eq_some_iff.mp h1).1;exact h ⟨rfl,by rw [<-es.len];exact this⟩
   exact ⟨v,by rw [List.getElem?_set_ne ne];exact h1,fun o=>(h2 o).mono fun a n z=>n ((LK ho a).mp z)⟩
 ·have ne:i≠j:=fun z=>by subst z;rw [ho] at hj;cases hj
  rw [List.getElem?_set_ne ne] at hv;obtain ⟨a,o,h1,h2,h3,h4,h5,h6⟩:=es.own j v hj hv;have e:(ρ.set i .uD).getD j .uD=ρ.getD j .uD:=by rw [cY,if_neg (fun z=>ne z.1)]
  refine ⟨a,o,h1,by rw [e];exact h2,by rw [e];exact h3,h4,h5,fun l hl hs=>h6 l hl ?_⟩;have:i≠l:=fun z=>by subst z;rw [ho] at hl;cases hl
  rwa [List.getElem?_set_ne this] at hs
section
variable {X:Cx} {i:Nat} {y:Str} {p np tpos pos:Pos} {es:List Expr} {kk:Nat} {ce:Expr} {cs:List Addr} {tbl:List (Str×Bool)} {v:V} {u:Value}
theorem WM {ρ:List D} {σ:L2.St} {H:Hp} {c:Str} {fs:List (Str×Str)} (er:ER H σ ρ) (h:ρ.getD i .uD=.exc c fs):∃a C dx,σ[i]?=some (some (.ref a))/\nsIn KFrag.K mainGlobals c=some (some (.ref C))/\H a=some (.ext (XO a C dx)):=by
 obtain ⟨v,h1,r1⟩:=er i (by rw [h];intro z;cases z);rw [h] at r1;cases r1 with
 | @exc a C dx _ _ n e q=>exact ⟨a,C,dx,h1,n,e⟩
theorem aEj (hK:KFrag.K=X.K) (ht:∀c b,tbl.lookup c=some b->∃C,nsIn X.K mainGlobals c=some (some (.ref C))/\XC X.K C/\kitAny X.K (.ref C) (cs.map Value.ref)=some b) (hz:cs.length<=sizeLine) (hg:Gl X "isinstance") (hm:X.mg "isinstance" = none) (hN:X.N[i]?=some y) (hv:Vis X.env.scope y) (ha:PA X es fun _ H Q=>Q (cs.map V.ref) H)
  (hd:(y==("__debug__" : Str))=false:=by decide) (hcd:(y==("__classdict__" : Str))=false:=by decide) :
  PE X (.Call (.Name "isinstance" p) [.Name y np,.Tuple es kk tpos] [] pos) (gE (aG1 tbl i) true):=by
 have hc:lM X (.builtin "isinstance") (fun vs H Q=>∃a tp C dx b,vs=[.ref a,.ref tp]/\H a=some (.ext (XO a C dx))/\H tp=some (.tup (cs.map V.ref))/\XC X.K C/\kitAny X.K (.ref C) (cs.map Value.ref)=some b/\Q (.bl b) H):=by
  intro pins s σ H vs us Q I r ⟨a,tp,C,dx,b,e,ea,et,c,hk,q⟩;subst e;cases r with
  | cons r1 r=>
   cases r with
   | cons r2 r=>
    cases r;cases r1;cases r2;obtain ⟨_,its,ri,o,ho,hoc,n,hod⟩:=I.hok tp _ et;have e2:=BP ri;subst e2;obtain ⟨c1,d1,dt,sl⟩:=o;replace hod:=congrArg Prod.fst hod;dsimp only at hoc hod;subst hoc hod;obtain ⟨px,_⟩:=I.hok a _ ea;exact kia_tup (KY c) I.kIn px.exc ho hk (by intro z;cases z) fun tk=>⟨.bl b,H,I.tok tk,rfl,q⟩
 refine PE.imp (oZ hc hg hm (by decide +kernel) (bD (aW hN hv hd hcd) (bD (R6 ha) dM))) fun σ H Q ⟨ρ,d,er,h,q⟩=>?_
 unfold aG1 at h;split at h
 ·rename_i c fs hρ;split at h
  ·rename_i b hb;cases h;obtain ⟨a,C,dx,h1,n,e⟩:=WM er hρ;obtain ⟨C',n',xc,hk⟩:=ht c b hb;rw [hK,n'] at n;cases n;refine ⟨.ref a,h1,⟨by simpa using hz,fun tp htp=>⟨a,tp,C,dx,b,rfl,?_,aF,xc,hk,q _ _ (KZ htp) (.bl b) fun _=>.bl b⟩⟩⟩;rw [aN (a_ e htp)];exact e
  ·cases h
 ·cases h
theorem aEk (hK:KFrag.K=X.K) (ht:∀c b,tbl.lookup c=some b->∃C,nsIn X.K mainGlobals c=some (some (.ref C))/\XC X.K C/\kitOne X.K (.ref C) u=some b) (hu:∀u',RelV v u'->u'=u) (hg:Gl X "isinstance") (hm:X.mg "isinstance" = none) (hN:X.N[i]?=some y) (hv:Vis X.env.scope y) (ha:PE X ce (tC v))
  (hst:starEach [ce] X.env=(false,eval ce X.env)::starEach [] X.env) (hpl:(backTo pos (starEach [ce] X.env)).any (·.1)=false)
  (hd:(y==("__debug__" : Str))=false:=by decide) (hcd:(y==("__classdict__" : Str))=false:=by decide) :
  PE X (.Call (.Name "isinstance" p) [.Name y np,ce] [] pos) (gE (aG1 tbl i) true):=by
 have hc:lM X (.builtin "isinstance") (fun vs H Q=>∃a C dx b,vs=[.ref a,v]/\H a=some (.ext (XO a C dx))/\XC X.K C/\kitOne X.K (.ref C) u=some b/\Q (.bl b) H):=by
  intro pins s σ H vs us Q I r ⟨a,C,dx,b,e,ea,c,hk,q⟩;subst e;cases r with
  | cons r1 r=>
   cases r with
   | cons r2 r=>
    cases r;cases r1;have e2:=hu _ r2;subst e2;obtain ⟨px,_⟩:=I.hok a _ ea;exact kia_one (KY c) I.kIn px.exc hk (by intro z;cases z) fun tk=>⟨.bl b,H,I.tok tk,rfl,q⟩
 refine PE.imp (oZ hc hg hm (by decide +kernel) (bD (aW hN hv hd hcd) (bD ha dM hst)) (hpl:=hpl)) fun σ H Q ⟨ρ,d,er,h,q⟩=>?_
 unfold aG1 at h;split at h
 ·rename_i c fs hρ;split at h
  ·rename_i b hb;cases h;obtain ⟨a,C,dx,h1,n,e⟩:=WM er hρ;obtain ⟨C',n',xc,hk⟩:=ht c b hb;rw [hK,n'] at n;cases n;exact ⟨.ref a,h1,a,C,dx,b,rfl,e,xc,hk,q _ _ (fun _ _ z=>z) (.bl b) fun _=>.bl b⟩
  ·cases h
 ·cases h
end
end Mi
namespace Mi
open PySem L2 PySem.W PySem.SeqAt PySem.Spec PyProof.Rows
def aJm (p:Str->Bool->Prop):List (Str×Bool)->Prop
 | []=>True
 | (c,b)::r=>p c b/\aJm p r
theorem HY {p:Str->Bool->Prop}:∀{t:List (Str×Bool)},aJm p t->∀c b,t.lookup c=some b->p c b
 | [],_,_,_,h=>by cases h
 | (d,e)::r,⟨h1,h2⟩,c,b,h=>by
  rw [List.lookup_cons] at h;split at h
  ·rename_i z;rw [beq_iff_eq.mp z];cases h;exact h1
  ·exact HY h2 c b h
def aKv (p:Str->Prop):List Str->Prop
 | []=>True
 | c::r=>p c/\aKv p r
theorem WN {p:Str->Prop}:∀{t:List Str},aKv p t->∀c,t.contains c=true->p c
 | [],_,_,h=>by cases h
 | d::r,⟨h1,h2⟩,c,h=>by
  rw [List.contains_cons] at h;rcases (Bool.or_eq_true _ _).mp h with z|z
  ·rw [beq_iff_eq.mp z];exact h1
  ·exact WN h2 c z
variable [KFrag]
end Mi
namespace Mi
open PySem L2 PySem.W PySem.SeqAt PySem.Spec PyProof.Rows
section
variable {P:Program} {w:World} {K:PySem.W.Frag} {mg:Str->Option Value} {base:Heap} {N:List Str} {qual:Str} {scope:Scope} {f C:Addr} {cd:Value} {A:Around} {outer:List Env} {s:Shared} {H:Hp} {E:XK}
theorem WP {pins:List (Addr×Obj)} {σ:L2.St} {H1:Hp} {s1:Shared} (I:Inv (JV (CX2 P w) P w K mg base N qual scope f cd A outer s H E) pins σ H1 s1) {h2:Heap} {e:Addr} {args:List Value} (hx:Heap.MadeExcOf s1.heap h2 e (.ref C) args) (hE:E (.ref C) none H1) :
  (JV (CX2 P w) P w K mg base N qual scope f cd A outer s H E).xe (.ref e) {s1 with heap:=h2}:=by
 let env:=envOfC qual scope s.heap.objs.size f cd
 have hfr:L2.frs (env::outer)=s.heap.objs.size::L2.frs outer:=by
  unfold L2.frs;rw [List.filterMap_cons];rfl
 have hin:∀v∈(env::outer),∀b,v.frame=some b->b∈L2.frs (env::outer):=fun v hv b hb=>List.mem_filterMap.mpr ⟨v,hv,hb⟩
 have stk:s1.heap.FunFrames base (env::outer):=I.stack;have sfree:∀b∈L2.frs (env::outer),H1 b=none:=I.GC;have u0:Un (L2.frs outer) [] H H1 s.heap s1.heap:=I.base;obtain ⟨t,ht,_,_⟩:=hx.there;have hn0:(PySem.W.hideAll s1.heap (L2.frs (env::outer))).get? e=none:=by
  cases q:(PySem.W.hideAll s1.heap (L2.frs (env::outer))).get? e with
  | none=>rfl
  | some o=>
   have e1:=PySem.W.of_hideAll _ q;rw [hx.new] at e1;cases e1
 show wpAny (model P w) (A.deeper env) (leaving env (.ref e)) (fun _ s''=>CX2 P w outer H s E (.ref e) s'') (fun e' s''=>CX2 P w outer H s E e' s'') {s1 with heap:=h2};refine aAk (s:={s1 with heap:=h2}) (B:=PySem.W.hideAll s1.heap (L2.frs (env::outer))) (L:=s.heap.objs.size) I.ok.frames rfl ((PySem.W.funFrames_hide stk hin).of_keeps fun b o k _=>⟨o,hx.keeps b o k,rfl⟩) ht (fun b o q=>hx.keeps b o (PySem.W.of_hideAll _ q)) hn0 rfl rfl fun h' x1 x4=>?_
 have hgone:s.heap.get? e=none:=by
  cases q:s.heap.get? e with
  | none=>rfl
  | some o=>
   obtain ⟨o',e1⟩:=u0.there e o q (by simp);rw [hx.new] at e1;cases e1
 have huntr:H1 e=none:=by
  cases q:H1 e with
  | none=>rfl
  | some u=>
   obtain ⟨o,e1⟩:=HN (I.hok e u q);rw [hx.new] at e1;cases e1
 refine ⟨e,C,none,H1,_,rfl,I.os,I.bare,x1,fun h6 st up=>?_,huntr,hgone,hE⟩;have k:∀b o,s1.heap.get? b=some o->b∉L2.frs (env::outer)->h6.get? b=some o:=fun b o eb hb=>st b o (PySem.W.hideAll_get _ eb hb)
 have up6:s1.heap.UpToSlots h6:=((Heap.UpToSlots.of_keeps hx.keeps).trans x4).trans up;have nL:∀b o,s.heap.get? b=some o->b∉L2.frs outer->b∉L2.frs (env::outer):=fun b o eb hb z=>by
  rw [hfr] at z;rcases List.mem_cons.mp z with z|z
  ·exact absurd (Heap.lt_size eb) (by rw [z];exact Nat.lt_irrefl _)
  ·exact hb z
 have slot:∀b o,s1.heap.get? b=some o->b∈L2.frs outer->∃sl,h6.get? b=some {o with slots:=sl}:=fun b o eb hb=>by
  obtain ⟨_,o',ho',hd⟩:=stk.mem (show b∈L2.frs (env::outer) by rw [hfr];exact List.mem_cons_of_mem _ hb);rw [eb] at ho';cases ho';exact up6 b o eb hd
 refine ⟨⟨fun b o eb hn hb hx'=>k b o (u0.keep b o eb hn hb hx') (nL b o eb hb),fun b o eb hn hb hx'=>?_,fun b o eb hn hx'=>u0.free b o eb hn hx',fun b o eb hx'=>?_,u0.tups,u0.frzs,u0.tbls⟩,fun b u eb=>?_⟩
 ·obtain ⟨sl,e1⟩:=u0.slot b o eb hn hb hx';obtain ⟨sl',e2⟩:=slot b _ e1 hb;exact ⟨sl',e2⟩
 ·obtain ⟨o',e1⟩:=u0.there b o eb hx';by_cases hb:b∈L2.frs outer
  ·obtain ⟨sl,e2⟩:=slot b o' e1 hb;exact ⟨_,e2⟩
  ·exact ⟨o',k b o' e1 (nL b o eb hb)⟩
 ·refine (I.hok b u eb).stay (fun c v hc q=>k c v q fun z=>?_) (fun _ q=>q) fun _ _ q=>q
  have:=sfree c z;rcases hc with hc|hc
  ·rw [hc,eb] at this;cases this
  ·rw [hc] at this;cases this
end
variable [KFrag]
end Mi
namespace Wl
open PySem PySem.Spec
noncomputable abbrev Y5 (K:Type):=List K×Addr×Value
noncomputable def vG {K:Type} [DecidableEq K] (xs:List (Y5 K)) (ps:List (Y5 K)):List (Y5 K):=ps.foldl (fun acc p=>storedH acc p.1 p.2.1 p.2.2) xs
def PrH {prog:Program} {w:World} {K:Type} [DecidableEq K] (knd:KeyKind prog w K) (items:Array Value) (ps:List (Y5 K)) (h:Heap):Prop:=items.size=ps.length/\∀(i:Nat) (kv:Y5 K),ps[i]?=some kv->IsTupleKey knd h kv.1 kv.2.1/\∃(p:Addr) (o:Obj) (n:Nat),items[i]?=some (Value.ref p)/\h.get? p=some o/\o.cls=.type "tuple"/\o.data=.seq #[.ref kv.2.1,kv.2.2] n
theorem yE {prog:Program} {w:World} {K:Type} [DecidableEq K] {knd:KeyKind prog w K} {ks:List K} {a:Addr} {h h':Heap} (x:IsTupleKey knd h ks a) (k:∀c o,o.cls=.type "tuple"->h.get? c=some o->h'.get? c=some o):IsTupleKey knd h' ks a:=
 let ⟨o,its,n,h1,h2,h3⟩:=x;⟨o,its,n,k a o h2 h1,h2,h3⟩
theorem PrH.keep {prog:Program} {w:World} {K:Type} [DecidableEq K] {knd:KeyKind prog w K} {items:Array Value} {ps:List (Y5 K)} {h h':Heap} (x:PrH knd items ps h) (k:∀c o,o.cls=.type "tuple"->h.get? c=some o->h'.get? c=some o):PrH knd items ps h':=
 ⟨x.1,fun i kv e=>let ⟨z,p,o,n,h1,h2,h3,h4⟩:=x.2 i kv e;⟨yE z k,p,o,n,h1,k p o h3 h2,h3,h4⟩⟩
theorem o9 {prog:Program} {w:World} {K:Type} [DecidableEq K] {knd:KeyKind prog w K} {d:Addr} {xs:List (Y5 K)} {h h':Heap} (x:h.DictOfH (tupleKind knd) d xs) (hd:∀o,h.get? d=some o->h'.get? d=some o) (k:∀c o,o.cls=.type "tuple"->h.get? c=some o->h'.get? c=some o):h'.DictOfH (tupleKind knd) d xs:=
 let ⟨o,es,ep,h1,h2,h3,h4,h5,h6⟩:=x;⟨o,es,ep,hd o h1,h2,h3,h4,fun y hy=>yE (h5 y hy) k,h6⟩
section
variable {prog:Program} {w:World} {K:Type} [DecidableEq K] {knd:KeyKind prog w K} {A:Around} {R:Except Value Flow->Shared->Prop} {it l d:Addr} {items:Array Value} {ps:List (Y5 K)} {nl:Nat}
theorem aKw (hh:A.handled=none) (hu:A.units+1<cLine) (hdi:d≠it) (hdl:d≠l) (hil:l≠it) :
  ∀(m k:Nat) (s:Shared) (kvs:List (Y5 K)),k+m=items.size->kvs.length+m<=sizeLine->s.heap.IsListIter it l k->s.heap.get? l=some (liO items nl)->PrH knd items ps s.heap->s.heap.DictOfH (tupleKind knd) d kvs->
  (∀h' tk,h'.DictOfH (tupleKind knd) d (vG kvs (ps.drop k))->(∀c o,c≠d->c≠it->s.heap.get? c=some o->h'.get? c=some o)->R (.ok (.ret .none)) {s with heap:=h',toks:=tk})->
  codeAny (model prog w) A (.builtin "dict.update.loop" ⟨[.ref d,.ref it,rawInt k,.none],[]⟩) R s:=by
 intro m;induction m with
 | zero=>
  intro k s kvs hkm hl Z el Pp hd q;refine codeAny_builtin Wz.i_ ?_;rw [Around.under_plainId (show plainId "dict.update.loop" = true by decide +kernel) _];refine wpAny_bind (m:=pyNext (.ref it)) (wpAny_pyNext_list_end hh Z ⟨_,el,rfl,_,rfl⟩ (Array.getElem?_eq_none (by lia)) fun h' kp=>?_);refine wpAny_bind (m:=Builtin.Dict.addKeywords d []) ?_;unfold Builtin.Dict.addKeywords;rw [List.forIn_nil];refine wpAny_bind (wpAny_pure (wpAny_pure (wpAny_pure ?_)));have e:ps.drop k=[]:=List.drop_eq_nil_of_le (by have:=Pp.1;lia);rw [e] at q;have ni:∀c (oc:Obj),oc.cls=.type "tuple"->s.heap.get? c=some oc->c≠it:=fun c oc hoc e=>let ⟨oi,ei,ci,_⟩:=Z;wN e hoc ei ci (by decide)
  exact q _ s.toks (o9 hd (fun o ho=>kp d o hdi ho) fun c o hc e=>kp c o (ni c o hc e) e) fun c o _ c1 e=>kp c o c1 e
 | succ m ih=>
  intro k s kvs hkm hl Z el Pp hd q;have hlp:k<ps.length:=by have:=Pp.1;lia
  obtain ⟨hik,p,o,n,hi,hp,hpc,hpd⟩:=Pp.2 k ps[k] (List.getElem?_eq_getElem hlp);have ni:∀c (oc:Obj),oc.cls=.type "tuple"->s.heap.get? c=some oc->c≠it:=fun c oc hoc e=>let ⟨oi,ei,ci,_⟩:=Z;wN e hoc ei ci (by decide)
  have hpi:p≠it:=ni p o hpc hp;refine codeAny_builtin Wz.i_ ?_;rw [Around.under_plainId (show plainId "dict.update.loop" = true by decide +kernel) _];refine wpAny_bind (m:=pyNext (.ref it)) (wpAny_pyNext_list_item Z ⟨_,el,rfl,_,rfl⟩ hi fun h' Z' kp=>?_);have hp':h'.get? p=some o:=(kp.2 p hpi).trans hp;refine wpAny_bind (wpAny_holding (wpAny_bind (wpAny_tryCatch ?_)));refine wpAny_bind (wpAny_typeOf (T := "tuple") ⟨_,hp',hpc⟩ ?_);rw [if_pos (by decide)];refine wpAny_bind (wpAny_seqItems hp' hpd (wpAny_pure ?_));show wpAny _ _ (holding [.ref ps[k].2.1,ps[k].2.2] (dictSet d (.ref ps[k].2.1) ps[k].2.2)) _ _ _;have kt:∀c (oc:Obj),oc.cls=.type "tuple"->s.heap.get? c=some oc->h'.get? c=some oc:=fun c oc hoc e=>(kp.2 c (ni c oc hoc e)).trans e
  have hd':h'.DictOfH (tupleKind knd) d kvs:=o9 hd (fun o ho=>(kp.2 d hdi).trans ho) kt;refine wpAny_holding (wpAny_dictSet_heap (hsz:=by lia) (knd:=tupleKind knd) (tupleKind_room_in1 hu) (yE hik kt) hd' fun h2 hd2' sb=>?_);refine wpAny_pure ⟨Code.quiet_builtin _ (by decide +kernel),?_⟩;have ek:(rawInt (k+1):Value)=rawInt ((k+1:Nat):Int):=rfl;rw [ek];have hdrop:ps.drop k=ps[k]::ps.drop (k+1):=List.drop_eq_getElem_cons hlp;have ls:(storedH kvs ps[k].1 ps[k].2.1 ps[k].2.2).length<=kvs.length+1:=by
   unfold storedH;split
   ·rw [List.length_map];lia
   ·rw [List.length_append];exact Nat.le_refl _
  have keep:∀c o,c≠d->c≠it->s.heap.get? c=some o->h2.get? c=some o:=fun c o c0 c1 e=>(sb.2 c c0).trans ((kp.2 c c1).trans e)
  have hdc:∀c (oc:Obj),oc.cls=.type "tuple"->s.heap.get? c=some oc->c≠d/\c≠it:=fun c oc hoc e=>⟨let ⟨o1,_,_,e1,c1,_⟩:=hd;wN e hoc e1 c1.1 (by decide),ni c oc hoc e⟩
  refine ih (k+1) _ (storedH kvs ps[k].1 ps[k].2.1 ps[k].2.2) (by lia) (by lia) (let ⟨oi,ei,r⟩:=Z';⟨oi,(sb.2 it (Ne.symm hdi)).trans ei,r⟩) (keep l _ (Ne.symm hdl) hil el) (Pp.keep fun c oc hoc e=>keep c oc (hdc c oc hoc e).1 (hdc c oc hoc e).2 e) hd2' fun h3 tk hd3 kp3=>?_
  exact q h3 tk (by rw [hdrop];exact hd3) fun c o c0 c1 e=>kp3 c o c0 c1 (keep c o c0 c1 e)
end
section
variable {prog:Program} {w:World} {K:Type} [DecidableEq K] {knd:KeyKind prog w K} {A:Around} {E:Value->Shared->Prop} {hp:Heap} {g:Array GenState} {dr:Drawn} {tk:Nat} {os:OsState} {l:Addr} {items:Array Value} {ps:List (Y5 K)} {nl:Nat}
theorem QX {Q:Value->Shared->Prop} (hh:A.handled=none) (hu:A.units+2<cLine) (el:hp.get? l=some (liO items nl)) (Pp:PrH knd items ps hp) (hz:items.size<=1000000)
  (q:∀h' tk',h'.DictOfH (tupleKind knd) hp.objs.size (vG [] ps)->(∀c o,hp.get? c=some o->h'.get? c=some o)->Q (.ref hp.objs.size) ⟨h',g,dr,tk',os⟩) :
  wpAny (model prog w) A (call (.type "dict") [.ref l]) Q E ⟨hp,g,dr,tk,os⟩:=by
 have hnew:(hp.push {cls:=.type "dict",data:=.dict #[]}).DictOfH (tupleKind knd) hp.objs.size []:=Heap.DictOfH.new hp;have up:∀c o,hp.get? c=some o->(hp.push {cls:=.type "dict",data:=.dict #[]}).get? c=some o:=fun c o e=>Heap.get?_push_of_some _ e
 have lt:∀{c o},hp.get? c=some o->hp.objs.size≠c:=fun e=>Nat.ne_of_gt (Heap.lt_size e)
 refine callType_codes (Q₁:=fun v s₁=>v=.ref hp.objs.size/\s₁=⟨hp.push {cls:=.type "dict",data:=.dict #[]},g,dr,tk,os⟩) F.kt_called_dict (F.kt_typeCall_dict_1 _) F.entry_dict_init (kt_code_dict_new _ ⟨rfl,rfl⟩) fun v s₁ hv=>?_
 obtain ⟨rfl,rfl⟩:=hv;have ty:(⟨hp.push {cls:=.type "dict",data:=.dict #[]},g,dr,tk,os⟩:Shared).TypeIs (.ref hp.objs.size) "dict":=hnew.typeIs;have ez:=up _ _ el;have tz:(⟨hp.push {cls:=.type "dict",data:=.dict #[]},g,dr,tk,os⟩:Shared).TypeIs (.ref l) "list":=⟨_,ez,rfl⟩
 refine ⟨ty,F.args_dict_init_2 _ _,wpAny_bind (m:=Builtin.Dict.selfAndRest "__init__" _) (wpAny_bind (wpAny_notOrdered_dict ty (wpAny_pure ?_)))⟩;refine wpAny_bind (m:=typeOf (.ref l)) (wpAny_typeOf tz ?_);rw [if_pos (by decide)];refine wpAny_bind (lacks ez hh fun h' tk' kp=>?_);rw [if_pos (show (none:Option Value).isNone=true from rfl)];refine wpAny_bind (wpAny_rule (wpAny_bind (wpAny_pyIter_list ⟨_,kp _ _ ez,rfl,_,rfl⟩ (wpAny_pure ⟨Code.quiet_builtin _ (by decide +kernel),?_⟩))));have hd':h'.DictOfH (tupleKind knd) hp.objs.size []:=o9 hnew (fun o ho=>kp _ _ ho) fun c o _ e=>kp c o e
 have ltd:hp.objs.size<h'.objs.size:=let ⟨o,es,ep,ho,r⟩:=hd';Heap.lt_size ho
 have ltl:l<h'.objs.size:=Heap.lt_size (kp _ _ ez);refine aKw (A:=A.in1) (ps:=ps) (it:=h'.objs.size) (l:=l) (items:=items) (nl:=nl) (show A.in1.handled=none from hh) (show A.units+1+1<cLine from hu) (Nat.ne_of_lt ltd) (lt el) (Nat.ne_of_lt ltl) items.size 0 _ [] (by lia) (by rw [List.length_nil,sizeLine_eq];lia) ⟨_,Heap.get?_push_size _ rfl,rfl,rfl⟩ (Heap.get?_push_of_some _ (kp _ _ ez)) (Pp.keep fun c o _ e=>Heap.get?_push_of_some _ (kp c o (up c o e))) (o9 hd' (fun o ho=>Heap.get?_push_of_some _ ho) fun c o _ e=>Heap.get?_push_of_some _ e) fun h2 tk2 hd2 kp2=>?_
 exact ⟨rfl,q h2 tk2 hd2 fun c o e=>kp2 c o (fun x=>lt e x.symm) (Nat.ne_of_lt (Heap.lt_size (kp c o (up c o e)))) (Heap.get?_push_of_some _ (kp c o (up c o e)))⟩
end
end Wl
namespace Mi
open PySem L2 PySem.SeqAt PySem.Spec PyProof.Rows
def vH:List D->Option (List (D×D))
 | []=>some []
 | .tup [.tup ks,v]::r=>if ks.all eY&&v.pure then (vH r).map ((.tup ks,v)::·) else none
 | _::_=>none
def yF:D->Res D
 | .lst xs=>match vH xs with
  | some ps=>if decide (xs.length<=1000) then .ok (.dct (jA [] ps)) else .bad
  | none=>.bad
 | _=>.bad
variable [KFrag]
theorem CG {X:Cx} {pins:List (Addr×Obj)} {σ:L2.St} {H:Hp} {s:Shared} (I:Inv X pins σ H s):∀{xs:List D} {vs:List V} {us:List Value} {ps:List (D×D)},bF All H vs xs->Vals vs us->vH xs=some ps->
  ∃(kvs:List (List Key×V)) (prs:List (List Key×Addr×Value)),KT H kvs prs/\jR All H kvs ps/\D.aG (ps.map (·.2))=true/\us.length=prs.length/\∀(i:Nat) (kv:List Key×Addr×Value),prs[i]?=some kv->IsTupleKey (bU X.prog X.w) s.heap kv.1 kv.2.1/\∃(p:Addr) (o:Obj) (n:Nat),us[i]?=some (Value.ref p)/\s.heap.get? p=some o/\o.cls=.type "tuple"/\o.data=.seq #[.ref kv.2.1,kv.2.2] n
 | [],_,_,_,.nil,.nil,h=>by
  cases h;exact ⟨[],[],.nil,.nil,rfl,rfl,fun i kv h=>by simp at h⟩
 | d::xs,_,_,ps,.cons r t,.cons rv tv,h=>by
  unfold vH at h;split at h
  ·rename_i h0;cases h0
  ·rename_i k v r' h0;injection h0 with h0 h1
   subst h0 h1;split at h
   ·rename_i hf;rw [Bool.and_eq_true] at hf;obtain ⟨ps',hp,rfl⟩:=Option.map_eq_some_iff.mp h;obtain ⟨kvs,prs,g1,g2,g3,g4,g5⟩:=CG I t tv hp;obtain ⟨a,ws,rfl,ea,rr⟩:=r.eO;cases rv;obtain ⟨its,rvs,o,ho,hc,n,hd⟩:=jO I ea;cases rr with
    | cons rk rr=>
     cases rr with
     | cons rw_ rr=>
      cases rr;cases rvs with
      | cons q1 rvs=>
       cases rvs with
       | cons q2 rvs=>
        cases rvs;rename_i wk ww uk uw;rcases gF (k:=.tup k) hf.1 rk with ⟨q,_,e⟩|⟨b,ks,rfl,eb,e⟩
        ·cases q <;> cases e
        ·injection e with e
         subst e;cases q1;refine ⟨(ks,ww)::kvs,(ks,b,uw)::prs,.cons ⟨rfl,eb,q2⟩ g1,.cons rw_ g2,by rw [List.map_cons,D.aG,hf.2,g3];rfl,by rw [List.length_cons,List.length_cons,g4],fun i kv hi=>?_⟩;cases i with
         | zero=>
          simp at hi;subst hi;exact ⟨zW I.hok eb,a,o,n,rfl,ho,hc,hd⟩
         | succ i=>
          obtain ⟨z0,p,o',n',z1,z2⟩:=g5 i kv (by simpa using hi);exact ⟨z0,p,o',n',by simpa using z1,z2⟩
   ·cases h
  ·cases h
def jP (kvs more:List (List Key×V)):List (List Key×V):=more.foldl (fun acc p=>putK acc p.1 p.2) kvs
theorem wQ {P:Addr->Prop} {H:Hp}:∀{more:List (List Key×V)} {ds:List (D×D)} {kvs:List (List Key×V)} {es:List (D×D)},jR P H more ds->jR P H kvs es->(kvs.map (·.1)).Nodup->jR P H (jP kvs more) (jA es ds)/\((jP kvs more).map (·.1)).Nodup
 | _,_,_,_,.nil,r,n=>⟨r,n⟩
 | _,_,_,_,.cons (k:=k) rv t,r,n=>by have:=wQ t (o5 (k:=k) rv r n) (gM n);exact this
theorem LQ {H:Hp}:∀{more:List (List Key×V)} {ms:List (List Key×Addr×Value)} {kvs:List (List Key×V)} {xs:List (List Key×Addr×Value)},KT H more ms->KT H kvs xs->KT H (jP kvs more) (Wl.vG xs ms)
 | _,_,_,_,.nil,r=>r
 | _,_,_,_,.cons (a:=p) (b:=q) h t,r=>by
  have h1:=h.1;have:=LQ t (r.put p.1 (b:=q.2.1) (y:=p.2) (u:=q.2.2) h.2.1 h.2.2);show KT H (jP (putK _ p.1 p.2) _) (Wl.vG (storedH _ q.1 q.2.1 q.2.2) _);rw [<-h1];exact this
theorem wR:∀(more kvs:List (List Key×V)),(jP kvs more).length<=kvs.length+more.length
 | [],kvs=>Nat.le_refl _
 | p::r,kvs=>by
  have h1:=wR r (putK kvs p.1 p.2);have h2:=jC kvs p.1 p.2;rw [List.length_cons];show (jP (putK kvs p.1 p.2) r).length<=_;lia
section
variable {X:Cx} {e:Expr} {fe:FE} {re:Bool} {p pos:Pos}
theorem QZ (hc:X.calm=true) (hu:X.A.units+20<cLine) (hg:Gl X "dict") (hm:X.mg "dict" = none) (he:PE X e (gE fe re)) (hs:starEach [e] X.env=[(false,eval e X.env)]:=by rfl) :
  PE X (.Call (.Name "dict" p) [e] [] pos) (gE (b1 yF fe) true):=by
 intro pins s σ H Q I ⟨ρ,d,E,h,q⟩;obtain ⟨d0,h1,h2⟩:=bI h;unfold yF at h2;split at h2
 rotate_left
 ·cases h2
 rename_i xs;split at h2
 rotate_left
 ·cases h2
 rename_i ps hps;split at h2
 rotate_left
 ·cases h2
 rename_i hb;cases h2;have hb:=of_decide_eq_true hb;refine wpAny_Call_Name_kw (lN I hg hm xZ ?_);refine PyProof.Rows.callWith_type1 ?_ hs rfl;rw [hs];show wpAny _ _ (spliced [(false,eval e X.env)]) _ _ s;refine Calls.spliced_cons (thn (he pins s σ H (fun v H1=>bO H H1/\Rep All H1 v (.lst xs)) I ⟨ρ,_,E,h1,fun v H1 s1 r1 _=>⟨s1,r1⟩⟩) fun u s1 ⟨x,H1,I1,ru,sm,rx⟩=>?_);obtain ⟨a,vs,rfl,ea,rr⟩:∃a vs,x=.ref a/\H1 a=some (.lst vs)/\bF All H1 vs xs:=by
  cases rx with
  | lst e p r=>exact ⟨_,_,rfl,e,r⟩
 cases ru;refine Calls.spliced_nil ?_;obtain ⟨hz,its,nl,rv,hl⟩:vs.length<=sizeLine/\∃(its:List Value) (n:Nat),Vals vs its/\s1.heap.get? a=some {cls:=.type "list",data:=.seq its.toArray n}:=I1.hok a _ ea;obtain ⟨kvs,prs,g1,g2,g3,g4,g5⟩:=CG I1 rr rv hps;have hlen:its.length<=1000:=by rw [<-rv.length,rr.length];exact hb
 obtain ⟨hp,g,dr,tk,os⟩:=s1;refine Wl.QX (knd:=bU X.prog X.w) (ps:=prs) (items:=its.toArray) (I1.ok.hd hc) (by lia) hl ⟨by rw [List.size_toArray];exact g4,fun i kv hi=>?_⟩ (by rw [List.size_toArray];lia) fun h' tk' hd kp=>?_
 ·obtain ⟨z0,p,o,n,z1,z2⟩:=g5 i kv hi;exact ⟨z0,p,o,n,by simpa using z1,z2⟩
 ·have hfr:H1 hp.objs.size=none:=I1.hok.fresh (Nat.le_refl _);have rel:KT H1 (jP [] kvs) (Wl.vG [] prs):=LQ g1 .nil;have hz2:(jP [] kvs).length<=sizeLine:=by
   have:=wR kvs [];have l1:kvs.length=prs.length:=Paired.length g1;rw [List.length_nil] at this;rw [sizeLine_eq];lia
  obtain ⟨rk,nd⟩:=wQ (kvs:=[]) g2 jR.nil List.nodup_nil;have sp:bO H1 (upd H1 hp.objs.size (.dT (jP [] kvs))):=bO.upd hfr;have rk2:∀{P:Addr->Prop},jR P (upd H1 hp.objs.size (.dT (jP [] kvs))) (jP [] kvs) (jA [] ps):=fun {P}=>(rk.keep (.same sp) fun _ h=>h).bL (kI g3 rfl)
  obtain ⟨o,es,ep,k1,k2,k3,k4,_,k6⟩:=hd;refine ⟨.ref hp.objs.size,_,I1.laid (a:=hp.objs.size) (t':=tk') (o:=.dT (jP [] kvs)) kp (Nat.le_refl _) ⟨hz2,beq_eq_false_iff_ne.mpr ?_,_,rel.keeps fun b ys e=>sp _ _ e,o,es,ep,k1,k2,k3,k4,k6⟩,rfl,?_⟩
  ·exact Ne.symm (Nat.ne_of_lt I1.big)
  ·exact q _ _ (sm.trans sp) (.dT aF trivial rk2 nd) fun _=>.dT aF (sm.free hfr) rk2 nd
end
end Mi
namespace Mi
open PySem L2 PySem.SeqAt PySem.Spec PyProof.Rows
inductive Srx where
 | par (i:Nat)
 | exp (f:FE)
def Srx.ev (ρ:List D):Srx->Res D
 | .par i=>bT i ρ
 | .exp f=>f ρ
def okF (d:D):Bool:=d.pure||inner d
def evS (ρ:List D):List (Str×Srx)->Res (List (Str×D))
 | []=>.ok []
 | (f,s)::r=>do
  let d <- s.ev ρ
  let ds <- evS ρ r
  if okF d then .ok ((f,d)::ds) else .bad
def aAm (c f:Str) (fa:FE):FE:=fun ρ=>do
 let d <- fa ρ
 match d with
 | .ins c' fs=>if decide (c'=c) then Res.ofOpt (fs.lookup f) else .bad
 | _=>.bad
noncomputable def aNe:HO->Bool
 | .tup _=>true
 | .frz _ _=>true
 | .ext _=>true
 | _=>false
variable [KFrag]
def vR (H H':Hp):Prop:=∀a o,H a=some o->aNe o=true->H' a=some o
mutual
theorem Rep.dY {P P':Addr->Prop} {H H':Hp} (k:vR H H'):∀{v:V} {d:D},Rep P H v d->d.pure=true->Rep P' H' v d
 | _,_,.non,_=>.non
 | _,_,.bl b,_=>.bl b
 | _,_,.int i,_=>.int i
 | _,_,.str x,_=>.str x
 | _,_,.tup e r,h=>.tup (k _ _ e rfl) (bF.dY k r (by rw [D.pure] at h;exact h))
 | _,_,.lst _ _ _,h=>by rw [D.pure] at h;cases h
 | _,_,.cel _ _ _,h=>by rw [D.pure] at h;cases h
 | _,_,.frz e r,h=>.frz (e.imp (fun ⟨o,e⟩=>⟨o,k _ _ e rfl⟩) id) (bF.dY k r (by rw [D.pure] at h;exact h))
 | _,_,.dK _ _ _ _,h=>by rw [D.pure] at h;cases h
 | _,_,.dT _ _ _ _,h=>by rw [D.pure] at h;cases h
 | _,_,.fdK _ _ _,h=>by rw [D.pure] at h;cases h
 | _,_,.fdT _ _ _,h=>by rw [D.pure] at h;cases h
 | _,_,.exc _ _ _,h=>by rw [D.pure] at h;cases h
 | _,_,.ins _ _ _,h=>by rw [D.pure] at h;cases h
theorem bF.dY {P P':Addr->Prop} {H H':Hp} (k:vR H H'):∀{v:List V} {d:List D},bF P H v d->D.aG d=true->bF P' H' v d
 | _,_,.nil,_=>.nil
 | _,_,.cons r t,h=>by
  rw [D.aG,Bool.and_eq_true] at h;exact .cons (Rep.dY k r h.1) (bF.dY k t h.2)
end
theorem d9.dY {P P':Addr->Prop} {H H':Hp} (k:vR H H'):∀{v:List (Key×V)} {d:List (D×D)},d9 P H v d->D.aG (d.map (·.2))=true->d9 P' H' v d
 | _,_,.nil,_=>.nil
 | _,_,.cons r t,h=>by
  rw [List.map_cons,D.aG,Bool.and_eq_true] at h;exact .cons (r.dY k h.1) (d9.dY k t h.2)
theorem jR.dY {P P':Addr->Prop} {H H':Hp} (k:vR H H'):∀{v:List (List Key×V)} {d:List (D×D)},jR P H v d->D.aG (d.map (·.2))=true->jR P' H' v d
 | _,_,.nil,_=>.nil
 | _,_,.cons r t,h=>by
  rw [List.map_cons,D.aG,Bool.and_eq_true] at h;exact .cons (r.dY k h.1) (jR.dY k t h.2)
def jT (x:Addr) (H H':Hp):Prop:=∀a o,H a=some o->a≠x->H' a=some o
theorem jT.upd {x:Addr} {H:Hp} {o:HO}:jT x H (upd H x o):=fun a o' e n=>by rw [aN n];exact e
theorem jT.same {x:Addr} {H H':Hp} (s:bO H H'):jT x H H':=fun a o e _=>s a o e
theorem jT.use {x C dx:Addr} {H H':Hp} {fs:List (Str×V)} (b:jT x H H') (hx:H x=some (.ins C dx fs)):vR H H':=fun a o e u=>b a o e fun z=>by
 subst z;rw [hx] at e;cases e;cases u
theorem Rep.okK {P P':Addr->Prop} {x C dx:Addr} {H H':Hp} {fs:List (Str×V)} (b:jT x H H') (hx:H x=some (.ins C dx fs)) (m:∀a,P a->P' a) {v:V} {d:D} (r:Rep P H v d) (h:okF d=true):Rep P' H' v d:=by
 have k:=b.use hx;rcases (Bool.or_eq_true _ _).mp h with h|h
 ·exact r.dY k h
 ·cases r with
  | lst e p r=>exact .lst (b _ _ e (mR e hx (by intro z;cases z))) (m _ p) (r.dY k h)
  | cel e p r=>exact .cel (b _ _ e (mR e hx (by intro z;cases z))) (m _ p) (r.dY k h)
  | dK e p r n=>exact .dK (b _ _ e (mR e hx (by intro z;cases z))) (m _ p) (r.dY k h) n
  | dT e p r n=>exact .dT (b _ _ e (mR e hx (by intro z;cases z))) (m _ p) (r.dY k h) n
  | _=>cases h
theorem lZ.okK {P P':Addr->Prop} {x C dx:Addr} {H H':Hp} {fs:List (Str×V)} (b:jT x H H') (hx:H x=some (.ins C dx fs)) (m:∀a,P a->P' a):∀{v:List (Str×V)} {d:List (Str×D)},lZ P H v d->(d.all fun p=>okF p.2)=true->lZ P' H' v d
 | _,_,.nil,_=>.nil
 | _,_,.cons r t,h=>by
  rw [List.all_cons,Bool.and_eq_true] at h;exact .cons (r.okK b hx m h.1) (lZ.okK b hx m t h.2)
theorem lZ.snoc {P:Addr->Prop} {H:Hp} {f:Str} {w:V} {e:D} (r1:Rep P H w e):∀{v:List (Str×V)} {d:List (Str×D)},lZ P H v d->lZ P H (v++[(f,w)]) (d++[(f,e)])
 | _,_,.nil=>.cons r1 .nil
 | _,_,.cons r t=>.cons r (lZ.snoc r1 t)
theorem lZ.look {P:Addr->Prop} {H:Hp} {f:Str} {e:D}:∀{v:List (Str×V)} {d:List (Str×D)},lZ P H v d->d.lookup f=some e->∃w,v.lookup f=some w/\Rep P H w e
 | _,_,.nil,h=>by cases h
 | _,_,.cons (f:=g) r t,h=>by
  rw [List.lookup_cons] at h ⊢;split at h
  ·cases h;exact ⟨_,rfl,r⟩
  ·exact lZ.look t h
theorem LR {f:Str} {y:V}:∀{vf:List (Str×V)},f∉vf.map (·.1)->oA f y vf=vf++[(f,y)]
 | [],_=>rfl
 | (g,x)::r,h=>by
  rw [List.map_cons,List.mem_cons,not_or] at h;show (if g=f then (g,y)::r else (g,x)::oA f y r)=_;rw [if_neg (fun z=>h.1 z.symm),LR h.2];rfl
theorem aC9 {ρ:List D}:∀{l:List (Str×Srx)} {fs:List (Str×D)},evS ρ l=.ok fs->(fs.all fun p=>okF p.2)=true/\fs.map (·.1)=l.map (·.1)
 | [],_,h=>by cases h;exact ⟨rfl,rfl⟩
 | (f,s)::r,fs,h=>by
  obtain ⟨d,h1,h⟩:=bI h;obtain ⟨ds,h2,h⟩:=bI h;split at h
  ·rename_i hk;cases h;obtain ⟨i1,i2⟩:=aC9 h2;exact ⟨by rw [List.all_cons,i1,hk];rfl,by rw [List.map_cons,List.map_cons,i2]⟩
  ·cases h
def sT:Srx->TE
 | .par i=>eU i
 | .exp f=>gE f true
def aJn (K:PySem.W.Frag):List (Str×Srx)->TS
 | []=>aCu
 | (f,s)::r=>vP (aFy K (eU 0) (sT s) f) (aJn K r)
def RFx (H1:Hp) (us:List V) (ds:List D) (H:Hp) (vf:List (Str×V)) (fs:List (Str×D)):Prop:=∀P:Addr->Prop,(∀a,H1 a=none->P a)->bF P H1 us ds->lZ P H vf fs
theorem aCa {K:PySem.W.Frag} {C x dx:Addr} {σ:L2.St} {D':Ends} {H1:Hp} {us:List V} {ds ρ:List D} (cls:Cls K C) (hx0:σ[0]?=some (some (.ref x))) (hn:H1 x=none) (hr:bF All H1 us ds) (hρ:∀i d,bT i ρ=.ok d->∃v,σ[i]?=some (some v)/\∀P,bF P H1 us ds->Rep P H1 v d):∀(l:List (Str×Srx)) (H:Hp) (vf:List (Str×V)) (fs0 fs:List (Str×D)),H x=some (.ins C dx vf)->bO H1 H->RFx H1 us ds H vf fs0->(fs0.all fun p=>okF p.2)=true->evS ρ l=.ok fs->(vf.map (·.1)++l.map (·.1)).Nodup->(∀f∈l.map (·.1),bZ K C f)->vf.length+l.length<1000->
  (∀H' vf',bO H1 H'->H' x=some (.ins C dx vf')->RFx H1 us ds H' vf' (fs0++fs)->D'.nx σ H')->aJn K l D' σ H
 | [],H,vf,fs0,fs,hx,sm,rf,ok0,he,nd,na,hl,q=>by
  cases he;exact q H vf sm hx (by rw [List.append_nil];exact rf)
 | (f,s)::r,H,vf,fs0,fs,hx,sm,rf,ok0,he,nd,na,hl,q=>by
  obtain ⟨d,h1,he⟩:=bI he;obtain ⟨ds',h2,he⟩:=bI he;split at he
  ·rename_i hk;cases he;have hlf:f∉vf.map (·.1):=fun z=>(List.nodup_append.mp nd).2.2 f z f (by simp) rfl
   have key:∀y H2,bO H H2->(∀P,(∀a,H1 a=none->P a)->bF P H1 us ds->Rep P H2 y d)->∃a C' dx' fs',eU 0 σ H2 fun x' H3=>x'=.ref a/\H3 a=some (.ins C' dx' fs')/\Cls K C'/\bZ K C' f/\fs'.length<1000/\aJn K r D' σ (upd H3 a (.ins C' dx' (oA f y fs'))):=by
    intro y H2 s2 ry;have hx2:=s2 _ _ hx;refine ⟨x,C,dx,vf,_,hx0,rfl,hx2,cls,na f (by simp),by lia,?_⟩;have sm':bO H1 (upd H2 x (.ins C dx (oA f y vf))):=fun a o e=>by
     rw [aN (fun z=>by subst z;rw [hn] at e;cases e)];exact s2 _ _ (sm _ _ e)
    rw [LR hlf] at sm' ⊢;refine aCa cls hx0 hn hr hρ r _ (vf++[(f,y)]) (fs0++[(f,d)]) ds' aF sm' (fun P hP hR=>?_) (by rw [List.all_append,ok0];simp [hk]) h2 ?_ (fun g hg=>na g (by simp at hg ⊢;exact .inr hg)) (by simp at hl ⊢;lia) (fun H' vf' a b c=>q H' vf' a b (by simpa using c))
    ·have z1:=(rf P hP hR)
     have z2:lZ P H2 vf fs0:=z1.keep (fun a o e _=>s2 _ _ e) fun _ h=>h
     exact lZ.snoc ((ry P hP hR).okK jT.upd hx2 (fun _ h=>h) hk) (z2.okK jT.upd hx2 (fun _ h=>h) ok0)
    ·simpa [List.append_assoc] using nd
   cases s with
   | par i=>
    obtain ⟨v,e1,e2⟩:=hρ i d h1;obtain ⟨a,C',dx',fs',z⟩:=key v H (bO.refl H) fun P hP hR=>(e2 P hR).same sm
    obtain ⟨v0,w1,w2⟩:=z;exact ⟨v,e1,v0,w1,a,C',dx',fs',w2⟩
   | exp g=>
    refine ⟨ρ,d,fun i hi=>?_,h1,fun y H2 s2 r2 n2=>?_⟩
    ·obtain ⟨v,e1,e2⟩:=hρ i (ρ.getD i .uD) (by
      unfold bT;split
      ·rename_i q;exact absurd q hi
      ·rfl)
     exact ⟨v,e1,(e2 All hr).same sm⟩
    ·obtain ⟨a,C',dx',fs',z⟩:=key y H2 s2 fun P hP hR=>(n2 rfl).mono fun a ha=>hP a (by
      cases hq:H1 a with
      | none=>rfl
      | some o=>have:=sm a o hq;rw [show H a=none from ha] at this;cases this)
     obtain ⟨v0,w1,w2⟩:=z;exact ⟨v0,w1,a,C',dx',fs',w2⟩
  ·cases he
def aAn (C:Addr) (l:List (Str×Srx)) (n:Nat):Sp:=fun vs H Q _=>∃x dx H1 us ds fs,vs=.ref x::us/\us.length=n/\H x=some (.ins C dx [])/\H1 x=none/\bO H1 H/\bF All H1 us ds/\evS (.uD::ds) l=.ok fs/\∀H' vf,bO H1 H'->H' x=some (.ins C dx vf)->RFx H1 us ds H' vf fs->Q .non H'
theorem L_ {H:Hp}:∀{us:List V} {ds:List D} {i:Nat} {d:D},us.length=ds.length->ds[i]?=some d->∃v,us[i]?=some v/\∀P,bF P H us ds->Rep P H v d
 | [],[],_,_,_,h=>by simp at h
 | u::us,e::ds,0,d,_,h=>by
  simp at h;subst h;exact ⟨u,rfl,fun P r=>by cases r;assumption⟩
 | u::us,e::ds,i+1,d,hl,h=>by
  obtain ⟨v,h1,h2⟩:=L_ (H:=H) (us:=us) (ds:=ds) (i:=i) (d:=d) (by simpa using hl) (by simpa using h);exact ⟨v,by simpa using h1,fun P r=>by cases r with|cons _ t=>exact h2 P t⟩
theorem aCb {P:Program} {w:World} {K:PySem.W.Frag} {mg:Str->Option Value} {base:Heap} {x qual:Str} {st:Stmt} {fad C:Addr} {fd:FuncData} {N ps:List Str} {k:Nat} {l:List (Str×Srx)} (F:Fun K x qual st fad fd) (S:cC N ps (aM st)) (hN:N.length=ps.length) {n:Nat} (hp:ps.length=n+1) (cls:Cls K C) (nd:(l.map (·.1)).Nodup) (na:∀f∈l.map (·.1),bZ K C f) (hl:l.length<1000)
  (hbody:∀(cdv:Value) (A:Around) (outer:List Env) (s:Shared) (H:Hp) (E:XK),lG k (A.deeper (envOfC qual (aM st) s.heap.objs.size fad cdv))->PSs (JV CX0 P w K mg base N qual (aM st) fad cdv A outer s H E).nox (cN st) (aJn K l)):jU P w K mg base CX0 (k+1) fad fd ps (aAn C l n):=by
 refine F.ok S (fun vs H Q E ⟨_,_,_,us,_,_,e,h,_⟩=>by rw [e,hp,List.length_cons,h]) fun cdv A outer s H vs Q E hr ⟨x,dx,H1,us,ds,fs,e,hu,hx,hn,sm,r,he,q⟩=>⟨_,hbody cdv A outer s H E hr,?_⟩
 subst e;have hst:L2.start N (V.ref x::us)=some (.ref x)::us.map some:=by
  unfold L2.start;rw [hN,hp,List.length_cons,hu,Nat.sub_self];simp
 rw [hst];refine aCa (ρ:=.uD::ds) cls rfl hn r (fun i d hd=>?_) l H [] [] fs hx sm (fun _ _ _=>.nil) rfl he (by simpa using nd) na (by simpa using hl) fun H' vf s' hx' rf=>q H' vf s' hx' (by simpa using rf)
 match i,hd with
 | 0,hd=>cases hd
 | i+1,hd=>
  have hd':bT i ds=.ok d:=hd;have hg:ds[i]?=some d:=by
   unfold bT at hd';rw [List.getD_eq_getElem?_getD] at hd';cases hq:ds[i]? with
   | none=>rw [hq] at hd';cases hd'
   | some e=>
    rw [hq] at hd';have:e=d:=by
     revert hd'
     cases e <;> intro z <;> first|(cases z;done)|(cases z;rfl)
    rw [this]
  obtain ⟨v,h1,h2⟩:=L_ (H:=H1) r.length hg;exact ⟨v,by simpa using h1,h2⟩
def aG2 (P:Program) (w:World) (K:PySem.W.Frag) (mg:Str->Option Value) (base:Heap) (k:Nat) (c:Str) (l:List (Str×Srx)) (n:Nat):Prop:=
 ∃(C fi:Addr) (fd:FuncData) (ps:List Str),PySem.W.nsIn K mainGlobals c=some (some (.ref C))/\mg c=some (.ref C)/\Mk K C fi/\jU P w K mg base CX0 k fi fd ps (aAn C l n)/\Binds K fd ps []
def tMk (K:PySem.W.Frag) (c:Str) (l:List (Str×Srx)) (n:Nat) (t:TA):TE:=fun σ H Q=>t σ H fun us H1=>∃ds fs,us.length=n/\bF All H1 us ds/\evS (.uD::ds) l=.ok fs/\∀C x dx H' vf,PySem.W.nsIn K mainGlobals c=some (some (.ref C))->H1 x=none->bO H1 H'->H' x=some (.ins C dx vf)->RFx H1 us ds H' vf fs->Q (.ref x) H'
section
variable {X:Cx} {e:Expr} {es:List Expr} {pos p:Pos} {x c:Str} {k k' n:Nat} {l:List (Str×Srx)} {t:TA}
theorem aEm (R:aG2 X.prog X.w X.K X.mg X.base k x l n) (hr:lG k' X.A) (hkk:k+1<=k') (hg:Gl X x) (ha:PA X (e::es) t) (hdb:nDb x:=by decide) (he:starEach (e::es) X.env=(false,eval e X.env)::starEach es X.env:=by rfl) (hpl:(backTo pos (starEach es X.env)).any (·.1)=false:=by rfl) (hmono:∀(σ:L2.St) (H:Hp) (Q Q':List V->Hp->Prop),(∀vs H',Q vs H'->Q' vs H')->t σ H Q->t σ H Q') :
  PE X (.Call (.Name x p) (e::es) [] pos) (tMk X.K x l n t):=by
 obtain ⟨C,fi,fd,ps,hn,hm,M,F,hb⟩:=R;refine PE.imp (aD5 M F (hr.mono hkk) hg hm hb .nil aDg ha hdb he hpl) fun σ H Q h=>hmono σ H _ _ ?_ h
 rintro us H1 ⟨ds,fs,hl,r,he,q⟩ y dx hy hdx hne;refine ⟨y,dx,H1,us,ds,fs,by rw [List.append_nil],hl,aF,hy,fun a o e=>?_,r,he,fun H' vf s' hx' rf=>⟨rfl,q C y dx H' vf hn hy s' hx' rf⟩⟩;rw [aN (a_ e hy),aN (a_ e hdx)];exact e
def FP (K:PySem.W.Frag) (c f:Str):Prop:=∀C,PySem.W.nsIn K mainGlobals c=some (some (.ref C))->Cls K C/\bZ K C f
theorem CJ {f:Str} {fe:FE} {re:Bool} (hK:KFrag.K=X.K) (R:FP X.K c f) (he:PE X e (gE fe re)) (hb:attributeBase e f X.env (eval e X.env)=eval e X.env:=by rfl):PE X (.Attribute e f pos) (gE (aAm c f fe) false):=PE.imp (gW he hb) fun σ H Q ⟨ρ,d,E,h,q⟩=>by
 obtain ⟨d0,h1,h2⟩:=bI h;split at h2
 ·rename_i c' fs;split at h2
  ·rename_i hc;have hc:=of_decide_eq_true hc;subst hc;refine ⟨ρ,_,E,h1,fun v H1 s1 r1 _=>?_⟩;cases r1 with
   | ins hn hx rf=>
    rw [hK] at hn;obtain ⟨k1,k2⟩:=R _ hn;cases hl:fs.lookup f with
    | none=>rw [hl] at h2;cases h2
    | some d1=>
     rw [hl] at h2;cases h2;obtain ⟨w,g1,g2⟩:=rf.look hl;exact ⟨_,_,_,_,w,rfl,hx,k1,k2,g1,q w H1 s1 g2 (fun z=>by cases z)⟩
  ·cases h2
 ·cases h2
end
end Mi
namespace Mi
open PySem L2 PySem.SeqAt PySem.Spec PyProof.Rows
def CK (i:Nat):FX:=fun ρ=>match QL (ρ.getD i .uD) with
 | some xs=>(match xs[xs.length-1]? with|some x=>.ok (x,ρ.set i (aEb (ρ.getD i .uD) xs.dropLast))|none=>.bad)
 | none=>.bad
variable [KFrag]
theorem lZ.CN {P:Addr->Prop} {H:Hp} {f:Str}:∀{v:List (Str×V)} {d:List (Str×D)},lZ P H v d->d.lookup f=none->v.lookup f=none
 | _,_,.nil,_=>rfl
 | _,_,.cons (f:=g) r t,h=>by
  rw [List.lookup_cons] at h ⊢;split at h
  ·cases h
  ·exact lZ.CN t h
section
variable {X:Cx} {own:Nat->Bool} {o:Expr} {apos:Pos}
theorem aEn {i:Nat} {x:Str} {p1 apos cpos:Pos} (ho:own i=true) (hN:X.N[i]?=some x) (hv:Vis X.env.scope x) (hd:nDb x:=by decide) (hcd:nCd x:=by decide)
  (hbase:attributeBase (.Name x p1) "pop" X.env (eval (.Name x p1) X.env)=eval (.Name x p1) X.env:=by rfl)
  (hline:(apos.endLine==cpos.line)=true:=by rfl) :
  PE X (.Call (.Attribute (.Name x p1) "pop" apos) [] [] cpos) (gX own (CK i)):=
 PE.imp (JZ PySem.F.plainAttrs_list PySem.F.slot_list_pop PySem.F.type_list_pop SX (aW hN hv hd hcd) hbase hline) fun σ H Q ⟨ρ,d,ρ',E,h,q⟩=>by
 unfold CK at h;split at h
 ·rename_i xs hx;split at h
  ·rename_i dx hdx;cases h;obtain ⟨a,vs,hσ,hl,rr,hin,r,_⟩:=HR E ho hx;obtain ⟨v,hvx,rv⟩:=rr.get hdx;have hlen:=rr.length;refine ⟨_,hσ,.inl ⟨rfl,vs,.of hl⟩,a,vs,v,rfl,rfl,hl,by rw [hlen];exact hvx,?_⟩;have pall:∀y∈xs,y.pure=true:=fun y hy=>b7.mp hin y hy
   have pdx:d.pure=true:=pall d (List.mem_of_getElem? hdx);have pe:D.aG xs.dropLast=true:=b7.mpr fun y hy=>pall y (List.dropLast_subset _ hy)
   have er:bF All H vs.dropLast xs.dropLast:=by
    rw [List.dropLast_eq_take,List.dropLast_eq_take,hlen];exact rr.take _
   obtain ⟨E2,k2⟩:=E.mut (o:=.lst vs.dropLast) (d:=aEb (ρ.getD i .uD) xs.dropLast) ho hσ rfl (aC7 r hx aF trivial (er.upd pe hl rfl)) (by rw [V3 hx];exact pe);have r1:=(bF.cons rv .nil).upd (o:=.lst vs.dropLast) (by rw [D.aG,pdx];rfl) hl rfl;cases r1 with
   | cons r1 _=>exact q _ _ k2 E2 (.set ho) (r1.bL pdx)
  ·cases h
 ·cases h
end
noncomputable def own1 (j:Nat):Nat->Bool:=fun i=>i==j
def aKx (K:PySem.W.Frag) (i:Nat):TE:=aM5 K "list" aM6 (eU i)
def tm1:TE:=tUn (rU fun i=>.int (-i)) (tC (.int 1))
def aM9 (K:PySem.W.Frag) (i:Nat):TT:=fun σ H Q=>eU i σ H fun x H'=>∃k,aJa K x H' k/\Q k H'
section
theorem aAo {w1 w3:V} {j:Nat}:oA "left" (.int (((j+1:Nat):Int)-1)) [("words",w1),("left",.int ((j+1:Nat):Int)),("known",w3)]=([("words",w1),("left",.int j),("known",w3)]:List (Str×V)):=by
 have:((j+1:Nat):Int)-1=j:=by lia
 rw [this];unfold oA;rw [if_neg (by decide)];unfold oA;rw [if_pos rfl]
end
end Mi
namespace Mi
open PySem L2 PySem.SeqAt PySem.Spec PyProof.Rows
noncomputable def rowOf (s:Stmt) (j:Nat):Stmt:=match s with
 | .ClassDef _ _ _ b _ _ _ _ _ _ _=>b.getD j (.Pass ⟨0,0,0,0⟩)
 | _=>.Pass ⟨0,0,0,0⟩
variable [KFrag]
end Mi
namespace Wy
open PySem PySem.Spec
open Wz
noncomputable abbrev liO (t:Addr) (i:Nat):Obj:={cls:=.type "list_iterator",data:=.fields #[.ref t,.int i 0]}
noncomputable abbrev lsO (xs:Array Value) (n:Nat) (dd:Option Addr) (sl:Array (Option Value)):Obj:={cls:=.type "list",dict:=dd,data:=.seq xs n,slots:=sl}
theorem H_ (it t:Addr) (i:Nat) (xs:Array Value) (n:Nat) (dd:Option Addr) (sl:Array (Option Value)) (x:Value) (hx:xs[i]?=some x) :
  Meets (Builtin.«list_iterator.__next__» ⟨[.ref it],[]⟩) (fun _ R s=>s.heap.get? it=some (liO t i)/\s.heap.get? t=some (lsO xs n dd sl)/\R (.ok (.ret x)) {s with heap:=s.heap.update it (Obj.mapFields (·.setIfInBounds 1 (rawInt (i+1))))}):=.of_wp fun prog w A R s hs=>by
 obtain ⟨hp,g,d,tk,os⟩:=s;obtain ⟨e1,e2,hq⟩:=hs
 wp_walk
 rw [Int.toNat_natCast,hx]
 wp_walk
 exact ⟨_,rfl,hq⟩
section
variable {prog:Program} {w:World} {A:Around} {E:Value->Shared->Prop} {s:Shared} {it t:Addr} {i:Nat} {xs:Array Value} {x:Value} {n:Nat} {dd:Option Addr} {sl:Array (Option Value)}
theorem aCc {Q:Value->Shared->Prop} (e1:s.heap.get? it=some (liO t i)) (e2:s.heap.get? t=some (lsO xs n dd sl)) (hx:xs[i]?=some x)
  (q:∀h',h'.get? it=some (liO t (i+1))->Heap.SameBut it s.heap h'->Q x {s with heap:=h'}):wpAny (model prog w) A (Builtin.SmallTypes.nextOf (.ref it)) Q E s:=by
 have ty:s.TypeIs (.ref it) "list_iterator":=⟨_,e1,rfl⟩
 refine wpAny_bind (wpAny_callSpecial?_slot ty slot_listiter_next ?_);refine call_meets slot_listiter_next ty entry_listiter_next (args_listiter_next _) (H_ it t i xs n dd sl x hx) ⟨e1,e2,wpAny_pure (q _ ?_ (Heap.SameBut.update ..))⟩;exact Heap.get?_update_self _ e1 rfl
end
structure W (z TI TO i1 i2 l1 l2:Addr) (o1 o2:Obj) (f0 f1 a b:Value) (k1 k2:Nat) (h:Heap):Prop where
 z_:h.get? z=some (zpO f0 f1 TI TO)
 ti:h.get? TI=some (prO (.ref i1) (.ref i2))
 to:h.get? TO=some (prO a b)
 j1:h.get? i1=some (itO l1 k1)
 j2:h.get? i2=some (liO l2 k2)
 t1:h.get? l1=some o1
 t2:h.get? l2=some o2
section
variable {z TI TO i1 i2 l1 l2:Addr} {o1 o2:Obj} {f0 f1 g0 g1 a b c d:Value} {k1 k2:Nat} {h h':Heap}
theorem W.onZ (x:W z TI TO i1 i2 l1 l2 o1 o2 f0 f1 a b k1 k2 h) (ap:Apart z TI TO i1 i2 l1 l2) (e:h'.get? z=some (zpO g0 g1 TI TO)) (k:Heap.SameBut z h h'):W z TI TO i1 i2 l1 l2 o1 o2 g0 g1 a b k1 k2 h':=
 ⟨e,(k.2 _ ap.zTI.symm).trans x.ti,(k.2 _ ap.zTO.symm).trans x.to,(k.2 _ ap.z1.symm).trans x.j1,(k.2 _ ap.z2.symm).trans x.j2,(k.2 _ ap.zl.symm).trans x.t1,(k.2 _ ap.zm.symm).trans x.t2⟩
theorem W.onT (x:W z TI TO i1 i2 l1 l2 o1 o2 f0 f1 a b k1 k2 h) (ap:Apart z TI TO i1 i2 l1 l2) (e:h'.get? TO=some (prO c d)) (k:Heap.SameBut TO h h'):W z TI TO i1 i2 l1 l2 o1 o2 f0 f1 c d k1 k2 h':=
 ⟨(k.2 _ ap.zTO).trans x.z_,(k.2 _ ap.TT).trans x.ti,e,(k.2 _ ap.O1.symm).trans x.j1,(k.2 _ ap.O2.symm).trans x.j2,(k.2 _ ap.Ol.symm).trans x.t1,(k.2 _ ap.Om.symm).trans x.t2⟩
theorem W.on1 {k:Nat} (x:W z TI TO i1 i2 l1 l2 o1 o2 f0 f1 a b k1 k2 h) (ap:Apart z TI TO i1 i2 l1 l2) (e:h'.get? i1=some (itO l1 k)) (s:Heap.SameBut i1 h h'):W z TI TO i1 i2 l1 l2 o1 o2 f0 f1 a b k k2 h':=
 ⟨(s.2 _ ap.z1).trans x.z_,(s.2 _ ap.T1).trans x.ti,(s.2 _ ap.O1).trans x.to,e,(s.2 _ ap.ij.symm).trans x.j2,(s.2 _ ap.il.symm).trans x.t1,(s.2 _ ap.im.symm).trans x.t2⟩
theorem W.on2 {k:Nat} (x:W z TI TO i1 i2 l1 l2 o1 o2 f0 f1 a b k1 k2 h) (ap:Apart z TI TO i1 i2 l1 l2) (e:h'.get? i2=some (liO l2 k)) (s:Heap.SameBut i2 h h'):W z TI TO i1 i2 l1 l2 o1 o2 f0 f1 a b k1 k h':=
 ⟨(s.2 _ ap.z2).trans x.z_,(s.2 _ ap.T2).trans x.ti,(s.2 _ ap.O2).trans x.to,(s.2 _ ap.ij).trans x.j1,e,(s.2 _ ap.jl.symm).trans x.t1,(s.2 _ ap.jm.symm).trans x.t2⟩
theorem W.up (x:W z TI TO i1 i2 l1 l2 o1 o2 f0 f1 a b k1 k2 h) (k:∀c o,c=z\/c=TI\/c=TO\/c=i1\/c=i2\/c=l1\/c=l2->h.get? c=some o->h'.get? c=some o):W z TI TO i1 i2 l1 l2 o1 o2 f0 f1 a b k1 k2 h':=
 ⟨k _ _ (by simp) x.z_,k _ _ (by simp) x.ti,k _ _ (by simp) x.to,k _ _ (by simp) x.j1,k _ _ (by simp) x.j2,k _ _ (by simp) x.t1,k _ _ (by simp) x.t2⟩
end
section
variable {s:Shared} {z TI TO i1 i2 l1 l2:Addr} {f0 f1 a b:Value}
theorem W.ty {o1 o2:Obj} {k1 k2:Nat} (hw:W z TI TO i1 i2 l1 l2 o1 o2 f0 f1 a b k1 k2 s.heap):s.TypeIs (.ref z) "zip":=⟨_,hw.z_,rfl⟩
end
section
variable {prog:Program} {w:World} {A:Around} {E:Value->Shared->Prop} {s:Shared} {z TI TO i1 i2 l1 l2:Addr} {n1 n2:Nat} {d1 d2:Option Addr} {s1 s2:Array (Option Value)} {f0 f1 a b x y:Value} {k:Nat} {xs ys:Array Value}
theorem keptAt {o1 o2:Obj} {k1 k2:Nat} {Q:Unit->Shared->Prop} (j:Nat) (v c d:Value) (hw:W z TI TO i1 i2 l1 l2 o1 o2 f0 f1 a b k1 k2 s.heap) (ap:Apart z TI TO i1 i2 l1 l2) (hj:(#[a,b]:Array Value).setIfInBounds j v=#[c,d])
  (q:∀h',W z TI TO i1 i2 l1 l2 o1 o2 f0 f1 c d k1 k2 h'->Heap.SameBut TO s.heap h'->Q () {s with heap:=h'}):wpAny (model prog w) A (updateSeq TO (·.setIfInBounds j v)) Q E s:=
 wpAny_updateSeq_pair hw.to fun h' e sb=>q h' (hw.onT ap (by rw [e,hj]) sb) sb
theorem first {Q:Value->Shared->Prop} (ap:Apart z TI TO i1 i2 l1 l2) (hw:W z TI TO i1 i2 l1 l2 (tuO xs n1 d1 s1) (lsO ys n2 d2 s2) .none (.bool false) a b k k s.heap) (hx:xs[k]?=some x) (hy:ys[k]?=some y)
  (q:∀(h':Heap) (p:Addr),W z TI TO i1 i2 l1 l2 (tuO xs n1 d1 s1) (lsO ys n2 d2 s2) (rawInt p) (.bool false) x y (k+1) (k+1) h'->h'.get? p=some (prO x y)->p=s.heap.objs.size->aAd z TO i1 i2 s.heap h'->Q (.ref p) {s with heap:=h'}) :
  wpAny (model prog w) A (nxt z) (Got Q) E s:=by
 refine wpAny_bind (m:=field (.ref z) 2) (wpAny_field hw.z_ rfl (x:=.bool false) rfl (wpAny_bind (m:=field (.ref z) 3) (wpAny_field hw.z_ rfl (x:=.ref TI) rfl (wpAny_bind (wpAny_seqItems hw.ti rfl ?_)))));refine wpAny_bind (m:=Builtin.SmallTypes.ownedTupleIsFree (.ref z)) (wpAny_bind (wpAny_field hw.z_ rfl (x:=.none) rfl (wpAny_pure ?_)));rw [if_pos rfl];refine wpAny_bind (wpAny_rule (wpAny_bind (wpAny_field hw.z_ rfl (x:=.ref TO) rfl (wpAny_bind (wpAny_setField_rec hw.z_ (by simp) fun h1 e1 k1=>?_)))));have w1:W z TI TO i1 i2 l1 l2 (tuO xs n1 d1 s1) (lsO ys n2 d2 s2) .ellipsis (.bool false) a b k k h1:=hw.onZ ap e1 k1;simp only [List.zipIdx_cons,List.zipIdx_nil,List.forIn_cons,List.forIn_nil];refine wpAny_bind (wpAny_bind (wpAny_bind (wpAny_onRaise (wpAny_bind (m:=Builtin.SmallTypes.nextOf (.ref i1)) (drawn w1.j1 w1.t1 hx fun h2 e2 k2=>wpAny_pure ?_)))));have w2:=w1.on1 ap e2 k2;refine wpAny_bind (wpAny_seqItems w2.to rfl (wpAny_bind (keptAt 0 x x b w2 ap rfl fun h3 w3 k3=>wpAny_bind (wpAny_letGo (wpAny_pure ?_)))));refine wpAny_bind (wpAny_bind (wpAny_onRaise (wpAny_bind (m:=Builtin.SmallTypes.nextOf (.ref i2)) (aCc w3.j2 w3.t2 hy fun h4 e4 k4=>wpAny_pure ?_))));have w4:=w3.on2 ap e4 k4;refine wpAny_bind (wpAny_seqItems w4.to rfl (wpAny_bind (keptAt 1 y x y w4 ap rfl fun h5 w5 k5=>wpAny_bind (wpAny_letGo (wpAny_pure (wpAny_pure ?_))))));have sd:aAd z TO i1 i2 s.heap h5:=fun c o c1 c2 c3 c4 e=>(k5.2 c c2).trans ((k4.2 c c4).trans ((k3.2 c c2).trans ((k2.2 c c3).trans ((k1.2 c c1).trans e))))
 have sz:h5.objs.size=s.heap.objs.size:=by rw [k5.1,k4.1,k3.1,k2.1,k1.1]
 refine wpAny_bind (wpAny_seqItems w5.to rfl (wpAny_bind (wpAny_newTuple ?_)));have w6:W z TI TO i1 i2 l1 l2 (tuO xs n1 d1 s1) (lsO ys n2 d2 s2) .ellipsis (.bool false) x y (k+1) (k+1) (h5.push (prO x y)):=w5.up fun c o _ e=>Heap.get?_push_of_some _ e
 refine wpAny_bind (m:=Builtin.SmallTypes.ownedTupleHandOut (.ref z) (.ref h5.objs.size)) (wpAny_bind (wpAny_setField_rec w6.z_ (by simp) fun h7 e7 k7=>?_));have w7:W z TI TO i1 i2 l1 l2 (tuO xs n1 d1 s1) (lsO ys n2 d2 s2) (rawInt h5.objs.size) (.bool false) x y (k+1) (k+1) h7:=w6.onZ ap e7 k7;refine wpAny_setField_rec w7.z_ (by simp) fun h8 e8 k8=>wpAny_pure ⟨_,rfl,?_⟩
 have w8:W z TI TO i1 i2 l1 l2 (tuO xs n1 d1 s1) (lsO ys n2 d2 s2) (rawInt h5.objs.size) (.bool false) x y (k+1) (k+1) h8:=w7.onZ ap e8 k8;have nz:h5.objs.size≠z:=Nat.ne_of_gt (Heap.lt_size w5.z_);exact q h8 _ w8 ((k8.2 _ nz).trans ((k7.2 _ nz).trans (Heap.get?_push_size _ rfl))) sz fun c o c1 c2 c3 c4 e=>(k8.2 c c1).trans ((k7.2 c c1).trans (Heap.get?_push_of_some _ (sd c o c1 c2 c3 c4 e)))
theorem aAp {Q:Fin->Shared->Prop} (hh:A.handled=none) (ap:Apart z TI TO i1 i2 l1 l2) (hw:W z TI TO i1 i2 l1 l2 (tuO xs n1 d1 s1) (lsO ys n2 d2 s2) .none (.bool false) a b k k s.heap) (hx:xs[k]?=none)
  (q:∀h' e,aAd z TO i1 i2 s.heap h'->(∃o,h'.get? e=some o/\o.cls=.type "StopIteration")->E (.ref e) {s with heap:=h'}) :
  wpAny (model prog w) A (nxt z) Q E s:=by
 refine wpAny_bind (m:=field (.ref z) 2) (wpAny_field hw.z_ rfl (x:=.bool false) rfl (wpAny_bind (m:=field (.ref z) 3) (wpAny_field hw.z_ rfl (x:=.ref TI) rfl (wpAny_bind (wpAny_seqItems hw.ti rfl ?_)))));refine wpAny_bind (m:=Builtin.SmallTypes.ownedTupleIsFree (.ref z)) (wpAny_bind (wpAny_field hw.z_ rfl (x:=.none) rfl (wpAny_pure ?_)));rw [if_pos rfl];refine wpAny_bind (wpAny_rule (wpAny_bind (wpAny_field hw.z_ rfl (x:=.ref TO) rfl (wpAny_bind (wpAny_setField_rec hw.z_ (by simp) fun h1 e1 k1=>?_)))));have w1:W z TI TO i1 i2 l1 l2 (tuO xs n1 d1 s1) (lsO ys n2 d2 s2) .ellipsis (.bool false) a b k k h1:=hw.onZ ap e1 k1;simp only [List.zipIdx_cons,List.zipIdx_nil,List.forIn_cons,List.forIn_nil];refine wpAny_bind (wpAny_bind (wpAny_bind (wpAny_onRaise (wpAny_bind (m:=Builtin.SmallTypes.nextOf (.ref i1)) (over hh w1.j1 w1.t1 hx fun h2 e k2 he=>?_)))));obtain ⟨oe,he,hc⟩:=he;have ez:h2.get? z=some (zpO .ellipsis (.bool false) TI TO):=k2 _ _ ap.z1 w1.z_;have hez:e≠z:=fun v=>by
  rw [v,ez] at he;cases he;exact absurd (show Value.type "zip" = Value.type "StopIteration" from hc) (by decide)
 exact wpAny_setField_rec ez (by simp) fun h3 _ k3=>q h3 e (fun c o c1 _ c3 _ v=>(k3.2 c c1).trans (k2 c o c3 ((k1.2 c c1).trans v))) ⟨oe,(k3.2 e hez).trans he,hc⟩
theorem taken {o1 o2 oT:Obj} {k1 k2:Nat} {T:Addr} {bb:Bool} {Q:Bool->Shared->Prop} (ap:Apart z TI TO i1 i2 l1 l2) (hw:W z TI TO i1 i2 l1 l2 o1 o2 (rawInt T) (.bool bb) a b k1 k2 s.heap) (hT:s.heap.get? T=some oT)
  (q:∀h',W z TI TO i1 i2 l1 l2 o1 o2 (rawInt T) (.bool true) a b k1 k2 h'->Heap.SameBut z s.heap h'->Q false {s with heap:=h'}):wpAny (model prog w) A (Builtin.SmallTypes.ownedTupleIsFree (.ref z)) Q E s:=by
 refine wpAny_bind (wpAny_field hw.z_ rfl (x:=rawInt T) rfl (wpAny_bind (m:=loadIfAlive T) (there hT ?_)));refine wpAny_bind (wpAny_field hw.z_ rfl (x:=.bool bb) rfl ?_);cases bb
 ·exact wpAny_bind (wpAny_setField_rec hw.z_ (by simp) fun h1 e1 k1=>wpAny_pure (q h1 (hw.onZ ap e1 k1) k1))
 ·exact wpAny_pure (q _ hw (Heap.SameBut.refl _ _))
theorem more {T:Addr} {bb:Bool} {oT:Obj} {Q:Value->Shared->Prop} (ap:Apart z TI TO i1 i2 l1 l2) (hw:W z TI TO i1 i2 l1 l2 (tuO xs n1 d1 s1) (lsO ys n2 d2 s2) (rawInt T) (.bool bb) a b k k s.heap) (hT:s.heap.get? T=some oT) (hx:xs[k]?=some x) (hy:ys[k]?=some y)
  (q:∀h' p,W z TI TO i1 i2 l1 l2 (tuO xs n1 d1 s1) (lsO ys n2 d2 s2) (rawInt T) (.bool true) a b (k+1) (k+1) h'->h'.get? p=some (prO x y)->aAd z TO i1 i2 s.heap h'->Q (.ref p) {s with heap:=h'}) :
  wpAny (model prog w) A (nxt z) (Got Q) E s:=by
 refine wpAny_bind (m:=field (.ref z) 2) (wpAny_field hw.z_ rfl (x:=.bool false) rfl (wpAny_bind (m:=field (.ref z) 3) (wpAny_field hw.z_ rfl (x:=.ref TI) rfl (wpAny_bind (wpAny_seqItems hw.ti rfl ?_)))));refine wpAny_bind (m:=Builtin.SmallTypes.ownedTupleIsFree (.ref z)) (taken ap hw hT fun h1 w1 k1=>?_);rw [if_neg Bool.false_ne_true];dsimp only;rw [<-Array.forIn_toList];simp only [List.forIn_cons,List.forIn_nil];refine wpAny_bind (wpAny_bind (wpAny_bind (wpAny_holding (wpAny_bind (m:=Builtin.SmallTypes.nextOf (.ref i1)) (drawn w1.j1 w1.t1 hx fun h2 e2 k2=>wpAny_pure (wpAny_pure ?_))))));have w2:=w1.on1 ap e2 k2;refine wpAny_bind (wpAny_bind (wpAny_holding (wpAny_bind (m:=Builtin.SmallTypes.nextOf (.ref i2)) (aCc w2.j2 w2.t2 hy fun h3 e3 k3=>wpAny_pure (wpAny_pure (wpAny_pure ?_))))));have w3:=w2.on2 ap e3 k3;refine wpAny_bind (wpAny_newTuple (wpAny_pure ⟨_,rfl,?_⟩) (hsz:=by show (2:Nat)<=sizeLine;decide));exact q _ _ (w3.up fun c o _ e=>Heap.get?_push_of_some _ e) (Heap.get?_push_size _ rfl) fun c o c1 c2 c3 c4 e=>Heap.get?_push_of_some _ ((k3.2 c c4).trans ((k2.2 c c3).trans ((k1.2 c c1).trans e)))
theorem aEo {T:Addr} {bb:Bool} {oT:Obj} {Q:Fin->Shared->Prop} (hh:A.handled=none) (ap:Apart z TI TO i1 i2 l1 l2) (hw:W z TI TO i1 i2 l1 l2 (tuO xs n1 d1 s1) (lsO ys n2 d2 s2) (rawInt T) (.bool bb) a b k k s.heap) (hT:s.heap.get? T=some oT) (hx:xs[k]?=none)
  (q:∀h' e,aAd z TO i1 i2 s.heap h'->(∃o,h'.get? e=some o/\o.cls=.type "StopIteration")->E (.ref e) {s with heap:=h'}) :
  wpAny (model prog w) A (nxt z) Q E s:=by
 refine wpAny_bind (m:=field (.ref z) 2) (wpAny_field hw.z_ rfl (x:=.bool false) rfl (wpAny_bind (m:=field (.ref z) 3) (wpAny_field hw.z_ rfl (x:=.ref TI) rfl (wpAny_bind (wpAny_seqItems hw.ti rfl ?_)))));refine wpAny_bind (m:=Builtin.SmallTypes.ownedTupleIsFree (.ref z)) (taken ap hw hT fun h1 w1 k1=>?_);rw [if_neg Bool.false_ne_true];dsimp only;rw [<-Array.forIn_toList];simp only [List.forIn_cons,List.forIn_nil];exact wpAny_bind (wpAny_bind (wpAny_bind (wpAny_holding (wpAny_bind (m:=Builtin.SmallTypes.nextOf (.ref i1)) (over hh w1.j1 w1.t1 hx fun h2 e k2 he=>q h2 e (fun c o c1 _ c3 _ v=>k2 c o c3 ((k1.2 c c1).trans v)) he)))))
end
theorem WQ (t u:Addr) (xs ys:Array Value) :
  Meets (Builtin.«zip.__new__» ⟨[.type "zip",.ref t,.ref u],[]⟩) (fun _ R s=>s.heap.IsTuple t xs/\s.heap.IsList u ys/\∀h' n,n=s.heap.objs.size->h'.get? n=some (itO t 0)->h'.get? (n+1)=some (liO u 0)->h'.get? (n+2)=some (prO (.ref n) (.ref (n+1)))->h'.get? (n+3)=some (prO .none .none)->h'.get? (n+4)=some (zpO .none (.bool false) (n+2) (n+3))->
   (∀x o,s.heap.get? x=some o->h'.get? x=some o)->h'.objs.size=n+5->R (.ok (.ret (.ref (n+4)))) {s with heap:=h'}):=
 .of_wp fun prog w A R s hs=>by
  obtain ⟨hp,g,d,tk,os⟩:=s;obtain ⟨ht,hu,q⟩:=hs;have sub:=sub_zip;have p1:Heap.IsTuple (Shared.heap ⟨hp,g,d,tk,os⟩) t xs:=ht;have p2:Heap.IsList (Shared.heap ⟨hp.push {cls:=.type "tuple_iterator",data:=.fields #[.ref t,.int 0 0]},g,d,tk,os⟩) u ys:=Heap.IsList.push hu _;have f:=five hp (itO t 0) (liO u 0) (prO (.ref hp.objs.size) (.ref (hp.objs.size+1))) (prO .none .none) (zpO .none (.bool false) (hp.objs.size+2) (hp.objs.size+3)) rfl rfl rfl rfl rfl
  wp_walk using wpAny_pyIter_tuple p1,wpAny_pyIter_list p2
  refine ⟨_,rfl,?_⟩;have fin:=q _ hp.objs.size rfl f.1 f.2.1 f.2.2.1 f.2.2.2.1 f.2.2.2.2.1 f.2.2.2.2.2.1 f.2.2.2.2.2.2;have gen:∀m1 m2 m3 m4:Nat,m1=hp.objs.size+1->m2=hp.objs.size+2->m3=hp.objs.size+3->m4=hp.objs.size+4->R (.ok (.ret (.ref m4))) ⟨((((hp.push (itO t 0)).push (liO u 0)).push (prO (.ref hp.objs.size) (.ref m1))).push (prO .none .none)).push (zpO .none (.bool false) m2 m3),g,d,tk,os⟩:=by
   intro m1 m2 m3 m4 q1 q2 q3 q4;subst q1 q2 q3 q4;exact fin
  exact gen _ _ _ _ (Heap.size_push ..) ((Heap.size_push ..).trans (congrArg (·+1) (Heap.size_push ..))) ((Heap.size_push ..).trans (congrArg (·+1) ((Heap.size_push ..).trans (congrArg (·+1) (Heap.size_push ..))))) ((Heap.size_push ..).trans (congrArg (·+1) ((Heap.size_push ..).trans (congrArg (·+1) ((Heap.size_push ..).trans (congrArg (·+1) (Heap.size_push ..)))))))
section
variable {prog:Program} {w:World} {A:Around} {E:Value->Shared->Prop} {s:Shared}
theorem aHt {t u:Addr} {xs ys:Array Value} {Q:Value->Shared->Prop} (ht:s.heap.IsTuple t xs) (hu:s.heap.IsList u ys)
  (q:∀h' n,n=s.heap.objs.size->h'.get? n=some (itO t 0)->h'.get? (n+1)=some (liO u 0)->h'.get? (n+2)=some (prO (.ref n) (.ref (n+1)))->h'.get? (n+3)=some (prO .none .none)->h'.get? (n+4)=some (zpO .none (.bool false) (n+2) (n+3))->
   (∀x o,s.heap.get? x=some o->h'.get? x=some o)->h'.objs.size=n+5->Q (.ref (n+4)) {s with heap:=h'}) :
  wpAny (model prog w) A (call (.type "zip") [.ref t,.ref u]) Q E s:=
 callType_new F.called_zip (by decide) (F.typeCall_zip_2 _ _) (F.newCall_zip_2 _ _) (fun obj=>F.args_object_init_3 obj _ _) F.entry_zip_new (WQ t u xs ys)
  ⟨ht,hu,fun h' n e a1 a2 a3 a4 a5 k z=>⟨⟨_,a5,rfl⟩,q h' n e a1 a2 a3 a4 a5 k z⟩⟩
end
def ZS (z TI TO i1 i2 l1 l2:Addr) (o1 o2:Obj) (k:Nat) (h:Heap):Prop:=∃f0 f1 a b,W z TI TO i1 i2 l1 l2 o1 o2 f0 f1 a b k k h/\
 ((f0=.none/\f1=.bool false)\/∃(T:Addr) (bb:Bool) (u v:Value),f0=rawInt T/\f1=.bool bb/\h.get? T=some (prO u v)/\T≠z/\T≠TO/\T≠i1/\T≠i2)
section
variable {prog:Program} {w:World} {A:Around} {E:Value->Shared->Prop} {s:Shared} {z TI TO i1 i2 l1 l2 d:Addr} {n1 n2:Nat} {d1 d2:Option Addr} {s1 s2:Array (Option Value)} {x y:Value} {k:Nat} {xs ys:Array Value}
theorem ZS.keep {h h':Heap} {od:Obj} (Z:ZS z TI TO i1 i2 l1 l2 (tuO xs n1 d1 s1) (lsO ys n2 d2 s2) k h) (ed:h.get? d=some od) (hd:od.cls=.type "dict") (e:∀c o,c≠d->h.get? c=some o->h'.get? c=some o):ZS z TI TO i1 i2 l1 l2 (tuO xs n1 d1 s1) (lsO ys n2 d2 s2) k h':=by
 obtain ⟨f0,f1,a,b,hw,hf⟩:=Z;refine ⟨f0,f1,a,b,⟨e _ _ (Wz.apart hw.z_ rfl ed hd (by decide)) hw.z_,e _ _ (Wz.apart hw.ti rfl ed hd (by decide)) hw.ti,e _ _ (Wz.apart hw.to rfl ed hd (by decide)) hw.to,e _ _ (Wz.apart hw.j1 rfl ed hd (by decide)) hw.j1,e _ _ (Wz.apart hw.j2 rfl ed hd (by decide)) hw.j2,e _ _ (Wz.apart hw.t1 rfl ed hd (by decide)) hw.t1,e _ _ (Wz.apart hw.t2 rfl ed hd (by decide)) hw.t2⟩,?_⟩;rcases hf with hf|⟨T,bb,u,v,h1,h2,h3,h4⟩
 ·exact .inl hf
 ·exact .inr ⟨T,bb,u,v,h1,h2,e _ _ (Wz.apart h3 rfl ed hd (by decide)) h3,h4⟩
theorem aEp {Q:Option Value->Shared->Prop} (ap:Apart z TI TO i1 i2 l1 l2) (Z:ZS z TI TO i1 i2 l1 l2 (tuO xs n1 d1 s1) (lsO ys n2 d2 s2) k s.heap) (hx:xs[k]?=some x) (hy:ys[k]?=some y)
  (q:∀h' p,ZS z TI TO i1 i2 l1 l2 (tuO xs n1 d1 s1) (lsO ys n2 d2 s2) (k+1) h'->h'.get? p=some (prO x y)->aAd z TO i1 i2 s.heap h'->Q (some (.ref p)) {s with heap:=h'}):wpAny (model prog w) A (pyNext (.ref z)) Q E s:=by
 obtain ⟨f0,f1,a,b,hw,hf⟩:=Z;refine wpAny_bind (wpAny_attempt (wpAny_callSpecial?_slot hw.ty F.slot_zip_next (wpAny_call_entry F.slot_zip_next hw.ty F.entry_zip_next ?_ (F.args_zip_next_1 _))));rcases hf with ⟨rfl,rfl⟩|⟨T,bb,u,v,rfl,rfl,hT,t1,t2,t3,t4⟩
 ·refine first ap hw hx hy fun h' p w' ep pp sd=>wpAny_pure (q h' p ⟨_,_,_,_,w',.inr ⟨p,false,x,y,rfl,rfl,ep,?_⟩⟩ ep sd)
  subst pp;have lt:∀{c o},s.heap.get? c=some o->s.heap.objs.size≠c:=fun e=>Nat.ne_of_gt (Heap.lt_size e)
  exact ⟨lt hw.z_,lt hw.to,lt hw.j1,lt hw.j2⟩
 ·exact more ap hw hT hx hy fun h' p w' ep sd=>wpAny_pure (q h' p ⟨_,_,_,_,w',.inr ⟨T,true,u,v,rfl,rfl,sd _ _ t1 t2 t3 t4 hT,t1,t2,t3,t4⟩⟩ ep sd)
theorem aHu {Q:Option Value->Shared->Prop} (hh:A.handled=none) (ap:Apart z TI TO i1 i2 l1 l2) (Z:ZS z TI TO i1 i2 l1 l2 (tuO xs n1 d1 s1) (lsO ys n2 d2 s2) k s.heap) (hx:xs[k]?=none)
  (q:∀h',aAd z TO i1 i2 s.heap h'->Q none {s with heap:=h'}):wpAny (model prog w) A (pyNext (.ref z)) Q E s:=by
 obtain ⟨f0,f1,a,b,hw,hf⟩:=Z;refine wpAny_bind (wpAny_attempt (wpAny_callSpecial?_slot hw.ty F.slot_zip_next (wpAny_call_entry F.slot_zip_next hw.ty F.entry_zip_next ?_ (F.args_zip_next_1 _))));have stop:∀h' e,aAd z TO i1 i2 s.heap h'->(∃o,h'.get? e=some o/\o.cls=.type "StopIteration")->wpAny (model prog w) A (do if <- isInstance (.ref e) (.type "StopIteration") then pure none else throw (.ref e)) Q E {s with heap:=h'}:=fun h' e sd he=>wpAny_bind (wpAny_isInstance (T := "StopIteration") (b:=true) he isSubtype_stop (wpAny_pure (q h' sd)))
 rcases hf with ⟨rfl,rfl⟩|⟨T,bb,u,v,rfl,rfl,hT,_⟩
 ·exact aAp hh ap hw hx fun h' e sd he=>stop h' e sd he
 ·exact aEo hh ap hw hT hx fun h' e sd he=>stop h' e sd he
end
section
variable {prog:Program} {w:World} {K:Type} [DecidableEq K] {knd:KeyKind prog w K} {A:Around} {R:Except Value Flow->Shared->Prop} {z TI TO i1 i2 l1 l2 d:Addr} {n1 n2:Nat} {d1 d2:Option Addr} {s1 s2:Array (Option Value)} {xs ys:Array Value} {ks:List K}
theorem yD (hh:A.handled=none) (ap:Apart z TI TO i1 i2 l1 l2) (hdz:d≠z) (hdT:d≠TO) (hd1:d≠i1) (hd2:d≠i2) (hsz:ys.size=xs.size) (hk:∀(i:Nat) (x:Value),xs[i]?=some x->∃k,ks[i]?=some k/\knd.is k x=true) :
  ∀(m k:Nat) (s:Shared) (kvs:List (K×Value)),k+m=xs.size->kvs.length+m<=sizeLine->ZS z TI TO i1 i2 l1 l2 (tuO xs n1 d1 s1) (lsO ys n2 d2 s2) k s.heap->s.heap.DictOf knd d kvs->
  (∀h' tk,h'.DictOf knd d (merged kvs ((ks.zip ys.toList).drop k))->(∀c o,c≠d->c≠z->c≠TO->c≠i1->c≠i2->s.heap.get? c=some o->h'.get? c=some o)->R (.ok (.ret .none)) {s with heap:=h',toks:=tk})->
  codeAny (model prog w) A (.builtin "dict.update.loop" ⟨[.ref d,.ref z,rawInt k,.none],[]⟩) R s:=by
 intro m;induction m with
 | zero=>
  intro k s kvs hkm hl Z hd q;refine codeAny_builtin i_ ?_;rw [Around.under_plainId (show plainId "dict.update.loop" = true by decide +kernel) _];refine wpAny_bind (m:=pyNext (.ref z)) (aHu hh ap Z (Array.getElem?_eq_none (by lia)) fun h' kp=>?_);refine wpAny_bind (m:=Builtin.Dict.addKeywords d []) ?_;unfold Builtin.Dict.addKeywords;rw [List.forIn_nil];refine wpAny_bind (wpAny_pure (wpAny_pure (wpAny_pure ?_)));have e:(ks.zip ys.toList).drop k=[]:=List.drop_eq_nil_of_le (by rw [List.length_zip];have:ys.toList.length=ys.size:=Array.length_toList;lia);rw [e] at q;obtain ⟨o,es,ep,ho,r⟩:=hd;exact q _ s.toks ⟨o,es,ep,kp d o hdz hdT hd1 hd2 ho,r⟩ fun c o _ c1 c2 c3 c4 e=>kp c o c1 c2 c3 c4 e
 | succ m ih=>
  intro k s kvs hkm hl Z hd q;have hlt:k<xs.size:=by lia
  have hlt2:k<ys.size:=by lia
  have hx:xs[k]?=some xs[k]:=Array.getElem?_eq_getElem hlt;have hy:ys[k]?=some ys[k]:=Array.getElem?_eq_getElem hlt2;obtain ⟨key,hkey,his⟩:=hk k _ hx;refine codeAny_builtin i_ ?_;rw [Around.under_plainId (show plainId "dict.update.loop" = true by decide +kernel) _];refine wpAny_bind (m:=pyNext (.ref z)) (aEp ap Z hx hy fun h' p Z' hp kp=>?_);refine wpAny_bind (wpAny_holding (wpAny_bind (wpAny_tryCatch ?_)));refine wpAny_bind (wpAny_typeOf (T := "tuple") ⟨_,hp,rfl⟩ ?_);rw [if_pos (by decide)];refine wpAny_bind (wpAny_seqItems hp rfl (wpAny_pure ?_));show wpAny _ _ (holding [xs[k],ys[k]] (dictSet d xs[k] ys[k])) _ _ _;have hd':h'.DictOf knd d kvs:=let ⟨o,es,ep,ho,r⟩:=hd;⟨o,es,ep,kp d o hdz hdT hd1 hd2 ho,r⟩
  obtain ⟨od,es,ep,ho,hc,_⟩:=id hd';refine wpAny_holding (wpAny_dictSet_pairs his hd' (fun h2 hd2' sb=>?_) (by lia));refine wpAny_pure ⟨Code.quiet_builtin _ (by decide +kernel),?_⟩;have ek:(rawInt (k+1):Value)=rawInt ((k+1:Nat):Int):=rfl;rw [ek];have hzip:(ks.zip ys.toList).drop k=(key,ys[k])::(ks.zip ys.toList).drop (k+1):=by
   have hlz:(ks.zip ys.toList)[k]?=some (key,ys[k]):=by
    rw [List.getElem?_zip_eq_some];exact ⟨hkey,by rw [Array.getElem?_toList];exact hy⟩
   obtain ⟨h1,h2⟩:=List.getElem?_eq_some_iff.mp hlz;rw [List.drop_eq_getElem_cons h1,h2]
  have ls:(stored kvs key ys[k]).length<=kvs.length+1:=by
   unfold stored;split
   ·rw [List.length_map];lia
   ·rw [List.length_append];exact Nat.le_refl _
  refine ih (k+1) _ (stored kvs key ys[k]) (by lia) (by lia) (Z'.keep ho hc.1 fun c o hcd e=>(sb.2 c hcd).trans e) hd2' fun h3 tk hd3 kp3=>?_
  refine q h3 tk (by rw [hzip];exact hd3) fun c o c0 c1 c2 c3 c4 e=>kp3 c o c0 c1 c2 c3 c4 ((sb.2 c c0).trans (kp c o c1 c2 c3 c4 e))
end
section
variable {prog:Program} {w:World} {K:Type} [DecidableEq K] {knd:KeyKind prog w K} {A:Around} {E:Value->Shared->Prop} {hp:Heap} {g:Array GenState} {dr:Drawn} {tk:Nat} {os:OsState} {z TI TO i1 i2 l1 l2:Addr} {n1 n2:Nat} {d1 d2:Option Addr} {s1 s2:Array (Option Value)} {xs ys:Array Value} {ks:List K}
theorem aAq {Q:Value->Shared->Prop} (hh:A.handled=none) (ap:Apart z TI TO i1 i2 l1 l2) {a b:Value} (hw:W z TI TO i1 i2 l1 l2 (tuO xs n1 d1 s1) (lsO ys n2 d2 s2) .none (.bool false) a b 0 0 hp) (hsz:ys.size=xs.size) (hxs:xs.size<=1000) (hk:∀(i:Nat) (x:Value),xs[i]?=some x->∃k,ks[i]?=some k/\knd.is k x=true)
  (q:∀h' tk',h'.DictOf knd hp.objs.size (merged [] (ks.zip ys.toList))->aAd z TO i1 i2 hp h'->Q (.ref hp.objs.size) ⟨h',g,dr,tk',os⟩) :
  wpAny (model prog w) A (call (.type "dict") [.ref z]) Q E ⟨hp,g,dr,tk,os⟩:=by
 have hnew:(hp.push {cls:=.type "dict",data:=.dict #[]}).DictOf knd hp.objs.size []:=Heap.DictOf.new hp;have up:∀c o,hp.get? c=some o->(hp.push {cls:=.type "dict",data:=.dict #[]}).get? c=some o:=fun c o e=>Heap.get?_push_of_some _ e
 have lt:∀{c o},hp.get? c=some o->hp.objs.size≠c:=fun e=>Nat.ne_of_gt (Heap.lt_size e)
 refine callType_codes (Q₁:=fun v s₁=>v=.ref hp.objs.size/\s₁=⟨hp.push {cls:=.type "dict",data:=.dict #[]},g,dr,tk,os⟩) F.kt_called_dict (F.kt_typeCall_dict_1 _) F.entry_dict_init (kt_code_dict_new _ ⟨rfl,rfl⟩) fun v s₁ hv=>?_
 obtain ⟨rfl,rfl⟩:=hv;have ty:(⟨hp.push {cls:=.type "dict",data:=.dict #[]},g,dr,tk,os⟩:Shared).TypeIs (.ref hp.objs.size) "dict":=hnew.typeIs;have ez:=up _ _ hw.z_;have tz:(⟨hp.push {cls:=.type "dict",data:=.dict #[]},g,dr,tk,os⟩:Shared).TypeIs (.ref z) "zip":=⟨_,ez,rfl⟩
 refine ⟨ty,F.args_dict_init_2 _ _,wpAny_bind (m:=Builtin.Dict.selfAndRest "__init__" _) (wpAny_bind (wpAny_notOrdered_dict ty (wpAny_pure ?_)))⟩;refine wpAny_bind (m:=typeOf (.ref z)) (wpAny_typeOf tz ?_);rw [if_pos (by decide)];refine wpAny_bind (lacks ez hh fun h' tk' kp=>?_);rw [if_pos (show (none:Option Value).isNone=true from rfl)];refine wpAny_bind (wpAny_rule (wpAny_bind (wpAny_pyIter_zip (TI:=TI) (TO:=TO) (f0:=.none) (kp _ _ ez) (wpAny_pure ⟨Code.quiet_builtin _ (by decide +kernel),?_⟩))));have hd':h'.DictOf knd hp.objs.size []:=let ⟨o,es,ep,ho,r⟩:=hnew;⟨o,es,ep,kp _ _ ho,r⟩
 refine yD (A:=A.in1) (ks:=ks) (show A.in1.handled=none from hh) ap (lt hw.z_) (lt hw.to) (lt hw.j1) (lt hw.j2) hsz hk xs.size 0 ⟨h',g,dr,tk',os⟩ [] (by lia) (by rw [List.length_nil,sizeLine_eq];lia) ⟨_,_,_,_,hw.up fun c o _ e=>kp c o (up c o e),.inl ⟨rfl,rfl⟩⟩ hd' fun h2 tk2 hd2 kp2=>?_
 exact ⟨rfl,q h2 tk2 hd2 fun c o c1 c2 c3 c4 e=>kp2 c o (fun x=>lt e x.symm) c1 c2 c3 c4 (kp c o (up c o e))⟩
end
end Wy
namespace Mi
open PySem L2 PySem.SeqAt PySem.Spec PyProof.Rows
def jK:List D->Res D
 | [.tup xs,.lst ys]=>if decide (xs.length<=1000)&&decide (ys.length=xs.length)&&xs.all eY&&D.aG ys then .ok (.dct (kE xs ys [])) else .bad
 | _=>.bad
variable [KFrag]
theorem Rep.aKy {P:Addr->Prop} {H:Hp} {v:V} {ds:List D} (r:Rep P H v (.lst ds)):∃a vs,v=.ref a/\H a=some (.lst vs)/\bF P H vs ds:=by
 cases r with
 | lst e _ r=>exact ⟨_,_,rfl,e,r⟩
section
variable {X:Cx} {a b:Expr} {fs:FA} {rr:Bool} {p p2 pos pos2:Pos}
theorem aAr (hg:Gl X "dict") (hm:X.mg "dict" = none) (hg2:Gl X "zip") (hm2:X.mg "zip" = none) (ha:PA X [a,b] (gA fs rr)) (hc:X.calm=true:=by rfl) (hs2:starEach [a,b] X.env=(false,eval a X.env)::starEach [b] X.env:=by rfl) (hpl2:(backTo pos2 (starEach [b] X.env)).any (·.1)=false:=by rfl)
  (hs:starEach [.Call (.Name "zip" p2) [a,b] [] pos2] X.env=(false,eval (.Call (.Name "zip" p2) [a,b] [] pos2) X.env)::starEach [] X.env:=by rfl) :
  PE X (.Call (.Name "dict" p) [.Call (.Name "zip" p2) [a,b] [] pos2] [] pos) (gE (aX jK fs) true):=by
 intro pins s σ H Q I ⟨ρ,d,E,h,q⟩;obtain ⟨xs,h1,h2⟩:=bI h;unfold jK at h2;split at h2
 ·rename_i xs ys;split at h2
  ·rename_i hb;cases h2;simp only [Bool.and_eq_true,decide_eq_true_eq] at hb;obtain ⟨⟨⟨hb1,hb2⟩,hb3⟩,hb4⟩:=hb;refine wpAny_Call_Name_kw (lN I hg hm xZ ?_);refine PyProof.Rows.callWith_type1 ?_ hs rfl;rw [hs];show wpAny _ _ (spliced ((false,eval (.Call (.Name "zip" p2) [a,b] [] pos2) X.env)::backTo pos (starEach [] X.env))) _ _ s;refine Calls.spliced_cons ?_;refine wpAny_Call_Name_kw (lN I hg2 hm2 boot_zip ?_);refine PyProof.Rows.callWith_type1 (thn (ha pos2 pins s σ H (fun vs H1=>bO H H1/\bF All H1 vs [.tup xs,.lst ys]) I ⟨ρ,_,E,h1,fun vs H1 s1 r1 _=>⟨s1,r1⟩⟩) fun us s1 ⟨vs,H1,I1,r1,sm,rp⟩=>?_) hs2 hpl2;cases rp with
   | cons rp1 rp=>
    cases rp with
    | cons rp2 rp=>
     cases rp;obtain ⟨l1,vs1,rfl,e1,rr1⟩:=rp1.eO;obtain ⟨l2,vs2,rfl,e2,rr2⟩:=rp2.aKy;cases r1 with
     | cons q1 r1=>
      cases r1 with
      | cons q2 r1=>
       cases r1;cases q1;cases q2;obtain ⟨its1,w1,p1,_⟩:=I1.tuple (.of e1);obtain ⟨_,its2,m2,w2,g2⟩:=I1.hok _ _ e2;have t1:s1.heap.IsTuple l1 its1.toArray:=p1;have t2:s1.heap.IsList l2 its2.toArray:=⟨_,g2,rfl,_,rfl⟩
       obtain ⟨⟨c1,dd1,da1,sl1⟩,g1,hc1,m1,hd1⟩:=id p1;simp only at hc1 hd1;subst hc1 hd1;have hl1:=Heap.lt_size g1;have hl2:=Heap.lt_size g2;refine Wy.aHt t1 t2 fun h' n hn z1 z2 z3 z4 z5 kp zsz=>?_
       subst hn;refine Calls.spliced_nil ?_;have n1:=w1.length;have n2:=w2.length;have m1:=rr1.length;have m2:=rr2.length;obtain ⟨ks,k1,k2,k3⟩:=V0 (pr:=X.prog) (w:=X.w) rr1 w1 hb3;refine Wy.aAq (knd:=bU X.prog X.w) (ks:=ks) (I1.ok.hd hc) (V1 hl1 hl2) ⟨z5,z3,z4,z1,z2,kp _ _ g1,kp _ _ g2⟩ (by simp only [List.size_toArray];lia) (by simp only [List.size_toArray];lia) (fun i u hu=>k3 i u (by simpa using hu)) fun h2 tk dd kp2=>?_
       have hfr:H1 h'.objs.size=none:=I1.hok.fresh (by rw [zsz];lia);have kall:∀c o,s1.heap.get? c=some o->h2.get? c=some o:=fun c o e=>by
        have:=Heap.lt_size e;exact kp2 c o (Nat.ne_of_lt (Nat.lt_of_lt_of_le this (Nat.le_add_right _ 4))) (Nat.ne_of_lt (Nat.lt_of_lt_of_le this (Nat.le_add_right _ 3))) (Nat.ne_of_lt this) (Nat.ne_of_lt (Nat.lt_of_lt_of_le this (Nat.le_add_right _ 1))) (kp c o e)
       have rel:KV (d_ [] (ks.zip vs2)) (merged [] (ks.zip its2)):=(aHl w2 ks).merge .nil;have hz:(d_ [] (ks.zip vs2)).length<=sizeLine:=by
        have:=jD (ks.zip vs2) [];rw [List.length_nil,List.length_zip] at this;rw [sizeLine_eq];lia
       obtain ⟨rk,nd⟩:=K7 (ks:=ks) (P:=All) (rr2) d9.nil List.nodup_nil;rw [k1] at rk;have sp:bO H1 (upd H1 h'.objs.size (.dK (d_ [] (ks.zip vs2)))):=bO.upd hfr;have pv:D.aG ((kE xs ys []).map (·.2))=true:=by
        have go:∀(a b:List D) (m:List (D×D)),D.aG b=true->D.aG (m.map (·.2))=true->D.aG ((kE a b m).map (·.2))=true:=by
         intro a;induction a with
         | nil=>intro b m _ hm;cases b <;> exact hm
         | cons x a ih=>
          intro b m hb hm;cases b with
          | nil=>exact hm
          | cons y b=>
           rw [D.aG,Bool.and_eq_true] at hb;refine ih b _ hb.2 ?_;have hp:=iY (ds:=m) (k:=x) hb.1 hm;exact hp
        exact go xs ys [] hb4 rfl
       have rk2:∀{P:Addr->Prop},d9 P (upd H1 h'.objs.size (.dK (d_ [] (ks.zip vs2)))) (d_ [] (ks.zip vs2)) (kE xs ys []):=fun {P}=>(rk.keep (.same sp) fun _ h=>h).bL pv
       refine ⟨.ref h'.objs.size,_,I1.laid (a:=h'.objs.size) (t':=tk) (o:=.dK (d_ [] (ks.zip vs2))) kall (by rw [zsz];lia) (S7 hz (beq_eq_false_iff_ne.mpr ?_) rel (by simpa using dd)),rfl,?_⟩
       ·exact Ne.symm (Nat.ne_of_lt (Nat.lt_of_lt_of_le I1.big (by rw [zsz];exact Nat.le_add_right _ 5)))
       ·exact q _ _ (sm.trans sp) (.dK aF trivial rk2 nd) fun _=>.dK aF (sm.free hfr) rk2 nd
  ·cases h2
 ·cases h2
end
end Mi
namespace Mi
open PySem L2 PySem.SeqAt PySem.Spec PyProof.Rows
noncomputable def WR (x:Str):List D->Option Nat
 | []=>some 0
 | .str y::r=>(WR x r).map fun n=>(if y==x then n+1 else n)
 | _::_=>none
def CP:D->List D->Res D
 | .tup xs,[.str y]=>match WR y xs with|some n=>.ok (.int n)|none=>.bad
 | _,_=>.bad
noncomputable def aAs (x:Str):Value->Bool
 | .str y _=>y==x
 | _=>false
variable [KFrag]
theorem aCd {P:Addr->Prop} {H:Hp} {x:Str} {t:Tok}:∀{zs:List V} {ds:List D} {its:List Value} {n:Nat},WR x ds=some n->bF P H zs ds->Vals zs its->its.countP (aAs x)=n/\∀u∈its,MeetsSeq.EqGives u (.str x t) (aAs x u)
 | _,_,_,_,h,.nil,.nil=>by cases h;exact ⟨rfl,fun u hu=>by cases hu⟩
 | _,d::ds,_,n,h,.cons r rt,.cons v vt=>by
  cases d with
  | str y=>
   obtain ⟨m,h1,rfl⟩:=Option.map_eq_some_iff.mp h;obtain ⟨i1,i2⟩:=aCd (t:=t) h1 rt vt;cases r;obtain ⟨tk,rfl⟩:=v;refine ⟨?_,fun u hu=>?_⟩
   ·rw [List.countP_cons,i1];show m+(if (y==x)=true then 1 else 0)=if (y==x)=true then m+1 else m
    split <;> rfl
   ·rcases List.mem_cons.mp hu with e|e
    ·subst e;exact eqGives_str y x tk t
    ·exact i2 u e
  | _=>cases h
theorem WT {prog:Program} {w:World} {A:Around} {E:Value->Shared->Prop} {s:Shared} {l:Addr} {items:Array Value} {x:Value} (e:Value->Bool) {R:PySem.Fin->Shared->Prop} (ht:IsTup s.heap l items) (he:∀y,y∈items->MeetsSeq.EqGives y x (e y)) (h:R (.done (.ret (.int (items.toList.countP e:Nat) s.toks))) {s with toks:=s.toks+1}) :
  wpAny (model prog w) A (Builtin.«tuple.count» ⟨[.ref l,x],[]⟩) R E s:=by
 show wpAny _ _ (Builtin.Tuple.tupleItemsOf (.ref l) >>= _) _ _ s;refine wpAny_bind (tupleItemsOf_ ht ?_);refine wpAny_bind (wpAny_forIn_array' _ (fun rest (b:Nat) s'=>s'=s/\(∀y,y∈rest->y∈items)/\b+rest.countP e=items.toList.countP e) _ ?_ ?_ _ _ ⟨rfl,fun y hy=>by simpa using hy,by simp⟩)
 ·rintro y rest b s' ⟨rfl,hm,hb⟩;refine wpAny_bind (he y (hm y (by simp)) prog w _ _ _ _ ?_);rw [List.countP_cons] at hb;cases hy:e y with
  | true=>
   rw [hy] at hb;exact wpAny_pure ⟨rfl,fun z hz=>hm z (by simp [hz]),by rw [if_pos rfl] at hb;lia⟩
  | false=>
   rw [hy] at hb;exact wpAny_pure ⟨rfl,fun z hz=>hm z (by simp [hz]),by rw [if_neg Bool.false_ne_true] at hb;lia⟩
 ·rintro b s' ⟨rfl,_,hb⟩;rw [List.countP_nil,Nat.add_zero] at hb;subst hb;show wpAny _ _ (retInt _) _ _ s';unfold retInt;exact wpAny_bind (wpAny_mkInt (wpAny_pure h))
section
variable {X:Cx}
theorem WW:MtR X "tuple.count" (rm CP true):=by
 intro pins s σ H x xs v us Q I rv vr ⟨a,ds,d,ra,rs,h,k⟩;unfold CP at h;split at h
 ·rename_i ys y;split at h
  ·rename_i n hn;cases h;obtain ⟨vv,uu,rfl,rfl,r,rk⟩:=gH rs vr;obtain ⟨l,zs,rfl,ee,rr⟩:=ra.eO;cases rv;cases r;obtain ⟨tk,rfl⟩:=rk;obtain ⟨its,vr',pl⟩:=jO I ee;obtain ⟨c1,c2⟩:=aCd (t:=tk) hn rr vr';obtain ⟨⟨cls,dd,data,sl⟩,ho,hc,n',hd⟩:=id pl;refine wpAny_call (codeAny_call_builtin F.slot_tuple_count.plain F.entry_tuple_count (F.slot_tuple_count.check _ _ _ _ _ _ _ _ ⟨_,ho,hc⟩ (F.args_tuple_count_2 _ _) ?_));refine WT (A:=X.A.in1) (aAs y) pl (fun w hw=>c2 w (by simpa using hw)) ?_;rw [show (its.toArray.toList.countP (aAs y))=n from by simpa using c1];exact ⟨.int n,H,I.tok _,⟨_,rfl⟩,k.int⟩
  ·cases h
 ·cases h
theorem WX {d:D} {ds:List D} {r:D} {v:V} {H:Hp} (h:CP d ds=.ok r) (rp:Rep All H v d):tyV X.K "tuple" v H:=by
 unfold CP at h;split at h
 ·obtain ⟨a,xs,rfl,e,_⟩:=rp.eO;exact .inr (.inl ⟨rfl,.inr ⟨_,e⟩⟩)
 ·cases h
def Iti (a:Addr) (o:Obj) (u:HO) (kvs:List (Key×V)):It where
 go:=fun i H=>H a=some (.frz o u)/\∃p,kvs[i]?=some p
 yld:=fun i H x H'=>∃b p,kvs[i]?=some p/\x=.ref b/\H b=none/\H'=upd H b (.tup [kV p.1,p.2])
 stop:=fun i H=>H a=some (.frz o u)/\kvs.length<=i
theorem Q0 {P:Program} {w:World} {K:PySem.W.Frag} {elts:List Expr} {x1} {tp:Pos} {a it:Addr} {o:Obj} {u:HO} {kvs:List (Key×V)} {vs:List (Key×Value)} {ep:Nat} (hne:a≠it) (hd:∀h:Heap,h.get? a=some o->h.DictAt (bU P w) a vs ep) (rel:KV kvs vs) :
  Turn P w K (.Tuple elts x1 tp) (Iti a o u kvs) [it] it (fun i h=>∃ok ov,IsItemIter h it a i vs.length ep ok ov) where
 mem:=by simp
 obj:=fun i h ⟨ok,ov,e⟩ b hb=>by
  have eb:b=it:=by simpa using hb
  subst eb;exact ⟨_,e,fun v z=>by cases z⟩
 keep:=fun i h h' ⟨ok,ov,e⟩ k=>⟨ok,ov,k it (by simp) _ e⟩
 item:=by
  intro X hP hw hK hc i pins s σ H E I hf ⟨ok,ov,st⟩ hg;subst hP hw hK;obtain ⟨ea,⟨k,x⟩,hx⟩:=hg;obtain ⟨px,_⟩:=I.hok a _ ea;obtain ⟨v,hv,rv⟩:=aC5 rel hx;refine wpAny_pyNext_items_item st (hd _ px) hv fun key h' hk st' ht hsz kp=>?_
  refine ⟨_,rfl,wpAny_letOwnedTupleGo_items st' fun h'' st'' sb=>?_⟩;have sb':Heap.SameBut it h' h'':=sb;have lt:s.heap.objs.size≠it:=Nat.ne_of_gt (Heap.lt_size st);have kk:∀c o,c∉[it]->s.heap.get? c=some o->h''.get? c=some o:=fun c o hc e=>by
   have hc':c≠it:=by simpa using hc
   exact (sb'.2 c hc').trans (kp c o hc' e)
  refine ⟨.ref s.heap.objs.size,upd H s.heap.objs.size (.tup [kV k,x]),HH (s:=s) (h':=h'') (t':=s.toks) (ch:=[it]) I kk hf (Nat.le_refl _) ?_,rfl,⟨_,_,hx,rfl,I.hok.fresh (Nat.le_refl _),rfl⟩,⟨_,_,st''⟩,fun c hc=>?_⟩
  ·exact ⟨by show 2<=sizeLine;rw [sizeLine_eq];decide,[key,v],.cons (aHk hk) (.cons rv .nil),⟨_,(sb'.2 _ lt).trans ht,rfl,0,rfl⟩⟩
  ·have hn:=(hf c hc).1;have hc':c=it:=by simpa using hc
   subst hc';rw [aN (Ne.symm lt)];exact hn
 done:=by
  intro X hP hw hK hc i pins s σ H E I hf ⟨ok,ov,st⟩ hg;subst hP hw hK;obtain ⟨ea,hx⟩:=hg;obtain ⟨px,_⟩:=I.hok a _ ea;obtain ⟨f0,f1,f2,f3,f4,f5⟩:=hf it (by simp);have hl:kvs.length=vs.length:=Paired.length rel;exact wpAny_pyNext_items_end (I.ok.hd hc) st (hd _ px) (List.getElem?_eq_none_iff.mpr (by lia)) fun h' eb=>⟨rfl,I.turned (t':=s.toks) (fun b o hb e=>eb b o hb e) f0 f1 f3 f4 f5⟩
 self:=fun _ _ _ _ _ ⟨ok,ov,st⟩ h=>PySem.W.kcp_self st h
theorem aAt:MtR X "dict.items" (fun x xs H Q=>∃a kvs,x=.ref a/\xs=[]/\DV H a kvs/\∀vw,H vw=none->Q (.ref vw) (upd H vw (.ext fun h=>h.IsItemsView vw a))):=by
 intro pins s σ H x xs v us Q I rx rxs ⟨a,kvs,e1,e2,hu,q⟩;subst e1 e2;cases rx;cases rxs;obtain ⟨z,hs,vs,rel,dd⟩:=VP I hu;have hfr:H s.heap.objs.size=none:=I.hok.fresh (Nat.le_refl _);refine call_meetsIn PySem.F.slot_dict_items dd.typeIs PySem.F.entry_dict_items (PySem.F.args_dict_items_1 _) (meets_dict_items (bU X.prog X.w) a hs) ⟨⟨vs,dd⟩,?_⟩;refine ⟨.ref s.heap.objs.size,_,I.laid (t':=s.toks) (o:=.ext fun h=>h.IsItemsView s.heap.objs.size a) (fun b o e=>Heap.get?_push_of_some _ e) (Nat.le_refl _) ?_,rfl,q _ hfr⟩;have hg:=Heap.get?_push_size s.heap (o:={cls:=.type "dict_items",data:=.fields #[.ref a]}) rfl;exact ⟨⟨_,hg,rfl,rfl⟩,⟨_,hg⟩,fun h1 h2 ⟨o,e,r⟩ k=>⟨o,k o e,r⟩⟩
theorem aAu {elts:List Expr} {x1} {tp:Pos} {x:Str} {i:Nat} {np ap cp:Pos} (hN:X.N[i]?=some x) (hv:Vis X.env.scope x) (hd:nDb x:=by decide) (hcd:nCd x:=by decide) (hbase:attributeBase (.Name x np) "items" X.env (eval (.Name x np) X.env)=eval (.Name x np) X.env:=by rfl) (hline:(ap.endLine==cp.line)=true:=by rfl) :
  PI X (.Tuple elts x1 tp) (.Call (.Attribute (.Name x np) "items" ap) [] [] cp) (fun σ H R=>∃a kvs u,σ[i]?=some (some (.ref a))/\DV H a kvs/\H a=some u/\∀o H1,bO H H1->R (Iti a o u kvs) (upd H1 a (.frz o u))):=by
 intro pins s σ H R I ⟨a,kvs,u,hσ,hu,hua,q⟩;have ty:tyV X.K "dict" (.ref a) H:=by
  rcases hu with h|⟨_,h⟩
  ·exact .inr (.inr (.inl ⟨rfl,.inl ⟨_,h⟩⟩))
  ·exact .inr (.inr (.inl ⟨rfl,.inr ⟨_,h⟩⟩))
 have hp:=JZ (X:=X) (apos:=ap) (cpos:=cp) PySem.F.plainAttrs_dict PySem.F.slot_dict_items PySem.F.type_dict_items aAt (aW (pos:=np) hN hv hd hcd) hbase hline;refine thn (hp pins s σ H (fun v H1=>∃vw,v=.ref vw/\H1 vw=some (.ext fun h=>h.IsItemsView vw a)/\bO H H1) I ⟨.ref a,hσ,ty,a,kvs,rfl,rfl,hu,fun vw hvw=>⟨vw,rfl,aF,bO.upd hvw⟩⟩) fun y s1 ⟨v,H1,I1,r1,vw,e,evw,sm⟩=>?_
 subst e;cases r1;have hu1:DV H1 a kvs:=by
  rcases hu with h|⟨h0,h⟩
  ·exact .inl (sm _ _ h)
  ·exact .inr ⟨h0,sm _ _ h⟩
 obtain ⟨z,hs,vs,rel,dd⟩:=VP I1 hu1;obtain ⟨ep,da⟩:=dd.dictAt;obtain ⟨o,es,ho,r⟩:=id da;have hda:∀h:Heap,h.get? a=some o->h.DictAt (bU X.prog X.w) a vs ep:=fun h e=>⟨o,es,e,r⟩
 obtain ⟨pv,_⟩:=I1.hok vw _ evw;obtain ⟨u',hu2,fu⟩:=aHh I1 hu1 ho;rw [sm _ _ hua] at hu2;cases hu2;have If:Inv X pins σ (upd H1 a (.frz o u)) s1:=I1.write (t':=s1.toks) (x:=a) (e:=a) (h':=s1.heap) (o:=.frz o u) (aHg hu1) (.inl rfl) (fun _ _ _ q=>q) ⟨o,ho⟩ ⟨ho,fu _ _ ho⟩;refine wpAny_pyIter_items pv da ?_;have I2:Inv X pins σ (upd H1 a (.frz o u)) {s1 with heap:=s1.heap.push {cls:=.type "dict_itemiterator",data:=.fields #[.none,.bool false,.ref a,.int 0 0,.int vs.length 0,.int ep 0,.none,.none]}}:=If.kept (t':=s1.toks) fun b o e=>Heap.get?_push_of_some _ e
 refine ⟨s1.heap.objs.size,[s1.heap.objs.size],fun i h=>∃ok ov,IsItemIter h s1.heap.objs.size a i vs.length ep ok ov,Iti a o u kvs,_,rfl,I2,Q0 (Nat.ne_of_lt (Heap.lt_size ho)) hda rel,⟨_,_,Heap.get?_push_size _ rfl⟩,fun b hb=>?_,q o H1 sm⟩;have e:b=s1.heap.objs.size:=by simpa using hb
 subst e;exact If.aCv (Nat.le_refl _) (If.hok.fresh (Nat.le_refl _))
end
end Mi
namespace Mi
open PySem L2 PySem.W PySem.SeqAt PySem.Spec PyProof.Rows
structure Cn where
 c:Int
 p:Int
 d:Int
noncomputable def Cn.use (k:Cn) (u z:Int):Cn:=if u=0 then {k with d:=k.d+z} else {k with p:=k.p+(u-1)*z}
noncomputable def Cn.call (k:Cn):Cn:={k with c:=k.c+1}
noncomputable def prF (hd mk rl:List (D×D)) (m:Int) (k:Cn):List (Str×D):=[("heads",.dct hd),("makers",.dct mk),("rules",.dct rl),("most",.int m),("calls",.int k.c),("copies",.int k.p),("drops",.int k.d)]
noncomputable def prV (h1 h2 h3:V) (m:Int) (k:Cn):List (Str×V):=[("heads",h1),("makers",h2),("rules",h3),("most",.int m),("calls",.int k.c),("copies",.int k.p),("drops",.int k.d)]
def mD (ws:List D):List (D×D)->Cn->Option Cn
 | [],k=>some k
 | (.str x,.tup [_,_,.int z])::r,k=>match WR x ws with
  | some n=>if decide (n<1000000) then mD ws r (k.use n z) else none
  | none=>none
 | _::_,_=>none
noncomputable def WY:Res (List D×List (D×D)×Cn):=.err "Spent" [.exc "Spent" []]
def Y6 (rl:List (D×D)) (m:Int) (k:Cn) (tk:D):List D->Res (List D×List (D×D)×Cn)
 | .tup [w0,.tup xs,z0]::more=>match getD (.dct rl) (.tup [tk,w0]) with
  | .ok (.tup [r0,r1,.tup own,.tup ws])=>if decide (xs.length+more.length<=1000)&&(D.aG xs&&(D.aG more&&D.aG ws)) then (match jK [.tup own,.lst (xs++more)] with
   | .ok (.dct kn)=>(match mD ws kn k.call with
    | some k'=>if k'.c+k'.p+k'.d > m then WY else .ok (ws,kn,k')
    | none=>.bad)
   | _=>.bad) else .bad
  | _=>.bad
 | _=>.bad
variable [KFrag]
def aJo (S:Addr->Prop) (H H':Hp):Prop:=∀b o,H b=some o->¬S b->H' b=some o
inductive EL (H:Hp):List (Option V)->List D->Prop
 | nil {σ:List (Option V)}:EL H σ []
 | skip {o:Option V} {σ:List (Option V)} {ρ:List D}:EL H σ ρ->EL H (o::σ) (.uD::ρ)
 | cons {v:V} {d:D} {σ:List (Option V)} {ρ:List D}:Rep All H v d->EL H σ ρ->EL H (some v::σ) (d::ρ)
theorem EL.er {H:Hp}:∀{σ:List (Option V)} {ρ:List D},EL H σ ρ->ER H σ ρ
 | _,_,.nil=>fun i hi=>absurd (by simp) hi
 | _,_,.skip t=>fun i hi=>match i,hi with
  | 0,hi=>absurd rfl hi
  | i+1,hi=>EL.er t i hi
 | _,_,.cons r t=>fun i hi=>match i,hi with
  | 0,_=>⟨_,rfl,r⟩
  | i+1,hi=>EL.er t i hi
theorem aKz {P:Program} {w:World} {K:PySem.W.Frag} {mg:Str->Option Value} {base:Heap} {x qual:Str} {st:Stmt} {f:Addr} {fd:FuncData} {N ps:List Str} {k:Nat} {sp:Sp} (F:Fun K x qual st f fd) (S:cC N ps (aM st)) (len:∀vs H Q E,sp vs H Q E->vs.length=ps.length)
  (hbody:∀(cdv:Value) (A:Around) (outer:List Env) (s:Shared) (H:Hp) (vs:List V) (Q:VK) (E:XK),lG k (A.deeper (envOfC qual (aM st) s.heap.objs.size f cdv))->sp vs H Q E->
   ∃t,PSs (JV (CX2 P w) P w K mg base N qual (aM st) f cdv A outer s H E) (cN st) t/\t {nx:=fun _ H'=>Q .non H',rt:=Q} (start N vs) H):jU P w K mg base (CX2 P w) (k+1) f fd ps sp:=by
 obtain ⟨oc,od,kV,doc,pm,an,cdv,ct,osl,rfl,lk,hcd⟩:=F.ex;exact aD6 lk hcd S len fun A outer s H vs Q E hr hsp=>hbody cdv A outer s H vs Q E hr hsp
def aMa (t:TS):TS:=fun D σ H=>∃ad u0,H ad=some u0/\P_ u0=true/\t {D with nx:=fun σ' H'=>∃o u,H' ad=some (.frz o u)/\D.nx σ' (upd H' ad u)} σ H
theorem aHv {X:Cx} {st:Stmt} {t:TS} (h:PS X st t):PS X st (aMa t):=by
 intro pins s σ H D I ⟨ad,u0,h1,h2,h3⟩;have hn:∀o u,X.H₀ ad≠some (.frz o u):=fun o u z=>by
  have:=I.base.frzs ad o u z;rw [h1] at this;cases this;cases h2
 refine wpAny_mono (h pins s σ H _ I h3) (fun f s' q=>?_) fun _ _ z=>z
 cases f with
 | next=>
  obtain ⟨σ',H',I',o,u,e,q⟩:=q;exact ⟨σ',_,aAc I' e hn,q⟩
 | brk=>exact q
 | cont=>exact q
 | ret v=>exact q
section
variable {K:PySem.W.Frag} {C CF CS:Addr} {l:List (Str×Srx)}
def tCU (K:PySem.W.Frag):TS:=aFx (tB (aJu (eU 1) (tC (.int 0))))
 (aFy K (eU 0) (aFw (JT K (eU 0) "drops") (eU 2)) "drops")
 (aFy K (eU 0) (aFw (JT K (eU 0) "copies") (aM1 (aJs (eU 1) (tC (.int 1))) (eU 2))) "copies")
def aG3 (C:Addr):Sp:=fun vs H Q _=>∃(a dx:Addr) (h1 h2 h3:V) (m:Int) (k:Cn) (u z:Int),vs=[.ref a,.int u,.int z]/\H a=some (.ins C dx (prV h1 h2 h3 m k))/\(-(2 ^ 64)<u-1/\u-1<2 ^ 64)/\Q .non (upd H a (.ins C dx (prV h1 h2 h3 m (k.use u z))))
theorem W0 {h1 h2 h3:V} {m y:Int} {k:Cn}:oA "drops" (.int y) (prV h1 h2 h3 m k)=prV h1 h2 h3 m {k with d:=y}:=rfl
theorem Q3 {h1 h2 h3:V} {m y:Int} {k:Cn}:oA "copies" (.int y) (prV h1 h2 h3 m k)=prV h1 h2 h3 m {k with p:=y}:=rfl
theorem W2 {h1 h2 h3:V} {m y:Int} {k:Cn}:oA "calls" (.int y) (prV h1 h2 h3 m k)=prV h1 h2 h3 m {k with c:=y}:=rfl
theorem aEq {N:List Str} (hN:N.length=3) (cl:Cls K C) (n1:bZ K C "drops") (n2:bZ K C "copies") {vs:List V} {H:Hp} {Q:VK} {E:XK} (h:aG3 C vs H Q E):tCU K {nx:=fun _ H'=>Q .non H',rt:=Q} (L2.start N vs) H:=by
 obtain ⟨a,dx,h1,h2,h3,m,k,u,z,rfl,ha,hu,q⟩:=h;have hst:L2.start N [V.ref a,.int u,.int z]=[some (.ref a),some (.int u),some (.int z)]:=by
  unfold L2.start;rw [hN];rfl
 rw [hst];refine ⟨.int u,rfl,u,0,rfl,rfl,_,rfl,?_⟩;dsimp only;by_cases hz:u=0
 ·rw [if_pos (decide_eq_true hz)];unfold Cn.use at q;rw [if_pos hz] at q;refine ⟨.ref a,rfl,a,C,dx,_,.int k.d,rfl,ha,cl,n1,rfl,.int z,rfl,k.d,z,rfl,rfl,.ref a,rfl,a,C,dx,_,rfl,ha,cl,n1,by show 7<1000;decide,?_⟩;rw [W0];exact q
 ·rw [if_neg (by simp [hz])];unfold Cn.use at q;rw [if_neg hz] at q;refine ⟨.ref a,rfl,a,C,dx,_,.int k.p,rfl,ha,cl,n2,rfl,.int u,rfl,u,1,rfl,rfl,.int z,rfl,u-1,z,rfl,rfl,hu,k.p,(u-1)*z,rfl,rfl,.ref a,rfl,a,C,dx,_,rfl,ha,cl,n2,by show 7<1000;decide,?_⟩;rw [Q3];exact q
def FrA (CF:Addr) (H:Hp) (fr:Addr) (ws:List D) (i:Nat) (kn:List (D×D)):Prop:=∃dx w1 w3,H fr=some (.ins CF dx [("words",w1),("left",.int i),("known",w3)])/\Rep All H w1 (.tup ws)/\Rep All H w3 (.dct kn)
def aNf (CF CS:Addr) (a:Addr) (hd mk rl:List (D×D)) (m:Int) (H:Hp) (Q:VK) (E:XK):Res (List D×List (D×D)×Cn)->Prop
 | .ok (ws,kn,k')=>∀H' x,H x=none->jT a H H'->Rep All H' (.ref a) (.ins "PlainRun" (prF hd mk rl m k'))->FrA CF H' x ws ws.length kn->Q (.ref x) H'
 | .err _ _=>∀H',jT a H H'->E (.ref CS) none H'
 | .bad=>False
def okR (hd mk rl:List (D×D)):Prop:=D.aG (hd.map (·.2))=true/\D.aG (mk.map (·.2))=true/\D.aG (rl.map (·.2))=true
def W3 (CF CS:Addr):Sp:=fun vs H Q E=>∃a vt vp hd mk rl m k tk ps,vs=[.ref a,vt,vp]/\okR hd mk rl/\tk.pure=true/\D.aG ps=true/\Rep All H (.ref a) (.ins "PlainRun" (prF hd mk rl m k))/\Rep All H vt tk/\Rep All H vp (.lst ps)/\aNf CF CS a hd mk rl m H Q E (Y6 rl m k tk ps)
def cf1:FE:=b2 getD fQ fZ
def cf2:FE:=b2 getD (aAm "PlainRun" "rules" iI) (gU (aC e_ (aC (b2 getD fB fZ) aV)))
def cf3:FE:=aX jK (aC (b2 getD gQ jV) (aC (b2 (aR .add) (aX PP (aC (b2 getD fB dO) aV)) (mQ fQ (dI dO) iJ)) aV))
def aL0:FE:=bM CP (b2 getD gQ jW) (aC zH aV)
def aL1:FE:=b2 getD RB jV
def cf7:FE:=b2 getD gQ jW
def aNg (i:Nat):TI:=fun σ H R=>∃a kvs u,σ[i]?=some (some (.ref a))/\DV H a kvs/\H a=some u/\∀o H1,bO H H1->R (Iti a o u kvs) (upd H1 a (.frz o u))
def aMb (K:PySem.W.Frag) (C CS:Addr) (l:List (Str×Srx)) (E:XK):TS:=
 vP (zM (gE cf1 false) (eV 3)) (vP (zM (gE cf2 false) (eV 4)) (vP (zM (gE cf3 true) (eV 5))
  (vP (aFy K (eU 0) (aFw (JT K (eU 0) "calls") (tC (.int 1))) "calls")
   (vP (aMa (aM2 (aNg 5) (aJ9 K 2 (N6 (eV 6) (N6 (eV 7) aJ8))) (xH (O7 C "count_uses" (aG3 C) [] E0 (eU 0) (cR (gE aL0 true) (cR (gE aL1 false) sS))))))
    (vP (aFx (tB (tGt (aFw (aFw (JT K (eU 0) "calls") (JT K (eU 0) "copies")) (JT K (eU 0) "drops")) (JT K (eU 0) "most"))) (fun _ _ H=>E (.ref CS) none H) aCu)
     (aGg (tMk K "Frame" l 2 (cR (gE cf7 false) (cR (eU 5) sS)))))))))
theorem aHw {d:D} {ps:List D}:cf1 [.uD,.uD,.lst (d::ps)]=.ok d:=by
 show Res.ofOpt ((ixD (ps.length+1) 0).bind fun j=>(d::ps)[j]?)=_;unfold ixD;rw [if_pos (by lia),if_pos (by lia)];rfl
theorem aNh {a:D} {r:List D}:getD (.tup (a::r)) (.int 0)=.ok a:=by
 show Res.ofOpt ((ixD (r.length+1) 0).bind fun j=>(a::r)[j]?)=_;unfold ixD;rw [if_pos (by lia),if_pos (by lia)];rfl
theorem W4 {d:D} (h:d.pure=true):d≠.uD:=fun z=>by subst z;cases h
theorem bV {ρ:List D} {i:Nat} {d:D} (h:ρ.getD i .uD=d) (hn:d≠.uD):bT i ρ=.ok d:=by
 unfold bT;rw [h];cases d <;> first|rfl|exact absurd rfl hn
theorem aHx {hd mk rl:List (D×D)} {m:Int} {k:Cn} {tk w0 u:D} {r:List D} {d:D} (ht:tk.pure=true) (h:getD (.dct rl) (.tup [tk,w0])=.ok d):cf2 [.ins "PlainRun" (prF hd mk rl m k),tk,u,.tup (w0::r)]=.ok d:=by
 have e1:aAm "PlainRun" "rules" iI [.ins "PlainRun" (prF hd mk rl m k),tk,u,.tup (w0::r)]=.ok (.dct rl):=rfl;have e2:b2 getD fB fZ [.ins "PlainRun" (prF hd mk rl m k),tk,u,.tup (w0::r)]=.ok w0:=aNh;have e3:bT 1 [.ins "PlainRun" (prF hd mk rl m k),tk,u,.tup (w0::r)]=.ok tk:=bV rfl (W4 ht);exact aL e1 (j9 (aH e3 (aH e2 rfl)) (by show 2<=lim;rw [bQ];lia)) h
theorem aHy {a b:D} {xs own r more:List D} {w0 z0 r0 r1 d:D} (hl:xs.length+more.length<=1000) (hx:D.aG xs=true) (hm:D.aG more=true) (hp0:(D.tup [w0,.tup xs,z0]).pure=true) (h:jK [.tup own,.lst (xs++more)]=.ok d):cf3 [a,b,.lst (.tup [w0,.tup xs,z0]::more),.tup [w0,.tup xs,z0],.tup (r0::r1::.tup own::r)]=.ok d:=by
 generalize hρ:[a,b,.lst (.tup [w0,.tup xs,z0]::more),.tup [w0,.tup xs,z0],.tup (r0::r1::.tup own::r)]=ρ;have e1:b2 getD gQ jV ρ=.ok (.tup own):=by
  subst hρ;show Res.ofOpt ((ixD (r.length+1+1+1) 2).bind fun j=>(r0::r1::.tup own::r)[j]?)=_;unfold ixD;rw [if_pos (by lia),if_pos (by lia)];rfl
 have e2:b2 getD fB dO ρ=.ok (.tup xs):=by subst hρ;rfl
 have e3:aX PP (aC (b2 getD fB dO) aV) ρ=.ok (.lst xs):=bG (aH e2 rfl) (by
  show (if D.aG xs=true then Res.ok (D.lst xs) else .bad)=_;rw [if_pos hx])
 have e4:mQ fQ (dI dO) iJ ρ=.ok (.lst more):=by
  subst hρ;show (if D.aG (.tup [w0,.tup xs,z0]::more)=true then Res.ok (D.lst (cutD (.tup [w0,.tup xs,z0]::more) (some 1) none)) else .bad)=_;rw [if_pos (by rw [D.aG,hp0,hm];rfl)];have:cutD (D.tup [w0,.tup xs,z0]::more) (some 1) none=more:=by
   show ((D.tup [w0,.tup xs,z0]::more).drop ((min (1:Int) ((more.length+1:Nat):Int)).toNat)).take ((more.length+1)-(min (1:Int) ((more.length+1:Nat):Int)).toNat)=more;have:(min (1:Int) ((more.length+1:Nat):Int)).toNat=1:=by lia
   rw [this,List.drop_succ_cons,List.drop_zero,List.take_of_length_le (by lia)]
  rw [this]
 exact bG (aH e1 (aH (aL e3 e4 (by
  show (if (decide (xs.length+more.length<=lim)&&D.aG xs&&D.aG more)=true then Res.ok (D.lst (xs++more)) else .bad)=_;rw [if_pos (by rw [hx,hm,decide_eq_true (by rw [bQ];lia)];rfl)])) rfl)) h
theorem aEr {a b c d e g:D} {r0 r1 r2:D} {ws:List D} {x:Str} {n:Nat} (h:WR x ws=some n):aL0 [a,b,c,d,.tup [r0,r1,r2,.tup ws],e,.str x,g]=.ok (.int n):=by
 show (match WR x ws with|some n=>Res.ok (D.int n)|none=>.bad)=_;rw [h]
theorem aEs {a b c d e f g:D} {r0 r1:D} {z:Int}:aL1 [a,b,c,d,e,f,g,.tup [r0,r1,.int z]]=.ok (.int z):=rfl
theorem aHz {a b c d:D} {r0 r1 r2:D} {ws:List D}:cf7 [a,b,c,d,.tup [r0,r1,r2,.tup ws]]=.ok (.tup ws):=rfl
theorem yG {rl:List (D×D)} {m:Int} {k:Cn} {tk:D} {ps:List D} {res:Res (List D×List (D×D)×Cn)} (h:Y6 rl m k tk ps=res) (hne:res≠.bad):∃w0 xs z0 more r0 r1 own ws kn k',ps=.tup [w0,.tup xs,z0]::more/\getD (.dct rl) (.tup [tk,w0])=.ok (.tup [r0,r1,.tup own,.tup ws])/\xs.length+more.length<=1000/\D.aG xs=true/\D.aG more=true/\D.aG ws=true/\jK [.tup own,.lst (xs++more)]=.ok (.dct kn)/\mD ws kn k.call=some k'/\res=if k'.c+k'.p+k'.d > m then WY else .ok (ws,kn,k'):=by
 unfold Y6 at h;split at h
 ·rename_i w0 xs z0 more;split at h
  ·rename_i r0 r1 own ws hg;split at h
   ·rename_i hb;simp only [Bool.and_eq_true,decide_eq_true_eq] at hb;split at h
    ·rename_i kn hz;split at h
     ·rename_i k' hu;exact ⟨w0,xs,z0,more,r0,r1,own,ws,kn,k',rfl,hg,hb.1,hb.2.1,hb.2.2.1,hb.2.2.2,hz,hu,h.symm⟩
     ·exact absurd h.symm hne
    ·exact absurd h.symm hne
   ·exact absurd h.symm hne
  ·exact absurd h.symm hne
 ·exact absurd h.symm hne
theorem CQ {ws:List D} {p:D×D} {r:List (D×D)} {k k':Cn} (h:mD ws (p::r) k=some k'):∃x w y z n,p=(.str x,.tup [w,y,.int z])/\WR x ws=some n/\n<1000000/\mD ws r (k.use n z)=some k':=by
 obtain ⟨a,b⟩:=p;have key:∀a b,mD ws ((a,b)::r) k=some k'->∃x w y z,a=.str x/\b=.tup [w,y,.int z]:=by
  intro a b h;cases a with
  | str x=>
   cases b with
   | tup l=>
    rcases l with _|⟨w,_|⟨y,_|⟨q,_|_⟩⟩⟩
    ·cases h
    ·cases h
    ·cases h
    ·cases q with
     | int z=>exact ⟨x,w,y,z,rfl,rfl⟩
     | _=>cases h
    ·cases q <;> cases h
   | _=>cases h
  | _=>cases h
 obtain ⟨x,w,y,z,rfl,rfl⟩:=key a b h;have h:(match WR x ws with|some n=>if decide (n<1000000) then mD ws r (k.use n z) else none|none=>none)=some k':=h;split at h
 ·rename_i n hn;split at h
  ·rename_i hb;exact ⟨x,w,y,z,n,rfl,hn,of_decide_eq_true hb,h⟩
  ·cases h
 ·cases h
theorem MF {ws:List D}:∀{kn:List (D×D)} {k k':Cn},mD ws kn k=some k'->kn.all (fun p=>!isTup p.1)=true
 | [],_,_,_=>rfl
 | p::r,_,_,h=>by
  obtain ⟨x,w,y,z,n,rfl,_,_,h⟩:=CQ h;rw [List.all_cons,MF h];rfl
theorem d9.at_ {P:Addr->Prop} {H:Hp}:∀{kvs:List (Key×V)} {ds:List (D×D)} {i:Nat} {p:Key×V},d9 P H kvs ds->kvs[i]?=some p->∃d,ds[i]?=some (kD p.1,d)/\Rep P H p.2 d
 | _,_,_,_,.nil,h=>by simp at h
 | _,_,0,_,.cons r t,h=>by simp at h;subst h;exact ⟨_,rfl,r⟩
 | _,_,i+1,p,.cons r t,h=>by
  obtain ⟨d,h1,h2⟩:=d9.at_ (i:=i) t (by simpa using h);exact ⟨d,by simpa using h1,h2⟩
theorem d9.len {P:Addr->Prop} {H:Hp}:∀{kvs:List (Key×V)} {ds:List (D×D)},d9 P H kvs ds->kvs.length=ds.length
 | _,_,.nil=>rfl
 | _,_,.cons r t=>by rw [List.length_cons,List.length_cons,d9.len t]
theorem aI0 {P:Addr->Prop} {H:Hp} {v:V} {kn:List (D×D)} (r:Rep P H v (.dct kn)) (hb:kn.all (fun p=>!isTup p.1)=true):∃kd kvs u,v=.ref kd/\P kd/\DV H kd kvs/\H kd=some u/\P_ u=true/\d9 P H kvs kn/\(kvs.map (·.1)).Nodup:=by
 cases r with
 | dK e p rk n=>exact ⟨_,_,_,rfl,p,.inl e,e,rfl,rk,n⟩
 | dT e p rt n=>
  cases rt with
  | nil=>exact ⟨_,[],_,rfl,p,.inr ⟨rfl,e⟩,e,rfl,.nil,by simp⟩
  | cons r t=>simp [isTup] at hb
theorem DV.rep {P:Addr->Prop} {H:Hp} {kd:Addr} {kvs:List (Key×V)} {kn:List (D×D)} (h:DV H kd kvs) (p:P kd) (r:d9 P H kvs kn) (n:(kvs.map (·.1)).Nodup):Rep P H (.ref kd) (.dct kn):=by
 rcases h with h|⟨rfl,h⟩
 ·exact .dK h p r n
 ·cases r;exact .dT h p .nil (by simp)
theorem MJ {own ys:List D} {kn:List (D×D)} (h:jK [.tup own,.lst ys]=.ok (.dct kn)):D.aG (kn.map (·.2))=true:=by
 have h:(if decide (own.length<=1000)&&decide (ys.length=own.length)&&own.all eY&&D.aG ys then Res.ok (D.dct (kE own ys [])) else .bad)=.ok (.dct kn):=h;split at h
 ·rename_i hb;cases h;simp only [Bool.and_eq_true,decide_eq_true_eq] at hb;have go:∀(a b:List D) (m:List (D×D)),D.aG b=true->D.aG (m.map (·.2))=true->D.aG ((kE a b m).map (·.2))=true:=by
   intro a;induction a with
   | nil=>intro b m _ hm;cases b <;> exact hm
   | cons x a ih=>
    intro b m hb hm;cases b with
    | nil=>exact hm
    | cons y b=>
     rw [D.aG,Bool.and_eq_true] at hb;exact ih b _ hb.2 (iY (ds:=m) (k:=x) hb.1 hm)
  exact go _ _ [] hb.2 rfl
 ·cases h
theorem yH {kn:List (D×D)} (h:D.aG (kn.map (·.2))=true):okF (.dct kn)=true:=by
 unfold okF;rw [show inner (.dct kn)=D.aG (kn.map (·.2)) from rfl,h];simp
theorem yI {q d:D}:∀{rl:List (D×D)},D.aG (rl.map (·.2))=true->cF rl q=some d->d.pure=true
 | [],_,z=>by cases z
 | (p1,p2)::r,hp,z=>by
  rw [List.map_cons,D.aG,Bool.and_eq_true] at hp;rw [cF] at z;split at z
  ·cases z;exact hp.1
  ·exact yI hp.2 z
theorem W5 {rl:List (D×D)} {q d:D} (h:D.aG (rl.map (·.2))=true) (hg:getD (.dct rl) q=.ok d):d.pure=true:=by
 have e:getD (.dct rl) q=if keyOk q then Res.ofOpt (cF rl q) else .bad:=by cases q <;> rfl
 rw [e] at hg;split at hg
 ·cases hl:cF rl q with
  | none=>rw [hl] at hg;cases hg
  | some y=>
   rw [hl] at hg;cases hg;exact yI h hl
 ·cases hg
theorem jL {H:Hp} {a:Addr} {hd mk rl:List (D×D)} {m:Int} {k:Cn} (hK:KFrag.K=K) (hC:nsIn K mainGlobals "PlainRun" = some (some (.ref C))) (r:Rep All H (.ref a) (.ins "PlainRun" (prF hd mk rl m k))):∃dx h1 h2 h3,H a=some (.ins C dx (prV h1 h2 h3 m k))/\Rep All H h1 (.dct hd)/\Rep All H h2 (.dct mk)/\Rep All H h3 (.dct rl):=by
 cases r with
 | ins hn hx rf=>
 rw [hK,hC] at hn;cases hn;cases rf with
 | cons r1 rf=>
 cases rf with
 | cons r2 rf=>
 cases rf with
 | cons r3 rf=>
 cases rf with
 | cons r4 rf=>
 cases rf with
 | cons r5 rf=>
 cases rf with
 | cons r6 rf=>
 cases rf with
 | cons r7 rf=>
 cases rf;cases r4;cases r5;cases r6;cases r7;exact ⟨_,_,_,_,hx,r1,r2,r3⟩
theorem vI {P:Addr->Prop} {H:Hp} {a dx:Addr} {h1 h2 h3:V} {hd mk rl:List (D×D)} {m:Int} {k:Cn} (hK:KFrag.K=K) (hC:nsIn K mainGlobals "PlainRun" = some (some (.ref C))) (hx:H a=some (.ins C dx (prV h1 h2 h3 m k))) (r1:Rep P H h1 (.dct hd)) (r2:Rep P H h2 (.dct mk)) (r3:Rep P H h3 (.dct rl)):Rep P H (.ref a) (.ins "PlainRun" (prF hd mk rl m k)):=
 .ins (by rw [hK];exact hC) hx (.cons r1 (.cons r2 (.cons r3 (.cons (.int _) (.cons (.int _) (.cons (.int _) (.cons (.int _) .nil)))))))
end
section
variable {K:PySem.W.Frag} {C CF CS:Addr} {l:List (Str×Srx)}
theorem aAv {a dx kd:Addr} {h1 h2 h3 vt vp v3 v4:V} {m:Int} {k k':Cn} {ws:List D} {r0 r1 r2:D} {kn:List (D×D)} {kvs:List (Key×V)} {o:Obj} {u:HO} {Hf:Hp} {D':Ends} {o6 o7:Option V} (cl:Cls K C)
  (ha:Hf a=some (.ins C dx (prV h1 h2 h3 m k))) (hkd:Hf kd=some (.frz o u)) (hr:Rep All Hf v4 (.tup [r0,r1,r2,.tup ws])) (pr:(D.tup [r0,r1,r2,.tup ws]).pure=true) (rk:d9 All Hf kvs kn) (pk:D.aG (kn.map (·.2))=true) (hu:mD ws kn k=some k')
  (q:∀o6 o7 H',jT a Hf H'->H' a=some (.ins C dx (prV h1 h2 h3 m k'))->D'.nx [some (.ref a),some vt,some vp,some v3,some v4,some (.ref kd),o6,o7] H') :
  ∃W:Nat->Nat->L2.St->Hp->Prop,(∃n,W 0 n [some (.ref a),some vt,some vp,some v3,some v4,some (.ref kd),o6,o7] Hf)/\∀i n σ H,W i n σ H->
   ((Iti kd o u kvs).stop i H/\D'.nx σ H)\/((Iti kd o u kvs).go i H/\∃N:L2.St->Hp->Prop,(∀σ' H',N σ' H'->∃n',n'<n/\W (i+1) n' σ' H')/\∀x H',(Iti kd o u kvs).yld i H x H'->aJ9 K 2 (N6 (eV 6) (N6 (eV 7) aJ8)) x σ H' fun σ2 H2=>xH (O7 C "count_uses" (aG3 C) [] E0 (eU 0) (cR (gE aL0 true) (cR (gE aL1 false) sS))) {D' with nx:=N,ct:=N,bk:=D'.nx} σ2 H2):=by
 have nka:kd≠a:=mR hkd ha (by intro z;cases z);refine ⟨fun i n σ H=>n=kvs.length-i/\i<=kvs.length/\(∃o6 o7,σ=[some (.ref a),some vt,some vp,some v3,some v4,some (.ref kd),o6,o7])/\jT a Hf H/\∃ki,H a=some (.ins C dx (prV h1 h2 h3 m ki))/\mD ws (kn.drop i) ki=some k',⟨kvs.length,rfl,Nat.zero_le _,⟨_,_,rfl⟩,fun _ _ e _=>e,k,ha,hu⟩,?_⟩;rintro i n σ H ⟨rfl,hi,⟨o6,o7,rfl⟩,b,ki,hai,hui⟩;have lk:=rk.len;rcases Nat.lt_or_ge i kvs.length with hlt|hge
 ·refine .inr ?_;have e:kvs[i]?=some kvs[i]:=List.getElem?_eq_getElem hlt;obtain ⟨d,e2,rd⟩:=rk.at_ e;obtain ⟨hlt2,e3⟩:=List.getElem?_eq_some_iff.mp e2;rw [List.drop_eq_getElem_cons hlt2,e3] at hui;obtain ⟨x,w,y,z,c,ep,hc,hc2,hui2⟩:=CQ hui;have ek:kD kvs[i].1=.str x:=congrArg (·.1) ep;have ed:d=.tup [w,y,.int z]:=congrArg (·.2) ep;subst ed;have pd:(D.tup [w,y,.int z]).pure=true:=b7.mp pk _ (List.mem_map.mpr ⟨_,List.mem_of_getElem? e2,rfl⟩);have ekV:kV kvs[i].1=.str x:=by
   generalize kvs[i].1=key at ek;cases key with
   | inl j=>cases ek
   | inr t=>cases ek;rfl
  refine ⟨⟨b _ _ hkd nka,_,e⟩,fun σ' H'=>(∃o6 o7,σ'=[some (.ref a),some vt,some vp,some v3,some v4,some (.ref kd),o6,o7])/\jT a Hf H'/\∃ki,H' a=some (.ins C dx (prV h1 h2 h3 m ki))/\mD ws (kn.drop (i+1)) ki=some k',fun σ' H' ⟨n1,n2⟩=>⟨kvs.length-(i+1),by lia,rfl,hlt,n1,n2⟩,fun x' H2 hy=>?_⟩;obtain ⟨bb,p,hp,rfl,hb,rfl⟩:=hy;rw [e] at hp;cases hp;have sm:bO H (upd H bb (.tup [kV kvs[i].1,kvs[i].2])):=bO.upd hb;have us:vR Hf (upd H bb (.tup [kV kvs[i].1,kvs[i].2])):=fun c oc ec uc=>sm _ _ (b c oc ec fun z=>by
   subst z;rw [ha] at ec;cases ec;cases uc)
  refine ⟨bb,[kV kvs[i].1,kvs[i].2],rfl,.inl (.of aF),rfl,_,_,rfl,_,_,rfl,rfl,?_⟩;show xH _ _ [some (.ref a),some vt,some vp,some v3,some v4,some (.ref kd),some (kV kvs[i].1),some kvs[i].2] _;rw [ekV];have hr2:=hr.dY (P':=All) us pr;have rd2:=rd.dY (P':=All) us pd;rw [ekV] at sm hr2 rd2;refine ⟨.ref a,rfl,a,dx,_,rfl,sm _ _ hai,rfl,[.uD,.uD,.uD,.uD,.tup [r0,r1,r2,.tup ws],.uD,.str x,.uD],.int c,(EL.skip (.skip (.skip (.skip (.cons hr2 (.skip (.cons (.str x) (.skip .nil)))))))).er,aEr hc,fun v8 H3 s3 r8 _=>?_⟩;refine ⟨[.uD,.uD,.uD,.uD,.uD,.uD,.uD,.tup [w,y,.int z]],.int z,(EL.skip (.skip (.skip (.skip (.skip (.skip (.skip (.cons (rd2.same s3) .nil)))))))).er,aEs,fun v9 H4 s4 r9 _=>?_⟩;cases r8;cases r9;have ha4:=s4 _ _ (s3 _ _ (sm _ _ hai));refine ⟨a,dx,h1,h2,h3,m,ki,c,z,rfl,ha4,⟨by lia,by lia⟩,⟨_,_,rfl⟩,fun c' oc ec nc=>?_,_,aF,hui2⟩;rw [aN nc];exact s4 _ _ (s3 _ _ (sm _ _ (b c' oc ec nc)))
 ·refine .inl ⟨⟨b _ _ hkd nka,hge⟩,?_⟩;rw [List.drop_eq_nil_of_le (by lia)] at hui;cases hui;exact q _ _ _ b hai
theorem aAw {N:List Str} (hN:N.length=8) (hK:KFrag.K=K) (hC:nsIn K mainGlobals "PlainRun" = some (some (.ref C))) (hCF:nsIn K mainGlobals "Frame" = some (some (.ref CF))) (cl:Cls K C) (nc:bZ K C "calls") (np:bZ K C "copies") (nd:bZ K C "drops") (nm:bZ K C "most")
  (hl:∀ws kn,D.aG ws=true->D.aG (kn.map (·.2))=true->evS [.uD,.tup ws,.dct kn] l=.ok [("words",.tup ws),("left",.int ws.length),("known",.dct kn)]) {vs:List V} {H:Hp} {Q:VK} {E:XK} (h:W3 CF CS vs H Q E):aMb K C CS l E {nx:=fun _ H'=>Q .non H',rt:=Q} (L2.start N vs) H:=by
 obtain ⟨a,vt,vp,hd,mk,rl,m,k,tk,ps,rfl,⟨o1,o2,o3⟩,ptk,pps,ra,rt,rp,hc⟩:=h;have hst:L2.start N [V.ref a,vt,vp]=[some (.ref a),some vt,some vp,none,none,none,none,none]:=by
  unfold L2.start;rw [hN];rfl
 rw [hst];generalize hres:Y6 rl m k tk ps=res at hc;have hne:res≠.bad:=fun z=>by subst z;exact hc
 obtain ⟨w0,xs,z0,more,r0,r1,own,ws,kn,k',rfl,hg,hlen,px,pm,pw,hz,hu,rfl⟩:=yG hres hne;clear hres hne;rw [D.aG,Bool.and_eq_true] at pps;obtain ⟨dx,h1,h2,h3,hsa,e1,e2,e3⟩:=jL hK hC ra;have prl:(D.tup [r0,r1,.tup own,.tup ws]).pure=true:=by
  refine W5 o3 hg
 -- rows 1 to 3
 refine ⟨[.uD,.uD,.lst (.tup [w0,.tup xs,z0]::more)],_,(EL.skip (.skip (.cons rp .nil))).er,aHw,fun v3 Ha s1 rv3 _=>?_⟩;refine ⟨[.ins "PlainRun" (prF hd mk rl m k),tk,.uD,.tup [w0,.tup xs,z0]],_,(EL.cons (ra.same s1) (.cons (rt.same s1) (.skip (.cons rv3 .nil)))).er,aHx ptk hg,fun v4 Hb s2 rv4 _=>?_⟩;refine ⟨[.uD,.uD,.lst (.tup [w0,.tup xs,z0]::more),.tup [w0,.tup xs,z0],.tup [r0,r1,.tup own,.tup ws]],_,(EL.skip (.skip (.cons (rp.same (s1.trans s2)) (.cons (rv3.same s2) (.cons rv4 .nil))))).er,aHy hlen px pm pps.1 hz,fun v5 Hc s3 rv5 n5=>?_⟩;obtain ⟨kd,kvs,u,rfl,fkd,hDV,hkd,hmu,rk,ndk⟩:=aI0 (n5 rfl) (MF hu);have pkn:=MJ hz;have huk:∀o:Obj,aE7 (.frz o u)=true/\aE7 u=true:=fun o=>by
  rcases hDV with z|⟨_,z⟩ <;> (rw [z] at hkd;cases hkd;exact ⟨rfl,rfl⟩)
 have s13:=(s1.trans s2).trans s3;have hac:=s13 _ _ hsa
 -- row 4
 show vP _ _ _ [some (.ref a),some vt,some vp,some v3,some v4,some (.ref kd),none,none] Hc;refine ⟨.ref a,rfl,a,C,dx,_,.int k.c,rfl,hac,cl,nc,rfl,k.c,1,rfl,rfl,.ref a,rfl,a,C,dx,_,rfl,hac,cl,nc,by show 7<1000;decide,?_⟩;rw [W2];have nka:kd≠a:=fun z=>by
  subst z;rw [hac] at hkd;cases hkd;cases hmu
 have b4:jT a Hc (upd Hc a (.ins C dx (prV h1 h2 h3 m k.call))):=jT.upd;have had:upd Hc a (.ins C dx (prV h1 h2 h3 m k.call)) a=some (.ins C dx (prV h1 h2 h3 m k.call)):=aF;show vP _ _ _ [some (.ref a),some vt,some vp,some v3,some v4,some (.ref kd),none,none] (upd Hc a (.ins C dx (prV h1 h2 h3 m k.call)));generalize upd Hc a (.ins C dx (prV h1 h2 h3 m k.call))=Hd at b4 had;have hkd4:=b4 _ _ hkd nka;have hDV4:DV Hd kd kvs:=by
  rcases hDV with z|⟨z0,z⟩
  ·exact .inl (b4 _ _ z nka)
  ·exact .inr ⟨z0,b4 _ _ z nka⟩
 -- row 5
 refine ⟨kd,u,hkd4,hmu,kd,kvs,u,rfl,hDV4,hkd4,fun o He s5=>?_⟩;have hke:=s5 _ _ hkd4;have hae:=s5 _ _ had;have noT:∀ob,He kd=some ob->aE7 ob=true:=fun ob z=>by
  rw [hke] at z;cases z;exact (huk o).2
 have toF:∀{v:V} {d:D},Rep All Hc v d->d.pure=true->Rep All (upd He kd (.frz o u)) v d:=fun r p=>xY noT ((r.dY (P':=All) (b4.use hac) p).same s5) p
 have rkF:d9 All (upd He kd (.frz o u)) kvs kn:=by
  have go:∀{kvs:List (Key×V)} {ds:List (D×D)},d9 (New Hb) Hc kvs ds->D.aG (ds.map (·.2))=true->d9 All (upd He kd (.frz o u)) kvs ds:=by
   intro kvs ds r;induction kvs generalizing ds with
   | nil=>cases r;intro _;exact .nil
   | cons p kvs ih=>cases r with
    | cons r t=>
     intro h;rw [List.map_cons,D.aG,Bool.and_eq_true] at h;exact .cons (toF r.all h.1) (ih t h.2)
  exact go rk pkn
 refine aAv cl (by rw [aN (Ne.symm nka)];exact hae) aF (toF (rv4.same s3) prl) prl rkF pkn hu fun o6 o7 Hg bg hag=>⟨o,u,bg _ _ aF nka,?_⟩
 have hag2:upd Hg kd u a=some (.ins C dx (prV h1 h2 h3 m k')):=by rw [aN (Ne.symm nka)];exact hag
 -- from the beginning on
 have ball:jT a H (upd Hg kd u):=fun c oc ec nca=>by
  have c3:=s13 _ _ ec;have nck:c≠kd:=fun z=>by
   subst z;have:=(s1.trans s2) _ _ ec;rw [show Hb c=none from fkd] at this;cases this
  rw [aN nck];refine bg _ _ ?_ nca;rw [aN nck];exact s5 _ _ (b4 _ _ c3 nca)
 have noT2:∀ob,Hg kd=some ob->aE7 ob=true:=fun ob z=>by
  rw [bg _ _ aF nka] at z;cases z;exact (huk o).1
 have useG:vR (upd He kd (.frz o u)) Hg:=fun c oc ec uc=>bg c oc ec fun z=>by
  subst z;rw [aN (Ne.symm nka),hae] at ec;cases ec;cases uc
 have toG:∀{v:V} {d:D},Rep All Hc v d->d.pure=true->Rep All (upd Hg kd u) v d:=fun r p=>xY noT2 ((toF r p).dY (P':=All) useG p) p
 have hkg:upd Hg kd u kd=some u:=aF;have hDVg:DV (upd Hg kd u) kd kvs:=by
  rcases hDV with z|⟨z0,z⟩
  ·rw [z] at hkd;cases hkd;exact .inl hkg
  ·rw [z] at hkd;cases hkd;exact .inr ⟨z0,hkg⟩
 have rkG:d9 All (upd Hg kd u) kvs kn:=by
  have go:∀{kvs:List (Key×V)} {ds:List (D×D)},d9 (New Hb) Hc kvs ds->D.aG (ds.map (·.2))=true->d9 All (upd Hg kd u) kvs ds:=by
   intro kvs ds r;induction kvs generalizing ds with
   | nil=>cases r;intro _;exact .nil
   | cons p kvs ih=>cases r with
    | cons r t=>
     intro h;rw [List.map_cons,D.aG,Bool.and_eq_true] at h;exact .cons (toG r.all h.1) (ih t h.2)
  exact go rk pkn
 have rv4g:=toG (rv4.same s3) prl;have self4:∀H2,bO (upd Hg kd u) H2->Rep All H2 (.ref a) (.ins "PlainRun" (prF hd mk rl m k')):=fun H2 sm=>by
  have t1:jT a H H2:=fun c oc ec nca=>sm _ _ (ball c oc ec nca)
  exact vI hK hC (sm _ _ hag2) (e1.okK t1 hsa (fun _ h=>h) (yH o1)) (e2.okK t1 hsa (fun _ h=>h) (yH o2)) (e3.okK t1 hsa (fun _ h=>h) (yH o3))
 generalize upd Hg kd u=Hh at hag2 ball hDVg rkG rv4g self4 hkg
 -- row 6
 show vP _ _ _ [some (.ref a),some vt,some vp,some v3,some v4,some (.ref kd),o6,o7] Hh;refine ⟨.ref a,rfl,a,C,dx,_,.int k'.c,rfl,hag2,cl,nc,rfl,.ref a,rfl,a,C,dx,_,.int k'.p,rfl,hag2,cl,np,rfl,k'.c,k'.p,rfl,rfl,.ref a,rfl,a,C,dx,_,.int k'.d,rfl,hag2,cl,nd,rfl,k'.c+k'.p,k'.d,rfl,rfl,.ref a,rfl,a,C,dx,_,.int m,rfl,hag2,cl,nm,rfl,k'.c+k'.p+k'.d,m,rfl,rfl,_,rfl,?_⟩;dsimp only;by_cases hgt:k'.c+k'.p+k'.d > m
 ·rw [if_pos (by simpa using hgt)];rw [if_pos hgt] at hc;exact hc _ ball
 ·rw [if_neg (by simpa using hgt)];rw [if_neg hgt] at hc
  -- row 7
  show aGg (tMk K "Frame" l 2 (cR (gE cf7 false) (cR (eU 5) sS))) {nx:=fun _ H'=>Q .non H',rt:=Q} [some (.ref a),some vt,some vp,some v3,some v4,some (.ref kd),o6,o7] Hh;refine ⟨[.uD,.uD,.uD,.uD,.tup [r0,r1,.tup own,.tup ws]],.tup ws,(EL.skip (.skip (.skip (.skip (.cons rv4g .nil))))).er,aHz,fun v10 Hi s10 r10 _=>⟨.ref kd,rfl,?_⟩⟩;have rkd:Rep All Hi (.ref kd) (.dct kn):=(hDVg.rep trivial rkG ndk).same s10;refine ⟨[.tup ws,.dct kn],_,rfl,.cons r10 (.cons rkd .nil),hl ws kn pw pkn,fun CF' x dxx Hj vf hn hx sj hxj rf=>?_⟩;rw [hCF] at hn;cases hn;have rfa:=rf All (fun _ _=>trivial) (.cons r10 (.cons rkd .nil));cases rfa with
  | cons q1 rfa=>
  cases rfa with
  | cons q2 rfa=>
  cases rfa with
  | cons q3 rfa=>
  cases rfa;cases q2;refine hc Hj x ?_ (fun c oc ec nca=>sj _ _ (s10 _ _ (ball c oc ec nca))) (self4 Hj (s10.trans sj)) ⟨_,_,_,hxj,q1,q3⟩;cases hq:H x with
  | none=>rfl
  | some oo=>
   by_cases hxa:x=a
   ·subst hxa;rw [s10 _ _ hag2] at hx;cases hx
   ·rw [s10 _ _ (ball _ _ hq hxa)] at hx;cases hx
end
end Mi
namespace Mi
open PySem L2 PySem.W PySem.SeqAt PySem.Spec PyProof.Rows
noncomputable abbrev Y7:Int:=1000
noncomputable def aL2:D->Bool
 | .str _=>true
 | _=>false
def tkN (hd:List (D×D)) (w:D):Option Nat:=match getD (.dct hd) w with
 | .ok (.tup [_,.tup ks])=>if D.aG ks&&decide (ks.length<=1000) then some ks.length else none
 | _=>none
def aAx:List D->Option Int
 | []=>some 0
 | .tup [_,_,.int z]::r=>if decide (-Y7<=z)&&decide (z<=Y7) then (aAx r).map (z+·) else none
 | _::_=>none
def MK (hd mk rl:List (D×D)) (m:Int) (k:Cn) (kn:List (D×D)) (st:List D) (w:D):Res (List D×Option (List D×List (D×D))×Cn) :=
  if aL2 w&&sZ kn w&&sZ mk w&&decide (st.length <= 100000) then (match cF kn w with
    | some v => .ok (v::st, none, k)
    | none => match tkN hd w with
      | some n => if n <= st.length then
          (if (cF mk w).isSome then (match aAx (st.take n) with|some z => .ok (.tup [w, .tup (st.take n), .int (1+z)]::st.drop n, none, k)|none => .bad)
           else (match Y6 rl m k w (st.take n) with|.ok (ws, kn', k') => .ok (st.drop n, some (ws, kn'), k')|.err c as => .err c as|.bad => .bad))
        else .bad
      | none => .bad)
  else .bad
def aMc:FT:=bTB (b2 inX fB gQ)
def tkg:FE:=b2 getD gQ fB
def tki:FI:=cO (b2 getD (b2 getD (aAm "PlainRun" "heads" iI) fB) dO) false
def aMd:FT:=bTB (b2 inX fB (aAm "PlainRun" "makers" iI))
def tkv:FE:=gU (aC fB (aC (aX g8 (aC uT aV)) (aC (b2 (aR .add) dO (aX j_ (aC (jQ 6 (cO uT false) GX j7 (b2 getD zH jV) false) aV))) aV)))
variable [KFrag]
theorem aEt {a b c:D} {x:Str} {kn:List (D×D)} (h:sZ kn (.str x)=true):aMc [a,b,c,.str x,.dct kn]=.ok (cF kn (.str x)).isSome:=by
 show (do let y <- (if sZ kn (.str x) then Res.ok (D.bl (cF kn (.str x)).isSome) else .bad);asB y)=_;rw [if_pos h];rfl
theorem aEu {hd mk rl:List (D×D)} {m:Int} {k:Cn} {b c:D} {x:Str} (h:sZ mk (.str x)=true):aMd [.ins "PlainRun" (prF hd mk rl m k),b,c,.str x]=.ok (cF mk (.str x)).isSome:=by
 show (do let y <- (if sZ mk (.str x) then Res.ok (D.bl (cF mk (.str x)).isSome) else .bad);asB y)=_;rw [if_pos h];rfl
theorem aI1 {a b c v:D} {x:Str} {kn:List (D×D)} (h:cF kn (.str x)=some v):tkg [a,b,c,.str x,.dct kn]=.ok v:=by
 show (if keyOk (.str x)=true then Res.ofOpt (cF kn (.str x)) else .bad)=_;rw [h];rfl
theorem aCe {hd mk rl:List (D×D)} {m:Int} {k:Cn} {b c e f:D} {x:Str} {n:Nat} (h:tkN hd (.str x)=some n):∃ks,ks.length=n/\n<=1000/\tki [.ins "PlainRun" (prF hd mk rl m k),b,c,.str x,e,f]=.ok (ks,true):=by
 unfold tkN at h;split at h
 ·rename_i u ks hg;split at h
  ·rename_i hb;rw [Bool.and_eq_true,decide_eq_true_eq] at hb;cases h;refine ⟨ks,rfl,hb.2,?_⟩;have e1:b2 getD (b2 getD (aAm "PlainRun" "heads" iI) fB) dO [.ins "PlainRun" (prF hd mk rl m k),b,c,.str x,e,f]=.ok (.tup ks):=by
    have e0:b2 getD (aAm "PlainRun" "heads" iI) fB [.ins "PlainRun" (prF hd mk rl m k),b,c,.str x,e,f]=.ok (.tup [u,.tup ks]):=hg;exact aL e0 rfl rfl
   unfold tki cO;rw [e1];show Res.ok (ks,false||(D.tup ks).pure)=_;rw [D.pure,hb.1];rfl
  ·cases h
 ·cases h
theorem aI2 {s f w k u:D} {b:Nat} {vs:List D}:∀(its ps acc:List D),its.length=ps.length->D.aG ps=true->xcf (CK 2) acc its [s,f,.cel b ((ps++vs).reverse),w,k,u]=.ok (acc++ps,[s,f,.cel b vs.reverse,w,k,u])
 | [],[],acc,_,_=>by
  show Res.ok (acc,_)=_;rw [List.append_nil];rfl
 | i::its,p::ps,acc,hl,hp=>by
  rw [D.aG,Bool.and_eq_true] at hp;have e:((p::ps)++vs).reverse=(ps++vs).reverse++[p]:=by simp
  rw [e];have h1:CK 2 ([s,f,.cel b ((ps++vs).reverse++[p]),w,k,u]++[i])=.ok (p,[s,f,.cel b ((ps++vs).reverse),w,k,u,i]):=by
   show (match ((ps++vs).reverse++[p])[((ps++vs).reverse++[p]).length-1]? with|some x=>Res.ok (x,[s,f,D.cel b ((ps++vs).reverse++[p]).dropLast,w,k,u,i])|none=>.bad)=_;rw [List.length_append,List.length_singleton,Nat.add_sub_cancel,List.getElem?_append_right (Nat.le_refl _),Nat.sub_self,List.dropLast_concat];rfl
  show (do let q <- CK 2 ([s,f,.cel b ((ps++vs).reverse++[p]),w,k,u]++[i]);if q.1.pure then xcf (CK 2) (acc++[q.1]) its q.2.dropLast else .bad)=_;rw [h1,Res.aU];rw [if_pos hp.1];have ih:=aI2 (s:=s) (f:=f) (w:=w) (k:=k) (u:=u) (b:=b) (vs:=vs) its ps (acc++[p]) (by simpa using hl) hp.2;rw [List.append_assoc] at ih;exact ih
theorem aI3 {hd mk rl:List (D×D)} {m:Int} {k:Cn} {f e u:D} {x:Str} {n:Nat} {b:Nat} {st:List D} (h:tkN hd (.str x)=some n) (hn:n<=st.length) (hp:D.aG st=true):V5 tki (CK 2) [.ins "PlainRun" (prF hd mk rl m k),f,.cel b st.reverse,.str x,e,u]=.ok (.lst (st.take n),[.ins "PlainRun" (prF hd mk rl m k),f,.cel b (st.drop n).reverse,.str x,e,u]):=by
 obtain ⟨ks,hk,hb,he⟩:=aCe (hd:=hd) (mk:=mk) (rl:=rl) (m:=m) (k:=k) (b:=f) (c:=.cel b st.reverse) (e:=e) (f:=u) h;unfold V5;rw [he,Res.aU];rw [if_pos (by rw [Bool.true_and];exact decide_eq_true (Nat.le_trans (Nat.le_of_eq hk) (Nat.le_trans hb (by decide))))];have hs:st=st.take n++st.drop n:=(List.take_append_drop n st).symm;have pt:D.aG (st.take n)=true:=b7.mpr fun y hy=>b7.mp hp y (List.mem_of_mem_take hy)
 have:=aI2 (s:=.ins "PlainRun" (prF hd mk rl m k)) (f:=f) (w:=.str x) (k:=e) (u:=u) (b:=b) (vs:=st.drop n) ks (st.take n) [] (by rw [hk,List.length_take];lia) pt;rw [<-hs] at this;rw [this];rfl
theorem MN {ρ:List D} (hρ:ρ.length=6):∀{ps:List D} {z:Int},aAx ps=some z->∃ns:List Int,ns.length=ps.length/\ns.sum=z/\(∀i∈ns,-Y7<=i/\i<=Y7)/\∀acc:List D,uV (GZ 6 GX j7 (b2 getD zH jV) false ρ) acc ps=.ok (acc++ns.map D.int)
 | [],z,h=>by cases h;exact ⟨[],rfl,rfl,(fun i hi=>by cases hi),fun acc=>by rw [List.map_nil,List.append_nil];rfl⟩
 | p::r,z,h=>by
  unfold aAx at h;split at h
  ·cases ‹_::_=[]›
  ·rename_i a b y r' e;cases e;split at h
   ·rename_i hb;rw [Bool.and_eq_true,decide_eq_true_eq,decide_eq_true_eq] at hb;obtain ⟨z',h1,rfl⟩:=Option.map_eq_some_iff.mp h;obtain ⟨ns,i1,i2,i3,i4⟩:=MN hρ h1;refine ⟨y::ns,by rw [List.length_cons,List.length_cons,i1],by rw [List.sum_cons,i2],fun i hi=>?_,fun acc=>?_⟩
    ·rcases List.mem_cons.mp hi with rfl|hi
     ·exact hb
     ·exact i3 i hi
    ·have e6:bT 6 (ρ++[D.tup [a,b,.int y]])=.ok (.tup [a,b,.int y]):=bV (by rw [List.getD_eq_getElem?_getD,List.getElem?_append_right (by lia),hρ];rfl) (by intro z;cases z);rw [uV,BK hρ (b:=true) rfl fun _=>⟨aL e6 rfl rfl,rfl⟩];show uV _ (acc++[D.int y]) _=_;rw [i4,List.append_assoc];rfl
   ·cases h
  ·cases h
theorem MP:∀ns:List Int,intsOf (ns.map D.int)=some ns
 | []=>rfl
 | n::ns=>by
  show (intsOf (ns.map D.int)).map (n::·)=_;rw [MP ns];rfl
theorem aI4 {a b c e:D} {x:Str} {ps:List D} {z:Int} (h:aAx ps=some z) (hl:ps.length<=1000):tkv [a,b,c,.str x,e,.lst ps]=.ok (.tup [.str x,.tup ps,.int (1+z)]):=by
 obtain ⟨ns,i1,i2,i3,i4⟩:=MN (ρ:=[a,b,c,.str x,e,.lst ps]) rfl h;have e1:jQ 6 (cO uT false) GX j7 (b2 getD zH jV) false [a,b,c,.str x,e,.lst ps]=.ok (.lst (ns.map D.int)):=VD (kk:=false||(D.lst ps).pure) (xs:=ps) rfl (by rw [bQ];lia) (i4 []);have e2:j_ [.lst (ns.map D.int)]=.ok (.int z):=by
  show (match intsOf (ns.map D.int) with|some ns=>if ns.all (fun i=>decide (-Y7<=i)&&decide (i<=Y7))&&decide (ns.length<=100000) then Res.ok (D.int ns.sum) else .bad|none=>.bad)=_;rw [MP];dsimp only;rw [if_pos,i2];rw [Bool.and_eq_true,List.all_eq_true,decide_eq_true_eq];refine ⟨fun i hi=>?_,by lia⟩;rw [Bool.and_eq_true,decide_eq_true_eq,decide_eq_true_eq];exact i3 i hi
 exact j9 (aH rfl (aH (bG (aH rfl rfl) (show g8 [.lst ps]=.ok (.tup ps) from rfl)) (aH (aL rfl (bG (aH e1 rfl) e2) rfl) rfl))) (by show 3<=lim;decide)
def kTk (CF CS:Addr) (a af av:Addr) (fl:List V) (hd mk rl:List (D×D)) (m:Int) (H:Hp) (Q:VK) (E:XK):Res (List D×Option (List D×List (D×D))×Cn)->Prop
 | .ok (st',none,_)=>∀H' vs',jT av H H'->H' av=some (.lst vs')->bF All H' vs' st'.reverse->Q .non H'
 | .ok (st',some (ws',kn'),k')=>∀H' vs' x,H x=none->aJo (fun b=>b=a\/b=af\/b=av) H H'->Rep All H' (.ref a) (.ins "PlainRun" (prF hd mk rl m k'))->H' af=some (.lst (fl++[.ref x]))->FrA CF H' x ws' ws'.length kn'->H' av=some (.lst vs')->bF All H' vs' st'.reverse->Q .non H'
 | .err _ _=>∀H',aJo (fun b=>b=a\/b=af\/b=av) H H'->E (.ref CS) none H'
 | .bad=>False
def aI5 (CF CS:Addr):Sp:=fun vs H Q E=>∃a af av vw hd mk rl m k kn st w fl fr ws i vs0,vs=[.ref a,.ref af,.ref av,vw]/\okR hd mk rl/\D.aG (kn.map (·.2))=true/\D.aG st=true/\Rep All H (.ref a) (.ins "PlainRun" (prF hd mk rl m k))/\H af=some (.lst fl)/\fl.length<1000000/\atI fl (-1)=some (.ref fr)/\FrA CF H fr ws i kn/\H av=some (.lst vs0)/\bF All H vs0 st.reverse/\af≠av/\Rep All H vw w/\kTk CF CS a af av fl hd mk rl m H Q E (MK hd mk rl m k kn st w)
def aMe (K:PySem.W.Frag) (C CF CS:Addr) (E:XK):TS:=aFx (gT aMd) (xH (tBM K "list" xN (eU 2) (cR (gE tkv false) sS)))
 (xH (tBM K "list" xN (eU 1) (cR (O7 C "called" (W3 CF CS) [] E (eU 0) (cR (eU 3) (cR (eU 5) sS))) sS)))
def aMf (K:PySem.W.Frag) (C CF CS:Addr) (E:XK):TS:=aFx (gT aMc) (xH (tBM K "list" xN (eU 2) (cR (gE tkg false) sS)))
 (vP (zM (gX (own1 2) (V5 tki (CK 2))) (eV 5)) (aMe K C CF CS E))
def tTk (K:PySem.W.Frag) (C CF CS:Addr) (E:XK):TS:=vP (zM (JT K (tOp (aJc K) (eU 1) tm1) "known") (eV 4)) (aMf K C CF CS E)
theorem aAy {X:Cx} {own:Nat->Bool} {scope:Scope} {elt iter:Expr} {tg:Expr} {it:FI} {f:FX} {n:Nat} {cn y:Str} {py pos pos2:Pos} {iy:Nat} (S:fG X.N X.env.scope scope [cn]) (hn:X.N.length=n) (hcalm:X.calm=true) (hon:own n=false) (hi:PI X tg iter (gI X.K it)) (hg:∀y,PG (mkC X scope [cn] y) tg (eV n)) (he:∀y,PE (mkC X scope [cn] y) elt (gX own f))
  (hs:∀x,foldedSetIterable iter X.env x=pure x) (hNn:X.N.Nodup) (hiy:X.N[iy]?=some y) (hxy:Loc X.env.scope y) (hfy:X.fn y=true\/X.env.scope.names.lookup y=some .local) (hsw:swapsWith (.ListComp elt [⟨tg,iter,[],0⟩] scope pos) (some (.Name y py)) pos2.line X.env=pure true) :
  PS X (.Assign [.Name y py] (.ListComp elt [⟨tg,iter,[],0⟩] scope pos) pos2) (zM (gX own (V5 it f)) (eV iy)):=by
 intro pins s σ H D I h;refine KH S hcalm hi (fun X' cc=>by obtain ⟨y,rfl⟩:=wJ cc;exact hg y) (fun X' cc=>by obtain ⟨y,rfl⟩:=wJ cc;exact he y) hs hNn hiy hxy hfy hsw pins s σ H D I ?_;exact QR hon (I.len.trans hn) h
theorem jM {x:Addr} {H H':Hp} {xs:List V} (b:jT x H H') (hx:H x=some (.lst xs)) {v:V} {kn:List (D×D)} (r:Rep All H v (.dct kn)) (p:D.aG (kn.map (·.2))=true):Rep (fun c=>c≠x) H' v (.dct kn):=by
 have k:vR H H':=fun a o e u=>b a o e fun z=>by
  subst z;rw [hx] at e;cases e;cases u
 cases r with
 | dK e _ r n=>
  have ne:=mR e hx (by intro z;cases z);exact .dK (b _ _ e ne) ne (r.dY k p) n
 | dT e _ r n=>
  have ne:=mR e hx (by intro z;cases z);exact .dT (b _ _ e ne) ne (r.dY k p) n
theorem nW {st:List D} {n:Nat} (h:D.aG st=true):D.aG (st.drop n)=true:=b7.mpr fun y hy=>b7.mp h y (List.mem_of_mem_drop hy)
theorem wU {st:List D} {n:Nat} (h:D.aG st=true):D.aG (st.take n)=true:=b7.mpr fun y hy=>b7.mp h y (List.mem_of_mem_take hy)
theorem aI6 {rl:List (D×D)} {m:Int} {k k':Cn} {tk:D} {ps ws:List D} {kn:List (D×D)} (h:Y6 rl m k tk ps=.ok (ws,kn,k')):D.aG ws=true:=by
 obtain ⟨w0,xs,z0,more,r0,r1,own,ws',kn',k'',_,_,_,_,_,pw,hz,_,e⟩:=yG h (by intro z;cases z);split at e
 ·cases e
 ·cases e;exact pw
theorem aMg {rl:List (D×D)} {m:Int} {k k':Cn} {tk:D} {ps ws:List D} {kn:List (D×D)} (h:Y6 rl m k tk ps=.ok (ws,kn,k')):D.aG (kn.map (·.2))=true:=by
 obtain ⟨w0,xs,z0,more,r0,r1,own,ws',kn',k'',_,_,_,_,_,pw,hz,_,e⟩:=yG h (by intro z;cases z);split at e
 ·cases e
 ·cases e;exact MJ hz
section
variable {K:PySem.W.Frag} {C CF CS:Addr}
theorem aEv {N:List Str} (hN:N.length=6) (hK:KFrag.K=K) (hC:nsIn K mainGlobals "PlainRun" = some (some (.ref C))) (clF:Cls K CF) (nk:bZ K CF "known") {vs:List V} {H:Hp} {Q:VK} {E:XK} (h:aI5 CF CS vs H Q E):tTk K C CF CS E {nx:=fun _ H'=>Q .non H',rt:=Q} (L2.start N vs) H:=by
 obtain ⟨a,af,av,vw,hd,mk,rl,m,k,kn,st,w,fl,fr,ws,i,vs0,rfl,⟨o1,o2,o3⟩,pkn,pst,ra,hf,hfl,hlast,⟨dxf,w1,w3,hfr,rw1,rw3⟩,hv,rv,hne,rw,hc⟩:=h;have hst:L2.start N [V.ref a,.ref af,.ref av,vw]=[some (.ref a),some (.ref af),some (.ref av),some vw,none,none]:=by
  unfold L2.start;rw [hN];rfl
 rw [hst];unfold MK at hc;split at hc
 ·rename_i hb;simp only [Bool.and_eq_true,decide_eq_true_eq] at hb;obtain ⟨⟨⟨hb1,hb2⟩,hb3⟩,hb4⟩:=hb;obtain ⟨x,rfl⟩:∃x,w=.str x:=by
   cases w with
   | str x=>exact ⟨x,rfl⟩
   | _=>cases hb1
  have lv:vs0.length<=100000:=by rw [rv.length,List.length_reverse];exact hb4
  obtain ⟨dx,h1,h2,h3,hsa,e1,e2,e3⟩:=jL hK hC ra;have nva:a≠av:=mR hsa hv (by intro z;cases z);have nfa:a≠af:=mR hsa hf (by intro z;cases z)
  -- known
  refine ⟨.ref af,rfl,1,rfl,af,fl,-1,.ref fr,rfl,rfl,.of hf,hlast,fr,CF,dxf,_,w3,rfl,hfr,clF,nk,rfl,?_⟩;show aMf K C CF CS E {nx:=fun _ H'=>Q .non H',rt:=Q} [some (.ref a),some (.ref af),some (.ref av),some vw,some w3,none] H;refine ⟨[.uD,.uD,.uD,.str x,.dct kn],_,(EL.skip (.skip (.skip (.cons rw (.cons rw3 .nil))))).er,aEt hb2,fun H1 s1=>?_⟩;split at hc
  ·rename_i v hlk;rw [hlk];show (if true=true then _ else _);rw [if_pos rfl];refine ⟨.ref av,rfl,.inl ⟨rfl,_,.of (s1 _ _ hv)⟩,[.uD,.uD,.uD,.str x,.dct kn],v,(EL.skip (.skip (.skip (.cons (rw.same s1) (.cons (rw3.same s1) .nil))))).er,aI1 hlk,fun vv H2 s2 rvv _=>⟨av,vs0,vv,rfl,rfl,s2 _ _ (s1 _ _ hv),Nat.lt_of_le_of_lt lv (by rw [sizeLine_eq];decide),?_⟩⟩;have hv2:=s2 _ _ (s1 _ _ hv);have pv:v.pure=true:=yI pkn hlk;refine hc _ (vs0++[vv]) (fun b o e nb=>?_) aF ?_
   ·rw [aN nb];exact s2 _ _ (s1 _ _ e)
   ·rw [List.reverse_cons];exact (((rv.same s1).same s2).snoc rvv).upd (by rw [iW,fK pst];simp [D.aG,pv]) hv2 rfl
  ·rename_i hlk;rw [hlk];show (if false=true then _ else _);rw [if_neg Bool.false_ne_true];split at hc
   ·rename_i n hn;split at hc
    ·rename_i hle;have b1:jT av H H1:=jT.same s1;have d1:=jM b1 hv e1 o1;have d2:=jM b1 hv e2 o2;have d3:=jM b1 hv e3 o3;have hv1:=s1 _ _ hv;have hO:∀b,Own (own1 2) [some (.ref a),some (.ref af),some (.ref av),some vw,some w3,none] b↔b=av:=fun b=>by
      constructor
      ·rintro ⟨j,hj,e⟩;have:j=2:=by simpa [own1] using hj
       subst this;cases e;rfl
      ·rintro rfl;exact ⟨2,rfl,rfl⟩
     have hOf:(fun b=>¬Own (own1 2) [some (.ref a),some (.ref af),some (.ref av),some vw,some w3,none] b)=fun b=>b≠av:=funext fun b=>by rw [hO]
     refine ⟨[.ins "PlainRun" (prF hd mk rl m k),.uD,.cel av st.reverse,.str x,.uD,.uD],_,_,⟨rfl,fun j hj=>?_,fun j u hj hu=>?_⟩,aI3 hn hle pst,fun v5 H2 ku E2 _ r5=>?_⟩
     ·rw [hOf]
      match j,hj with
      | 0,_=>exact ⟨_,rfl,fun _=>vI hK hC (s1 _ _ hsa) d1 d2 d3⟩
      | 1,hj=>exact absurd rfl hj
      | 2,_=>exact ⟨_,rfl,fun h=>by cases h⟩
      | 3,_=>exact ⟨_,rfl,fun _=>(rw.same s1).bL rfl⟩
      | 4,hj=>exact absurd rfl hj
      | 5,hj=>exact absurd rfl hj
      | j+6,hj=>exact absurd rfl hj
     ·have:j=2:=by simpa [own1] using hj
      subst this;cases hu;exact ⟨av,_,rfl,.cel hv1 trivial (rv.same s1),fK pst,hv1,rfl,fun q hq _=>by simpa [own1] using hq⟩
     ·have b2:jT av H1 H2:=fun b o e nb=>(ku b o e fun z=>nb ((hO b).mp z)).1
      obtain ⟨vs1,hv2,rv2⟩:∃vs1,H2 av=some (.lst vs1)/\bF All H2 vs1 (st.drop n).reverse:=by
       obtain ⟨ad,o,ea,r,_⟩:=E2.own 2 (.ref av) rfl rfl;cases r with
       | cel e _ r=>exact ⟨_,e,r⟩
      have hsa2:=b2 _ _ (s1 _ _ hsa) nva;have b12:jT av H H2:=fun b o e nb=>b2 _ _ (s1 _ _ e) nb
      have ra2:Rep All H2 (.ref a) (.ins "PlainRun" (prF hd mk rl m k)):=vI hK hC hsa2 (jM b12 hv e1 o1).all (jM b12 hv e2 o2).all (jM b12 hv e3 o3).all;have rw2:Rep All H2 vw (.str x):=by cases rw;exact .str x
      show aMe K C CF CS E {nx:=fun _ H'=>Q .non H',rt:=Q} [some (.ref a),some (.ref af),some (.ref av),some vw,some w3,some v5] H2;refine ⟨[.ins "PlainRun" (prF hd mk rl m k),.uD,.uD,.str x],_,(EL.cons ra2 (.skip (.skip (.cons rw2 .nil)))).er,aEu hb3,fun H3 s3=>?_⟩;split at hc
      ·rename_i hm;rw [hm];rw [if_pos rfl];split at hc
       ·rename_i z hz;refine ⟨.ref av,rfl,.inl ⟨rfl,_,.of (s3 _ _ hv2)⟩,[.uD,.uD,.uD,.str x,.uD,.lst (st.take n)],_,(EL.skip (.skip (.skip (.cons (rw2.same s3) (.skip (.cons (r5.all.same s3) .nil)))))).er,aI4 hz (by rw [List.length_take];have:=aCe (hd:=hd) (mk:=mk) (rl:=rl) (m:=m) (k:=k) (b:=.uD) (c:=.uD) (e:=.uD) (f:=.uD) hn;obtain ⟨_,_,q,_⟩:=this;lia),fun vv H4 s4 rvv _=>⟨av,vs1,vv,rfl,rfl,s4 _ _ (s3 _ _ hv2),?_,?_⟩⟩
        ·have:=rv2.length;rw [List.length_reverse,List.length_drop] at this;rw [sizeLine_eq];lia
        ·have hv4:=s4 _ _ (s3 _ _ hv2);refine hc _ (vs1++[vv]) (fun b o e nb=>?_) aF ?_
         ·rw [aN nb];exact s4 _ _ (s3 _ _ (b12 _ _ e nb))
         ·rw [List.reverse_cons];refine (((rv2.same s3).same s4).snoc rvv).upd ?_ hv4 rfl;rw [iW,fK (nW pst)];simp [D.aG,D.pure,wU pst]
       ·exact hc.elim
      ·rename_i hm;rw [Bool.not_eq_true] at hm;rw [hm];rw [if_neg Bool.false_ne_true];have hf3:=s3 _ _ (b2 _ _ (s1 _ _ hf) hne);have hv3:=s3 _ _ hv2;have bs:∀H4,jT a H3 H4->aJo (fun b=>b=a\/b=af\/b=av) H H4:=fun H4 b4 b o e nb=>b4 _ _ (s3 _ _ (b12 _ _ e fun z=>nb (.inr (.inr z)))) fun z=>nb (.inl z)
       refine ⟨.ref af,rfl,.inl ⟨rfl,_,.of hf3⟩,.ref a,rfl,a,dx,_,rfl,s3 _ _ hsa2,rfl,vw,rfl,v5,rfl,a,vw,v5,hd,mk,rl,m,k,.str x,st.take n,rfl,⟨o1,o2,o3⟩,rfl,wU pst,ra2.same s3,rw2.same s3,r5.all.same s3,?_⟩;cases hq:Y6 rl m k (.str x) (st.take n) with
       | ok r=>
        obtain ⟨ws',kn',k'⟩:=r;rw [hq] at hc;intro H4 xx hxx b4 rs fa;have hf4:=b4 _ _ hf3 (Ne.symm nfa);have hv4:=b4 _ _ hv3 (Ne.symm nva);refine ⟨af,fl,.ref xx,rfl,rfl,hf4,by rw [sizeLine_eq];lia,?_⟩;have nxf:xx≠af:=fun z=>by rw [z,hf3] at hxx;cases hxx
        have us:vR H4 (upd H4 af (.lst (fl++[.ref xx]))):=fun b o e u=>by
         rw [aN (fun z=>by subst z;rw [hf4] at e;cases e;cases u)];exact e
        have bf:jT af H4 (upd H4 af (.lst (fl++[.ref xx]))):=jT.upd;have dk:∀{v:V} {kk:List (D×D)},Rep All H4 v (.dct kk)->D.aG (kk.map (·.2))=true->Rep All (upd H4 af (.lst (fl++[.ref xx]))) v (.dct kk):=fun r p=>(jM bf hf4 r p).all
        obtain ⟨dx4,g1,g2,g3,hs4,q1,q2,q3⟩:=jL hK hC rs;obtain ⟨dxx,y1,y3,hx4,ry1,ry3⟩:=fa;refine hc _ vs1 xx ?_ (fun b o e nb=>?_) (vI hK hC (by rw [aN nfa];exact hs4) (dk q1 o1) (dk q2 o2) (dk q3 o3)) aF ⟨dxx,y1,y3,by rw [aN nxf];exact hx4,?_,?_⟩ (by rw [aN (Ne.symm hne)];exact hv4) ?_
        ·cases hh:H xx with
         | none=>rfl
         | some oo=>
          exfalso;by_cases hxv:xx=av
          ·rw [hxv,hv3] at hxx;cases hxx
          ·rw [s3 _ _ (b12 _ _ hh hxv)] at hxx;cases hxx
        ·rw [aN fun z=>nb (.inr (.inl z))];exact bs H4 b4 b o e nb
        ·exact ry1.dY us (by rw [D.pure];exact aI6 hq)
        ·exact dk ry3 (aMg hq)
        ·have r4:bF All H4 vs1 (st.drop n).reverse:=(rv2.same s3).dY (b4.use (s3 _ _ hsa2)) (fK (nW pst));exact r4.dY us (fK (nW pst))
       | err c as=>
        rw [hq] at hc;exact fun H4 b4=>hc H4 (bs H4 b4)
       | bad=>
        rw [hq] at hc;exact hc.elim
    ·exact hc.elim
   ·exact hc.elim
 ·exact hc.elim
end
theorem aAz {hd mk rl:List (D×D)} {m:Int} {k k':Cn} {kn kn':List (D×D)} {st st' ws':List D} {w:D} (h:MK hd mk rl m k kn st w=.ok (st',some (ws',kn'),k')):D.aG ws'=true/\D.aG (kn'.map (·.2))=true:=by
 unfold MK at h;split at h
 ·split at h
  ·cases h
  ·split at h
   ·split at h
    ·split at h
     ·split at h <;> cases h
     ·split at h
      ·rename_i hq;cases h;exact ⟨aI6 hq,aMg hq⟩
      ·cases h
      ·cases h
    ·cases h
   ·cases h
 ·cases h
end Mi
namespace Mi
open PySem L2 PySem.W PySem.SeqAt PySem.Spec PyProof.Rows
structure Fr where
 ws:List D
 i:Nat
 kn:List (D×D)
def runN (hd mk rl:List (D×D)) (m:Int):Nat->List Fr->List D->Cn->Res (List D×Cn)
 | 0,_,_,_=>.bad
 | _+1,[],st,k=>.ok (st,k)
 | n+1,⟨_,0,_⟩::r,st,k=>runN hd mk rl m n r st k
 | n+1,⟨ws,i+1,kn⟩::r,st,k=>match ws[i]? with
  | none=>.bad
  | some w=>if decide (r.length<900000) then (match MK hd mk rl m k kn st w with
   | .ok (st',none,_)=>if D.aG st' then runN hd mk rl m n (⟨ws,i,kn⟩::r) st' k else .bad
   | .ok (st',some (ws',kn'),k')=>if D.aG st' then runN hd mk rl m n (⟨ws',ws'.length,kn'⟩::⟨ws,i,kn⟩::r) st' k' else .bad
   | .err c as=>.err c as
   | .bad=>.bad) else .bad
theorem nD {hd mk rl:List (D×D)} {m:Int}:∀{n:Nat} {fs:List Fr} {st:List D} {k:Cn} {r:Res (List D×Cn)},runN hd mk rl m n fs st k=r->r≠.bad->∀j,runN hd mk rl m (n+j) fs st k=r
 | 0,_,_,_,_,h,hr,_=>absurd h.symm hr
 | n+1,[],st,k,r,h,hr,j=>by
  rw [Nat.add_right_comm];exact h
 | n+1,⟨ws,0,kn⟩::fs,st,k,r,h,hr,j=>by
  rw [Nat.add_right_comm];exact nD (n:=n) (fs:=fs) h hr j
 | n+1,⟨ws,i+1,kn⟩::fs,st,k,r,h,hr,j=>by
  rw [Nat.add_right_comm];unfold runN at h ⊢;split at h
  ·exact absurd h.symm hr
  ·split at h
   ·rename_i hb;rw [if_pos hb];split at h
    ·split at h
     ·rename_i hp;rw [if_pos hp];exact nD (n:=n) h hr j
     ·exact absurd h.symm hr
    ·split at h
     ·rename_i hp;rw [if_pos hp];exact nD (n:=n) h hr j
     ·exact absurd h.symm hr
    ·exact h
    ·exact absurd h.symm hr
   ·exact absurd h.symm hr
theorem aEw {hd mk rl:List (D×D)} {m:Int} {n n':Nat} {fs:List Fr} {st:List D} {k:Cn} {r r':Res (List D×Cn)} (h:runN hd mk rl m n fs st k=r) (hr:r≠.bad) (h':runN hd mk rl m n' fs st k=r') (hr':r'≠.bad):r=r':=by
 have e1:=nD h hr n';have e2:=nD h' hr' n;rw [Nat.add_comm] at e2;exact e1.symm.trans e2
noncomputable def aI7:Res (List D×Cn)->Res (D×Cn)
 | .ok (st,k)=>match st.getLast? with
  | some y=>.ok (y,k)
  | none=>.bad
 | .err c as=>.err c as
 | .bad=>.bad
open Classical in
def RK (hd mk rl:List (D×D)) (m:Int) (ws:List D):Res (D×Cn):=
 if h:∃r,r≠.bad/\∃n,runN hd mk rl m n [⟨ws,ws.length,[]⟩] [] ⟨0,0,0⟩=r then aI7 h.choose else .bad
theorem W6 {hd mk rl:List (D×D)} {m:Int} {ws:List D} {r:Res (List D×Cn)} {n:Nat} (h:runN hd mk rl m n [⟨ws,ws.length,[]⟩] [] ⟨0,0,0⟩=r) (hr:r≠.bad):RK hd mk rl m ws=aI7 r:=by
 have e:∃r,r≠.bad/\∃n,runN hd mk rl m n [⟨ws,ws.length,[]⟩] [] ⟨0,0,0⟩=r:=⟨r,hr,n,h⟩
 obtain ⟨h1,n',h2⟩:=e.choose_spec;unfold RK;rw [dif_pos e,aEw h2 h1 h hr]
theorem W7 {hd mk rl:List (D×D)} {m:Int} {ws:List D} {q:Res (D×Cn)} (h:RK hd mk rl m ws=q) (hq:q≠.bad):∃r n,r≠.bad/\runN hd mk rl m n [⟨ws,ws.length,[]⟩] [] ⟨0,0,0⟩=r/\aI7 r=q:=by
 unfold RK at h;split at h
 ·rename_i e;obtain ⟨h1,n',h2⟩:=e.choose_spec;exact ⟨_,n',h1,h2,h⟩
 ·exact absurd h.symm hq
variable [KFrag]
noncomputable def loud:HO->Bool
 | .lst _=>true
 | .ins _ _ _=>true
 | _=>false
structure Lb (S:Addr->Prop) (H H':Hp):Prop where
 bs:aJo S H H'
 ld:∀b,S b->∃o,H b=some o/\loud o=true
theorem Lb.use {S:Addr->Prop} {H H':Hp} (x:Lb S H H'):vR H H':=fun b o e u=>x.bs b o e fun z=>by
 obtain ⟨o',e',hl⟩:=x.ld b z;rw [e] at e';cases e';cases o <;> first|(cases hl;done)|(cases u;done)
theorem Lb.same {H H':Hp} (s:bO H H'):Lb (fun _=>False) H H':=⟨fun b o e _=>s b o e,fun _ z=>z.elim⟩
theorem Lb.but {x:Addr} {H H':Hp} {o:HO} (b:jT x H H') (hx:H x=some o) (hl:loud o=true):Lb (fun c=>c=x) H H':=⟨fun c oc e n=>b c oc e n,fun c z=>by subst z;exact ⟨o,hx,hl⟩⟩
theorem Lb.dct {S:Addr->Prop} {H H':Hp} (x:Lb S H H') {v:V} {kn:List (D×D)} (r:Rep All H v (.dct kn)) (p:D.aG (kn.map (·.2))=true):Rep All H' v (.dct kn):=by
 cases r with
 | dK e _ r n=>exact .dK (x.bs _ _ e fun z=>by obtain ⟨o,e',hl⟩:=x.ld _ z;rw [e] at e';cases e';cases hl) trivial (r.dY x.use p) n
 | dT e _ r n=>exact .dT (x.bs _ _ e fun z=>by obtain ⟨o,e',hl⟩:=x.ld _ z;rw [e] at e';cases e';cases hl) trivial (r.dY x.use p) n
theorem Lb.fra {S:Addr->Prop} {H H':Hp} {CF fr:Addr} {ws:List D} {i:Nat} {kn:List (D×D)} (x:Lb S H H') (h:FrA CF H fr ws i kn) (p:D.aG ws=true) (pk:D.aG (kn.map (·.2))=true) (n:¬S fr):FrA CF H' fr ws i kn:=by
 obtain ⟨dx,w1,w3,e,r1,r3⟩:=h;exact ⟨dx,w1,w3,x.bs _ _ e n,r1.dY x.use (by rw [D.pure];exact p),x.dct r3 pk⟩
def RL (CF:Addr) (H0 H:Hp):List Addr->List Fr->Prop
 | [],[]=>True
 | x::as,f::fs=>FrA CF H x f.ws f.i f.kn/\D.aG f.ws=true/\D.aG (f.kn.map (·.2))=true/\H0 x=none/\x∉as/\RL CF H0 H as fs
 | _,_=>False
theorem Lb.frs {S:Addr->Prop} {H0 H H':Hp} {CF:Addr} (x:Lb S H H'):∀{as:List Addr} {fs:List Fr},RL CF H0 H as fs->(∀b∈as,¬S b)->RL CF H0 H' as fs
 | [],[],_,_=>trivial
 | a::as,f::fs,⟨h1,h2,h3,h4,h5,h6⟩,n=>⟨x.fra h1 h2 h3 (n a (by simp)),h2,h3,h4,h5,Lb.frs x h6 fun b hb=>n b (by simp [hb])⟩
 | [],_::_,h,_=>h.elim
 | _::_,[],h,_=>h.elim
theorem RL.ins {CF:Addr} {H0 H:Hp}:∀{as:List Addr} {fs:List Fr},RL CF H0 H as fs->∀b∈as,H0 b=none/\∃C dx fs,H b=some (.ins C dx fs)
 | [],[],_,b,hb=>by cases hb
 | a::as,f::fs,⟨⟨dx,w1,w3,e,_⟩,h2,h3,h4,h5,h6⟩,b,hb=>by
  rcases List.mem_cons.mp hb with rfl|hb
  ·exact ⟨h4,_,_,_,e⟩
  ·exact RL.ins h6 b hb
 | [],_::_,h,_,_=>h.elim
 | _::_,[],h,_,_=>h.elim
theorem RL.len {CF:Addr} {H0 H:Hp}:∀{as:List Addr} {fs:List Fr},RL CF H0 H as fs->as.length=fs.length
 | [],[],_=>rfl
 | a::as,f::fs,⟨_,_,_,_,_,h6⟩=>by rw [List.length_cons,List.length_cons,RL.len h6]
 | [],_::_,h=>h.elim
 | _::_,[],h=>h.elim
structure VI (CF:Addr) (hd mk rl:List (D×D)) (m:Int) (H0:Hp) (a af av:Addr) (fs:List Fr) (st:List D) (k:Cn) (H:Hp):Prop where
 sm:jT a H0 H
 self:Rep All H (.ref a) (.ins "PlainRun" (prF hd mk rl m k))
 frs:∃as,H af=some (.lst (as.map V.ref).reverse)/\RL CF H0 H as fs
 val:∃vs,H av=some (.lst vs)/\bF All H vs st.reverse
 pv:D.aG st=true
def aMh:FE:=b2 getD (aAm "Frame" "words" gQ) (aAm "Frame" "left" gQ)
noncomputable def frK (ws:List D) (i:Nat) (kn:List (D×D)):D:=.ins "Frame" [("words",.tup ws),("left",.int i),("known",.dct kn)]
theorem aEx {ws:List D} {j:Nat} {w:D} {kn:List (D×D)} (h:ws[j]?=some w):aMh [.uD,.uD,.uD,.uD,frK ws j kn]=.ok w:=by
 have hj:j<ws.length:=by
  rcases Nat.lt_or_ge j ws.length with z|z
  ·exact z
  ·rw [List.getElem?_eq_none z] at h;cases h
 show (Res.ofOpt ((ixD ws.length (j:Int)).bind fun i=>ws[i]?))=.ok w;unfold ixD;rw [if_pos (by lia),if_pos (by lia)];show Res.ofOpt (ws[(j:Int).toNat]?)=.ok w;rw [Int.toNat_natCast,h];rfl
def aMi (C CF CS:Addr) (E:XK):TS:=xH (O7 C "take_word" (aI5 CF CS) [] E (eU 0) (cR (eU 2) (cR (eU 3) (cR (gE aMh false) sS))))
def aMj (K:PySem.W.Frag) (C CF CS:Addr) (E:XK):TS:=aFx (tB (aJu (JT K (eU 4) "left") (tC (.int 0)))) (xH (aKx K 2))
  (vP (aFy K (eU 4) (aJs (JT K (eU 4) "left") (tC (.int 1))) "left") (aMi C CF CS E))
def tWB (K:PySem.W.Frag) (C CF CS:Addr) (E:XK):TS:=vP (zM (tOp (aJc K) (eU 2) tm1) (eV 4)) (aMj K C CF CS E)
def aMk (K:PySem.W.Frag) (C CF CS:Addr) (l:List (Str×Srx)) (E:XK):TS:=
 vP (zM (aJb (cR (tMk K "Frame" l 2 (cR (eU 1) (cR J1 sS))) sS)) (eV 2))
  (vP (zM (aJb sS) (eV 3))
   (vP (RW (aM9 K 2) (tWB K C CF CS E))
    (aGg (tOp (aJc K) (eU 3) (tC (.int 0))))))
def aNi (CS a:Addr) (hd mk rl:List (D×D)) (m:Int) (H:Hp) (Q:VK) (E:XK):Res (D×Cn)->Prop
 | .ok (y,k)=>∀v H',jT a H H'->Rep All H' (.ref a) (.ins "PlainRun" (prF hd mk rl m k))->Rep All H' v y->y.pure=true->Q v H'
 | .err _ _=>∀H',jT a H H'->E (.ref CS) none H'
 | .bad=>False
def W9 (CS:Addr):Sp:=fun vs H Q E=>∃a vw hd mk rl m ws,vs=[.ref a,vw]/\okR hd mk rl/\D.aG ws=true/\Rep All H (.ref a) (.ins "PlainRun" (prF hd mk rl m ⟨0,0,0⟩))/\Rep All H vw (.tup ws)/\aNi CS a hd mk rl m H Q E (RK hd mk rl m ws)
section
variable {K:PySem.W.Frag} {C CF CS:Addr}
theorem IK {S:Addr->Prop} {H H':Hp} {a:Addr} {hd mk rl:List (D×D)} {m:Int} {k:Cn} (hK:KFrag.K=K) (hC:nsIn K mainGlobals "PlainRun" = some (some (.ref C))) (x:Lb S H H') (o:okR hd mk rl) (n:¬S a) (r:Rep All H (.ref a) (.ins "PlainRun" (prF hd mk rl m k))):Rep All H' (.ref a) (.ins "PlainRun" (prF hd mk rl m k)):=by
 obtain ⟨dx,h1,h2,h3,e,r1,r2,r3⟩:=jL hK hC r;exact vI hK hC (x.bs _ _ e n) (x.dct r1 o.1) (x.dct r2 o.2.1) (x.dct r3 o.2.2)
theorem aB0 {hd mk rl:List (D×D)} {m:Int} {H0:Hp} {vw:V} {a af av:Addr} {D':Ends} {E:XK} {res:Res (List D×Cn)} (hK:KFrag.K=K) (hC:nsIn K mainGlobals "PlainRun" = some (some (.ref C))) (hCF:nsIn K mainGlobals "Frame" = some (some (.ref CF))) (clF:Cls K CF) (nl:bZ K CF "left") (ok:okR hd mk rl)
  (hna:∃o,H0 a=some o) (nf:H0 af=none) (nv:H0 av=none) (ne:af≠av) {o4:Option V} {H:Hp} {f:Fr} {fs:List Fr} {st:List D} {k:Cn} {n:Nat} (I:VI CF hd mk rl m H0 a af av (f::fs) st k H) (hr:runN hd mk rl m (n+1) (f::fs) st k=res) (hne:res≠.bad)
  (hE:∀c as,res=.err c as->∀H',jT a H0 H'->E (.ref CS) none H')
  (hN:∀o4 H fs st k,VI CF hd mk rl m H0 a af av fs st k H->runN hd mk rl m n fs st k=res->D'.nx [some (.ref a),some vw,some (.ref af),some (.ref av),o4] H) :
  tWB K C CF CS E D' [some (.ref a),some vw,some (.ref af),some (.ref av),o4] H:=by
 obtain ⟨sm,self,⟨as,hf,fr⟩,⟨vs,hv,rv⟩,pv⟩:=I;obtain ⟨x,as,rfl⟩:∃x as',as=x::as':=by
  cases as with
  | nil=>exact fr.elim
  | cons x as=>exact ⟨x,as,rfl⟩
 obtain ⟨⟨dx,w1,w3,hx,r1,r3⟩,pw,pk,nx0,nxa,frr⟩:=fr;obtain ⟨dxp,h1,h2,h3,hsa,e1,e2,e3⟩:=jL hK hC self;obtain ⟨o0,hna⟩:=hna;have a0:∀{b:Addr},H0 b=none->b≠a:=fun h z=>by rw [z,hna] at h;cases h
 have ex:(List.map V.ref (x::as)).reverse=(List.map V.ref as).reverse++[.ref x]:=by simp
 rw [ex] at hf;have nxf:x≠af:=mR hx hf (by intro z;cases z);have nxv:x≠av:=mR hx hv (by intro z;cases z);refine ⟨.ref af,rfl,1,rfl,af,_,-1,.ref x,rfl,rfl,.of hf,JX _ _,?_⟩;show aMj K C CF CS E D' [some (.ref a),some vw,some (.ref af),some (.ref av),some (.ref x)] H;obtain ⟨ws,i,kn⟩:=f;refine ⟨.ref x,rfl,x,CF,dx,_,.int i,rfl,hx,clF,nl,rfl,i,0,rfl,rfl,_,rfl,?_⟩;have asi:=RL.ins frr;dsimp only;cases i with
 | zero=>
  rw [if_pos (by rfl)];have bf:Lb (fun c=>c=af) H (upd H af (.lst (as.map V.ref).reverse)):=Lb.but jT.upd hf rfl;refine ⟨.ref af,rfl,.inl ⟨rfl,_,.of hf⟩,af,_,.ref x,rfl,rfl,hf,by simp,?_⟩;rw [List.dropLast_concat];refine hN _ _ fs st k ⟨fun b o e nb=>?_,IK hK hC bf ok (Ne.symm (a0 nf)) self,⟨as,aF,bf.frs frr fun b hb z=>?_⟩,⟨vs,by rw [aN (Ne.symm ne)];exact hv,rv.dY bf.use (fK pv)⟩,pv⟩ hr
  ·rw [aN (a_ e nf)];exact sm b o e nb
  ·obtain ⟨_,C',dx',fs',e⟩:=asi b hb;rw [z,hf] at e;cases e
 | succ j=>
  rw [if_neg (fun z=>by have:=of_decide_eq_true z;lia)];refine ⟨.ref x,rfl,x,CF,dx,_,.int ((j+1:Nat):Int),rfl,hx,clF,nl,rfl,_,1,rfl,rfl,.ref x,rfl,x,CF,dx,_,rfl,hx,clF,nl,(by show 3<1000;decide),?_⟩;rw [aAo];have bx:Lb (fun c=>c=x) H (upd H x (.ins CF dx [("words",w1),("left",.int j),("known",w3)])):=Lb.but jT.upd hx rfl;have hx2:upd H x (.ins CF dx [("words",w1),("left",.int j),("known",w3)]) x=some (.ins CF dx [("words",w1),("left",.int j),("known",w3)]):=aF;have hf2:=bx.bs _ _ hf (Ne.symm nxf);have hv2:=bx.bs _ _ hv (Ne.symm nxv);have self2:=IK hK hC bx ok (Ne.symm (a0 nx0)) self;have rv2:bF All (upd H x (.ins CF dx [("words",w1),("left",.int j),("known",w3)])) vs st.reverse:=rv.dY bx.use (fK pv);have r12:Rep All (upd H x (.ins CF dx [("words",w1),("left",.int j),("known",w3)])) w1 (.tup ws):=r1.dY bx.use (by rw [D.pure];exact pw);have r32:=bx.dct r3 pk;have sm2:jT a H0 (upd H x (.ins CF dx [("words",w1),("left",.int j),("known",w3)])):=fun b o e nb=>bx.bs _ _ (sm b o e nb) (a_ e nx0)
  have frr2:=bx.frs frr fun b hb z=>by rw [z] at hb;exact nxa hb
  show aMi C CF CS E D' [some (.ref a),some vw,some (.ref af),some (.ref av),some (.ref x)] (upd H x (.ins CF dx [("words",w1),("left",.int j),("known",w3)]));generalize upd H x (.ins CF dx [("words",w1),("left",.int j),("known",w3)])=H2 at hx2 hf2 hv2 self2 rv2 r12 r32 sm2 frr2;obtain ⟨dxp2,g1,g2,g3,hsa2,_⟩:=jL hK hC self2;unfold runN at hr;split at hr
  ·exact absurd hr.symm hne
  ·rename_i w hw;split at hr
   ·rename_i hlen;have hlen:=of_decide_eq_true hlen;refine ⟨.ref a,rfl,a,dxp2,_,rfl,hsa2,rfl,.ref af,rfl,.ref av,rfl,[.uD,.uD,.uD,.uD,frK ws j kn],w,(EL.skip (.skip (.skip (.skip (.cons (.ins (by rw [hK];exact hCF) hx2 (.cons r12 (.cons (.int _) (.cons r32 .nil)))) .nil))))).er,aEx hw,fun vw3 H3 s3 rw3 _=>?_⟩;have hf3:=s3 _ _ hf2;have hv3:=s3 _ _ hv2;have hx3:=s3 _ _ hx2;have l3:=Lb.same s3;have frr3:=l3.frs frr2 fun _ _ z=>z
    have sm3:jT a H0 H3:=fun b o e nb=>s3 _ _ (sm2 b o e nb)
    have asi3:=RL.ins frr3;have hal:=frr.len;refine ⟨a,af,av,vw3,hd,mk,rl,m,k,kn,st,w,_,x,ws,j,vs,rfl,ok,pk,pv,self2.same s3,hf3,by rw [List.length_append,List.length_reverse,List.length_map,hal];simp;lia,JX _ _,⟨dx,w1,w3,hx3,r12.same s3,r32.same s3⟩,hv3,rv2.same s3,ne,rw3,?_⟩;split at hr
    ·rename_i st' k' ht;rw [ht];split at hr
     ·rename_i hps;intro H4 vs' b4 hv4 rv4;have l4:Lb (fun c=>c=av) H3 H4:=Lb.but b4 hv3 rfl;refine hN _ _ (⟨ws,j,kn⟩::fs) st' k ⟨fun b o e nb=>b4 _ _ (sm3 b o e nb) (a_ e nv),IK hK hC l4 ok (Ne.symm (a0 nv)) (self2.same s3),⟨x::as,by rw [ex];exact b4 _ _ hf3 ne,l4.fra ⟨dx,w1,w3,hx3,r12.same s3,r32.same s3⟩ pw pk nxv,pw,pk,nx0,nxa,l4.frs frr3 fun b hb z=>?_⟩,⟨vs',hv4,rv4⟩,hps⟩ hr;obtain ⟨_,C',dx',fs',e⟩:=asi3 b hb;rw [z,hv3] at e;cases e
     ·exact absurd hr.symm hne
    ·rename_i st' ws' kn' k' ht;rw [ht];split at hr
     ·rename_i hps;intro H4 vs' y hy bs self4 hf4 fa hv4 rv4;obtain ⟨dxp3,q1,q2,q3,hsa3,_⟩:=jL hK hC (self2.same s3);have l4:Lb (fun b=>b=a\/b=af\/b=av) H3 H4:=⟨bs,fun b hb=>by
       rcases hb with rfl|rfl|rfl
       ·exact ⟨_,hsa3,rfl⟩
       ·exact ⟨_,hf3,rfl⟩
       ·exact ⟨_,hv3,rfl⟩⟩
      have old:∀b,(H0 b=none/\∃C dx fs,H3 b=some (.ins C dx fs))->¬(b=a\/b=af\/b=av):=fun b ⟨z0,C',dx',fs',e⟩ z=>by
       rcases z with rfl|rfl|rfl
       ·exact a0 z0 rfl
       ·rw [hf3] at e;cases e
       ·rw [hv3] at e;cases e
      have nyx:y∉x::as:=fun hb=>by
       rcases List.mem_cons.mp hb with z|z
       ·rw [z,hx3] at hy;cases hy
       ·obtain ⟨_,C',dx',fs',e⟩:=asi3 y z;rw [hy] at e;cases e
      have y0:H0 y=none:=by
       cases hq:H0 y with
       | none=>rfl
       | some oo=>
        exfalso;by_cases hya:y=a
        ·rw [hya,hsa3] at hy;cases hy
        ·rw [sm3 _ _ hq hya] at hy;cases hy
      have pk':D.aG ws'=true/\D.aG (kn'.map (·.2))=true:=aAz ht;refine hN _ _ (⟨ws',ws'.length,kn'⟩::⟨ws,j,kn⟩::fs) st' k' ⟨fun b o e nb=>?_,self4,⟨y::x::as,?_,fa,pk'.1,pk'.2,y0,nyx,l4.fra ⟨dx,w1,w3,hx3,r12.same s3,r32.same s3⟩ pw pk (old x ⟨nx0,_,_,_,hx3⟩),pw,pk,nx0,nxa,l4.frs frr3 fun b hb=>old b (asi3 b hb)⟩,⟨vs',hv4,rv4⟩,hps⟩ hr
      ·refine bs _ _ (sm3 b o e nb) fun z=>?_
       rcases z with z|z|z
       ·exact nb z
       ·rw [z,nf] at e;cases e
       ·rw [z,nv] at e;cases e
      ·rw [hf4];simp
     ·exact absurd hr.symm hne
    ·rename_i c as' ht;rw [ht];intro H4 bs;refine hE c as' hr.symm H4 fun b o e nb=>bs _ _ (sm3 b o e nb) fun z=>?_
     rcases z with z|z|z
     ·exact nb z
     ·rw [z,nf] at e;cases e
     ·rw [z,nv] at e;cases e
    ·exact absurd hr.symm hne
   ·exact absurd hr.symm hne
end
end Mi
namespace Mi
open PySem L2 PySem.W PySem.SeqAt PySem.Spec PyProof.Rows
def aG4 (lP:List (Str×Srx)) (vW:List D->Res D):List D->Res D
 | [pr,.tup ws,.int m]=>if D.aG ws&&pr.pure then (match evS [.uD,pr,.int m] lP with
  | .ok fs=>(match (fs.map (fun p=>p.2):List D) with
   | [.dct hd,.dct mk,.dct rl,.int m',.int 0,.int 0,.int 0]=>if D.aG (hd.map (·.2))&&(D.aG (mk.map (·.2))&&D.aG (rl.map (·.2))) then (match RK hd mk rl m' ws with
    | .ok (y,k)=>(match vW [y] with
     | .ok d=>if d.pure then .ok (.tup [d,.int k.c,.int k.p,.int k.d]) else .bad
     | _=>.bad)
    | .err c as=>.err c as
    | .bad=>.bad) else .bad
   | _=>.bad)
  | _=>.bad) else .bad
 | _=>.bad
variable [KFrag]
theorem aB1 {rl:List (D×D)} {m:Int} {k:Cn} {tk:D} {ps:List D} {c:Str} {as:List D} (h:Y6 rl m k tk ps=.err c as):c = "Spent"/\as=[.exc "Spent" []]:=by
 obtain ⟨w0,xs,z0,more,r0,r1,own,ws',kn',k'',_,_,_,_,_,pw,hz,_,e⟩:=yG h (by intro z;cases z);split at e
 ·cases e;exact ⟨rfl,rfl⟩
 ·cases e
theorem aB2 {hd mk rl:List (D×D)} {m:Int} {k:Cn} {kn:List (D×D)} {st:List D} {w:D} {c:Str} {as:List D} (h:MK hd mk rl m k kn st w=.err c as):c = "Spent"/\as=[.exc "Spent" []]:=by
 unfold MK at h;split at h
 ·split at h
  ·cases h
  ·split at h
   ·split at h
    ·split at h
     ·split at h <;> cases h
     ·split at h
      ·cases h
      ·rename_i hq;cases h;exact aB1 hq
      ·cases h
    ·cases h
   ·cases h
 ·cases h
theorem o_ {hd mk rl:List (D×D)} {m:Int} {c:Str} {as:List D}:∀{n:Nat} {fs:List Fr} {st:List D} {k:Cn},runN hd mk rl m n fs st k=.err c as->c = "Spent"/\as=[.exc "Spent" []]
 | 0,_,_,_,h=>by cases h
 | n+1,[],st,k,h=>by cases h
 | n+1,⟨ws,0,kn⟩::fs,st,k,h=>o_ (n:=n) (fs:=fs) h
 | n+1,⟨ws,i+1,kn⟩::fs,st,k,h=>by
  unfold runN at h;split at h
  ·cases h
  ·split at h
   ·split at h
    ·split at h
     ·exact o_ h
     ·cases h
    ·split at h
     ·exact o_ h
     ·cases h
    ·rename_i hq;cases h;exact aB2 hq
    ·cases h
   ·cases h
theorem aB3 {hd mk rl:List (D×D)} {m:Int} {ws:List D} {c:Str} {as:List D} (h:RK hd mk rl m ws=.err c as):c = "Spent"/\as=[.exc "Spent" []]:=by
 obtain ⟨r,n,_,h1,h2⟩:=W7 h (by intro z;cases z);unfold aI7 at h2;split at h2
 ·split at h2 <;> cases h2
 ·cases h2;exact o_ h1
 ·cases h2
section
variable {K:PySem.W.Frag} {C CF CS:Addr} {l lP:List (Str×Srx)} {vW:List D->Res D}
theorem aB4 {N:List Str} (hN:N.length=5) (hK:KFrag.K=K) (hC:nsIn K mainGlobals "PlainRun" = some (some (.ref C))) (hCF:nsIn K mainGlobals "Frame" = some (some (.ref CF))) (clF:Cls K CF) (nl:bZ K CF "left")
  (hl:∀ws kn,D.aG ws=true->D.aG (kn.map (·.2))=true->evS [.uD,.tup ws,.dct kn] l=.ok [("words",.tup ws),("left",.int ws.length),("known",.dct kn)]) {vs:List V} {H:Hp} {Q:VK} {E:XK} (h:W9 CS vs H Q E):aMk K C CF CS l E {nx:=fun _ H'=>Q .non H',rt:=Q} (L2.start N vs) H:=by
 obtain ⟨a,vw,hd,mk,rl,m,ws,rfl,ok,pw,self,rw,hc⟩:=h;have hst:L2.start N [V.ref a,vw]=[some (.ref a),some vw,none,none,none]:=by
  unfold L2.start;rw [hN];rfl
 rw [hst];generalize hres:RK hd mk rl m ws=q at hc;have hq:q≠.bad:=fun z=>by subst z;exact hc
 obtain ⟨res,n0,hne,hr0,he⟩:=W7 hres hq;obtain ⟨dxp,g1,g2,g3,hsa,_⟩:=jL hK hC self;refine ⟨vw,rfl,fun p hp=>?_⟩;have s1:bO H (upd H p (.dK [])):=bO.upd hp;refine ⟨[.tup ws,.dct []],_,rfl,.cons (rw.same s1) (.cons (.dK aF trivial .nil (by simp)) .nil),hl ws [] pw rfl,fun CF' x dx H2 vf hn2 hx s2 hx2 rf2=>?_⟩;rw [hCF] at hn2;cases hn2;have rfa:=rf2 All (fun _ _=>trivial) (.cons (rw.same s1) (.cons (.dK aF trivial .nil (by simp)) .nil));cases rfa with
 | cons q1 rfa=>
 cases rfa with
 | cons q2 rfa=>
 cases rfa with
 | cons q3 rfa=>
 cases rfa;cases q2;refine ⟨by show 1<=sizeLine;decide,fun pf hpf=>?_⟩;show zM (aJb sS) (eV 3) _ [some (.ref a),some vw,some (.ref pf),none,none] (upd H2 pf (.lst [.ref x]));refine ⟨Nat.zero_le _,fun pv hpv=>?_⟩;have hnf:pf≠pv:=fun z=>by
  subst z;rw [aF] at hpv;cases hpv
 have hpv2:H2 pv=none:=by rw [aN (Ne.symm hnf)] at hpv;exact hpv
 have s3:bO H2 (upd (upd H2 pf (.lst [.ref x])) pv (.lst [])):=(bO.upd hpf).trans (bO.upd hpv);have s03:bO H (upd (upd H2 pf (.lst [.ref x])) pv (.lst [])):=(s1.trans s2).trans s3;have none0:∀b,H2 b=none->H b=none:=fun b hb=>(s1.trans s2).free hb
 have hx0:H x=none:=s1.free hx;have I0:VI CF hd mk rl m H a pf pv [⟨ws,ws.length,[]⟩] [] ⟨0,0,0⟩ (upd (upd H2 pf (.lst [.ref x])) pv (.lst [])):=
  ⟨fun b o e _=>s03 b o e,self.same s03,⟨[x],by rw [aN hnf];exact aF,⟨dx,_,_,s3 _ _ hx2,q1.same s3,q3.same s3⟩,pw,rfl,hx0,by simp,trivial⟩,⟨[],aF,.nil⟩,rfl⟩
 show RW (aM9 K 2) (tWB K C CF CS E) _ [some (.ref a),some vw,some (.ref pf),some (.ref pv),none] (upd (upd H2 pf (.lst [.ref x])) pv (.lst []));refine ⟨fun n σ H'=>∃o4 fs st k,σ=[some (.ref a),some vw,some (.ref pf),some (.ref pv),o4]/\VI CF hd mk rl m H a pf pv fs st k H'/\runN hd mk rl m n fs st k=res,⟨n0,_,_,_,_,rfl,I0,hr0⟩,?_⟩;rintro n σ H' ⟨o4,fs,st,k,rfl,I,hr⟩;cases n with
 | zero=>exact absurd hr.symm hne
 | succ n=>
 obtain ⟨as,hf,fr⟩:=I.frs;refine ⟨.ref pf,rfl,!((as.map V.ref).reverse).isEmpty,.inl ⟨_,.of hf,rfl⟩,?_⟩;cases fs with
 | nil=>
  cases as with
  | cons x as=>exact fr.elim
  | nil=>
  show (if false=true then _ else _);rw [if_neg Bool.false_ne_true];have hr:Res.ok (st,k)=res:=hr;subst hr;unfold aI7 at he;dsimp only at he;split at he
  ·rename_i y hy;subst he;obtain ⟨vs,hv,rv⟩:=I.val;obtain ⟨st',rfl⟩:∃st',st=st'++[y]:=by
    have hn:st≠[]:=fun z=>by rw [z] at hy;cases hy
    refine ⟨st.dropLast,?_⟩;rw [List.getLast?_eq_some_getLast hn] at hy;cases hy;exact (List.dropLast_concat_getLast hn).symm
   rw [List.reverse_append,List.reverse_singleton] at rv;cases rv with
   | cons ry rr=>
   have py:y.pure=true:=b7.mp I.pv y (by simp);exact ⟨.ref pv,rfl,pv,_,0,_,rfl,rfl,.of hv,aDc (j:=0) rfl,hc _ _ I.sm I.self ry py⟩
  ·exact absurd he.symm hq
 | cons f fs=>
  cases as with
  | nil=>exact fr.elim
  | cons x as=>
  rw [if_pos (by simp)];refine ⟨fun σ' H''=>∃n',n'<n+1/\∃o4 fs st k,σ'=[some (.ref a),some vw,some (.ref pf),some (.ref pv),o4]/\VI CF hd mk rl m H a pf pv fs st k H''/\runN hd mk rl m n' fs st k=res,fun _ _ z=>z,?_⟩;refine aB0 hK hC hCF clF nl ok ⟨_,hsa⟩ (none0 _ hpf) (none0 _ hpv2) hnf I hr hne (fun c as e H' b=>?_) fun o4 H fs st k I hr=>⟨n,by lia,o4,fs,st,k,rfl,I,hr⟩
  subst e;subst he;exact hc H' b
def aI8 (K:PySem.W.Frag) (vW:List D->Res D):TS:=aGg (aM4 (cR (gE (aX (oF 1 vW) (aC gQ aV)) true) (cR (JT K (eU 3) "calls") (cR (JT K (eU 3) "copies") (cR (JT K (eU 3) "drops") sS)))))
def aMl (K:PySem.W.Frag) (C CS:Addr) (lP:List (Str×Srx)) (vW:List D->Res D) (E:XK):TS:=
 vP (zM (tMk K "PlainRun" lP 2 (cR (eU 0) (cR (eU 2) sS))) (eV 3))
  (vP (zM (O7 C "value_of" (W9 CS) [] E (eU 3) (cR (eU 1) sS)) (eV 4)) (aI8 K vW))
theorem aB5 {N:List Str} (hN:N.length=5) (hK:KFrag.K=K) (hC:nsIn K mainGlobals "PlainRun" = some (some (.ref C))) (hS:nsIn K mainGlobals "Spent" = some (some (.ref CS))) (cl:Cls K C) (nc:bZ K C "calls") (np:bZ K C "copies") (nd:bZ K C "drops")
  (hnm:lP.map (·.1)=([Str.ofString "heads",Str.ofString "makers",Str.ofString "rules",Str.ofString "most",Str.ofString "calls",Str.ofString "copies",Str.ofString "drops"]:List Str)) {vs:List V} {H:Hp} {Q:VK} {E:XK} (h:spZ (aG4 lP vW) 3 vs H Q E):aMl K C CS lP vW E {nx:=fun _ H'=>Q .non H',rt:=Q} (L2.start N vs) H:=by
 obtain ⟨ds,hd3,r,h⟩:=h;generalize hw:aG4 lP vW ds=w at h;unfold aG4 at hw;split at hw
 ·rename_i pr ws m;split at hw
  ·rename_i hb;rw [Bool.and_eq_true] at hb;split at hw
   ·rename_i fs hev;split at hw
    ·rename_i hd mk rl m' hfs;split at hw
     ·rename_i hpu;simp only [Bool.and_eq_true] at hpu;have hf:fs=prF hd mk rl m' ⟨0,0,0⟩:=by
       have h1:=(aC9 hev).2;rw [hnm] at h1;have:fs=(fs.map (·.1)).zip (fs.map (·.2)):=by
        clear hev hfs h1;induction fs with
        | nil=>rfl
        | cons p fs ih=>rw [List.map_cons,List.map_cons,List.zip_cons_cons,<-ih]
       rw [this,h1,hfs];rfl
      subst hf;cases r with
      | cons rp r=>
      cases r with
      | cons rws r=>
      cases r with
      | cons rm r=>
      cases r;rename_i vp vws vm;have hst:L2.start N [vp,vws,vm]=[some vp,some vws,some vm,none,none]:=by
       unfold L2.start;rw [hN];rfl
      rw [hst];refine ⟨vp,rfl,vm,rfl,[pr,.int m],_,rfl,.cons rp (.cons rm .nil),hev,fun C' x dx H1 vf hn hx s1 hx1 rf=>?_⟩;rw [hC] at hn;cases hn;have rfa:=rf All (fun _ _=>trivial) (.cons rp (.cons rm .nil));have self1:Rep All H1 (.ref x) (.ins "PlainRun" (prF hd mk rl m' ⟨0,0,0⟩)):=.ins (by rw [hK];exact hC) hx1 rfa;have nx:∀{b:Addr} {o:HO},H b=some o->b≠x:=fun e=>a_ e hx
      show vP _ _ _ [some vp,some vws,some vm,some (.ref x),none] H1;refine ⟨.ref x,rfl,x,dx,_,rfl,hx1,rfa.CN rfl,vws,rfl,x,vws,hd,mk,rl,m',ws,rfl,⟨hpu.1,hpu.2.1,hpu.2.2⟩,hb.1,self1,rws.same s1,?_⟩;cases hv:RK hd mk rl m' ws with
      | ok q=>
       obtain ⟨y,k⟩:=q;rw [hv] at hw;dsimp only at hw;split at hw
       ·rename_i d hd';split at hw
        ·rename_i pd;subst hw;intro v H2 b2 self2 ry py;show aI8 K vW {nx:=fun _ H'=>Q .non H',rt:=Q} [some vp,some vws,some vm,some (.ref x),some v] H2;refine ⟨[.uD,.uD,.uD,.uD,y],d,(EL.skip (.skip (.skip (.skip (.cons ry .nil))))).er,?_,fun vd H3 s3 rd _=>?_⟩
         ·have e4:bT 4 [.uD,.uD,.uD,.uD,y]=.ok y:=bV rfl (W4 py);exact bG (aH e4 rfl) ((eZ rfl).trans hd')
         ·obtain ⟨dx2,g1,g2,g3,hx2,_⟩:=jL hK hC self2;have hx3:=s3 _ _ hx2;refine ⟨.ref x,rfl,x,C,dx2,_,.int k.c,rfl,hx3,cl,nc,rfl,.ref x,rfl,x,C,dx2,_,.int k.p,rfl,hx3,cl,np,rfl,.ref x,rfl,x,C,dx2,_,.int k.d,rfl,hx3,cl,nd,rfl,by show 4<=sizeLine;decide,fun p hp=>?_⟩;have rt:Rep All (upd H3 p (.tup [vd,.int k.c,.int k.p,.int k.d])) (.ref p) (.tup [d,.int k.c,.int k.p,.int k.d]):=.tup aF (.cons (rd.same (bO.upd hp)) (.cons (.int _) (.cons (.int _) (.cons (.int _) .nil))));refine h _ _ (fun b o e=>bO.upd hp b o (s3 _ _ (b2 _ _ (s1 _ _ e) (nx e)))) rt fun _=>rt.bL ?_
          rw [D.pure];simp [D.aG,D.pure,pd]
        ·subst hw;exact h.elim
       ·subst hw;exact h.elim
      | err c as=>
       rw [hv] at hw;subst hw;obtain ⟨rfl,rfl⟩:=aB3 hv;obtain ⟨fs',C',e1,e2,e3⟩:=h;cases e1;rw [hK,hS] at e2;cases e2;exact fun H2 b2=>e3 H2 none (fun b o e=>b2 _ _ (s1 _ _ e) (nx e)) rfl
      | bad=>
       rw [hv] at hw;subst hw;exact h.elim
     ·subst hw;exact h.elim
    ·subst hw;exact h.elim
   ·subst hw;exact h.elim
  ·subst hw;exact h.elim
 ·subst hw;exact h.elim
end
theorem aI9 {C:Addr} {vs:List V} {H:Hp} {Q:VK} {E:XK} (h:aG3 C vs H Q E):vs.length=3:=by
 obtain ⟨_,_,_,_,_,_,_,_,_,e,_⟩:=h;rw [e];rfl
theorem aEy {CF CS:Addr} {vs:List V} {H:Hp} {Q:VK} {E:XK} (h:W3 CF CS vs H Q E):vs.length=3:=by
 obtain ⟨_,_,_,_,_,_,_,_,_,_,e,_⟩:=h;rw [e];rfl
theorem aIa {CF CS:Addr} {vs:List V} {H:Hp} {Q:VK} {E:XK} (h:aI5 CF CS vs H Q E):vs.length=4:=by
 obtain ⟨_,_,_,_,_,_,_,_,_,_,_,_,_,_,_,_,_,e,_⟩:=h;rw [e];rfl
theorem aEz {CS:Addr} {vs:List V} {H:Hp} {Q:VK} {E:XK} (h:W9 CS vs H Q E):vs.length=2:=by
 obtain ⟨_,_,_,_,_,_,_,e,_⟩:=h;rw [e];rfl
theorem aF0 {f:List D->Res D} {n:Nat} {vs:List V} {H:Hp} {Q:VK} {E:XK} (h:spZ f n vs H Q E):vs.length=n:=by
 obtain ⟨_,e,r,_⟩:=h;rw [r.length,e]
section
variable {P:Program} {w:World} {K:PySem.W.Frag} {mg:Str->Option Value} {base:Heap} {x qual:Str} {st:Stmt} {f T:Addr} {its:Array Value} {fd:FuncData} {N ps:List Str} {k:Nat}
theorem aL3 {sp:Sp} (F:aKp K x qual st f fd T its) (S:cC N ps (aM st)) (len:∀vs H Q E,sp vs H Q E->vs.length=ps.length)
  (hbody:∀(cdv:Value) (A:Around) (outer:List Env) (s:Shared) (H:Hp) (vs:List V) (Q:VK) (E:XK),lG k (A.deeper (envOfC qual (aM st) s.heap.objs.size f cdv))->sp vs H Q E->
   ∃t,PSs (JV (CX2 P w) P w K mg base N qual (aM st) f cdv A outer s H E) (cN st) t/\t {nx:=fun _ H'=>Q .non H',rt:=Q} (start N vs) H):jU P w K mg base (CX2 P w) (k+1) f fd ps sp:=by
 obtain ⟨oc,od,kV,doc,pm,an,cdv,ct,osl,rfl,lk,hcd⟩:=F.ex;exact aD6 lk hcd S len fun A outer s H vs Q E hr hsp=>hbody cdv A outer s H vs Q E hr hsp
theorem _root_.L2.jU.aNj {v:List D->Res D} {n:Nat} (F:jU P w K mg base (CX2 P w) k f fd ps (spZ v n)):jU P w K mg base CX0 k f fd ps (spD v n):=by
 have go:∀{vs H Q E},spD v n vs H Q E->spZ v n vs H Q (fun _ _ _=>False):=fun ⟨ds,d,h1,r,h,q⟩=>⟨ds,h1,r,by rw [h];exact q⟩
 refine ⟨fun vs H Q E h=>F.len vs H Q _ (go h),fun A outer s H args us vs Q E hr he hb hv h=>codeAny_mono (F.run A outer s H args us vs Q _ hr he hb hv (go h)) fun r s' hq=>?_⟩;cases r with
 | ok fl=>cases fl <;> exact hq
 | error e=>
  obtain ⟨_,_,_,_,_,_,_,_,_,_,_,_,z⟩:=hq;exact z.elim
end
end Mi
namespace Mi
open PySem L2 PySem.W PySem.SeqAt PySem.Spec PyProof.Rows
noncomputable def W_ (f:FS) (cs:List Str) (ic ie:Nat):FS:=fun ρ=>match f ρ with
 | .ok (.nx ρ')=>.ok (.nx ρ')
 | .err c [.exc c' fs]=>if c'==c&&cs.contains c&&decide (ie<ρ.length) then .ok (.nx (((ρ.set ie (.exc c fs)).set ic (.exc c fs)).set ie .uD)) else .bad
 | _=>.bad
def MT (n:Nat) (v:List D->Res D) (dd:List D):List D->Res D:=fun ds=>oF n v (ds++dd)
variable [KFrag]
def PB (X:Cx) (body:List Stmt) (t:L2.St->Hp->(L2.St->Hp->Prop)->XK->Prop):Prop:=
 ∀(pins:List (Addr×Obj)) (s:Shared) (σ:L2.St) (H:Hp) (Dn:L2.St->Hp->Prop) (De:XK),Inv X pins σ H s->t σ H Dn De->
  wpAny (model X.prog X.w) X.A (execs body X.env) (fun f s'=>f=.next/\∃σ' H',Inv X pins σ' H' s'/\Dn σ' H') (fun e s'=>∃H1 s1,Inv X pins σ H1 s1/\CX2 X.prog X.w X.stack H1 s1 De e s') s
def kB (own:Nat->Bool) (σ:L2.St) (H:Hp) (Dn:L2.St->Hp->Prop) (De:XK):Res Fl->Prop
 | .ok (.nx ρ')=>∀σ' H',KU own σ H σ' H'->ES own H' σ' ρ'->Dn σ' H'
 | .err c as=>∃fs C,as=[.exc c fs]/\nsIn KFrag.K mainGlobals c=some (some (.ref C))/\∀H' dx,bO H H'->XDs H' fs dx->De (.ref C) dx H'
 | _=>False
def tB3 (own:Nat->Bool) (f:FS):L2.St->Hp->(L2.St->Hp->Prop)->XK->Prop:=fun σ H Dn De=>∃ρ,ES own H σ ρ/\kB own σ H Dn De (f ρ)
def aIb (P:Program) (w:World) (K:PySem.W.Frag) (mg:Str->Option Value) (base:Heap) (k:Nat) (x:Str) (n:Nat) (v:List D->Res D) (dd:List D):Prop:=
 ∃(fad:Addr) (fd:FuncData) (ps:List Str) (ds:List Value) (dvs:List V),jU P w K mg base (CX2 P w) k fad fd ps (spZ v n)/\mg x=some (.ref fad)/\PySem.W.keepIn K (.ref fad)=true/\Binds K fd ps ds/\Vals dvs ds/\∀H,bF All H dvs dd
theorem aAl.g {P:Program} {w:World} {K:PySem.W.Frag} {mg:Str->Option Value} {base:Heap} {k:Nat} {x:Str} {n:Nat} {v:List D->Res D} (Z:aAl P w K mg base k x n v):aIb P w K mg base k x n v []:=by
 obtain ⟨fad,fd,ps,F,hm,hk,hb⟩:=Z;exact ⟨fad,fd,ps,[],[],F,hm,hk,hb,.nil,fun _=>.nil⟩
section
variable {X:Cx} {own:Nat->Bool} {k k' n i:Nat} {f x:Str} {p px cpos xpos pos:Pos} {e c:Expr} {es:List Expr} {v:List D->Res D} {dd:List D} {fa:FA} {ra:Bool}
def kCl (X:Cx) (pins:List (Addr×Obj)) (σ:L2.St) (H:Hp) (De:XK) (Q:Value->Shared->Prop):Res D->Prop
 | .ok d=>∀y u H' s',Inv X pins σ H' s'->RelV y u->bO H H'->Rep All H' y d->Rep (New H) H' y d->Q u s'
 | .err c as=>∃fs C,as=[.exc c fs]/\nsIn KFrag.K mainGlobals c=some (some (.ref C))/\∀H' dx,bO H H'->XDs H' fs dx->De (.ref C) dx H'
 | .bad=>False
theorem aIc (R:aIb X.prog X.w X.K X.mg X.base k f n v dd) (hr:lG k' X.A) (hkk:k<=k') (hg:Gl X f) (ha:PA X.nox (e::es) (gA fa ra)) (hdb:(f==("__debug__" : Str))=false) (he:starEach (e::es) X.env=(false,eval e X.env)::starEach es X.env) (hpl:(backTo cpos (starEach es X.env)).any (·.1)=false)
  {pins:List (Addr×Obj)} {s:Shared} {σ:L2.St} {H:Hp} {De:XK} {Q:Value->Shared->Prop} {ρ:List D} (I:Inv X pins σ H s) (E:ER H σ ρ)
  (q:kCl X pins σ H De Q (aX (MT n v dd) (noE fa) ρ)) :
  wpAny (model X.prog X.w) X.A (eval (.Call (.Name f p) (e::es) [] cpos) X.env) Q (fun e s'=>∃H1 s1,Inv X pins σ H1 s1/\CX2 X.prog X.w X.stack H1 s1 De e s') s:=by
 obtain ⟨fm,fd,ps,ds,dvs,F,hm,hk,hb,hv,hdd⟩:=R;rcases aC8 (f:=fa) (ρ:=ρ) with ⟨as,h1,h2⟩|h2
 ·have e1:aX (MT n v dd) (noE fa) ρ=oF n v (as++dd):=by unfold aX;rw [h2];rfl
  rw [e1] at q;by_cases hl:(as++dd).length=n
  ·have e2:oF n v (as++dd)=v (as++dd):=by unfold oF;rw [if_pos (decide_eq_true hl)]
   rw [e2] at q;refine wpAny_Call_Name_kw (nJ I hg hm ?_ hdb);refine callWith_K (h₀:=X.base) I.ok.mod.kin hk (wpAny_mono (ha cpos pins s σ H (fun vs H1=>bO H H1/\bF All H1 vs as) (I.wish _) ⟨ρ,as,E,h1,fun vs H' sm rs _=>⟨sm,rs⟩⟩) (fun us s1 ⟨vs,H1,I1,r,sm,rs⟩=>⟨I1.kIn,?_⟩) fun _ _ z=>False.elim z) he hpl;have I1:Inv X pins σ H1 s1:=I1.jX;have hsp:spZ v n (vs++dvs) H1 (fun y H2=>bO H H2/\match v (as++dd) with|.ok d=>Rep All H2 y d/\Rep (New H) H2 y d|_=>False) De:=by
    refine ⟨as++dd,hl,rs.append (hdd H1),?_⟩;cases hv2:v (as++dd) with
    | ok d=>exact fun y H2 s2 r2 n2=>⟨sm.trans s2,r2,(n2 rfl).mono fun a ha=>sm.free ha⟩
    | err c as'=>
     rw [hv2] at q;obtain ⟨fs,C,g1,g2,g3⟩:=q;exact ⟨fs,C,g1,g2,fun H2 dx s2 xd=>g3 H2 dx (sm.trans s2) xd⟩
    | bad=>rw [hv2] at q;exact q
   have r2:Vals (vs++dvs) (us++ds):=r.append hv;have hlen:(us++ds).length=ps.length:=by rw [<-r2.length];exact F.len _ _ _ _ hsp
   refine wpAny_call (codeAny_mono (F.run X.A X.stack s1 H1 ⟨us,[]⟩ (us++ds) (vs++dvs) _ De (hr.mono hkk) I1.env0 (hb s1 us I1.kIn hlen) r2 hsp) fun r s' hq=>?_);cases r with
   | error e=>exact ⟨H1,s1,I1,hq⟩
   | ok fl=>
    cases fl with
    | ret u=>
     obtain ⟨y,H2,I2,ry,sm2,z⟩:=I1.after hq;cases hv2:v (as++dd) with
     | ok d=>
      rw [hv2] at q z;exact q y u H2 s' I2 ry sm2 z.1 z.2
     | err c as'=>rw [hv2] at z;exact z.elim
     | bad=>rw [hv2] at z;exact z.elim
    | next=>exact False.elim hq
    | brk=>exact False.elim hq
    | cont=>exact False.elim hq
  ·have e2:oF n v (as++dd)=.bad:=by unfold oF;rw [if_neg (by simpa using hl)]
   rw [e2] at q;exact q.elim
 ·have e1:aX (MT n v dd) (noE fa) ρ=.bad:=by unfold aX;rw [h2];rfl
  rw [e1] at q;exact q.elim
theorem aCf {o:Bool} (R:aIb X.prog X.w X.K X.mg X.base k f n v dd) (hr:lG k' X.A) (hkk:k<=k') (hg:Gl X f) (ha:PA X.nox (e::es) (gA fa ra)) (ho:own i=false) (hN:X.N.Nodup) (hi:X.N[i]?=some x) (hx:Loc X.env.scope x) (hf:X.fn x=true\/X.env.scope.names.lookup x=some .local:=by first|exact .inl rfl|exact .inr rfl|assumption)
  (hdb:(f==("__debug__" : Str))=false:=by decide) (he:starEach (e::es) X.env=(false,eval e X.env)::starEach es X.env:=by rfl) (hpl:(backTo cpos (starEach es X.env)).any (·.1)=false:=by rfl) (hs:swapsWith (.Call (.Name f p) (e::es) [] cpos) (some (.Name x px)) xpos.line X.env=pure false:=by rfl) :
  PB X [.Assign [.Name x px] (.Call (.Name f p) (e::es) [] cpos) xpos] (tB3 own (cJ false i (aX (MT n v dd) (noE fa)) true)):=by
 intro pins s σ H Dn De I ⟨ρ,es',q⟩;refine wpAny_execs_cons (wpAny_Assign_Name (aIc R hr hkk hg ha hdb he hpl I es'.er ?_) hs);cases hq:aX (MT n v dd) (noE fa) ρ with
 | ok d=>
  have e1:cJ false i (aX (MT n v dd) (noE fa)) true ρ=.ok (.nx (ρ.set i d)):=by unfold cJ;rw [hq];rfl
  rw [e1] at q;intro y u H' s' I' ry sm r1 r2;refine xF I' hN hi hx ry (fun s2 I2=>wpAny_execs_nil ⟨rfl,_,H',I2,q _ H' (fun b ob eb nb=>⟨sm b ob eb,fun z=>nb ((jG ho b).mp z)⟩) ?_⟩) hf;refine (es'.same sm).set ho (r2.mono fun b hb z=>?_);obtain ⟨o',e',_⟩:=es'.live z;rw [show H b=none from hb] at e';cases e'
 | err c as=>
  have e1:cJ false i (aX (MT n v dd) (noE fa)) true ρ=.err c as:=by unfold cJ;rw [hq];rfl
  rw [e1] at q;exact q
 | bad=>
  have e1:cJ false i (aX (MT n v dd) (noE fa)) true ρ=.bad:=by unfold cJ;rw [hq];rfl
  rw [e1] at q;exact q.elim
theorem aL4 {gc:FT} {s1 s2:List Stmt} {f1 f2:FS} (hc:PT X.nox c (gT gc)) (h1:PB X s1 (tB3 own f1)) (h2:PB X s2 (tB3 own f2)):PB X [.If c s1 s2 pos] (tB3 own (sIf (noE gc) f1 f2)):=by
 intro pins s σ H Dn De I ⟨ρ,es',q⟩;rcases aC8 (f:=gc) (ρ:=ρ) with ⟨b,g1,g2⟩|g2
 ·have e1:sIf (noE gc) f1 f2 ρ=if b then f1 ρ else f2 ρ:=by unfold sIf;rw [g2];rfl
  rw [e1] at q;refine wpAny_execs_cons (wpAny_If (wpAny_mono (hc pins s σ H (fun b' H'=>b'=b/\bO H H') (I.wish _) ⟨ρ,b,es'.er,g1,fun H' sm=>⟨rfl,sm⟩⟩) (fun d s1 ⟨H1,I1,e2,sm⟩=>?_) fun _ _ z=>False.elim z));subst e2;have I1:Inv X pins σ H1 s1:=I1.jX;have fin:∀{fl:FS},kB own σ H Dn De (fl ρ)->tB3 own fl σ H1 Dn De:=fun {fl} z=>⟨ρ,es'.same sm,by
   cases hz:fl ρ with
   | ok r=>
    rw [hz] at z;cases r with
    | nx ρ'=>exact fun σ' H' ku E'=>z σ' H' ((KU.same sm).trans ku) E'
    | _=>exact z.elim
   | err c as=>
    rw [hz] at z;obtain ⟨fs,C,a1,a2,a3⟩:=z;exact ⟨fs,C,a1,a2,fun H' dx s' xd=>a3 H' dx (sm.trans s') xd⟩
   | bad=>rw [hz] at z;exact z.elim⟩
  cases d with
  | true=>rw [if_pos rfl] at q;exact wpAny_mono (h1 pins s1 σ H1 Dn De I1 (fin q)) (fun f s' ⟨e,z⟩=>by subst e;exact wpAny_execs_nil ⟨rfl,z⟩) fun _ _ z=>z
  | false=>rw [if_neg (by simp)] at q;exact wpAny_mono (h2 pins s1 σ H1 Dn De I1 (fin q)) (fun f s' ⟨e,z⟩=>by subst e;exact wpAny_execs_nil ⟨rfl,z⟩) fun _ _ z=>z
 ·have e1:sIf (noE gc) f1 f2 ρ=.bad:=by unfold sIf;rw [g2];rfl
  rw [e1] at q;exact q.elim
end
def aL5 (K:Frag) (cM:Value) (tb:L2.St->Hp->(L2.St->Hp->Prop)->XK->Prop) (ie:Nat) (ts:TS):TS:=fun D σ H=>tb σ H (fun σ' H'=>D.nx σ' H') fun Cv dd H2=>∃C,Cv=.ref C/\exmOne K (.ref C) cM=some true/\∀a,H2 a=none->ts {nx:=fun σ' H'=>D.nx (σ'.set ie none) H',rt:=fun _ _=>False} (σ.set ie (some (.ref a))) (upd H2 a (.ext (XO a C dd)))
theorem aF1 {X:Cx} {cM:Value} {mx n:Str} {mp hpos pos:Pos} {body:List Stmt} {tb:L2.St->Hp->(L2.St->Hp->Prop)->XK->Prop} {b0:Stmt} {suite:List Stmt} {ts:TS} {ie:Nat}
  (hst:X.stack=X.env::X.outer) (hfr:X.env.frame=some X.env.locals) (hb:PB X body tb) (hgM:Gl X mx) (hmM:X.mg mx=some cM) (hN:X.N.Nodup) (hin:X.N[ie]?=some n) (hln:X.env.scope.names.lookup n=some .local)
  (hs:∀v,PSs (mrk X v).nox (b0::suite) ts) (hdM:(mx==("__debug__" : Str))=false:=by decide) :
  PS X (.Try body [.ExceptHandler (some (.Name mx mp)) (some n) (b0::suite) hpos] [] [] pos) (aL5 X.K cM tb ie ts):=by
 intro pins s σ H D I h;refine wpAny_Try_except (wpAny_mono (hb pins s σ H _ _ I h) (fun f s' ⟨e,σ',H',I',q⟩=>?_) fun e s' ⟨H1,s1,I1,hq⟩=>?_)
 ·subst e;exact wpAny_execs_nil ⟨σ',H',I',q⟩
 ·obtain ⟨a,C',dd,H2,B,rfl,os',bare',fly,clo,hn,hgone,C,eC,hx,hE⟩:=hq;cases eC;rw [hst] at fly;refine WK (by rw [I.ok.frames,hst]) hfr fly fun h4 held4 sm4=>?_
  refine nC (s:={s' with heap:=h4}) held4 fun h5 fly5 sm5=>?_
  have up5:s'.heap.UpToSlots h5:=Heap.UpToSlots.trans sm4 sm5;have I5:Inv X pins σ H2 {s' with heap:=h5}:=by
   obtain ⟨un,hok⟩:=clo h5 fly5.1 up5;exact I1.call' (ch:=[]) os' un hok bare' (fun b z=>absurd z (by simp))
  refine wpAny_handleBy_cons (codeAny_handlers_test ?_) (by intro q;cases q);refine nJ (X:=mrk X (.ref a)) (VL I5 _) hgM hmM ?_ hdM;have LT:Looks (model X.prog X.w) h5 (typeOf (.ref a)) (.ref C'):=by
   obtain ⟨ob,hob,hc,_⟩:=fly5.there;rw [<-hc];exact (Looks.ld hob).andThen .now
  refine (exm_one I5.kIn LT hx).here ?_;refine codeAny_handlers_suite_as ?_;refine nC (s:={s' with heap:=h5}) fly5 fun h6 fly6 sm6=>?_
  obtain ⟨un6,hok6⟩:=clo h6 fly6.1 (Heap.UpToSlots.trans up5 sm6);have I6:Inv X pins σ (upd H2 a (.ext (XO a C' dd))) {s' with heap:=h6}:=
   I1.call' (ch:=[]) os' (aHf un6 hgone hn) (aE6 hok6 hn (aKt fly6.there)) bare' (fun b z=>absurd z (by simp))
  refine zJ (X:=X) (v:=.ref a) I6 hN hin (.inl hln) rfl (fun s7 I7 _=>?_) (.inr hln);refine wpAny_mono (hs (.ref a) pins s7 _ _ _ ((VL I7 _).wish _) (hE a hn)) (fun fl s8 q8=>?_) fun _ _ z=>False.elim z
  cases fl with
  | ret u=>obtain ⟨_,_,_,_,_,z⟩:=q8;exact z.elim
  | brk=>obtain ⟨_,_,_,z⟩:=q8;exact z.elim
  | cont=>obtain ⟨_,_,_,z⟩:=q8;exact z.elim
  | next=>
   obtain ⟨σ8,H8,I8,q⟩:=q8;have I8:Inv X pins σ8 H8 s8:=VM I.ok I8.jX;obtain ⟨m,hm8,hl8⟩:=id I8.loc;refine wpAny_nameGoes_keeps hln hm8 (by rw [I.ok.kind];rfl) fun h9 v hn9 sb9=>?_
   exact ⟨_,H8,aAb I8 hN hin hm8 hl8 hn9 sb9,q⟩
theorem aF2 {own:Nat->Bool} {X:Cx} {cM:Value} {mx nm cn:Str} {mp hpos pos tp ep ap:Pos} {body:List Stmt} {f:FS} {cs:List Str} {ic ie:Nat}
  (hK:KFrag.K=X.K) (hst:X.stack=X.env::X.outer) (hfr:X.env.frame=some X.env.locals) (hb:PB X body (tB3 own f)) (hgM:Gl X mx) (hmM:X.mg mx=some cM)
  (hcs:∀c,cs.contains c=true->∃C,nsIn X.K mainGlobals c=some (some (.ref C))/\exmOne X.K (.ref C) cM=some true)
  (hN:X.N.Nodup) (hin:X.N[ie]?=some nm) (hln:X.env.scope.names.lookup nm=some .local) (hic:X.N[ic]?=some cn) (hlc:Loc X.env.scope cn) (hfc:X.fn cn=true\/X.env.scope.names.lookup cn=some .local) (oc:own ic=false) (oe:own ie=false) (hne:ie≠ic)
  (hdM:(mx==("__debug__" : Str))=false:=by decide) (hs2:swapsWith (.Name nm ep) (some (.Name cn tp)) ap.line X.env=pure false:=by rfl) (hd1:(nm==("__debug__" : Str))=false:=by decide) (hd2:(nm==("__classdict__" : Str))=false:=by decide) :
  PS X (.Try body [.ExceptHandler (some (.Name mx mp)) (some nm) [.Assign [.Name cn tp] (.Name nm ep) ap] hpos] [] [] pos) (tS own (W_ f cs ic ie)):=by
 refine PS.imp (aF1 hst hfr hb hgM hmM hN hin hln (fun v=>cX (RV (X:=(mrk X v).nox) hN hic hlc (aW hin (.inl hln) hd1 hd2) hs2 hfc)) hdM) fun D σ H ⟨ρ,fl,es,h,q⟩=>?_
 refine ⟨ρ,es,?_⟩;unfold W_ at h;split at h
 ·rename_i ρ' hf;cases h;rw [hf];exact fun σ' H' ku E'=>q σ' H' ku E'
 ·rename_i c c' fs hf;split at h
  ·rename_i hc;rw [Bool.and_eq_true,Bool.and_eq_true] at hc;have ec:=beq_iff_eq.mp hc.1.1;subst ec;cases h;rw [hf];obtain ⟨C,hn,hx⟩:=hcs _ hc.1.2;refine ⟨fs,C,rfl,by rw [hK];exact hn,fun H2 dd s2 xd=>⟨C,rfl,hx,fun a ha=>?_⟩⟩;have hl2:ie<σ.length:=by
    rw [es.len];exact of_decide_eq_true hc.2
   have rp:∀P,Rep P (upd H2 a (.ext (XO a C dd))) (.ref a) (.exc c' fs):=fun P=>.exc (C:=C) (dx:=dd) (by rw [hK];exact hn) aF (by
    cases dd with
    | none=>exact xd
    | some d=>
     have xd:H2 d=some (.ext (XD d fs)):=xd;show upd _ _ _ d=_;rw [aN (fun z=>by rw [z,ha] at xd;cases xd)];exact xd)
   have sm3:bO H (upd H2 a (.ext (XO a C dd))):=s2.trans (KZ ha);have es3:=(((es.same sm3).set oe (rp _)).set oc (rp _)).drop oe;refine ⟨.ref a,by rw [List.getElem?_set_self hl2],?_⟩;exact q _ _ (fun b o eb nb=>⟨sm3 b o eb,fun z=>nb ((jG oe b).mp ((jG oc b).mp ((LK oe b).mp z)))⟩) es3
  ·cases h
 ·cases h
def IV (f:FE) (is:List Nat):FS:=fun ρ=>do
 let d <- f ρ
 match d with
 | .lst xs=>if decide (xs.length=is.length) then .ok (.nx (G3 is xs ρ)) else .bad
 | _=>.bad
theorem yJ {X:Cx} {own:Nat->Bool} {e:Expr} {pos:Pos} {fe:FE} {es:List Expr} {k:Nat} {is:List Nat} {pt:Pos} (ho:∀i∈is,own i=false) (he:PE X e (gE fe true)) (hg:PG X (.Tuple es k pt) (aHs X.K is.length (gIx is))) (hs:swapsWithSole [.Tuple es k pt] e pos.line X.env=pure false:=by rfl) (hw:swappedStores [.Tuple es k pt] e X.env=pure none:=by rfl)
  (h1:(assignEach [.Tuple es k pt] X.env).map (·.2)=[assign (.Tuple es k pt) X.env]:=by rfl):PS X (.Assign [.Tuple es k pt] e pos) (tS own (IV fe is)):=PS.imp (lO he hg hs hw h1) fun D' σ H ⟨ρ,fl,E,h,q⟩=>by
 obtain ⟨d,h1,h2⟩:=bI h;refine ⟨ρ,d,E.er,h1,fun v H1 s1 r0 n=>?_⟩;split at h2
 ·rename_i xs;split at h2
  ·rename_i hl;cases h2;have hl':=of_decide_eq_true hl;have r2:Rep (fun a=>¬Own own σ a) H1 v (.lst xs):=(n rfl).mono fun b hb z=>by
    obtain ⟨o',e',_⟩:=E.live z;rw [show H b=none from hb] at e';cases e'
   obtain ⟨a,vs,rfl,sq,rr⟩:=r2.fX (K:=X.K);refine ⟨a,vs,rfl,sq,by rw [rr.length];exact hl',G_ _ _ _ (by rw [rr.length];exact hl') ?_⟩;obtain ⟨E2,hO⟩:=ES.sets ho (E.same s1) rr;exact q _ H1 ((KU.same s1).trans fun a o e n=>⟨e,by rw [hO];exact n⟩) E2
  ·cases h2
 ·cases h2
noncomputable def CT:D->D->Res D
 | .lst [x],.int n=>if decide (0<=n)&&decide (n<=10000)&&x.pure then .ok (.lst (List.replicate n.toNat x)) else .bad
 | _,_=>.bad
theorem yK {P:Addr->Prop} {H:Hp} {v:V} {d:D} (r:Rep P H v d):∀n:Nat,bF P H (List.replicate n [v]).flatten (List.replicate n d)
 | 0=>.nil
 | n+1=>by
  rw [List.replicate_succ,List.replicate_succ,List.flatten_cons];exact .cons r (yK r n)
theorem mF {X:Cx}:OpR X (binaryOp .Mult) (r2 CT true):=by
 intro pins s σ H x y v u Q I rx ry ⟨a,b,d,p,q,e,k⟩;unfold CT at e;split at e
 ·rename_i x1 n;split at e
  ·rename_i hl;rw [Bool.and_eq_true,Bool.and_eq_true] at hl;obtain ⟨⟨h0,h1⟩,hp⟩:=hl;have h0:=of_decide_eq_true h0;have h1:=of_decide_eq_true h1;cases e;cases q;cases p with
   | @lst a1 xs _ e1 _ r1=>
    cases r1 with
    | @cons v1 _ _ _ r2 r3=>
     cases r3;refine aGt pins s σ H _ _ v u Q I rx ry ⟨a1,n,[v1],rfl,rfl,e1,by lia,by lia,?_,fun p hpn=>?_⟩
     ·rw [List.length_singleton,sizeLine_eq];lia
     ·have sp:bO H (upd H p (.lst (List.replicate n.toNat [v1]).flatten)):=bO.upd hpn;exact k _ _ sp (.lst aF trivial ((yK r2 _).same sp)) fun _=>.lst aF hpn ((yK (r2.bL hp) _).same sp)
  ·cases e
 ·cases e
end Mi
namespace Mi
open PySem L2 PySem.SeqAt PySem.Spec PyProof.Rows
def bFz (f:FE):FE:=fun ρ=>do
 let d <- f ρ
 match d with
 | .lst xs=>if D.aG xs then .ok (.scr xs) else .bad
 | _=>.bad
noncomputable def aIe:D->Option (List D)
 | .lst a=>some a
 | .scr a=>some a
 | _=>none
def aF3 (x y:D):Res D:=match aIe x,aIe y with
 | some a,some b=>if decide (a.length+b.length<=lim)&&D.aG a&&D.aG b then .ok (.lst (a++b)) else .bad
 | _,_=>.bad
variable [KFrag]
section
variable {X:Cx} {e:Expr} {f:FE}
def tFz (t:TE):TE:=fun σ H Q=>t σ H fun v H1=>∃a vs,v=.ref a/\H1 a=some (.lst vs)/\∀o,Q v (upd H1 a (.frz o (.lst vs)))
theorem aL6 {t:TE} (h:PE X e t):PE X e (tFz t):=by
 intro pins s σ H Q I q;refine wpAny_mono (h pins s σ H _ (I.wish _) q) (fun u s1 ⟨v,H1,I1,r,a,vs,ev,ea,k⟩=>?_) fun _ _ z=>z
 obtain ⟨o,I2⟩:=QM I1 ea;exact ⟨v,_,I2,r,k o⟩
theorem oW (h:PE X e (gE f true)):PE X e (gE (bFz f) true):=PE.imp (aL6 h) fun σ H Q ⟨ρ,d,E,h,q⟩=>by
 obtain ⟨d0,h1,h2⟩:=bI h;split at h2
 ·rename_i xs;split at h2
  ·rename_i hp;cases h2;refine ⟨ρ,_,E,h1,fun v H1 s1 r n=>?_⟩;cases n rfl with
   | @lst a vs _ ea pa ra=>
    refine ⟨a,vs,rfl,ea,fun o=>?_⟩;have noT:∀ob,H1 a=some ob->aE7 ob=true:=fun ob z=>by rw [ea] at z;cases z;rfl
    have s2:bO H (upd H1 a (.frz o (.lst vs))):=fun b ob eb=>by
     rw [aN (fun z=>by rw [z,show H a=none from pa] at eb;cases eb)];exact s1 b ob eb
    have rp:∀P:Addr->Prop,Rep P (upd H1 a (.frz o (.lst vs))) (.ref a) (.scr xs):=fun P=>.frz (.inl ⟨o,aF⟩) ((nA noT ra hp).bL hp)
    exact q _ _ s2 (rp _) fun _=>rp _
  ·cases h2
 ·cases h2
theorem XF {P:Addr->Prop} {H:Hp} {v:V} {d:D} {ds:List D} (hK:KFrag.K=X.K) (h:aIe d=some ds) (r:Rep P H v d):∃a xs,v=.ref a/\SqL X.K H a xs/\bF P H xs ds:=by
 cases d with
 | lst a=>
  cases h;cases r with
  | lst e p rr=>exact ⟨_,_,rfl,.inl (.inl e),rr⟩
 | scr a=>
  cases h;cases r with
  | frz e rr=>exact ⟨_,_,rfl,e.sq hK,rr⟩
 | _=>cases h
theorem XH (hK:KFrag.K=X.K):OpR X (binaryOp .Add) (r2 aF3 true):=by
 intro pins s σ H x y v u Q I rx ry ⟨a,b,d,p,q,e,k⟩;unfold aF3 at e;split at e
 ·rename_i xa xb ha hb;split at e
  ·rename_i hl;cases e;rw [Bool.and_eq_true,Bool.and_eq_true] at hl;obtain ⟨⟨hl,hp1⟩,hp2⟩:=hl;obtain ⟨l1,xs1,rfl,sq1,rr1⟩:=XF hK ha p;obtain ⟨l2,xs2,rfl,sq2,rr2⟩:=XF hK hb q;cases rx;cases ry;obtain ⟨its,vr1,⟨o1,n1,e1,c1,d1,t1⟩,_⟩:=I.list sq1;obtain ⟨its2,vr2,⟨o2,n2,e2,c2,d2,t2⟩,_⟩:=I.list sq2;obtain ⟨oc1,od1,ot1,os1⟩:=o1;obtain ⟨oc2,od2,ot2,os2⟩:=o2;dsimp only at c1 d1 t1 c2 d2 t2;subst c1 d1 t1 c2 d2 t2;have hz:xs1.length+xs2.length<=sizeLine:=by rw [rr1.length,rr2.length];exact jF hl
   have z1:=vr1.length;have z2:=vr2.length;have ea:its.toArray++its2.toArray=(its++its2).toArray:=by simp
   refine concat_meets ⟨_,e1,rfl⟩ ⟨_,e2,rfl⟩ noFill_list_add seq_list_add PySem.F.slot_list_add PySem.F.entry_list_add (PySem.F.args_list_add_2 _ _) (list_addW l1 l2 its.toArray its2.toArray n1 n2 none none os1 os2 (by rw [List.size_toArray,List.size_toArray];lia)) ⟨e1,e2,?_⟩;rw [ea];refine ⟨.ref _,_,I.aKa (t':=s.toks) (vr1.append vr2) (by rw [List.length_append];lia),rfl,?_⟩;have sp:bO H (upd H s.heap.objs.size (.lst (xs1++xs2))):=bO.upd I.fresh;exact k _ _ sp (.lst aF trivial ((rr1.append rr2).same sp)) fun _=>.lst aF I.fresh (((rr1.bL hp1).append (rr2.bL hp2)).same sp)
  ·cases e
 ·cases e
end
end Mi
section
local macro_rules | `(tactic| trivial) => `(tactic| first | exact Or.inl rfl | exact Or.inr rfl | exact Or.inr (Or.inl rfl) | exact Or.inr (Or.inr rfl))
namespace Lk57
open PySem L2 Mi PySem.W
noncomputable def top (i:Nat):Stmt:=PySem.Challenge.pw_hookmill_k57_whole_long_runs.main.body.getD i (.Pass ⟨0,0,0,0⟩)
abbrev nY:Stmt:=top 10
noncomputable def Q4:Nat->Bool:=fun i=>i==1
def Q5:FS:=bA (cJ true 1 (bC (.dct [])) true) (bA (Y0 (cO (b2 getD iI dO) false) (tgN [2,3,4]) (aDl 1 fQ (gU (aC fB (aC gQ aV))))) (bA (Y0 (cO (b2 getD iI jV) false) (tgN [2,3,5,6]) (aDl 1 fQ (gU (aC fB (aC (b2 aHi (gU (aC uT aV)) zH) aV))))) (PX 1)))
def gB:List D->Res D:=fnS 1 7 Q5
abbrev nZ:Stmt:=top 13
noncomputable def Q6:Nat->Bool:=fun i=>i==1||i==2
def oc:FT:=(bTr fQ)
def ob0:FS:=(V2 2 3)
def ob1:FS:=(RG 1 (b2 getD fB fZ))
def ob2:FS:=(aJl 2 (b1 aKs (b2 getD fB dO)))
def ob:FS:=bA ob0 (bA ob1 ob2)
def n6:FS:=bA (cJ true 1 (cP aV) true) (bA (cJ true 2 (cP (aC (bPu iI) aV)) true) (bA (aKq oc ob) (xQ (aX g8 (aC e_ aV)) false)))
def gC:List D->Res D:=fnS 1 4 n6
abbrev mG:Stmt:=rowOf (top 14) 0
def kJ:List (Str×Srx):=[("words",.par 1),("left",.exp (aX m5 (aC e_ aV))),("known",.par 2)]
abbrev dF:Stmt:=rowOf (top 15) 0
def d7:List (Str×Srx):=[("heads",.exp (aX (oF 1 gB) (aC e_ aV))),("makers",.exp (b1 K8 (jQ 3 (cO (b2 getD e_ dO) false) GX j7 (gU (aC (b2 getD fB fZ) (aC (bC (.bl true)) aV))) false))),("rules",.exp (b1 yF (jQ 3 (cO (b2 getD e_ jW) false) GX j7 (gU (aC (gU (aC (b2 getD fB fZ) (aC (b2 getD fB dO) aV))) (aC fB aV))) false))),("most",.par 2),("calls",.exp fZ),("copies",.exp fZ),("drops",.exp fZ)]
abbrev dG:Stmt:=rowOf (top 15) 1
abbrev cV:Stmt:=rowOf (top 15) 2
abbrev jN:Stmt:=rowOf (top 15) 3
abbrev dC:Stmt:=rowOf (top 15) 4
abbrev n8:Stmt:=top 12
def cW:List D->Res D:=aG4 d7 gC
abbrev iQ:Stmt:=top 17
noncomputable def vU:Nat->Bool:=fun i=>false
def vV:FS:=bA (sIf (bTB (b2 (nH .lt) e_ (aX m5 (aC iI aV)))) (xQ (b2 getD iI e_) false) RD) (xQ fZ true)
def dR:List D->Res D:=fnS 2 2 vV
abbrev fL:Stmt:=top 18
noncomputable def CV:Nat->Bool:=fun i=>i==8
def nb:FS:=(bA (cJ false 10 (b2 (aR .mod) (b2 (aR .add) (b2 jH gD fB) gQ) xP) true) (sIf (bTB (b2 (mO .eq) (b2 (aR .mod) iI jW) dO)) (RG 8 (b2 jH (b2 getD fQ (b2 (aR .mod) (b2 (aR .add) gQ (b2 (aR .mod) dH RC)) xP)) (b2 (aR .add) dO (b2 (aR .fdiv) dH RC)))) (RG 8 (b2 (aR .add) (b2 (aR .add) (mQ zH iJ (dI RB)) (b2 getD fQ dH)) (mQ zH (dI RB) iJ)))))
def nm6:FS:=(cJ false 6 (bM joinM (bC (.str "")) (aC (jQ 11 (vQ (aC uT aV) uU) GX j7 (b2 getD fQ (b2 (aR .mod) (b2 (aR .add) (b2 (aR .fdiv) e_ aJf) (b2 jH dN (b2 (aR .add) gQ (b2 (aR .mod) (b2 (aR .fdiv) e_ (bC (.int 40))) YX)))) xP)) false) aV)) true)
def nm8:FS:=(sIf (bOr (bTB (b2 inX (bC (.str "copy")) GR)) (bTB (b2 inX (bC (.str "drop")) GR))) (cJ true 8 (jQ 11 (cO GR false) GX j7 (b2 (aR .add) dN (bC (.str "e"))) true) true) RD)
def kO:FS:=bA (cJ false 2 (bC (.str "abcdefghijklmnopqrstuvwxyz")) true) (bA (cJ false 3 (b2 getD (cP (aC dO (aC jW (aC YX (aC aGw (aC YZ (aC (bC (.int 25)) aV))))))) (b2 (aR .mod) (b2 (aR .fdiv) iI jW) (bC (.int 6)))) false) (bA (cJ false 4 (b2 (aR .mod) (b2 (aR .fdiv) iI (bC (.int 18))) xP) true) (bA (cJ false 5 (b2 (aR .mod) e_ aJf) true) (bA nm6 (bA (cJ false 7 (b2 (aR .mod) (b2 (aR .fdiv) e_ YZ) (b2 (aR .add) uT dO)) true) (bA (cJ true 8 (cP aV) true) (bA (Y0 (vQ (aC xP aV) uU) (tg1 9) nb) (bA nm8 (PX 8)))))))))
def h_:List D->Res D:=fnS 2 11 kO
abbrev iB:Stmt:=top 19
noncomputable def CW:Nat->Bool:=fun i=>i==7||i==9||i==16
def rbw:FS:=(sIf (bTr (b1 (PQ .int) xO)) (RG 16 (b2 getD TV xO)) (RG 16 xO))
def rb0:FS:=cJ false 14 (b2 (aR .add) dO (b2 (aR .mod) (aX m5 (aC gD aV)) RC)) true
def rb1:FS:=cJ false 15 (jQ 18 (vQ (aC lY aV) uU) GX j7 (b2 getD iI (b2 (aR .add) aDj (b2 (aR .mod) (b2 (aR .add) (aX m5 (aC gD aV)) (b2 jH TX j6)) YX))) false) true
def rb2:FS:=cJ true 16 (cP aV) true
def rb4:FS:=RG 9 (gU (aC dH (aC dN (aC (aX g8 (aC TV aV)) (aC (aX g8 (aC (bT 16) aV)) aV)))))
def rbb:FS:=bA rb0 (bA rb1 (bA rb2 (bA (aAf 13 (tg1 17) rbw) rb4)))
def ru0:FS:=IV (mQ iI (dI dO) (dI aGw)) [1,2,3,4,5,6]
def ru1:FS:=cJ true 7 (cP (aC (bPu (gU (aC gQ (aC e_ (aC dO (aC (bFz (cP (aC fZ aV))) aV)))))) (aC (bPu (gU (aC gQ (aC fQ (aC jV (aC (bFz (cP (aC (bPu fQ) (aC (bPu gQ) (aC fZ (aC dO aV)))))) aV)))))) (aC (bPu (gU (aC gQ (aC fB (aC jW (aC (bFz (cP (aC jV aV))) aV)))))) aV)))) true
def ru2:FS:=cJ true 7 (b2 (aR .add) RB (cP (aC (bPu (gU (aC uT (aC e_ (aC dO (aC (bFz (cP (aC (bPu e_) aV))) aV)))))) (aC (bPu (gU (aC uT (aC fQ (aC jV (aC (bFz (cP (aC (bPu gQ) (aC dO (aC (bPu uT) (aC fZ (aC dO aV))))))) aV)))))) (aC (bPu (gU (aC uT (aC fB (aC jW (aC (bFz (cP (aC (bPu e_) aV))) aV)))))) aV))))) true
def ru3:FS:=cJ true 7 (b2 (aR .add) RB (cP (aC (bPu (gU (aC zH (aC e_ (aC jV (aC (bFz (cP (aC (bPu e_) aV))) aV)))))) (aC (bPu (gU (aC zH (aC fB (aC RC (aC (bFz (cP (aC (bPu e_) aV))) aV)))))) aV)))) true
def ru4:FS:=cJ false 8 (bFz (cP (aC (bPu gQ) (aC dO (aC (bPu gQ) (aC jV (aC (bPu gQ) (aC dO (aC (bPu gQ) (aC jV (aC (bPu gQ) (aC dO (aC (bPu zH) (aC fZ (aC dO (aC jV aV)))))))))))))))) true
def ru5:FS:=RG 7 (gU (aC zH (aC fQ (aC jW (aC GR aV)))))
def ru6:FS:=cJ true 9 (cP aV) true
def ru7:FS:=BW 7 (tgN [10,11,12,13]) rbb
def ru8:FS:=PX 9
def kW:FS:=bA ru0 (bA ru1 (bA ru2 (bA ru3 (bA ru4 (bA ru5 (bA ru6 (bA ru7 (ru8))))))))
def iC:List D->Res D:=fnS 1 18 kW
abbrev iR:Stmt:=top 20
noncomputable def vX:Nat->Bool:=fun i=>i==10
def pg0:FS:=IV (mQ iI iJ (dI aGw)) [2,3,4,5,6,7,8]
def pg1:FS:=cJ false 9 (cP (aC (bPu (gU (aC fB (aC fQ (aC (gU aV) aV))))) (aC (bPu (gU (aC gQ (aC fQ (aC (gU (aC fQ aV)) aV))))) (aC (bPu (gU (aC uT (aC fQ (aC (gU (aC fQ (aC fQ aV))) aV))))) aV)))) true
def pg2:FS:=cJ false 9 (b2 (aR .add) (mQ gD (dI (b2 (aR .mod) e_ jW)) iJ) (mQ gD iJ (dI (b2 (aR .mod) e_ jW)))) true
def pg3:FS:=cJ true 10 (cP (aC (bPu (gU (aC zH (aC fQ (aC fQ (aC (gU (aC fQ aV)) aV)))))) (aC (bPu (gU (aC RB (aC fQ (aC fQ (aC (gU (aC fQ aV)) aV)))))) aV))) true
def pg4:FS:=RG 10 (gU (aC GR (aC fQ (aC fQ (aC (gU (aC fQ (aC fQ aV))) aV)))))
def pg5:FS:=cJ true 10 (b2 (aR .add) (mQ dH (dI (b2 (aR .mod) (b2 (aR .fdiv) e_ jW) jW)) iJ) (mQ dH iJ (dI (b2 (aR .mod) (b2 (aR .fdiv) e_ jW) jW)))) true
def pg6:FS:=cJ false 11 (aX (oF 1 iC) (aC iI aV)) true
def pg7:FS:=cJ false 12 (b2 (aR .mod) (b2 (aR .fdiv) e_ YZ) (aX m5 (aC dN aV))) true
def pg8:FS:=xQ (gU (aC (gU (aC fQ aV)) (aC (aX g8 (aC gD aV)) (aC (aX g8 (aC dH aV)) (aC (aX g8 (aC (b2 (aR .add) (mQ dN (dI lY) iJ) (mQ dN iJ (dI lY))) aV)) aV))))) false
def iT:FS:=bA pg0 (bA pg1 (bA pg2 (bA pg3 (bA pg4 (bA pg5 (bA pg6 (bA pg7 (pg8))))))))
def fD:List D->Res D:=fnS 2 13 iT
abbrev kY:Stmt:=top 21
noncomputable def CZ:Nat->Bool:=fun i=>false
def en0:FS:=IV (mQ iI (dI dO) (dI aGw)) [2,3,4,5,6,7]
def en1:FS:=cJ false 8 (b2 (aR .fdiv) e_ jV) true
def en2:FS:=sIf (bTB (b2 (mO .eq) (b2 (aR .mod) e_ jV) fZ)) (bA (cJ false 9 (b2 (aR .mod) GR YZ) true) (bA (cJ false 10 (b2 (aR .mod) (b2 (aR .fdiv) GR YZ) YZ) true) (bA (cJ false 11 (bFz (b2 (aR .add) (b2 (aR .add) (b2 (aR .add) (b2 (aR .add) (cP (aC (bPu uT) (aC (bPu zH) aV))) (b2 CT (cP (aC (bPu fB) aV)) gD)) (cP (aC (bPu fQ) aV))) (b2 CT (cP (aC (bPu fB) aV)) dH)) (cP (aC (bPu fQ) aV)))) true) (xQ (cP (aC (bPu dN) (aC (b2 jH gD dH) (aC (b2 (aR .add) (b2 (aR .add) (b2 (aR .add) (b2 (aR .add) gD dO) (b2 jH gD (b2 (aR .add) dH dO))) (b2 jH gD dH)) dO) (aC (b2 jH gD (b2 (aR .add) dH dO)) (aC (b2 (aR .add) dH dO) aV)))))) true)))) RD
def en3:FS:=cJ false 9 (b2 (aR .mod) GR RC) true
def en4:FS:=cJ false 10 (b2 (aR .mod) (b2 (aR .fdiv) GR RC) YX) true
def en5:FS:=cJ false 12 (b2 (aR .mod) (b2 (aR .fdiv) GR (bC (.int 20))) YX) true
def en6:FS:=cJ false 11 (bFz (b2 (aR .add) (b2 (aR .add) (cP (aC (bPu uT) (aC (bPu RB) aV))) (b2 CT (cP (aC (bPu fB) aV)) gD)) (cP (aC (bPu fQ) aV)))) true
def en7:FS:=cJ false 11 (bFz (b2 (aR .add) (b2 (aR .add) (b2 (aR .add) (b2 aF3 dN (b2 CT (cP (aC (bPu fB) aV)) dH)) (cP (aC (bPu fQ) aV))) (b2 CT (cP (aC (bPu fB) aV)) lY)) (cP (aC (bPu fQ) aV)))) true
def en8:FS:=cJ false 13 (b2 jH gD (b2 (aR .add) (b2 jH jW dH) (b2 jH jV lY))) true
def en9:FS:=cJ false 14 (b2 (aR .add) (b2 jH jW (b2 (aR .add) dH dO)) (b2 jH jV (b2 (aR .add) lY dO))) true
def aL7:FS:=xQ (cP (aC (bPu dN) (aC (bPu gR) (aC (b2 (aR .add) (b2 (aR .add) (b2 (aR .add) (b2 (aR .add) gD dO) (b2 jH gD j6)) gR) dO) (aC (b2 jH gD j6) (aC (b2 (aR .add) (b2 (aR .add) dH lY) jV) aV)))))) true
def kZ:FS:=bA en0 (bA en1 (bA en2 (bA en3 (bA en4 (bA en5 (bA en6 (bA en7 (bA en8 (bA en9 (aL7))))))))))
def fM:List D->Res D:=fnS 2 15 kZ
abbrev k_:Stmt:=top 22
noncomputable def C_:Nat->Bool:=fun i=>false
def rg0:FS:=sIf (bOr (aDk (bTr (b1 (PQ .tuple) iI))) (bTB (b2 (mO .ne) (aX m5 (aC iI aV)) RC))) (xQ (bC (.bl false)) true) RD
def rg1:FS:=sIf (bOr (aDk (bTr (b1 (PQ .tuple) (b2 getD iI fZ)))) (bTB (b2 (mO .ne) (aX PP (aC (b2 getD iI fZ) aV)) e_))) (xQ (bC (.bl false)) true) RD
def aJp:FS:=(sIf (bOr (aDk (bTr (b1 (PQ .int) (b2 getD iI fB)))) (bOr (bTr (b1 (PQ .bool) (b2 getD iI fB))) (bTB (b2 (mO .ne) (b2 getD iI fB) (b2 getD fQ (b2 (aR .sub) fB dO)))))) (xQ (bC (.bl false)) true) RD)
def rg2:FS:=Y0 (cO (cP (aC dO (aC jV (aC jW aV)))) true) (tg1 3) aJp
def rg3:FS:=xQ (bC (.bl true)) true
def lA:FS:=bA rg0 (bA rg1 (bA rg2 (rg3)))
def fO:List D->Res D:=fnS 3 4 lA
abbrev lB:Stmt:=top 23
noncomputable def DG:Nat->Bool:=fun i=>false
def as0:FS:=cJ false 5 (bC .non) true
def as1:FS:=cJ false 6 (bC .non) true
def as2:FS:=W_ (sIf (noE (bTB (b2 (nH .lt) gQ fZ))) (cJ false 5 (aX (MT 3 cW [.int 400]) (noE (aC iI (aC e_ aV)))) true) (cJ false 5 (aX (MT 3 cW []) (noE (aC iI (aC e_ (aC gQ aV))))) true)) ["Spent"] 6 7
def as3:FS:=sIf (bTB (b2 (nH .le) (aX j_ (aC fB aV)) (b2 getD (cP (aC (bPu gQ) (aC wH aV))) (aX aG0 (aC (b2 (nH .lt) gQ fZ) aV))))) (xQ (Z2 (b2 (mO .isN) zH (bC .non)) (aX (oF 3 fO) (aC uT (aC fQ (aC fB aV))))) true) RD
def as4:FS:=sIf (bTr (aG1 [("Spent",false)] 6)) (xQ (bC (.bl false)) true) RD
def as5:FS:=xQ (aG1 [("Spent",true)] 6) true
def lC:FS:=bA as0 (bA as1 (bA as2 (bA as3 (bA as4 (as5)))))
def dD:List D->Res D:=fnS 5 8 lC
abbrev yL:Stmt:=top 24
noncomputable def o_law:Nat->Bool:=fun i=>i==11
def lw0:FS:=cJ false 1 (aX (oF 2 dR) (aC iI (aC fZ aV))) true
def lw1:FS:=cJ false 2 (aX (oF 2 dR) (aC iI (aC dO aV))) true
def lw2:FS:=cJ false 3 (aX (oF 2 h_) (aC (b2 (aR .fdiv) e_ jW) (aC fQ aV))) true
def lw3:FS:=IV (mQ fB (dI dO) (dI YX)) [4,5,6,7]
def lw4:FS:=cJ false 8 (b2 getD (cP (aC (bC (.int 60)) (aC (bC (.int 200)) (aC (bC (.int 398)) aV)))) (b2 (aR .mod) e_ jW)) false
def lw5:FS:=cJ false 9 (cP aV) true
def lw6:FS:=cJ false 10 fZ true
def lw7:FS:=cJ true 11 (cP (aC fZ (aC fZ (aC fZ aV)))) true
def aL8:FS:=(bA (cJ false 13 (aX (oF 2 fM) (aC fB (aC lY aV))) true) (sIf (PN (bTB (b2 (nH .le) (b2 (aR .add) (aX j_ (aC dN aV)) (aX j_ (aC (mQ gR (dI jV) iJ) aV))) GR)) (bTB (b2 (nH .lt) (b2 (aR .add) (aX m5 (aC gD aV)) (aX m5 (aC (b2 getD gR fZ) aV))) TY))) (bA (cJ false 9 (b2 aF3 gD (b2 getD gR fZ)) true) (bA (cJ false 10 (b2 (aR .add) dH (b2 getD gR dO)) true) (cJ true 11 (cP (aC (b2 (aR .add) (b2 getD dN fZ) (b2 getD gR jV)) (aC (b2 (aR .add) (b2 getD dN dO) (b2 getD gR jW)) (aC (b2 (aR .add) (b2 getD dN jV) (b2 getD gR RC)) aV)))) true))) RD))
def lw8:FS:=Y0 (cO (mQ iI (dI jV) (dI (bC (.int 122)))) true) (tg1 12) aL8
def lw9:FS:=cJ false 14 (b2 (aR .sub) (b2 (aR .add) (bC (.int 398)) (b2 (aR .mod) fQ RC)) (aX j_ (aC dN aV))) true
def aL9:FS:=sIf (PN (bTB (b2 (mO .eq) (b2 (aR .mod) (b2 (aR .fdiv) fQ RC) jW) dO)) (PN (bTB (b2 (nH .ge) j6 fZ)) (bTB (b2 (nH .le) (b2 (aR .add) (b2 (aR .add) (aX m5 (aC gD aV)) j6) jW) wH)))) (bA (cJ false 9 (b2 (aR .add) (b2 (aR .add) (b2 (aR .add) gD (cP (aC (bPu RB) aV))) (b2 CT (cP (aC (bPu uT) aV)) j6)) (cP (aC (bPu gQ) aV))) true) (bA (cJ false 10 (b2 (aR .add) dH j6) true) (aAe 11 fZ (b2 (aR .add) (b2 (aR .add) (b2 getD dN fZ) j6) dO)))) RD
def aLa:FS:=cJ false 9 (aX g8 (aC (b2 (aR .add) gD (cP (aC (bPu gQ) aV))) aV)) false
def aLb:FS:=cJ false 15 (b2 (aR .add) (b2 CT (cP (aC (bPu uT) aV)) dH) (cP (aC (bPu gQ) aV))) true
def aMm:FS:=cJ false 16 (aX (oF 2 fD) (aC fB (aC (b2 (aR .fdiv) fQ (bC (.int 12))) aV))) true
def aMn:FS:=cJ false 17 (aX j_ (aC dN aV)) true
def aF4:FS:=(sIf (aDk (bTr (aX (oF 5 dD) (aC (bT 16) (aC gD (aC TV (aC dN (aC TX aV)))))))) (xQ (bC (.bl false)) true) RD)
def aLc:FS:=Y0 (cO (cP (aC (bPu xO) (aC (b2 (aR .add) xO (bC (.int 50))) (aC (b1 aJh dO) aV)))) true) (tg1 18) aF4
def aLd:FS:=xQ (aJg (b2 (mO .eq) xO fZ) (aX (oF 5 dD) (aC (bT 16) (aC gD (aC TV (aC dN (aC (b2 (aR .sub) xO dO) aV))))))) true
def aF5:FS:=bA lw0 (bA lw1 (bA lw2 (bA lw3 (bA lw4 (bA lw5 (bA lw6 (bA lw7 (bA lw8 (bA lw9 (bA aL9 (bA aLa (bA aLb (bA aMm (bA aMn (bA aLc (aLd))))))))))))))))
def Q7:List D->Res D:=fnS 1 19 aF5
noncomputable abbrev wV:List Str:=["program", "heads", "name", "kind", "parts", "taken", "more"]
noncomputable abbrev wW:List Str:=["value", "found", "waiting", "node"]
noncomputable abbrev XJ:List Str:=["program", "words", "most", "plain", "value"]
noncomputable abbrev lU:List Str:=["script", "k"]
noncomputable abbrev d8:List Str:=["choice", "cell", "letters", "turn", "shift", "size", "base", "at", "names", "k", "spot"]
noncomputable abbrev iD:List Str:=["names", "last", "one", "two", "plus", "times", "thrice", "goals", "long", "rules", "taker", "maker", "many", "goal", "step", "own", "words", "word"]
noncomputable abbrev lV:List Str:=["names", "cell", "kind", "last", "one", "two", "plus", "times", "thrice", "makers", "takers", "rules", "at"]
noncomputable abbrev oK:List Str:=["names", "cell", "last", "one", "two", "plus", "times", "thrice", "number", "a", "b", "words", "c", "found", "step"]
noncomputable abbrev oM:List Str:=["found", "words", "counts", "k"]
noncomputable abbrev oN:List Str:=["program", "words", "due", "counts", "bound", "found", "caught", "e"]
noncomputable abbrev aIf:List Str:=["script", "first", "second", "names", "last", "one", "two", "plus", "limit", "words", "number", "counts", "cell", "entry", "more", "due", "program", "total", "bound"]
theorem IW:cC wV ["program"] (aM nY):=by refine ⟨rfl,rfl,rfl,?_,rfl,?_,?_⟩ <;> decide +kernel
theorem DK [KFrag] {P:Program} {w:World} {K:Frag} {mg:Str->Option Value} {base:Heap} {fad:Addr} {fd:FuncData} (hK:KFrag.K=K) (B:Bt mg)  (F:Fun K "heads_of" "heads_of" nY fad fd) (hm:mg "heads_of" = some (.ref fad)):iZ P w K mg base 1 "heads_of" 1 gB:=by
 have sc:=IW;have nd:=sc.nd;refine m9 (ps:=["program"]) (N:=wV) (k:=0) F hm (F.binds fun _ _ _ _ _ _ us hl=>match us,hl with|[_],_=>rfl) sc Q4 (by decide) (by decide) fun cdv A outer s H E hr=>?_
 have hu:=FN hr;exact aJ (bY (Z5)) (aJ (wI PassesOwn.never rfl (iK (cH aB aD)) (HD _ (by decide)) (JP rfl (aZ (aQ sc.nd rfl (by trivial)) (aZ (aQ sc.nd rfl (by trivial)) (aZ (aQ sc.nd rfl (by trivial)) (jZ))))) (bK (aC3 hu rfl rfl (by trivial) aB (cD (aA aB (aA aB aK)))))) (aJ (wI PassesOwn.never rfl (iK (cH aB aD)) (HD _ (by decide)) (JP rfl (aZ (aQ sc.nd rfl (by trivial)) (aZ (aQ sc.nd rfl (by trivial)) (aZ (aQ sc.nd rfl (by trivial)) (aZ (aQ sc.nd rfl (by trivial)) (jZ)))))) (bK (aC3 hu rfl rfl (by trivial) aB (cD (aA aB (aA (aO aE8 (cD (aA aB aK)) aB) aK)))))) (bK (HB rfl rfl (by trivial)))))
theorem I_:cC wW ["value"] (aM nZ):=by refine ⟨rfl,rfl,rfl,?_,rfl,?_,?_⟩ <;> decide +kernel
theorem DN [KFrag] {P:Program} {w:World} {K:Frag} {mg:Str->Option Value} {base:Heap} {fad:Addr} {fd:FuncData} (hK:KFrag.K=K) (B:Bt mg)  (F:Fun K "words_of" "words_of" nZ fad fd) (hm:mg "words_of" = some (.ref fad)):iZ P w K mg base 1 "words_of" 1 gC:=by
 have sc:=I_;have nd:=sc.nd;refine m9 (ps:=["value"]) (N:=wW) (k:=0) F hm (F.binds fun _ _ _ _ _ _ us hl=>match us,hl with|[_],_=>rfl) sc Q6 (by decide) (by decide) fun cdv A outer s H E hr=>?_
 have hu:=FN hr;exact aJ (bY (bJ aK)) (aJ (bY (bJ (aA (b8 aB) aK))) (aJ (aHj PassesOwn.never (oG aB) (aJ (aEa rfl rfl (by trivial) sc.nd rfl (by trivial) rfl) (aJ (oH rfl rfl (by trivial) (cH aB aD)) (bK (aHm rfl rfl (by trivial) (aEi (by rfl) (by rfl) B.list (by rfl) B.reversed (cH aB aD))))))) (bK (gK (c7 g_ (by rfl) B.tuple fC (aA aB aK))))))
theorem aB6:cC (["self", "words", "known"]:List Str) ["self", "words", "known"] (aM mG):=by refine ⟨rfl,rfl,rfl,?_,rfl,?_,?_⟩ <;> decide +kernel
theorem XM [KFrag] {P:Program} {w:World} {K:Frag} {mg:Str->Option Value} {base:Heap} {fad:Addr} {fd:FuncData} (hK:KFrag.K=K) (B:Bt mg) {C:Addr}  (cls:Cls K C) (na:∀f∈kJ.map (·.1),bZ K C f) (F:Fun K "__init__" "Frame.__init__" mG fad fd):jU P w K mg base CX0 1 fad fd ["self", "words", "known"] (aAn C kJ 2):=by
 have sc:=aB6;have nd:=sc.nd;refine aCb (N:=(["self", "words", "known"]:List Str)) (ps:=["self", "words", "known"]) (k:=0) F sc rfl rfl cls (by decide +kernel) na (by decide) fun cdv A outer s H E hr=>?_
 have hu:=FN hr;exact bN (gY (aW rfl (by trivial)) (aW rfl (by trivial)) rfl) (bN (gY (aW rfl (by trivial)) (cU (m8 hK) (by rfl) B.len m_ (aA aB aK)) rfl) (bN (gY (aW rfl (by trivial)) (aW rfl (by trivial)) rfl) (xG)))
theorem JB:cC (["self", "program", "most"]:List Str) ["self", "program", "most"] (aM dF):=by refine ⟨rfl,rfl,rfl,?_,rfl,?_,?_⟩ <;> decide +kernel
theorem DP [KFrag] {P:Program} {w:World} {K:Frag} {mg:Str->Option Value} {base:Heap} {fad:Addr} {fd:FuncData} (hK:KFrag.K=K) (B:Bt mg) {C:Addr} (t8:iZ P w K mg base 1 "heads_of" 1 gB) (cls:Cls K C) (na:∀f∈d7.map (·.1),bZ K C f) (F:Fun K "__init__" "PlainRun.__init__" dF fad fd):jU P w K mg base CX0 2 fad fd ["self", "program", "most"] (aAn C d7 2):=by
 have sc:=JB;have nd:=sc.nd;refine aCb (N:=(["self", "program", "most"]:List Str)) (ps:=["self", "program", "most"]) (k:=1) F sc rfl rfl cls (by decide +kernel) na (by decide) fun cdv A outer s H E hr=>?_
 have hu:=FN hr;exact bN (gY (aW rfl (by trivial)) (eE t8 hr (by decide) (by rfl) (aA aB aK)) rfl) (bN (gY (aW rfl (by trivial)) (WD (by rfl) (by rfl) B.dict (o8 (ownN:=(["maker"]:List Str)) (show fG (["self", "program", "most"]:List Str) (aM dF) _ (["maker"]:List Str) from by refine ⟨rfl,?_,?_,?_,?_,?_,?_⟩ <;> decide +kernel) (n:=3) (m:=1) rfl rfl rfl (iK (cH aB aD)) (nR 3) (fun _=>aQ (show ((List.map (l_ (["maker"]:List Str)) (["self", "program", "most"]:List Str)++(["maker"]:List Str)):List Str).Nodup from by decide +kernel) rfl (by trivial)) (fun _=>cD (aA (cH aB aD) (aA G6 aK))) (fun _=>rfl))) rfl) (bN (gY (aW rfl (by trivial)) (QZ (by rfl) hu (by rfl) B.dict (o8 (ownN:=(["rule"]:List Str)) (show fG (["self", "program", "most"]:List Str) (aM dF) _ (["rule"]:List Str) from by refine ⟨rfl,?_,?_,?_,?_,?_,?_⟩ <;> decide +kernel) (n:=3) (m:=1) rfl rfl rfl (iK (cH aB aD)) (nR 3) (fun _=>aQ (show ((List.map (l_ (["rule"]:List Str)) (["self", "program", "most"]:List Str)++(["rule"]:List Str)):List Str).Nodup from by decide +kernel) rfl (by trivial)) (fun _=>cD (aA (cD (aA (cH aB aD) (aA (cH aB aD) aK))) (aA aB aK))) (fun _=>rfl))) rfl) (bN (gY (aW rfl (by trivial)) (aW rfl (by trivial)) rfl) (bN (gY (aW rfl (by trivial)) aD rfl) (bN (gY (aW rfl (by trivial)) aD rfl) (bN (gY (aW rfl (by trivial)) aD rfl) (xG)))))))
theorem JC:cC (["self", "words", "frames", "values", "frame"]:List Str) ["self", "words"] (aM dG):=by refine ⟨rfl,rfl,rfl,?_,rfl,?_,?_⟩ <;> decide +kernel
theorem DQ:cC (["self", "frames", "values", "word", "known", "parts"]:List Str) ["self", "frames", "values", "word"] (aM cV):=by refine ⟨rfl,rfl,rfl,?_,rfl,?_,?_⟩ <;> decide +kernel
theorem XN:cC (["self", "taker", "parts", "taken", "rule", "known", "name", "value"]:List Str) ["self", "taker", "parts"] (aM jN):=by refine ⟨rfl,rfl,rfl,?_,rfl,?_,?_⟩ <;> decide +kernel
theorem yM:cC (["self", "uses", "size"]:List Str) ["self", "uses", "size"] (aM dC):=by refine ⟨rfl,rfl,rfl,?_,rfl,?_,?_⟩ <;> decide +kernel
theorem aLe (σ:L2.St) (H:Hp) (Q Q':List V->Hp->Prop) (h:∀vs H',Q vs H'->Q' vs H') (x:(cR (eU 1) (cR J1 sS)) σ H Q):(cR (eU 1) (cR J1 sS)) σ H Q':=by
 obtain ⟨v,e,q⟩:=x;exact ⟨v,e,fun p hp=>h _ _ (q p hp)⟩
theorem aLf [KFrag] (σ:L2.St) (H:Hp) (Q Q':List V->Hp->Prop) (h:∀vs H',Q vs H'->Q' vs H') (x:(cR (gE cf7 false) (cR (eU 5) sS)) σ H Q):(cR (gE cf7 false) (cR (eU 5) sS)) σ H Q':=by
 obtain ⟨ρ,d,e,e2,q⟩:=x;exact ⟨ρ,d,e,e2,fun v H' s r n=>let ⟨u,z,q⟩:=q v H' s r n;⟨u,z,h _ _ q⟩⟩
theorem aLg (σ:L2.St) (H:Hp) (Q Q':List V->Hp->Prop) (h:∀vs H',Q vs H'->Q' vs H') (x:(cR (eU 0) (cR (eU 2) sS)) σ H Q):(cR (eU 0) (cR (eU 2) sS)) σ H Q':=by
 obtain ⟨v,e,u,z,q⟩:=x;exact ⟨v,e,u,z,h _ _ q⟩
theorem aIg [KFrag] (ws:List D) (kn:List (D×D)) (h:D.aG ws=true) (hk:D.aG (kn.map (·.2))=true):evS [.uD,.tup ws,.dct kn] kJ=.ok [("words",.tup ws),("left",.int ws.length),("known",.dct kn)]:=by
 have h1:okF (.tup ws)=true:=by unfold okF;rw [D.pure,h];rfl
 have e3:evS [.uD,.tup ws,.dct kn] [("known",.par 2)]=.ok [("known",.dct kn)]:=by
  show (if okF (.dct kn)=true then Res.ok [(("known" : Str),D.dct kn)] else .bad)=_;rw [if_pos (yH hk)]
 have e2:evS [.uD,.tup ws,.dct kn] [("left",.exp (aX m5 (aC e_ aV))),("known",.par 2)]=.ok [("left",.int ws.length),("known",.dct kn)]:=by
  show (do let ds <- evS [.uD,.tup ws,.dct kn] [("known",.par 2)];if okF (.int ws.length)=true then Res.ok ((("left" : Str),D.int ws.length)::ds) else .bad)=_;rw [e3];rfl
 show (do let ds <- evS [.uD,.tup ws,.dct kn] [("left",.exp (aX m5 (aC e_ aV))),("known",.par 2)];if okF (.tup ws)=true then Res.ok ((("words" : Str),D.tup ws)::ds) else .bad)=_;rw [e2,Res.aU,if_pos h1]
theorem eG [KFrag] {P:Program} {w:World} {K:Frag} {mg:Str->Option Value} {base:Heap} {fad:Addr} {fd:FuncData} (hK:KFrag.K=K) (B:Bt mg) {C:Addr} (cl:Cls K C) (nq:bZ K C "drops") (np:bZ K C "copies") (F:Fun K "count_uses" "PlainRun.count_uses" dC fad fd):jU P w K mg base CX0 1 fad fd ["self", "uses", "size"] (aG3 C):=by
 have sc:=yM;have nd:=sc.nd;refine F.ok (N:=(["self", "uses", "size"]:List Str)) (k:=0) sc (fun vs H Q E h=>aI9 h) fun cdv A outer s H vs Q E hr h=>⟨tCU K,?_,aEq rfl cl nq np h⟩
 exact (cX (N5 (RQ (aBs (aW rfl (by trivial)) mU)) (cX (gY (aW rfl (by trivial)) (zK (gW (aW rfl (by trivial)) rfl) (aW rfl (by trivial))) rfl)) (cX (gY (aW rfl (by trivial)) (zK (gW (aW rfl (by trivial)) rfl) (aGa (aBq (aW rfl (by trivial)) mU) (aW rfl (by trivial)))) rfl))))
theorem lD [KFrag] {P:Program} {w:World} {K:Frag} {mg:Str->Option Value} {base:Heap} {fad:Addr} {fd:FuncData} (hK:KFrag.K=K) (B:Bt mg) {C CF CS fm:Addr} {fdm:FuncData} {psm:List Str} (q_Frame:aG2 P w K mg base 1 "Frame" kJ 2) (hC:nsIn K mainGlobals "PlainRun" = some (some (.ref C))) (hCF:nsIn K mainGlobals "Frame" = some (some (.ref CF))) (cl:Cls K C) (nc:bZ K C "calls") (np:bZ K C "copies") (nq:bZ K C "drops") (nm:bZ K C "most") (fr:FP K "PlainRun" "rules") (mS:mg "Spent" = some (.ref CS)) (xS:excIn K CS aKo "ValueError.__new__" = true) (M:Meth K C "count_uses" fm) (T:jU P w K mg base CX0 1 fm fdm psm (aG3 C)) (hb:Binds K fdm psm []) (F:Fun K "called" "PlainRun.called" jN fad fd):jU P w K mg base (CX2 P w) 3 fad fd ["self", "taker", "parts"] (W3 CF CS):=by
 have sc:=XN;have nd:=sc.nd;refine aKz (N:=(["self", "taker", "parts", "taken", "rule", "known", "name", "value"]:List Str)) (k:=2) F sc (fun vs H Q E h=>aEy h) fun cdv A outer s H vs Q E hr h=>⟨aMb K C CS kJ E,?_,aAw rfl hK hC hCF cl nc np nq nm aIg h⟩
 have hu:=FN hr;exact (bN (lO (cH aB aD) (aQ sc.nd rfl (by trivial))) (bN (lO (cH (CJ hK fr aB) (cD (aA aB (aA (cH aB aD) aK)))) (aQ sc.nd rfl (by trivial))) (bN (lO (aAr (by rfl) B.dict (by rfl) B.zip (aA (cH aB aD) (aA (aO aY (c7 (U0 (by rfl)) (by rfl) B.list HF (aA (cH aB aD) aK)) (gP hK aB (cT aD) gG)) aK))) (aQ sc.nd rfl (by trivial))) (bN (gY (aW rfl (by trivial)) (zK (gW (aW rfl (by trivial)) rfl) mU) rfl) (bN (aHv (JR PassesOwn.leaving rfl (aAu rfl (by trivial)) (JP rfl (aZ (aQ sc.nd rfl (by trivial)) (aZ (aQ sc.nd rfl (by trivial)) jZ))) (cX (jY (xK (aW rfl (by trivial)) cl M T (hr.mono (by decide)) hb .nil aDg (bD (aH7 PySem.F.plainAttrs_tuple PySem.F.slot_tuple_count PySem.F.type_tuple_count WW (cH aB aD) (aA aB aK) (fun _ _ _ _ _ h r=>WX h r)) (bD (cH aB aD) dM))))))) (bN (N5 (RQ (aJv (zK (zK (gW (aW rfl (by trivial)) rfl) (gW (aW rfl (by trivial)) rfl)) (gW (aW rfl (by trivial)) rfl)) (gW (aW rfl (by trivial)) rfl))) (cX (PS.imp (aA9 rfl (by rfl) mS xS (bD aBp dM)) fun D σ H hE=>⟨by decide,fun pins s h2 a us I hx=>WP I hx hE⟩)) xG) (cX (zL (aEm q_Frame hr (by decide) (by rfl) (bD (cH aB aD) (bD (aW rfl (by trivial)) dM)) (hmono:=aLf))))))))))
theorem fP [KFrag] {P:Program} {w:World} {K:Frag} {mg:Str->Option Value} {base:Heap} {fad:Addr} {fd:FuncData} (hK:KFrag.K=K) (B:Bt mg) {C CF CS fm:Addr} {fdm:FuncData} {psm:List Str} (hC:nsIn K mainGlobals "PlainRun" = some (some (.ref C))) (clF:Cls K CF) (nk:bZ K CF "known") (cl:Cls K C) (fh:FP K "PlainRun" "heads") (fm_:FP K "PlainRun" "makers") (M:Meth K C "called" fm) (T:jU P w K mg base (CX2 P w) 3 fm fdm psm (W3 CF CS)) (hb:Binds K fdm psm []) (F:Fun K "take_word" "PlainRun.take_word" cV fad fd):jU P w K mg base (CX2 P w) 4 fad fd ["self", "frames", "values", "word"] (aI5 CF CS):=by
 have sc:=DQ;have nd:=sc.nd;refine aKz (N:=(["self", "frames", "values", "word", "known", "parts"]:List Str)) (k:=3) F sc (fun vs H Q E h=>aIa h) fun cdv A outer s H vs Q E hr h=>⟨tTk K C CF CS E,?_,aEv rfl hK hC clF nk h⟩
 have hu:=FN hr;exact (bN (lO (gW (ZQ nO (aW rfl (by trivial)) (aCw R1 mU) (fun _ _=>rfl)) rfl) (aQ sc.nd rfl (by trivial))) (cX (N5 (fJ (KQ hu) aB aB (by with_unfolding_all rfl)) (cX (jY (PJ PySem.F.plainAttrs_list PySem.F.slot_list_append PySem.F.type_list_append j0 (aW rfl (by trivial)) (by exact (bD (cH aB aB) dM))))) (bN (aAy (own:=own1 2) (cn := "kind") (show fG (["self", "frames", "values", "word", "known", "parts"]:List Str) (aM cV) _ (["kind"]:List Str) from by refine ⟨rfl,?_,?_,?_,?_,?_,?_⟩ <;> decide +kernel) (n:=6) rfl rfl rfl (iK (cH (cH (CJ hK fh aB) aB) aD)) (fun _=>aQ (show ((List.map (l_ (["kind"]:List Str)) (["self", "frames", "values", "word", "known", "parts"]:List Str)++(["kind"]:List Str)):List Str).Nodup from by decide +kernel) rfl (by trivial)) (fun _=>aEn rfl rfl (by trivial)) (fun _=>rfl) sc.nd rfl (by trivial) (Or.inl rfl) (by with_unfolding_all rfl)) (cX (N5 (fJ (KQ hu) aB (CJ hK fm_ aB) (by with_unfolding_all rfl)) (cX (jY (PJ PySem.F.plainAttrs_list PySem.F.slot_list_append PySem.F.type_list_append j0 (aW rfl (by trivial)) (by exact (bD (cD (aA aB (aA (c7 g_ (by rfl) B.tuple fC (aA aB aK)) (aA (aO aY aD (cU (wL (by rfl)) (by rfl) B.sum wM (aA (o8 (ownN:=(["part"]:List Str)) (show fG (["self", "frames", "values", "word", "known", "parts"]:List Str) (aM cV) _ (["part"]:List Str) from by refine ⟨rfl,?_,?_,?_,?_,?_,?_⟩ <;> decide +kernel) (n:=6) (m:=1) rfl rfl rfl (iK aB) (nR 6) (fun _=>aQ (show ((List.map (l_ (["part"]:List Str)) (["self", "frames", "values", "word", "known", "parts"]:List Str)++(["part"]:List Str)):List Str).Nodup from by decide +kernel) rfl (by trivial)) (fun _=>(cH aB aD)) (fun _=>rfl)) aK))) aK)))) dM))))) (cX (jY (PJ PySem.F.plainAttrs_list PySem.F.slot_list_append PySem.F.type_list_append j0 (aW rfl (by trivial)) (by exact (bD (xK (aW rfl (by trivial)) cl M T (hr.mono (by decide)) hb .nil nU (bD (aW rfl (by trivial)) (bD (aW rfl (by trivial)) dM))) dM)))))))))))
theorem dZ [KFrag] {P:Program} {w:World} {K:Frag} {mg:Str->Option Value} {base:Heap} {fad:Addr} {fd:FuncData} (hK:KFrag.K=K) (B:Bt mg) {C CF CS fm:Addr} {fdm:FuncData} {psm:List Str} (q_Frame:aG2 P w K mg base 1 "Frame" kJ 2) (hC:nsIn K mainGlobals "PlainRun" = some (some (.ref C))) (hCF:nsIn K mainGlobals "Frame" = some (some (.ref CF))) (clF:Cls K CF) (nl:bZ K CF "left") (cl:Cls K C) (M:Meth K C "take_word" fm) (T:jU P w K mg base (CX2 P w) 4 fm fdm psm (aI5 CF CS)) (hb:Binds K fdm psm []) (fw:FP K "Frame" "words") (fl:FP K "Frame" "left") (F:Fun K "value_of" "PlainRun.value_of" dG fad fd):jU P w K mg base (CX2 P w) 5 fad fd ["self", "words"] (W9 CS):=by
 have sc:=JC;have nd:=sc.nd;refine aKz (N:=(["self", "words", "frames", "values", "frame"]:List Str)) (k:=4) F sc (fun vs H Q E h=>aEz h) fun cdv A outer s H vs Q E hr h=>⟨aMk K C CF CS kJ E,?_,aB4 rfl hK hC hCF clF nl aIg h⟩
 have hu:=FN hr;exact (bN (lO (R7 (bD (aEm q_Frame hr (by decide) (by rfl) (bD (aW rfl (by trivial)) (bD J2 dM)) (hmono:=aLe)) dM)) (aQ sc.nd rfl (by trivial))) (bN (lO (R7 dM) (aQ sc.nd rfl (by trivial))) (bN (JQ PassesOwn.leaving (JS (aW rfl (by trivial)) (fun _=>rfl)) (bN (lO (ZQ nO (aW rfl (by trivial)) (aCw R1 mU) (fun _ _=>rfl)) (aQ sc.nd rfl (by trivial))) (cX (N5 (RQ (aBs (gW (aW rfl (by trivial)) rfl) mU)) (cX (jY (JZ PySem.F.plainAttrs_list PySem.F.slot_list_pop PySem.F.type_list_pop SX (aW rfl (by trivial))))) (bN (gY (aW rfl (by trivial)) (aBq (gW (aW rfl (by trivial)) rfl) mU) rfl) (cX (jY (xK (aW rfl (by trivial)) cl M T (hr.mono (by decide)) hb .nil nU (bD (aW rfl (by trivial)) (bD (aW rfl (by trivial)) (bD (cH (CJ hK fw aB) (CJ hK fl aB)) dM))))))))))) (cX (zL (ZQ nO (aW rfl (by trivial)) mU (fun _ _=>rfl)))))))
theorem aB7:cC XJ ["program", "words", "most"] (aM n8):=by refine ⟨rfl,rfl,rfl,?_,rfl,?_,?_⟩ <;> decide +kernel
theorem yN [KFrag] {P:Program} {w:World} {K:Frag} {mg:Str->Option Value} {base:Heap} {fad:Addr} {fd:FuncData} (hK:KFrag.K=K) (B:Bt mg) (t9:iZ P w K mg base 1 "words_of" 1 gC) {C CS fm:Addr} {fdm:FuncData} {psm:List Str} (q_PlainRun:aG2 P w K mg base 2 "PlainRun" d7 2) (hC:nsIn K mainGlobals "PlainRun" = some (some (.ref C))) (hS:nsIn K mainGlobals "Spent" = some (some (.ref CS))) (cl:Cls K C) (nc:bZ K C "calls") (np:bZ K C "copies") (nq:bZ K C "drops") (M:Meth K C "value_of" fm) (T:jU P w K mg base (CX2 P w) 5 fm fdm psm (W9 CS)) (hb:Binds K fdm psm []) {T':Addr} {its:Array Value} (F:aKp K "worth" "worth" n8 fad fd T' its):jU P w K mg base (CX2 P w) 6 fad fd ["program", "words", "most"] (spZ cW 3):=by
 have sc:=aB7;have nd:=sc.nd;refine aL3 (N:=XJ) (k:=5) F sc (fun vs H Q E h=>aF0 h) fun cdv A outer s H vs Q E hr h=>⟨aMl K C CS d7 gC E,?_,aB5 rfl hK hC hS cl nc np nq rfl h⟩
 have hu:=FN hr;exact (bN (lO (aEm q_PlainRun hr (by decide) (by rfl) (bD (aW rfl (by trivial)) (bD (aW rfl (by trivial)) dM)) (hmono:=aLg)) (aQ sc.nd rfl (by trivial))) (bN (lO (xK (aW rfl (by trivial)) cl M T (hr.mono (by decide)) hb .nil nU (bD (aW rfl (by trivial)) dM)) (aQ sc.nd rfl (by trivial))) (cX (zL (R6 (bD (eE t9 hr (by decide) (by rfl) (aA aB aK)) (bD (gW (aW rfl (by trivial)) rfl) (bD (gW (aW rfl (by trivial)) rfl) (bD (gW (aW rfl (by trivial)) rfl) dM)))))))))
theorem vJ:cC lU ["script", "k"] (aM iQ):=by refine ⟨rfl,rfl,rfl,?_,rfl,?_,?_⟩ <;> decide +kernel
theorem oX [KFrag] {P:Program} {w:World} {K:Frag} {mg:Str->Option Value} {base:Heap} {fad:Addr} {fd:FuncData} (hK:KFrag.K=K) (B:Bt mg)  (F:Fun K "_law_cell_at" "_law_cell_at" iQ fad fd) (hm:mg "_law_cell_at" = some (.ref fad)):iZ P w K mg base 1 "_law_cell_at" 2 dR:=by
 have sc:=vJ;have nd:=sc.nd;refine m9 (ps:=["script", "k"]) (N:=lU) (k:=0) F hm (F.binds fun _ _ _ _ _ _ us hl=>match us,hl with|[_,_],_=>rfl) sc vU (by decide) (by decide) fun cdv A outer s H E hr=>?_
 have hu:=FN hr;exact aJ (nT (fJ aA4 aB (cU (m8 hK) (by rfl) B.len m_ (aA aB aK)) (fV _)) (bK (gK (cH aB aB))) gJ) (bK (gK aD))
theorem yO:cC d8 ["choice", "cell"] (aM fL):=by refine ⟨rfl,rfl,rfl,?_,rfl,?_,?_⟩ <;> decide +kernel
theorem vY [KFrag] {P:Program} {w:World} {K:Frag} {mg:Str->Option Value} {base:Heap} {fad:Addr} {fd:FuncData} (hK:KFrag.K=K) (B:Bt mg)  (F:Fun K "_law_names" "_law_names" fL fad fd) (hm:mg "_law_names" = some (.ref fad)):iZ P w K mg base 1 "_law_names" 2 h_:=by
 have sc:=yO;have nd:=sc.nd;refine m9 (ps:=["choice", "cell"]) (N:=d8) (k:=0) F hm (F.binds fun _ _ _ _ _ _ us hl=>match us,hl with|[_,_],_=>rfl) sc CV (by decide) (by decide) fun cdv A outer s H E hr=>?_
 have hu:=FN hr;exact aJ (bY zZ) (aJ (bY (cH (bJ (aA aD (aA aD (aA aD (aA aD (aA aD (aA aD aK))))))) (aO cQ (aO dJ aB aD) aD))) (aJ (bY (aO cQ (aO dJ aB aD) aD)) (aJ (bY (aO cQ aB aD)) (aJ (bY (aH7 PySem.F.plainAttrs_str PySem.F.slot_str_join PySem.F.type_str_join aE1 zZ (aA (o8 (ownN:=(["k"]:List Str)) (show fG d8 (aM fL) _ (["k"]:List Str) from by refine ⟨rfl,?_,?_,?_,?_,?_,?_⟩ <;> decide +kernel) (n:=11) (m:=1) rfl rfl rfl (G9 (by rfl) B.range (aA aB aK)) (nR 11) (fun _=>aQ (show ((List.map (l_ (["k"]:List Str)) d8++(["k"]:List Str)):List Str).Nodup from by decide +kernel) rfl (by trivial)) (fun _=>cH aB (aO cQ (aO aY (aO dJ aB aD) (aO dW aB (aO aY aB (aO cQ (aO dJ aB aD) aD)))) aD)) (fun _=>rfl)) aK) (fun _ _ _ _ _ h r=>aA5 h r))) (aJ (bY (aO cQ (aO dJ aB aD) (aO aY aB aD))) (aJ (bY (bJ aK)) (aJ (wI PassesOwn.never rfl (G9 (by rfl) B.range (aA aD aK)) (uZ rfl) (aQ sc.nd rfl (by trivial)) (aJ (bY (aO cQ (aO aY (aO dW aB aB) aB) aD)) (bK (nT (fJ (Z6 hu) (aO cQ aB aD) aD (fV _)) (bK (oH rfl rfl (by trivial) (aO dW (cH aB (aO cQ (aO aY aB (aO cQ aB aD)) aD)) (aO aY aD (aO dJ aB aD))))) (bK (oH rfl rfl (by trivial) (aO aY (aO aY (gP hK aB (gG) (cT aB)) (cH aB aB)) (gP hK aB (cT aB) (gG))))))))) (aJ (nT (PW.pt (UJ (fJ (KQ hu) zZ aB (by with_unfolding_all rfl)) (J7 (fJ (KQ hu) zZ aB (by with_unfolding_all rfl))))) (bK (KN (ownN:=(["name"]:List Str)) (show fG d8 (aM fL) _ (["name"]:List Str) from by refine ⟨rfl,?_,?_,?_,?_,?_,?_⟩ <;> decide +kernel) (n:=11) (m:=1) rfl rfl rfl (iK aB) (nR 11) (fun _=>aQ (show ((List.map (l_ (["name"]:List Str)) d8++(["name"]:List Str)):List Str).Nodup from by decide +kernel) rfl (by trivial)) (fun _=>aO aY aB zZ) (fun _=>rfl) rfl sc.nd rfl (by trivial) (Or.inl rfl) (by with_unfolding_all rfl))) gJ) (bK (HB rfl rfl (by trivial)))))))))))
theorem yP:cC iD ["names"] (aM iB):=by refine ⟨rfl,rfl,rfl,?_,rfl,?_,?_⟩ <;> decide +kernel
theorem vZ [KFrag] {P:Program} {w:World} {K:Frag} {mg:Str->Option Value} {base:Heap} {fad:Addr} {fd:FuncData} (hK:KFrag.K=K) (B:Bt mg)  (F:Fun K "_law_rules" "_law_rules" iB fad fd) (hm:mg "_law_rules" = some (.ref fad)):iZ P w K mg base 1 "_law_rules" 1 iC:=by
 have sc:=yP;have nd:=sc.nd;refine m9 (ps:=["names"]) (N:=iD) (k:=0) F hm (F.binds fun _ _ _ _ _ _ us hl=>match us,hl with|[_],_=>rfl) sc CW (by decide) (by decide) fun cdv A outer s H E hr=>?_
 have hu:=FN hr;exact aJ (yJ (by decide) (gP hK aB (cT aD) (cT aD)) (yC rfl (aZ (aQ sc.nd rfl (by trivial)) (aZ (aQ sc.nd rfl (by trivial)) (aZ (aQ sc.nd rfl (by trivial)) (aZ (aQ sc.nd rfl (by trivial)) (aZ (aQ sc.nd rfl (by trivial)) (aZ (aQ sc.nd rfl (by trivial)) (jZ))))))))) (aJ (bY (bJ (aA (b8 (cD (aA aB (aA aB (aA aD (aA (oW (bJ (aA aD aK))) aK)))))) (aA (b8 (cD (aA aB (aA aB (aA aD (aA (oW (bJ (aA (b8 aB) (aA (b8 aB) (aA aD (aA aD aK)))))) aK)))))) (aA (b8 (cD (aA aB (aA aB (aA aD (aA (oW (bJ (aA aD aK))) aK)))))) aK))))) (aJ (bY (aO aY aB (bJ (aA (b8 (cD (aA aB (aA aB (aA aD (aA (oW (bJ (aA (b8 aB) aK))) aK)))))) (aA (b8 (cD (aA aB (aA aB (aA aD (aA (oW (bJ (aA (b8 aB) (aA aD (aA (b8 aB) (aA aD (aA aD aK))))))) aK)))))) (aA (b8 (cD (aA aB (aA aB (aA aD (aA (oW (bJ (aA (b8 aB) aK))) aK)))))) aK)))))) (aJ (bY (aO aY aB (bJ (aA (b8 (cD (aA aB (aA aB (aA aD (aA (oW (bJ (aA (b8 aB) aK))) aK)))))) (aA (b8 (cD (aA aB (aA aB (aA aD (aA (oW (bJ (aA (b8 aB) aK))) aK)))))) aK))))) (aJ (bY (oW (bJ (aA (b8 aB) (aA aD (aA (b8 aB) (aA aD (aA (b8 aB) (aA aD (aA (b8 aB) (aA aD (aA (b8 aB) (aA aD (aA (b8 aB) (aA aD (aA aD (aA aD aK))))))))))))))))) (aJ (oH rfl rfl (by trivial) (cD (aA aB (aA aB (aA aD (aA aB aK)))))) (aJ (bY (bJ aK)) (aJ (aEh rfl PassesOwn.never rfl rfl (by trivial) (HD _ (by decide)) (JP rfl (aZ (aQ sc.nd rfl (by trivial)) (aZ (aQ sc.nd rfl (by trivial)) (aZ (aQ sc.nd rfl (by trivial)) (aZ (aQ sc.nd rfl (by trivial)) (jZ)))))) (aJ (bY (aO aY aD (aO cQ (cU (m8 hK) (by rfl) B.len m_ (aA aB aK)) aD))) (aJ (KN (ownN:=(["j"]:List Str)) (show fG iD (aM iB) _ (["j"]:List Str) from by refine ⟨rfl,?_,?_,?_,?_,?_,?_⟩ <;> decide +kernel) (n:=18) (m:=1) rfl rfl rfl (G9 (by rfl) B.range (aA aB aK)) (nR 18) (fun _=>aQ (show ((List.map (l_ (["j"]:List Str)) iD++(["j"]:List Str)):List Str).Nodup from by decide +kernel) rfl (by trivial)) (fun _=>cH aB (aO aY aD (aO cQ (aO aY (cU (m8 hK) (by rfl) B.len m_ (aA aB aK)) (aO dW aB aB)) aD))) (fun _=>rfl) rfl sc.nd rfl (by trivial) (Or.inl rfl) (by with_unfolding_all rfl)) (aJ (bY (bJ aK)) (aJ (aEe hK rfl PassesOwn.never rfl rfl (by trivial) (uZ rfl) (aQ sc.nd rfl (by trivial)) (bK (nT (oG (z8 .int aB (by rfl) B.isi eF (by rfl) B.int U7)) (bK (oH rfl rfl (by trivial) (cH aB aB))) (bK (oH rfl rfl (by trivial) aB))))) (bK (oH rfl rfl (by trivial) (cD (aA aB (aA aB (aA (c7 g_ (by rfl) B.tuple fC (aA aB aK)) (aA (c7 g_ (by rfl) B.tuple fC (aA aB aK)) aK)))))))))))) (bK (HB rfl rfl (by trivial))))))))))
theorem vK:cC lV ["names", "cell"] (aM iR):=by refine ⟨rfl,rfl,rfl,?_,rfl,?_,?_⟩ <;> decide +kernel
theorem oY [KFrag] {P:Program} {w:World} {K:Frag} {mg:Str->Option Value} {base:Heap} {fad:Addr} {fd:FuncData} (hK:KFrag.K=K) (B:Bt mg) (tf:iZ P w K mg base 1 "_law_rules" 1 iC) (F:Fun K "_law_program" "_law_program" iR fad fd) (hm:mg "_law_program" = some (.ref fad)):iZ P w K mg base 2 "_law_program" 2 fD:=by
 have sc:=vK;have nd:=sc.nd;refine m9 (ps:=["names", "cell"]) (N:=lV) (k:=1) F hm (F.binds fun _ _ _ _ _ _ us hl=>match us,hl with|[_,_],_=>rfl) sc vX (by decide) (by decide) fun cdv A outer s H E hr=>?_
 have hu:=FN hr;exact aJ (yJ (by decide) (gP hK aB (gG) (cT aD)) (yC rfl (aZ (aQ sc.nd rfl (by trivial)) (aZ (aQ sc.nd rfl (by trivial)) (aZ (aQ sc.nd rfl (by trivial)) (aZ (aQ sc.nd rfl (by trivial)) (aZ (aQ sc.nd rfl (by trivial)) (aZ (aQ sc.nd rfl (by trivial)) (aZ (aQ sc.nd rfl (by trivial)) (jZ)))))))))) (aJ (bY (bJ (aA (b8 (cD (aA aB (aA aB (aA (cD aK) aK))))) (aA (b8 (cD (aA aB (aA aB (aA (cD (aA aB aK)) aK))))) (aA (b8 (cD (aA aB (aA aB (aA (cD (aA aB (aA aB aK))) aK))))) aK))))) (aJ (bY (aO aY (gP hK aB (cT (aO cQ aB aD)) (gG)) (gP hK aB (gG) (cT (aO cQ aB aD))))) (aJ (bY (bJ (aA (b8 (cD (aA aB (aA aB (aA aB (aA (cD (aA aB aK)) aK)))))) (aA (b8 (cD (aA aB (aA aB (aA aB (aA (cD (aA aB aK)) aK)))))) aK)))) (aJ (oH rfl rfl (by trivial) (cD (aA aB (aA aB (aA aB (aA (cD (aA aB (aA aB aK))) aK)))))) (aJ (bY (aO aY (gP hK aB (cT (aO cQ (aO dJ aB aD) aD)) (gG)) (gP hK aB (gG) (cT (aO cQ (aO dJ aB aD) aD))))) (aJ (bY (eE tf hr (by decide) (by rfl) (aA aB aK))) (aJ (bY (aO cQ (aO dJ aB aD) (cU (m8 hK) (by rfl) B.len m_ (aA aB aK)))) (bK (gK (cD (aA (cD (aA aB aK)) (aA (c7 g_ (by rfl) B.tuple fC (aA aB aK)) (aA (c7 g_ (by rfl) B.tuple fC (aA aB aK)) (aA (c7 g_ (by rfl) B.tuple fC (aA (aO aY (gP hK aB (cT aB) (gG)) (gP hK aB (gG) (cT aB))) aK)) aK))))))))))))))
theorem yQ:cC oK ["names", "cell"] (aM kY):=by refine ⟨rfl,rfl,rfl,?_,rfl,?_,?_⟩ <;> decide +kernel
theorem v_ [KFrag] {P:Program} {w:World} {K:Frag} {mg:Str->Option Value} {base:Heap} {fad:Addr} {fd:FuncData} (hK:KFrag.K=K) (B:Bt mg)  (F:Fun K "_law_entry" "_law_entry" kY fad fd) (hm:mg "_law_entry" = some (.ref fad)):iZ P w K mg base 1 "_law_entry" 2 fM:=by
 have sc:=yQ;have nd:=sc.nd;refine m9 (ps:=["names", "cell"]) (N:=oK) (k:=0) F hm (F.binds fun _ _ _ _ _ _ us hl=>match us,hl with|[_,_],_=>rfl) sc CZ (by decide) (by decide) fun cdv A outer s H E hr=>?_
 have hu:=FN hr;exact aJ (yJ (by decide) (gP hK aB (cT aD) (cT aD)) (yC rfl (aZ (aQ sc.nd rfl (by trivial)) (aZ (aQ sc.nd rfl (by trivial)) (aZ (aQ sc.nd rfl (by trivial)) (aZ (aQ sc.nd rfl (by trivial)) (aZ (aQ sc.nd rfl (by trivial)) (aZ (aQ sc.nd rfl (by trivial)) (jZ))))))))) (aJ (bY (aO dJ aB aD)) (aJ (nT (fJ (Z6 hu) (aO cQ aB aD) aD (fV _)) (aJ (bY (aO cQ aB aD)) (aJ (bY (aO cQ (aO dJ aB aD) aD)) (aJ (bY (oW (aO aY (aO aY (aO aY (aO aY (bJ (aA (b8 aB) (aA (b8 aB) aK))) (aO mF (bJ (aA (b8 aB) aK)) aB)) (bJ (aA (b8 aB) aK))) (aO mF (bJ (aA (b8 aB) aK)) aB)) (bJ (aA (b8 aB) aK))))) (bK (gK (bJ (aA (b8 aB) (aA (aO dW aB aB) (aA (aO aY (aO aY (aO aY (aO aY aB aD) (aO dW aB (aO aY aB aD))) (aO dW aB aB)) aD) (aA (aO dW aB (aO aY aB aD)) (aA (aO aY aB aD) aK))))))))))) gJ) (aJ (bY (aO cQ aB aD)) (aJ (bY (aO cQ (aO dJ aB aD) aD)) (aJ (bY (aO cQ (aO dJ aB aD) aD)) (aJ (bY (oW (aO aY (aO aY (bJ (aA (b8 aB) (aA (b8 aB) aK))) (aO mF (bJ (aA (b8 aB) aK)) aB)) (bJ (aA (b8 aB) aK))))) (aJ (bY (oW (aO aY (aO aY (aO aY (aO (XH hK) aB (aO mF (bJ (aA (b8 aB) aK)) aB)) (bJ (aA (b8 aB) aK))) (aO mF (bJ (aA (b8 aB) aK)) aB)) (bJ (aA (b8 aB) aK))))) (aJ (bY (aO dW aB (aO aY (aO dW aD aB) (aO dW aD aB)))) (aJ (bY (aO aY (aO dW aD (aO aY aB aD)) (aO dW aD (aO aY aB aD)))) (bK (gK (bJ (aA (b8 aB) (aA (b8 aB) (aA (aO aY (aO aY (aO aY (aO aY aB aD) (aO dW aB aB)) aB) aD) (aA (aO dW aB aB) (aA (aO aY (aO aY aB aB) aD) aK)))))))))))))))))
theorem yR:cC oM ["found", "words", "counts"] (aM k_):=by refine ⟨rfl,rfl,rfl,?_,rfl,?_,?_⟩ <;> decide +kernel
theorem wA [KFrag] {P:Program} {w:World} {K:Frag} {mg:Str->Option Value} {base:Heap} {fad:Addr} {fd:FuncData} (hK:KFrag.K=K) (B:Bt mg)  (F:Fun K "_law_right" "_law_right" k_ fad fd) (hm:mg "_law_right" = some (.ref fad)):iZ P w K mg base 1 "_law_right" 3 fO:=by
 have sc:=yR;have nd:=sc.nd;refine m9 (ps:=["found", "words", "counts"]) (N:=oM) (k:=0) F hm (F.binds fun _ _ _ _ _ _ us hl=>match us,hl with|[_,_,_],_=>rfl) sc C_ (by decide) (by decide) fun cdv A outer s H E hr=>?_
 have hu:=FN hr;exact aJ (nT (PW.pt (UJ (J6 (oG (z8 .tuple aB (by rfl) B.isi eF (by rfl) B.tuple fC))) (J7 (fJ (aDn hu) (cU (m8 hK) (by rfl) B.len m_ (aA aB aK)) aD (fV _))))) (bK (gK G6)) gJ) (aJ (nT (PW.pt (UJ (J6 (oG (z8 .tuple (cH aB aD) (by rfl) B.isi eF (by rfl) B.tuple fC))) (J7 (fJ (aDn hu) (c7 (U0 (by rfl)) (by rfl) B.list HF (aA (cH aB aD) aK)) aB (fV _))))) (bK (gK G6)) gJ) (aJ (wI PassesOwn.never rfl (iK (bJ (aA aD (aA aD (aA aD aK))))) (uZ rfl) (aQ sc.nd rfl (by trivial)) (bK (nT (PW.pt (UJ (J6 (oG (z8 .int (cH aB aB) (by rfl) B.isi eF (by rfl) B.int U7))) (UJ (oG (z8 .bool (cH aB aB) (by rfl) B.isi eF (by rfl) B.bool aDy)) (J7 (fJ (aDn hu) (cH aB aB) (cH aB (aO UL aB aD)) (fV _)))))) (bK (gK G6)) gJ))) (bK (gK G6))))
theorem yS:cC oN ["program", "words", "due", "counts", "bound"] (aM lB):=by refine ⟨rfl,rfl,rfl,?_,rfl,?_,?_⟩ <;> decide +kernel
theorem wB [KFrag] {P:Program} {w:World} {K:Frag} {mg:Str->Option Value} {base:Heap} {fad:Addr} {fd:FuncData} (hK:KFrag.K=K) (B:Bt mg) (tj:iZ P w K mg base 1 "_law_right" 3 fO) (qj:aAl P w K mg base 6 "worth" 3 cW) (zd_worth:aIb P w K mg base 6 "worth" 3 cW [.int 400]) {rM:Addr} (tm:mg "MillError" = some (.ref rM)) {pJ:Addr} (tq:mg "Twice" = some (.ref pJ)) {pK:Addr} (tu:mg "NoTerm" = some (.ref pK)) {pL:Addr} (tw:mg "NoName" = some (.ref pL)) {pM:Addr} (tD:mg "Lacking" = some (.ref pM)) {pN:Addr} (tE:mg "BadRow" = some (.ref pN)) {pO:Addr} (tF:mg "BadKind" = some (.ref pO)) {qk:Addr} (tG:mg "Spent" = some (.ref qk)) (y1:aKv (fun c=>∃C,nsIn K mainGlobals c=some (some (.ref C))/\exmOne K (.ref C) (.ref rM)=some true) ["Spent"]) (y2:aJm (fun c b=>∃C,nsIn K mainGlobals c=some (some (.ref C))/\XC K C/\kitAny K (.ref C) [.ref pO,.ref pN,.ref pM,.ref pL,.ref pK,.ref pJ]=some b) [("Spent",false)]) (y3:aJm (fun c b=>∃C,nsIn K mainGlobals c=some (some (.ref C))/\XC K C/\kitOne K (.ref C) (.ref qk)=some b) [("Spent",true)]) (F:Fun K "_law_asked" "_law_asked" lB fad fd) (hm:mg "_law_asked" = some (.ref fad)):iZ P w K mg base 7 "_law_asked" 5 dD:=by
 have sc:=yS;have nd:=sc.nd;refine m9 (ps:=["program", "words", "due", "counts", "bound"]) (N:=oN) (k:=6) F hm (F.binds fun _ _ _ _ _ _ us hl=>match us,hl with|[_,_,_,_,_],_=>rfl) sc DG (by decide) (by decide) fun cdv A outer s H E hr=>?_
 have hu:=FN hr;exact aJ (bY T8) (aJ (bY T8) (aJ (aF2 hK rfl rfl (aL4 (fJ aA4 aB aD (fV _)) (aCf (o:=true) zd_worth hr (by decide) (by rfl) (aA aB (aA aB aK)) rfl sc.nd rfl (by trivial) (.inl rfl)) (aCf (o:=true) qj.g hr (by decide) (by rfl) (aA aB (aA aB (aA aB aK))) rfl sc.nd rfl (by trivial) (.inl rfl))) (by rfl) tm (WN y1) sc.nd rfl rfl rfl (by trivial) (.inl rfl) rfl rfl (by decide)) (aJ (nT (fJ aE0 (cU (wL (by rfl)) (by rfl) B.sum wM (aA aB aK)) (cH (bJ (aA (b8 aB) (aA aD aK))) (c7 aE9 (by rfl) B.int U7 (aA (T9 aA4 aB aD (fV _)) aK))) (fV _)) (bK (gK (aGz (T9 aH3 aB T8 (fV _)) (aBy (eE tj hr (by decide) (by rfl) (aA aB (aA aB (aA aB aK)))))))) gJ) (aJ (nT (oG (aEj (cs:=[pO,pN,pM,pL,pK,pJ]) hK (HY y2) (show 6<=sizeLine from by decide) (by rfl) B.isi rfl (by trivial) (PA.imp (bD (lX (v:=.ref pO) (by rfl) tF rfl) (bD (lX (v:=.ref pN) (by rfl) tE rfl) (bD (lX (v:=.ref pM) (by rfl) tD rfl) (bD (lX (v:=.ref pL) (by rfl) tw rfl) (bD (lX (v:=.ref pK) (by rfl) tu rfl) (bD (lX (v:=.ref pJ) (by rfl) tq rfl) (dM))))))) fun _ _ _ h=>h))) (bK (gK G6)) gJ) (bK (gK (aEk (v:=.ref qk) hK (HY y3) (fun u r=>r) (by rfl) B.isi rfl (by trivial) (lX (by rfl) tG rfl) rfl rfl)))))))
theorem aIh:cC aIf ["script"] (aM yL):=by refine ⟨rfl,rfl,rfl,?_,rfl,?_,?_⟩ <;> decide +kernel
theorem aIi [KFrag] {P:Program} {w:World} {K:Frag} {mg:Str->Option Value} {base:Heap} {fad:Addr} {fd:FuncData} (hK:KFrag.K=K) (B:Bt mg) (rN:iZ P w K mg base 1 "_law_cell_at" 2 dR) (tH:iZ P w K mg base 1 "_law_names" 2 h_) (tI:iZ P w K mg base 1 "_law_entry" 2 fM) (tJ:iZ P w K mg base 2 "_law_program" 2 fD) (rO:iZ P w K mg base 7 "_law_asked" 5 dD) (F:Fun K "law" "law" yL fad fd):jU P w K mg base CX0 8 fad fd ["script"] (spD Q7 1):=by
 have sc:=aIh;have nd:=sc.nd;refine aHa (ps:=["script"]) (N:=aIf) (k:=7) F sc o_law (by decide) (by decide) fun cdv A outer s H E hr=>?_
 have hu:=FN hr;exact aJ (bY (eE rN hr (by decide) (by rfl) (aA aB (aA aD aK)))) (aJ (bY (eE rN hr (by decide) (by rfl) (aA aB (aA aD aK)))) (aJ (bY (eE tH hr (by decide) (by rfl) (aA (aO dJ aB aD) (aA aB aK)))) (aJ (yJ (by decide) (gP hK aB (cT aD) (cT aD)) (yC rfl (aZ (aQ sc.nd rfl (by trivial)) (aZ (aQ sc.nd rfl (by trivial)) (aZ (aQ sc.nd rfl (by trivial)) (aZ (aQ sc.nd rfl (by trivial)) (jZ))))))) (aJ (bY (cH (bJ (aA aD (aA aD (aA aD aK)))) (aO cQ aB aD))) (aJ (bY (bJ aK)) (aJ (bY aD) (aJ (bY (bJ (aA aD (aA aD (aA aD aK))))) (aJ (wI PassesOwn.never rfl (iK (gP hK aB (cT aD) (cT aD))) (uZ rfl) (aQ sc.nd rfl (by trivial)) (aJ (bY (eE tI hr (by decide) (by rfl) (aA aB (aA aB aK)))) (bK (nT (PW.pt (UG (fJ aE0 (aO aY (cU (wL (by rfl)) (by rfl) B.sum wM (aA aB aK)) (cU (wL (by rfl)) (by rfl) B.sum wM (aA (gP hK aB (cT aD) (gG)) aK))) aB (fV _)) (T_ (fJ aA4 (aO aY (cU (m8 hK) (by rfl) B.len m_ (aA aB aK)) (cU (m8 hK) (by rfl) B.len m_ (aA (cH aB aD) aK))) aD (fV _))))) (aJ (bY (aO (XH hK) aB (cH aB aD))) (aJ (bY (aO aY aB (cH aB aD))) (bK (bY (bJ (aA (aO aY (cH aB aD) (cH aB aD)) (aA (aO aY (cH aB aD) (cH aB aD)) (aA (aO aY (cH aB aD) (cH aB aD)) aK)))))))) gJ)))) (aJ (bY (aO UL (aO aY aD (aO cQ aB aD)) (cU (wL (by rfl)) (by rfl) B.sum wM (aA aB aK)))) (aJ (nT (PW.pt (UG (fJ (Z6 hu) (aO cQ (aO dJ aB aD) aD) aD (fV _)) (UG (fJ aKn aB aD (fV _)) (T_ (fJ aE0 (aO aY (aO aY (cU (m8 hK) (by rfl) B.len m_ (aA aB aK)) aB) aD) aD (fV _)))))) (aJ (bY (aO aY (aO aY (aO aY aB (bJ (aA (b8 aB) aK))) (aO mF (bJ (aA (b8 aB) aK)) aB)) (bJ (aA (b8 aB) aK)))) (aJ (bY (aO aY aB aB)) (bK (aEd rfl rfl (by trivial) aD (aO aY (aO aY (cH aB aD) aB) aD))))) gJ) (aJ (bY (c7 g_ (by rfl) B.tuple fC (aA (aO aY aB (bJ (aA (b8 aB) aK))) aK))) (aJ (bY (aO aY (aO mF (bJ (aA (b8 aB) aK)) aB) (bJ (aA (b8 aB) aK)))) (aJ (bY (eE tJ hr (by decide) (by rfl) (aA aB (aA (aO dJ aB aD) aK)))) (aJ (bY (cU (wL (by rfl)) (by rfl) B.sum wM (aA aB aK))) (aJ (wI PassesOwn.never rfl (iK (bJ (aA (b8 aB) (aA (aO aY aB aD) (aA (aKc aH2 aD) aK))))) (uZ rfl) (aQ sc.nd rfl (by trivial)) (bK (nT (J6 (oG (eE rO hr (by decide) (by rfl) (aA aB (aA aB (aA aB (aA aB (aA aB aK)))))))) (bK (gK G6)) gJ))) (bK (gK (aKe (T9 (Z6 hu) aB aD (fV _)) (aBy (eE rO hr (by decide) (by rfl) (aA aB (aA aB (aA aB (aA aB (aA (aO UL aB aD) aK)))))))))))))))))))))))))
def AtN (K:Frag) (n:Str) (st:Stmt):Prop:=∃(f:Addr) (fd:FuncData),nsIn K mainGlobals n=some (some (.ref f))/\Fun K n n st f fd
theorem aLh {K:Frag} {n:Str} {st:Stmt} {f:Addr} {oc kV dc pm cd ct:Value} {od an:Option Addr} {sl:Array (Option Value)} (a:nsIn K mainGlobals n=some (some (.ref f))) (l:K.lookup f=some ⟨oc,od,.func (fnOf n n (dU st) (cN st) (aM st) .none kV dc pm an cd ct),sl⟩) (c:codeIn K cd n=true) (k:keepIn K (.ref f)=true):AtN K n st:=⟨f,_,a,fW (st:=st) l c k⟩
theorem aIj {l:OpenLaw} {w:World} {K:Frag} {h:Heap} {mg:Str->Option Value} {fa:Addr} (X:K.In h) (G:h.Ns mainGlobals mg) (hfa:mg "law" = some (.ref fa)) (a0:AtN K "heads_of" nY) (a1:AtN K "words_of" nZ)
  {f2 T2:Addr} {oc2 kV2 dc2 pm2 cd2 ct2 tc2:Value} {od2 an2 td2:Option Addr} {sl2 tl2:Array (Option Value)} {tk2:Tok} {tn2:Nat} (a2:nsIn K mainGlobals "worth" = some (some (.ref f2))) (l2:K.lookup f2=some ⟨oc2,od2,.func (fnOf "worth" "worth" (dU n8) (cN n8) (aM n8) (.ref T2) kV2 dc2 pm2 an2 cd2 ct2),sl2⟩) (c2:codeIn K cd2 "worth" = true) (k2:keepIn K (.ref f2)=true) (t2:K.lookup T2=some ⟨tc2,td2,.seq #[.int 400 tk2] tn2,tl2⟩) (a3:AtN K "_law_cell_at" iQ) (a4:AtN K "_law_names" fL) (a5:AtN K "_law_rules" iB) (a6:AtN K "_law_program" iR) (a7:AtN K "_law_entry" kY) (a8:AtN K "_law_right" k_) (a9:AtN K "_law_asked" lB)
  {f10:Addr} {oc10 kV10 dc10 pm10 cd10 ct10:Value} {od10 an10:Option Addr} {sl10:Array (Option Value)} (a10:nsIn K mainGlobals "law" = some (some (.ref f10))) (l10:K.lookup f10=some ⟨oc10,od10,.func (fnOf "law" "law" (dU yL) (cN yL) (aM yL) .none kV10 dc10 pm10 an10 cd10 ct10),sl10⟩) (c10:codeIn K cd10 "law" = true) (k10:keepIn K (.ref f10)=true) (ql:nsIn K mainGlobals "len" = some none) (qm:nsIn K mainGlobals "min" = some none) (qo:nsIn K mainGlobals "max" = some none) (qp:nsIn K mainGlobals "list" = some none) (qr:nsIn K mainGlobals "tuple" = some none) (qt:nsIn K mainGlobals "sorted" = some none) (qu:nsIn K mainGlobals "range" = some none) (qv:nsIn K mainGlobals "isinstance" = some none) (qw:nsIn K mainGlobals "int" = some none) (qx:nsIn K mainGlobals "bool" = some none) (qy:nsIn K mainGlobals "str" = some none) (qz:nsIn K mainGlobals "dict" = some none) (qA:nsIn K mainGlobals "all" = some none) (qB:nsIn K mainGlobals "enumerate" = some none) (qC:nsIn K mainGlobals "sum" = some none) (qD:nsIn K mainGlobals "zip" = some none) (qE:nsIn K mainGlobals "abs" = some none) (qF:nsIn K mainGlobals "reversed" = some none) {rP:Addr} (qG:nsIn K mainGlobals "MillError" = some (some (.ref rP))) {rQ:Addr} (qH:nsIn K mainGlobals "Twice" = some (some (.ref rQ))) {rR:Addr} (qI:nsIn K mainGlobals "NoTerm" = some (some (.ref rR))) {rS:Addr} (qJ:nsIn K mainGlobals "NoName" = some (some (.ref rS))) {rT:Addr} (qK:nsIn K mainGlobals "Lacking" = some (some (.ref rT))) {rV:Addr} (qL:nsIn K mainGlobals "BadRow" = some (some (.ref rV))) {rW:Addr} (qM:nsIn K mainGlobals "BadKind" = some (some (.ref rW))) {p7:Addr} (p9:nsIn K mainGlobals "Spent" = some (some (.ref p7))) (qO:exmOne K (.ref p7) (.ref rP)=some true) (qQ:isClsIn K p7=true) (qR:findIn K (.ref p7) "__getattribute__" = some (some (.builtin "BaseException.__getattribute__"))) (qS:findIn K (.ref p7) "__getattr__" = some none) (qT:findIn K (.ref p7) "__class__" = some (some (.builtin "object.__class__"))) (qU:specialIn K (.builtin "object.__class__") "__get__" = some (some (.builtin "getset_descriptor.__get__"))) (qV:takesIn K (.builtin "object.__class__")=some true) (qW:mroIn K p7 (.type "object")=some true) (qX:mroIn K p7 (.type "BaseException")=some true) (qY:kitAny K (.ref p7) [.ref rW,.ref rV,.ref rT,.ref rS,.ref rR,.ref rQ]=some false) (qZ:kitOne K (.ref p7) (.ref p7)=some true) {p8:Addr} (pb:nsIn K mainGlobals "Frame" = some (some (.ref p8))) {pA:Addr} {tK tL tM tN rX tO:Value} {tP tQ:Option Addr} {tR:Array (Option Value)} {p5:Addr} (p6:nsIn K mainGlobals "PlainRun" = some (some (.ref p5))) {pB:Addr} {tT tU tV tW rY tX:Value} {tY tZ:Option Addr} {u4:Array (Option Value)} {pP:Addr} {u5 u7 u8 u9 rZ ua:Value} {ub ud:Option Addr} {ue:Array (Option Value)} {pQ:Addr} {uf ug uh ui t0 uj:Value} {ul um:Option Addr} {uo:Array (Option Value)} {pR:Addr} {uq ur ut uv t5 ux:Value} {uy uz:Option Addr} {uA:Array (Option Value)} {pS:Addr} {uB uC uD uE t6 uF:Value} {uG uH:Option Addr} {uI:Array (Option Value)} (pg_Frame:plainGet K p8 Str.empty=true) (rg:hasDictIn K p8=true) (po_Frame:plainOver K p8=true) (rh:findIn K (.ref p8) "__setattr__" = some (some (.builtin "object.__setattr__"))) (mk_Frame:makesIn K p8=true) (rj:keepIn K (.ref p8)=true) (rq:findIn K (.ref p8) "__init__" = some (some (.ref pA))) (pT:K.lookup pA=some ⟨tK,tP,.func (fnOf "__init__" "Frame.__init__" (dU mG) (cN mG) (aM mG) .none tL tM tN tQ rX tO),tR⟩) (pU:codeIn K rX "Frame.__init__" = true) (pV:keepIn K (.ref pA)=true) (rA:isFn K (.ref pA)=true) (pW:findIn K (.ref p8) "words" = some none) (pC:findIn K (.ref p8) "left" = some none) (pD:findIn K (.ref p8) "known" = some none) (pg_PlainRun:plainGet K p5 Str.empty=true) (rB:hasDictIn K p5=true) (po_PlainRun:plainOver K p5=true) (rC:findIn K (.ref p5) "__setattr__" = some (some (.builtin "object.__setattr__"))) (mk_PlainRun:makesIn K p5=true) (rD:keepIn K (.ref p5)=true) (rE:findIn K (.ref p5) "__init__" = some (some (.ref pB))) (pX:K.lookup pB=some ⟨tT,tY,.func (fnOf "__init__" "PlainRun.__init__" (dU dF) (cN dF) (aM dF) .none tU tV tW tZ rY tX),u4⟩) (pY:codeIn K rY "PlainRun.__init__" = true) (pZ:keepIn K (.ref pB)=true) (rF:isFn K (.ref pB)=true) (qa:findIn K (.ref p5) "heads" = some none) (qb:findIn K (.ref p5) "makers" = some none) (qc:findIn K (.ref p5) "rules" = some none) (pE:findIn K (.ref p5) "most" = some none) (pj:findIn K (.ref p5) "calls" = some none) (pc:findIn K (.ref p5) "copies" = some none) (ph:findIn K (.ref p5) "drops" = some none) (rG:findIn K (.ref p5) "take_word" = some (some (.ref pP))) (qd:K.lookup pP=some ⟨u5,ub,.func (fnOf "take_word" "PlainRun.take_word" (dU cV) (cN cV) (aM cV) .none u7 u8 u9 ud rZ ua),ue⟩) (qe:codeIn K rZ "PlainRun.take_word" = true) (pF:keepIn K (.ref pP)=true) (fP:isFn K (.ref pP)=true) (pG:findIn K (.ref p5) "value_of" = some (some (.ref pQ))) (pq:K.lookup pQ=some ⟨uf,ul,.func (fnOf "value_of" "PlainRun.value_of" (dU dG) (cN dG) (aM dG) .none ug uh ui um t0 uj),uo⟩) (pz:codeIn K t0 "PlainRun.value_of" = true) (pi:keepIn K (.ref pQ)=true) (dZ:isFn K (.ref pQ)=true) (rH:findIn K (.ref p5) "called" = some (some (.ref pR))) (qf:K.lookup pR=some ⟨uq,uy,.func (fnOf "called" "PlainRun.called" (dU jN) (cN jN) (aM jN) .none ur ut uv uz t5 ux),uA⟩) (qg:codeIn K t5 "PlainRun.called" = true) (pH:keepIn K (.ref pR)=true) (lD:isFn K (.ref pR)=true) (rJ:findIn K (.ref p5) "count_uses" = some (some (.ref pS))) (qh:K.lookup pS=some ⟨uB,uG,.func (fnOf "count_uses" "PlainRun.count_uses" (dU dC) (cN dC) (aM dC) .none uC uD uE uH t6 uF),uI⟩) (qi:codeIn K t6 "PlainRun.count_uses" = true) (pI:keepIn K (.ref pS)=true) (eG:isFn K (.ref pS)=true) (rK:excIn K p7 aKo "ValueError.__new__" = true) :
  ∃fd:FuncData,(∀(s:Shared) (v:Value),BindsTo s fd ⟨[v],[]⟩ [("script",v)])/\∀base:Heap,K.In base->base.Ns mainGlobals mg->jU l.prog w K mg base CX0 8 fa fd ["script"] (@spD ⟨K⟩ Q7 1):=by
 have e:=hfa.symm.trans (mg_of X G a10);cases e
 letI:KFrag:=⟨K⟩
 have t7:XC K p7:=⟨qQ,qR,qS,qT,qU,qV,qW,qX⟩
 have Y:=fun {n:Str} {v:Value}=>mg_of (n:=n) (v:=v) X G
 have Z:=fun {n:Str}=>mg_none_of (n:=n) X G
 obtain ⟨f0,_,a0,F0⟩:=a0;obtain ⟨f1,_,a1,F1⟩:=a1;obtain ⟨f3,_,a3,F3⟩:=a3;obtain ⟨f4,_,a4,F4⟩:=a4;obtain ⟨f5,_,a5,F5⟩:=a5;obtain ⟨f6,_,a6,F6⟩:=a6;obtain ⟨f7,_,a7,F7⟩:=a7;obtain ⟨f8,_,a8,F8⟩:=a8;obtain ⟨f9,_,a9,F9⟩:=a9;have B:Bt mg:=⟨Z ql,Z qm,Z qo,Z qp,Z qr,Z qt,Z qu,Z qv,Z qw,Z qx,Z qy,Z qz,Z qA,Z qB,Z qC,Z qD,Z qE,Z qF⟩
 refine ⟨fnOf "law" "law" (dU yL) (cN yL) (aM yL) .none kV10 dc10 pm10 an10 cd10 ct10,fun s v=>.of_eq rfl,fun base _ _=>?_⟩;have uJ:=DK (P:=l.prog) (w:=w) (base:=base) rfl B  F0 (Y a0);have rL:=DN (P:=l.prog) (w:=w) (base:=base) rfl B  F1 (Y a1);have cl_Frame:Cls K p8:=⟨pg_Frame,rg,po_Frame,rh⟩
 have q_Frame:aG2 l.prog w K mg base 1 "Frame" kJ 2:=⟨p8,pA,_,_,pb,Y pb,⟨mk_Frame,rq,rA,rj⟩,XM rfl B  cl_Frame (List.forall_mem_cons.2 ⟨pW,(List.forall_mem_cons.2 ⟨pC,(List.forall_mem_cons.2 ⟨pD,(List.forall_mem_nil _)⟩)⟩)⟩) (fW (st:=mG) pT pU pV),((fW (st:=mG) pT pU pV).binds fun _ _ _ _ _ _ us hl=>match us,hl with|[_,_,_],_=>rfl)⟩
 have fl_Frame_words:FP K "Frame" "words":=fun C h=>by cases (pb.symm.trans h);exact ⟨cl_Frame,pW⟩
 have fl_Frame_left:FP K "Frame" "left":=fun C h=>by cases (pb.symm.trans h);exact ⟨cl_Frame,pC⟩
 have fl_Frame_known:FP K "Frame" "known":=fun C h=>by cases (pb.symm.trans h);exact ⟨cl_Frame,pD⟩
 have cl_PlainRun:Cls K p5:=⟨pg_PlainRun,rB,po_PlainRun,rC⟩
 have q_PlainRun:aG2 l.prog w K mg base 2 "PlainRun" d7 2:=⟨p5,pB,_,_,p6,Y p6,⟨mk_PlainRun,rE,rF,rD⟩,DP rfl B uJ cl_PlainRun (List.forall_mem_cons.2 ⟨qa,(List.forall_mem_cons.2 ⟨qb,(List.forall_mem_cons.2 ⟨qc,(List.forall_mem_cons.2 ⟨pE,(List.forall_mem_cons.2 ⟨pj,(List.forall_mem_cons.2 ⟨pc,(List.forall_mem_cons.2 ⟨ph,(List.forall_mem_nil _)⟩)⟩)⟩)⟩)⟩)⟩)⟩) (fW (st:=dF) pX pY pZ),((fW (st:=dF) pX pY pZ).binds fun _ _ _ _ _ _ us hl=>match us,hl with|[_,_,_],_=>rfl)⟩
 have fl_PlainRun_heads:FP K "PlainRun" "heads":=fun C h=>by cases (p6.symm.trans h);exact ⟨cl_PlainRun,qa⟩
 have fl_PlainRun_makers:FP K "PlainRun" "makers":=fun C h=>by cases (p6.symm.trans h);exact ⟨cl_PlainRun,qb⟩
 have fl_PlainRun_rules:FP K "PlainRun" "rules":=fun C h=>by cases (p6.symm.trans h);exact ⟨cl_PlainRun,qc⟩
 have fl_PlainRun_most:FP K "PlainRun" "most":=fun C h=>by cases (p6.symm.trans h);exact ⟨cl_PlainRun,pE⟩
 have fl_PlainRun_calls:FP K "PlainRun" "calls":=fun C h=>by cases (p6.symm.trans h);exact ⟨cl_PlainRun,pj⟩
 have fl_PlainRun_copies:FP K "PlainRun" "copies":=fun C h=>by cases (p6.symm.trans h);exact ⟨cl_PlainRun,pc⟩
 have fl_PlainRun_drops:FP K "PlainRun" "drops":=fun C h=>by cases (p6.symm.trans h);exact ⟨cl_PlainRun,ph⟩
 have y_1:=Lk57.eG (P:=l.prog) (w:=w) (mg:=mg) (base:=base) rfl B cl_PlainRun ph pc (fW (st:=dC) qh qi pI);have y_2:=Lk57.lD (P:=l.prog) (w:=w) (base:=base) rfl B q_Frame p6 pb cl_PlainRun pj pc ph pE fl_PlainRun_rules (Y p9) rK ⟨rJ,eG,pI⟩ y_1 ((fW (st:=dC) qh qi pI).binds fun _ _ _ _ _ _ us hl=>match us,hl with|[_,_,_],_=>rfl) (fW (st:=jN) qf qg pH);have y_3:=Lk57.fP (P:=l.prog) (w:=w) (base:=base) rfl B p6 cl_Frame pD cl_PlainRun fl_PlainRun_heads fl_PlainRun_makers ⟨rH,lD,pH⟩ y_2 ((fW (st:=jN) qf qg pH).binds fun _ _ _ _ _ _ us hl=>match us,hl with|[_,_,_],_=>rfl) (fW (st:=cV) qd qe pF);have y_4:=Lk57.dZ (P:=l.prog) (w:=w) (base:=base) rfl B q_Frame p6 pb cl_Frame pC cl_PlainRun ⟨rG,fP,pF⟩ y_3 ((fW (st:=cV) qd qe pF).binds fun _ _ _ _ _ _ us hl=>match us,hl with|[_,_,_,_],_=>rfl) fl_Frame_words fl_Frame_left (fW (st:=dG) pq pz pi);have F2:aKp K "worth" "worth" n8 f2 _ T2 #[.int 400 tk2]:=⟨⟨_,_,_,_,_,_,_,_,_,rfl,l2,c2⟩,k2,⟨_,_,_,_,t2⟩⟩
 have uR:aNc l.prog w K mg base 6 "worth" "most" 2 (.int 400) cW:=⟨⟨f2,_,["program", "words", "most"],.int 400 tk2,.int 400,(yN rfl B rL q_PlainRun p6 p9 cl_PlainRun pj pc ph ⟨pG,dZ,pi⟩ y_4 ((fW (st:=dG) pq pz pi).binds fun _ _ _ _ _ _ us hl=>match us,hl with|[_,_],_=>rfl) F2).aNj,Y a2,k2,(fun s us X' hl=>match us,(show us.length=3 by simpa using hl) with|[_,_,_],_=>BindsTo.of_defaults rfl (X' _ _ t2) rfl rfl rfl),(fun s us X' hl=>match us,(show us.length=2 by simpa using hl) with|[_,_],_=>BindsTo.of_defaults rfl (X' _ _ t2) rfl rfl rfl),⟨_,rfl⟩,fun _=>.int 400,fun s us y X' hl=>match us,hl with|[_,_],_=>by first|exact .of_eq rfl|exact .of_eq (by with_unfolding_all rfl)|exact BindsTo.of_defaults rfl (X' _ _ t2) rfl rfl rfl|exact BindsTo.of_defaults rfl (X' _ _ t2) rfl (by with_unfolding_all rfl) (by with_unfolding_all rfl)⟩⟩
 have qj:aAl l.prog w K mg base 6 "worth" 3 cW:=⟨f2,_,["program", "words", "most"],yN rfl B rL q_PlainRun p6 p9 cl_PlainRun pj pc ph ⟨pG,dZ,pi⟩ y_4 ((fW (st:=dG) pq pz pi).binds fun _ _ _ _ _ _ us hl=>match us,hl with|[_,_],_=>rfl) F2,Y a2,k2,fun s us X' hl=>match us,(show us.length=3 by simpa using hl) with|[_,_,_],_=>BindsTo.of_defaults rfl (X' _ _ t2) rfl rfl rfl⟩
 have zd_worth:aIb l.prog w K mg base 6 "worth" 3 cW [.int 400]:=⟨f2,_,["program", "words", "most"],[.int 400 tk2],[.int 400],yN rfl B rL q_PlainRun p6 p9 cl_PlainRun pj pc ph ⟨pG,dZ,pi⟩ y_4 ((fW (st:=dG) pq pz pi).binds fun _ _ _ _ _ _ us hl=>match us,hl with|[_,_],_=>rfl) F2,Y a2,k2,(fun s us X' hl=>match us,(show us.length=2 by simpa using hl) with|[_,_],_=>BindsTo.of_defaults rfl (X' _ _ t2) rfl rfl rfl),.cons ⟨_,rfl⟩ .nil,fun _=>.cons (.int 400) .nil⟩
 have uK:=oX (P:=l.prog) (w:=w) (base:=base) rfl B  F3 (Y a3);have uL:=vY (P:=l.prog) (w:=w) (base:=base) rfl B  F4 (Y a4);have uM:=vZ (P:=l.prog) (w:=w) (base:=base) rfl B  F5 (Y a5);have uN:=oY (P:=l.prog) (w:=w) (base:=base) rfl B uM F6 (Y a6);have uO:=v_ (P:=l.prog) (w:=w) (base:=base) rfl B  F7 (Y a7);have uP:=wA (P:=l.prog) (w:=w) (base:=base) rfl B  F8 (Y a8);have uQ:=wB (P:=l.prog) (w:=w) (base:=base) rfl B uP qj zd_worth (Y qG) (Y qH) (Y qI) (Y qJ) (Y qK) (Y qL) (Y qM) (Y p9) ⟨⟨_,p9,qO⟩,trivial⟩ ⟨⟨_,p9,t7,qY⟩,trivial⟩ ⟨⟨_,p9,t7,qZ⟩,trivial⟩ F9 (Y a9);exact aIi rfl B uK uL uO uN uQ (fW (st:=yL) l10 c10 k10)
theorem walk {l:OpenLaw} {q:Program} {loose:List Str} {XP:(Str->Option Value)->Heap->Prop} {YP:World->Heap->Prop} {d:DefRec} {K:Params->Frag} (main:∀ns:List Int,ns.length<=63->Q7 [.scr (ns.map D.int)]=.ok (.bl true)) (hn:l.most=some 63) (hdf:d.params.defaults=[])
  (hY:∀(w:World) (h:Heap),YP w h->(K w.params).In h)
  (F:∀(w:World) (mg:Str->Option Value) (fa:Addr) (h:Heap),(K w.params).In h->h.Ns mainGlobals mg->mg d.name=some (.ref fa)->
   ∃fd:FuncData,(∀(s:Shared) (u:Value),BindsTo s fd ⟨[u],[]⟩ [("script",u)])/\∀base:Heap,(K w.params).In base->base.Ns mainGlobals mg->jU l.prog w (K w.params) mg base CX0 8 fa fd ["script"] (@spD ⟨K w.params⟩ Q7 1)) :
  WalkO q loose XP YP l.row.toRowW d [] (fun f vs=>PySem.call f vs):=
 L2.aDf (n:=63) (k:=8) (x := "script") (CX:=fun _=>CX0) (sp:=fun w=>@spD ⟨K w.params⟩ Q7 1) hn (by decide) hdf ⟨rfl,by decide,by decide⟩ hY F (fun w H a ns hl hO hS=>U8 main hl hO hS) fun _ _ _ _ _ z=>z
end Lk57
end
namespace Lk57
open PySem L2 Mi
theorem XQ {f g:FS} {ρ:List D} {d:D} (h:f ρ=.ok (.rt d)):bA f g ρ=.ok (.rt d):=by
 unfold bA;rw [h];rfl
theorem aF6 {i:Nat} {fk fv:FE} {ρ xs:List D} {d:D} {k:Int} {j:Nat} (h1:fv ρ=.ok d) (h2:fk ρ=.ok (.int k)) (h3:QL (ρ.getD i .uD)=some xs) (hp:d.pure=true) (hj:ixD xs.length k=some j) {ρ':List D} (he:ρ.set i (aEb (ρ.getD i .uD) (xs.set j d))=ρ'):aAe i fk fv ρ=.ok (.nx ρ'):=by
 subst he;unfold aAe;rw [h1,Res.aU,h2,Res.aU,h3];dsimp only;rw [if_pos hp,hj]
theorem yU {f:FE} {ρ:List D} {d:D} (h:f ρ=.ok d) (hp:d.pure=true):bPu f ρ=.ok d:=by
 unfold bPu;rw [h,Res.aU,if_pos hp]
theorem mH (a b:Int) (h:j5 b=true):jH (.int a) (.int b)=.ok (.int (a*b)):=by
 show aR .mul (.int a) (.int b)=_;exact aHe a b h
theorem p_ (a b:Int) (h:j5 a=true):jH (.int a) (.int b)=.ok (.int (a*b)):=by
 show aR .mul (.int a) (.int b)=_;exact aE2 a b h
theorem XR (a b:Int):nH .le (.int a) (.int b)=.ok (.bl (decide (a<=b))):=rfl
theorem DR (a b:Int):nH .lt (.int a) (.int b)=.ok (.bl (decide (a<b))):=rfl
theorem yV (a b:Int):mO .eq (.int a) (.int b)=.ok (.bl (a==b)):=rfl
theorem aF7 (a b:Int):mO .ne (.int a) (.int b)=.ok (.bl (!(a==b))):=rfl
theorem aF8 (ns:List Int) (i:Int) (h0:0<=i) (h1:i<ns.length):∃n,getD (.scr (ns.map D.int)) (.int i)=.ok (.int n):=by
 have hl:i.toNat<ns.length:=by lia
 refine ⟨ns[i.toNat],?_⟩;show Res.ofOpt ((ixD (ns.map D.int).length i).bind fun j=>(ns.map D.int)[j]?)=_;unfold ixD;rw [if_pos h0,List.length_map,if_pos h1];simp [hl]
noncomputable def tx (cs:List Nat):Str:=⟨cs.toArray⟩
theorem wX (cs:List Nat):(tx cs).length=cs.length:=by
 show cs.toArray.size=_;simp
theorem XS (a b:List Nat):tx a++tx b=tx (a++b):=by
 show (⟨a.toArray++b.toArray⟩:Str)=⟨(a++b).toArray⟩
 congr 1
 simp
theorem aCg {a b:List Nat} (h:tx a=tx b):a=b:=by
 unfold tx at h;injection h with h
 have:=congrArg Array.toList h;simpa using this
noncomputable def abc:Str := "abcdefghijklmnopqrstuvwxyz"
theorem aIk:∀i,i<26->abc.cps.toList[i]?=some (97+i):=by decide +kernel
theorem letter (i:Int) (h0:0<=i) (h1:i<26):getD (.str abc) (.int i)=.ok (.str (tx [97+i.toNat])):=by
 have hl:decide (abc.length<=lim)=true:=by decide +kernel
 have h26:abc.cps.toList.length=26:=by decide +kernel
 have hix:ixD abc.cps.toList.length i=some i.toNat:=by
  unfold ixD;rw [if_pos h0,h26,if_pos (by lia)]
 show (if decide (abc.length<=lim) then Res.ofOpt (((ixD abc.cps.toList.length i).bind fun j=>abc.cps.toList[j]?).map fun c=>D.str ⟨#[c]⟩) else .bad)=_;rw [hl,if_pos rfl,hix];simp only [Option.bind_some];rw [aIk _ (by lia)];rfl
noncomputable def one (c:Nat):Str:=⟨#[c]⟩
theorem DW:∀(cs:List Nat) (a:Array Nat),((cs.map one).foldl (fun acc p=>acc++("" : Str).cps++p.cps) a)=a++cs.toArray
 | [],a=>by simp
 | c::cs,a=>by
  rw [List.map_cons,List.foldl_cons,DW cs];apply Array.ext';simp [one,show (("" : Str).cps)=#[] from rfl]
theorem join_one (cs:List Nat):Txt.join ("" : Str) (cs.map one)=tx cs:=by
 unfold Txt.join Builtin.Str.glued tx;cases cs with
 | nil=>rfl
 | cons c cs=>
  rw [List.map_cons,List.drop_succ_cons,List.drop_zero,List.headD_cons,DW]
  congr 1
  apply Array.ext';simp [one]
theorem DX:∀cs:List Nat,u_ (cs.map fun c=>D.str (one c))=some (cs.map one)
 | []=>rfl
 | c::cs=>by
  show (u_ (cs.map fun c=>D.str (one c))).map (one c::·)=_;rw [DX cs];rfl
theorem aF9 (cs:List Nat) (h:cs.length<=100):joinM (.str "") [.lst (cs.map fun c=>D.str (one c))]=.ok (.str (tx cs)):=by
 show (match u_ (cs.map fun c=>D.str (one c)) with|some ts=>if JoinOk "" ts then Res.ok (D.str (Txt.join "" ts)) else .bad|none=>.bad)=_;rw [DX];show (if JoinOk "" (cs.map one) then Res.ok (D.str (Txt.join "" (cs.map one))) else .bad)=_;have hok:JoinOk "" (cs.map one)=true:=by
  unfold JoinOk;rw [StrLaws.joinFits (B:=1) (fun y hy=>by obtain ⟨c,_,rfl⟩:=List.mem_map.mp hy;exact Nat.le_refl _) (by rw [List.length_map,show (("" : Str).length)=0 from rfl];lia)];rfl
 rw [if_pos hok,join_one]
theorem aNk {a b:FT} {ρ:List D} (h1:a ρ=.ok true):bOr a b ρ=.ok true:=by
 unfold bOr;rw [h1];rfl
theorem aNl {a b:FT} {ρ:List D} {r:Res Bool} (h1:a ρ=.ok false) (h2:b ρ=r):bOr a b ρ=r:=by
 unfold bOr;rw [h1];exact h2
theorem yW {a b:FT} {ρ:List D} {x y:Bool} (h1:a ρ=.ok x) (h2:b ρ=.ok y):bOr a b ρ=.ok (x||y):=by
 cases x with
 | true=>exact aNk h1
 | false=>exact aNl h1 h2
theorem fU {a:FE} {ρ:List D} {i:Int} (h:a ρ=.ok (.int i)):dI a ρ=.ok (some i):=by
 unfold dI;rw [h];rfl
theorem XX {a:FE} {lo hi:List D->Res (Option Int)} {ρ:List D} {x:Str} {l h:Option Int} (h1:a ρ=.ok (.str x)) (h2:lo ρ=.ok l) (h3:hi ρ=.ok h) (hx:x.length<=1000):mQ a lo hi ρ=.ok (.str (Txt.slice x l h)):=by
 unfold mQ;rw [h1,Res.aU,h2,Res.aU,h3,Res.aU];show (if decide (x.length<=lim) then Res.ok (D.str (Txt.slice x l h)) else .bad)=_;rw [if_pos (by rw [bQ];exact decide_eq_true (by lia))]
theorem aCh (x:Str):tx x.cps.toList=x:=rfl
theorem aFa (c:Nat) (n:Nat) (h:1<=n):Txt.mul (tx [c]) (n:Int)=tx (List.replicate n c):=by
 unfold Txt.mul;rw [if_neg (by lia)];split
 ·rename_i h1;have:n=1:=by
   simp [wX] at h1;lia
  subst this;rfl
 ·have:∀(m:Nat) (a:List Nat),(List.replicate m (tx [c]).cps).foldl (·++·) a.toArray=(a++List.replicate m c).toArray:=by
   intro m;induction m with
   | zero=>intro a;simp
   | succ m ih=>
    intro a;rw [List.replicate_succ,List.foldl_cons];have:a.toArray++(tx [c]).cps=(a++[c]).toArray:=by
     apply Array.ext';simp [tx]
    rw [this,ih,List.replicate_succ];simp
  have e:=this n [];rw [Int.toNat_natCast];show (⟨_⟩:Str)=⟨_⟩
  congr 1
theorem aB8 (c:Nat) (n:Nat) (h:1<=n) (h2:n<=100):jH (.str (tx [c])) (.int n)=.ok (.str (tx (List.replicate n c))):=by
 show (if decide (0<=(n:Int))&&decide ((n:Int)<=100000)&&decide ((tx [c]).length*(n:Int).toNat<=lim) then Res.ok (D.str (Txt.mul (tx [c]) n)) else .bad)=_;have e3:decide ((tx [c]).length*(n:Int).toNat<=lim)=true:=by
  rw [wX,bQ];simp;lia
 rw [e3,decide_eq_true (by lia),decide_eq_true (by lia),aFa c n h];rfl
structure Nmf (nm:Nat->List Nat):Prop where
 inj:∀s t,s<26->t<26->nm s=nm t->s=t
 len:∀s,s<26->(nm s).length<=100
theorem X3 (x:Int):∃s:Nat,s<26/\x % 26=s:=⟨(x % 26).toNat,by lia,by lia⟩
theorem aFb {P Q A B:List Nat} (h:P++A++Q=P++B++Q):A=B:=by
 rw [List.append_assoc,List.append_assoc] at h;exact List.append_cancel_right (List.append_cancel_left h)
theorem DY (n:Nat):∀N:List Str,D.eX n (N.map D.str)=true
 | []=>by rw [List.map_nil,D.eX]
 | x::N=>by
  rw [List.map_cons,D.eX,DY n N];rw [D.cL] <;> simp
theorem aB9 (x:Str):(D.str x).cL bH=true:=by
 unfold bH;rw [D.cL] <;> simp
theorem D_:∀N:List Str,D.aG (N.map D.str)=true
 | []=>rfl
 | x::N=>by
  rw [List.map_cons,D.aG,D_ N];rfl
theorem X4 (x:Str):∀N:List Str,(N.map D.str).any (fun y=>eqD y (.str x))=decide (x∈N)
 | []=>rfl
 | y::N=>by
  rw [List.map_cons,List.any_cons,X4 x N];show ((y==x)||_)=_;by_cases h:y=x
  ·simp [h]
  ·have h2:¬x=y:=fun e=>h e.symm
   simp [h,h2]
theorem in_str (x:Str) (N:List Str):mO .isin (.str x) (.lst (N.map D.str))=.ok (.bl (decide (x∈N))):=by
 show (if (D.str x).cL bH&&D.eX bH (N.map D.str) then Res.ok (D.bl ((N.map D.str).any fun y=>eqD y (.str x))) else .bad)=_;rw [aB9,DY,X4];rfl
theorem n_ {a:FE} {ρ:List D} {xs:List D} {fr:Bool} (h:a ρ=.ok (.lst xs)):cO a fr ρ=.ok (xs,fr):=by
 unfold cO;rw [h,Res.aU];show Res.ok (xs,fr||false)=_;rw [Bool.or_false]
theorem lK {a:FE} {ρ:List D} {xs:List D} {fr:Bool} (h:a ρ=.ok (.tup xs)):cO a fr ρ=.ok (xs,fr||D.aG xs):=by
 unfold cO;rw [h,Res.aU];show Res.ok (xs,fr||(D.tup xs).pure)=_;rw [D.pure]
theorem nF {α:Type} {n:Nat} {it:FI} {f:FE} {k kk:Bool} {ρ:List D} (d y:α->D) (xs:List α) (hρ:ρ.length=n) (h1:it ρ=.ok (xs.map d,kk)) (h2:xs.length<=100000) (h3:∀a∈xs,f (ρ++[d a])=.ok (y a)/\(k||(y a).pure)=true):jQ n it GX j7 f k ρ=.ok (.lst (xs.map y)):=by
 refine VD h1 (by rw [List.length_map,bQ];lia) ?_;have:∀(xs:List α) (acc:List D),(∀a∈xs,f (ρ++[d a])=.ok (y a)/\(k||(y a).pure)=true)->uV (GZ n GX j7 f k ρ) acc (xs.map d)=.ok (acc++xs.map y):=by
  intro xs;induction xs with
  | nil=>intro acc _;simp [uV]
  | cons x xs ih=>
   intro acc h;rw [List.map_cons,uV,BK hρ (b:=true) rfl fun _=>h x (List.mem_cons_self ..)];show uV _ (acc++[y x]) _=_;rw [ih _ fun a ha=>h a (List.mem_cons_of_mem _ ha),List.append_assoc];rfl
 exact (this xs [] h3).trans (by rw [List.nil_append])
theorem aLi {f:D->List D->Res D} {o:FE} {a:FA} {ρ:List D} {x:D} {xs:List D} {r:Res D} (h1:o ρ=.ok x) (h2:a ρ=.ok xs) (h3:f x xs=r):bM f o a ρ=r:=by
 unfold bM;rw [h1,Res.aU,h2,Res.aU,h3]
theorem aLj (a b:List Nat) (h:tx a++("e" : Str)=tx b++("e" : Str)):a=b:=by
 have e:("e" : Str)=tx [101]:=rfl;rw [e,XS,XS] at h;exact List.append_cancel_right (aCg h)
theorem yX (n d a:Nat):aBx n d (some (a:Int))=min a n:=by
 show (if (a:Int)<0 then (max ((a:Int)+(n:Int)) 0).toNat else (min (a:Int) (n:Int)).toNat)=_;rw [if_neg (by lia)];lia
theorem M3 (n d:Nat):aBx n d none=d:=rfl
theorem aCi {α:Type} (xs:List α) (a:Nat):cutD xs none (some (a:Int))=xs.take a:=by
 unfold cutD;rw [yX,M3,List.drop_zero,Nat.sub_zero];by_cases h:a<=xs.length
 ·rw [Nat.min_eq_left h]
 ·rw [Nat.min_eq_right (by lia),List.take_of_length_le (Nat.le_refl _),List.take_of_length_le (by lia)]
theorem aBa {α:Type} (xs:List α) (a:Nat):cutD xs (some (a:Int)) none=xs.drop a:=by
 unfold cutD;rw [yX,M3];by_cases h:a<=xs.length
 ·rw [Nat.min_eq_left h,List.take_of_length_le (by rw [List.length_drop];exact Nat.le_refl _)]
 ·rw [Nat.min_eq_right (by lia),List.drop_eq_nil_of_le (Nat.le_refl _),List.drop_eq_nil_of_le (by lia),List.take_nil]
noncomputable def sy (N:List Str) (i:Nat):D:=.str (N.getD i "")
theorem aIl (N:List Str) (h:N.length=26):N.map D.str=(List.range 26).map (sy N):=by
 apply List.ext_getElem
 ·simp [h]
 ·intro i h1 h2;rw [List.getElem_map,List.getElem_map,List.getElem_range];have h1':i<N.length:=by rw [List.length_map] at h1;exact h1
  show D.str (N[i]'h1')=D.str (N.getD i "");rw [List.getD_eq_getElem?_getD,List.getElem?_eq_getElem h1'];rfl
theorem JD {N:List Str} (h:N.length=26) (hN:N.Nodup) {i j:Nat} (hi:i<26) (hj:j<26):eqD (sy N i) (sy N j)=decide (i=j):=by
 show ((N.getD i "")==(N.getD j ""))=_;have hi':i<N.length:=by lia
 have hj':j<N.length:=by lia
 rw [List.getD_eq_getElem?_getD,List.getD_eq_getElem?_getD,List.getElem?_eq_getElem hi',List.getElem?_eq_getElem hj'];show (N[i]==N[j])=_;by_cases e:i=j
 ·subst e;simp
 ·have:¬N[i]=N[j]:=fun g=>e ((List.getElem_inj hN).mp g)
  simp [e,this]
theorem bB (N:List Str):∀l:List Nat,D.aG (l.map (sy N))=true
 | []=>rfl
 | i::l=>by
  rw [List.map_cons,D.aG,bB N l];rfl
theorem M4 (N:List Str) (n:Nat):∀l:List Nat,D.eX n (l.map (sy N))=true
 | []=>by rw [List.map_nil,D.eX]
 | x::l=>by
  rw [List.map_cons,D.eX,M4 N n l];unfold sy;rw [D.cL] <;> simp
theorem xJ {α:Type} {f:α->D} {l:List α} {i:Nat} {a:α} {x:Int} (hx:x=i) (h:l[i]?=some a):getD (.lst (l.map f)) (.int x)=.ok (f a):=by
 subst hx;obtain ⟨hi,e⟩:=List.getElem?_eq_some_iff.mp h;show Res.ofOpt ((ixD (l.map f).length (i:Int)).bind fun j=>(l.map f)[j]?)=_;unfold ixD;rw [if_pos (by lia),List.length_map,if_pos (by lia)];simp [h]
theorem aFc {f:Nat->D} {n i:Nat} {x:Int} (hx:x=i) (hi:i<n):getD (.lst ((List.range n).map f)) (.int x)=.ok (f i):=xJ hx (by rw [List.getElem?_range hi])
noncomputable abbrev Rw:=Nat×Nat×List Nat
noncomputable abbrev Tk:=Nat×Nat×Nat×List Nat
def rwD (N:List Str) (r:Rw):D:=.tup [sy N r.1,sy N r.2.1,.tup (r.2.2.map (sy N))]
def tkD (N:List Str) (r:Tk):D:=.tup [sy N r.1,sy N r.2.1,sy N r.2.2.1,.tup (r.2.2.2.map (sy N))]
theorem vL (N:List Str) (r:Rw):(rwD N r).pure=true:=by
 show ((sy N r.1).pure&&((sy N r.2.1).pure&&((D.tup (r.2.2.map (sy N))).pure&&true)))=true;rw [D.pure,bB];rfl
theorem mJ (N:List Str) (r:Tk):(tkD N r).pure=true:=by
 show ((sy N r.1).pure&&((sy N r.2.1).pure&&((sy N r.2.2.1).pure&&((D.tup (r.2.2.2.map (sy N))).pure&&true))))=true;rw [D.pure,bB];rfl
theorem b_ {α:Type} {f:α->D} (h:∀a,(f a).pure=true):∀l:List α,D.aG (l.map f)=true
 | []=>rfl
 | x::l=>by
  rw [List.map_cons,D.aG,h,b_ h l];rfl
theorem mK {a:FE} {lo hi:List D->Res (Option Int)} {ρ xs:List D} {l h:Option Int} (h1:a ρ=.ok (.lst xs)) (h2:lo ρ=.ok l) (h3:hi ρ=.ok h) (hx:D.aG xs=true):mQ a lo hi ρ=.ok (.lst (cutD xs l h)):=by
 unfold mQ;rw [h1,Res.aU,h2,Res.aU,h3,Res.aU];show (if D.aG xs then Res.ok (D.lst (cutD xs l h)) else .bad)=_;rw [if_pos hx]
theorem Q8 {g:D->Res D} {f:FE} {ρ:List D} {x y:D} (h:f ρ=.ok x) (h2:g x=.ok y):b1 g f ρ=.ok y:=by
 unfold b1;rw [h];exact h2
theorem call_v {n m:Nat} {f:FS} {ds:List D} {d:D} (h:f (ds++List.replicate (m-n) D.uD)=.ok (.rt d)):fnS n m f ds=.ok d:=by
 unfold fnS;rw [h];rfl
theorem aIm {a:FT} {ρ:List D} {b:Bool} (h:a ρ=.ok b):aDk a ρ=.ok (!b):=by
 unfold aDk;rw [h,Res.aU];rfl
theorem aFd {a:FE} {ρ:List D} {b:Bool} (h:a ρ=.ok (.bl b)):bTr a ρ=.ok b:=by
 unfold bTr;rw [h,Res.aU];rfl
theorem aBb:kO=bA (cJ false 2 (bC (.str "abcdefghijklmnopqrstuvwxyz")) true) (bA (cJ false 3 (b2 getD (cP (aC dO (aC jW (aC YX (aC aGw (aC YZ (aC (bC (.int 25)) aV))))))) (b2 (aR .mod) (b2 (aR .fdiv) iI jW) (bC (.int 6)))) false) (bA (cJ false 4 (b2 (aR .mod) (b2 (aR .fdiv) iI (bC (.int 18))) xP) true) (bA (cJ false 5 (b2 (aR .mod) e_ aJf) true) (bA nm6 (bA (cJ false 7 (b2 (aR .mod) (b2 (aR .fdiv) e_ YZ) (b2 (aR .add) uT dO)) true) (bA (cJ true 8 (cP aV) true) (bA (Y0 (vQ (aC xP aV) uU) (tg1 9) nb) (bA nm8 (PX 8))))))))):=rfl
abbrev ns (choice cell turn shift size:Int) (base:Str) (at_:Int) (NM:List D) (a b:D):List D:=[.int choice,.int cell,.str abc,.int turn,.int shift,.int size,.str base,.int at_,.lst NM,a,b]
theorem aFe (i:Int) (h0:0<=i) (h1:i<6):∃t:Int,getD (.lst [.int 1,.int 3,.int 5,.int 7,.int 9,.int 25]) (.int i)=.ok (.int t)/\(t=1\/t=3\/t=5\/t=7\/t=9\/t=25):=by
 have:i=0\/i=1\/i=2\/i=3\/i=4\/i=5:=by lia
 rcases this with h|h|h|h|h|h <;> subst h
 ·exact ⟨1,rfl,by decide⟩
 ·exact ⟨3,rfl,by decide⟩
 ·exact ⟨5,rfl,by decide⟩
 ·exact ⟨7,rfl,by decide⟩
 ·exact ⟨9,rfl,by decide⟩
 ·exact ⟨25,rfl,by decide⟩
theorem aBc {t s:Int} (ht:t=1\/t=3\/t=5\/t=7\/t=9\/t=25) {j k:Nat} (hj:j<26) (hk:k<26) (h:((j:Int)*t+s) % 26=((k:Int)*t+s) % 26):j=k:=by
 rcases ht with e|e|e|e|e|e <;> subst e <;> lia
theorem aBd {choice turn shift cell size at_:Int} {base:Str} (hb:base.length<=10) (ht:j5 turn=true) (hs0:0<=shift) (hs1:shift<26) :
  ∃nm:Nat->List Nat,Nmf nm/\∀(k:Int) (s:Nat),s<26->(k*turn+shift) % 26=s->∀(NM:List D) (b:D),NM.length<100->nb (ns choice cell turn shift size base at_ NM (.int k) b)=.ok (.nx (ns choice cell turn shift size base at_ (NM++[.str (tx (nm s))]) (.int k) (.int s))):=by
 have sp:∀(k:Int) (s:Nat) (NM:List D) (b:D),(k*turn+shift) % 26=s->cJ false 10 (b2 (aR .mod) (b2 (aR .add) (b2 jH gD fB) gQ) xP) true (ns choice cell turn shift size base at_ NM (.int k) b)=.ok (.nx (ns choice cell turn shift size base at_ NM (.int k) (.int s))):=fun k s NM b e=>by
  rw [<-e];exact bR (aL (aL (aL rfl rfl (mH _ _ ht)) rfl (bW _ _)) rfl (cZ _ _ (by decide)))
 have cm:∀(ρ:List D) (j:Int),bT 0 ρ=.ok (.int choice)->bTB (b2 (mO .eq) (b2 (aR .mod) iI jW) (bC (.int j))) ρ=.ok (choice % 3==j):=fun ρ j h=>j8 (aL (aL h rfl (cZ _ _ (by decide))) rfl (yV _ _))
 have lt:∀(ρ:List D) (f:FE) (i:Int) ,bT 2 ρ=.ok (.str abc)->f ρ=.ok (.int i)->0<=i->i<26->b2 getD fQ f ρ=.ok (.str (tx [97+i.toNat])):=fun ρ f i h1 h2 h3 h4=>aL h1 h2 (letter i h3 h4)
 obtain ⟨P,hP,lP⟩:∃P,Txt.slice base none (some at_)=tx P/\P.length<=10:=⟨_,(aCh _).symm,Nat.le_trans (Txt.slice_le ..) hb⟩
 obtain ⟨Q,hQ,lQ⟩:∃P,Txt.slice base (some at_) none=tx P/\P.length<=10:=⟨_,(aCh _).symm,Nat.le_trans (Txt.slice_le ..) hb⟩
 have ap:∀(a b:List Nat),a.length<=100->b.length<=100->aR .add (.str (tx a)) (.str (tx b))=.ok (.str (tx (a++b))):=fun a b h1 h2=>by
  rw [VF _ _ (by rw [wX,wX,bQ];lia),XS]
 have slP:∀ρ:List D,bT 6 ρ=.ok (.str base)->bT 7 ρ=.ok (.int at_)->mQ zH iJ (dI RB) ρ=.ok (.str (tx P)):=fun ρ g1 g2=>by
  rw [<-hP];exact XX g1 rfl (fU g2) (by lia)
 have slQ:∀ρ:List D,bT 6 ρ=.ok (.str base)->bT 7 ρ=.ok (.int at_)->mQ zH (dI RB) iJ ρ=.ok (.str (tx Q)):=fun ρ g1 g2=>by
  rw [<-hQ];exact XX g1 (fU g2) rfl (by lia)
 by_cases h1:choice % 3=1
 ·refine ⟨fun s=>List.replicate (1+s / 4) (97+((shift+((s:Int) % 4)) % 26).toNat),⟨fun s t hs ht e=>?_,fun s hs=>by rw [List.length_replicate];lia⟩,fun k s hs hk NM b hN=>?_⟩
  ·have e1:=congrArg List.length e;rw [List.length_replicate,List.length_replicate] at e1;have e2:=congrArg (fun l=>l.head?) e;simp only [Nat.add_comm 1,List.replicate_succ,List.head?_cons,Option.some.injEq] at e2;lia
  ·refine aP (sp k s NM b hk) (aA7 ((cm _ _ rfl).trans (by rw [h1];rfl)) ?_);refine vB (aL (lt _ _ _ rfl (aL (aL rfl (aL rfl rfl (cZ _ _ (by decide))) (bW _ _)) rfl (cZ _ _ (by decide))) (by lia) (by lia)) (aL rfl (aL rfl rfl (dX _ _ (by decide) (by decide))) ?_) (aB8 _ _ (by lia) (by lia))) rfl (by rw [bQ];lia) rfl;rw [bW]
   congr 2
 ·refine ⟨fun s=>P++[97+s]++Q,⟨fun s t hs ht e=>?_,fun s hs=>by simp only [List.length_append,List.length_cons,List.length_nil];lia⟩,fun k s hs hk NM b hN=>?_⟩
  ·have e1:=aFb e;simp only [List.cons.injEq,and_true] at e1;lia
  ·refine aP (sp k s NM b hk) (HJ ((cm _ _ rfl).trans (by rw [beq_eq_false_iff_ne.mpr h1])) ?_);refine (vB (aL (aL (slP _ rfl rfl) (lt _ _ s rfl rfl (by lia) (by lia)) (ap _ _ (by lia) (by simp))) (slQ _ rfl rfl) (ap _ _ (by simp only [List.length_append,List.length_singleton];lia) (by lia))) rfl (by rw [bQ];lia) rfl).trans ?_;rw [Int.toNat_natCast];rfl
theorem wY {choice turn shift cell size at_:Int} {base:Str} {nm:Nat->List Nat} (G:∀(k:Int) (s:Nat),s<26->(k*turn+shift) % 26=s->∀(NM:List D) (b:D),NM.length<100->nb (ns choice cell turn shift size base at_ NM (.int k) b)=.ok (.nx (ns choice cell turn shift size base at_ (NM++[.str (tx (nm s))]) (.int k) (.int s)))):∀(m j:Nat) (NM:List D) (a b:D),NM.length+m<100->∃a' b',zY (tg1 9) nb ((List.range' j m).map fun (k:Nat)=>D.int (0+(k:Int))) (ns choice cell turn shift size base at_ NM a b)=.ok (.nx (ns choice cell turn shift size base at_ (NM++(List.range' j m).map fun (k:Nat)=>D.str (tx (nm (((k:Int)*turn+shift) % 26).toNat))) a' b'))
 | 0,j,NM,a,b,_=>⟨a,b,by
  rw [List.range'_zero,List.map_nil,List.map_nil,List.append_nil];rfl⟩
 | m+1,j,NM,a,b,h=>by
  obtain ⟨s,hs,es⟩:=X3 ((j:Int)*turn+shift);have e1:=G (0+(j:Int)) s hs (by rw [Int.zero_add];exact es) NM b (by lia);obtain ⟨a2,b2,e2⟩:=wY G m (j+1) (NM++[.str (tx (nm s))]) (.int (0+(j:Int))) (.int s) (by rw [List.length_append,List.length_singleton];lia);refine ⟨a2,b2,?_⟩;rw [List.range'_succ,List.map_cons,List.map_cons,es,Int.toNat_natCast];refine dB rfl e1 ?_;rw [e2,List.append_assoc];rfl
theorem aBe (choice cell:Int):∃N:List Str,N.length=26/\N.Nodup/\h_ [.int choice,.int cell]=.ok (.lst (N.map D.str)):=by
 obtain ⟨turn,t1,t2⟩:=aFe (choice / 3 % 6) (by lia) (by lia)
 let shift:=choice / 18 % 26
 have hs0:0<=shift:=by show 0<=choice / 18 % 26;lia
 have hs1:shift<26:=by show choice / 18 % 26<26;lia
 let size:=cell % 8
 have hz0:0<=size:=by show 0<=cell % 8;lia
 have hz1:size<8:=by show cell % 8<8;lia
 let bcs:List Nat:=(List.range size.toNat).map fun (k:Nat)=>97+((cell / 8+(0+(k:Int))*(shift+cell / 40 % 5)) % 26).toNat
 have hbl:bcs.length<=10:=by show (List.map _ _).length<=10;rw [List.length_map,List.length_range];lia
 let at_:=cell / 9 % (size+1)
 have hbase:(tx bcs).length<=10:=by rw [wX];exact hbl
 have hts:j5 turn=true:=jJ _ (by lia) (by lia);obtain ⟨nm,M,G⟩:=aBd (choice:=choice) (turn:=turn) (shift:=shift) (cell:=cell) (size:=size) (at_:=at_) hbase hts hs0 hs1;obtain ⟨a',b',L⟩:=wY G 26 0 [] .uD .uD (by decide)
 let sp:Nat->Nat:=fun k=>(((k:Int)*turn+shift) % 26).toNat
 have spl:∀k,sp k<26:=fun k=>by show (((k:Int)*turn+shift) % 26).toNat<26;lia
 have spi:∀j k,j<26->k<26->sp j=sp k->j=k:=fun j k hj hk e=>aBc (s:=shift) t2 hj hk (by
  have e':(((j:Int)*turn+shift) % 26).toNat=(((k:Int)*turn+shift) % 26).toNat:=e;lia)
 have nod:∀g:List Nat->Str,(∀a b,g a=g b->a=b)->((List.range' 0 26).map fun k=>g (nm (sp k))).Nodup:=fun g hg=>by
  rw [List.nodup_iff_pairwise_ne,List.pairwise_map];refine List.Pairwise.imp_of_mem ?_ (List.nodup_iff_pairwise_ne.mp (List.nodup_range' (step:=1) (by decide)));intro j k hj hk hne e;rw [List.mem_range'_1] at hj hk;exact hne (spi j k (by lia) (by lia) (M.inj _ _ (spl j) (spl k) (hg _ _ e)))
 have pre:∀(R:Res Fl),bA nm8 (PX 8) (ns choice cell turn shift size (tx bcs) at_ (((List.range' 0 26).map fun k=>tx (nm (sp k))).map D.str) a' b')=R->kO [.int choice,.int cell,.uD,.uD,.uD,.uD,.uD,.uD,.uD,.uD,.uD]=R:=fun R hg=>by
  rw [aBb];refine aP (bR rfl) ?_;refine aP (vA (aL rfl (aL (aL rfl rfl (dX _ _ (by decide) (by decide))) rfl (cZ _ _ (by decide))) t1) rfl) ?_;refine aP (bR (aL (aL rfl rfl (dX _ _ (by decide) (by decide))) rfl (cZ _ _ (by decide)))) ?_;refine aP (bR (aL rfl rfl (cZ _ _ (by decide)))) ?_;refine aP (ρ':=[.int choice,.int cell,.str abc,.int turn,.int shift,.int size,.str (tx bcs),.uD,.uD,.uD,.uD]) (bR ?_) ?_
  ·have hc:=nF (it:=vQ (aC uT aV) uU) (f:=b2 getD fQ (b2 (aR .mod) (b2 (aR .add) (b2 (aR .fdiv) e_ aJf) (b2 jH dN (b2 (aR .add) gQ (b2 (aR .mod) (b2 (aR .fdiv) e_ (bC (.int 40))) YX)))) xP)) (k:=false) (ρ:=[.int choice,.int cell,.str abc,.int turn,.int shift,.int size,.uD,.uD,.uD,.uD,.uD]) (fun k:Nat=>D.int (0+(k:Int))) (fun k:Nat=>.str (one (97+((cell / 8+(0+(k:Int))*(shift+cell / 40 % 5)) % 26).toNat))) (List.range size.toNat) rfl (VB (aH rfl rfl) (by lia) (by lia)) (by rw [List.length_range];lia) (fun k _=>⟨aL rfl (aL (aL (aL rfl rfl (dX _ _ (by decide) (by decide))) (aL rfl (aL rfl (aL (aL rfl rfl (dX _ _ (by decide) (by decide))) rfl (cZ _ _ (by decide))) (bW _ _)) (mH _ _ (jJ _ (by lia) (by lia)))) (bW _ _)) rfl (cZ _ _ (by decide))) (letter _ (by lia) (by lia)),rfl⟩);have hj:=aF9 bcs (by lia);rw [List.map_map] at hj;exact aLi rfl (aH hc rfl) hj
  refine aP (bR (aL (aL rfl rfl (dX _ _ (by decide) (by decide))) (aL rfl rfl (bW _ _)) (cZ _ _ (by lia)))) ?_;refine aP (iM rfl rfl) ?_;refine aP (wK (VB (aH rfl rfl) (by decide) (by decide)) ?_) hg;rw [List.nil_append] at L;rw [List.map_map];exact L
 generalize hN0:((List.range' 0 26).map fun k=>tx (nm (sp k)))=N0 at pre;have l0:N0.length=26:=by rw [<-hN0,List.length_map];rfl
 have n0:N0.Nodup:=hN0▸nod tx fun _ _ e=>aCg e
 have tl:∀x∈N0,x.length<=100:=fun x hx=>by
  rw [<-hN0,List.mem_map] at hx;obtain ⟨k,_,rfl⟩:=hx;rw [wX];exact M.len _ (spl k)
 have cond:(bOr (bTB (b2 inX (bC (.str "copy")) GR)) (bTB (b2 inX (bC (.str "drop")) GR))) (ns choice cell turn shift size (tx bcs) at_ (N0.map D.str) a' b')=.ok (decide (("copy" : Str)∈N0)||decide (("drop" : Str)∈N0)):=yW (j8 (aL rfl rfl (in_str _ _))) (j8 (aL rfl rfl (in_str _ _)));by_cases hc:(decide (("copy" : Str)∈N0)||decide (("drop" : Str)∈N0))=true
 ·refine ⟨N0.map fun x=>x++("e" : Str),by rw [List.length_map,l0],?_,?_⟩
  ·rw [<-hN0,List.map_map];exact nod (fun a=>tx a++("e" : Str)) aLj
  ·refine call_v (pre _ (aP (aA7 (cond.trans (by rw [hc])) (iM (d:=.lst ((N0.map fun x=>x++("e" : Str)).map D.str)) ?_ (D_ _))) rfl));rw [List.map_map];exact nF D.str (fun x=>D.str (x++("e" : Str))) N0 rfl (n_ rfl) (by lia) (fun x hx=>⟨aL rfl rfl (VF _ _ (by have:=tl x hx;rw [bQ];show x.length+1<=_;lia)),rfl⟩)
 ·refine ⟨N0,l0,n0,?_⟩;exact call_v (pre _ (aP (HJ (cond.trans (by rw [Bool.eq_false_iff.mpr hc])) rfl) rfl))
def hdV (N:List Str) (r:Rw):D:=.tup [sy N r.2.1,.tup (r.2.2.map (sy N))]
def hdD (N:List Str) (F:List Rw):List (D×D):=F.map fun r=>(sy N r.1,hdV N r)
noncomputable def tr (t:Tk):Rw:=(t.1,t.2.1,t.2.2.1::t.2.2.2)
theorem yZ (N:List Str) (r:Rw):(hdV N r).pure=true:=by
 show ((sy N r.2.1).pure&&((D.tup (r.2.2.map (sy N))).pure&&true))=true;rw [D.pure,bB];rfl
theorem JF {α:Type} {N:List Str} (hN:N.length=26) (hd:N.Nodup) (nm:α->Nat) (g:α->D):∀(L:List α),(L.map nm).Nodup->(∀a∈L,nm a<26)->∀a∈L,cF (L.map fun a=>(sy N (nm a),g a)) (sy N (nm a))=some (g a)
 | [],_,_,a,ha=>by simp at ha
 | b::L,h1,h2,a,ha=>by
  rw [List.map_cons,cF,JD hN hd (h2 b (List.mem_cons_self ..)) (h2 a ha)];rw [List.map_cons,List.nodup_cons] at h1;rcases List.mem_cons.mp ha with e|e
  ·subst e;rw [decide_eq_true rfl,if_pos rfl]
  ·have:¬nm b=nm a:=fun g=>h1.1 (g▸List.mem_map_of_mem (f:=nm) e)
   rw [decide_eq_false this,if_neg (by simp)];exact JF hN hd nm g L h1.2 (fun c hc=>h2 c (List.mem_cons_of_mem _ hc)) a e
theorem nG:∀{ps:List D},(∀p∈ps,p.pure=true)->D.aG ps=true
 | [],_=>rfl
 | p::ps,h=>by rw [D.aG,h p (by simp),nG fun q hq=>h q (by simp [hq])];rfl
def mkD (N:List Str) (M:List Rw):List (D×D):=M.map fun r=>(sy N r.1,.bl true)
structure Hds (F:List Rw):Prop where
 nd:(F.map (·.1)).Nodup
 lt:∀r∈F,r.1<26/\r.2.1<26/\(∀i∈r.2.2,i<26)/\r.2.2.length<=10
 ln:F.length<=100
section
variable {N:List Str} (hN:N.length=26) (hd:N.Nodup)
include hN hd
theorem vM {α:Type} (nm:α->Nat) (g:α->D) {i:Nat} (hi:i<26) (v:D):∀(L:List α),(∀a∈L,nm a<26)->i∉L.map nm->putD (L.map fun a=>(sy N (nm a),g a)) (sy N i) v=(L.map fun a=>(sy N (nm a),g a))++[(sy N i,v)]
 | [],_,_=>rfl
 | a::L,h1,h2=>by
  rw [List.map_cons,List.mem_cons,not_or] at h2;rw [List.map_cons,putD,JD hN hd (h1 a (List.mem_cons_self ..)) hi,decide_eq_false (fun g=>h2.1 g.symm),if_neg (by simp),vM nm g hi v L (fun b hb=>h1 b (List.mem_cons_of_mem _ hb)) h2.2];rfl
omit hN hd in
theorem oO {α:Type} (nm:α->Nat) (g:α->D) (L:List α) (i:Nat):sZ (L.map fun a=>(sy N (nm a),g a)) (sy N i)=true:=by
 show (true&&(L.map fun a=>(sy N (nm a),g a)).all fun p=>isTup p.1==false)=true;rw [Bool.true_and,List.all_eq_true];intro y hy;obtain ⟨k,_,rfl⟩:=List.mem_map.mp hy;rfl
theorem M5 {pr e f g h:D} (e5:D):∀(M L:List Rw),((L++M).map (·.1)).Nodup->(∀r∈L++M,r.1<26)->L.length+M.length<=1000->∀(a b c:D),∃a' b' c',zY (tgN [2,3,4]) (aDl 1 fQ (gU (aC fB (aC gQ aV)))) (M.map (rwD N)) [pr,.dct (hdD N L),a,b,c,e5,f]=.ok (.nx [pr,.dct (hdD N (L++M)),a',b',c',e5,f])
 | [],L,_,_,_,a,b,c=>⟨a,b,c,by rw [List.append_nil];rfl⟩
 | r::M,L,h1,h2,h3,a,b,c=>by
  have hr:r.1<26:=h2 r (by simp);have hn:r.1∉L.map (·.1):=fun hm=>by
   rw [List.map_append,List.map_cons,List.nodup_append] at h1;exact h1.2.2 _ hm _ (List.mem_cons_self ..) rfl
  have e1:hdD N (L++[r])=putD (hdD N L) (sy N r.1) (hdV N r):=by
   unfold hdD;rw [vM hN hd (fun r:Rw=>r.1) (hdV N) hr _ L (fun x hx=>h2 x (by simp [hx])) hn,List.map_append];rfl
  rw [List.length_cons] at h3;obtain ⟨a',b',c',q⟩:=M5 (pr:=pr) (e:=e) (f:=f) (g:=g) (h:=h) e5 M (L++[r]) (by rw [List.append_assoc];exact h1) (by rw [List.append_assoc];exact h2) (by rw [List.length_append,List.length_singleton];lia) (sy N r.1) (sy N r.2.1) (.tup (r.2.2.map (sy N)));refine ⟨a',b',c',?_⟩;rw [List.map_cons];rw [List.append_assoc] at q;refine dB (ρ1:=[pr,.dct (hdD N L),sy N r.1,sy N r.2.1,.tup (r.2.2.map (sy N)),e5,f]) rfl (aC4 (i:=1) (kvs:=hdD N L) (k:=sy N r.1) (d:=hdV N r) (j9 (aH rfl (aH rfl rfl)) (by rw [bQ];simp)) rfl rfl (by unfold hdD;rw [List.length_map,bQ];lia) (oO ..) (yZ ..)) ?_;rw [<-e1];exact q
theorem M6 {pr:D}:∀(T:List Tk) (L:List Rw),((L++T.map tr).map (·.1)).Nodup->(∀r∈L++T.map tr,r.1<26)->L.length+T.length<=1000->(∀t∈T,t.2.2.2.length<=10)->∀(a b c d e:D),∃a' b' c' d' e',zY (tgN [2,3,5,6]) (aDl 1 fQ (gU (aC fB (aC (b2 aHi (gU (aC uT aV)) zH) aV)))) (T.map (tkD N)) [pr,.dct (hdD N L),a,b,c,d,e]=.ok (.nx [pr,.dct (hdD N (L++T.map tr)),a',b',c',d',e'])
 | [],L,_,_,_,_,a,b,c,d,e=>⟨a,b,c,d,e,by rw [show L++List.map tr []=L from List.append_nil L];rfl⟩
 | t::T,L,h1,h2,h3,h4,a,b,c,d,e=>by
  have hr:(tr t).1<26:=h2 (tr t) (by simp);have hn:(tr t).1∉L.map (·.1):=fun hm=>by
   rw [List.map_cons,List.map_append,List.map_cons,List.nodup_append] at h1;exact h1.2.2 _ hm _ (List.mem_cons_self ..) rfl
  have e1:hdD N (L++[tr t])=putD (hdD N L) (sy N (tr t).1) (hdV N (tr t)):=by
   unfold hdD;rw [vM hN hd (fun r:Rw=>r.1) (hdV N) hr _ L (fun x hx=>h2 x (List.mem_append_left _ hx)) hn,List.map_append];rfl
  rw [List.length_cons] at h3;obtain ⟨a',b',c',d',e',q⟩:=M6 (pr:=pr) T (L++[tr t]) (by rw [List.append_assoc];exact h1) (by rw [List.append_assoc];exact h2) (by rw [List.length_append,List.length_singleton];lia) (fun x hx=>h4 x (List.mem_cons_of_mem _ hx)) (sy N t.1) (sy N t.2.1) c (sy N t.2.2.1) (.tup (t.2.2.2.map (sy N)));refine ⟨a',b',c',d',e',?_⟩;rw [List.map_cons];rw [List.append_assoc] at q;have hl:=h4 t (List.mem_cons_self ..);have had:aHi (.tup [sy N t.2.2.1]) (.tup (t.2.2.2.map (sy N)))=.ok (.tup ((tr t).2.2.map (sy N))):=by
   show (if decide ([sy N t.2.2.1].length+(t.2.2.2.map (sy N)).length<=lim) then Res.ok (D.tup ([sy N t.2.2.1]++t.2.2.2.map (sy N))) else .bad)=_;rw [List.length_map,bQ,decide_eq_true (by simp;lia)];rfl
  refine dB (ρ1:=[pr,.dct (hdD N L),sy N t.1,sy N t.2.1,c,sy N t.2.2.1,.tup (t.2.2.2.map (sy N))]) rfl (aC4 (i:=1) (kvs:=hdD N L) (k:=sy N (tr t).1) (d:=hdV N (tr t)) (j9 (aH rfl (aH (aL (j9 (aH rfl rfl) (by rw [bQ];simp)) rfl had) rfl)) (by rw [bQ];simp)) rfl rfl (by unfold hdD;rw [List.length_map,bQ];lia) (oO ..) (yZ ..)) ?_;rw [<-e1];exact q
theorem aBf {M:List Rw} {T:List Tk} (F:Hds (M++T.map tr)) {P0 P3:D}:gB [.tup [P0,.tup (M.map (rwD N)),.tup (T.map (tkD N)),P3]]=.ok (.dct (hdD N (M++T.map tr))):=by
 have hl:=F.ln;rw [List.length_append,List.length_map] at hl;obtain ⟨a,b,c,q1⟩:=M5 hN hd (pr:=.tup [P0,.tup (M.map (rwD N)),.tup (T.map (tkD N)),P3]) (e:=.uD) (f:=.uD) (g:=.uD) (h:=.uD) .uD M [] (by have:=F.nd;rw [List.map_append,List.nodup_append] at this;exact this.1) (fun r hr=>(F.lt r (List.mem_append_left _ hr)).1) (by simp;lia) .uD .uD .uD;obtain ⟨a2,b2',c2,d2,e2,q2⟩:=M6 hN hd (pr:=.tup [P0,.tup (M.map (rwD N)),.tup (T.map (tkD N)),P3]) T M F.nd (fun r hr=>(F.lt r hr).1) (by lia) (fun t ht=>by have:=(F.lt (tr t) (List.mem_append_right _ (List.mem_map_of_mem ht))).2.2.2;have e:(tr t).2.2.length=t.2.2.2.length+1:=rfl;lia) a b c .uD .uD;refine call_v ?_;refine aP (ρ':=[.tup [P0,.tup (M.map (rwD N)),.tup (T.map (tkD N)),P3],.dct [],.uD,.uD,.uD,.uD,.uD]) (iM (i:=1) rfl rfl) ?_;refine aP (wK ((lK (aL rfl rfl rfl)).trans (by rw [b_ (vL N)];rfl)) q1) ?_;exact aP (wK ((lK (aL rfl rfl rfl)).trans (by rw [b_ (mJ N)];rfl)) q2) rfl
theorem aCj {F:List Rw} (hF:Hds F) {r:Rw} (hr:r∈F):getD (.dct (hdD N F)) (sy N r.1)=.ok (hdV N r):=by
 show (if true then Res.ofOpt (cF (hdD N F) (sy N r.1)) else .bad)=_;unfold hdD;rw [if_pos rfl,JF hN hd (fun r:Rw=>r.1) (hdV N) F hF.nd (fun a ha=>(hF.lt a ha).1) r hr];rfl
omit hN hd in
omit hN hd in
theorem aFf {ρ:List D} {i:Nat} {r:Rw} (h:bT i ρ=.ok (rwD N r)):b2 getD (bT i) fZ ρ=.ok (sy N r.1)/\b2 getD (bT i) dO ρ=.ok (sy N r.2.1)/\b2 getD (bT i) jV ρ=.ok (.tup (r.2.2.map (sy N))):=⟨aL h rfl rfl,aL h rfl rfl,aL h rfl rfl⟩
end
def mkE:FE:=(b1 K8 (jQ 3 (cO (b2 getD e_ dO) false) GX j7 (gU (aC (b2 getD fB fZ) (aC (bC (.bl true)) aV))) false))
def ruE:FE:=(b1 yF (jQ 3 (cO (b2 getD e_ jW) false) GX j7 (gU (aC (gU (aC (b2 getD fB fZ) (aC (b2 getD fB dO) aV))) (aC fB aV))) false))
theorem aLk:d7=([("heads",.exp (aX (oF 1 gB) (aC e_ aV))),("makers",.exp mkE),("rules",.exp ruE),("most",.par 2),("calls",.exp fZ),("copies",.exp fZ),("drops",.exp fZ)]:List (Str×Srx)):=rfl
theorem M7 {N:List Str}:∀M:List Rw,vD (M.map fun r=>D.tup [sy N r.1,.bl true])=some (mkD N M)
 | []=>rfl
 | r::M=>by
  show (if eY (sy N r.1)&&(D.bl true).pure then (vD (M.map fun r=>D.tup [sy N r.1,.bl true])).map ((sy N r.1,D.bl true)::·) else none)=_;rw [M7 M];rfl
section
variable {N:List Str} (hN:N.length=26) (hd:N.Nodup)
include hN hd
theorem M8:∀(M L:List Rw),((L++M).map (·.1)).Nodup->(∀r∈L++M,r.1<26)->jA (mkD N L) (mkD N M)=mkD N (L++M)
 | [],L,_,_=>by rw [List.append_nil];rfl
 | r::M,L,h1,h2=>by
  show jA (putD (mkD N L) (sy N r.1) (.bl true)) (mkD N M)=_;have hnot:r.1∉L.map (·.1):=fun z=>by
   rw [List.map_append,List.nodup_append] at h1;exact h1.2.2 r.1 z r.1 (by simp) rfl
  have e:=vM hN hd (fun a:Rw=>a.1) (fun _=>D.bl true) (i:=r.1) (h2 r (by simp)) (.bl true) L (fun a ha=>h2 a (by simp [ha])) hnot;have e':putD (mkD N L) (sy N r.1) (.bl true)=mkD N (L++[r]):=by
   show putD (L.map fun a=>(sy N a.1,D.bl true)) (sy N r.1) (.bl true)=_;rw [e];unfold mkD;rw [List.map_append];rfl
  rw [e',M8 M (L++[r]) (by simpa using h1) (by simpa using h2)];simp
theorem aIn {M:List Rw} (hM:Hds M) {P0 P2 P3 mo:D}:mkE [.uD,.tup [P0,.tup (M.map (rwD N)),P2,P3],mo]=.ok (.dct (mkD N M)):=by
 have hl:=hM.ln;refine Q8 (nF (n:=3) (rwD N) (fun r:Rw=>D.tup [sy N r.1,.bl true]) M rfl (lK (aL rfl rfl rfl)) (by lia) fun r hr=>⟨j9 (aH (aFf (i:=3) (r:=r) rfl).1 (aH rfl rfl)) (by rw [bQ];simp),rfl⟩) ?_;show (match vD (M.map fun r:Rw=>D.tup [sy N r.1,.bl true]) with|some ps=>if decide ((M.map fun r:Rw=>D.tup [sy N r.1,.bl true]).length<=1000) then Res.ok (D.dct (jA [] ps)) else .bad|none=>.bad)=_;rw [M7];dsimp only;rw [if_pos (by rw [List.length_map];exact decide_eq_true (by lia))];have:=M8 hN hd M [] hM.nd fun r hr=>(hM.lt r hr).1
 rw [List.nil_append] at this;exact congrArg (fun z=>Res.ok (D.dct z)) this
end
noncomputable abbrev Ru:=Nat×Nat×List Nat×List Nat
def ruD (N:List Str) (r:Ru):D:=.tup [sy N r.1,sy N r.2.1,.tup (r.2.2.1.map (sy N)),.tup (r.2.2.2.map (sy N))]
def rlD (N:List Str) (R:List Ru):List (D×D):=R.map fun r=>(.tup [sy N r.1,sy N r.2.1],ruD N r)
theorem lE (N:List Str) (r:Ru):(ruD N r).pure=true:=by
 show ((sy N r.1).pure&&((sy N r.2.1).pure&&((D.tup (r.2.2.1.map (sy N))).pure&&((D.tup (r.2.2.2.map (sy N))).pure&&true))))=true;rw [D.pure,D.pure,bB,bB];rfl
structure Rls (R:List Ru):Prop where
 nd:(R.map fun r=>(r.1,r.2.1)).Nodup
 lt:∀r∈R,r.1<26/\r.2.1<26
 ln:R.length<=100
theorem M9 {N:List Str}:∀R:List Ru,vH (R.map fun r=>D.tup [.tup [sy N r.1,sy N r.2.1],ruD N r])=some (rlD N R)
 | []=>rfl
 | r::R=>by
  show (if [sy N r.1,sy N r.2.1].all eY&&(ruD N r).pure then (vH (R.map fun r=>D.tup [.tup [sy N r.1,sy N r.2.1],ruD N r])).map ((D.tup [sy N r.1,sy N r.2.1],ruD N r)::·) else none)=_;rw [M9 R,lE];rfl
section
variable {N:List Str} (hN:N.length=26) (hd:N.Nodup)
include hN hd
theorem X5 {a b c d:Nat} (ha:a<26) (hb:b<26) (hc:c<26) (he:d<26):eqD (.tup [sy N a,sy N b]) (.tup [sy N c,sy N d])=decide ((a,b)=(c,d)):=by
 show (eqD (sy N a) (sy N c)&&(eqD (sy N b) (sy N d)&&true))=_;rw [JD hN hd ha hc,JD hN hd hb he,Bool.and_true];by_cases h:a=c <;> by_cases h2:b=d <;> simp [h,h2]
theorem aCk {i j:Nat} (hi:i<26) (hj:j<26) (v:D):∀(L:List Ru),(∀r∈L,r.1<26/\r.2.1<26)->(i,j)∉(L.map fun r=>(r.1,r.2.1))->putD (rlD N L) (.tup [sy N i,sy N j]) v=rlD N L++[(.tup [sy N i,sy N j],v)]
 | [],_,_=>rfl
 | a::L,h1,h2=>by
  rw [List.map_cons,List.mem_cons,not_or] at h2;have ha:=h1 a (List.mem_cons_self ..);show (if eqD (.tup [sy N a.1,sy N a.2.1]) (.tup [sy N i,sy N j]) then _ else (D.tup [sy N a.1,sy N a.2.1],ruD N a)::putD (rlD N L) (.tup [sy N i,sy N j]) v)=_;rw [X5 hN hd ha.1 ha.2 hi hj,decide_eq_false (fun g=>h2.1 g.symm),if_neg (by simp),aCk hi hj v L (fun b hb=>h1 b (List.mem_cons_of_mem _ hb)) h2.2];rfl
theorem M_:∀(R L:List Ru),((L++R).map fun r=>(r.1,r.2.1)).Nodup->(∀r∈L++R,r.1<26/\r.2.1<26)->jA (rlD N L) (rlD N R)=rlD N (L++R)
 | [],L,_,_=>by rw [List.append_nil];rfl
 | r::R,L,h1,h2=>by
  show jA (putD (rlD N L) (.tup [sy N r.1,sy N r.2.1]) (ruD N r)) (rlD N R)=_;have hnot:(r.1,r.2.1)∉(L.map fun r=>(r.1,r.2.1)):=fun z=>by
   rw [List.map_append,List.nodup_append] at h1;exact h1.2.2 (r.1,r.2.1) z (r.1,r.2.1) (by simp) rfl
  have hr:=h2 r (by simp);have e':putD (rlD N L) (.tup [sy N r.1,sy N r.2.1]) (ruD N r)=rlD N (L++[r]):=by
   rw [aCk hN hd hr.1 hr.2 _ L (fun b hb=>h2 b (by simp [hb])) hnot];unfold rlD;rw [List.map_append];rfl
  rw [e',M_ R (L++[r]) (by simpa using h1) (by simpa using h2)];simp
theorem X6:∀(R:List Ru),(R.map fun r=>(r.1,r.2.1)).Nodup->(∀r∈R,r.1<26/\r.2.1<26)->∀r∈R,cF (rlD N R) (.tup [sy N r.1,sy N r.2.1])=some (ruD N r)
 | [],_,_,r,hr=>by simp at hr
 | b::L,h1,h2,a,ha=>by
  have hb:=h2 b (List.mem_cons_self ..);have hA:=h2 a ha;show (if eqD (.tup [sy N b.1,sy N b.2.1]) (.tup [sy N a.1,sy N a.2.1]) then some (ruD N b) else cF (rlD N L) (.tup [sy N a.1,sy N a.2.1]))=_;rw [X5 hN hd hb.1 hb.2 hA.1 hA.2];rw [List.map_cons,List.nodup_cons] at h1;rcases List.mem_cons.mp ha with e|e
  ·subst e;rw [decide_eq_true rfl,if_pos rfl]
  ·have:¬(b.1,b.2.1)=(a.1,a.2.1):=fun g=>h1.1 (g▸List.mem_map_of_mem (f:=fun r:Ru=>(r.1,r.2.1)) e)
   rw [decide_eq_false this,if_neg (by simp),X6 L h1.2 (fun r hr=>h2 r (List.mem_cons_of_mem _ hr)) a e]
theorem aIo {R:List Ru} (hR:Rls R) {r:Ru} (hr:r∈R):getD (.dct (rlD N R)) (.tup [sy N r.1,sy N r.2.1])=.ok (ruD N r):=by
 show (if keyOk (.tup [sy N r.1,sy N r.2.1])=true then Res.ofOpt (cF (rlD N R) (.tup [sy N r.1,sy N r.2.1])) else .bad)=_;rw [if_pos (by rfl),X6 hN hd R hR.nd hR.lt r hr];rfl
theorem aIp {R:List Ru} (hR:Rls R) {P0 P1 P2 mo:D}:ruE [.uD,.tup [P0,P1,P2,.tup (R.map (ruD N))],mo]=.ok (.dct (rlD N R)):=by
 have hl:=hR.ln;refine Q8 (nF (n:=3) (ruD N) (fun r:Ru=>D.tup [.tup [sy N r.1,sy N r.2.1],ruD N r]) R rfl (lK (aL rfl rfl rfl)) (by lia) fun r hr=>⟨j9 (aH (j9 (aH (aL rfl rfl rfl) (aH (aL rfl rfl rfl) rfl)) (by rw [bQ];simp)) (aH rfl rfl)) (by rw [bQ];simp),?_⟩) ?_
 ·show (false||((D.tup [sy N r.1,sy N r.2.1]).pure&&((ruD N r).pure&&true)))=true;rw [lE];rfl
 ·show (match vH (R.map fun r:Ru=>D.tup [.tup [sy N r.1,sy N r.2.1],ruD N r]) with|some ps=>if decide ((R.map fun r:Ru=>D.tup [.tup [sy N r.1,sy N r.2.1],ruD N r]).length<=1000) then Res.ok (D.dct (jA [] ps)) else .bad|none=>.bad)=_;rw [M9];dsimp only;rw [if_pos (by rw [List.length_map];exact decide_eq_true (by lia))];have:=M_ hN hd R [] hR.nd hR.lt;rw [List.nil_append] at this;exact congrArg (fun z=>Res.ok (D.dct z)) this
theorem y_ (F:List Rw):D.aG ((hdD N F).map (·.2))=true:=nG fun p hp=>by
 unfold hdD at hp;rw [List.map_map] at hp;obtain ⟨r,_,rfl⟩:=List.mem_map.mp hp;exact yZ N r
theorem zA (M:List Rw):D.aG ((mkD N M).map (·.2))=true:=nG fun p hp=>by
 unfold mkD at hp;rw [List.map_map] at hp;obtain ⟨r,_,rfl⟩:=List.mem_map.mp hp;rfl
theorem zB (R:List Ru):D.aG ((rlD N R).map (·.2))=true:=nG fun p hp=>by
 unfold rlD at hp;rw [List.map_map] at hp;obtain ⟨r,_,rfl⟩:=List.mem_map.mp hp;exact lE N r
def aBg (N:List Str) (ks:List Nat) (M:List Rw) (T:List Tk) (R:List Ru):D:=.tup [.tup (ks.map (sy N)),.tup (M.map (rwD N)),.tup (T.map (tkD N)),.tup (R.map (ruD N))]
theorem X7 {ks:List Nat} {M:List Rw} {T:List Tk} {R:List Ru} (hF:Hds (M++T.map tr)) (hM:Hds M) (hR:Rls R) {b:Int}:evS [.uD,aBg N ks M T R,.int b] d7=.ok (prF (hdD N (M++T.map tr)) (mkD N M) (rlD N R) b ⟨0,0,0⟩):=by
 have h3:=aIp hN hd hR (P0:=.tup (ks.map (sy N))) (P1:=.tup (M.map (rwD N))) (P2:=.tup (T.map (tkD N))) (mo:=.int b);have h1:aX (oF 1 gB) (aC e_ aV) [.uD,aBg N ks M T R,.int b]=.ok (.dct (hdD N (M++T.map tr))):=bG (aH rfl rfl) ((eZ rfl).trans (aBf hN hd hF));have h2:=aIn hN hd hM (P0:=.tup (ks.map (sy N))) (P2:=.tup (T.map (tkD N))) (P3:=.tup (R.map (ruD N))) (mo:=.int b);have k:∀kn:List (D×D),D.aG (kn.map (·.2))=true->okF (.dct kn)=true:=fun kn h=>by
  show (false||D.aG (kn.map (·.2)))=true;rw [h];rfl
 rw [aLk];have step:∀{ρ:List D} {f:Str} {s:Srx} {r:List (Str×Srx)} {d:D} {ds:List (Str×D)},s.ev ρ=.ok d->okF d=true->evS ρ r=.ok ds->evS ρ ((f,s)::r)=.ok ((f,d)::ds):=by
  intro ρ f s r d ds g1 g2 g3;show (do let d <- s.ev ρ;let ds <- evS ρ r;if okF d then Res.ok ((f,d)::ds) else .bad)=_;rw [g1,Res.aU,g3,Res.aU,if_pos g2]
 exact step h1 (k _ (y_ hN hd _)) (step h2 (k _ (zA hN hd _)) (step h3 (k _ (zB hN hd _)) (step rfl rfl (step rfl rfl (step rfl rfl (step rfl rfl rfl))))))
theorem aBh {ks:List Nat} {M:List Rw} {T:List Tk} {R:List Ru} (hF:Hds (M++T.map tr)) (hM:Hds M) (hR:Rls R) {b:Int} {W:List Nat} {y d:D} {k:Cn} (hv:RK (hdD N (M++T.map tr)) (mkD N M) (rlD N R) b (W.map (sy N))=.ok (y,k)) (hw:gC [y]=.ok d) (pd:d.pure=true):cW [aBg N ks M T R,.tup (W.map (sy N)),.int b]=.ok (.tup [d,.int k.c,.int k.p,.int k.d]):=by
 have pp:(aBg N ks M T R).pure=true:=by
  show ((D.tup (ks.map (sy N))).pure&&((D.tup (M.map (rwD N))).pure&&((D.tup (T.map (tkD N))).pure&&((D.tup (R.map (ruD N))).pure&&true))))=true;rw [D.pure,D.pure,D.pure,D.pure,bB,b_ (vL N),b_ (mJ N),b_ (lE N)];rfl
 unfold cW aG4;dsimp only;rw [if_pos (by rw [bB,pp];rfl),X7 hN hd hF hM hR];show (if (D.aG ((hdD N (M++T.map tr)).map (·.2))&&(D.aG ((mkD N M).map (·.2))&&D.aG ((rlD N R).map (·.2))))=true then _ else _)=_;rw [if_pos (by rw [y_ hN hd,zA hN hd,zB hN hd];rfl),hv];dsimp only;rw [hw];dsimp only;rw [if_pos pd]
theorem X8 {ks:List Nat} {M:List Rw} {T:List Tk} {R:List Ru} (hF:Hds (M++T.map tr)) (hM:Hds M) (hR:Rls R) {b:Int} {W:List Nat} {c:Str} {as:List D} (hv:RK (hdD N (M++T.map tr)) (mkD N M) (rlD N R) b (W.map (sy N))=.err c as):cW [aBg N ks M T R,.tup (W.map (sy N)),.int b]=.err c as:=by
 have pp:(aBg N ks M T R).pure=true:=by
  show ((D.tup (ks.map (sy N))).pure&&((D.tup (M.map (rwD N))).pure&&((D.tup (T.map (tkD N))).pure&&((D.tup (R.map (ruD N))).pure&&true))))=true;rw [D.pure,D.pure,D.pure,D.pure,bB,b_ (vL N),b_ (mJ N),b_ (lE N)];rfl
 unfold cW aG4;dsimp only;rw [if_pos (by rw [bB,pp];rfl),X7 hN hd hF hM hR];show (if (D.aG ((hdD N (M++T.map tr)).map (·.2))&&(D.aG ((mkD N M).map (·.2))&&D.aG ((rlD N R).map (·.2))))=true then _ else _)=_;rw [if_pos (by rw [y_ hN hd,zA hN hd,zB hN hd];rfl),hv]
end
noncomputable abbrev spn:Res (List D×Cn):=.err "Spent" [.exc "Spent" []]
noncomputable abbrev tot (k:Cn):Int:=k.c+k.p+k.d
def Go (hd mk rl:List (D×D)) (m:Int) (fs:List Fr) (st:List D) (c:Cn) (fs':List Fr) (st':List D) (c':Cn):Prop:=
 tot c<=m->(tot c'<=m->∃j,∀n,Mi.runN hd mk rl m (n+j) fs st c=Mi.runN hd mk rl m n fs' st' c')/\(m<tot c'->∃j,∀n,Mi.runN hd mk rl m (n+j) fs st c=spn)
section
variable {hd mk rl:List (D×D)} {m:Int} {c c' c'':Cn} {fs fs' fs'' r:List Fr} {st st' st'' ws ws':List D} {w:D} {kn kn':List (D×D)} {i:Nat}
theorem Go.trans (h1:Go hd mk rl m fs st c fs' st' c') (h2:Go hd mk rl m fs' st' c' fs'' st'' c'') (le:tot c'<=tot c''):Go hd mk rl m fs st c fs'' st'' c'':=fun hc=>by
 refine ⟨fun h=>?_,fun h=>?_⟩
 ·obtain ⟨j1,e1⟩:=(h1 hc).1 (by lia);obtain ⟨j2,e2⟩:=(h2 (by lia)).1 h;exact ⟨j2+j1,fun n=>by rw [<-Nat.add_assoc,e1,e2]⟩
 ·by_cases h':tot c'<=m
  ·obtain ⟨j1,e1⟩:=(h1 hc).1 h';obtain ⟨j2,e2⟩:=(h2 h').2 h;exact ⟨j2+j1,fun n=>by rw [<-Nat.add_assoc,e1,e2]⟩
  ·exact (h1 hc).2 (by lia)
theorem vN:Go hd mk rl m (⟨ws,0,kn⟩::r) st c r st c:=fun hc=>⟨fun _=>⟨1,fun n=>rfl⟩,fun h=>by lia⟩
theorem aFg (hw:ws[i]?=some w) (h:MK hd mk rl m c kn st w=.ok (st',none,c)) (hs:D.aG st'=true) (hr:r.length<900000):Go hd mk rl m (⟨ws,i+1,kn⟩::r) st c (⟨ws,i,kn⟩::r) st' c:=fun hc=>by
 refine ⟨fun _=>⟨1,fun n=>?_⟩,fun h=>by lia⟩;rw [Mi.runN,hw];dsimp only;rw [if_pos (decide_eq_true hr),h];dsimp only;rw [if_pos hs]
theorem X_ (hw:ws[i]?=some w) (h:MK hd mk rl m c kn st w=if tot c' > m then .err "Spent" [.exc "Spent" []] else .ok (st',some (ws',kn'),c')) (hs:D.aG st'=true) (hr:r.length<900000):Go hd mk rl m (⟨ws,i+1,kn⟩::r) st c (⟨ws',ws'.length,kn'⟩::⟨ws,i,kn⟩::r) st' c':=fun hc=>by
 refine ⟨fun h'=>⟨1,fun n=>?_⟩,fun h'=>⟨1,fun n=>?_⟩⟩
 ·rw [Mi.runN,hw];dsimp only;rw [if_pos (decide_eq_true hr),h,if_neg (by lia)];dsimp only;rw [if_pos hs]
 ·rw [Mi.runN,hw];dsimp only;rw [if_pos (decide_eq_true hr),h,if_pos (by lia)]
end
noncomputable def M0:List Rw:=[(1,0,[]),(2,0,[0]),(3,0,[0,0])]
noncomputable def T0:List Tk:=[(4,0,0,[0]),(5,0,0,[0]),(6,0,0,[0,0])]
noncomputable def Y8 (r n:Nat):List Nat:=(List.range n).map fun j=>13+(r+j*(1+r % 4)) % 5
noncomputable abbrev Gl:=Nat×Nat×Nat×List Nat
noncomputable def gl:List Gl:=[(4,1,1,[100]),(4,2,2,[2,4,100,101]),(4,3,3,[102]),(5,1,1,[1]),(5,2,2,[4,101,5,100,101]),(5,3,3,[1]),(6,1,2,[1]),(6,3,4,[1]),(6,2,3,[4,101,4,102,4,101,4,102,4,101,6,100,101,102])]
noncomputable def wof (o:List Nat) (x:Nat):Nat:=if x<100 then x else o.getD (x-100) 0
def mkR (r:Nat) (g:Gl):Ru:=(g.1,g.2.1,Y8 r g.2.2.1,g.2.2.2.map (wof (Y8 r g.2.2.1)))
def R0:List Ru:=(List.range 9).map fun r=>mkR r (gl.getD r (0,0,0,[]))
theorem zE:R0=[(4,1,[13],[13]),(4,2,[14,16],[2,4,14,16]),(4,3,[15,13,16],[16]),(5,1,[16],[1]),(5,2,[17,13],[4,13,5,17,13]),(5,3,[13,15,17],[1]),(6,1,[14,17],[1]),(6,3,[15,14,13,17],[1]),(6,2,[16,17,13],[4,17,4,13,4,17,4,13,4,17,6,16,17,13])]:=by decide
def oV (N:List Str):Nat->D
 | 0=>.tup [sy N 1,.tup [],.int 1]
 | n+1=>.tup [sy N 2,.tup [oV N n],.int ((n:Int)+2)]
theorem aFh (N:List Str) (n:Nat):∃a b,oV N n=.tup [a,b,.int ((n:Int)+1)]:=by
 cases n with
 | zero=>exact ⟨_,_,rfl⟩
 | succ n=>exact ⟨sy N 2,.tup [oV N n],by rw [oV,show ((n+1:Nat):Int)+1=(n:Int)+2 from by lia]⟩
theorem eN (N:List Str):∀n,(oV N n).pure=true
 | 0=>rfl
 | n+1=>by
  show ((sy N 2).pure&&(((oV N n).pure&&true)&&true))=true;rw [eN N n];rfl
theorem cA {x:D} {xs:List D} (h1:x.pure=true) (h2:D.aG xs=true):D.aG (x::xs)=true:=by rw [D.aG,h1,h2];rfl
theorem aLl {N:List Str} {n:Nat} (hn:n<=900) {r:List D} {z:Int} (h:aAx r=some z):aAx (oV N n::r)=some ((n:Int)+1+z):=by
 obtain ⟨a,b,e⟩:=aFh N n;rw [e];show (if (decide (-Y7<=(n:Int)+1)&&decide ((n:Int)+1<=Y7))=true then (aAx r).map ((n:Int)+1+·) else none)=_;rw [if_pos (by rw [decide_eq_true (show -Y7<=(n:Int)+1 by show (-1000:Int)<=_;lia),decide_eq_true (show (n:Int)+1<=Y7 by show _<=(1000:Int);lia)];rfl),h];rfl
structure Tab (M:List Rw) (T:List Tk) (R:List Ru):Prop where
 m:∀r,r∈M↔r∈M0
 t:∀r,r∈T↔r∈T0
 r:∀r,r∈R0->r∈R
 hM:Hds M
 hF:Hds (M++T.map tr)
 hR:Rls R
abbrev kn (N:List Str) (L:List (Nat×Nat)):List (D×D):=L.map fun p=>(sy N p.1,oV N p.2)
noncomputable def mL (ws:List Nat):List (Nat×Nat)->Cn->Cn
 | [],k=>k
 | (i,n)::L,k=>mL ws L (k.use (ws.count i) ((n:Int)+1))
section
variable {N:List Str} (hN:N.length=26) (hd:N.Nodup)
include hN hd
theorem aCl {i:Nat} (hi:i<26):∀L:List Nat,(∀j∈L,j<26)->WR (N.getD i "") (L.map (sy N))=some (L.count i)
 | [],_=>rfl
 | j::L,h=>by
  show (WR (N.getD i "") (L.map (sy N))).map (fun n=>if (N.getD j "")==(N.getD i "") then n+1 else n)=_;have e:((N.getD j "")==(N.getD i ""))=decide (j=i):=JD hN hd (h j (by simp)) hi;rw [aCl hi L fun k hk=>h k (by simp [hk]),e,List.count_cons];by_cases hji:j=i
  ·rw [decide_eq_true hji,if_pos (by simpa using hji)];rfl
  ·rw [decide_eq_false hji,if_neg (by simpa using hji)];rfl
theorem YB {ws:List Nat} (hws:∀j∈ws,j<26) (hl:ws.length<=1000):∀(L:List (Nat×Nat)),(∀p∈L,p.1<26)->∀k:Cn,mD (ws.map (sy N)) (kn N L) k=some (mL ws L k)
 | [],_,k=>rfl
 | (i,n)::L,h,k=>by
  obtain ⟨a,b,e⟩:=aFh N n;have hc:=List.count_le_length (a:=i) (l:=ws);show mD (ws.map (sy N)) ((sy N i,oV N n)::kn N L) k=_;rw [e];show (match WR (N.getD i "") (ws.map (sy N)) with|some n'=>if decide (n'<1000000) then mD (ws.map (sy N)) (kn N L) (Cn.use k n' ((n:Int)+1)) else none|none=>none)=_;rw [aCl hN hd (h (i,n) (by simp)) ws hws];dsimp only;rw [if_pos (decide_eq_true (by lia)),YB hws hl L fun p hp=>h p (by simp [hp])];rfl
theorem zF {i:Nat} (hi:i<26):∀(L:List (Nat×Nat)),(∀p∈L,p.1<26)->cF (kn N L) (sy N i)=(L.lookup i).map (oV N)
 | [],_=>rfl
 | (j,n)::L,h=>by
  show (if eqD (sy N j) (sy N i) then some (oV N n) else cF (kn N L) (sy N i))=_;rw [JD hN hd (h (j,n) (by simp)) hi,zF hi L fun p hp=>h p (by simp [hp]),List.lookup_cons];by_cases e:j=i
  ·rw [decide_eq_true e,if_pos rfl,show (i==j)=true from by simpa using e.symm];rfl
  ·rw [decide_eq_false e,if_neg (by simp),show (i==j)=false from by simpa using fun z=>e z.symm]
theorem YC:∀(L A:List (Nat×Nat)),((A++L).map (·.1)).Nodup->(∀p∈A++L,p.1<26)->kE (L.map fun p=>sy N p.1) (L.map fun p=>oV N p.2) (kn N A)=kn N (A++L)
 | [],A,_,_=>by rw [List.append_nil];rfl
 | (i,n)::L,A,h1,h2=>by
  have hp:=vM hN hd (fun p:Nat×Nat=>p.1) (fun p=>oV N p.2) (h2 (i,n) (by simp)) (oV N n) A (fun p hp=>h2 p (by simp [hp])) (by
   rw [List.map_append,List.map_cons,List.nodup_append] at h1;intro hz;exact h1.2.2 i hz i (by simp) rfl)
  show kE (L.map fun p=>sy N p.1) (L.map fun p=>oV N p.2) (putD (kn N A) (sy N i) (oV N n))=_;rw [show putD (kn N A) (sy N i) (oV N n)=kn N (A++[(i,n)]) from by rw [show kn N (A++[(i,n)])=kn N A++[(sy N i,oV N n)] from by simp [kn]];exact hp];rw [YC L (A++[(i,n)]) (by rw [List.append_assoc];exact h1) (by rw [List.append_assoc];exact h2),List.append_assoc];rfl
variable {M:List Rw} {T:List Tk} {R:List Ru} (B:Tab M T R) {m:Int} {st:List D} {L:List (Nat×Nat)}
include B
theorem aIq {r:Rw} (hr:r∈M0) {ps:List D} {z:Int} {k:Cn} (hp:ps.length=r.2.2.length) (hz:aAx ps=some z) (lL:∀p∈L,p.1<26) (lk:L.lookup r.1=none) (hl:(ps++st).length<=1000):MK (hdD N (M++T.map tr)) (mkD N M) (rlD N R) m k (kn N L) (ps++st) (sy N r.1)=.ok (.tup [sy N r.1,.tup ps,.int (1+z)]::st,none,k):=by
 have hrM:=(B.m r).mpr hr;have hlt:=B.hM.lt r hrM;have hg:=aCj hN hd B.hF (List.mem_append_left _ hrM);have hn:tkN (hdD N (M++T.map tr)) (sy N r.1)=some r.2.2.length:=by
  unfold tkN;rw [hg];show (if (D.aG (r.2.2.map (sy N))&&decide ((r.2.2.map (sy N)).length<=1000))=true then some (r.2.2.map (sy N)).length else none)=_;have:=hlt.2.2.2;rw [bB,List.length_map,if_pos (by rw [decide_eq_true (by lia)];rfl)]
 have fm:sZ (mkD N M) (sy N r.1)=true:=oO (fun r:Rw=>r.1) (fun _=>D.bl true) M r.1;have fk:sZ (kn N L) (sy N r.1)=true:=oO (fun p:Nat×Nat=>p.1) (fun p=>oV N p.2) L r.1;have hk:=zF hN hd hlt.1 L lL;rw [lk] at hk;have hm:(cF (mkD N M) (sy N r.1)).isSome=true:=by
  have:=JF hN hd (fun r:Rw=>r.1) (fun _=>D.bl true) M B.hM.nd (fun r hr=>(B.hM.lt r hr).1) r hrM;show (cF (M.map fun r:Rw=>(sy N r.1,D.bl true)) (sy N r.1)).isSome=true;rw [this];rfl
 unfold MK;rw [if_pos (by rw [fk,fm,decide_eq_true (by lia)];rfl),hk];dsimp only [Option.map];rw [hn];dsimp only;rw [if_pos (by rw [List.length_append];lia),if_pos hm,<-hp,List.take_left,List.drop_left,hz]
theorem aLm {i:Nat} (hi:i<26) (h4:4<=i):cF (mkD N M) (sy N i)=none:=by
 have go:∀L:List Rw,(∀r∈L,r.1<4)->cF (mkD N L) (sy N i)=none:=by
  intro L;induction L with
  | nil=>intro _;rfl
  | cons r L ih=>
   intro h;have hr:=h r (by simp);show (if eqD (sy N r.1) (sy N i) then _ else cF (mkD N L) (sy N i))=_;rw [JD hN hd (by lia) hi,decide_eq_false (by lia),if_neg (by simp),ih fun q hq=>h q (by simp [hq])]
 refine go _ fun r hr=>?_
 have h0:∀r∈M0,r.1<4:=by decide
 exact h0 r ((B.m r).mp hr)
theorem YD {k:Cn} {t:Tk} (ht:t∈T0) {mk:Nat} {ws:List Nat} {xs more:List D} {z:D} {A:List (Nat×Nat)} (hr:(t.1,mk,A.map (·.1),ws)∈R0) (hv:xs++more=A.map fun p=>oV N p.2) (hml:more.length=t.2.2.2.length) (hA:(A.map (·.1)).Nodup/\(∀p∈A,p.1<26)/\A.length<=10) (hws:(∀j∈ws,j<26)/\ws.length<=1000) (lL:∀p∈L,p.1<26) (lk:L.lookup t.1=none) (hl:st.length<=900) :
  MK (hdD N (M++T.map tr)) (mkD N M) (rlD N R) m k (kn N L) (.tup [sy N mk,.tup xs,z]::(more++st)) (sy N t.1)=if tot (mL ws A k.call) > m then .err "Spent" [.exc "Spent" []] else .ok (st,some (ws.map (sy N),kn N A),mL ws A k.call):=by
 have hlt0:∀t∈T0,4<=t.1/\t.1<26/\t.2.2.2.length<=2:=by decide
 obtain ⟨h4,h26,h2⟩:=hlt0 t ht;have hg:=aCj hN hd B.hF (List.mem_append_right _ (List.mem_map.mpr ⟨t,(B.t t).mpr ht,rfl⟩));have hn:tkN (hdD N (M++T.map tr)) (sy N t.1)=some (t.2.2.2.length+1):=by
  unfold tkN;rw [show getD (.dct (hdD N (M++T.map tr))) (sy N t.1)=_ from hg];show (if (D.aG ((t.2.2.1::t.2.2.2).map (sy N))&&decide (((t.2.2.1::t.2.2.2).map (sy N)).length<=1000))=true then some ((t.2.2.1::t.2.2.2).map (sy N)).length else none)=_;rw [bB,List.length_map,List.length_cons,if_pos (by rw [decide_eq_true (by lia)];rfl)]
 have fm:sZ (mkD N M) (sy N t.1)=true:=oO (fun r:Rw=>r.1) (fun _=>D.bl true) M t.1;have fk:sZ (kn N L) (sy N t.1)=true:=oO (fun p:Nat×Nat=>p.1) (fun p=>oV N p.2) L t.1;have hk:=zF hN hd h26 L lL;rw [lk] at hk;have hru:=aIo hN hd B.hR (B.r _ hr);have hlen:xs.length+more.length=A.length:=by rw [<-List.length_append,hv,List.length_map]
 have pv:D.aG (xs++more)=true:=by rw [hv];exact b_ (f:=fun p:Nat×Nat=>oV N p.2) (fun p=>eN N p.2) _
 have px:D.aG xs=true/\D.aG more=true:=by
  have go:∀a:List D,D.aG (a++more)=true->D.aG a=true/\D.aG more=true:=by
   intro a;induction a with
   | nil=>exact fun h=>⟨rfl,h⟩
   | cons x a ih=>
    intro h;rw [List.cons_append,D.aG,Bool.and_eq_true] at h;obtain ⟨g1,g2⟩:=ih h.2;exact ⟨cA h.1 g1,g2⟩
  exact go xs pv
 have hz:jK [.tup ((A.map (·.1)).map (sy N)),.lst (xs++more)]=.ok (.dct (kn N A)):=by
  have fl:((A.map (·.1)).map (sy N)).all eY=true:=by
   rw [List.all_eq_true];intro d hd';obtain ⟨j,_,rfl⟩:=List.mem_map.mp hd';rfl
  show (if (decide (((A.map (·.1)).map (sy N)).length<=1000)&&decide ((xs++more).length=((A.map (·.1)).map (sy N)).length)&&((A.map (·.1)).map (sy N)).all eY&&D.aG (xs++more))=true then Res.ok (D.dct (kE ((A.map (·.1)).map (sy N)) (xs++more) [])) else .bad)=_;rw [pv,fl,if_pos (by rw [List.length_map,List.length_map,List.length_append,hlen,decide_eq_true (show A.length<=1000 by lia),decide_eq_true (show A.length=A.length from rfl)];rfl),hv,List.map_map];have:=YC hN hd A [] hA.1 hA.2.1;exact congrArg (fun z=>Res.ok (D.dct z)) this
 have hc:Y6 (rlD N R) m k (sy N t.1) (.tup [sy N mk,.tup xs,z]::more)=if tot (mL ws A k.call) > m then .err "Spent" [.exc "Spent" []] else .ok (ws.map (sy N),kn N A,mL ws A k.call):=by
  show (match getD (.dct (rlD N R)) (.tup [sy N t.1,sy N mk]) with|.ok (.tup [r0,r1,.tup own,.tup ws])=>_|_=>_)=_;rw [hru];show (if (decide (xs.length+more.length<=1000)&&(D.aG xs&&(D.aG more&&D.aG (ws.map (sy N)))))=true then (match jK [.tup ((A.map (·.1)).map (sy N)),.lst (xs++more)] with|.ok (.dct kn)=>(match mD (ws.map (sy N)) kn k.call with|some k'=>if k'.c+k'.p+k'.d > m then WY else .ok (ws.map (sy N),kn,k')|none=>.bad)|_=>.bad) else .bad)=_;rw [px.1,px.2,bB,if_pos (by rw [decide_eq_true (by lia)];rfl),hz];dsimp only;rw [YB hN hd hws.1 hws.2 A hA.2.1];rfl
 unfold MK;rw [if_pos (by rw [fk,fm,decide_eq_true (by rw [List.length_cons,List.length_append];lia)];rfl),hk];dsimp only [Option.map];rw [hn];dsimp only;rw [if_pos (by rw [List.length_cons,List.length_append];lia),aLm hN hd B h26 h4,if_neg (by simp),List.take_succ_cons,List.drop_succ_cons,<-hml,List.take_left,List.drop_left,hc];by_cases hgt:tot (mL ws A k.call) > m
 ·rw [if_pos hgt,if_pos hgt]
 ·rw [if_neg hgt,if_neg hgt]
end
abbrev Gx (N:List Str) (M:List Rw) (T:List Tk) (R:List Ru) (m:Int):=Go (hdD N (M++T.map tr)) (mkD N M) (rlD N R) m
abbrev F2 (N:List Str) (a b:Nat) (f:Fr) (r:List Fr) (j:Nat):List Fr:=⟨[2,4,14,16].map (sy N),j,kn N [(14,a),(16,b)]⟩::f::r
abbrev F4 (N:List Str) (a b:Nat) (f:Fr) (r:List Fr) (j:Nat):List Fr:=⟨[4,13,5,17,13].map (sy N),j,kn N [(17,a),(13,b)]⟩::f::r
noncomputable abbrev KB (c:Cn) (b:Nat):Cn:=⟨c.c+1,c.p+(b+1:Nat),c.d⟩
noncomputable abbrev KA (c:Cn) (a b:Nat):Cn:=⟨c.c+1+(a+1+a*(b+1):Nat),c.p+(b+1:Nat)+(a*(b+1):Nat),c.d+(b+1:Nat)⟩
section
variable {N:List Str} (hN:N.length=26) (hd:N.Nodup) {M:List Rw} {T:List Tk} {R:List Ru} (B:Tab M T R) {m:Int}
include hN hd B
section
variable {c:Cn} {st ws:List D} {L:List (Nat×Nat)} {i:Nat} {r:List Fr} (lL:∀p∈L,p.1<26) (hl:st.length<=890) (hp:D.aG st=true) (hr:r.length<900000)
include lL hl hp hr
theorem NB (hw:ws[i]?=some (sy N 1)) (lk:L.lookup 1=none):Gx N M T R m (⟨ws,i+1,kn N L⟩::r) st c (⟨ws,i,kn N L⟩::r) (oV N 0::st) c:=
 aFg hw (aIq hN hd B (r:=(1,0,[])) (ps:=[]) (by decide) rfl rfl lL lk (by rw [List.nil_append];lia)) (cA rfl hp) hr
theorem aIr {n:Nat} (hn:n<=900) (hw:ws[i]?=some (sy N 2)) (lk:L.lookup 2=none):Gx N M T R m (⟨ws,i+1,kn N L⟩::r) (oV N n::st) c (⟨ws,i,kn N L⟩::r) (oV N (n+1)::st) c:=by
 have e:=aIq hN hd B (m:=m) (k:=c) (st:=st) (r:=(2,0,[0])) (ps:=[oV N n]) (by decide) rfl (aLl hn rfl) lL lk (by rw [List.length_append,List.length_singleton];lia);rw [show (1+((n:Int)+1+0):Int)=(n:Int)+2 from by lia] at e;exact aFg hw e (cA (eN N (n+1)) hp) hr
theorem iG {j n:Nat} (hj:j<26) (hw:ws[i]?=some (sy N j)) (lk:L.lookup j=some n):Gx N M T R m (⟨ws,i+1,kn N L⟩::r) st c (⟨ws,i,kn N L⟩::r) (oV N n::st) c:=by
 refine aFg hw ?_ (cA (eN N n) hp) hr;have fm:sZ (mkD N M) (sy N j)=true:=oO (fun r:Rw=>r.1) (fun _=>D.bl true) M j;have fk:sZ (kn N L) (sy N j)=true:=oO (fun p:Nat×Nat=>p.1) (fun p=>oV N p.2) L j;have hk:=zF hN hd hj L lL;rw [lk] at hk;unfold MK;rw [if_pos (by rw [fk,fm,decide_eq_true (by lia)];rfl),hk];rfl
theorem JG {t:Tk} (ht:t∈T0) {wr:List Nat} {A:List (Nat×Nat)} (hrl:(t.1,1,A.map (·.1),wr)∈R0) (hml:A.length=t.2.2.2.length) (hA:(A.map (·.1)).Nodup) (hA2:∀p∈A,p.1<26) (hA3:A.length<=10) (hwr:∀j∈wr,j<26) (hwl:wr.length<=1000) {c':Cn} (hc:mL wr A c.call=c') (hw:ws[i]?=some (sy N t.1)) (lk:L.lookup t.1=none):Gx N M T R m (⟨ws,i+1,kn N L⟩::r) (oV N 0::((A.map fun p=>oV N p.2)++st)) c (⟨wr.map (sy N),(wr.map (sy N)).length,kn N A⟩::⟨ws,i,kn N L⟩::r) st c':=by
 subst hc;exact X_ hw (YD hN hd B ht hrl rfl (by rw [List.length_map];exact hml) ⟨hA,hA2,hA3⟩ ⟨hwr,hwl⟩ lL lk (by lia)) hp hr
theorem JH {t:Tk} (ht:t∈T0) {wr:List Nat} {x a:Nat} {A:List (Nat×Nat)} (hrl:(t.1,2,x::A.map (·.1),wr)∈R0) (hml:A.length=t.2.2.2.length) (hA:(x::A.map (·.1)).Nodup) (hA2:∀p∈(x,a)::A,p.1<26) (hA3:A.length<=9) (hwr:∀j∈wr,j<26) (hwl:wr.length<=1000) {c':Cn} (hc:mL wr ((x,a)::A) c.call=c') (hw:ws[i]?=some (sy N t.1)) (lk:L.lookup t.1=none):Gx N M T R m (⟨ws,i+1,kn N L⟩::r) (oV N (a+1)::((A.map fun p=>oV N p.2)++st)) c (⟨wr.map (sy N),(wr.map (sy N)).length,kn N ((x,a)::A)⟩::⟨ws,i,kn N L⟩::r) st c':=by
 subst hc;exact X_ hw (YD hN hd B ht (A:=(x,a)::A) hrl rfl (by rw [List.length_map];exact hml) ⟨hA,hA2,by rw [List.length_cons];lia⟩ ⟨hwr,hwl⟩ lL lk (by lia)) hp hr
end
theorem lW:∀(a:Nat) {b:Nat},a+b<=900->∀{c:Cn} {st ws:List D} {L:List (Nat×Nat)} {i:Nat} {r:List Fr},(∀p∈L,p.1<26)->st.length<=800->D.aG st=true->r.length+a<700000->ws[i]?=some (sy N 4)->L.lookup 4=none->Gx N M T R m (⟨ws,i+1,kn N L⟩::r) (oV N a::oV N b::st) c (⟨ws,i,kn N L⟩::r) (oV N (a+b)::st) ⟨c.c+(a+1:Nat),c.p,c.d⟩
 | 0,b,hab,c,st,ws,L,i,r,lL,hl,hp,hr,hw,lk=>by
  have hr1:(⟨ws,i,kn N L⟩::r:List Fr).length<900000:=by rw [List.length_cons];lia
  have e1:=JG hN hd B (m:=m) (c:=c) (r:=r) lL (by lia) hp (by lia) (t:=(4,0,0,[0])) (by decide) (wr:=[13]) (A:=[(13,b)]) (by rw [zE];simp) rfl (by simp) (by simp) (by simp) (by simp) (by simp) (c':=⟨c.c+(0+1:Nat),c.p,c.d⟩) (by simp [mL,Cn.use,Cn.call]) hw lk;have e2:Gx N M T R m (⟨[13].map (sy N),0+1,kn N [(13,b)]⟩::⟨ws,i,kn N L⟩::r) st ⟨c.c+(0+1:Nat),c.p,c.d⟩ (⟨[13].map (sy N),0,kn N [(13,b)]⟩::⟨ws,i,kn N L⟩::r) (oV N b::st) ⟨c.c+(0+1:Nat),c.p,c.d⟩:=iG hN hd B (by simp) (by lia) hp hr1 (by decide) rfl rfl;rw [Nat.zero_add];exact e1.trans (e2.trans vN (Int.le_refl _)) (Int.le_refl _)
 | a+1,b,hab,c,st,ws,L,i,r,lL,hl,hp,hr,hw,lk=>by
  have hr1:(⟨ws,i,kn N L⟩::r:List Fr).length<900000:=by rw [List.length_cons];lia
  have hA:∀p∈[(14,a),(16,b)],p.1<26:=by simp
  have e1:=JH hN hd B (m:=m) (c:=c) (r:=r) lL (by lia) hp (by lia) (t:=(4,0,0,[0])) (by decide) (wr:=[2,4,14,16]) (A:=[(16,b)]) (by rw [zE];simp) rfl (by simp) hA (by simp) (by simp) (by simp) (c':=⟨c.c+1,c.p,c.d⟩) (by simp [mL,Cn.use,Cn.call]) hw lk;refine e1.trans ?_ (by dsimp only [tot];lia);have e2:Gx N M T R m (F2 N a b ⟨ws,i,kn N L⟩ r (3+1)) st ⟨c.c+1,c.p,c.d⟩ (F2 N a b ⟨ws,i,kn N L⟩ r (3)) (oV N b::st) ⟨c.c+1,c.p,c.d⟩:=iG hN hd B hA (by lia) hp hr1 (by decide) rfl rfl;refine e2.trans ?_ (by dsimp only [tot];lia);have e3:Gx N M T R m (F2 N a b ⟨ws,i,kn N L⟩ r (2+1)) (oV N b::st) ⟨c.c+1,c.p,c.d⟩ (F2 N a b ⟨ws,i,kn N L⟩ r (2)) (oV N a::oV N b::st) ⟨c.c+1,c.p,c.d⟩:=iG hN hd B hA (by rw [List.length_cons];lia) (cA (eN N b) hp) hr1 (by decide) rfl rfl;refine e3.trans ?_ (by dsimp only [tot];lia);have e4:Gx N M T R m (F2 N a b ⟨ws,i,kn N L⟩ r (1+1)) (oV N a::oV N b::st) ⟨c.c+1,c.p,c.d⟩ (F2 N a b ⟨ws,i,kn N L⟩ r (1)) (oV N (a+b)::st) ⟨c.c+1+(a+1:Nat),c.p,c.d⟩:=lW a (by lia) hA hl hp (by rw [List.length_cons];lia) rfl rfl;refine e4.trans ?_ (by dsimp only [tot];lia);have e5:Gx N M T R m (F2 N a b ⟨ws,i,kn N L⟩ r (0+1)) (oV N (a+b)::st) ⟨c.c+1+(a+1:Nat),c.p,c.d⟩ (F2 N a b ⟨ws,i,kn N L⟩ r (0)) (oV N (a+b+1)::st) ⟨c.c+1+(a+1:Nat),c.p,c.d⟩:=aIr hN hd B hA (by lia) hp hr1 (by lia) rfl rfl;rw [show a+1+b=a+b+1 from by lia,show c.c+((a+1+1:Nat):Int)=c.c+1+((a+1:Nat):Int) from by lia];exact e5.trans vN (Int.le_refl _)
theorem YF:∀(a:Nat) {b:Nat},a*b+b<=800->∀{c:Cn} {st ws:List D} {L:List (Nat×Nat)} {i:Nat} {r:List Fr},(∀p∈L,p.1<26)->st.length<=700->D.aG st=true->r.length+a<600000->ws[i]?=some (sy N 5)->L.lookup 5=none->Gx N M T R m (⟨ws,i+1,kn N L⟩::r) (oV N a::oV N b::st) c (⟨ws,i,kn N L⟩::r) (oV N (a*b)::st) ⟨c.c+(a+1+a*(b+1):Nat),c.p+(a*(b+1):Nat),c.d+(b+1:Nat)⟩
 | 0,b,hab,c,st,ws,L,i,r,lL,hl,hp,hr,hw,lk=>by
  have hr1:(⟨ws,i,kn N L⟩::r:List Fr).length<900000:=by rw [List.length_cons];lia
  have e1:=JG hN hd B (m:=m) (c:=c) (r:=r) lL (by lia) hp (by lia) (t:=(5,0,0,[0])) (by decide) (wr:=[1]) (A:=[(16,b)]) (by rw [zE];simp) rfl (by simp) (by simp) (by simp) (by simp) (by simp) (c':=⟨c.c+1,c.p,c.d+(b+1:Nat)⟩) (by simp [mL,Cn.use,Cn.call]) hw lk;have e2:Gx N M T R m (⟨[1].map (sy N),0+1,kn N [(16,b)]⟩::⟨ws,i,kn N L⟩::r) st ⟨c.c+1,c.p,c.d+(b+1:Nat)⟩ (⟨[1].map (sy N),0,kn N [(16,b)]⟩::⟨ws,i,kn N L⟩::r) (oV N 0::st) ⟨c.c+1,c.p,c.d+(b+1:Nat)⟩:=NB hN hd B (by simp) (by lia) hp hr1 rfl rfl;rw [Nat.zero_mul,Nat.zero_mul,show c.c+((0+1+0:Nat):Int)=c.c+1 from by lia,show c.p+((0:Nat):Int)=c.p from by lia];exact e1.trans (e2.trans vN (Int.le_refl _)) (Int.le_refl _)
 | a+1,b,hab,c,st,ws,L,i,r,lL,hl,hp,hr,hw,lk=>by
  have e10:(a+1)*b=a*b+b:=Nat.succ_mul a b;have e11:(a+1)*(b+1)=a*(b+1)+(b+1):=Nat.succ_mul a (b+1);rw [e10] at hab;have hr1:(⟨ws,i,kn N L⟩::r:List Fr).length<900000:=by rw [List.length_cons];lia
  have hA:∀p∈[(17,a),(13,b)],p.1<26:=by simp
  have e1:=JH hN hd B (m:=m) (c:=c) (r:=r) lL (by lia) hp (by lia) (t:=(5,0,0,[0])) (by decide) (wr:=[4,13,5,17,13]) (x:=17) (a:=a) (A:=[(13,b)]) (by rw [zE];simp) rfl (by simp) hA (by simp) (by simp) (by simp) (c':=KB c b) (by simp [mL,Cn.use,Cn.call,KB]) hw lk;refine e1.trans ?_ (by dsimp only [tot,KA,KB];lia);have e2:Gx N M T R m (F4 N a b ⟨ws,i,kn N L⟩ r (4+1)) st (KB c b) (F4 N a b ⟨ws,i,kn N L⟩ r (4)) (oV N b::st) (KB c b):=iG hN hd B hA (by lia) hp hr1 (j:=13) (by decide) rfl rfl;refine e2.trans ?_ (by dsimp only [tot,KA,KB];lia);have e3:Gx N M T R m (F4 N a b ⟨ws,i,kn N L⟩ r (3+1)) (oV N b::st) (KB c b) (F4 N a b ⟨ws,i,kn N L⟩ r (3)) (oV N a::oV N b::st) (KB c b):=iG hN hd B hA (by rw [List.length_cons];lia) (cA (eN N b) hp) hr1 (j:=17) (by decide) rfl rfl;refine e3.trans ?_ (by dsimp only [tot,KA,KB];lia);have e4:Gx N M T R m (F4 N a b ⟨ws,i,kn N L⟩ r (2+1)) (oV N a::oV N b::st) (KB c b) (F4 N a b ⟨ws,i,kn N L⟩ r (2)) (oV N (a*b)::st) (KA c a b):=YF a (by lia) hA hl hp (by rw [List.length_cons];lia) rfl rfl;refine e4.trans ?_ (by dsimp only [tot,KA,KB];lia);have e5:Gx N M T R m (F4 N a b ⟨ws,i,kn N L⟩ r (1+1)) (oV N (a*b)::st) (KA c a b) (F4 N a b ⟨ws,i,kn N L⟩ r (1)) (oV N b::oV N (a*b)::st) (KA c a b):=iG hN hd B hA (by rw [List.length_cons];lia) (cA (eN N _) hp) hr1 (j:=13) (by decide) rfl rfl;refine e5.trans ?_ (by dsimp only [tot,KA,KB];lia);have e6:Gx N M T R m (F4 N a b ⟨ws,i,kn N L⟩ r (0+1)) (oV N b::oV N (a*b)::st) (KA c a b) (F4 N a b ⟨ws,i,kn N L⟩ r (0)) (oV N (b+a*b)::st) ⟨c.c+1+(a+1+a*(b+1):Nat)+(b+1:Nat),c.p+(b+1:Nat)+(a*(b+1):Nat),c.d+(b+1:Nat)⟩:=lW hN hd B b (by lia) hA (by lia) hp (by rw [List.length_cons];lia) rfl rfl;rw [e10,e11,show a*b+b=b+a*b from by lia,show c.c+((a+1+1+(a*(b+1)+(b+1)):Nat):Int)=c.c+1+((a+1+a*(b+1):Nat):Int)+((b+1:Nat):Int) from by lia,show c.p+((a*(b+1)+(b+1):Nat):Int)=c.p+((b+1:Nat):Int)+((a*(b+1):Nat):Int) from by lia];exact e6.trans vN (Int.le_refl _)
end
noncomputable abbrev W8:List Nat:=[4,17,4,13,4,17,4,13,4,17,6,16,17,13]
abbrev F8 (N:List Str) (a b e:Nat) (f:Fr) (r:List Fr) (j:Nat):List Fr:=⟨W8.map (sy N),j,kn N [(16,a),(17,b),(13,e)]⟩::f::r
noncomputable abbrev ad (c:Cn) (x y z:Nat):Cn:=⟨c.c+(x:Nat),c.p+(y:Nat),c.d+(z:Nat)⟩
abbrev K0 (c:Cn) (b e:Nat):Cn:=ad c 1 (3*(b+1)+2*(e+1)) 0
abbrev K1 (c:Cn) (a b e u:Nat):Cn:=ad (K0 c b e) (a+1+u) u (b+e+2)
abbrev K2 (c:Cn) (a b e u:Nat):Cn:=ad (K1 c a b e u) (b+1) 0 0
abbrev K3 (c:Cn) (a b e u:Nat):Cn:=ad (K2 c a b e u) (e+1) 0 0
abbrev K4 (c:Cn) (a b e u:Nat):Cn:=ad (K3 c a b e u) (b+1) 0 0
abbrev K5 (c:Cn) (a b e u:Nat):Cn:=ad (K4 c a b e u) (e+1) 0 0
abbrev K6 (c:Cn) (a b e u:Nat):Cn:=ad (K5 c a b e u) (b+1) 0 0
section
variable {N:List Str} (hN:N.length=26) (hd:N.Nodup) {M:List Rw} {T:List Tk} {R:List Ru} (B:Tab M T R) {m:Int}
include hN hd B
theorem NK:∀(a:Nat) {b e:Nat},a*(3*b+2*e)+(3*b+2*e)<=800->∀{c:Cn} {st ws:List D} {L:List (Nat×Nat)} {i:Nat} {r:List Fr},(∀p∈L,p.1<26)->st.length<=700->D.aG st=true->r.length+a<600000->ws[i]?=some (sy N 6)->L.lookup 6=none->Gx N M T R m (⟨ws,i+1,kn N L⟩::r) (oV N a::oV N b::oV N e::st) c (⟨ws,i,kn N L⟩::r) (oV N (a*(3*b+2*e))::st) (ad c (a+1+a*(3*(b+1)+2*(e+1))) (a*(3*(b+1)+2*(e+1))) (b+e+2))
 | 0,b,e,hab,c,st,ws,L,i,r,lL,hl,hp,hr,hw,lk=>by
  have hr1:(⟨ws,i,kn N L⟩::r:List Fr).length<900000:=by rw [List.length_cons];lia
  have e1:=JG hN hd B (m:=m) (c:=c) (r:=r) lL (by lia) hp (by lia) (t:=(6,0,0,[0,0])) (by decide) (wr:=[1]) (A:=[(14,b),(17,e)]) (by rw [zE];simp) rfl (by simp) (by simp) (by simp) (by simp) (by simp) (c':=ad c 1 0 (b+e+2)) (by
   simp [mL,Cn.use,Cn.call,ad];lia) hw lk
  have e2:Gx N M T R m (⟨[1].map (sy N),0+1,kn N [(14,b),(17,e)]⟩::⟨ws,i,kn N L⟩::r) st (ad c 1 0 (b+e+2)) (⟨[1].map (sy N),0,kn N [(14,b),(17,e)]⟩::⟨ws,i,kn N L⟩::r) (oV N 0::st) (ad c 1 0 (b+e+2)):=NB hN hd B (by simp) (by lia) hp hr1 rfl rfl;rw [Nat.zero_mul,Nat.zero_mul];exact e1.trans (e2.trans vN (Int.le_refl _)) (Int.le_refl _)
 | a+1,b,e,hab,c,st,ws,L,i,r,lL,hl,hp,hr,hw,lk=>by
  obtain ⟨v,hv⟩:∃v,a*(3*b+2*e)=v:=⟨_,rfl⟩
  obtain ⟨u,hu⟩:∃u,a*(3*(b+1)+2*(e+1))=u:=⟨_,rfl⟩
  have e10:(a+1)*(3*b+2*e)=v+(3*b+2*e):=by rw [Nat.succ_mul,hv]
  have e11:(a+1)*(3*(b+1)+2*(e+1))=u+(3*(b+1)+2*(e+1)):=by rw [Nat.succ_mul,hu]
  rw [e10] at hab;have hr1:(⟨ws,i,kn N L⟩::r:List Fr).length<900000:=by rw [List.length_cons];lia
  have hr2:(⟨ws,i,kn N L⟩::r:List Fr).length<600000:=by rw [List.length_cons];lia
  have hr3:(⟨ws,i,kn N L⟩::r:List Fr).length+a<600000:=by rw [List.length_cons];lia
  have hA:∀p∈[(16,a),(17,b),(13,e)],p.1<26:=by simp
  have q:∀n,D.aG (oV N n::st)=true:=fun n=>cA (eN N n) hp
  have q2:∀n k,D.aG (oV N k::oV N n::st)=true:=fun n k=>cA (eN N k) (q n)
  have e1:=JH hN hd B (m:=m) (c:=c) (r:=r) lL (by lia) hp (by lia) (t:=(6,0,0,[0,0])) (by decide) (wr:=W8) (A:=[(17,b),(13,e)]) (by rw [zE];simp [W8]) rfl (by simp) hA (by simp) (by decide) (by decide) (c':=K0 c b e) (by
   simp [mL,Cn.use,Cn.call,ad,K0,W8];lia) hw lk
  refine e1.trans ?_ (by dsimp only [tot,ad,K0,K1,K2,K3,K4,K5,K6];lia);have x1:Gx N M T R m (F8 N a b e ⟨ws,i,kn N L⟩ r (13+1)) st (K0 c b e) (F8 N a b e ⟨ws,i,kn N L⟩ r (13)) (oV N e::st) (K0 c b e):=iG hN hd B hA (by first|lia|(simp only [List.length_cons];lia)) hp hr1 (by decide) rfl rfl;refine x1.trans ?_ (by dsimp only [tot,ad,K0,K1,K2,K3,K4,K5,K6];lia);have x2:Gx N M T R m (F8 N a b e ⟨ws,i,kn N L⟩ r (12+1)) (oV N e::st) (K0 c b e) (F8 N a b e ⟨ws,i,kn N L⟩ r (12)) (oV N b::oV N e::st) (K0 c b e):=iG hN hd B hA (by first|lia|(simp only [List.length_cons];lia)) (q _) hr1 (by decide) rfl rfl;refine x2.trans ?_ (by dsimp only [tot,ad,K0,K1,K2,K3,K4,K5,K6];lia);have x3:Gx N M T R m (F8 N a b e ⟨ws,i,kn N L⟩ r (11+1)) (oV N b::oV N e::st) (K0 c b e) (F8 N a b e ⟨ws,i,kn N L⟩ r (11)) (oV N a::oV N b::oV N e::st) (K0 c b e):=iG hN hd B hA (by first|lia|(simp only [List.length_cons];lia)) (q2 _ _) hr1 (by decide) rfl rfl;refine x3.trans ?_ (by dsimp only [tot,ad,K0,K1,K2,K3,K4,K5,K6];lia);have x4:Gx N M T R m (F8 N a b e ⟨ws,i,kn N L⟩ r (10+1)) (oV N a::oV N b::oV N e::st) (K0 c b e) (F8 N a b e ⟨ws,i,kn N L⟩ r (10)) (oV N v::st) (K1 c a b e u):=by
   have z:=NK a (b:=b) (e:=e) (by lia) (c:=(K0 c b e)) (ws:=W8.map (sy N)) (i:=10) hA hl hp hr3 rfl rfl;rw [hv,hu] at z;exact z
  refine x4.trans ?_ (by dsimp only [tot,ad,K0,K1,K2,K3,K4,K5,K6];lia);have x5:Gx N M T R m (F8 N a b e ⟨ws,i,kn N L⟩ r (9+1)) (oV N (v)::st) (K1 c a b e u) (F8 N a b e ⟨ws,i,kn N L⟩ r (9)) (oV N b::oV N (v)::st) (K1 c a b e u):=iG hN hd B hA (by first|lia|(simp only [List.length_cons];lia)) (q _) hr1 (by decide) rfl rfl;refine x5.trans ?_ (by dsimp only [tot,ad,K0,K1,K2,K3,K4,K5,K6];lia);have x6:Gx N M T R m (F8 N a b e ⟨ws,i,kn N L⟩ r (8+1)) (oV N b::oV N (v)::st) (K1 c a b e u) (F8 N a b e ⟨ws,i,kn N L⟩ r (8)) (oV N (b+(v))::st) (K2 c a b e u):=by
   have z:=lW hN hd B b (b:=v) (by lia) (m:=m) (c:=(K1 c a b e u)) (st:=st) (ws:=W8.map (sy N)) (L:=[(16,a),(17,b),(13,e)]) (i:=8) (r:=⟨ws,i,kn N L⟩::r) hA (by lia) hp (by lia) rfl rfl;have hz:(⟨(K1 c a b e u).c+(b+1:Nat),(K1 c a b e u).p,(K1 c a b e u).d⟩:Cn)=(K2 c a b e u):=by simp [ad,K1,K2,K3,K4,K5,K6]
   rw [hz] at z;exact z
  refine x6.trans ?_ (by dsimp only [tot,ad,K0,K1,K2,K3,K4,K5,K6];lia);have x7:Gx N M T R m (F8 N a b e ⟨ws,i,kn N L⟩ r (7+1)) (oV N (b+(v))::st) (K2 c a b e u) (F8 N a b e ⟨ws,i,kn N L⟩ r (7)) (oV N e::oV N (b+(v))::st) (K2 c a b e u):=iG hN hd B hA (by first|lia|(simp only [List.length_cons];lia)) (q _) hr1 (j:=13) (by decide) rfl rfl;refine x7.trans ?_ (by dsimp only [tot,ad,K0,K1,K2,K3,K4,K5,K6];lia);have x8:Gx N M T R m (F8 N a b e ⟨ws,i,kn N L⟩ r (6+1)) (oV N e::oV N (b+(v))::st) (K2 c a b e u) (F8 N a b e ⟨ws,i,kn N L⟩ r (6)) (oV N (e+(b+(v)))::st) (K3 c a b e u):=by
   have z:=lW hN hd B e (b:=b+(v)) (by lia) (m:=m) (c:=(K2 c a b e u)) (st:=st) (ws:=W8.map (sy N)) (L:=[(16,a),(17,b),(13,e)]) (i:=6) (r:=⟨ws,i,kn N L⟩::r) hA (by lia) hp (by lia) rfl rfl;have hz:(⟨(K2 c a b e u).c+(e+1:Nat),(K2 c a b e u).p,(K2 c a b e u).d⟩:Cn)=(K3 c a b e u):=by simp [ad,K1,K2,K3,K4,K5,K6]
   rw [hz] at z;exact z
  refine x8.trans ?_ (by dsimp only [tot,ad,K0,K1,K2,K3,K4,K5,K6];lia);have x9:Gx N M T R m (F8 N a b e ⟨ws,i,kn N L⟩ r (5+1)) (oV N (e+(b+(v)))::st) (K3 c a b e u) (F8 N a b e ⟨ws,i,kn N L⟩ r (5)) (oV N b::oV N (e+(b+(v)))::st) (K3 c a b e u):=iG hN hd B hA (by first|lia|(simp only [List.length_cons];lia)) (q _) hr1 (j:=17) (by decide) rfl rfl;refine x9.trans ?_ (by dsimp only [tot,ad,K0,K1,K2,K3,K4,K5,K6];lia);have x10:Gx N M T R m (F8 N a b e ⟨ws,i,kn N L⟩ r (4+1)) (oV N b::oV N (e+(b+(v)))::st) (K3 c a b e u) (F8 N a b e ⟨ws,i,kn N L⟩ r (4)) (oV N (b+(e+(b+(v))))::st) (K4 c a b e u):=by
   have z:=lW hN hd B b (b:=e+(b+(v))) (by lia) (m:=m) (c:=(K3 c a b e u)) (st:=st) (ws:=W8.map (sy N)) (L:=[(16,a),(17,b),(13,e)]) (i:=4) (r:=⟨ws,i,kn N L⟩::r) hA (by lia) hp (by lia) rfl rfl;have hz:(⟨(K3 c a b e u).c+(b+1:Nat),(K3 c a b e u).p,(K3 c a b e u).d⟩:Cn)=(K4 c a b e u):=by simp [ad,K1,K2,K3,K4,K5,K6]
   rw [hz] at z;exact z
  refine x10.trans ?_ (by dsimp only [tot,ad,K0,K1,K2,K3,K4,K5,K6];lia);have x11:Gx N M T R m (F8 N a b e ⟨ws,i,kn N L⟩ r (3+1)) (oV N (b+(e+(b+(v))))::st) (K4 c a b e u) (F8 N a b e ⟨ws,i,kn N L⟩ r (3)) (oV N e::oV N (b+(e+(b+(v))))::st) (K4 c a b e u):=iG hN hd B hA (by first|lia|(simp only [List.length_cons];lia)) (q _) hr1 (j:=13) (by decide) rfl rfl;refine x11.trans ?_ (by dsimp only [tot,ad,K0,K1,K2,K3,K4,K5,K6];lia);have x12:Gx N M T R m (F8 N a b e ⟨ws,i,kn N L⟩ r (2+1)) (oV N e::oV N (b+(e+(b+(v))))::st) (K4 c a b e u) (F8 N a b e ⟨ws,i,kn N L⟩ r (2)) (oV N (e+(b+(e+(b+(v)))))::st) (K5 c a b e u):=by
   have z:=lW hN hd B e (b:=b+(e+(b+(v)))) (by lia) (m:=m) (c:=(K4 c a b e u)) (st:=st) (ws:=W8.map (sy N)) (L:=[(16,a),(17,b),(13,e)]) (i:=2) (r:=⟨ws,i,kn N L⟩::r) hA (by lia) hp (by lia) rfl rfl;have hz:(⟨(K4 c a b e u).c+(e+1:Nat),(K4 c a b e u).p,(K4 c a b e u).d⟩:Cn)=(K5 c a b e u):=by simp [ad,K1,K2,K3,K4,K5,K6]
   rw [hz] at z;exact z
  refine x12.trans ?_ (by dsimp only [tot,ad,K0,K1,K2,K3,K4,K5,K6];lia);have x13:Gx N M T R m (F8 N a b e ⟨ws,i,kn N L⟩ r (1+1)) (oV N (e+(b+(e+(b+(v)))))::st) (K5 c a b e u) (F8 N a b e ⟨ws,i,kn N L⟩ r (1)) (oV N b::oV N (e+(b+(e+(b+(v)))))::st) (K5 c a b e u):=iG hN hd B hA (by first|lia|(simp only [List.length_cons];lia)) (q _) hr1 (j:=17) (by decide) rfl rfl;refine x13.trans ?_ (by dsimp only [tot,ad,K0,K1,K2,K3,K4,K5,K6];lia);have x14:Gx N M T R m (F8 N a b e ⟨ws,i,kn N L⟩ r (0+1)) (oV N b::oV N (e+(b+(e+(b+(v)))))::st) (K5 c a b e u) (F8 N a b e ⟨ws,i,kn N L⟩ r (0)) (oV N (b+(e+(b+(e+(b+(v))))))::st) (K6 c a b e u):=by
   have z:=lW hN hd B b (b:=e+(b+(e+(b+(v))))) (by lia) (m:=m) (c:=(K5 c a b e u)) (st:=st) (ws:=W8.map (sy N)) (L:=[(16,a),(17,b),(13,e)]) (i:=0) (r:=⟨ws,i,kn N L⟩::r) hA (by lia) hp (by lia) rfl rfl;have hz:(⟨(K5 c a b e u).c+(b+1:Nat),(K5 c a b e u).p,(K5 c a b e u).d⟩:Cn)=(K6 c a b e u):=by simp [ad,K1,K2,K3,K4,K5,K6]
   rw [hz] at z;exact z
  refine x14.trans ?_ (by dsimp only [tot,ad,K0,K1,K2,K3,K4,K5,K6];lia);rw [e10,e11,show v+(3*b+2*e)=b+(e+(b+(e+(b+(v))))) from by lia];have hz:ad c (a+1+1+(u+(3*(b+1)+2*(e+1)))) (u+(3*(b+1)+2*(e+1))) (b+e+2)=(K6 c a b e u):=by
   simp only [ad,K0,K1,K2,K3,K4,K5,K6,Cn.mk.injEq];lia
  rw [hz];exact vN
end
inductive En
 | t (a b:Nat)
 | h (a b e:Nat)
 | p (n:Nat)
noncomputable def nu (a:Nat):List Nat:=List.replicate a 2++[1]
def wE:En->List Nat
 | .t a b=>[4,5]++nu a++nu b
 | .h a b e=>[4,6]++nu a++nu b++nu e
 | .p n=>[4]++nu n
noncomputable def vE:En->Nat
 | .t a b=>a*b
 | .h a b e=>a*(3*b+2*e)
 | .p n=>n
noncomputable def c1:En->Nat
 | .t a b=>a+1+a*(b+1)+a*b+1
 | .h a b e=>a+1+a*(3*(b+1)+2*(e+1))+a*(3*b+2*e)+1
 | .p n=>n+1
noncomputable def c2:En->Nat
 | .t a b=>a*(b+1)
 | .h a b e=>a*(3*(b+1)+2*(e+1))
 | .p n=>0
noncomputable def c3:En->Nat
 | .t a b=>b+1
 | .h a b e=>b+e+2
 | .p n=>0
def okE:En->Prop
 | .t a b=>a<=8/\b<=8
 | .h a b e=>a<=3/\b<=4/\e<=4
 | .p n=>n<=402
theorem jB (a:Nat):(nu a).length=a+1:=by simp [nu]
section
variable {N:List Str} (hN:N.length=26) (hd:N.Nodup) {M:List Rw} {T:List Tk} {R:List Ru} (B:Tab M T R) {m:Int}
include hN hd B
theorem aCm {c:Cn} {st ws:List D} {i:Nat} (hl:st.length<=800) (hp:D.aG st=true):∀(s n:Nat),n+s<=900->(∀k,k<s->ws[i+k]?=some (sy N 2))->Gx N M T R m [⟨ws,i+s,kn N []⟩] (oV N n::st) c [⟨ws,i,kn N []⟩] (oV N (n+s)::st) c
 | 0,n,_,_=>fun _=>⟨fun _=>⟨0,fun _=>rfl⟩,fun h=>by lia⟩
 | s+1,n,hn,hw=>by
  have e1:Gx N M T R m [⟨ws,i+s+1,kn N []⟩] (oV N n::st) c [⟨ws,i+s,kn N []⟩] (oV N (n+1)::st) c:=aIr hN hd B (by simp) (by lia) hp (by decide) (by lia) (hw s (by lia)) rfl;have e2:=aCm (c:=c) hl hp s (n+1) (by lia) fun k hk=>hw k (by lia)
  rw [show n+1+s=n+(s+1) from by lia] at e2;exact e1.trans e2 (Int.le_refl _)
theorem g_num {c:Cn} {st ws P Q:List D} {a n:Nat} (ha:a<=900) (hl:st.length<=800) (hp:D.aG st=true) (hw:ws=P++((nu a).map (sy N)++Q)) (hP:P.length=n):Gx N M T R m [⟨ws,n+(a+1),kn N []⟩] st c [⟨ws,n,kn N []⟩] (oV N a::st) c:=by
 have g:∀j,ws[n+j]?=((nu a).map (sy N)++Q)[j]?:=fun j=>by
  rw [hw,List.getElem?_append_right (by lia),<-hP,Nat.add_sub_cancel_left]
 have h2:∀k,k<a->ws[n+k]?=some (sy N 2):=fun k hk=>by
  rw [g,List.getElem?_append_left (by rw [List.length_map,jB];lia),List.getElem?_map];unfold nu;rw [List.getElem?_append_left (by simpa using hk),List.getElem?_replicate_of_lt hk];rfl
 have h1:ws[n+a]?=some (sy N 1):=by
  rw [g,List.getElem?_append_left (by rw [List.length_map,jB];lia),List.getElem?_map];unfold nu;rw [List.getElem?_append_right (by simp),List.length_replicate,Nat.sub_self];rfl
 have e1:Gx N M T R m [⟨ws,n+a+1,kn N []⟩] st c [⟨ws,n+a,kn N []⟩] (oV N 0::st) c:=NB hN hd B (by simp) (by lia) hp (by decide) h1 rfl;have e2:=aCm hN hd B (m:=m) (c:=c) hl hp a 0 (by lia) h2;rw [Nat.zero_add] at e2;exact e1.trans e2 (Int.le_refl _)
theorem at_ {ws P Q:List D} {l:List Nat} {n j k:Nat} (hw:ws=P++(l.map (sy N)++Q)) (hP:P.length=n) (hj:l[j]?=some k):ws[n+j]?=some (sy N k):=by
 have hlt:j<l.length:=(List.getElem?_eq_some_iff.mp hj).1;rw [hw,List.getElem?_append_right (by lia),<-hP,Nat.add_sub_cancel_left,List.getElem?_append_left (by rw [List.length_map];exact hlt),List.getElem?_map,hj];rfl
theorem aNm {e:En} (ok:okE e) {c:Cn} {ws P Q:List D} {n x:Nat} (hx:vE e+x<=900) (hw:ws=P++((wE e).map (sy N)++Q)) (hP:P.length=n):Gx N M T R m [⟨ws,n+(wE e).length,kn N []⟩] [oV N x] c [⟨ws,n,kn N []⟩] [oV N (vE e+x)] (ad c (c1 e) (c2 e) (c3 e)):=by
 have px:D.aG [oV N x]=true:=cA (eN N x) rfl;have px2:∀y,D.aG [oV N y,oV N x]=true:=fun y=>cA (eN N y) px
 cases e with
 | t a b=>
  obtain ⟨oa,ob⟩:=ok;have hab:a*b<=8*8:=Nat.mul_le_mul oa ob;have hl:(wE (.t a b)).length=2+(a+1)+(b+1):=by simp [wE,jB];lia
  rw [hl];have e1:Gx N M T R m [⟨ws,n+2+(a+1)+(b+1),kn N []⟩] [oV N x] c [⟨ws,n+2+(a+1),kn N []⟩] [oV N b,oV N x] c:=g_num hN hd B (P:=P++([4,5]++nu a).map (sy N)) (Q:=Q) (by lia) (by simp) px (by rw [hw];simp [wE]) (by rw [List.length_append,List.length_map,List.length_append,jB,hP];simp;lia);have e2:Gx N M T R m [⟨ws,n+2+(a+1),kn N []⟩] [oV N b,oV N x] c [⟨ws,n+1+1,kn N []⟩] [oV N a,oV N b,oV N x] c:=g_num hN hd B (P:=P++[4,5].map (sy N)) (Q:=(nu b).map (sy N)++Q) (by lia) (by simp) (px2 b) (by rw [hw];simp [wE]) (by rw [List.length_append,List.length_map,hP];rfl);have e3:=YF hN hd B (m:=m) a (b:=b) (by lia) (c:=c) (L:=[]) (i:=n+1) (r:=[]) (by simp) (by simp) px (by simp;lia) (at_ hN hd B hw hP (by simp [wE])) rfl;have e4:=lW hN hd B (m:=m) (a*b) hx (c:=ad c (a+1+a*(b+1)) (a*(b+1)) (b+1)) (st:=[]) (L:=[]) (r:=[]) (by simp) (by simp) rfl (by simp;lia) (by have:=at_ hN hd B (j:=0) (k:=4) hw hP (by simp [wE]);simpa using this) rfl;have hz:(⟨(ad c (a+1+a*(b+1)) (a*(b+1)) (b+1)).c+(a*b+1:Nat),(ad c (a+1+a*(b+1)) (a*(b+1)) (b+1)).p,(ad c (a+1+a*(b+1)) (a*(b+1)) (b+1)).d⟩:Cn)=ad c (c1 (.t a b)) (c2 (.t a b)) (c3 (.t a b)):=by
   simp only [ad,c1,c2,c3,Cn.mk.injEq,and_true];generalize a*(b+1)=u;generalize a*b=v;lia
  rw [hz] at e4;rw [show n+(2+(a+1)+(b+1))=n+2+(a+1)+(b+1) from by lia];refine e1.trans (e2.trans (e3.trans e4 ?_) ?_) ?_ <;> simp only [tot,ad,c1,c2,c3] <;> lia
 | h a b e=>
  obtain ⟨oa,ob,oe⟩:=ok;have hab:a*(3*b+2*e)<=3*20:=Nat.mul_le_mul oa (by lia);have hl:(wE (.h a b e)).length=2+(a+1)+(b+1)+(e+1):=by simp [wE,jB];lia
  rw [hl];have e0:Gx N M T R m [⟨ws,n+2+(a+1)+(b+1)+(e+1),kn N []⟩] [oV N x] c [⟨ws,n+2+(a+1)+(b+1),kn N []⟩] [oV N e,oV N x] c:=g_num hN hd B (P:=P++([4,6]++nu a++nu b).map (sy N)) (Q:=Q) (by lia) (by simp) px (by rw [hw];simp [wE]) (by rw [List.length_append,List.length_map,List.length_append,List.length_append,jB,jB,hP];simp;lia);have e1:Gx N M T R m [⟨ws,n+2+(a+1)+(b+1),kn N []⟩] [oV N e,oV N x] c [⟨ws,n+2+(a+1),kn N []⟩] [oV N b,oV N e,oV N x] c:=g_num hN hd B (P:=P++([4,6]++nu a).map (sy N)) (Q:=(nu e).map (sy N)++Q) (by lia) (by simp) (px2 e) (by rw [hw];simp [wE]) (by rw [List.length_append,List.length_map,List.length_append,jB,hP];simp;lia);have e2:Gx N M T R m [⟨ws,n+2+(a+1),kn N []⟩] [oV N b,oV N e,oV N x] c [⟨ws,n+1+1,kn N []⟩] [oV N a,oV N b,oV N e,oV N x] c:=g_num hN hd B (P:=P++[4,6].map (sy N)) (Q:=(nu b++nu e).map (sy N)++Q) (by lia) (by simp) (cA (eN N b) (px2 e)) (by rw [hw];simp [wE]) (by rw [List.length_append,List.length_map,hP];rfl);have e3:=NK hN hd B (m:=m) a (b:=b) (e:=e) (by lia) (c:=c) (st:=[oV N x]) (ws:=ws) (L:=[]) (i:=n+1) (r:=[]) (by simp) (by simp) px (by simp;lia) (at_ hN hd B hw hP (by simp [wE])) rfl;have e4:=lW hN hd B (m:=m) (a*(3*b+2*e)) (b:=x) hx (c:=ad c (a+1+a*(3*(b+1)+2*(e+1))) (a*(3*(b+1)+2*(e+1))) (b+e+2)) (st:=[]) (ws:=ws) (L:=[]) (i:=n) (r:=[]) (by simp) (by simp) rfl (by simp;lia) (by have:=at_ hN hd B (j:=0) (k:=4) hw hP (by simp [wE]);simpa using this) rfl;have hz:(⟨(ad c (a+1+a*(3*(b+1)+2*(e+1))) (a*(3*(b+1)+2*(e+1))) (b+e+2)).c+(a*(3*b+2*e)+1:Nat),(ad c (a+1+a*(3*(b+1)+2*(e+1))) (a*(3*(b+1)+2*(e+1))) (b+e+2)).p,(ad c (a+1+a*(3*(b+1)+2*(e+1))) (a*(3*(b+1)+2*(e+1))) (b+e+2)).d⟩:Cn)=ad c (c1 (.h a b e)) (c2 (.h a b e)) (c3 (.h a b e)):=by
   simp only [ad,c1,c2,c3,Cn.mk.injEq,and_true];generalize a*(3*(b+1)+2*(e+1))=u;generalize a*(3*b+2*e)=v;lia
  rw [hz] at e4;rw [show n+(2+(a+1)+(b+1)+(e+1))=n+2+(a+1)+(b+1)+(e+1) from by lia];refine e0.trans (e1.trans (e2.trans (e3.trans e4 ?_) ?_) ?_) ?_ <;> simp only [tot,ad,c1,c2,c3] <;> lia
 | p k=>
  have ok:k<=402:=ok;have hl:(wE (.p k)).length=1+(k+1):=by simp [wE,jB];lia
  rw [hl];have e2:Gx N M T R m [⟨ws,n+1+(k+1),kn N []⟩] [oV N x] c [⟨ws,n+1,kn N []⟩] [oV N k,oV N x] c:=g_num hN hd B (P:=P++[4].map (sy N)) (Q:=Q) (by lia) (by simp) px (by rw [hw];simp [wE]) (by rw [List.length_append,List.length_map,hP];rfl);have e4:=lW hN hd B (m:=m) k (b:=x) hx (c:=c) (st:=[]) (ws:=ws) (L:=[]) (i:=n) (r:=[]) (by simp) (by simp) rfl (by simp;lia) (by have:=at_ hN hd B (j:=0) (k:=4) hw hP (by simp [wE]);simpa using this) rfl;have hz:(⟨c.c+(k+1:Nat),c.p,c.d⟩:Cn)=ad c (c1 (.p k)) (c2 (.p k)) (c3 (.p k)):=by
   simp [ad,c1,c2,c3]
  rw [hz] at e4;rw [show n+(1+(k+1))=n+1+(k+1) from by lia];refine e2.trans e4 ?_;simp only [tot,ad,c1,c2,c3];lia
noncomputable def sm (f:En->Nat) (es:List En):Nat:=(es.map f).sum
theorem EY (f:En->Nat) (es:List En):sm f es.reverse=sm f es:=by unfold sm;rw [List.map_reverse,List.sum_reverse]
theorem aIs:∀(rs:List En),(∀e∈rs,okE e)->∀(x:Nat) (Q:List D) {ws:List D} {c:Cn},ws=(rs.reverse.flatMap wE).map (sy N)++Q->sm vE rs+x<=900->Gx N M T R m [⟨ws,((rs.reverse.flatMap wE).map (sy N)).length,kn N []⟩] [oV N x] c [] [oV N (sm vE rs+x)] (ad c (sm c1 rs) (sm c2 rs) (sm c3 rs))
 | [],_,x,Q,ws,c,hw,hx=>by
  have hz:ad c (sm c1 []) (sm c2 []) (sm c3 [])=c:=by cases c;simp [ad,sm]
  rw [hz,show sm vE []+x=x from by simp [sm]];exact vN
 | e::rs,ok,x,Q,ws,c,hw,hx=>by
  have s1:∀f,sm f (e::rs)=f e+sm f rs:=fun f=>by simp [sm]
  have hw2:ws=(rs.reverse.flatMap wE).map (sy N)++((wE e).map (sy N)++Q):=by
   rw [hw,List.reverse_cons,List.flatMap_append,List.map_append,List.append_assoc]
   congr 2
   simp
  have hl:(((e::rs).reverse.flatMap wE).map (sy N)).length=((rs.reverse.flatMap wE).map (sy N)).length+(wE e).length:=by
   rw [List.reverse_cons,List.flatMap_append,List.map_append,List.length_append]
   congr 1
   simp
  rw [s1 vE] at hx;have x1:=aNm hN hd B (m:=m) (ok e (by simp)) (c:=c) (x:=x) (by lia) hw2 rfl;have x2:=aIs rs (fun k hk=>ok k (by simp [hk])) (vE e+x) ((wE e).map (sy N)++Q) (c:=ad c (c1 e) (c2 e) (c3 e)) hw2 (by lia);have hz:ad (ad c (c1 e) (c2 e) (c3 e)) (sm c1 rs) (sm c2 rs) (sm c3 rs)=ad c (sm c1 (e::rs)) (sm c2 (e::rs)) (sm c3 (e::rs)):=by
   rw [s1,s1,s1];simp only [ad,Cn.mk.injEq];lia
  rw [hl,s1 vE,show vE e+sm vE rs+x=sm vE rs+(vE e+x) from by lia,<-hz];refine x1.trans x2 ?_;simp only [tot,ad];lia
def wds (es:List En):List Nat:=es.flatMap wE++[1]
def cs (es:List En):Cn:=⟨(sm c1 es:Nat),(sm c2 es:Nat),(sm c3 es:Nat)⟩
theorem aFi {es:List En} (ok:∀e∈es,okE e) (hx:sm vE es<=900) (hm:0<=m):RK (hdD N (M++T.map tr)) (mkD N M) (rlD N R) m ((wds es).map (sy N))=if tot (cs es)<=m then .ok (oV N (sm vE es),cs es) else .err "Spent" [.exc "Spent" []]:=by
 have hw:(wds es).map (sy N)=(es.flatMap wE).map (sy N)++[sy N 1]:=by unfold wds;rw [List.map_append];rfl
 have hl:((wds es).map (sy N)).length=((es.flatMap wE).map (sy N)).length+1:=by rw [hw,List.length_append];rfl
 have h1:((wds es).map (sy N))[((es.flatMap wE).map (sy N)).length]?=some (sy N 1):=by
  rw [hw,List.getElem?_append_right (Nat.le_refl _),Nat.sub_self];rfl
 have e1:Gx N M T R m [⟨(wds es).map (sy N),((es.flatMap wE).map (sy N)).length+1,kn N []⟩] [] ⟨0,0,0⟩ [⟨(wds es).map (sy N),((es.flatMap wE).map (sy N)).length,kn N []⟩] [oV N 0] ⟨0,0,0⟩:=NB hN hd B (by simp) (by simp) rfl (by decide) h1 rfl;have e2:=aIs hN hd B (m:=m) es.reverse (fun s h=>ok s (List.mem_reverse.mp h)) 0 [sy N 1] (ws:=(wds es).map (sy N)) (c:=⟨0,0,0⟩) (by rw [List.reverse_reverse];exact hw) (by rw [EY hN hd B];lia);rw [List.reverse_reverse,EY hN hd B,EY hN hd B,EY hN hd B,EY hN hd B,Nat.add_zero] at e2;have hz:ad ⟨0,0,0⟩ (sm c1 es) (sm c2 es) (sm c3 es)=cs es:=by simp [ad,cs]
 rw [hz] at e2;rw [<-hl] at e1;have e:=e1.trans e2 (by simp only [tot,cs];lia);have h0:tot (⟨0,0,0⟩:Cn)<=m:=by simp only [tot];lia
 by_cases hle:tot (cs es)<=m
 ·rw [if_pos hle];obtain ⟨j,ej⟩:=(e h0).1 hle;exact W6 (ej 1) (by intro z;cases z)
 ·rw [if_neg hle];obtain ⟨j,ej⟩:=(e h0).2 (by lia);exact W6 (ej 1) (by intro z;cases z)
end
theorem aFj {c:FT} {body:FS} {n:Nat} {ρ:List D} (h1:c ρ=.ok false):RJ c body (n+1) ρ=.ok (.nx ρ):=by
 rw [RJ,h1];rfl
theorem aBi {c:FT} {body:FS} {n:Nat} {ρ ρ':List D} {r:Res Fl} (h1:c ρ=.ok true) (h2:body ρ=.ok (.nx ρ')) (h3:RJ c body n ρ'=r):RJ c body (n+1) ρ=r:=by
 rw [RJ,h1,Res.aU,if_pos rfl,h2];exact h3
theorem aFk {i j:Nat} {ρ xs:List D} {x:D} (h:ρ.getD i .uD=.lst (xs++[x])) {ρ':List D} (he:(ρ.set i (.lst xs)).set j x=ρ'):V2 i j ρ=.ok (.nx ρ'):=by
 subst he;unfold V2;rw [h];dsimp only;rw [List.length_append,List.length_singleton,Nat.add_sub_cancel,List.getElem?_append_right (Nat.le_refl _),Nat.sub_self,List.dropLast_concat];rfl
theorem aIt {i:Nat} {ρ:List D} {f:FE} {xs ys:List D} (h1:f ρ=.ok (.lst ys)) (h2:ρ.getD i .uD=.lst xs) (hl:xs.length+ys.length<=10000) (hp:D.aG ys=true):aJl i f ρ=.ok (.nx (ρ.set i (.lst (xs++ys)))):=by
 unfold aJl;rw [h1,Res.aU,h2];dsimp only;rw [if_pos (by rw [hp,bQ,decide_eq_true (by lia)];rfl)]
theorem oR {a:FA} {ρ xs:List D} (h:a ρ=.ok xs) (hl:xs.length<=lim):cP a ρ=.ok (.lst xs):=by
 unfold cP;rw [h,Res.aU,if_pos (decide_eq_true hl)];rfl
theorem aLn:n6=bA (cJ true 1 (cP aV) true) (bA (cJ true 2 (cP (aC (bPu iI) aV)) true) (bA (aKq oc ob) (xQ (aX g8 (aC e_ aV)) false))):=rfl
theorem aIu {a b x:D} (l:List D):oc [a,b,.lst l,x]=.ok (!l.isEmpty):=rfl
theorem YG (ns:List Int) (k:Nat):∃r:Int,dR [.scr (ns.map D.int),.int k]=.ok (.int r):=by
 have hl:m5 [.scr (ns.map D.int)]=.ok (.int ns.length):=by
  show Res.ok (D.int ((ns.map D.int).length:Int))=_;rw [List.length_map]
 by_cases h:k<ns.length
 ·obtain ⟨r,hr⟩:=aF8 ns k (by lia) (by lia);exact ⟨r,call_v (XQ (aA7 (j8 (aL rfl (bG (aH rfl rfl) hl) ((DR _ _).trans (by rw [decide_eq_true (by lia)])))) (oJ (aL rfl rfl hr) rfl)))⟩
 ·exact ⟨0,call_v (aP (HJ (j8 (aL rfl (bG (aH rfl rfl) hl) ((DR _ _).trans (by rw [decide_eq_false (by lia)])))) rfl) (oJ rfl rfl))⟩
theorem JK {f:Nat->D} {lo hi:Nat} (h1:lo<=hi) (h2:hi<=26):cutD ((List.range 26).map f) (some (lo:Int)) (some (hi:Int))=(List.range (hi-lo)).map fun k=>f (lo+k):=by
 unfold cutD;rw [yX,yX,List.length_map,List.length_range,Nat.min_eq_left (show hi<=26 from h2),Nat.min_eq_left (show lo<=26 by lia)];apply List.ext_getElem
 ·simp;lia
 ·intro i h3 h4;rw [List.length_map,List.length_range] at h4;simp
theorem vO {α:Type} {f:α->D} {l:List α} {n:Nat} (h:l.length=n):m5 [.lst (l.map f)]=.ok (.int n):=by
 show Res.ok (D.int ((l.map f).length:Int))=_;rw [List.length_map,h]
theorem VG {α β:Type} (f:α->β) (xs:List α) (lo hi:Option Int):cutD (xs.map f) lo hi=(cutD xs lo hi).map f:=by
 unfold cutD;rw [List.length_map,List.map_take,List.map_drop]
theorem QG {a b:FT} {ρ:List D} {r:Res Bool} (h1:a ρ=.ok true) (h2:b ρ=r):PN a b ρ=r:=by
 unfold PN;rw [h1];exact h2
theorem aA8 {a b:FT} {ρ:List D} (h1:a ρ=.ok false):PN a b ρ=.ok false:=by
 unfold PN;rw [h1];rfl
def WO (N:List Str) (vs:List D) (W:List Nat):Prop:=vs.length<=W.length/\∀(y:D) (pre:List D) (fuel:Nat) (x:D),W.length<fuel->pre.length+W.length<=5000->∃x',RJ oc ob fuel [y,.lst pre,.lst vs.reverse,x]=.ok (.nx [y,.lst (pre++W.map (sy N)),.lst [],x'])
theorem aIv {N:List Str}:WO N [] []:=by
 refine ⟨Nat.le_refl _,fun y pre fuel x hf _=>?_⟩;obtain ⟨n,rfl⟩:∃n,fuel=n+1:=⟨fuel-1,by simp at hf;lia⟩
 refine ⟨x,?_⟩;rw [List.map_nil,List.append_nil];exact aFj (aIu [])
theorem YH {N:List Str} {i:Nat} {ps vs:List D} {z:D} {W:List Nat} (h:WO N (ps++vs) W) (hps:D.aG ps=true):WO N (.tup [sy N i,.tup ps,z]::vs) (i::W):=by
 obtain ⟨hlw,ih⟩:=h;rw [List.length_append] at hlw;refine ⟨by rw [List.length_cons,List.length_cons];lia,fun y pre fuel x hf hp=>?_⟩;rw [List.length_cons] at hf hp;obtain ⟨n,rfl⟩:∃n,fuel=n+1:=⟨fuel-1,by lia⟩
 obtain ⟨x',hx⟩:=ih y (pre++[sy N i]) n (.tup [sy N i,.tup ps,z]) (by lia) (by rw [List.length_append,List.length_singleton];lia);refine ⟨x',?_⟩;refine aBi (ρ':=[y,.lst (pre++[sy N i]),.lst (vs.reverse++ps.reverse),.tup [sy N i,.tup ps,z]]) ((aIu _).trans (by simp)) ?_ ?_
 ·refine aP (aFk (by rw [List.reverse_cons];rfl) rfl) ?_;refine aP (vB (aL rfl rfl rfl) rfl (by rw [bQ];lia) rfl) ?_;refine aIt (Q8 (aL rfl rfl rfl) ?_) rfl (by rw [List.length_reverse,List.length_reverse];lia) ?_
  ·show (if D.aG ps&&decide (ps.length<=lim) then Res.ok (D.lst ps.reverse) else .bad)=_;rw [if_pos (by rw [hps,Bool.true_and];exact decide_eq_true (by rw [bQ];lia))]
  ·have go:∀{l:List D},D.aG l=true->∀p∈l,p.pure=true:=by
    intro l;induction l with
    | nil=>intro _ p hp;cases hp
    | cons a l ih=>
     intro h p hp;rw [D.aG,Bool.and_eq_true] at h;rcases List.mem_cons.mp hp with rfl|hp
     ·exact h.1
     ·exact ih h.2 p hp
   exact nG fun p hp=>go hps p (List.mem_reverse.mp hp)
 ·rw [<-List.reverse_append,hx,List.append_assoc];rfl
theorem aMo {N:List Str}:∀(n:Nat) {vs:List D} {W:List Nat},WO N vs W->WO N (oV N n::vs) ((List.replicate n 2++[1])++W)
 | 0,vs,W,h=>YH (ps:=[]) h rfl
 | n+1,vs,W,h=>YH (ps:=[oV N n]) (aMo n h) (cA (eN N n) rfl)
theorem aLo:lA=bA rg0 (bA rg1 (bA rg2 (rg3))):=rfl
theorem aLp:lC=bA as0 (bA as1 (bA as2 (bA as3 (bA as4 (as5))))):=rfl
theorem aLq {N:List Str} {n:Nat} {ρ:List D}:bT 0 (oV N n::ρ)=.ok (oV N n):=by
 obtain ⟨a,b,e⟩:=aFh N n;rw [e];rfl
theorem aBj {N:List Str} {n:Nat} (hn:n<=900):gC [oV N n]=.ok (.tup ((nu n).map (sy N))):=by
 have h:=aMo (N:=N) n aIv;rw [List.append_nil] at h;have hl:=jB n;obtain ⟨x',hx⟩:=h.2 (oV N n) [] 1000 .uD (by show (nu n).length<1000;lia) (by show _+(nu n).length<=_;rw [List.length_nil];lia);refine call_v ?_;show n6 [oV N n,.uD,.uD,.uD]=_;rw [aLn];have hv:=eN N n;refine aP (iM rfl rfl) ?_;refine aP (iM (oR (aH (yU aLq hv) rfl) (by rw [bQ];show 1<=_;decide)) (cA hv rfl)) ?_;refine aP hx ?_;refine oJ (bG (aH rfl rfl) rfl) ?_;show (false||D.aG ((nu n).map (sy N)))=true;rw [bB];rfl
noncomputable abbrev cI (c:Cn):List D:=[.int c.c,.int c.p,.int c.d]
def foC (N:List Str) (W:List Nat) (c:Cn):D:=.tup (.tup (W.map (sy N))::cI c)
theorem NP {N:List Str}:∀W:List Nat,zX (W.map (sy N)) (W.map (sy N))=true
 | []=>rfl
 | i::W=>by
  show ((N.getD i "")==(N.getD i "")&&zX (W.map (sy N)) (W.map (sy N)))=true;rw [NP W];simp
theorem aFl {N:List Str} (W:List Nat):mO .ne (.lst (W.map (sy N))) (.lst (W.map (sy N)))=.ok (.bl false):=by
 have h:(D.lst (W.map (sy N))).cL bH=true:=by
  unfold bH;rw [D.cL];exact M4 N _ W
 show (if (D.lst (W.map (sy N))).cL bH&&(D.lst (W.map (sy N))).cL bH then Res.ok (D.bl (!eqD (.lst (W.map (sy N))) (.lst (W.map (sy N))))) else .bad)=_;rw [h,show eqD (.lst (W.map (sy N))) (.lst (W.map (sy N)))=true from NP W];rfl
theorem aBk {N:List Str} {W:List Nat} {c:Cn}:fO [foC N W c,.lst (W.map (sy N)),.lst (cI c)]=.ok (.bl true):=by
 refine call_v ?_;show lA [foC N W c,.lst (W.map (sy N)),.lst (cI c),.uD]=_;rw [aLo];refine aP (HJ (yW (x:=false) rfl rfl) rfl) ?_;have hl:PP [.tup (W.map (sy N))]=.ok (.lst (W.map (sy N))):=by
  show (if D.aG (W.map (sy N)) then Res.ok (D.lst (W.map (sy N))) else .bad)=_;rw [bB];rfl
 refine aP (HJ (yW (x:=false) rfl (j8 (aL (bG (aH rfl rfl) hl) rfl (aFl W)))) rfl) ?_;have cc:∀x:Int,mO .ne (.int x) (.int x)=.ok (.bl false):=fun x=>(aF7 _ _).trans (by simp)
 have t1:aJp [foC N W c,.lst (W.map (sy N)),.lst (cI c),.int 1]=.ok (.nx [foC N W c,.lst (W.map (sy N)),.lst (cI c),.int 1]):=HJ (yW (x:=false) rfl (yW (x:=false) rfl (j8 (aL rfl rfl (cc _))))) rfl;have t2:aJp [foC N W c,.lst (W.map (sy N)),.lst (cI c),.int 2]=.ok (.nx [foC N W c,.lst (W.map (sy N)),.lst (cI c),.int 2]):=HJ (yW (x:=false) rfl (yW (x:=false) rfl (j8 (aL rfl rfl (cc _))))) rfl;have t3:aJp [foC N W c,.lst (W.map (sy N)),.lst (cI c),.int 3]=.ok (.nx [foC N W c,.lst (W.map (sy N)),.lst (cI c),.int 3]):=HJ (yW (x:=false) rfl (yW (x:=false) rfl (j8 (aL rfl rfl (cc _))))) rfl;refine aP (ρ':=[foC N W c,.lst (W.map (sy N)),.lst (cI c),.int 3]) (wK (show cO (cP (aC dO (aC jV (aC jW aV)))) true [foC N W c,.lst (W.map (sy N)),.lst (cI c),.uD]=.ok ([.int 1,.int 2,.int 3],true) from rfl) ?_) rfl;exact dB rfl t1 (dB rfl t2 (dB rfl t3 rfl))
theorem aCn {f:List D->Res D} {a:FA} {ρ ds:List D} {r:Res D} (h1:a ρ=.ok ds) (h2:f ds=r):aX f a ρ=r:=by
 unfold aX;rw [h1];exact h2
theorem aIw {a b:FE} {ρ:List D} {r:Res D} (h1:a ρ=.ok (.bl true)) (h2:b ρ=r):Z2 a b ρ=r:=by
 unfold Z2;rw [h1];exact h2
structure Cok (c:Cn):Prop where
 c0:0<=c.c/\c.c<=1000
 p0:0<=c.p/\c.p<=1000
 d0:0<=c.d/\c.d<=1000
theorem YJ {c:Cn} (h:Cok c):j_ [.lst (cI c)]=.ok (.int (tot c)):=by
 obtain ⟨⟨a1,a2⟩,⟨b1,b2⟩,⟨d1,d2⟩⟩:=h;show (if (([c.c,c.p,c.d].all fun i=>decide (-1000<=i)&&decide (i<=1000))&&decide (([c.c,c.p,c.d]:List Int).length<=100000))=true then Res.ok (D.int [c.c,c.p,c.d].sum) else .bad)=_;rw [if_pos (by
  simp only [List.all_cons,List.all_nil];rw [decide_eq_true (show -1000<=c.c by lia),decide_eq_true a2,decide_eq_true (show -1000<=c.p by lia),decide_eq_true b2,decide_eq_true (show -1000<=c.d by lia),decide_eq_true d2];rfl)]
 simp only [List.sum_cons,List.sum_nil,tot];rw [show c.c+(c.p+(c.d+0))=c.c+c.p+c.d from by lia]
theorem aBl {N:List Str} {pr W:List D} {V:List Nat} {c:Cn} {b:Int} (hc:Cok c) (h:∀m:Int,0<=m->cW [.tup pr,.tup W,.int m]=if tot c<=m then .ok (foC N V c) else .err "Spent" [.exc "Spent" []]) (hb:-1<=b):dD [.tup pr,.tup W,.lst (V.map (sy N)),.lst (cI c),.int b]=.ok (.bl true):=by
 refine call_v ?_;show lC [.tup pr,.tup W,.lst (V.map (sy N)),.lst (cI c),.int b,.uD,.uD,.uD]=_;rw [aLp];refine aP (bR rfl) ?_;refine aP (bR rfl) ?_;obtain ⟨m,hm⟩:∃m:Int,m=if b<0 then 400 else b:=⟨_,rfl⟩
 have hm0:0<=m:=by rw [hm];split <;> lia
 have hw:=h m hm0;have hcd:noE (bTB (b2 (nH .lt) gQ fZ)) [.tup pr,.tup W,.lst (V.map (sy N)),.lst (cI c),.int b,.non,.non,.uD]=.ok (decide (b<0)):=WL (j8 (aL rfl rfl (DR _ _)));have a2:noE (aC iI (aC e_ aV)) [.tup pr,.tup W,.lst (V.map (sy N)),.lst (cI c),.int b,.non,.non,.uD]=.ok [.tup pr,.tup W]:=WL (aH rfl (aH rfl rfl));have a3:noE (aC iI (aC e_ (aC gQ aV))) [.tup pr,.tup W,.lst (V.map (sy N)),.lst (cI c),.int b,.non,.non,.uD]=.ok [.tup pr,.tup W,.int b]:=WL (aH rfl (aH rfl (aH rfl rfl)));have suite:∀R:Res D,cW [.tup pr,.tup W,.int m]=R->(sIf (noE (bTB (b2 (nH .lt) gQ fZ))) (cJ false 5 (aX (MT 3 cW [.int 400]) (noE (aC iI (aC e_ aV)))) true) (cJ false 5 (aX (MT 3 cW []) (noE (aC iI (aC e_ (aC gQ aV))))) true)) [.tup pr,.tup W,.lst (V.map (sy N)),.lst (cI c),.int b,.non,.non,.uD]=(R.bind fun d=>.ok (.nx [.tup pr,.tup W,.lst (V.map (sy N)),.lst (cI c),.int b,d,.non,.uD])):=fun R hR=>by
  by_cases hlt:b<0
  ·rw [if_pos hlt] at hm;subst hm;refine aA7 (hcd.trans (by rw [decide_eq_true hlt])) ?_;unfold cJ;rw [show aX (MT 3 cW [.int 400]) (noE (aC iI (aC e_ aV))) [.tup pr,.tup W,.lst (V.map (sy N)),.lst (cI c),.int b,.non,.non,.uD]=R from aCn a2 ((eZ rfl).trans hR)];cases R <;> rfl
  ·rw [if_neg hlt] at hm;subst hm;refine HJ (hcd.trans (by rw [decide_eq_false hlt])) ?_;unfold cJ;rw [show aX (MT 3 cW []) (noE (aC iI (aC e_ (aC gQ aV)))) [.tup pr,.tup W,.lst (V.map (sy N)),.lst (cI c),.int m,.non,.non,.uD]=R from aCn a3 ((eZ rfl).trans hR)];cases R <;> rfl
 have gm:∀ρ:List D,bT 4 ρ=.ok (.int b)->b2 getD (cP (aC (bPu gQ) (aC wH aV))) (aX aG0 (aC (b2 (nH .lt) gQ fZ) aV)) ρ=.ok (.int m):=fun ρ v4=>by
  have e1:cP (aC (bPu gQ) (aC wH aV)) ρ=.ok (.lst [.int b,.int 400]):=oR (aH (yU v4 rfl) (aH rfl rfl)) (by rw [bQ];simp);have e2:aX aG0 (aC (b2 (nH .lt) gQ fZ) aV) ρ=.ok (.int (if decide (b<0) then 1 else 0)):=bG (aH (aL v4 rfl (DR _ _)) rfl) rfl;refine aL e1 e2 ?_;rw [hm];by_cases hlt:b<0
  ·rw [decide_eq_true hlt,if_pos hlt];rfl
  ·rw [decide_eq_false hlt,if_neg hlt];rfl
 have g3:∀ρ:List D,bT 3 ρ=.ok (.lst (cI c))->bT 4 ρ=.ok (.int b)->bTB (b2 (nH .le) (aX j_ (aC fB aV)) (b2 getD (cP (aC (bPu gQ) (aC wH aV))) (aX aG0 (aC (b2 (nH .lt) gQ fZ) aV)))) ρ=.ok (decide (tot c<=m)):=fun ρ v3 v4=>j8 (aL (bG (aH v3 rfl) (YJ hc)) (gm ρ v4) (XR _ _))
 by_cases hle:tot c<=m
 ·rw [if_pos hle] at hw;have e2:as2 [.tup pr,.tup W,.lst (V.map (sy N)),.lst (cI c),.int b,.non,.non,.uD]=.ok (.nx [.tup pr,.tup W,.lst (V.map (sy N)),.lst (cI c),.int b,foC N V c,.non,.uD]):=by
   unfold as2 W_;rw [suite _ hw];rfl
  refine aP e2 (XQ (aA7 ((g3 _ rfl rfl).trans (by rw [decide_eq_true hle])) ?_));have hr:aX (oF 3 fO) (aC uT (aC fQ (aC fB aV))) [.tup pr,.tup W,.lst (V.map (sy N)),.lst (cI c),.int b,foC N V c,.non,.uD]=.ok (.bl true):=bG (aH rfl (aH rfl (aH rfl rfl))) ((eZ rfl).trans aBk);exact oJ (aIw rfl hr) rfl
 ·rw [if_neg hle] at hw;have e2:as2 [.tup pr,.tup W,.lst (V.map (sy N)),.lst (cI c),.int b,.non,.non,.uD]=.ok (.nx [.tup pr,.tup W,.lst (V.map (sy N)),.lst (cI c),.int b,.non,.exc "Spent" [],.uD]):=by
   unfold as2 W_;rw [suite _ hw];rfl
  refine aP e2 (aP (HJ ((g3 _ rfl rfl).trans (by rw [decide_eq_false hle])) rfl) ?_);rfl
theorem YK {a i:Nat} {t:D->List D->Res (List D)} {body:FS} {n k:Nat} {ρ ys:List D} (h1:ρ.getD i .uD=.cel a ys) (h2:ys[k]?=none):forL a i t body (n+1) k ρ=.ok (.nx ρ):=by
 rw [forL,h1];dsimp only;rw [if_pos rfl,h2]
theorem YL {a i:Nat} {t:D->List D->Res (List D)} {body:FS} {n k:Nat} {ρ ρ1 ρ2 ys:List D} {x:D} {r:Res Fl} (h1:ρ.getD i .uD=.cel a ys) (h2:ys[k]?=some x) (h3:t x ρ=.ok ρ1) (h4:body ρ1=.ok (.nx ρ2)) (h5:forL a i t body n (k+1) ρ2=r):forL a i t body (n+1) k ρ=r:=by
 rw [forL,h1];dsimp only;rw [if_pos rfl,h2];dsimp only;rw [h3,Res.aU,h4];exact h5
theorem aLr:kW=bA ru0 (bA ru1 (bA ru2 (bA ru3 (bA ru4 (bA ru5 (bA ru6 (bA ru7 (ru8)))))))):=rfl
abbrev nmL (N:List Str):List D:=(List.range 26).map (sy N)
def itN (N:List Str) (x:Nat):D:=if x<100 then sy N x else .int ((x-100:Nat):Int)
def glD (N:List Str) (g:Gl):D:=.tup [sy N g.1,sy N g.2.1,.int g.2.2.1,.scr (g.2.2.2.map (itN N))]
theorem zG {f:FE} {ρ xs:List D} {is:List Nat} (h:f ρ=.ok (.lst xs)) (hl:xs.length=is.length) {ρ':List D} (he:G3 is xs ρ=ρ'):IV f is ρ=.ok (.nx ρ'):=by
 subst he;unfold IV;rw [h,Res.aU];dsimp only;rw [if_pos (decide_eq_true hl)]
section
variable {N:List Str}
theorem aIx {ρ:List D} {L:List Ru} {r:Ru} {f:FE} (hf:f ρ=.ok (ruD N r)) (h9:ρ.getD 9 .uD=.lst (L.map (ruD N))) (hl:L.length<100) {ρ':List D} (he:ρ.set 9 (.lst ((L++[r]).map (ruD N)))=ρ'):RG 9 f ρ=.ok (.nx ρ'):=by
 rw [List.map_append] at he;exact (vB hf h9 (by rw [List.length_map,bQ];lia) (lE ..)).trans (by rw [<-he];rfl)
theorem aNn {a:FE} {ρ:List D} {x:D} (h:a ρ=.ok x):gU (aC a aV) ρ=.ok (.tup [x]):=j9 (aH h rfl) (by rw [bQ];simp)
theorem aNo {a b:FE} {ρ:List D} {x y:D} (h:a ρ=.ok x) (h2:b ρ=.ok y):gU (aC a (aC b aV)) ρ=.ok (.tup [x,y]):=j9 (aH h (aH h2 rfl)) (by rw [bQ];simp)
theorem aLs {a b c d:FE} {ρ:List D} {x y z w:D} (h:a ρ=.ok x) (h2:b ρ=.ok y) (h3:c ρ=.ok z) (h4:d ρ=.ok w):gU (aC a (aC b (aC c (aC d aV)))) ρ=.ok (.tup [x,y,z,w]):=j9 (aH h (aH h2 (aH h3 (aH h4 rfl)))) (by rw [bQ];simp)
end
abbrev sr (N:List Str) (g7 x8:D) (L:List Ru) (a b c d e o w x:D):List D:=[.lst (nmL N),sy N 1,sy N 2,sy N 3,sy N 4,sy N 5,sy N 6,g7,x8,.lst (L.map (ruD N)),a,b,c,d,e,o,w,x]
section
variable {N:List Str} {x8:D} {L:List Ru} {a b c d e:D} {o:List Nat}
theorem aBm {i:Nat} {t:D->List D->Res (List D)} {body:FS} {ρ xs:List D} {r:Res Fl} (h1:bT i ρ=.ok (.scr xs)) (h2:zY t body xs ρ=r):aAf i t body ρ=r:=by
 unfold aAf;rw [h1,Res.aU];exact h2
theorem aCo (ho:o.length<=10):∀(xs W:List Nat) (x:D),(∀y∈xs,100<=y->y-100<o.length)->W.length+xs.length<=100->∃x',∀g7,zY (tg1 17) rbw (xs.map (itN N)) (sr N g7 x8 L a b c d e (.lst (o.map (sy N))) (.lst (W.map (sy N))) x)=.ok (.nx (sr N g7 x8 L a b c d e (.lst (o.map (sy N))) (.lst ((W++xs.map (wof o)).map (sy N))) x'))
 | [],W,x,_,_=>⟨x,fun g7=>by rw [List.map_nil,List.map_nil,List.append_nil];rfl⟩
 | y::xs,W,x,hy,hl=>by
  rw [List.length_cons] at hl;obtain ⟨x',ih⟩:=aCo ho xs (W++[wof o y]) (itN N y) (fun z hz=>hy z (by simp [hz])) (by rw [List.length_append,List.length_singleton];lia);refine ⟨x',fun g7=>?_⟩;rw [List.map_cons,List.map_cons,show W++wof o y::xs.map (wof o)=W++[wof o y]++xs.map (wof o) from by simp];refine dB rfl ?_ (ih g7);rw [List.map_append];by_cases h:y<100
  ·have e1:itN N y=sy N y:=by unfold itN;rw [if_pos h]
   have e2:wof o y=y:=by unfold wof;rw [if_pos h]
   rw [e1,e2];exact HJ (aFd (Q8 rfl rfl)) (vB rfl rfl (by rw [List.length_map,bQ];lia) rfl)
  ·have e1:itN N y=.int ((y-100:Nat):Int):=by unfold itN;rw [if_neg h]
   have h2:=hy y (by simp) (by lia);have e2:wof o y=o[y-100]:=by unfold wof;rw [if_neg h,List.getD_eq_getElem?_getD,List.getElem?_eq_getElem h2];rfl
   rw [e1,e2];exact aA7 (aFd (Q8 rfl rfl)) (vB (aL rfl rfl (xJ rfl (List.getElem?_eq_getElem h2))) rfl (by rw [List.length_map,bQ];lia) rfl)
end
section
variable {N:List Str} {x8:D}
theorem YM {i:Nat} {ρ:List D} {d y:D} (h:bT i ρ=.ok y) (hi:i<ρ.length):bT i (ρ++[d])=.ok y:=by
 unfold bT at h ⊢;rw [List.getD_eq_getElem?_getD,List.getElem?_append_left hi,<-List.getD_eq_getElem?_getD];exact h
theorem aFm {n:Nat} {ρ:List D} {i:Int} (h:ρ.length=n):bT n (ρ++[.int i])=.ok (.int i):=by
 unfold bT;rw [List.getD_eq_getElem?_getD,List.getElem?_append_right (by lia),h,Nat.sub_self];rfl
theorem aLt {ρ:List D} {r n:Nat} {L:List Ru} (hρ:ρ.length=18) (hr:L.length=r) (hr2:r<=100) (hn:n<=100) (v0:bT 0 ρ=.ok (.lst (nmL N))) (v12:bT 12 ρ=.ok (.int n)) (v9:bT 9 ρ=.ok (.lst (L.map (ruD N)))) (v14:bT 14 ρ=.ok (.int (1+(r:Int) % 4))):jQ 18 (vQ (aC lY aV) uU) GX j7 (b2 getD iI (b2 (aR .add) aDj (b2 (aR .mod) (b2 (aR .add) (aX m5 (aC gD aV)) (b2 jH TX j6)) YX))) false ρ=.ok (.lst ((Y8 r n).map (sy N))):=by
 have ll:m5 [.lst (L.map (ruD N))]=.ok (.int r):=vO hr;have hit:vQ (aC lY aV) uU ρ=.ok ((List.range n).map fun (k:Nat)=>D.int (0+(k:Int)),true):=by
  have:=VB (f:=aC lY aV) (ρ:=ρ) (aH v12 rfl) (by lia) (by lia);rw [Int.toNat_natCast] at this;exact this
 have e:(Y8 r n).map (sy N)=(List.range n).map fun j:Nat=>sy N (13+(r+j*(1+r % 4)) % 5):=by
  unfold Y8;rw [List.map_map];rfl
 rw [e];refine nF (fun k:Nat=>D.int (0+(k:Int))) (fun j:Nat=>sy N (13+(r+j*(1+r % 4)) % 5)) (List.range n) hρ hit (by rw [List.length_range];lia) fun j hj=>⟨?_,rfl⟩
 have e1:((j*(1+r % 4):Nat):Int)=(0+(j:Int))*(1+(r:Int) % 4):=by
  rw [Int.natCast_mul,Int.zero_add]
  congr 1
 have f1:b2 jH TX j6 (ρ++[.int (0+(j:Int))])=.ok (.int ((0+(j:Int))*(1+(r:Int) % 4))):=aL (aFm hρ) (YM v14 (by lia)) (mH _ _ (jJ _ (by lia) (by lia)));have f2:aX m5 (aC gD aV) (ρ++[.int (0+(j:Int))])=.ok (.int r):=bG (aH (YM v9 (by lia)) rfl) ll;have f3:b2 (aR .add) aDj (b2 (aR .mod) (b2 (aR .add) (aX m5 (aC gD aV)) (b2 jH TX j6)) YX) (ρ++[.int (0+(j:Int))])=.ok (.int (13+((r:Int)+(0+(j:Int))*(1+(r:Int) % 4)) % 5)):=aL rfl (aL (aL f2 f1 (bW _ _)) rfl (cZ _ _ (by decide))) (bW _ _);exact aL (YM v0 (by lia)) f3 (aFc (by rw [<-e1];lia) (by lia))
theorem aIy {ρ:List D} {g:Gl} {o W:List Nat} (v10:bT 10 ρ=.ok (sy N g.1)) (v11:bT 11 ρ=.ok (sy N g.2.1)) (v15:bT 15 ρ=.ok (.lst (o.map (sy N)))) (v16:bT 16 ρ=.ok (.lst (W.map (sy N)))):(gU (aC dH (aC dN (aC (aX g8 (aC TV aV)) (aC (aX g8 (aC (bT 16) aV)) aV))))) ρ=.ok (ruD N (g.1,g.2.1,o,W)):=
 aLs v10 v11 (bG (aH v15 rfl) rfl) (bG (aH v16 rfl) rfl)
theorem aIz {L:List Ru} (hl:L.length<=20) {g:Gl} (hg:g.2.2.1<=5/\g.2.2.2.length<=50/\∀y∈g.2.2.2,100<=y->y-100<g.2.2.1) (e o w x:D):∃e' o' w' x',∀g7,rbb (sr N g7 x8 L (sy N g.1) (sy N g.2.1) (.int g.2.2.1) (.scr (g.2.2.2.map (itN N))) e o w x)=.ok (.nx (sr N g7 x8 (L++[mkR L.length g]) (sy N g.1) (sy N g.2.1) (.int g.2.2.1) (.scr (g.2.2.2.map (itN N))) e' o' w' x')):=by
 obtain ⟨h5,h50,hy⟩:=hg;have lo:(Y8 L.length g.2.2.1).length=g.2.2.1:=by unfold Y8;rw [List.length_map,List.length_range]
 have hmk:mkR L.length g=(g.1,g.2.1,Y8 L.length g.2.2.1,g.2.2.2.map (wof (Y8 L.length g.2.2.1))):=rfl;rw [hmk];generalize ho:Y8 L.length g.2.2.1=O at lo ⊢;generalize hn:L.length=n at ho hl;obtain ⟨x',hx⟩:=aCo (o:=O) (by lia) g.2.2.2 [] x (by rw [lo];exact hy) (by rw [List.length_nil];lia);rw [List.nil_append] at hx;refine ⟨.int (1+(n:Int) % 4),.lst (O.map (sy N)),.lst ((g.2.2.2.map (wof O)).map (sy N)),x',fun g7=>?_⟩;have ll:m5 [.lst (L.map (ruD N))]=.ok (.int n):=vO hn;have s0:rb0 (sr N g7 x8 L (sy N g.1) (sy N g.2.1) (.int g.2.2.1) (.scr (g.2.2.2.map (itN N))) e o w x)=.ok (.nx (sr N g7 x8 L (sy N g.1) (sy N g.2.1) (.int g.2.2.1) (.scr (g.2.2.2.map (itN N))) (.int (1+(n:Int) % 4)) o w x)):=bR (aL rfl (aL (bG (aH rfl rfl) ll) rfl (cZ _ _ (by decide))) (bW _ _));have s1:rb1 (sr N g7 x8 L (sy N g.1) (sy N g.2.1) (.int g.2.2.1) (.scr (g.2.2.2.map (itN N))) (.int (1+(n:Int) % 4)) o w x)=.ok (.nx (sr N g7 x8 L (sy N g.1) (sy N g.2.1) (.int g.2.2.1) (.scr (g.2.2.2.map (itN N))) (.int (1+(n:Int) % 4)) (.lst (O.map (sy N))) w x)):=by
  rw [<-ho];exact bR (aLt rfl hn (by lia) (by lia) rfl rfl rfl rfl)
 have s2:rb2 (sr N g7 x8 L (sy N g.1) (sy N g.2.1) (.int g.2.2.1) (.scr (g.2.2.2.map (itN N))) (.int (1+(n:Int) % 4)) (.lst (O.map (sy N))) w x)=.ok (.nx (sr N g7 x8 L (sy N g.1) (sy N g.2.1) (.int g.2.2.1) (.scr (g.2.2.2.map (itN N))) (.int (1+(n:Int) % 4)) (.lst (O.map (sy N))) (.lst []) x)):=iM rfl rfl;have s4:rb4 (sr N g7 x8 L (sy N g.1) (sy N g.2.1) (.int g.2.2.1) (.scr (g.2.2.2.map (itN N))) (.int (1+(n:Int) % 4)) (.lst (O.map (sy N))) (.lst ((g.2.2.2.map (wof O)).map (sy N))) x')=.ok (.nx (sr N g7 x8 (L++[(g.1,g.2.1,O,g.2.2.2.map (wof O))]) (sy N g.1) (sy N g.2.1) (.int g.2.2.1) (.scr (g.2.2.2.map (itN N))) (.int (1+(n:Int) % 4)) (.lst (O.map (sy N))) (.lst ((g.2.2.2.map (wof O)).map (sy N))) x')):=aIx (aIy rfl rfl rfl rfl) rfl (by lia) rfl;exact aP s0 (aP s1 (aP s2 (aP (aBm rfl (hx g7)) s4)))
end
theorem glk:∀g∈gl,g.2.2.1<=5/\g.2.2.2.length<=50/\∀y∈g.2.2.2,100<=y->y-100<g.2.2.1:=by decide
section
variable {N:List Str} {x8:D}
theorem aCp (fu:Nat):∀(n k:Nat) (L:List Ru) (a b c d e o w x:D),k+n=9->L.length=k->∃a' b' c' d' e' o' w' x',∀ad:Nat,forL ad 7 (tgN [10,11,12,13]) rbb (n+(fu+1)) k (sr N (.cel ad (gl.map (glD N))) x8 L a b c d e o w x)=.ok (.nx (sr N (.cel ad (gl.map (glD N))) x8 (L++(List.range' k n).map fun r=>mkR r (gl.getD r (0,0,0,[]))) a' b' c' d' e' o' w' x'))
 | 0,k,L,a,b,c,d,e,o,w,x,hk,hL=>⟨a,b,c,d,e,o,w,x,fun ad=>by
  rw [List.range'_zero,List.map_nil,List.append_nil];have hk9:k=9:=by lia
  subst hk9;rw [Nat.zero_add];exact YK rfl rfl⟩
 | n+1,k,L,a,b,c,d,e,o,w,x,hk,hL=>by
  have hlt:k<gl.length:=by show k<9;lia
  have hg:gl[k]?=some gl[k]:=List.getElem?_eq_getElem hlt;obtain ⟨e1,o1,w1,x1,ht⟩:=aIz (L:=L) (by lia) (glk gl[k] (List.getElem_mem _)) e o w x;obtain ⟨a',b',c',d',e',o',w',x',ih⟩:=aCp fu n (k+1) (L++[mkR k gl[k]]) (sy N gl[k].1) (sy N gl[k].2.1) (.int gl[k].2.2.1) (.scr (gl[k].2.2.2.map (itN N))) e1 o1 w1 x1 (by lia) (by rw [List.length_append,List.length_singleton];lia);refine ⟨a',b',c',d',e',o',w',x',fun ad=>?_⟩;have hgd:gl.getD k (0,0,0,[])=gl[k]:=by rw [List.getD_eq_getElem?_getD,hg];rfl
  rw [List.range'_succ,List.map_cons,hgd];have h2:=ht (.cel ad (gl.map (glD N)));rw [hL] at h2;have ihh:=ih ad;rw [List.append_assoc] at ihh;rw [show n+1+(fu+1)=(n+(fu+1))+1 from by lia];exact YL rfl (by rw [List.getElem?_map,hg];rfl) rfl h2 ihh
end
theorem aLu:iT=bA pg0 (bA pg1 (bA pg2 (bA pg3 (bA pg4 (bA pg5 (bA pg6 (bA pg7 (pg8)))))))):=rfl
section
variable {N:List Str}
theorem aBn:iC [.lst (nmL N)]=.ok (.lst (R0.map (ruD N))):=by
 refine call_v ?_;show kW [.lst (nmL N),.uD,.uD,.uD,.uD,.uD,.uD,.uD,.uD,.uD,.uD,.uD,.uD,.uD,.uD,.uD,.uD,.uD]=_;rw [aLr];refine aP (zG ((mK rfl (fU rfl) (fU rfl) (bB N _)).trans (congrArg (fun z=>Res.ok (D.lst z)) (JK (lo:=1) (hi:=7) (by lia) (by lia)))) rfl rfl) ?_;generalize hNL:nmL N=NL;refine aP (ρ':=[.lst NL,sy N 1,sy N 2,sy N 3,sy N 4,sy N 5,sy N 6,.lst ((gl.take 3).map (glD N)),.uD,.uD,.uD,.uD,.uD,.uD,.uD,.uD,.uD,.uD]) rfl ?_;refine aP rfl ?_;refine aP rfl ?_;refine aP rfl ?_;refine aP rfl ?_;refine aP rfl ?_;subst hNL;obtain ⟨a',b',c',d',e',o',w',x',hlp⟩:=aCp 9990 9 0 [] .uD .uD .uD .uD .uD .uD .uD .uD rfl rfl;rw [List.nil_append,<-List.range_eq_range'] at hlp;refine aP (ρ':=sr N (.lst (gl.map (glD N))) (.scr ([4,101,4,102,4,101,4,102,4,101,6,100,101,102].map (itN N))) R0 a' b' c' d' e' o' w' x') ?_ rfl;exact aEg (ρ':=sr N .uD (.scr ([4,101,4,102,4,101,4,102,4,101,6,100,101,102].map (itN N))) R0 a' b' c' d' e' o' w' x') (xs':=gl.map (glD N)) rfl (by show 7<18;decide) hlp
end
noncomputable def rot {α:Type} (k:Nat) (l:List α):List α:=l.drop k++l.take k
theorem fY {α:Type} (k:Nat) (l:List α):List.Perm (rot k l) l:=by
 have:=List.perm_append_comm (l₁:=l.drop k) (l₂:=l.take k);rw [List.take_append_drop] at this;exact this
theorem aFn {α:Type} {f:α->D} {l:List α} {a kx:FE} {ρ:List D} {k:Nat} (pf:∀x,(f x).pure=true) (h:a ρ=.ok (.lst (l.map f))) (hk:kx ρ=.ok (.int k)) (hl:l.length<=100):b2 (aR .add) (mQ a (dI kx) iJ) (mQ a iJ (dI kx)) ρ=.ok (.lst ((rot k l).map f)):=by
 have pr:D.aG (l.map f)=true:=b_ pf _;have ad:aR .add (.lst ((l.drop k).map f)) (.lst ((l.take k).map f))=.ok (.lst ((rot k l).map f)):=by
  show (if (decide (((l.drop k).map f).length+((l.take k).map f).length<=lim)&&D.aG ((l.drop k).map f)&&D.aG ((l.take k).map f))=true then Res.ok (D.lst (_++_)) else .bad)=_;unfold rot;rw [b_ pf,b_ pf,if_pos (by rw [List.length_map,List.length_map,List.length_drop,List.length_take,bQ,decide_eq_true (by lia)];rfl),List.map_append]
 exact aL ((mK h (fU hk) rfl pr).trans (by rw [aBa,<-List.map_drop])) ((mK h rfl (fU hk) pr).trans (by rw [aCi,<-List.map_take])) ad
theorem NQ {F G:List Rw} (p:List.Perm F G) (h:Hds G):Hds F:=⟨(p.map _).nodup_iff.mpr h.nd,fun r hr=>h.lt r (p.mem_iff.mp hr),by rw [p.length_eq];exact h.ln⟩
theorem aFo (i j k:Nat):Tab (rot i M0) (rot j T0) (rot k R0):=by
 have h1:Hds M0:=⟨by decide,by decide,by decide⟩
 have h2:Hds (M0++T0.map tr):=⟨by decide,by decide,by decide⟩
 have h3:Rls R0:=by
  rw [zE];exact ⟨by decide,by decide,by decide⟩
 refine ⟨fun r=>(fY i M0).mem_iff,fun r=>(fY j T0).mem_iff,fun r hr=>(fY k R0).mem_iff.mpr hr,NQ (fY i M0) h1,NQ ((fY i M0).append ((fY j T0).map tr)) h2,⟨((fY k R0).map _).nodup_iff.mpr h3.nd,fun r hr=>h3.lt r ((fY k R0).mem_iff.mp hr),by rw [(fY k R0).length_eq];exact h3.ln⟩⟩
theorem JL (x:Int) (n:Nat) (h:0<n):∃k:Nat,x % (n:Int)=k:=⟨(x % (n:Int)).toNat,by have:=Int.emod_nonneg x (show (n:Int)≠0 by lia);lia⟩
theorem Q9 {N:List Str} (cell:Int):∃i j k:Nat,fD [.lst (nmL N),.int cell]=.ok (aBg N [0] (rot i M0) (rot j T0) (rot k R0)):=by
 obtain ⟨i,hi⟩:=JL cell 3 (by decide);obtain ⟨j,hj⟩:=JL (cell / 3) 3 (by decide);obtain ⟨k,hk⟩:=JL (cell / 9) 9 (by decide);refine ⟨i,j,k,?_⟩;refine call_v ?_;show iT [.lst (nmL N),.int cell,.uD,.uD,.uD,.uD,.uD,.uD,.uD,.uD,.uD,.uD,.uD]=_;rw [aLu];refine aP (zG ((mK rfl rfl (fU rfl) (bB N _)).trans (congrArg (fun z=>Res.ok (D.lst z)) (aCi ((List.range 26).map (sy N)) 7))) rfl rfl) ?_;refine aP (bR rfl) ?_;have k1:∀ρ:List D,bT 1 ρ=.ok (.int cell)->b2 (aR .mod) e_ jW ρ=.ok (.int i):=fun ρ h=>(aL h rfl (cZ _ _ (by decide))).trans (by rw [<-hi];rfl)
 have k2:∀ρ:List D,bT 1 ρ=.ok (.int cell)->b2 (aR .mod) (b2 (aR .fdiv) e_ jW) jW ρ=.ok (.int j):=fun ρ h=>(aL (aL h rfl (dX _ _ (by decide) (by decide))) rfl (cZ _ _ (by decide))).trans (by rw [<-hj];rfl)
 have k3:∀ρ:List D,bT 1 ρ=.ok (.int cell)->bT 11 ρ=.ok (.lst (R0.map (ruD N)))->b2 (aR .mod) (b2 (aR .fdiv) e_ YZ) (aX m5 (aC dN aV)) ρ=.ok (.int k):=fun ρ h h2=>by
  have e1:b2 (aR .fdiv) e_ YZ ρ=.ok (.int (cell / 9)):=aL h rfl (dX _ _ (by decide) (by decide));have e2:aX m5 (aC dN aV) ρ=.ok (.int ((9:Nat):Int)):=bG (aH h2 rfl) (vO (by rw [zE];rfl));have e3:=aL e1 e2 (cZ (cell / 9) ((9:Nat):Int) (by decide));rw [hk] at e3;exact e3
 refine aP (ρ':=[.lst (nmL N),.int cell,sy N 0,sy N 1,sy N 2,sy N 3,sy N 4,sy N 5,sy N 6,.lst ((rot i M0).map (rwD N)),.uD,.uD,.uD]) (bR (aFn (vL N) rfl (k1 _ rfl) (by decide))) ?_;refine aP (iM rfl rfl) ?_;refine aP (vB (i:=10) (xs:=(T0.take 2).map (tkD N)) (d:=tkD N (6,0,0,[0,0])) (aLs rfl rfl rfl (aNo rfl rfl)) rfl (by rw [List.length_map,bQ];decide) (mJ ..)) ?_;refine aP (ρ':=[.lst (nmL N),.int cell,sy N 0,sy N 1,sy N 2,sy N 3,sy N 4,sy N 5,sy N 6,.lst ((rot i M0).map (rwD N)),.lst ((rot j T0).map (tkD N)),.uD,.uD]) (iM (i:=10) (aFn (mJ N) rfl (k2 _ rfl) (by decide)) (b_ (mJ N) _)) ?_;refine aP (ρ':=[.lst (nmL N),.int cell,sy N 0,sy N 1,sy N 2,sy N 3,sy N 4,sy N 5,sy N 6,.lst ((rot i M0).map (rwD N)),.lst ((rot j T0).map (tkD N)),.lst (R0.map (ruD N)),.uD]) (bR (i:=11) (bG (aH rfl rfl) ((eZ rfl).trans aBn))) ?_;refine aP (ρ':=[.lst (nmL N),.int cell,sy N 0,sy N 1,sy N 2,sy N 3,sy N 4,sy N 5,sy N 6,.lst ((rot i M0).map (rwD N)),.lst ((rot j T0).map (tkD N)),.lst (R0.map (ruD N)),.int k]) (bR (i:=12) (k3 _ rfl rfl)) ?_;refine oJ (aLs (aNn rfl) (bG (aH rfl rfl) rfl) (bG (aH rfl rfl) rfl) (bG (aH (aFn (lE N) rfl rfl (by rw [zE];decide)) rfl) rfl)) ?_;show (false||((D.tup [sy N 0]).pure&&((D.tup ((rot i M0).map (rwD N))).pure&&((D.tup ((rot j T0).map (tkD N))).pure&&((D.tup ((rot k R0).map (ruD N))).pure&&true)))))=true;rw [D.pure,D.pure,D.pure,D.pure,b_ (vL N),b_ (mJ N),b_ (lE N)];rfl
theorem aJ0 (N:List Str) (n i:Nat):List.replicate n (sy N i)=(List.replicate n i).map (sy N):=by rw [List.map_replicate]
theorem aFp {x:D} {n:Nat} (hx:x.pure=true) (hn:n<=1000):CT (.lst [x]) (.int n)=.ok (.lst (List.replicate n x)):=by
 show (if (decide (0<=(n:Int))&&decide ((n:Int)<=10000)&&x.pure)=true then Res.ok (D.lst (List.replicate (n:Int).toNat x)) else .bad)=_;rw [if_pos (by rw [hx,decide_eq_true (by lia),decide_eq_true (by lia)];rfl),Int.toNat_natCast]
theorem aFq {a b:List D} (ha:D.aG a=true) (hb:D.aG b=true) (hl:a.length+b.length<=10000):aR .add (.lst a) (.lst b)=.ok (.lst (a++b)):=by
 show (if (decide (a.length+b.length<=lim)&&D.aG a&&D.aG b)=true then Res.ok (D.lst (a++b)) else .bad)=_;rw [if_pos (by rw [ha,hb,decide_eq_true (by rw [bQ];lia)];rfl)]
theorem iH {N:List Str} {fa fb:FE} {ρ:List D} {a b:List Nat} (h1:fa ρ=.ok (.lst (a.map (sy N)))) (h2:fb ρ=.ok (.lst (b.map (sy N)))) (hl:a.length+b.length<=10000):b2 (aR .add) fa fb ρ=.ok (.lst ((a++b).map (sy N))):=by
 rw [List.map_append];exact aL h1 h2 (aFq (bB N _) (bB N _) (by rw [List.length_map,List.length_map];exact hl))
section
variable {N:List Str} {ρ:List D} {s:Nat}
theorem wC {f:FE} {i:Nat} (h:f ρ=.ok (sy N i)):cP (aC (bPu f) aV) ρ=.ok (.lst ([i].map (sy N))):=oR (aH (yU h rfl) rfl) (by rw [bQ];simp)
theorem JM {f g:FE} {i:Nat} (h:f ρ=.ok (sy N i)) (h2:g ρ=.ok (.int s)) (hs:s<=1000):b2 CT (cP (aC (bPu f) aV)) g ρ=.ok (.lst ((List.replicate s i).map (sy N))):=aL (wC h) h2 ((aFp rfl hs).trans (by rw [aJ0]))
end
theorem aLv:kZ=bA en0 (bA en1 (bA en2 (bA en3 (bA en4 (bA en5 (bA en6 (bA en7 (bA en8 (bA en9 (aL7)))))))))):=rfl
def enD (N:List Str) (e:En):D:=.lst [.scr ((wE e).map (sy N)),.int (vE e),.int (c1 e),.int (c2 e),.int (c3 e)]
def noP:En->Prop
 | .p _=>False
 | _=>True
theorem aFr {f:FE} {ρ xs:List D} (h:f ρ=.ok (.lst xs)) (hp:D.aG xs=true):bFz f ρ=.ok (.scr xs):=by
 unfold bFz;rw [h,Res.aU];dsimp only;rw [if_pos hp]
theorem YQ {N:List Str} {fa fb:FE} {ρ:List D} {x y:D} {a b:List Nat} (h1:fa ρ=.ok x) (hx:aIe x=some (a.map (sy N))) (h2:fb ρ=.ok y) (hy:aIe y=some (b.map (sy N))) (hl:a.length+b.length<=10000):b2 aF3 fa fb ρ=.ok (.lst ((a++b).map (sy N))):=by
 refine aL h1 h2 ?_;unfold aF3;rw [hx,hy];dsimp only;rw [bB,bB,if_pos (by rw [List.length_map,List.length_map,bQ,decide_eq_true (by lia)];rfl),List.map_append]
section
variable {N:List Str} {ρ:List D} {a b e:Nat}
theorem aJ1 {f g:FE} {i j:Nat} (h:f ρ=.ok (sy N i)) (h2:g ρ=.ok (sy N j)):cP (aC (bPu f) (aC (bPu g) aV)) ρ=.ok (.lst ([i,j].map (sy N))):=oR (aH (yU h rfl) (aH (yU h2 rfl) rfl)) (by rw [bQ];simp)
theorem aNp (ha:a<=100) (hb:b<=100) (v5:bT 5 ρ=.ok (sy N 4)) (v6:bT 6 ρ=.ok (sy N 5)) (v3:bT 3 ρ=.ok (sy N 2)) (v2:bT 2 ρ=.ok (sy N 1)) (v9:bT 9 ρ=.ok (.int a)) (v10:bT 10 ρ=.ok (.int b)):(bFz (b2 (aR .add) (b2 (aR .add) (b2 (aR .add) (b2 (aR .add) (cP (aC (bPu uT) (aC (bPu zH) aV))) (b2 CT (cP (aC (bPu fB) aV)) gD)) (cP (aC (bPu fQ) aV))) (b2 CT (cP (aC (bPu fB) aV)) dH)) (cP (aC (bPu fQ) aV)))) ρ=.ok (.scr ((wE (.t a b)).map (sy N))):=by
 have e1:=iH (aJ1 v5 v6) (JM v3 v9 (by lia)) (by simp;lia);have e2:=iH e1 (wC v2) (by simp;lia);have e3:=iH e2 (JM v3 v10 (by lia)) (by simp;lia);have e4:=iH e3 (wC v2) (by simp;lia);have e5:wE (.t a b)=[4,5]++List.replicate a 2++[1]++List.replicate b 2++[1]:=by simp [wE,nu]
 rw [e5];exact aFr e4 (bB N _)
theorem aLw (ha:a<=100) (v5:bT 5 ρ=.ok (sy N 4)) (v7:bT 7 ρ=.ok (sy N 6)) (v3:bT 3 ρ=.ok (sy N 2)) (v2:bT 2 ρ=.ok (sy N 1)) (v9:bT 9 ρ=.ok (.int a)):(bFz (b2 (aR .add) (b2 (aR .add) (cP (aC (bPu uT) (aC (bPu RB) aV))) (b2 CT (cP (aC (bPu fB) aV)) gD)) (cP (aC (bPu fQ) aV)))) ρ=.ok (.scr (([4,6]++List.replicate a 2++[1]).map (sy N))):=by
 have e1:=iH (aJ1 v5 v7) (JM v3 v9 (by lia)) (by simp;lia);exact aFr (iH e1 (wC v2) (by simp;lia)) (bB N _)
theorem aLx (ha:a<=100) (hb:b<=100) (he:e<=100) (v11:bT 11 ρ=.ok (.scr (([4,6]++List.replicate a 2++[1]).map (sy N)))) (v3:bT 3 ρ=.ok (sy N 2)) (v2:bT 2 ρ=.ok (sy N 1)) (v10:bT 10 ρ=.ok (.int b)) (v12:bT 12 ρ=.ok (.int e)):(bFz (b2 (aR .add) (b2 (aR .add) (b2 (aR .add) (b2 aF3 dN (b2 CT (cP (aC (bPu fB) aV)) dH)) (cP (aC (bPu fQ) aV))) (b2 CT (cP (aC (bPu fB) aV)) lY)) (cP (aC (bPu fQ) aV)))) ρ=.ok (.scr ((wE (.h a b e)).map (sy N))):=by
 have e1:=YQ v11 rfl (JM v3 v10 (by lia)) rfl (by simp;lia);have e2:=iH e1 (wC v2) (by simp;lia);have e3:=iH e2 (JM v3 v12 (by lia)) (by simp;lia);have e4:=iH e3 (wC v2) (by simp;lia);have e5:wE (.h a b e)=[4,6]++List.replicate a 2++[1]++List.replicate b 2++[1]++List.replicate e 2++[1]:=by simp [wE,nu]
 rw [e5];exact aFr e4 (bB N _)
theorem aNq (ha:a<=100) (hb:b<=100) {ws:List Nat} (v9:bT 9 ρ=.ok (.int a)) (v10:bT 10 ρ=.ok (.int b)) (v11:bT 11 ρ=.ok (.scr (ws.map (sy N)))):(cP (aC (bPu dN) (aC (b2 jH gD dH) (aC (b2 (aR .add) (b2 (aR .add) (b2 (aR .add) (b2 (aR .add) gD dO) (b2 jH gD (b2 (aR .add) dH dO))) (b2 jH gD dH)) dO) (aC (b2 jH gD (b2 (aR .add) dH dO)) (aC (b2 (aR .add) dH dO) aV)))))) ρ=.ok (.lst [.scr (ws.map (sy N)),.int ((a*b:Nat):Int),.int ((a+1+a*(b+1)+a*b+1:Nat):Int),.int ((a*(b+1):Nat):Int),.int ((b+1:Nat):Int)]):=by
 have m1:b2 jH gD dH ρ=.ok (.int ((a*b:Nat):Int)):=(aL v9 v10 (mH _ _ (jJ _ (by lia) (by lia)))).trans (by rw [Int.natCast_mul]);have p1:b2 (aR .add) dH dO ρ=.ok (.int ((b+1:Nat):Int)):=aL v10 rfl (bW _ _);have m2:b2 jH gD (b2 (aR .add) dH dO) ρ=.ok (.int ((a*(b+1):Nat):Int)):=(aL v9 p1 (mH _ _ (jJ _ (by lia) (by lia)))).trans (by rw [Int.natCast_mul]);have q1:=aL (aL (aL (aL v9 (rfl:bC (.int 1) ρ=.ok (.int 1)) (bW _ _)) m2 (bW _ _)) m1 (bW _ _)) (rfl:bC (.int 1) ρ=.ok (.int 1)) (bW _ _);have hq:((a:Int)+1+((a*(b+1):Nat):Int)+((a*b:Nat):Int)+1)=((a+1+a*(b+1)+a*b+1:Nat):Int):=by lia
 rw [hq] at q1;exact oR (aH (yU v11 (by rw [D.pure,bB])) (aH m1 (aH q1 (aH m2 (aH p1 rfl))))) (by rw [bQ];simp)
theorem aNr (ha:a<=100) {v s:Nat} (hs:s<=10000) {ws:List Nat} (v9:bT 9 ρ=.ok (.int a)) (v10:bT 10 ρ=.ok (.int b)) (v12:bT 12 ρ=.ok (.int e)) (v11:bT 11 ρ=.ok (.scr (ws.map (sy N)))) (v13:bT 13 ρ=.ok (.int v)) (v14:bT 14 ρ=.ok (.int s)):(cP (aC (bPu dN) (aC (bPu gR) (aC (b2 (aR .add) (b2 (aR .add) (b2 (aR .add) (b2 (aR .add) gD dO) (b2 jH gD j6)) gR) dO) (aC (b2 jH gD j6) (aC (b2 (aR .add) (b2 (aR .add) dH lY) jV) aV)))))) ρ=.ok (.lst [.scr (ws.map (sy N)),.int v,.int ((a+1+a*s+v+1:Nat):Int),.int ((a*s:Nat):Int),.int ((b+e+2:Nat):Int)]):=by
 have m1:b2 jH gD j6 ρ=.ok (.int ((a*s:Nat):Int)):=(aL v9 v14 (mH _ _ (jJ _ (by lia) (by lia)))).trans (by rw [Int.natCast_mul]);have q1:=aL (aL (aL (aL v9 (rfl:bC (.int 1) ρ=.ok (.int 1)) (bW _ _)) m1 (bW _ _)) v13 (bW _ _)) (rfl:bC (.int 1) ρ=.ok (.int 1)) (bW _ _);have hq:((a:Int)+1+((a*s:Nat):Int)+(v:Int)+1)=((a+1+a*s+v+1:Nat):Int):=by lia
 rw [hq] at q1;have q2:=aL (aL v10 v12 (bW _ _)) (rfl:bC (.int 2) ρ=.ok (.int 2)) (bW _ _);have hq2:((b:Int)+e+2)=((b+e+2:Nat):Int):=by lia
 rw [hq2] at q2;exact oR (aH (yU v11 (by rw [D.pure,bB])) (aH (yU v13 rfl) (aH q1 (aH m1 (aH q2 rfl))))) (by rw [bQ];simp)
end
abbrev ee (N:List Str) (cell:Int) (x8 x9 x10 x11 x12 x13 x14:D):List D:=[.lst (nmL N),.int cell,sy N 1,sy N 2,sy N 3,sy N 4,sy N 5,sy N 6,x8,x9,x10,x11,x12,x13,x14]
theorem aBo {N:List Str} (cell:Int):∃e:En,okE e/\noP e/\fM [.lst (nmL N),.int cell]=.ok (enD N e):=by
 have start:∀(R:Res Fl),bA en2 (bA en3 (bA en4 (bA en5 (bA en6 (bA en7 (bA en8 (bA en9 aL7))))))) (ee N cell (.int (cell / 2)) .uD .uD .uD .uD .uD .uD)=R->kZ [.lst (nmL N),.int cell,.uD,.uD,.uD,.uD,.uD,.uD,.uD,.uD,.uD,.uD,.uD,.uD,.uD]=R:=fun R h=>by
  rw [aLv];refine aP (zG ((mK rfl (fU rfl) (fU rfl) (bB N _)).trans (congrArg (fun z=>Res.ok (D.lst z)) (JK (lo:=1) (hi:=7) (by lia) (by lia)))) rfl rfl) ?_;exact aP (bR (aL rfl rfl (dX _ _ (by decide) (by decide)))) h
 have hc:bTB (b2 (mO .eq) (b2 (aR .mod) e_ jV) fZ) (ee N cell (.int (cell / 2)) .uD .uD .uD .uD .uD .uD)=.ok (cell % 2==0):=j8 (aL (aL rfl rfl (cZ _ _ (by decide))) rfl (yV _ _));by_cases h:cell % 2=0
 ·obtain ⟨a,ha,ha8⟩:∃a:Nat,cell / 2 % 9=a/\a<=8:=⟨(cell / 2 % 9).toNat,by lia,by lia⟩
  obtain ⟨b,hb,hb8⟩:∃b:Nat,cell / 2 / 9 % 9=b/\b<=8:=⟨(cell / 2 / 9 % 9).toNat,by lia,by lia⟩
  refine ⟨.t a b,⟨ha8,hb8⟩,trivial,call_v (start _ (XQ (aA7 (hc.trans (by rw [h];rfl)) ?_)))⟩;refine aP (bR ((aL rfl rfl (cZ _ _ (by decide))).trans (by rw [ha]))) ?_;refine aP (bR ((aL (aL rfl rfl (dX _ _ (by decide) (by decide))) rfl (cZ _ _ (by decide))).trans (by rw [hb]))) ?_;refine aP (bR (aNp (by lia) (by lia) rfl rfl rfl rfl rfl rfl)) ?_;exact oJ (aNq (by lia) (by lia) rfl rfl rfl) rfl
 ·obtain ⟨a,ha,ha8⟩:∃a:Nat,cell / 2 % 4=a/\a<=3:=⟨(cell / 2 % 4).toNat,by lia,by lia⟩
  obtain ⟨b,hb,hb8⟩:∃b:Nat,cell / 2 / 4 % 5=b/\b<=4:=⟨(cell / 2 / 4 % 5).toNat,by lia,by lia⟩
  obtain ⟨e,he,he8⟩:∃b:Nat,cell / 2 / 20 % 5=b/\b<=4:=⟨(cell / 2 / 20 % 5).toNat,by lia,by lia⟩
  refine ⟨.h a b e,⟨ha8,hb8,he8⟩,trivial,call_v (start _ (aP (HJ (hc.trans (by rw [beq_eq_false_iff_ne.mpr h])) rfl) ?_))⟩;refine aP (bR ((aL rfl rfl (cZ _ _ (by decide))).trans (by rw [ha]))) ?_;refine aP (bR ((aL (aL rfl rfl (dX _ _ (by decide) (by decide))) rfl (cZ _ _ (by decide))).trans (by rw [hb]))) ?_;refine aP (bR ((aL (aL rfl rfl (dX _ _ (by decide) (by decide))) rfl (cZ _ _ (by decide))).trans (by rw [he]))) ?_;refine aP (bR (aLw (by lia) rfl rfl rfl rfl rfl)) ?_;refine aP (bR (aLx (by lia) (by lia) (by lia) rfl rfl rfl rfl rfl)) ?_;have m3:b2 jH gD (b2 (aR .add) (b2 jH jW dH) (b2 jH jV lY)) (ee N cell (.int (cell / 2)) (.int a) (.int b) (.scr ((wE (.h a b e)).map (sy N))) (.int e) .uD .uD)=.ok (.int ((a*(3*b+2*e):Nat):Int)):=(aL rfl (aL (aL rfl rfl (p_ _ _ (by decide))) (aL rfl rfl (p_ _ _ (by decide))) (bW _ _)) (mH _ _ (jJ _ (by lia) (by lia)))).trans (by rw [Int.natCast_mul];congr 2);refine aP (bR m3) ?_;refine aP (bR (aL (aL rfl (aL rfl rfl (bW _ _)) (p_ _ _ (by decide))) (aL rfl (aL rfl rfl (bW _ _)) (p_ _ _ (by decide))) (bW _ _))) ?_;exact oJ (aNr (by lia) (by lia) rfl rfl rfl rfl rfl rfl) rfl
theorem aLy:aF5=bA lw0 (bA lw1 (bA lw2 (bA lw3 (bA lw4 (bA lw5 (bA lw6 (bA lw7 (bA lw8 (bA lw9 (bA aL9 (bA aLa (bA aLb (bA aMm (bA aMn (bA aLc (aLd)))))))))))))))):=rfl
theorem aNs {e:En} (ok:okE e) (np:noP e):c1 e<=400/\c2 e<=400/\c3 e<=400/\(wE e).length<=400:=by
 cases e with
 | t a b=>
  obtain ⟨h1,h2⟩:=ok;have m1:a*b<=8*8:=Nat.mul_le_mul h1 h2;have m2:a*(b+1)<=8*9:=Nat.mul_le_mul h1 (by lia);refine ⟨?_,?_,?_,?_⟩
  ·show a+1+a*(b+1)+a*b+1<=400;lia
  ·show a*(b+1)<=400;lia
  ·show b+1<=400;lia
  ·simp [wE,jB];lia
 | h a b e=>
  obtain ⟨h1,h2,h3⟩:=ok;have m1:a*(3*b+2*e)<=3*20:=Nat.mul_le_mul h1 (by lia);have m2:a*(3*(b+1)+2*(e+1))<=3*25:=Nat.mul_le_mul h1 (by lia);refine ⟨?_,?_,?_,?_⟩
  ·show a+1+a*(3*(b+1)+2*(e+1))+a*(3*b+2*e)+1<=400;lia
  ·show a*(3*(b+1)+2*(e+1))<=400;lia
  ·show b+e+2<=400;lia
  ·simp [wE,jB];lia
 | p n=>exact np.elim
theorem aNt (e:En):vE e<=c1 e:=by
 cases e with
 | t a b=>
  show a*b<=a+1+a*(b+1)+a*b+1;lia
 | h a b e=>
  show a*(3*b+2*e)<=a+1+a*(3*(b+1)+2*(e+1))+a*(3*b+2*e)+1;lia
 | p n=>
  show n<=n+1;lia
theorem E_ (f:En->Nat) (es:List En) (e:En):sm f (es++[e])=sm f es+f e:=by simp [sm]
theorem aJ2:∀es:List En,sm vE es<=sm c1 es
 | []=>Nat.le_refl _
 | e::es=>by
  have h1:=aJ2 es;have h2:=aNt e;have s1:∀f,sm f (e::es)=f e+sm f es:=fun f=>by simp [sm]
  rw [s1,s1];lia
theorem NT (es:List En) (e:En):cs (es++[e])=⟨(cs es).c+(c1 e:Nat),(cs es).p+(c2 e:Nat),(cs es).d+(c3 e:Nat)⟩:=by
 unfold cs;rw [E_,E_,E_];simp only [Cn.mk.injEq];lia
theorem YS {es:List En} (h:tot (cs es)<=1000):Cok (cs es):=by
 have h:((sm c1 es:Nat):Int)+((sm c2 es:Nat):Int)+((sm c3 es:Nat):Int)<=1000:=h;refine ⟨⟨?_,?_⟩,⟨?_,?_⟩,⟨?_,?_⟩⟩ <;> simp only [cs] <;> lia
abbrev el (sc:D) (f s:Int) (N:List Str) (li:Int) (w n c x12 x13 x14 x15 x16 x17 x18:D):List D:=[sc,.int f,.int s,.lst (nmL N),sy N 1,sy N 2,sy N 3,sy N 4,.int li,w,n,c,x12,x13,x14,x15,x16,x17,x18]
section
variable {N:List Str} {ρ:List D}
theorem aJ3 {es:List En} {e:En} {li:Int} (hc:Cok (cs es)) (ok:okE e) (np:noP e) (v8:bT 8 ρ=.ok (.int li)) (v9:bT 9 ρ=.ok (.lst ((es.flatMap wE).map (sy N)))) (v11:bT 11 ρ=.ok (.lst (cI (cs es)))) (v13:bT 13 ρ=.ok (enD N e)):(PN (bTB (b2 (nH .le) (b2 (aR .add) (aX j_ (aC dN aV)) (aX j_ (aC (mQ gR (dI jV) iJ) aV))) GR)) (bTB (b2 (nH .lt) (b2 (aR .add) (aX m5 (aC gD aV)) (aX m5 (aC (b2 getD gR fZ) aV))) TY))) ρ=.ok (decide (tot (cs es)+tot ⟨(c1 e:Nat),(c2 e:Nat),(c3 e:Nat)⟩<=li)&&decide (((es.flatMap wE).length:Int)+((wE e).length:Int)<300)):=by
 obtain ⟨b1,b2',b3,b4⟩:=aNs ok np;have hs:mQ gR (dI jV) iJ ρ=.ok (.lst (cI ⟨(c1 e:Nat),(c2 e:Nat),(c3 e:Nat)⟩)):=by
  have hp:D.aG [D.scr ((wE e).map (sy N)),.int (vE e),.int (c1 e),.int (c2 e),.int (c3 e)]=true:=by
   show ((D.scr ((wE e).map (sy N))).pure&&_)=true;rw [D.pure,bB];rfl
  exact (mK v13 (fU rfl) rfl hp).trans rfl
 have h1:b2 (aR .add) (aX j_ (aC dN aV)) (aX j_ (aC (mQ gR (dI jV) iJ) aV)) ρ=.ok (.int (tot (cs es)+tot ⟨(c1 e:Nat),(c2 e:Nat),(c3 e:Nat)⟩)):=aL (bG (aH v11 rfl) (YJ hc)) (bG (aH hs rfl) (YJ ⟨⟨by simp only [];lia,by simp only [];lia⟩,⟨by simp only [];lia,by simp only [];lia⟩,⟨by simp only [];lia,by simp only [];lia⟩⟩)) (bW _ _);have h2:b2 (aR .add) (aX m5 (aC gD aV)) (aX m5 (aC (b2 getD gR fZ) aV)) ρ=.ok (.int (((es.flatMap wE).length:Int)+((wE e).length:Int))):=aL (bG (aH v9 rfl) (vO rfl)) (bG (aH (aL v13 rfl rfl) rfl) (by show Res.ok (D.int (((wE e).map (sy N)).length:Int))=_;rw [List.length_map])) (bW _ _);have g1:bTB (b2 (nH .le) (b2 (aR .add) (aX j_ (aC dN aV)) (aX j_ (aC (mQ gR (dI jV) iJ) aV))) GR) ρ=.ok (decide (tot (cs es)+tot ⟨(c1 e:Nat),(c2 e:Nat),(c3 e:Nat)⟩<=li)):=j8 (aL h1 v8 (XR _ _));have g2:bTB (b2 (nH .lt) (b2 (aR .add) (aX m5 (aC gD aV)) (aX m5 (aC (b2 getD gR fZ) aV))) TY) ρ=.ok (decide (((es.flatMap wE).length:Int)+((wE e).length:Int)<300)):=j8 (aL h2 rfl (DR _ _));by_cases hb:tot (cs es)+tot ⟨(c1 e:Nat),(c2 e:Nat),(c3 e:Nat)⟩<=li
 ·rw [decide_eq_true hb] at g1 ⊢;exact (QG g1 g2).trans (by rw [Bool.true_and])
 ·rw [decide_eq_false hb] at g1 ⊢;exact aA8 g1
theorem aLz {es:List En} {e:En} (v11:bT 11 ρ=.ok (.lst (cI (cs es)))) (v13:bT 13 ρ=.ok (enD N e)):(cP (aC (b2 (aR .add) (b2 getD dN fZ) (b2 getD gR jV)) (aC (b2 (aR .add) (b2 getD dN dO) (b2 getD gR jW)) (aC (b2 (aR .add) (b2 getD dN jV) (b2 getD gR RC)) aV)))) ρ=.ok (.lst (cI (cs (es++[e])))):=by
 rw [NT];have g:∀(k:Int) (x:Int),getD (.lst (cI (cs es))) (.int k)=.ok (.int x)->b2 getD dN (bC (.int k)) ρ=.ok (.int x):=fun k x h=>aL v11 rfl h
 have q:∀(k:Int) (x:Int),getD (enD N e) (.int k)=.ok (.int x)->b2 getD gR (bC (.int k)) ρ=.ok (.int x):=fun k x h=>aL v13 rfl h
 exact oR (aH (aL (g 0 (cs es).c rfl) (q 2 (c1 e:Nat) rfl) (bW _ _)) (aH (aL (g 1 (cs es).p rfl) (q 3 (c2 e:Nat) rfl) (bW _ _)) (aH (aL (g 2 (cs es).d rfl) (q 4 (c3 e:Nat) rfl) (bW _ _)) rfl))) (by rw [bQ];simp)
end
section
variable {sc x14 x15 x16 x17 x18:D} {f s:Int} {N:List Str} {li:Int}
theorem aJ4 (hli:li<=398) {es:List En} (hok:∀e∈es,okE e) (ht:tot (cs es)<=398) (hl:(es.flatMap wE).length<=300) (num:Int) (y:D):∃es' y',(∀e∈es',okE e)/\tot (cs es')<=398/\(es'.flatMap wE).length<=300/\aL8 (el sc f s N li (.lst ((es.flatMap wE).map (sy N))) (.int (sm vE es)) (.lst (cI (cs es))) (.int num) y x14 x15 x16 x17 x18)=.ok (.nx (el sc f s N li (.lst ((es'.flatMap wE).map (sy N))) (.int (sm vE es')) (.lst (cI (cs es'))) (.int num) y' x14 x15 x16 x17 x18)):=by
 obtain ⟨e,ok,np,he⟩:=aBo num;have hc:=YS (es:=es) (by lia);have s0:cJ false 13 (aX (oF 2 fM) (aC fB (aC lY aV))) true (el sc f s N li (.lst ((es.flatMap wE).map (sy N))) (.int (sm vE es)) (.lst (cI (cs es))) (.int num) y x14 x15 x16 x17 x18)=.ok (.nx (el sc f s N li (.lst ((es.flatMap wE).map (sy N))) (.int (sm vE es)) (.lst (cI (cs es))) (.int num) (enD N e) x14 x15 x16 x17 x18)):=bR (bG (aH rfl (aH rfl rfl)) ((eZ rfl).trans he));have ht1:=aJ3 (ρ:=el sc f s N li (.lst ((es.flatMap wE).map (sy N))) (.int (sm vE es)) (.lst (cI (cs es))) (.int num) (enD N e) x14 x15 x16 x17 x18) (es:=es) hc ok np rfl rfl rfl rfl;by_cases hb:(decide (tot (cs es)+tot ⟨(c1 e:Nat),(c2 e:Nat),(c3 e:Nat)⟩<=li)&&decide (((es.flatMap wE).length:Int)+((wE e).length:Int)<300))=true
 ·rw [hb] at ht1;rw [Bool.and_eq_true] at hb;have hb1:=of_decide_eq_true hb.1;have hb2:=of_decide_eq_true hb.2;have w1:(es++[e]).flatMap wE=es.flatMap wE++wE e:=by rw [List.flatMap_append];simp
  refine ⟨es++[e],enD N e,?_,?_,?_,aP s0 (aA7 ht1 ?_)⟩
  ·intro k hk;rcases List.mem_append.mp hk with hk|hk
   ·exact hok k hk
   ·rw [List.mem_singleton.mp hk];exact ok
  ·rw [NT];simp only [tot] at hb1 ⊢;lia
  ·rw [w1,List.length_append];lia
  refine aP (ρ':=el sc f s N li (.lst (((es++[e]).flatMap wE).map (sy N))) (.int (sm vE es)) (.lst (cI (cs es))) (.int num) (enD N e) x14 x15 x16 x17 x18) (bR ?_) ?_
  ·rw [w1];exact YQ rfl rfl (aL rfl rfl rfl) rfl (by lia)
  refine aP (ρ':=el sc f s N li (.lst (((es++[e]).flatMap wE).map (sy N))) (.int (sm vE (es++[e]))) (.lst (cI (cs es))) (.int num) (enD N e) x14 x15 x16 x17 x18) (bR ?_) ?_
  ·rw [E_];exact aL rfl (aL rfl rfl rfl) (bW _ _)
  exact iM (aLz (es:=es) rfl rfl) rfl
 ·have hb:=Bool.eq_false_iff.mpr hb;rw [hb] at ht1;exact ⟨es,enD N e,hok,ht,hl,aP s0 (HJ ht1 rfl)⟩
theorem aCq (hli:li<=398):∀(ns:List Int) (es:List En),(∀e∈es,okE e)->tot (cs es)<=398->(es.flatMap wE).length<=300->∀(x y:D),∃es' x' y',(∀e∈es',okE e)/\tot (cs es')<=398/\(es'.flatMap wE).length<=300/\zY (tg1 12) aL8 (ns.map D.int) (el sc f s N li (.lst ((es.flatMap wE).map (sy N))) (.int (sm vE es)) (.lst (cI (cs es))) x y x14 x15 x16 x17 x18)=.ok (.nx (el sc f s N li (.lst ((es'.flatMap wE).map (sy N))) (.int (sm vE es')) (.lst (cI (cs es'))) x' y' x14 x15 x16 x17 x18))
 | [],es,h1,h2,h3,x,y=>⟨es,x,y,h1,h2,h3,rfl⟩
 | num::ns,es,h1,h2,h3,x,y=>by
  obtain ⟨e1,y1,g1,g2,g3,t1⟩:=aJ4 (x14:=x14) (x15:=x15) (x16:=x16) (x17:=x17) (x18:=x18) hli h1 h2 h3 num y;obtain ⟨e2,x2,y2,k1,k2,k3,t2⟩:=aCq hli ns e1 g1 g2 g3 (.int num) y1;refine ⟨e2,x2,y2,k1,k2,k3,?_⟩;rw [List.map_cons];exact dB rfl t1 t2
end
theorem YT {N:List Str} (hN:N.length=26) (hd:N.Nodup) {i j k:Nat} {es:List En} (ok:∀e∈es,okE e) (hv:sm vE es<=900):∀m:Int,0<=m->cW [aBg N [0] (rot i M0) (rot j T0) (rot k R0),.tup ((wds es).map (sy N)),.int m]=if tot (cs es)<=m then .ok (foC N (nu (sm vE es)) (cs es)) else .err "Spent" [.exc "Spent" []]:=fun m hm=>by
 have B:=aFo i j k;have hr:=aFi hN hd B ok hv hm;by_cases hle:tot (cs es)<=m
 ·rw [if_pos hle] at hr ⊢;exact aBh hN hd B.hF B.hM B.hR hr (aBj hv) (by show (D.tup _).pure=true;rw [D.pure,bB])
 ·rw [if_neg hle] at hr ⊢;exact X8 hN hd B.hF B.hM B.hR hr
theorem aJ5 (a b:Int):nH .ge (.int a) (.int b)=.ok (.bl (decide (b<=a))):=rfl
theorem aNu {a b:FE} {ρ:List D} {x:Bool} {r:D} (h1:a ρ=.ok (.bl x)) (h2:x=false->b ρ=.ok r) (h3:x=true->r=.bl true):aJg a b ρ=.ok r:=by
 unfold aJg;rw [h1];cases x with
 | true=>rw [h3 rfl];rfl
 | false=>exact h2 rfl
theorem aFs {ρ pr W du cc:List D} {T:Int} (hρ:ρ.length=19) (v16:bT 16 ρ=.ok (.tup pr)) (v9:bT 9 ρ=.ok (.tup W)) (v15:bT 15 ρ=.ok (.lst du)) (v11:bT 11 ρ=.ok (.lst cc)) (v17:bT 17 ρ=.ok (.int T)) (hT:0<=T) (h:∀b:Int,-1<=b->dD [.tup pr,.tup W,.lst du,.lst cc,.int b]=.ok (.bl true)):bA aLc aLd ρ=.ok (.rt (.bl true)):=by
 have g:∀(i:Nat) (d:D) (z:D),i≠18->bT i (ρ.set 18 z)=bT i ρ:=fun i d z hi=>by
  unfold bT;rw [List.getD_eq_getElem?_getD,List.getElem?_set_ne (fun q=>hi q.symm),<-List.getD_eq_getElem?_getD]
 have g18:∀b:Int,bT 18 (ρ.set 18 (.int b))=.ok (.int b):=fun b=>by
  unfold bT;rw [List.getD_eq_getElem?_getD,List.getElem?_set_self (by lia)];rfl
 have st:∀(b:Int) (z:D),-1<=b->aF4 ((ρ.set 18 z).set 18 (.int b))=.ok (.nx (ρ.set 18 (.int b))):=fun b z hb=>by
  rw [List.set_set];refine HJ (aIm (b:=true) (aFd ?_)) rfl;exact bG (aH ((g 16 .uD _ (by decide)).trans v16) (aH ((g 9 .uD _ (by decide)).trans v9) (aH ((g 15 .uD _ (by decide)).trans v15) (aH ((g 11 .uD _ (by decide)).trans v11) (aH (g18 b) rfl))))) ((eZ rfl).trans (h b hb))
 have hits:cO (cP (aC (bPu xO) (aC (b2 (aR .add) xO (bC (.int 50))) (aC (b1 aJh dO) aV)))) true ρ=.ok ([.int T,.int (T+50),.int (-1)],true):=n_ (oR (aH (yU v17 rfl) (aH (aL v17 rfl (bW _ _)) (aH (Q8 rfl rfl) rfl))) (by rw [bQ];simp));have e0:aF4 (ρ.set 18 (.int T))=.ok (.nx (ρ.set 18 (.int T))):=by
  have:=st T (.int T) (by lia);rw [List.set_set] at this;exact this
 refine aP (wK hits (dB rfl e0 (dB rfl (st (T+50) _ (by lia)) (dB rfl (st (-1) _ (by decide)) rfl)))) ?_;have q:∀i d,i≠18->bT i ρ=.ok d->bT i (ρ.set 18 (.int (-1)))=.ok d:=fun i d hi hv=>(g i .uD _ hi).trans hv
 refine oJ (aNu (aL (q 17 _ (by decide) v17) rfl (yV _ _)) (fun hx=>?_) fun _=>rfl) rfl;have hne:T≠0:=by simpa using hx
 exact bG (aH (q 16 _ (by decide) v16) (aH (q 9 _ (by decide) v9) (aH (q 15 _ (by decide) v15) (aH (q 11 _ (by decide) v11) (aH (aL (q 17 _ (by decide) v17) rfl (show aR .sub (.int T) (.int 1)=.ok (.int (T-1)) from rfl)) rfl))))) ((eZ rfl).trans (h (T-1) (by lia)))
section
variable {sc x12 x13 x15 x16 x17 x18:D} {f s:Int} {N:List Str} {li:Int}
theorem aJ6 {w n x14:D} {es:List En} (ht:tot (cs es)<=398):lw9 (el sc f s N li w n (.lst (cI (cs es))) x12 x13 x14 x15 x16 x17 x18)=.ok (.nx (el sc f s N li w n (.lst (cI (cs es))) x12 x13 (.int (398+s % 4-tot (cs es))) x15 x16 x17 x18)):=
 bR (aL (aL rfl (aL rfl rfl (cZ _ _ (by decide))) (bW _ _)) (bG (aH rfl rfl) (YJ (YS (by lia)))) (show aR .sub (.int (398+s % 4)) (.int (tot (cs es)))=.ok (.int (398+s % 4-tot (cs es))) from rfl))
theorem aJ7 {ρ:List D} {a:List Nat} {k:Nat} (hk:k<=1000) (ha:a.length<=1000) (v9:bT 9 ρ=.ok (.lst (a.map (sy N)))) (v7:bT 7 ρ=.ok (sy N 4)) (v5:bT 5 ρ=.ok (sy N 2)) (v14:bT 14 ρ=.ok (.int k)) (v4:bT 4 ρ=.ok (sy N 1)):(b2 (aR .add) (b2 (aR .add) (b2 (aR .add) gD (cP (aC (bPu RB) aV))) (b2 CT (cP (aC (bPu uT) aV)) j6)) (cP (aC (bPu gQ) aV))) ρ=.ok (.lst ((a++wE (.p k)).map (sy N))):=by
 have e1:=iH v9 (wC v7) (by simp;lia);have e2:=iH e1 (JM v5 v14 (by lia)) (by simp;lia);have e3:=iH e2 (wC v4) (by simp;lia);have e4:a++wE (.p k)=a++[4]++List.replicate k 2++[1]:=by simp [wE,nu]
 rw [e4];exact e3
theorem aFt {es:List En} (hok:∀e∈es,okE e) (ht:tot (cs es)<=398) (hl:(es.flatMap wE).length<=300):∃es':List En,(∀e∈es',okE e)/\tot (cs es')<=402/\(es'.flatMap wE).length<=400/\aL9 (el sc f s N li (.lst ((es.flatMap wE).map (sy N))) (.int (sm vE es)) (.lst (cI (cs es))) x12 x13 (.int (398+s % 4-tot (cs es))) x15 x16 x17 x18)=.ok (.nx (el sc f s N li (.lst ((es'.flatMap wE).map (sy N))) (.int (sm vE es')) (.lst (cI (cs es'))) x12 x13 (.int (398+s % 4-tot (cs es))) x15 x16 x17 x18)):=by
 have h0:0<=tot (cs es):=by simp only [tot,cs];lia
 obtain ⟨mo,hmo⟩:∃mo:Int,398+s % 4-tot (cs es)=mo:=⟨_,rfl⟩
 rw [hmo];have g1:bTB (b2 (mO .eq) (b2 (aR .mod) (b2 (aR .fdiv) fQ RC) jW) dO) (el sc f s N li (.lst ((es.flatMap wE).map (sy N))) (.int (sm vE es)) (.lst (cI (cs es))) x12 x13 (.int mo) x15 x16 x17 x18)=.ok (s / 4 % 3==1):=j8 (aL (aL (aL rfl rfl (dX _ _ (by decide) (by decide))) rfl (cZ _ _ (by decide))) rfl (yV _ _));have g2:bTB (b2 (nH .ge) j6 fZ) (el sc f s N li (.lst ((es.flatMap wE).map (sy N))) (.int (sm vE es)) (.lst (cI (cs es))) x12 x13 (.int mo) x15 x16 x17 x18)=.ok (decide (0<=mo)):=j8 (aL rfl rfl (aJ5 _ _));have g3:bTB (b2 (nH .le) (b2 (aR .add) (b2 (aR .add) (aX m5 (aC gD aV)) j6) jW) wH) (el sc f s N li (.lst ((es.flatMap wE).map (sy N))) (.int (sm vE es)) (.lst (cI (cs es))) x12 x13 (.int mo) x15 x16 x17 x18)=.ok (decide (((es.flatMap wE).length:Int)+mo+3<=400)):=j8 (aL (aL (aL (bG (aH rfl rfl) (vO rfl)) rfl (bW _ _)) rfl (bW _ _)) rfl (XR _ _));by_cases hc:(s / 4 % 3==1)=true/\0<=mo/\((es.flatMap wE).length:Int)+mo+3<=400
 ·obtain ⟨h1,h2,h3⟩:=hc;obtain ⟨k,hk⟩:∃k:Nat,mo=k:=⟨mo.toNat,by lia⟩
  have k402:k<=402:=by lia
  have w1:(es++[En.p k]).flatMap wE=es.flatMap wE++wE (.p k):=by rw [List.flatMap_append];simp
  have l1:(wE (.p k)).length=k+2:=by simp [wE,jB]
  refine ⟨es++[.p k],?_,?_,?_,aA7 (QG (g1.trans (by rw [h1])) (QG (g2.trans (by rw [decide_eq_true h2])) (g3.trans (by rw [decide_eq_true h3])))) ?_⟩
  ·intro e he;rcases List.mem_append.mp he with he|he
   ·exact hok e he
   ·rw [List.mem_singleton.mp he];exact k402
  ·rw [NT];simp only [tot,c1,c2,c3] at hmo ⊢;lia
  ·rw [w1,List.length_append,l1];lia
  subst hk;refine aP (ρ':=el sc f s N li (.lst (((es++[En.p k]).flatMap wE).map (sy N))) (.int (sm vE es)) (.lst (cI (cs es))) x12 x13 (.int k) x15 x16 x17 x18) (bR ?_) ?_
  ·rw [w1];exact aJ7 (by lia) (by lia) rfl rfl rfl rfl rfl
  refine aP (ρ':=el sc f s N li (.lst (((es++[En.p k]).flatMap wE).map (sy N))) (.int (sm vE (es++[.p k]))) (.lst (cI (cs es))) x12 x13 (.int k) x15 x16 x17 x18) (bR ?_) ?_
  ·rw [E_];exact aL rfl rfl (bW _ _)
  have hcs:cI (cs (es++[En.p k]))=(cI (cs es)).set 0 (.int ((cs es).c+k+1)):=by
   rw [NT];show [D.int ((cs es).c+((k+1:Nat):Int)),D.int ((cs es).p+((0:Nat):Int)),D.int ((cs es).d+((0:Nat):Int))]=[D.int ((cs es).c+k+1),D.int (cs es).p,D.int (cs es).d];rw [show (cs es).c+((k+1:Nat):Int)=(cs es).c+k+1 from by lia,show (cs es).p+((0:Nat):Int)=(cs es).p from by lia,show (cs es).d+((0:Nat):Int)=(cs es).d from by lia]
  rw [hcs];exact aF6 (aL (aL (aL rfl rfl rfl) rfl (bW _ _)) rfl (bW _ _)) rfl rfl rfl rfl rfl
 ·refine ⟨es,hok,by lia,by lia,HJ ?_ rfl⟩;by_cases h1:(s / 4 % 3==1)=true
  ·refine QG (g1.trans (by rw [h1])) ?_;by_cases h2:0<=mo
   ·exact QG (g2.trans (by rw [decide_eq_true h2])) (g3.trans (by rw [decide_eq_false fun z=>hc ⟨h1,h2,z⟩]))
   ·exact aA8 (g2.trans (by rw [decide_eq_false h2]))
  ·exact aA8 (g1.trans (by rw [Bool.eq_false_iff.mpr h1]))
theorem aFu {n c x14:D} {a:List Nat} (ha:a.length<=1000):aLa (el sc f s N li (.lst (a.map (sy N))) n c x12 x13 x14 x15 x16 x17 x18)=.ok (.nx (el sc f s N li (.tup ((a++[1]).map (sy N))) n c x12 x13 x14 x15 x16 x17 x18)):=by
 refine vA (bG (aH (iH rfl (wC rfl) (by simp;lia)) rfl) rfl) ?_;show (D.tup _).pure=true;rw [D.pure,bB]
theorem aFv {w c x14:D} {k:Nat} (hk:k<=1000):aLb (el sc f s N li w (.int k) c x12 x13 x14 x15 x16 x17 x18)=.ok (.nx (el sc f s N li w (.int k) c x12 x13 x14 (.lst ((nu k).map (sy N))) x16 x17 x18)):=
 bR (iH (JM rfl rfl hk) (wC rfl) (by simp;lia))
end
theorem main:∀ns:List Int,ns.length<=63->Q7 [.scr (ns.map D.int)]=.ok (.bl true):=fun ns hns=>by
 obtain ⟨f,q0⟩:=YG ns 0;obtain ⟨s,q1⟩:=YG ns 1;obtain ⟨N,hN,hd,qN⟩:=aBe (f / 3) s;rw [aIl N hN] at qN;obtain ⟨i,j,k,qP⟩:=Q9 (s / 12);obtain ⟨li,hli,e4⟩:∃li:Int,li<=398/\lw4 [.scr (ns.map D.int),.int f,.int s,.lst (nmL N),sy N 1,sy N 2,sy N 3,sy N 4,.uD,.uD,.uD,.uD,.uD,.uD,.uD,.uD,.uD,.uD,.uD]=.ok (.nx [.scr (ns.map D.int),.int f,.int s,.lst (nmL N),sy N 1,sy N 2,sy N 3,sy N 4,.int li,.uD,.uD,.uD,.uD,.uD,.uD,.uD,.uD,.uD,.uD]):=by
  have hm:b2 (aR .mod) e_ jW [.scr (ns.map D.int),.int f,.int s,.lst (nmL N),sy N 1,sy N 2,sy N 3,sy N 4,.uD,.uD,.uD,.uD,.uD,.uD,.uD,.uD,.uD,.uD,.uD]=.ok (.int (f % 3)):=aL rfl rfl (cZ _ _ (by decide));have h3:f % 3=0\/f % 3=1\/f % 3=2:=by lia
  rcases h3 with h|h|h <;> rw [h] at hm
  ·exact ⟨60,by decide,vA (aL rfl hm rfl) rfl⟩
  ·exact ⟨200,by decide,vA (aL rfl hm rfl) rfl⟩
  ·exact ⟨398,by decide,vA (aL rfl hm rfl) rfl⟩
 obtain ⟨es0,x12,x13,k1,k2,k3,e8⟩:=aCq (x14:=.uD) (x15:=.uD) (x16:=.uD) (x17:=.uD) (x18:=.uD) hli (cutD ns (some 2) (some 122)) [] (fun e h=>by cases h) (by decide) (by decide) .uD .uD;obtain ⟨es,g1,g2,g3,e10⟩:=aFt (x12:=x12) (x13:=x13) (x15:=.uD) (x16:=.uD) (x17:=.uD) (x18:=.uD) k1 k2 k3;have e9:=aJ6 (sc:=.scr (ns.map D.int)) (x12:=x12) (x13:=x13) (x15:=.uD) (x16:=.uD) (x17:=.uD) (x18:=.uD) (f:=f) (s:=s) (N:=N) (li:=li) (w:=.lst ((es0.flatMap wE).map (sy N))) (n:=.int (sm vE es0)) (x14:=.uD) k2;obtain ⟨mo,hmo⟩:∃mo:Int,398+s % 4-tot (cs es0)=mo:=⟨_,rfl⟩
 rw [hmo] at e9 e10;have hc:=YS (es:=es) (by lia);have h0:0<=tot (cs es):=by simp only [tot,cs];lia
 have hv:sm vE es<=900:=by
  have h1:=aJ2 es;have h2:((sm c1 es:Nat):Int)+((sm c2 es:Nat):Int)+((sm c3 es:Nat):Int)<=402:=g2;lia
 have wa:=YT hN hd (i:=i) (j:=j) (k:=k) g1 hv;have as:∀b:Int,-1<=b->dD [aBg N [0] (rot i M0) (rot j T0) (rot k R0),.tup ((wds es).map (sy N)),.lst ((nu (sm vE es)).map (sy N)),.lst (cI (cs es)),.int b]=.ok (.bl true):=fun b hb=>aBl hc wa hb
 refine call_v ?_;show aF5 [.scr (ns.map D.int),.uD,.uD,.uD,.uD,.uD,.uD,.uD,.uD,.uD,.uD,.uD,.uD,.uD,.uD,.uD,.uD,.uD,.uD]=_;rw [aLy];refine aP (bR (bG (aH rfl (aH rfl rfl)) ((eZ rfl).trans q0))) ?_;refine aP (bR (bG (aH rfl (aH rfl rfl)) ((eZ rfl).trans q1))) ?_;refine aP (bR (bG (aH (aL rfl rfl (dX _ _ (by decide) (by decide))) (aH rfl rfl)) ((eZ rfl).trans qN))) ?_;refine aP (zG ((mK rfl (fU rfl) (fU rfl) (bB N _)).trans (congrArg (fun z=>Res.ok (D.lst z)) (JK (lo:=1) (hi:=5) (by lia) (by lia)))) rfl rfl) ?_;refine aP e4 ?_;refine aP (bR rfl) ?_;refine aP (bR rfl) ?_;refine aP (iM rfl rfl) ?_;have ec:mQ iI (dI jV) (dI (bC (.int 122))) (el (.scr (ns.map D.int)) f s N li (.lst []) (.int 0) (.lst [.int 0,.int 0,.int 0]) .uD .uD .uD .uD .uD .uD .uD)=.ok (.lst ((cutD ns (some 2) (some 122)).map D.int)):=by
  show (if D.aG (ns.map D.int)=true then Res.ok (D.lst (cutD (ns.map D.int) (some 2) (some 122))) else .bad)=_;rw [QH,if_pos rfl,VG]
 refine aP (wK (n_ ec) e8) ?_;refine aP e9 (aP e10 (aP (aFu (by lia)) (aP (aFv (by lia)) ?_)));refine aP (bR (bG (aH rfl (aH (aL rfl rfl (dX _ _ (by decide) (by decide))) rfl)) ((eZ rfl).trans qP))) ?_;refine aP (bR (bG (aH rfl rfl) (YJ hc))) ?_;exact aFs (T:=tot (cs es)) rfl rfl rfl rfl rfl rfl h0 as
end Lk57
section
open PySem PySem.W PyProof.Rows
def PySem.W.Fast.tw4793316976697448332 : Unit:=()
def PySem.W.Fast.tw1670818808464412494 : Unit:=()
def PySem.W.Fast.tw9680703623308246737 : Unit:=()
def PySem.W.Fast.tw15817828087838185015 : Unit:=()
def PySem.W.Fast.tw4360973505897387606 : Unit:=()
def PySem.W.Fast.tw11314029059819843891 : Unit:=()
def PySem.W.Fast.tw9620873576584249175 : Unit:=()
def PySem.W.Fast.tw8938809278417728719 : Unit:=()
def PySem.W.Fast.tw8412035172277018726 : Unit:=()
def PySem.W.Fast.tw9694653087167569764 : Unit:=()
def PySem.W.Fast.tw33654630587529974 : Unit:=()
def PySem.W.Fast.tw16160269950791425733 : Unit:=()
def PySem.W.Fast.tw15581325716574155374 : Unit:=()
def PySem.W.Fast.tw15979323697104600771 : Unit:=()
def PySem.W.Fast.tw14116465516836844138 : Unit:=()
def PySem.W.Fast.tw71170723630235133 : Unit:=()
def PySem.W.Fast.tw4448713649641883303 : Unit:=()
def PySem.W.Fast.tw6627543575126722639 : Unit:=()
def PySem.W.Fast.tw7971743248541209301 : Unit:=()
def PySem.W.Fast.tw10111877562747129482 : Unit:=()
def PySem.W.Fast.tw7965178236575217635 : Unit:=()
def PySem.W.Fast.tw14201005596500845170 : Unit:=()
def PySem.W.Fast.tw13911672735598301041 : Unit:=()
def PySem.W.Fast.tw6956880925693188047 : Unit:=()
def PySem.W.Fast.tw5096260475844853812 : Unit:=()
def PySem.W.Fast.tw3389244934230564734 : Unit:=()
def PySem.W.Fast.tw3793371030076173971 : Unit:=()
def PySem.W.Fast.tw8487110570860319989 : Unit:=()
def PySem.W.Fast.tw2291703024703936731 : Unit:=()
def PySem.W.Fast.tw4504341668967668277 : Unit:=()
def PySem.W.Fast.tw13496317377505457498 : Unit:=()
def PySem.W.Fast.tw2066644041841149562 : Unit:=()
def PySem.W.Fast.tw18143502941325687505 : Unit:=()
def PySem.W.Fast.tw3719572609064574962 : Unit:=()
def PySem.W.Fast.tw1467428671162302052 : Unit:=()
def PySem.W.Fast.tw14974248623401076744 : Unit:=()
def PySem.W.Fast.tw17456829804235402959 : Unit:=()
def PySem.W.Fast.tw18424525395341459132 : Unit:=()
def PySem.W.Fast.tw7527873997467681040 : Unit:=()
def PySem.W.Fast.tw10263371985606035919 : Unit:=()
def PySem.W.Fast.tw13739236927648251087 : Unit:=()
def PySem.W.Fast.tw6289661818543197202 : Unit:=()
def PySem.W.Fast.tw5684611341219709090 : Unit:=()
def PySem.W.Fast.tw11093890431152389654 : Unit:=()
def PySem.W.Fast.tw14538890669867438321 : Unit:=()
def PySem.W.Fast.tw11719785446537174515 : Unit:=()
def PySem.W.Fast.tw12177704720425832516 : Unit:=()
def PySem.W.Fast.tw992896968847215260 : Unit:=()
def PySem.W.Fast.tw17201377162570307812 : Unit:=()
def PySem.W.Fast.tw2816268796100328660 : Unit:=()
def PySem.W.Fast.tw13158721972060855665 : Unit:=()
def PySem.W.Fast.tw1281481942759772565 : Unit:=()
def PySem.W.Fast.tw13701919948636144749 : Unit:=()
def PySem.W.Fast.tw9726361828856675339 : Unit:=()
def PySem.W.Fast.tw7188954387498772843 : Unit:=()
def PySem.W.Fast.tw2921187257505134933 : Unit:=()
def PySem.W.Fast.tw10055832464011066837 : Unit:=()
def PySem.W.Fast.tw16856339496288223353 : Unit:=()
def PySem.W.Fast.tw4587077550321933216 : Unit:=()
def PySem.W.Fast.tw15038996576028098090 : Unit:=()
def PySem.W.Fast.tw15560492173173402126 : Unit:=()
def PySem.W.Fast.tw10595690634977332474 : Unit:=()
def PySem.W.Fast.tw16386829370985200754 : Unit:=()
def PySem.W.Fast.tw9234717003910964065 : Unit:=()
def PySem.W.Fast.tw8834658969853169341 : Unit:=()
def PySem.W.Fast.tw14470744389216225936 : Unit:=()
def PySem.W.Fast.tw4268088882832606285 : Unit:=()
def PySem.W.Fast.tw5480774048197990595 : Unit:=()
def PySem.W.Fast.tw3079533287584605189 : Unit:=()
def PySem.W.Fast.tw4955738521977855244 : Unit:=()
def PySem.W.Fast.tw12798662356572811410 : Unit:=()
def PySem.W.Fast.tw11093320893216031103 : Unit:=()
def PySem.W.Fast.tw9971106836496550142 : Unit:=()
def PySem.W.Fast.tw9558315711785263015 : Unit:=()
def PySem.W.Fast.tw5072419864990771241 : Unit:=()
def PySem.W.Fast.tw11394736727382047838 : Unit:=()
def PySem.W.Fast.tw1717144362429967098 : Unit:=()
def PySem.W.Fast.tw6911970100544762461 : Unit:=()
def PySem.W.Fast.tw11646767349625587485 : Unit:=()
def PySem.W.Fast.tw1601673971597578857 : Unit:=()
def PySem.W.Fast.tw12976111280026983649 : Unit:=()
def PySem.W.Fast.tw16978839383669266179 : Unit:=()
def PySem.W.Fast.tw8513985427828272771 : Unit:=()
def PySem.W.Fast.tw16500581577553672078 : Unit:=()
def PySem.W.Fast.tw18126647940308786278 : Unit:=()
def PySem.W.Fast.tw16273808427701178947 : Unit:=()
def PySem.W.Fast.tw11514600774667295028 : Unit:=()
def PySem.W.Fast.tw13414968449423025694 : Unit:=()
def PySem.W.Fast.tw3520430801782990708 : Unit:=()
def PySem.W.Fast.tw2272082881884953310 : Unit:=()
def PySem.W.Fast.tw13089193510379494456 : Unit:=()
def PySem.W.Fast.tw8598995238436427950 : Unit:=()
def PySem.W.Fast.tw6392611427131474307 : Unit:=()
def PySem.W.Fast.tw15409340353995706825 : Unit:=()
def PySem.W.Fast.tw11219881504989625039 : Unit:=()
def PySem.W.Fast.tw4504813739911816101 : Unit:=()
def PySem.W.Fast.tw16380257913627715647 : Unit:=()
def PySem.W.Fast.tw11727354775379975223 : Unit:=()
def PySem.W.Fast.tw13019473971907471419 : Unit:=()
def PySem.W.Fast.tw17045443443325009506 : Unit:=()
def PySem.W.Fast.tw7895596788659907998 : Unit:=()
def PySem.W.Fast.tw10828427322527266351 : Unit:=()
def PySem.W.Fast.tw6547354840579921739 : Unit:=()
def PySem.W.Fast.tw12119804521521848331 : Unit:=()
def PySem.W.Fast.tw4476881883531019190 : Unit:=()
def PySem.W.Fast.tw11429813206537226088 : Unit:=()
def PySem.W.Fast.tw12867461595437926861 : Unit:=()
def PySem.W.Fast.tw10727687862227746013 : Unit:=()
def PySem.W.Fast.tw5237852878562809563 : Unit:=()
def PySem.W.Fast.tw10021054613621226735 : Unit:=()
def PySem.W.Fast.tw15699312742301934970 : Unit:=()
def PySem.W.Fast.tw17328021040395796715 : Unit:=()
def PySem.W.Fast.tw7680052946346352823 : Unit:=()
def PySem.W.Fast.tw1172593624181562422 : Unit:=()
def PySem.W.Fast.tw393832332160276007 : Unit:=()
def PySem.W.Fast.tw15256541747001510149 : Unit:=()
def PySem.W.Fast.tw1954129509577213455 : Unit:=()
def PySem.W.Fast.tw17989925466317860755 : Unit:=()
def PySem.W.Fast.tw16313801763240510549 : Unit:=()
def PySem.W.Fast.tw7744110320191042850 : Unit:=()
def PySem.W.Fast.tw40019307265717859 : Unit:=()
def PySem.W.Fast.tw10768280102960107845 : Unit:=()
def PySem.W.Fast.tw8854899529216840591 : Unit:=()
def PySem.W.Fast.tw11283559107992635087 : Unit:=()
def PySem.W.Fast.tw12035745091971107316 : Unit:=()
def PySem.W.Fast.tw16002649881524900671 : Unit:=()
def PySem.W.Fast.tw1549151421246948519 : Unit:=()
def PySem.W.Fast.tw8633178459184138522 : Unit:=()
def PySem.W.Fast.tw4824387644917901798 : Unit:=()
def PySem.W.Fast.tw12798244437844727413 : Unit:=()
def PySem.W.Fast.tw11221709518593546499 : Unit:=()
def PySem.W.Fast.tw9862044820027712258 : Unit:=()
def PySem.W.Fast.tw8302325327618276673 : Unit:=()
def PySem.W.Fast.tw5521237479907540262 : Unit:=()
def PySem.W.Fast.tw14041778505402156875 : Unit:=()
def PySem.W.Fast.tw7072322914026630740 : Unit:=()
def PySem.W.Fast.tw13486177573760219153 : Unit:=()
def PySem.W.Fast.tw9343601355557657487 : Unit:=()
def PySem.W.Fast.tw10670886374474407708 : Unit:=()
def PySem.W.Fast.tw10506853944395180578 : Unit:=()
def PySem.W.Fast.tw9194178369559977410 : Unit:=()
def PySem.W.Fast.tw11178753199432667963 : Unit:=()
def PySem.W.Fast.tw12935260330123032411 : Unit:=()
def PySem.W.Fast.tw1001672213841413610 : Unit:=()
def PySem.W.Fast.tw13375384810126191921 : Unit:=()
def PySem.W.Fast.tw10835340613032646609 : Unit:=()
def PySem.W.Fast.tw6745605571618112750 : Unit:=()
def PySem.W.Fast.tw5913025429893829778 : Unit:=()
def PySem.W.Fast.tw11883615402336524349 : Unit:=()
def PySem.W.Fast.tw1916241691512616309 : Unit:=()
set_option maxRecDepth 100000 in
set_option maxHeartbeats 0 in
theorem PySem.Challenge.cw_hookmill_k57_whole_long_runs_holds : PySem.Challenge.rw_hookmill_k57_whole_long_runs.Holds := by
 w_on;o_law;k_head;(case hw=>w_witness2)
 k_fill
 refine Lk57.walk (l:=PySem.Challenge.rw_hookmill_k57_whole_long_runs) Lk57.main rfl rfl (fun w h Y=>PySem.W.kIn_of Y) ?F
 case F=>
  intro w mg fa h KX G hmg
  refine' Lk57.aIj KX G hmg ?a0 ?a1 ?a2 ?l2 ?c2 ?k2 ?t2 ?a3 ?a4 ?a5 ?a6 ?a7 ?a8 ?a9 ?a10 ?l10 ?c10 ?k10 ?ql ?qm ?qo ?qp ?qr ?qt ?qu ?qv ?qw ?qx ?qy ?qz ?qA ?qB ?qC ?qD ?qE ?qF ?qG ?qH ?qI ?qJ ?qK ?qL ?qM ?p9 ?qO ?qQ ?qR ?qS ?qT ?qU ?qV ?qW ?qX ?qY ?qZ ?pb ?p6 ?pg_Frame ?rg ?po_Frame ?rh ?mk_Frame ?rj ?rq ?pT ?pU ?pV ?rA ?pW ?pC ?pD ?pg_PlainRun ?rB ?po_PlainRun ?rC ?mk_PlainRun ?rD ?rE ?pX ?pY ?pZ ?rF ?qa ?qb ?qc ?pE ?pj ?pc ?ph ?rG ?qd ?qe ?pF ?fP ?pG ?pq ?pz ?pi ?dZ ?rH ?qf ?qg ?pH ?lD ?rJ ?qh ?qi ?pI ?eG ?rK
  (case a0|a1|a3|a4|a5|a6|a7|a8|a9=>refine' Lk57.aLh ?a ?b ?c ?d;(case a=>k_is);(case b=>k_is);(case c=>k_is);case d=>k_is)
  (case a2|l2|c2|k2|t2|a10|l10|c10|k10|ql|qm|qo|qp|qr|qt|qu|qv|qw|qx|qy|qz|qA|qB|qC|qD|qE|qF|qG|qH|qI|qJ|qK|qL|qM|p9|qQ|qR|qS|qT|qU|qV|qW|qX|pb|p6|pg_Frame|rg|po_Frame|rh|mk_Frame|rj|rq|pT|pU|pV|rA|pW|pC|pD|pg_PlainRun|rB|po_PlainRun|rC|mk_PlainRun|rD|rE|pX|pY|pZ|rF|qa|qb|qc|pE|pj|pc|ph|rG|qd|qe|pF|fP|pG|pq|pz|pi|dZ|rH|qf|qg|pH|lD|rJ|qh|qi|pI|eG=>k_is)
  (case qO=>kts_exm)
  (case qY=>kit_is)
  (case qZ=>kit_is)
  (case rK=>k_exc)
end