import PyProof.Rows.All
import Wide.All
import OpenK.AllK
import Wide.FinOn
import PyProof.EqAt
import PyProof.EqKinds
import PyProof.TupleCall
import Lean
import PyProof.Rows.SortRuns
import PySem.Syntax
import PyProof.NeKinds
import PyProof.WalkInts
import KE.KDictList
import PyProof.CompUse
import PyProof.StrWalks
import PyProof.EnumMake
import PyProof.EnumFor
import PyProof.StrCalls2
import PyProof.StrBlock2
import PyProof.StrBlockI
import PyProof.SliceStr2
import PyProof.ConsumeWalk
import PyProof.StrLawsJoin
import KE.KTryMore
import KE.KTryDeep
import OpenK.KOwn
import PyProof.ExcClass3
import KE.KIsAll
import PyProof.ExcArgsOwn
import PyProof.NsDelKeeps
import PyProof.ListRange
import PyProof.DictWalks
import KE.KEqDict
import PyProof.Rows.TupAdd
import PyProof.DictIter
import PyProof.AttrMissHeap
import PyProof.ZipIter
import PyProof.TupleIter
import PyProof.WalksMore
import PyProof.FactsAll.zip
import KE.KDictOf
import PyProof.Conv_int
import PyProof.Conv_int_bool
import PyProof.StrBlockL
import PyProof.MakeMany
import PyProof.MeetsStr2
import PyProof.CallRoads3
import PyProof.Rows.TupIn
import KE.KRevIter
import PySem.Challenge.RW_hookmill_k47_sound
set_option Elab.async false
set_option maxRecDepth 100000
set_option maxHeartbeats 4000000
noncomputable section
set_option linter.all false
set_option autoImplicit false
set_option genSizeOfSpec false
set_option genInjectivity true
abbrev nDb (x:PySem.Str):Prop := (x==("__debug__" : PySem.Str))=false
abbrev nCd (x:PySem.Str):Prop := (x==("__classdict__" : PySem.Str))=false
section
namespace L2
open PySem PySem.Spec PyProof.Rows
abbrev Key:=Sum Int Str
noncomputable def BK:Key->Value->Bool
 | .inl k,v=>Value.isInt k v
 | .inr x,v=>Value.isStrOf x v
noncomputable def aEv (w:World):Key->Int
 | .inl k=>hashInt k
 | .inr x=>hashStr w x
theorem cR:∀{k:Key} {v:Value},BK k v=true->(∃i t,k=Sum.inl i/\v=Value.int i t)\/(∃x t,k=Sum.inr x/\v=Value.str x t)
 | .inl i,v,h=>by
  obtain ⟨t,e⟩:=Value.isInt_shape (k:=i) (v:=v) h;exact .inl ⟨i,t,rfl,e⟩
 | .inr x,v,h=>by
  obtain ⟨t,e⟩:=Value.isStrOf_shape (x:=x) (v:=v) h;exact .inr ⟨x,t,rfl,e⟩
theorem GD (i:Int) (t:Tok):BK (.inl i) (.int i t)=true:=by simp [BK,Value.isInt]
theorem GF (x:Str) (t:Tok):BK (.inr x) (.str x t)=true:=by simp [BK,Value.isStrOf]
theorem ZW (a b:Int):decide ((Sum.inl a:Key)=Sum.inl b)=(a==b):=by
 by_cases e:a=b
 ·subst e;simp
 ·have h:¬(Sum.inl a:Key)=Sum.inl b:=fun q=>e (Sum.inl.inj q)
  rw [decide_eq_false h];exact (beq_eq_false_iff_ne.mpr e).symm
theorem ZX (a b:Str):decide ((Sum.inr a:Key)=Sum.inr b)=decide (a=b):=by
 by_cases e:a=b
 ·subst e;simp
 ·have h:¬(Sum.inr a:Key)=Sum.inr b:=fun q=>e (Sum.inr.inj q)
  rw [decide_eq_false h,decide_eq_false e]
theorem ZZ (a:Int) (b:Str):decide ((Sum.inl a:Key)=Sum.inr b)=false:=decide_eq_false (fun q=>nomatch q)
theorem Z0 (a:Str) (b:Int):decide ((Sum.inr a:Key)=Sum.inl b)=false:=decide_eq_false (fun q=>nomatch q)
noncomputable def cT (prog:Program) (w:World):PySem.KeyKind prog w Key where
 is:=BK
 hash:=aEv w
 inj:=fun v a b ha hb=>by
  rcases cR ha with ⟨i,t,rfl,rfl⟩|⟨x,t,rfl,rfl⟩
  ·rcases cR hb with ⟨j,u,rfl,e⟩|⟨y,u,rfl,e⟩
   ·injection e with e1 _;rw [e1]
   ·exact nomatch e
  ·rcases cR hb with ⟨j,u,rfl,e⟩|⟨y,u,rfl,e⟩
   ·exact nomatch e
   ·injection e with e1 _;rw [e1]
 byValue:=fun k v h=>by
  rcases cR h with ⟨i,t,rfl,rfl⟩|⟨x,t,rfl,rfl⟩ <;> rfl
 pyHash:=fun hv h=>by
  rcases cR hv with ⟨i,t,rfl,rfl⟩|⟨x,t,rfl,rfl⟩
  ·exact wpAny_pyHash_int h
  ·exact wpAny_pyHash_str h
 eqBool:=fun hu hv h=>by
  rcases cR hu with ⟨i,t,rfl,rfl⟩|⟨x,t,rfl,rfl⟩
  ·rcases cR hv with ⟨j,u,rfl,rfl⟩|⟨y,u,rfl,rfl⟩
   ·rw [ZW] at h;exact wpAny_eqBool_int h
   ·rw [ZZ] at h;exact SeqAt.EqAt.int_str i t y u _ _ _ _ h
  ·rcases cR hv with ⟨j,u,rfl,rfl⟩|⟨y,u,rfl,rfl⟩
   ·rw [Z0] at h;exact SeqAt.EqAt.str_int x t j u _ _ _ _ h
   ·rw [ZX] at h;exact wpAny_eqBool_str h
 «strs»:=fun k x t v h=>by
  rcases cR h with ⟨i,u,rfl,e⟩|⟨y,u,rfl,e⟩
  ·exact nomatch e
  ·injection e with e1 _
   subst e1;cases v <;> rfl
theorem wB (prog:Program) (w:World) (i:Int) (t:Tok):(cT prog w).is (.inl i) (.int i t)=true:=GD i t
theorem wC (prog:Program) (w:World) (x:Str) (t:Tok):(cT prog w).is (.inr x) (.str x t)=true:=GF x t
end L2
namespace L2
open PySem PySem.Spec PyProof.Rows
inductive V where
 | non|bl (b:Bool)|int (i:Int)|str (x:Str)|byt (b:Array UInt8)|flt (b:UInt64)|ref (a:Addr)|ty (n:String)
 deriving DecidableEq
noncomputable def RelV:V->Value->Prop
 | .non,u=>u=Value.none
 | .bl b,u=>u=Value.bool b
 | .int i,u=>∃t,u=Value.int i t
 | .str x,u=>∃t,u=Value.str x t
 | .byt b,u=>∃t,u=Value.bytes b t
 | .flt b,u=>∃t,u=Value.float b t
 | .ref a,u=>u=Value.ref a
 | .ty n,u=>u=Value.type n
abbrev Vals:List V->List Value->Prop:=Paired RelV
theorem Vals.length {xs:List V} {us:List Value} (r:Vals xs us):xs.length=us.length:=Paired.length r
theorem Vals.get:∀{xs:List V} {us:List Value} {i:Nat} {x:V},Vals xs us->xs[i]?=some x->∃u,us[i]?=some u/\RelV x u
 | _,_,_,_,.nil,e=>by simp at e
 | _,_,0,_,.cons r _,e=>by simp at e;subst e;exact ⟨_,rfl,r⟩
 | _,_,i+1,x,.cons _ t,e=>by
  obtain ⟨u,h1,h2⟩:=Vals.get (i:=i) (x:=x) t (by simpa using e);exact ⟨u,by simpa using h1,h2⟩
theorem Vals.set {x:V} {u:Value} (r:RelV x u):∀{xs:List V} {us:List Value} (i:Nat),Vals xs us->Vals (xs.set i x) (us.set i u)
 | _,_,_,.nil=>.nil
 | _,_,0,.cons _ t=>.cons r t
 | _,_,i+1,.cons q t=>.cons q (Vals.set r i t)
theorem Vals.append:∀{xs ys:List V} {us ws:List Value},Vals xs us->Vals ys ws->Vals (xs++ys) (us++ws)
 | _,_,_,_,.nil,s=>s
 | _,_,_,_,.cons r t,s=>.cons r (Vals.append t s)
theorem Vals.take:∀{xs:List V} {us:List Value} (n:Nat),Vals xs us->Vals (xs.take n) (us.take n)
 | _,_,0,_=>.nil
 | _,_,_+1,.nil=>.nil
 | _,_,n+1,.cons r t=>.cons r (Vals.take n t)
theorem Vals.drop:∀{xs:List V} {us:List Value} (n:Nat),Vals xs us->Vals (xs.drop n) (us.drop n)
 | _,_,0,r=>r
 | _,_,_+1,.nil=>.nil
 | _,_,n+1,.cons _ t=>Vals.drop n t
noncomputable def O6:Option V->Option Value->Prop
 | some v,some u=>RelV v u
 | none,none=>True
 | _,_=>False
noncomputable def KV {κ:Type}:List (κ×V)->List (κ×Value)->Prop:=Paired fun (p:κ×V) (q:κ×Value)=>p.1=q.1/\RelV p.2 q.2
noncomputable def kV:Key->V
 | .inl i=>.int i
 | .inr x=>.str x
inductive HO where
 | lst (xs:List V)
 | tup (xs:List V)
 | dK (kvs:List (Key×V))|dT (kvs:List (List Key×V))
 | set (S:Int->Bool) (n:Nat)
 | ins (C dx:Addr) (fs:List (Str×V))
 | own (x:Addr)
 | xd (fs:List (Str×V))
 | met (f x:Addr)
 | rng (lo hi:Int)
 | frz (o:Obj) (u:HO)
 | tbl (ps:Array Value)
 | ext (φ:Heap->Prop)
abbrev Hp:=Addr->Option HO
def upd (H:Hp) (a:Addr) (o:HO):Hp:=fun b=>if b=a then some o else H b
theorem aP {H:Hp} {a:Addr} {o:HO}:upd H a o a=some o:=by unfold upd;rw [if_pos rfl]
theorem bO {H:Hp} {a b:Addr} {o:HO} (h:b≠a):upd H a o b=H b:=by unfold upd;rw [if_neg h]
theorem wD {H:Hp} {a:Addr} {o u:HO}:upd (upd H a o) a u=upd H a u:=by
 funext b;unfold upd;split <;> rfl
theorem VG {H:Hp} {a b:Addr} {o u:HO} (h:H a=some o) (h':H b=some u) (d:o≠u):a≠b:=by
 intro e;subst e;rw [h] at h';exact d (Option.some.inj h')
theorem dJ {H:Hp} {a b:Addr} {o:HO} (h:H a=some o) (h':H b=none):a≠b:=by
 intro e;subst e;rw [h] at h';cases h'
noncomputable def iW (h:Heap) (a:Addr) (its:Array Value):Prop:=∃o,h.get? a=some o/\o.cls=.type "tuple"/\∃n,(o.data,o.dict)=(Data.seq its n,none)
theorem iW.tup {h:Heap} {a:Addr} {its:Array Value} (t:iW h a its):IsTup h a its:=let ⟨o,e,c,n,d⟩:=t;⟨o,e,c,n,congrArg (·.1) d⟩
theorem iW.bare {h:Heap} {a:Addr} {its:Array Value} (t:iW h a its):∃o,h.get? a=some o/\o.dict=none:=let ⟨o,e,_,_,d⟩:=t;⟨o,e,congrArg (·.2) d⟩
theorem iW.new (h:Heap) (items:Array Value):iW (h.push {cls:=.type "tuple",data:=.seq items}) h.objs.size items:=⟨_,Heap.get?_push_size _ rfl,rfl,_,rfl⟩
section
variable (P:Program) (w:World)
noncomputable def iR (H:Hp) (h:Heap) (a:Addr):HO->Prop
 | .lst xs=>xs.length<=sizeLine/\∃(its:List Value) (n:Nat),Vals xs its/\h.get? a=some {cls:=.type "list",data:=.seq its.toArray n}
 | .tup xs=>xs.length<=sizeLine/\∃its:List Value,Vals xs its/\iW h a its.toArray
 | .dK kvs=>kvs.length<=sizeLine/\(a==sysModules)=false/\∃vs,KV kvs vs/\h.DictOf (cT P w) a vs
 | .dT kvs=>kvs.length<=sizeLine/\(a==sysModules)=false/\∃xs:List (List Key×Addr×Value),
   Paired (fun (p:List Key×V) (q:List Key×Addr×Value)=>p.1=q.1/\H q.2.1=some (.tup (p.1.map kV))/\RelV p.2 q.2.2) kvs xs/\
   ∃o es ep,h.get? a=some o/\o.ExactDict/\o.data=.dict es ep/\es.toList=xs.map (entryOfKey (tupleKind (cT P w)))/\(xs.map (·.1)).Nodup
 | .set S n=>h.SetOf (intKind P w) a S n
 | .ins C dx fs=>H dx=some (.own a)/\fs.length<=1000/\dx≠a/\h.get? a=some (PySem.W.instObj C dx)/\
   ∃mA,h.Ns1 dx mA/\(∀f,O6 (fs.lookup f) (mA f))/\PySem.Within mA (fs.map (·.1))
 | .own _=>∃o,h.get? a=some o
 | .xd fs=>∃mA,h.Ns1 a mA/\∀f,O6 (fs.lookup f) (mA f)
 | .rng lo hi=>∃t u v,h.get? a=some {cls:=.type "range",data:=.fields #[.int lo t,.int hi u,.int 1 v]}
 | .frz o u=>h.get? a=some o/\iR H h a u
 | .tbl ps=>h.get? a=some {cls:=.none,data:=.fields ps}
 | .met f x=>h.get? a=some (PySem.W.methodObj (.ref f) (.ref x))
 | .ext φ=>φ h/\(∃o,h.get? a=some o)/\∀h1 h2:Heap,φ h1->(∀o,h1.get? a=some o->h2.get? a=some o)->φ h2
def HOk (H:Hp) (h:Heap):Prop:=∀a o,H a=some o->iR P w H h a o
end
section
variable {P:Program} {w:World} {H H':Hp} {h h':Heap} {a:Addr} {o:HO}
theorem iR.lt (x:iR P w H h a o):a<h.objs.size:=by
 cases o with
 | lst xs=>obtain ⟨_,_,_,_,e⟩:=x;exact Heap.lt_size e
 | tup xs=>obtain ⟨_,_,_,p⟩:=x;exact p.tup.lt
 | dK kvs=>obtain ⟨_,_,_,_,o,_,_,e,_⟩:=x;exact Heap.lt_size e
 | dT kvs=>obtain ⟨_,_,_,_,o,_,_,e,_⟩:=x;exact Heap.lt_size e
 | set S n=>obtain ⟨o,_,_,_,e,_⟩:=x;exact Heap.lt_size e
 | ins C dx fs=>obtain ⟨_,_,_,e,_⟩:=x;exact Heap.lt_size e
 | own y=>obtain ⟨_,e⟩:=x;exact Heap.lt_size e
 | xd fs=>obtain ⟨_,⟨_,_,_,e,_⟩,_⟩:=x;exact Heap.lt_size e
 | rng lo hi=>obtain ⟨_,_,_,e⟩:=x;exact Heap.lt_size e
 | frz ob u=>obtain ⟨e,_⟩:=x;exact Heap.lt_size e
 | tbl ps=>exact Heap.lt_size (show h.get? a=some _ from x)
 | met f y=>exact Heap.lt_size (show h.get? a=some _ from x)
 | ext φ=>obtain ⟨_,⟨_,e⟩,_⟩:=x;exact Heap.lt_size e
theorem Paired.aDa {α β:Type} {F G:α->β->Prop}:∀{l₁:List α} {l₂:List β},Paired F l₁ l₂->(∀a b,F a b->G a b)->Paired G l₁ l₂
 | _,_,.nil,_=>.nil
 | _,_,.cons r t,f=>.cons (f _ _ r) (Paired.aDa t f)
theorem iR.stay (x:iR P w H h a o) (k:∀b u,(b=a\/H b=some (.own a))->h.get? b=some u->h'.get? b=some u)
  (ho:∀b,H b=some (.own a)->H' b=some (.own a)) (ht:∀b xs,H b=some (.tup xs)->H' b=some (.tup xs)):iR P w H' h' a o:=by
 induction o with
 | lst xs=>obtain ⟨z,its,n,r,e⟩:=x;exact ⟨z,its,n,r,k _ _ (.inl rfl) e⟩
 | tup xs=>obtain ⟨z,its,r,ob,e,c⟩:=x;exact ⟨z,its,r,ob,k _ _ (.inl rfl) e,c⟩
 | dK kvs=>obtain ⟨z,y,vs,r,ob,es,ep,e,c⟩:=x;exact ⟨z,y,vs,r,ob,es,ep,k _ _ (.inl rfl) e,c⟩
 | dT kvs=>
  obtain ⟨z,y,xs,r,ob,es,ep,e,c⟩:=x;exact ⟨z,y,xs,Paired.aDa r fun p q z=>⟨z.1,ht _ _ z.2.1,z.2.2⟩,ob,es,ep,k _ _ (.inl rfl) e,c⟩
 | set S n=>obtain ⟨ob,es,ep,t,e,c⟩:=x;exact ⟨ob,es,ep,t,k _ _ (.inl rfl) e,c⟩
 | ins C dx fs=>
  obtain ⟨d,z,ne,e,mA,⟨od,es,ep,e2,c⟩,r⟩:=x;exact ⟨ho _ d,z,ne,k _ _ (.inl rfl) e,mA,⟨od,es,ep,k _ _ (.inr d) e2,c⟩,r⟩
 | own y=>obtain ⟨ob,e⟩:=x;exact ⟨ob,k _ _ (.inl rfl) e⟩
 | xd fs=>obtain ⟨mA,⟨od,es,ep,e,c⟩,r⟩:=x;exact ⟨mA,⟨od,es,ep,k _ _ (.inl rfl) e,c⟩,r⟩
 | rng lo hi=>obtain ⟨t,u,v,e⟩:=x;exact ⟨t,u,v,k _ _ (.inl rfl) e⟩
 | frz ob u ih=>obtain ⟨e,q⟩:=x;exact ⟨k _ _ (.inl rfl) e,ih q⟩
 | tbl ps=>
  have e:h.get? a=some {cls:=.none,data:=.fields ps}:=x;show h'.get? a=some {cls:=.none,data:=.fields ps};exact k a _ (.inl rfl) e
 | met f y=>
  have e:h.get? a=some (PySem.W.methodObj (.ref f) (.ref y)):=x;show h'.get? a=some (PySem.W.methodObj (.ref f) (.ref y));exact k a _ (.inl rfl) e
 | ext φ=>obtain ⟨p,⟨o,e⟩,st⟩:=x;exact ⟨st _ _ p fun o q=>k _ _ (.inl rfl) q,⟨o,k _ _ (.inl rfl) e⟩,st⟩
theorem HOk.lt (x:HOk P w H h) (e:H a=some o):a<h.objs.size:=(x a o e).lt
theorem HOk.fresh (x:HOk P w H h) (e:h.objs.size<=a):H a=none:=by
 cases q:H a with
 | none=>rfl
 | some u=>exact absurd (Nat.lt_of_lt_of_le (x.lt q) e) (Nat.lt_irrefl _)
theorem HOk.kept (x:HOk P w H h) (k:∀b u,h.get? b=some u->h'.get? b=some u):HOk P w H h':=fun a o e=>
 (x a o e).stay (fun b u _ q=>k b u q) (fun _ q=>q) fun _ _ q=>q
theorem HOk.laid (x:HOk P w H h) (k:∀b u,h.get? b=some u->h'.get? b=some u) (hp:h.objs.size<=a) (new:iR P w (upd H a o) h' a o):HOk P w (upd H a o) h':=fun b u e=>by
 have hn:=x.fresh hp;by_cases hb:b=a
 ·subst hb;rw [aP] at e;cases e;exact new
 ·rw [bO hb] at e;exact (x b u e).stay (fun c v _ q=>k c v q) (fun c q=>by rw [bO (dJ q hn)];exact q) fun c xs q=>by rw [bO (dJ q hn)];exact q
end
def Rd (H:Hp) (a:Addr) (u:HO):Prop:=H a=some u\/∃o,H a=some (.frz o u)
theorem Rd.of {H:Hp} {a:Addr} {u:HO} (h:H a=some u):Rd H a u:=.inl h
theorem Rd.ok {P:Program} {w:World} {H:Hp} {h:Heap} {a:Addr} {u:HO} (r:Rd H a u) (x:HOk P w H h):iR P w H h a u:=by
 rcases r with r|⟨o,r⟩
 ·exact x a u r
 ·obtain ⟨_,q⟩:=x a _ r;exact q
noncomputable def Mut:Option HO->Prop
 | some (.lst _)=>True
 | some (.dK _)=>True
 | some (.dT _)=>True
 | some (.set _ _)=>True
 | some (.ins _ _ _)=>True
 | some (.ext _)=>True
 | _=>False
section
variable {P:Program} {w:World} {H:Hp} {h h':Heap} {x e:Addr} {o':HO}
theorem HOk.write (ok:HOk P w H h) (mu:Mut (H x)) (he:e=x\/H e=some (.own x)) (k:∀b u,b≠e->h.get? b=some u->h'.get? b=some u) (heo:∃u,h'.get? e=some u)
  (new:iR P w (upd H x o') h' x o'):HOk P w (upd H x o') h':=fun b u q=>by
 have nown:∀c y,H c=some (.own y)->c≠x:=fun c y r z=>by subst z;rw [r] at mu;exact mu
 have ntup:∀c xs,H c=some (.tup xs)->c≠x:=fun c xs r z=>by subst z;rw [r] at mu;exact mu
 by_cases hb:b=x
 ·subst hb;rw [aP] at q;cases q;exact new
 ·rw [bO hb] at q;by_cases hbe:b=e
  ·have q':H b=some (.own x):=by
    rcases he with z|z
    ·exact absurd (hbe.trans z) hb
    ·rw [hbe];exact z
   rw [q] at q';cases q';obtain ⟨v,hv⟩:=heo;exact ⟨v,by rw [hbe];exact hv⟩
  ·refine (ok b u q).stay (fun c v hc r=>k c v ?_ r) (fun c r=>by rw [bO (nown c b r)];exact r) fun c xs r=>by rw [bO (ntup c xs r)];exact r
   rcases hc with rfl|hc
   ·exact hbe
   ·rintro rfl;rcases he with z|z
    ·exact nown c b hc z
    ·rw [hc] at z;cases z;exact hb rfl
end
structure Un (fs ex:List Addr) (H H':Hp) (h h':Heap):Prop where
 keep:∀b o,h.get? b=some o->H b=none->b∉fs->b∉ex->h'.get? b=some o
 slot:∀b o,h.get? b=some o->H b=none->b∈fs->b∉ex->∃sl,h'.get? b=some {o with slots:=sl}
 free:∀b o,h.get? b=some o->H b=none->b∉ex->H' b=none
 there:∀b o,h.get? b=some o->b∉ex->∃o',h'.get? b=some o'
 tups:∀b xs,H b=some (.tup xs)->H' b=some (.tup xs)
 frzs:∀b o u,H b=some (.frz o u)->H' b=some (.frz o u)
 tbls:∀b ps,H b=some (.tbl ps)->∃more,H' b=some (.tbl (ps++more))
section
variable {fs fs' ex ex':List Addr} {H H1 H2:Hp} {h h1 h2 h':Heap} {a x e:Addr} {o:HO}
theorem Un.any (u:Un fs ex H H1 h h1) {b:Addr} {ob:Obj} (q:h.get? b=some ob) (n:H b=none) (hx:b∉ex):∃sl,h1.get? b=some {ob with slots:=sl}:=by
 by_cases hb:b∈fs
 ·exact u.slot b ob q n hb hx
 ·exact ⟨ob.slots,u.keep b ob q n hb hx⟩
theorem Un.kept (k:∀b u,h.get? b=some u->h'.get? b=some u):Un fs ex H H h h':=
 ⟨fun b ob q _ _ _=>k b ob q,fun b ob q _ _ _=>⟨ob.slots,k b ob q⟩,fun _ _ _ n _=>n,fun b ob q _=>⟨ob,k b ob q⟩,fun _ _ q=>q,fun _ _ _ q=>q,fun _ ps q=>⟨#[],by rw [q];simp⟩⟩
theorem Un.refl:Un fs ex H H h h:=Un.kept fun _ _ q=>q
theorem Un.laid (k:∀b u,h.get? b=some u->h'.get? b=some u) (hp:h.objs.size<=a) (hn:H a=none):Un fs ex H (upd H a o) h h' where
 keep:=fun b u q _ _ _=>k b u q
 slot:=fun b u q _ _ _=>⟨u.slots,k b u q⟩
 free:=fun b u q n _=>by rw [bO (Nat.ne_of_lt (Nat.lt_of_lt_of_le (Heap.lt_size q) hp))];exact n
 there:=fun b u q _=>⟨u,k b u q⟩
 tups:=fun b xs q=>by rw [bO (dJ q hn)];exact q
 frzs:=fun b u xs q=>by rw [bO (dJ q hn)];exact q
 tbls:=fun b ps q=>⟨#[],by rw [bO (dJ q hn),q];simp⟩
theorem Un.write (mu:Mut (H x)) (he:e=x\/H e=some (.own x)) (k:∀b u,b≠e->h.get? b=some u->h'.get? b=some u) (heo:∃u,h'.get? e=some u):Un fs ex H (upd H x o) h h':=by
 have hx:∀b,H b=none->b≠x:=fun b n z=>by subst z;rw [n] at mu;exact mu
 have hb:∀b,H b=none->b≠e:=fun b n z=>by
  subst z;rcases he with r|r
  ·exact hx b n r
  ·rw [n] at r;cases r
 have hm:∀b u,H b=some u->¬Mut (some u)->b≠x:=fun b u q nm z=>by subst z;rw [q] at mu;exact nm mu
 refine ⟨fun b u q n _ _=>k b u (hb b n) q,fun b u q n _ _=>⟨u.slots,k b u (hb b n) q⟩,fun b u q n _=>by rw [bO (hx b n)];exact n,fun b u q _=>?_,
  fun b xs q=>by rw [bO (hm b _ q fun z=>z)];exact q,fun b u xs q=>by rw [bO (hm b _ q fun z=>z)];exact q,fun b ps q=>⟨#[],by rw [bO (hm b _ q fun z=>z),q];simp⟩⟩
 by_cases hbe:b=e
 ·subst hbe;exact heo
 ·exact ⟨u,k b u hbe q⟩
end
noncomputable def trk (h:Heap) (H:Hp):List Addr:=(List.range h.objs.size).filter fun a=>(H a).isSome
def O_ (h:Heap) (H:Hp):Heap:=PySem.W.hideAll h (trk h H)
theorem GJ (h:Heap) (H:Hp):(O_ h H).objs.size=h.objs.size:=PySem.W.hideAll_size _ _
theorem PB {h:Heap} {H:Hp} {b:Addr} {o:Obj} (e:h.get? b=some o) (n:H b=none):(O_ h H).get? b=some o:=
 PySem.W.hideAll_get _ e fun hm=>by
  have q:(H b).isSome=true:=(List.mem_filter.mp hm).2;rw [n] at q;simp at q
theorem VH {h:Heap} {H:Hp} {b:Addr} {o:Obj} (e:(O_ h H).get? b=some o):h.get? b=some o/\H b=none:=by
 have e':h.get? b=some o:=PySem.W.of_hideAll (trk h H) e;refine ⟨e',?_⟩;cases q:H b with
 | none=>rfl
 | some x=>
  have hm:b∈trk h H:=List.mem_filter.mpr ⟨List.mem_range.mpr (Heap.lt_size e'),by simp [q]⟩;have z:(O_ h H).get? b=none:=PySem.W.hideAll_none (trk h H) hm;rw [z] at e;cases e
end L2
namespace L2
open PySem PySem.Spec PyProof.Rows
structure Mod (K:PySem.W.Frag) (mg:Str->Option Value) (base:Heap):Prop where
 kin:K.In base
 glob:base.Ns mainGlobals mg
 blt:∃mb,base.Ns builtinsNs mb/\∀x:Str,x ≠ "__name__"->mb x=bootBuiltins x
 nolimit:base.NoLimit
/-- the context: a def's body (or a comprehension's block) running. base: fixed through the whole law; s₀, H₀: the entry; outer: the frames whose slots others may change (a def's callers); stack: all frames that run;
   ex: iterators that were made ahead of the entry and are walked here (a comprehension's); fn: the names whose cells were made at the entry (a def: all; a comprehension's block: its own); calm: not within an except suite; pn: pins that every state bears; xe: what is wanted of an exception that leaves the code -/
structure Cx where
 prog:Program
 w:World
 K:PySem.W.Frag
 mg:Str->Option Value
 base:Heap
 A:Around
 N:List Str
 s₀:Shared
 H₀:Hp
 env:Env
 outer:List Env
 stack:List Env
 ex:List Addr
 fn:Str->Bool
 calm:Bool
 pn:List (Addr×Obj)
 xe:Value->Shared->Prop
def frs (l:List Env):List Addr:=l.filterMap (·.frame)
abbrev Cx.fs (X:Cx):List Addr:=frs X.outer
noncomputable def Vis (sc:Scope) (x:Str):Prop:=sc.names.lookup x=some .local\/sc.names.lookup x=some .cell\/sc.names.lookup x=some .free
noncomputable def Loc (sc:Scope) (x:Str):Prop:=sc.names.lookup x=some .local\/sc.names.lookup x=some .cell
noncomputable def Look (env:Env) (h:Heap) (m:Str->Option Value) (x:Str) (u:Value):Prop:=
 (env.kindOf x=some .local/\m x=some u)\/((env.kindOf x=some .cell\/env.kindOf x=some .free)/\∃c,env.cells.lookup x=some c/\h.IsCell c (some u))
structure Cx.Ok (X:Cx):Prop where
 mod:Mod X.K X.mg X.base
 kind:X.env.scope.kind=.function
 glob:X.env.globals=mainGlobals
 blt:X.env.builtins=builtinsNs
 above:X.s₀.heap.objs.size<=X.env.locals
 inj:∀x y c,X.env.cells.lookup x=some c->X.env.cells.lookup y=some c->x=y
 has:∀x,(X.env.kindOf x=some .cell\/X.env.kindOf x=some .free)->∃c,X.env.cells.lookup x=some c
 cab:∀x c,X.fn x=true->X.env.cells.lookup x=some c->X.s₀.heap.objs.size<=c
 hd:X.calm=true->X.A.handled=none
 frames:X.A.frames=some X.stack
 stk:X.stack=X.outer\/(X.stack=X.env::X.outer/\X.env.frame=some X.env.locals)
 exf:∀b∈X.ex,b≠X.env.locals/\∀x c,X.env.cells.lookup x=some c->c≠b
 bs:∀b o,X.base.get? b=some o->X.s₀.heap.get? b=some o/\X.H₀ b=none
 bsz:X.base.objs.size<=X.s₀.heap.objs.size
 noex:∀b o,X.base.get? b=some o->b∉X.ex
 exfs:∀b∈X.ex,b∉X.fs
 GK:X.s₀.heap.FunFrames X.base X.outer
 frf:∀b∈X.fs,X.H₀ b=none
structure Inv (X:Cx) (pins:List (Addr×Obj)) (σ:List (Option V)) (H:Hp) (s:Shared):Prop where
 ok:X.Ok
 os:s.os=X.s₀.os
 bare:AllBare s.gens
 base:Un X.fs X.ex X.H₀ H X.s₀.heap s.heap
 loc:∃m,s.heap.Ns X.env.locals m/\∀(i:Nat) (x:Str) (v:V),X.N[i]?=some x->σ[i]?=some (some v)->Vis X.env.scope x->∃u,RelV v u/\Look X.env s.heap m x u
 cell:∀x c,X.env.cells.lookup x=some c->∃v,s.heap.IsCell c v
 free:H X.env.locals=none
 freeC:∀x c,X.env.cells.lookup x=some c->H c=none
 pin:∀p∈X.pn++pins,s.heap.get? p.1=some p.2/\H p.1=none/\p.1≠X.env.locals/\p.1∉X.fs/\∀v,p.2.data≠.cell v
 hok:HOk X.prog X.w H s.heap
 len:σ.length=X.N.length
section
variable {X:Cx} {pins:List (Addr×Obj)} {σ:List (Option V)} {H H':Hp} {s:Shared} {h':Heap}
theorem Cx.Ok.aEw (ok:X.Ok) {b:Addr} {o:Obj} (e:X.base.get? b=some o):b∉X.fs:=fun hb=>by
 have:=(ok.GK.mem hb).1;rw [e] at this;cases this
theorem Inv.bs (I:Inv X pins σ H s):∀b o,X.base.get? b=some o->s.heap.get? b=some o/\H b=none:=fun b o e=>
 ⟨I.base.keep b o (I.ok.bs b o e).1 (I.ok.bs b o e).2 (I.ok.aEw e) (I.ok.noex b o e),I.base.free b o (I.ok.bs b o e).1 (I.ok.bs b o e).2 (I.ok.noex b o e)⟩
theorem Inv.bk (I:Inv X pins σ H s):∀b o,X.base.get? b=some o->s.heap.get? b=some o:=fun b o e=>(I.bs b o e).1
theorem Inv.mod (I:Inv X pins σ H s):Mod X.K X.mg X.base:=I.ok.mod
theorem Inv.kIn (I:Inv X pins σ H s):X.K.In s.heap:=I.ok.mod.kin.keeps I.bk
theorem Inv.lt (I:Inv X pins σ H s):X.env.locals<s.heap.objs.size:=let ⟨_,hn,_⟩:=I.loc;hn.lt
theorem Inv.sz (I:Inv X pins σ H s):X.s₀.heap.objs.size<=s.heap.objs.size:=Nat.le_trans I.ok.above (Nat.le_of_lt I.lt)
theorem Inv.aEg (I:Inv X pins σ H s) {a:Addr} (h:s.heap.objs.size<=a):a∉X.fs:=fun hb=>by
 obtain ⟨_,o,ho,_⟩:=I.ok.GK.mem hb;exact absurd (Nat.lt_of_lt_of_le (Heap.lt_size ho) (Nat.le_trans I.sz h)) (Nat.lt_irrefl _)
theorem Inv.cne (I:Inv X pins σ H s):∀x c,X.env.cells.lookup x=some c->c≠X.env.locals:=fun x c e z=>by
 obtain ⟨v,o,ho,hd⟩:=I.cell x c e;obtain ⟨m,⟨o',es,ep,ho',hd',_⟩,_⟩:=I.loc;rw [z,ho'] at ho;cases ho;rw [hd'] at hd;cases hd
theorem Inv.GK (I:Inv X pins σ H s):s.heap.FunFrames X.base X.outer:=by
 have all:∀(l:List Env),(∀b∈frs l,b∈X.fs)->X.s₀.heap.FunFrames X.base l->s.heap.FunFrames X.base l:=by
  intro l;induction l with
  | nil=>intro _ _;trivial
  | cons env r ih=>
   intro hs hl;obtain ⟨hk,⟨L,o,hf,hn,ho,hd⟩,hr⟩:=hl;have hL:L∈X.fs:=hs L (by unfold frs;rw [List.filterMap_cons,hf];exact List.mem_cons_self);obtain ⟨sl,e⟩:=I.base.slot L o ho (I.ok.frf L hL) hL fun z=>I.ok.exfs L z hL
   exact ⟨hk,⟨L,_,hf,hn,e,hd⟩,ih (fun b hb=>hs b (by unfold frs;rw [List.filterMap_cons,hf];exact List.mem_cons_of_mem _ hb)) hr⟩
 exact all X.outer (fun _ hb=>hb) I.ok.GK
theorem Inv.stack (I:Inv X pins σ H s):s.heap.FunFrames X.base X.stack:=by
 rcases I.ok.stk with e|⟨e,hf⟩
 ·rw [e];exact I.GK
 ·rw [e];obtain ⟨m,hn,_⟩:=I.loc;refine .cons (by rw [I.ok.kind];decide) hf hn ?_ I.GK;exact Heap.get?_none_of_le (Nat.le_trans I.ok.bsz I.ok.above)
theorem Inv.yC (I:Inv X pins σ H s):∀b∈frs X.stack,b∈X.env.locals::X.fs:=fun b hb=>by
 rcases I.ok.stk with e|⟨e,hf⟩
 ·rw [e] at hb;exact List.mem_cons_of_mem _ hb
 ·rw [e] at hb;unfold frs at hb;rw [List.filterMap_cons,hf] at hb;exact hb
theorem Inv.GP (I:Inv X pins σ H s):∀b∈frs X.stack,H b=none:=fun b hb=>by
 rcases List.mem_cons.mp (I.yC b hb) with e|hb
 ·rw [e];exact I.free
 ·obtain ⟨_,o,ho,_⟩:=I.ok.GK.mem hb;exact I.base.free b o ho (I.ok.frf b hb) fun z=>I.ok.exfs b z hb
theorem Inv.step {g':Array GenState} {t':Nat} {d':Drawn} {ch:List Addr} (I:Inv X pins σ H s)
  (hch:∀b∈ch,(b∈X.ex\/X.s₀.heap.objs.size<=b)/\b≠X.env.locals/\(∀x c,X.env.cells.lookup x=some c->c≠b)/\∀p∈X.pn++pins,p.1≠b)
  (keep:∀b o,b≠X.env.locals->b∉X.fs->b∉ch->s.heap.get? b=some o->H b=none->h'.get? b=some o)
  (slot:∀b o,b≠X.env.locals->b∈X.fs->b∉ch->s.heap.get? b=some o->H b=none->∃sl,h'.get? b=some {o with slots:=sl}) (free:∀b o,b∉ch->s.heap.get? b=some o->H b=none->H' b=none)
  (there:∀b o,b∉ch->s.heap.get? b=some o->∃o',h'.get? b=some o')
  (tups:∀b xs,H b=some (.tup xs)->H' b=some (.tup xs)) (frzs:∀b o u,H b=some (.frz o u)->H' b=some (.frz o u)) (tbls:∀b ps,H b=some (.tbl ps)->∃more,H' b=some (.tbl (ps++more)))
  (ns:∀m,s.heap.Ns X.env.locals m->h'.Ns X.env.locals m) (hok:HOk X.prog X.w H' h') (hg:AllBare g') :
  Inv X pins σ H' {s with heap:=h',gens:=g',drawn:=d',toks:=t'}:=by
 have neL:∀b o,X.s₀.heap.get? b=some o->b≠X.env.locals:=fun b o e=>Nat.ne_of_lt (Nat.lt_of_lt_of_le (Heap.lt_size e) I.ok.above)
 have neC:∀b o,X.s₀.heap.get? b=some o->b∉X.ex->b∉ch:=fun b o e hx hb=>by
  rcases (hch b hb).1 with z|z
  ·exact hx z
  ·exact absurd (Nat.lt_of_lt_of_le (Heap.lt_size e) z) (Nat.lt_irrefl _)
 have cellK:∀x c,X.env.cells.lookup x=some c->∀v,s.heap.IsCell c v->h'.IsCell c v:=fun x c e v ⟨o,ho,hd⟩=>by
  have nch:c∉ch:=fun z=>(hch c z).2.2.1 x c e rfl
  by_cases hc:c∈X.fs
  ·obtain ⟨sl,q⟩:=slot c o (I.cne x c e) hc nch ho (I.freeC x c e);exact ⟨_,q,hd⟩
  ·exact ⟨o,keep c o (I.cne x c e) hc nch ho (I.freeC x c e),hd⟩
 refine ⟨I.ok,I.os,hg,⟨fun b o e n hb hx=>?_,fun b o e n hb hx=>?_,fun b o e n hx=>?_,fun b o e hx=>?_,fun b xs e=>tups b xs (I.base.tups b xs e),fun b o xs e=>frzs b o xs (I.base.frzs b o xs e),fun b ps e=>?_⟩,?_,fun x c e=>?_,?_,fun x c e=>?_,fun p hp=>?_,hok,I.len⟩
 ·exact keep b o (neL b o e) hb (neC b o e hx) (I.base.keep b o e n hb hx) (I.base.free b o e n hx)
 ·obtain ⟨sl,e1⟩:=I.base.slot b o e n hb hx;obtain ⟨sl',e2⟩:=slot b _ (neL b o e) hb (neC b o e hx) e1 (I.base.free b o e n hx);exact ⟨sl',e2⟩
 ·obtain ⟨o',e1⟩:=I.base.there b o e hx;exact free b o' (neC b o e hx) e1 (I.base.free b o e n hx)
 ·obtain ⟨o',e1⟩:=I.base.there b o e hx;exact there b o' (neC b o e hx) e1
 ·obtain ⟨m1,e1⟩:=I.base.tbls b ps e;obtain ⟨m2,e2⟩:=tbls b _ e1;exact ⟨m1++m2,by rw [e2,Array.append_assoc]⟩
 ·obtain ⟨m,hn,hl⟩:=I.loc;refine ⟨m,ns m hn,fun i x v e1 e2 e3=>?_⟩;obtain ⟨u,r,l⟩:=hl i x v e1 e2 e3;refine ⟨u,r,?_⟩;rcases l with l|⟨k,c,e,z⟩
  ·exact .inl l
  ·exact .inr ⟨k,c,e,cellK x c e _ z⟩
 ·obtain ⟨v,z⟩:=I.cell x c e;exact ⟨v,cellK x c e v z⟩
 ·obtain ⟨m,⟨o,_,_,ho,_⟩,_⟩:=I.loc;exact free _ o (fun z=>(hch _ z).2.1 rfl) ho I.free
 ·obtain ⟨v,o,ho,hd⟩:=I.cell x c e;exact free c o (fun z=>(hch c z).2.2.1 x c e rfl) ho (I.freeC x c e)
 ·obtain ⟨e,n,ne,nf,d⟩:=I.pin p hp;have nch:p.1∉ch:=fun z=>(hch p.1 z).2.2.2 p hp rfl
  exact ⟨keep p.1 p.2 ne nf nch e n,free p.1 p.2 nch e n,ne,nf,d⟩
theorem Inv.un {t':Nat} (I:Inv X pins σ H s) (u:Un X.fs [] H H' s.heap h') (hok:HOk X.prog X.w H' h'):Inv X pins σ H' {s with heap:=h',toks:=t'}:=by
 obtain ⟨m,⟨o,es,ep,ho,r⟩,_⟩:=id I.loc;obtain ⟨sl,hL⟩:=u.any ho I.free (by simp);exact I.step (g':=s.gens) (d':=s.drawn) (ch:=[]) (fun _ z=>nomatch z) (fun b o _ hb _ e n=>u.keep b o e n hb (by simp)) (fun b o _ hb _ e n=>u.slot b o e n hb (by simp)) (fun b o _ e n=>u.free b o e n (by simp)) (fun b o _ e=>u.there b o e (by simp)) u.tups u.frzs u.tbls (fun m' hm=>by
  obtain ⟨o',es',ep',ho',r'⟩:=hm;rw [ho] at ho';cases ho';exact ⟨_,es',ep',hL,r'⟩) hok I.bare
theorem Inv.call {g':Array GenState} {t':Nat} {d':Drawn} {ch:List Addr} (I:Inv X pins σ H s) (u:Un (frs X.stack) ch H H' s.heap h') (hok:HOk X.prog X.w H' h') (hg:AllBare g')
  (hch:∀b∈ch,(b∈X.ex\/X.s₀.heap.objs.size<=b)/\b≠X.env.locals/\(∀x c,X.env.cells.lookup x=some c->c≠b)/\∀p∈X.pn++pins,p.1≠b) :
  Inv X pins σ H' {s with heap:=h',gens:=g',drawn:=d',toks:=t'}:=by
 obtain ⟨m,⟨o,es,ep,ho,r⟩,_⟩:=id I.loc;obtain ⟨sl,hL⟩:=u.any ho I.free fun z=>(hch _ z).2.1 rfl
 exact I.step (ch:=ch) hch (fun b o hL hb hc e n=>u.keep b o e n (fun z=>(List.mem_cons.mp (I.yC b z)).elim hL hb) hc) (fun b o _ _ hc e n=>u.any e n hc) (fun b o hc e n=>u.free b o e n hc) (fun b o hc e=>u.there b o e hc) u.tups u.frzs u.tbls (fun m' hm=>by
  obtain ⟨o',es',ep',ho',r'⟩:=hm;rw [ho] at ho';cases ho';exact ⟨_,es',ep',hL,r'⟩) hok hg
theorem Inv.turned {t':Nat} {it:Addr} (I:Inv X pins σ H s) (k:∀b o,b≠it->s.heap.get? b=some o->h'.get? b=some o) (hn:H it=none) (hL:it≠X.env.locals)
  (h1:it∈X.ex\/X.s₀.heap.objs.size<=it) (h2:∀x c,X.env.cells.lookup x=some c->c≠it) (h3:∀p∈X.pn++pins,p.1≠it):Inv X pins σ H {s with heap:=h',toks:=t'}:=by
 have nit:∀b u,H b=some u->b≠it:=fun b u e z=>by rw [z,hn] at e;cases e
 refine I.step (g':=s.gens) (d':=s.drawn) (ch:=[it]) (fun b hb=>?_) (fun b o _ _ hc e _=>k b o (fun z=>hc (by simp [z])) e) (fun b o _ _ hc e _=>⟨o.slots,k b o (fun z=>hc (by simp [z])) e⟩) (fun _ _ _ _ n=>n)
  (fun b o hc e=>⟨o,k b o (fun z=>hc (by simp [z])) e⟩) (fun _ _ e=>e) (fun _ _ _ e=>e) (fun b ps e=>⟨#[],by rw [e];simp⟩) (fun m hm=>?_) (fun b u e=>?_) I.bare
 ·have e:b=it:=by simpa using hb
  subst e;exact ⟨h1,hL,h2,h3⟩
 ·obtain ⟨o,es,ep,ho,r⟩:=hm;exact ⟨o,es,ep,k _ o (Ne.symm hL) ho,r⟩
 ·refine (I.hok b u e).stay (fun c v hc q=>k c v ?_ q) (fun _ q=>q) fun _ _ q=>q
  rcases hc with z|z
  ·rw [z];exact nit b u e
  ·exact nit c _ z
theorem Inv.tok (I:Inv X pins σ H s) (t:Nat):Inv X pins σ H {s with toks:=t}:=I.un (h':=s.heap) (t':=t) Un.refl I.hok
theorem Inv.kept {t':Nat} (I:Inv X pins σ H s) (k:∀b u,s.heap.get? b=some u->h'.get? b=some u):Inv X pins σ H {s with heap:=h',toks:=t'}:=I.un (Un.kept k) (I.hok.kept k)
theorem Inv.laid {a:Addr} {o:HO} {t':Nat} (I:Inv X pins σ H s) (k:∀b u,s.heap.get? b=some u->h'.get? b=some u) (hp:s.heap.objs.size<=a) (new:iR X.prog X.w (upd H a o) h' a o) :
  Inv X pins σ (upd H a o) {s with heap:=h',toks:=t'}:=I.un (Un.laid k hp (I.hok.fresh hp)) (I.hok.laid k hp new)
theorem Inv.write {x e:Addr} {o:HO} {t':Nat} (I:Inv X pins σ H s) (mu:Mut (H x)) (he:e=x\/H e=some (.own x)) (k:∀b u,b≠e->s.heap.get? b=some u->h'.get? b=some u) (heo:∃u,h'.get? e=some u)
  (new:iR X.prog X.w (upd H x o) h' x o):Inv X pins σ (upd H x o) {s with heap:=h',toks:=t'}:=I.un (Un.write mu he k heo) (I.hok.write mu he k heo new)
theorem Inv.weak {σ':List (Option V)} (I:Inv X pins σ H s) (hl:σ'.length=σ.length) (w:∀(i:Nat) v,σ'[i]?=some (some v)->σ[i]?=some (some v)):Inv X pins σ' H s:=
 ⟨I.ok,I.os,I.bare,I.base,let ⟨m,hn,hl'⟩:=I.loc;⟨m,hn,fun i x v e1 e2 e3=>hl' i x v e1 (w i v e2) e3⟩,I.cell,I.free,I.freeC,I.pin,I.hok,hl.trans I.len⟩
theorem Inv.wF {pins':List (Addr×Obj)} (I:Inv X pins σ H s) (h:∀p∈pins',s.heap.get? p.1=some p.2/\H p.1=none/\p.1≠X.env.locals/\p.1∉X.fs/\∀v,p.2.data≠.cell v):Inv X pins' σ H s:=
 ⟨I.ok,I.os,I.bare,I.base,I.loc,I.cell,I.free,I.freeC,fun p hp=>(List.mem_append.mp hp).elim (fun z=>I.pin p (List.mem_append_left _ z)) (h p),I.hok,I.len⟩
theorem yD {N:List Str} (hN:N.Nodup) {i j:Nat} {x:Str} (a:N[i]?=some x) (b:N[j]?=some x):i=j:=by
 obtain ⟨h1,e1⟩:=List.getElem?_eq_some_iff.mp a;obtain ⟨h2,e2⟩:=List.getElem?_eq_some_iff.mp b;exact (List.getElem_inj hN).mp (e1.trans e2.symm)
theorem GQ {M:Model} {A:Around} {E:Value->Shared->Prop} {i:Nat} {x:Str} {v:V} {u:Value} {Q:Unit->Shared->Prop} (I:Inv X pins σ H s) (hN:X.N.Nodup) (hi:X.N[i]?=some x) (hx:Loc X.env.scope x) (r:RelV v u)
  (h:∀s',Inv X pins (σ.set i (some v)) H s'->(∃a,Heap.SameBut a s.heap s'.heap/\(a=X.env.locals\/X.env.cells.lookup x=some a))->Q () s') (hf:X.fn x=true\/X.env.scope.names.lookup x=some .local:=by first|exact .inl rfl|exact .inr rfl|assumption):wpAny M A (storeName X.env x u) Q E s:=by
 obtain ⟨m,hn,hl⟩:=id I.loc;have hcls:(X.env.scope.kind==.class||(X.env.scope.kind==.module&&X.env.locals != X.env.globals))=false:=by rw [I.ok.kind];rfl
 have hiσ:i<σ.length:=by rw [I.len];exact (List.getElem?_eq_some_iff.mp hi).1
 have cne:=I.cne;have tracked:∀{a:Addr} {h':Heap},(∃o,s.heap.get? a=some o/\H a=none)->Heap.SameBut a s.heap h'->HOk X.prog X.w H h':=fun {a h'} ha hs b ob e=>by
  obtain ⟨_,_,hfree⟩:=ha;refine (I.hok b ob e).stay (fun c w' hc q=>(hs.2 c ?_).trans q) (fun _ q=>q) fun _ _ q=>q
  rintro rfl;rcases hc with rfl|hc
  ·rw [hfree] at e;cases e
  ·rw [hfree] at hc;cases hc
 rcases hx with hk|hk
 ·refine wpAny_storeName_local hk hn (fun h' hn' hs=>?_) hcls;obtain ⟨oL,_,_,hoL,_⟩:=id hn;refine h _ ⟨I.ok,I.os,I.bare,⟨fun b o e n hb hx=>?_,fun b o e n hb hx=>?_,I.base.free,fun b o e hx=>?_,I.base.tups,I.base.frzs,I.base.tbls⟩,⟨_,hn',fun j y v' e1 e2 e3=>?_⟩,fun y c e=>?_,I.free,I.freeC,fun p hp=>?_,tracked ⟨oL,hoL,I.free⟩ hs,by simpa using I.len⟩ ⟨_,hs,.inl rfl⟩
  ·exact (hs.2 b (Nat.ne_of_lt (Nat.lt_of_lt_of_le (Heap.lt_size e) I.ok.above))).trans (I.base.keep b o e n hb hx)
  ·obtain ⟨sl,e1⟩:=I.base.slot b o e n hb hx;exact ⟨sl,(hs.2 b (Nat.ne_of_lt (Nat.lt_of_lt_of_le (Heap.lt_size e) I.ok.above))).trans e1⟩
  ·obtain ⟨o',e1⟩:=I.base.there b o e hx;exact ⟨o',(hs.2 b (Nat.ne_of_lt (Nat.lt_of_lt_of_le (Heap.lt_size e) I.ok.above))).trans e1⟩
  ·by_cases hj:j=i
   ·subst hj;rw [hi] at e1;cases e1;rw [List.getElem?_set_self hiσ] at e2;cases e2;exact ⟨u,r,.inl ⟨hk,by simp⟩⟩
   ·rw [List.getElem?_set_ne (Ne.symm hj)] at e2;obtain ⟨u',r',q⟩:=hl j y v' e1 e2 e3;refine ⟨u',r',?_⟩;rcases q with ⟨k,e⟩|⟨k,c,e,z⟩
    ·refine .inl ⟨k,?_⟩;have:y≠x:=fun e=>hj (yD hN e1 (e▸hi))
     simp [this,e]
    ·exact .inr ⟨k,c,e,z.sameBut hs (cne y c e)⟩
  ·obtain ⟨w',z⟩:=I.cell y c e;exact ⟨w',z.sameBut hs (cne y c e)⟩
  ·obtain ⟨e,n,ne,nf,d⟩:=I.pin p hp;exact ⟨(hs.2 p.1 ne).trans e,n,ne,nf,d⟩
 ·have hfn:X.fn x=true:=by
   rcases hf with z|z
   ·exact z
   ·rw [z] at hk;cases hk
  obtain ⟨c,hc⟩:=I.ok.has x (.inl hk);obtain ⟨w',z⟩:=I.cell x c hc;refine wpAny_storeName_cell I.ok.kind hk hc z (fun h' hc' hs=>?_);obtain ⟨oc,hoc,hocd⟩:=id z;refine h {s with heap:=h'} ⟨I.ok,I.os,I.bare,⟨fun b o e n hb hx=>?_,fun b o e n hb hx=>?_,I.base.free,fun b o e hx=>?_,I.base.tups,I.base.frzs,I.base.tbls⟩,⟨m,hn.sameBut hs (Ne.symm (cne x c hc)),fun j y v' e1 e2 e3=>?_⟩,fun y c' e=>?_,I.free,I.freeC,fun p hp=>?_,tracked ⟨oc,hoc,I.freeC x c hc⟩ hs,by simpa using I.len⟩ ⟨c,hs,.inr hc⟩
  ·exact (hs.2 b (Nat.ne_of_lt (Nat.lt_of_lt_of_le (Heap.lt_size e) (I.ok.cab x c hfn hc)))).trans (I.base.keep b o e n hb hx)
  ·obtain ⟨sl,e1⟩:=I.base.slot b o e n hb hx;exact ⟨sl,(hs.2 b (Nat.ne_of_lt (Nat.lt_of_lt_of_le (Heap.lt_size e) (I.ok.cab x c hfn hc)))).trans e1⟩
  ·obtain ⟨o',e1⟩:=I.base.there b o e hx;exact ⟨o',(hs.2 b (Nat.ne_of_lt (Nat.lt_of_lt_of_le (Heap.lt_size e) (I.ok.cab x c hfn hc)))).trans e1⟩
  ·by_cases hj:j=i
   ·subst hj;rw [hi] at e1;cases e1;rw [List.getElem?_set_self hiσ] at e2;cases e2;exact ⟨u,r,.inr ⟨.inl hk,c,hc,hc'⟩⟩
   ·rw [List.getElem?_set_ne (Ne.symm hj)] at e2;obtain ⟨u',r',q⟩:=hl j y v' e1 e2 e3;refine ⟨u',r',?_⟩;rcases q with q|⟨k,c',e,z'⟩
    ·exact .inl q
    ·refine .inr ⟨k,c',e,z'.sameBut hs ?_⟩;rintro rfl;exact hj (yD hN e1 (I.ok.inj _ _ _ e hc▸hi))
  ·by_cases hcc:c'=c
   ·subst hcc;exact ⟨_,hc'⟩
   ·obtain ⟨w2,z2⟩:=I.cell y c' e;exact ⟨w2,z2.sameBut hs hcc⟩
  ·obtain ⟨e,n,ne,nf,d⟩:=I.pin p hp;refine ⟨(hs.2 p.1 ?_).trans e,n,ne,nf,d⟩;intro q;rw [q,hoc] at e;have q':oc=p.2:=Option.some.inj e;exact d w' (by rw [<-q'];exact hocd)
theorem yE {M:Model} {A:Around} {E:Value->Shared->Prop} {i:Nat} {x:Str} {v:V} {u:Value} {Q:Unit->Shared->Prop} (I:Inv X pins σ H s) (hN:X.N.Nodup) (hi:X.N[i]?=some x) (hx:Loc X.env.scope x) (r:RelV v u)
  (h:∀s',Inv X pins (σ.set i (some v)) H s'->Q () s') (hf:X.fn x=true\/X.env.scope.names.lookup x=some .local:=by first|exact .inl rfl|exact .inr rfl|assumption):wpAny M A (storeName X.env x u) Q E s:=
 GQ I hN hi hx r (fun s' I' _=>h s' I') hf
end
abbrev XK:=Value->Option Addr->Hp->Prop
abbrev St:=List (Option V)
abbrev VK:=V->Hp->Prop
abbrev TE:=St->Hp->VK->Prop
abbrev TT:=St->Hp->(Bool->Hp->Prop)->Prop
abbrev TA:=St->Hp->(List V->Hp->Prop)->Prop
structure Ends where
 nx:St->Hp->Prop
 rt:VK
 bk:St->Hp->Prop:=fun _ _=>False
 ct:St->Hp->Prop:=fun _ _=>False
abbrev TS:=Ends->St->Hp->Prop
noncomputable def EP (X:Cx) (pins:List (Addr×Obj)) (σ:St) (Q:VK) (u:Value) (s':Shared):Prop:=∃v H',Inv X pins σ H' s'/\RelV v u/\Q v H'
noncomputable def TP (X:Cx) (pins:List (Addr×Obj)) (σ:St) (Q:Bool->Hp->Prop) (b:Bool) (s':Shared):Prop:=∃H',Inv X pins σ H' s'/\Q b H'
noncomputable def AP (X:Cx) (pins:List (Addr×Obj)) (σ:St) (Q:List V->Hp->Prop) (us:List Value) (s':Shared):Prop:=∃vs H',Inv X pins σ H' s'/\Vals vs us/\Q vs H'
noncomputable def SP (X:Cx) (pins:List (Addr×Obj)) (D:Ends) (f:Flow) (s':Shared):Prop:=
 match f with
 | .next=>∃σ' H',Inv X pins σ' H' s'/\D.nx σ' H'
 | .brk=>∃σ' H',Inv X pins σ' H' s'/\D.bk σ' H'
 | .cont=>∃σ' H',Inv X pins σ' H' s'/\D.ct σ' H'
 | .ret u=>∃v σ' H',Inv X pins σ' H' s'/\RelV v u/\D.rt v H'
noncomputable def PE (X:Cx) (e:Expr) (t:TE):Prop:=
 ∀(pins:List (Addr×Obj)) (s:Shared) (σ:St) (H:Hp) (Q:VK),Inv X pins σ H s->t σ H Q->wpAny (model X.prog X.w) X.A (eval e X.env) (EP X pins σ Q) X.xe s
noncomputable def PT (X:Cx) (e:Expr) (t:TT):Prop:=
 ∀(pins:List (Addr×Obj)) (s:Shared) (σ:St) (H:Hp) (Q:Bool->Hp->Prop),Inv X pins σ H s->t σ H Q->wpAny (model X.prog X.w) X.A (isTrue e X.env (eval e X.env)) (TP X pins σ Q) X.xe s
noncomputable def PW (X:Cx) (e:Expr) (t:TT):Prop:=
 ∀(whole:Sem Value) (pins:List (Addr×Obj)) (s:Shared) (σ:St) (H:Hp) (Q:Bool->Hp->Prop),Inv X pins σ H s->t σ H Q->wpAny (model X.prog X.w) X.A (isTrue e X.env whole) (TP X pins σ Q) X.xe s
theorem PW.pt {X:Cx} {e:Expr} {t:TT} (h:PW X e t):PT X e t:=h _
noncomputable def PA (X:Cx) (es:List Expr) (t:TA):Prop:=
 ∀(pos:Pos) (pins:List (Addr×Obj)) (s:Shared) (σ:St) (H:Hp) (Q:List V->Hp->Prop),Inv X pins σ H s->t σ H Q->wpAny (model X.prog X.w) X.A (spliced (backTo pos (starEach es X.env))) (AP X pins σ Q) X.xe s
noncomputable def PS (X:Cx) (st:Stmt) (t:TS):Prop:=
 ∀(pins:List (Addr×Obj)) (s:Shared) (σ:St) (H:Hp) (D:Ends),Inv X pins σ H s->t D σ H->wpAny (model X.prog X.w) X.A (exec st X.env) (SP X pins D) X.xe s
noncomputable def PSs (X:Cx) (st:List Stmt) (t:TS):Prop:=
 ∀(pins:List (Addr×Obj)) (s:Shared) (σ:St) (H:Hp) (D:Ends),Inv X pins σ H s->t D σ H->wpAny (model X.prog X.w) X.A (execs st X.env) (SP X pins D) X.xe s
theorem thn {α:Type} {t:Sem α} {Q Q':α->Shared->Prop} {M:Model} {A:Around} {E:Value->Shared->Prop} {s:Shared} (h:wpAny M A t Q E s) (hQ:∀a s,Q a s->Q' a s):wpAny M A t Q' E s:=wpAny_mono h hQ fun _ _ x=>x
end L2
namespace L2
open PySem PySem.Spec PyProof.Rows
section
variable {X:Cx}
def aD1 (i:Nat):TE:=fun σ H Q=>∃v,σ[i]?=some (some v)/\Q v H
def tC (v:V):TE:=fun _ H Q=>Q v H
theorem eV {i:Nat} {x:Str} {pos:Pos} (hN:X.N[i]?=some x) (hv:Vis X.env.scope x) (hd:nDb x:=by decide) (hcd:nCd x:=by decide):PE X (.Name x pos) (aD1 i):=by
 intro pins s σ H Q I h;obtain ⟨v,e,h⟩:=h;obtain ⟨m,hn,hl⟩:=I.loc;obtain ⟨u,r,l⟩:=hl i x v hN e hv;have fin:EP X pins σ Q u s:=⟨v,H,I,r,h⟩
 rcases l with ⟨hk,hm⟩|⟨hk,c,hc,hcell⟩
 ·exact wpAny_Name (wpAny_loadName_local I.ok.kind hk hn hm fin) hd
 ·rcases hk with hk|hk
  ·exact wpAny_Name (wpAny_loadName_cell I.ok.kind hk hc hcell fin) hd
  ·exact wpAny_Name (wpAny_loadName_free I.ok.kind hk hc hcell fin hcd) hd
theorem Z1 {i j pos}:PE X (.Constant (.int i) j pos) (tC (.int i)):=fun _ _ _ H _ I h=>wpAny_Constant_int ⟨.int i,H,I.tok _,⟨_,rfl⟩,h⟩
theorem aDb {b j pos}:PE X (.Constant (.bool b) j pos) (tC (.bl b)):=fun _ _ _ H _ I h=>Constant_bool ⟨.bl b,H,I,rfl,h⟩
theorem Z2 {x j pos}:PE X (.Constant (.str x) j pos) (tC (.str x)):=fun _ _ _ H _ I h=>Calls.Constant_str ⟨.str x,H,I.tok _,⟨_,rfl⟩,h⟩
def Gl (X:Cx) (x:Str):Prop:=X.env.kindOf x=some .globalImplicit
theorem VJ {E:Value->Shared->Prop} {pins:List (Addr×Obj)} {s:Shared} {σ:St} {H:Hp} {x:Str} {u:Value} {pos:Pos} {Q:Value->Shared->Prop} (I:Inv X pins σ H s) (hg:Gl X x) (hm:X.mg x=some u) (h:Q u s)
  (hd:nDb x:=by decide):wpAny (model X.prog X.w) X.A (eval (.Name x pos) X.env) Q E s:=
 Calls.Name_function_global I.ok.kind hg (Calls.loadGlobal_global (by rw [I.ok.glob];exact I.mod.glob.keeps I.bk) hm h) hd
theorem mK {E:Value->Shared->Prop} {pins:List (Addr×Obj)} {s:Shared} {σ:St} {H:Hp} {x:Str} {u:Value} {pos:Pos} {Q:Value->Shared->Prop} (I:Inv X pins σ H s) (hg:Gl X x) (hm:X.mg x=none) (hv:bootBuiltins x=some u) (h:Q u s)
  (hn:x ≠ "__name__":=by decide) (hd:nDb x:=by decide):wpAny (model X.prog X.w) X.A (eval (.Name x pos) X.env) Q E s:=by
 obtain ⟨mb,h1,h2⟩:=I.mod.blt;exact Calls.Name_function_global I.ok.kind hg (Calls.loadGlobal_builtin (by rw [I.ok.glob];exact I.mod.glob.keeps I.bk) hm (by rw [I.ok.blt];exact h1.keeps I.bk) ((h2 x hn).trans hv) h) hd
theorem VL {x:Str} {v:V} {u:Value} {pos:Pos} (hg:Gl X x) (hm:X.mg x=none) (hv:bootBuiltins x=some u) (r:RelV v u) (hn:x ≠ "__name__":=by decide) (hd:nDb x:=by decide):PE X (.Name x pos) (tC v):=
 fun _ _ _ H _ I h=>mK I hg hm hv ⟨v,H,I,r,h⟩ hn hd
variable {a b:Expr} {ta tb:TE} {pos:Pos}
variable {tA tB':TT} {rest:List Expr}
noncomputable def aEx (t u:TT):TT:=fun σ H Q=>t σ H fun c H1=>if c=true then u σ H1 Q else Q false H1
noncomputable def tOr (t u:TT):TT:=fun σ H Q=>t σ H fun c H1=>if c=true then Q true H1 else u σ H1 Q
def aEy (t:TT):TT:=fun σ H Q=>t σ H fun c H1=>Q (!c) H1
theorem VM (ha:PT X a tA):PW X (.BoolOp .And [a] pos) tA:=by
 intro wh pins s σ H Q I h;refine isTrue_and (thn (ha pins s σ H Q I h) fun c s1 e=>?_);cases c with
 | true=>exact isTrue_and_nil e
 | false=>exact e
theorem Z3 (ha:PT X a tA):PW X (.BoolOp .Or [a] pos) tA:=by
 intro wh pins s σ H Q I h;refine isTrue_or (thn (ha pins s σ H Q I h) fun c s1 e=>?_);cases c with
 | false=>exact isTrue_or_nil e
 | true=>exact e
theorem Z4 (ha:PT X a tA) (hb:PW X (.BoolOp .And (b::rest) pos) tB'):PW X (.BoolOp .And (a::b::rest) pos) (aEx tA tB'):=by
 intro wh pins s σ H Q I h;refine isTrue_and (thn (ha pins s σ H _ I h) fun c s1 ⟨H1,I1,q1⟩=>?_);cases c with
 | true=>exact hb wh pins s1 σ H1 Q I1 q1
 | false=>exact ⟨H1,I1,q1⟩
theorem aDc (ha:PT X a tA) (hb:PW X (.BoolOp .Or (b::rest) pos) tB'):PW X (.BoolOp .Or (a::b::rest) pos) (tOr tA tB'):=by
 intro wh pins s σ H Q I h;refine isTrue_or (thn (ha pins s σ H _ I h) fun c s1 ⟨H1,I1,q1⟩=>?_);cases c with
 | true=>exact ⟨H1,I1,q1⟩
 | false=>exact hb wh pins s1 σ H1 Q I1 q1
theorem Z5 (ha:PT X a tA):PT X (.UnaryOp .Not a pos) (aEy tA):=by
 intro pins s σ H Q I h;exact isTrue_not (ha pins s σ H (fun c H1=>Q (!c) H1) I h)
noncomputable def aDd (ta tb:TE):TE:=fun σ H Q=>ta σ H fun x H1=>∃c,x=.bl c/\if c=true then tb σ H1 Q else Q (.bl false) H1
theorem Z6 {op} {t:TE} (h:PE X a t):PE X (.BoolOp op [a] pos) t:=fun pins s σ H Q I hw=>BoolOp_one (h pins s σ H Q I hw)
theorem Z7 (ha:PE X a ta) (hb:PE X (.BoolOp .And (b::rest) pos) tb):PE X (.BoolOp .And (a::b::rest) pos) (aDd ta tb):=by
 intro pins s σ H Q I h;refine BoolOp_and (thn (ha pins s σ H _ I h) fun v s1 ⟨x,H1,I1,r1,q1⟩=>?_);obtain ⟨c,rfl,q1⟩:=q1;cases r1;refine wpAny_truthy_bool ?_;cases c with
 | true=>exact hb pins s1 σ H1 Q I1 q1
 | false=>exact ⟨.bl false,H1,I1,rfl,q1⟩
end
end L2
namespace L2
open PySem PySem.Spec PyProof.Rows
noncomputable def SqL (K:PySem.W.Frag) (H:Hp) (a:Addr) (xs:List V):Prop:=
 Rd H a (.lst xs)\/
  ∃(o:Obj) (its:Array Value) (n:Nat),K.lookup a=some o/\o.cls=.type "list"/\o.dict=none/\o.data=.seq its n/\its.size<=sizeLine/\Vals xs its.toList
noncomputable def SqT (K:PySem.W.Frag) (H:Hp) (a:Addr) (xs:List V):Prop:=
 Rd H a (.tup xs)\/
  ∃(o:Obj) (its:Array Value) (n:Nat),K.lookup a=some o/\o.cls=.type "tuple"/\o.data=.seq its n/\its.size<=sizeLine/\Vals xs its.toList
noncomputable def aEz:Value->Option V
 | .none=>some .non
 | .bool b=>some (.bl b)
 | .int i _=>some (.int i)
 | .str x _=>some (.str x)
 | .bytes b _=>some (.byt b)
 | .float b _=>some (.flt b)
 | .ref a=>some (.ref a)
 | .type n=>some (.ty n)
 | _=>none
theorem RelV.abs {x:V} {u:Value} (r:RelV x u):aEz u=some x:=by
 cases x with
 | non=>cases r;rfl
 | bl _=>cases r;rfl
 | int _=>obtain ⟨t,rfl⟩:=r;rfl
 | str _=>obtain ⟨t,rfl⟩:=r;rfl
 | byt _=>obtain ⟨t,rfl⟩:=r;rfl
 | flt _=>obtain ⟨t,rfl⟩:=r;rfl
 | ref _=>cases r;rfl
 | ty _=>cases r;rfl
theorem RelV.inj {x y:V} {u:Value} (r:RelV x u) (q:RelV y u):x=y:=Option.some.inj (r.abs.symm.trans q.abs)
theorem Vals.inj:∀{xs ys:List V} {us:List Value},Vals xs us->Vals ys us->xs=ys
 | _,_,_,.nil,.nil=>rfl
 | _,_,_,.cons r t,.cons r' t'=>by rw [r.inj r',Vals.inj t t']
section
variable {X:Cx} {pins:List (Addr×Obj)} {σ:St} {H:Hp} {s:Shared} {a:Addr} {xs ys:List V}
theorem SqL.of {K:PySem.W.Frag} (h:H a=some (.lst xs)):SqL K H a xs:=.inl (.inl h)
theorem SqT.of {K:PySem.W.Frag} (h:H a=some (.tup xs)):SqT K H a xs:=.inl (.inl h)
theorem Inv.list (I:Inv X pins σ H s) (h:SqL X.K H a xs):∃its:List Value,Vals xs its/\PlainL s.heap a its.toArray/\xs.length<=sizeLine:=by
 rcases h with h|⟨o,its,n,hk,hc,hd,hs,hz,r⟩
 ·obtain ⟨z,its,n,r,e⟩:=h.ok I.hok;exact ⟨its,r,⟨_,n,e,rfl,rfl,rfl⟩,z⟩
 ·refine ⟨its.toList,r,⟨o,n,I.kIn a o hk,hc,hd,by simpa using hs⟩,?_⟩;have e:=r.length;simp only [Array.length_toList] at e;lia
theorem Inv.tuple (I:Inv X pins σ H s) (h:SqT X.K H a xs):∃its:List Value,Vals xs its/\IsTup s.heap a its.toArray/\xs.length<=sizeLine:=by
 rcases h with h|⟨o,its,n,hk,hc,hs,hz,r⟩
 ·obtain ⟨z,its,r,p⟩:=h.ok I.hok;exact ⟨its,r,p.tup,z⟩
 ·refine ⟨its.toList,r,⟨o,I.kIn a o hk,hc,n,by simpa using hs⟩,?_⟩;have e:=r.length;simp only [Array.length_toList] at e;lia
theorem Inv.PJ (I:Inv X pins σ H s) (h:SqL X.K H a xs) (h':SqL X.K H a ys):xs=ys:=by
 obtain ⟨its,r,⟨o,n,e,_,_,d⟩,_⟩:=I.list h;obtain ⟨its',r',⟨o',n',e',_,_,d'⟩,_⟩:=I.list h';rw [e] at e';cases e';rw [d] at d';injection d' with d1 _
 have:its=its':=by simpa using congrArg Array.toList d1
 subst this;exact r.inj r'
theorem Inv.GR (I:Inv X pins σ H s) (h:SqT X.K H a xs) (h':SqT X.K H a ys):xs=ys:=by
 obtain ⟨its,r,⟨o,e,_,n,d⟩,_⟩:=I.tuple h;obtain ⟨its',r',⟨o',e',_,n',d'⟩,_⟩:=I.tuple h';rw [e] at e';cases e';rw [d] at d';injection d' with d1 _
 have:its=its':=by simpa using congrArg Array.toList d1
 subst this;exact r.inj r'
end
abbrev Cx.wish (X:Cx) (E:Value->Shared->Prop):Cx:={X with xe:=E}
abbrev Cx.nox (X:Cx):Cx:=X.wish fun _ _=>False
theorem Cx.Ok.wish {X:Cx} (ok:X.Ok) (E:Value->Shared->Prop):(X.wish E).Ok:=
 ⟨ok.mod,ok.kind,ok.glob,ok.blt,ok.above,ok.inj,ok.has,ok.cab,ok.hd,ok.frames,ok.stk,ok.exf,ok.bs,ok.bsz,ok.noex,ok.exfs,ok.GK,ok.frf⟩
theorem Cx.Ok.oF {X:Cx} {E:Value->Shared->Prop} (ok:(X.wish E).Ok):X.Ok:=
 ⟨ok.mod,ok.kind,ok.glob,ok.blt,ok.above,ok.inj,ok.has,ok.cab,ok.hd,ok.frames,ok.stk,ok.exf,ok.bs,ok.bsz,ok.noex,ok.exfs,ok.GK,ok.frf⟩
section
variable {X:Cx} {pins:List (Addr×Obj)} {σ:St} {H:Hp} {s:Shared} {E:Value->Shared->Prop}
theorem Inv.wish (I:Inv X pins σ H s) (E:Value->Shared->Prop):Inv (X.wish E) pins σ H s:=⟨I.ok.wish E,I.os,I.bare,I.base,I.loc,I.cell,I.free,I.freeC,I.pin,I.hok,I.len⟩
theorem Inv.oF (I:Inv (X.wish E) pins σ H s):Inv X pins σ H s:=⟨I.ok.oF,I.os,I.bare,I.base,I.loc,I.cell,I.free,I.freeC,I.pin,I.hok,I.len⟩
theorem SP.oF {D:Ends} {f:Flow} {s':Shared} (h:SP (X.wish E) pins D f s'):SP X pins D f s':=by
 cases f with
 | next=>obtain ⟨σ',H',I,q⟩:=h;exact ⟨σ',H',I.oF,q⟩
 | brk=>obtain ⟨σ',H',I,q⟩:=h;exact ⟨σ',H',I.oF,q⟩
 | cont=>obtain ⟨σ',H',I,q⟩:=h;exact ⟨σ',H',I.oF,q⟩
 | ret u=>obtain ⟨v,σ',H',I,r,q⟩:=h;exact ⟨v,σ',H',I.oF,r,q⟩
theorem PSs.nox {st:List Stmt} {t:TS} (h:PSs X.nox st t):PSs X st t:=fun pins s σ H D I hw=>
 wpAny_mono (h pins s σ H D (I.wish _) hw) (fun _ _ q=>q.oF) fun _ _ z=>False.elim z
end
section
variable {X:Cx} {st:Stmt} {rest:List Stmt} {t u:TS} {e:Expr} {te:TE} {pos:Pos}
def Z8:TS:=fun D σ H=>D.nx σ H
def VN (t u:TS):TS:=fun D σ H=>t {D with nx:=u D} σ H
theorem GX:PSs X [] Z8:=fun _ _ σ H _ I h=>wpAny_execs_nil ⟨σ,H,I,h⟩
theorem oW (h1:PS X st t) (h2:PSs X rest u):PSs X (st::rest) (VN t u):=by
 intro pins s σ H D I h;refine wpAny_execs_cons (thn (h1 pins s σ H {D with nx:=u D} I h) fun f s1 q=>?_);cases f with
 | next=>
  obtain ⟨σ',H',I',q⟩:=q;exact h2 pins s1 σ' H' D I' q
 | ret v=>exact q
 | brk=>exact q
 | cont=>exact q
theorem wG (h1:PS X st t):PSs X [st] t:=by
 intro pins s σ H D I h;refine wpAny_execs_cons (thn (h1 pins s σ H D I h) fun f s1 q=>?_);cases f with
 | next=>exact wpAny_execs_nil q
 | ret v=>exact q
 | brk=>exact q
 | cont=>exact q
theorem Inv.quiet {pins:List (Addr×Obj)} {σ:St} {H:Hp} {s:Shared} (I:Inv X pins σ H s):interactive X.env=false:=by simp [interactive,I.ok.kind]
def aDe (te:TE):TS:=fun D σ H=>te σ H fun _ H1=>D.nx σ H1
theorem rM (he:PE X e te) (hs:swapsWith e none pos.line X.env=pure false:=by rfl):PS X (.Expr e pos) (aDe te):=by
 intro pins s σ H D I h;exact wpAny_Expr_any (thn (he pins s σ H _ I h) fun v s1 ⟨x,H1,I1,r1,q1⟩=>⟨σ,H1,I1,q1⟩) I.quiet hs
def aDf (te:TE):TS:=fun D σ H=>te σ H D.rt
theorem qY (he:PE X e te):PS X (.Return (some e) pos) (aDf te):=by
 intro pins s σ H D I h;exact wpAny_Return_some (thn (he pins s σ H _ I h) fun v s1 ⟨x,H1,I1,r1,q1⟩=>⟨x,σ,H1,I1,r1,q1⟩)
noncomputable def aEh (c:TT) (t u:TS):TS:=fun D σ H=>c σ H fun b H1=>if b=true then t D σ H1 else u D σ H1
theorem VP {c:Expr} {a b:List Stmt} {tc:TT} (hc:PT X c tc) (ha:PSs X a t) (hb:PSs X b u):PS X (.If c a b pos) (aEh tc t u):=by
 intro pins s σ H D I h;refine wpAny_If (thn (hc pins s σ H _ I h) fun d s1 ⟨H1,I1,q1⟩=>?_);cases d with
 | true=>exact ha pins s1 σ H1 D I1 q1
 | false=>exact hb pins s1 σ H1 D I1 q1
end
abbrev TG:=V->St->Hp->(St->Hp->Prop)->Prop
abbrev TGs:=List V->St->Hp->(St->Hp->Prop)->Prop
noncomputable def PG (X:Cx) (target:Expr) (t:TG):Prop:=
 ∀(pins:List (Addr×Obj)) (s:Shared) (σ:St) (H:Hp) (v:V) (u:Value) (Q:St->Hp->Prop),Inv X pins σ H s->RelV v u->t v σ H Q->
  wpAny (model X.prog X.w) X.A (assign target X.env u) (fun _ s'=>∃σ' H',Inv X pins σ' H' s'/\Q σ' H') X.xe s
noncomputable def PGs (X:Cx) (ts:List Expr) (t:TGs):Prop:=
 ∀(pins:List (Addr×Obj)) (s:Shared) (σ:St) (H:Hp) (vs:List V) (us:List Value) (Q:St->Hp->Prop),Inv X pins σ H s->Vals vs us->t vs σ H Q->
  wpAny (model X.prog X.w) X.A (assignInOrder ((assignEach ts X.env).map (·.2)) us) (fun _ s'=>∃σ' H',Inv X pins σ' H' s'/\Q σ' H') X.xe s
abbrev aF0:=V->V->V->Hp->(Hp->Prop)->Prop
noncomputable def aF1 (X:Cx) (t:aF0):Prop:=
 ∀(pins:List (Addr×Obj)) (s:Shared) (σ:St) (H:Hp) (o i v:V) (ov iv u:Value) (Q:Hp->Prop),Inv X pins σ H s->RelV o ov->RelV i iv->RelV v u->t o i v H Q->
  wpAny (model X.prog X.w) X.A (setItem ov iv u) (fun _ s'=>∃H',Inv X pins σ H' s'/\Q H') X.xe s
section
variable {X:Cx} {pos:Pos}
def o7 (i:Nat):TG:=fun v σ H Q=>Q (σ.set i (some v)) H
theorem aW {i:Nat} {x:Str} (hN:X.N.Nodup) (hi:X.N[i]?=some x) (hx:Loc X.env.scope x) (hf:X.fn x=true\/X.env.scope.names.lookup x=some .local:=by first|exact .inl rfl|exact .inr rfl|assumption):PG X (.Name x pos) (o7 i):=by
 intro pins s σ H v u Q I r h;exact wpAny_assign_Name (yE I hN hi hx r (fun s' I'=>⟨_,H,I',h⟩) hf)
def aEi:TGs:=fun vs σ H Q=>vs=[]/\Q σ H
noncomputable def Z9 (t:TG) (u:TGs):TGs:=fun vs σ H Q=>∃v r,vs=v::r/\t v σ H fun σ' H'=>u r σ' H' Q
theorem jG:PGs X [] aEi:=by
 intro pins s σ H vs us Q I r h;obtain ⟨e,h⟩:=h;subst e;cases r;exact assignInOrder_nil ⟨σ,H,I,h⟩
theorem bI {e:Expr} {es:List Expr} {t:TG} {u:TGs} (h1:PG X e t) (h2:PGs X es u)
  (hs:(assignEach (e::es) X.env).map (·.2)=assign e X.env::(assignEach es X.env).map (·.2):=by rfl):PGs X (e::es) (Z9 t u):=by
 intro pins s σ H vs us Q I r h;obtain ⟨v,vr,e1,h⟩:=h;subst e1;cases r with
 | cons r rr=>
  rw [hs];refine assignInOrder_cons (thn (h1 pins s σ H _ _ _ I r h) fun _ s1 ⟨σ1,H1,I1,q1⟩=>?_);exact h2 pins s1 σ1 H1 _ _ Q I1 rr q1
noncomputable def aDg (K:PySem.W.Frag) (n:Nat) (t:TGs):TG:=fun v σ H Q=>∃a xs,v=.ref a/\SqT K H a xs/\xs.length=n/\t xs σ H Q
theorem oG {es:List Expr} {k:Nat} {t:TGs} {n:Nat} (hc:X.calm=true) (h:PGs X es t)
  (hn:(assignEach es X.env).length=n:=by rfl) (hst:(assignEach es X.env).findIdx? (·.1)=none:=by rfl):PG X (.Tuple es k pos) (aDg X.K n t):=by
 intro pins s σ H v u Q I r hw;obtain ⟨a,xs,e1,hq,hl,hw⟩:=hw;subst e1;cases r;obtain ⟨its,rv,ht,hz⟩:=I.tuple hq;refine assign_Tuple_tuple (I.ok.hd hc) ht (by simp [hn,<-hl,rv.length]) hst fun h' hx=>?_
 have I1:Inv X pins σ H {s with heap:=h'}:=I.kept (t':=s.toks) fun b o e=>hx b o (Nat.ne_of_lt (Heap.lt_size e)) e
 exact h pins _ σ H xs _ Q I1 (by simpa using rv) hw
def VR (te:TE) (g:TG):TS:=fun D σ H=>te σ H fun x H1=>g x σ H1 D.nx
theorem Z_ {tg e:Expr} {te:TE} {g:TG} (he:PE X e te) (hg:PG X tg g) (hs:swapsWithSole [tg] e pos.line X.env=pure false:=by rfl) (hw:swappedStores [tg] e X.env=pure none:=by rfl)
  (h1:(assignEach [tg] X.env).map (·.2)=[assign tg X.env]:=by rfl):PS X (.Assign [tg] e pos) (VR te g):=by
 intro pins s σ H D I h;refine wpAny_Assign_stores (thn (he pins s σ H _ I h) fun v s1 ⟨x,H1,I1,r1,q1⟩=>?_) hs hw;rw [h1];exact thn (hg pins s1 σ H1 x v _ I1 r1 q1) fun _ s2 q=>q
theorem GZ {i:Nat} {x:Str} {e:Expr} {te:TE} {pos':Pos} (hN:X.N.Nodup) (hi:X.N[i]?=some x) (hx:Loc X.env.scope x) (he:PE X e te) (hs:swapsWith e (some (.Name x pos')) pos.line X.env=pure false:=by rfl) (hf:X.fn x=true\/X.env.scope.names.lookup x=some .local:=by first|exact .inl rfl|exact .inr rfl|assumption) :
  PS X (.Assign [.Name x pos'] e pos) (VR te (o7 i)):=by
 intro pins s σ H D I h;refine wpAny_Assign_Name (thn (he pins s σ H _ I h) fun v s1 ⟨y,H1,I1,r1,q1⟩=>?_) hs;exact yE I1 hN hi hx r1 (fun s2 I2=>⟨_,H1,I2,q1⟩) hf
end
section
variable {X:Cx} {pos:Pos}
noncomputable def aA0 (c:TT) (tb:TS):TS:=fun D σ H=>∃W:Nat->St->Hp->Prop,(∃m,W m σ H)/\∀m σ H,W m σ H->
 c σ H fun b H1=>if b=true then ∃N:St->Hp->Prop,(∀σ' H',N σ' H'->∃m',m'<m/\W m' σ' H')/\tb {D with nx:=N,ct:=N,bk:=D.nx} σ H1 else D.nx σ H1
theorem PK {c:Expr} {body:List Stmt} {tc:TT} {tb:TS} (hp:PassesOwn (model X.prog X.w) X.A X.env X.xe) (hc:PT X c tc) (hb:PSs X body tb):PS X (.While c body [] pos) (aA0 tc tb):=by
 intro pins s σ H D I h;obtain ⟨W,⟨m0,w0⟩,turn⟩:=h;refine wpAny_While (codeAny_whileLoop (fun n s'=>∃σ' H',Inv X pins σ' H' s'/\W n σ' H') ?_ m0 ⟨σ,H,I,w0⟩);rintro n s1 ⟨σ1,H1,I1,w1⟩;refine wpAny_passesOwn hp (thn (hc pins s1 σ1 H1 _ I1 (turn n σ1 H1 w1)) fun b s2 ⟨H2,I2,q2⟩=>?_);cases b with
 | true=>
  obtain ⟨N,hN,q2⟩:=q2;rw [if_pos rfl];refine wpAny_passesOwn hp (thn (hb pins s2 σ1 H2 _ I2 q2) fun f s3 q3=>?_);cases f with
  | next=>
   obtain ⟨σ3,H3,I3,n3⟩:=q3;obtain ⟨m',hm,w3⟩:=hN σ3 H3 n3;exact ⟨m',hm,σ3,H3,I3,w3⟩
  | cont=>
   obtain ⟨σ3,H3,I3,n3⟩:=q3;obtain ⟨m',hm,w3⟩:=hN σ3 H3 n3;exact ⟨m',hm,σ3,H3,I3,w3⟩
  | brk=>exact q3
  | ret v=>exact q3
 | false=>
  rw [if_neg Bool.false_ne_true];exact wpAny_execs_nil ⟨σ1,H2,I2,q2⟩
end
structure It where
 go:Nat->Hp->Prop
 yld:Nat->Hp->V->Hp->Prop
 stop:Nat->Hp->Prop
noncomputable def yF (X:Cx) (pins:List (Addr×Obj)) (H:Hp) (b:Addr):Prop:=
 H b=none/\b≠X.env.locals/\b∉X.fs/\(b∈X.ex\/X.s₀.heap.objs.size<=b)/\(∀x c,X.env.cells.lookup x=some c->c≠b)/\∀p∈X.pn++pins,p.1≠b
theorem Inv.aA1 {X:Cx} {pins:List (Addr×Obj)} {σ:St} {H H':Hp} {s:Shared} {b:Addr} (I:Inv X pins σ H s) (hb:s.heap.objs.size<=b) (hn:H' b=none):yF X pins H' b:=by
 refine ⟨hn,Nat.ne_of_gt (Nat.lt_of_lt_of_le I.lt hb),I.aEg hb,.inr (Nat.le_trans I.sz hb),fun x c e z=>?_,fun p hp z=>?_⟩
 ·obtain ⟨v,q⟩:=I.cell x c e;exact absurd (Nat.lt_of_lt_of_le q.lt (by rw [z];exact hb)) (Nat.lt_irrefl _)
 ·exact absurd (Nat.lt_of_lt_of_le (Heap.lt_size (I.pin p hp).1) (by rw [z];exact hb)) (Nat.lt_irrefl _)
structure Turn (P:Program) (w:World) (K:PySem.W.Frag) (tg:Expr) (J:It) (fp:List Addr) (it:Addr) (tn:Nat->Heap->Prop):Prop where
 mem:it∈fp
 obj:∀i h,tn i h->∀b∈fp,∃o,h.get? b=some o/\∀v,o.data≠.cell v
 keep:∀i h h',tn i h->(∀b∈fp,∀o,h.get? b=some o->h'.get? b=some o)->tn i h'
 item:∀(X:Cx),X.prog=P->X.w=w->X.K=K->X.calm=true->∀(i:Nat) (pins:List (Addr×Obj)) (s:Shared) (σ:St) (H:Hp) (E:Value->Shared->Prop),Inv X pins σ H s->(∀b∈fp,yF X pins H b)->tn i s.heap->J.go i H->
  wpAny (model P w) X.A (pyNext (.ref it)) (fun r s1=>∃u,r=some u/\
   wpAny (model P w) X.A (letOwnedTupleGo tg (.ref it) u) (fun _ s2=>∃x H',Inv X pins σ H' s2/\RelV x u/\J.yld i H x H'/\tn (i+1) s2.heap/\∀b∈fp,H' b=none) E s1) E s
 done:∀(X:Cx),X.prog=P->X.w=w->X.K=K->X.calm=true->∀(i:Nat) (pins:List (Addr×Obj)) (s:Shared) (σ:St) (H:Hp) (E:Value->Shared->Prop),Inv X pins σ H s->(∀b∈fp,yF X pins H b)->tn i s.heap->J.stop i H->
  wpAny (model P w) X.A (pyNext (.ref it)) (fun r s1=>r=none/\Inv X pins σ H s1) E s
 self:∀(A:Around) (i:Nat) (s:Shared) (Q:Value->Shared->Prop) (E:Value->Shared->Prop),tn i s.heap->Q (.ref it) s->wpAny (model P w) A (pyIter (.ref it)) Q E s
abbrev TI:=St->Hp->(It->Hp->Prop)->Prop
noncomputable def PIE (X:Cx) (pins:List (Addr×Obj)) (σ:St) (tg:Expr) (R:It->Hp->Prop) (itv:Value) (s2:Shared):Prop:=
 ∃(it:Addr) (fp:List Addr) (tn:Nat->Heap->Prop) (J:It) (H':Hp),itv=.ref it/\Inv X pins σ H' s2/\Turn X.prog X.w X.K tg J fp it tn/\tn 0 s2.heap/\(∀b∈fp,yF X pins H' b)/\R J H'
noncomputable def PI (X:Cx) (tg iter:Expr) (wi:TI):Prop:=
 ∀(pins:List (Addr×Obj)) (s:Shared) (σ:St) (H:Hp) (R:It->Hp->Prop),Inv X pins σ H s->wi σ H R->
  wpAny (model X.prog X.w) X.A (eval iter X.env) (fun v s1=>wpAny (model X.prog X.w) X.A (pyIter v) (PIE X pins σ tg R) X.xe s1) X.xe s
theorem PL {M:Model} {A:Around} {E:Value -> Shared -> Prop} {s:Shared} {tg:Expr} {it:Addr} {u:Value} {o:Obj} {n:String} {vs:Array Value} {Q:Unit -> Shared -> Prop} (ho:s.heap.get? it=some o) (hc:o.cls=.type n) (hd:o.data=.fields vs)
    (hn:["enumerate", "zip", "dict_itemiterator", "dict_reverseitemiterator", "odict_iterator", "itertools.zip_longest", "itertools.pairwise"].contains n=false) (hQ:Q () s):wpAny M A (letOwnedTupleGo tg (.ref it) u) Q E s := by
  unfold letOwnedTupleGo;cases tg <;> first
    | exact wpAny_pure hQ
    | (cases u <;> first
        | exact wpAny_pure hQ
        | (refine wpAny_bind (wpAny_load ho ?_)
           rw [hc, hd];show wpAny M A (if (["enumerate", "zip", "dict_itemiterator", "dict_reverseitemiterator", "odict_iterator", "itertools.zip_longest", "itertools.pairwise"].contains n&&vs[0]?==some (rawInt _))=true then _ else _) Q E s;rw [if_neg (by intro h; rw [hn, Bool.false_and] at h; cases h)];exact wpAny_pure hQ))
noncomputable def Itl (K:PySem.W.Frag) (a:Addr):It:=
 ⟨fun i H=>∃xs x,SqL K H a xs/\xs[i]?=some x,fun i H x H'=>H'=H/\∀xs,SqL K H a xs->xs[i]?=some x,fun i H=>∃xs,SqL K H a xs/\xs.length<=i⟩
noncomputable def Itt (K:PySem.W.Frag) (a:Addr):It:=
 ⟨fun i H=>∃xs x,SqT K H a xs/\xs[i]?=some x,fun i H x H'=>H'=H/\∀xs,SqT K H a xs->xs[i]?=some x,fun i H=>∃xs,SqT K H a xs/\xs.length<=i⟩
noncomputable def Itr (lo:Int) (n:Nat):It:=⟨fun i _=>i<n,fun i H x H'=>H'=H/\x=.int (lo+i),fun i _=>n<=i⟩
theorem G3 {P:Program} {w:World} {K:PySem.W.Frag} {tg:Expr} (a it:Addr):Turn P w K tg (Itl K a) [it] it (fun i h=>h.IsListIter it a i) where
 mem:=by simp
 obj:=fun i h st b hb=>by
  have e:b=it:=by simpa using hb
  subst e;obtain ⟨o,e,c,d⟩:=st;exact ⟨o,e,fun v z=>by rw [d] at z;cases z⟩
 keep:=fun i h h' st k=>st.at fun o e=>k it (by simp) o e
 item:=by
  intro X hP hw hK hc i pins s σ H E I hf st hg;subst hP hw hK;obtain ⟨xs,x,hq,hx⟩:=hg;obtain ⟨its,rv,p,hz⟩:=I.list hq;obtain ⟨u,hu,ru⟩:=rv.get hx;obtain ⟨f0,f1,f2,f3,f4,f5⟩:=hf it (by simp);refine wpAny_pyNext_list_item st p.isList (x:=u) (by simpa using hu) fun h' st' sb=>?_
  have I1:Inv X pins σ H {s with heap:=h'}:=I.turned (t':=s.toks) (fun b o hb e=>(sb.2 b hb).trans e) f0 f1 f3 f4 f5;obtain ⟨o,e,c,d⟩:=id st';exact ⟨u,rfl,PL (s:={s with heap:=h'}) e c d (by decide) ⟨x,H,I1,ru,⟨rfl,fun ys hy=>by rw [I.PJ hy hq];exact hx⟩,st',fun b hb=>(hf b hb).1⟩⟩
 done:=by
  intro X hP hw hK hc i pins s σ H E I hf st hg;subst hP hw hK;obtain ⟨xs,hq,hx⟩:=hg;obtain ⟨its,rv,p,hz⟩:=I.list hq;obtain ⟨f0,f1,f2,f3,f4,f5⟩:=hf it (by simp);have hl:=rv.length;exact wpAny_pyNext_list_end (I.ok.hd hc) st p.isList (by simp;lia) fun h' eb=>⟨rfl,I.turned (t':=s.toks) (fun b o hb e=>eb b o hb e) f0 f1 f3 f4 f5⟩
 self:=fun _ _ _ _ _ st h=>wpAny_pyIter_listiter st h
theorem BL {P:Program} {w:World} {K:PySem.W.Frag} {tg:Expr} (a it:Addr):Turn P w K tg (Itt K a) [it] it (fun i h=>h.IsTupleIter it a i) where
 mem:=by simp
 obj:=fun i h st b hb=>by
  have e:b=it:=by simpa using hb
  subst e;obtain ⟨o,e,c,d⟩:=st;exact ⟨o,e,fun v z=>by rw [d] at z;cases z⟩
 keep:=fun i h h' st k=>st.at fun o e=>k it (by simp) o e
 item:=by
  intro X hP hw hK hc i pins s σ H E I hf st hg;subst hP hw hK;obtain ⟨xs,x,hq,hx⟩:=hg;obtain ⟨its,rv,p,hz⟩:=I.tuple hq;obtain ⟨u,hu,ru⟩:=rv.get hx;obtain ⟨f0,f1,f2,f3,f4,f5⟩:=hf it (by simp);refine wpAny_pyNext_tuple_item st (show s.heap.IsTuple a its.toArray from p) (x:=u) (by simpa using hu) fun h' st' sb=>?_
  have I1:Inv X pins σ H {s with heap:=h'}:=I.turned (t':=s.toks) (fun b o hb e=>(sb.2 b hb).trans e) f0 f1 f3 f4 f5;obtain ⟨o,e,c,d⟩:=id st';exact ⟨u,rfl,PL (s:={s with heap:=h'}) e c d (by decide) ⟨x,H,I1,ru,⟨rfl,fun ys hy=>by rw [I.GR hy hq];exact hx⟩,st',fun b hb=>(hf b hb).1⟩⟩
 done:=by
  intro X hP hw hK hc i pins s σ H E I hf st hg;subst hP hw hK;obtain ⟨xs,hq,hx⟩:=hg;obtain ⟨its,rv,p,hz⟩:=I.tuple hq;obtain ⟨f0,f1,f2,f3,f4,f5⟩:=hf it (by simp);have hl:=rv.length;exact wpAny_pyNext_tuple_end (I.ok.hd hc) st (show s.heap.IsTuple a its.toArray from p) (by simp;lia) fun h' eb=>⟨rfl,I.turned (t':=s.toks) (fun b o hb e=>eb b o hb e) f0 f1 f3 f4 f5⟩
 self:=fun _ _ _ _ _ st h=>wpAny_pyIter_tupleiter st h
theorem BP {P:Program} {w:World} {K:PySem.W.Frag} {tg:Expr} (it:Addr) (lo:Int) (n:Nat):Turn P w K tg (Itr lo n) [it] it (fun i h=>IsRangeIter h it (lo+(i:Nat)*1) ((n:Int)-(i:Nat)) 1) where
 mem:=by simp
 obj:=fun i h st b hb=>by
  have e:b=it:=by simpa using hb
  subst e;exact ⟨_,st,fun v z=>by
   have z':Data.fields _=Data.cell v:=z;cases z'⟩
 keep:=fun i h h' st k=>k it (by simp) _ st
 item:=by
  intro X hP hw hK hc i pins s σ H E I hf st hg;subst hP hw hK;obtain ⟨f0,f1,f2,f3,f4,f5⟩:=hf it (by simp);have W:=Walks.range (prog:=X.prog) (w:=X.w) (I.ok.hd hc) it lo 1 n;refine W.item i s _ _ hg st fun v h' tk hv st' kk=>?_
  obtain ⟨t,rfl⟩:=hv;have I1:Inv X pins σ H {s with heap:=h',toks:=tk}:=I.turned (fun b o hb e=>kk b o (by simpa using hb) e) f0 f1 f3 f4 f5;refine ⟨_,rfl,PL (s:={s with heap:=h',toks:=tk}) (n := "range_iterator") st' rfl rfl (by decide) ⟨.int (lo+i),H,I1,⟨t,?_⟩,⟨rfl,rfl⟩,st',fun b hb=>(hf b hb).1⟩⟩;rw [Int.mul_one]
 done:=by
  intro X hP hw hK hc i pins s σ H E I hf st hg;subst hP hw hK;obtain ⟨f0,f1,f2,f3,f4,f5⟩:=hf it (by simp);exact wpAny_pyNext_range_end (I.ok.hd hc) st (by have:n<=i:=hg;lia) fun h' eb=>⟨rfl,I.turned (t':=s.toks) (fun b o hb e=>eb b o hb e) f0 f1 f3 f4 f5⟩
 self:=fun _ _ _ _ _ st h=>wpAny_pyIter_rangeiter st h
end L2
namespace L2
open PySem PySem.Spec PyProof.Rows
section
variable {X:Cx} {tg:Expr}
theorem PN {pins:List (Addr×Obj)} {σ:St} {H:Hp} {s:Shared} {R:It->Hp->Prop} {E:Value->Shared->Prop} {lo hi:Int} {t u v:Tok} {tk:Nat} (I:Inv X pins σ H s) (h1:-(2 ^ 62)<=lo) (h2:lo<2 ^ 62) (h3:-(2 ^ 62)<=hi) (h4:hi<2 ^ 62)
  (q:R (Itr lo (hi-lo).toNat) H):wpAny (model X.prog X.w) X.A (pyIter (.ref s.heap.objs.size)) (PIE X pins σ tg R) E {s with heap:=s.heap.push {cls:=.type "range",data:=.fields #[.int lo t,.int hi u,.int 1 v]},toks:=tk}:=by
 refine wpAny_pyIter_range (IsRange.new ..) (small_one h1 h2 h3 h4) ?_;have I1:Inv X pins σ H {s with heap:=s.heap.push {cls:=.type "range",data:=.fields #[.int lo t,.int hi u,.int 1 v]},toks:=tk}:=I.kept fun b o e=>Heap.get?_push_of_some _ e
 refine ⟨(s.heap.push {cls:=.type "range",data:=.fields #[.int lo t,.int hi u,.int 1 v]}).objs.size,[(s.heap.push {cls:=.type "range",data:=.fields #[.int lo t,.int hi u,.int 1 v]}).objs.size],_,_,H,rfl,
  I1.kept (t':=tk) fun b o e=>Heap.get?_push_of_some _ e,BP _ lo (hi-lo).toNat,?_,fun b hb=>?_,q⟩
 ·have e1:lo+((0:Nat):Int)*1=lo:=by simp
  have e2:(((hi-lo).toNat:Nat):Int)-((0:Nat):Int)=Builtin.Range.rangeSize lo hi 1:=by rw [rangeSize_one];split <;> lia
  show IsRangeIter _ _ (lo+((0:Nat):Int)*1) ((((hi-lo).toNat:Nat):Int)-((0:Nat):Int)) 1;rw [e1,e2];exact Heap.get?_push_size _ rfl
 ·have e:b=(s.heap.push {cls:=.type "range",data:=.fields #[.int lo t,.int hi u,.int 1 v]}).objs.size:=by simpa using hb
  subst e;exact I1.aA1 (Nat.le_refl _) (I1.hok.fresh (Nat.le_refl _))
noncomputable def aDh (ta:TA):TI:=fun σ H R=>ta σ H fun vs H1=>∃j:Int,vs=[.int j]/\-(2 ^ 62)<=j/\j<2 ^ 62/\R (Itr 0 j.toNat) H1
theorem t8 {a:Expr} {ta:TA} {p pos:Pos} (hg:Gl X "range") (hm:X.mg "range" = none) (ha:PA X [a] ta) (hs:starEach [a] X.env=[(false,eval a X.env)]:=by rfl):PI X tg (.Call (.Name "range" p) [a] [] pos) (aDh ta):=by
 intro pins s σ H R I h;refine Call_ (mK I hg hm boot_range (PyProof.Rows.callWith_type1 (thn (ha pos pins s σ H _ I h) fun us s1 ⟨vs,H1,I1,r1,q1⟩=>?_) hs rfl));obtain ⟨j,e,q1,q2,q⟩:=q1;subst e;cases r1 with
 | cons r rr=>
  cases rr;obtain ⟨t,rfl⟩:=r;exact call_range_1 (PN I1 (by lia) (by lia) q1 q2 (by simpa using q))
noncomputable def aF2 (wi:TI) (g:TG) (tb:TS):TS:=fun D σ H=>wi σ H fun J H1=>∃W:Nat->Nat->St->Hp->Prop,(∃m,W 0 m σ H1)/\∀i m σ H,W i m σ H->
 (J.stop i H/\D.nx σ H)\/(J.go i H/\∃N:St->Hp->Prop,(∀σ' H',N σ' H'->∃m',m'<m/\W (i+1) m' σ' H')/\∀x H',J.yld i H x H'->g x σ H' fun σ2 H2=>tb {D with nx:=N,ct:=N,bk:=D.nx} σ2 H2)
noncomputable def o8 (fp:List Addr) (h:Heap):List (Addr×Obj):=fp.filterMap fun b=>(h.get? b).map fun o=>(b,o)
theorem lF {fp:List Addr} {h:Heap} {b:Addr} {o:Obj} (hb:b∈fp) (e:h.get? b=some o):(b,o)∈o8 fp h:=List.mem_filterMap.mpr ⟨b,hb,by rw [e];rfl⟩
theorem G4 {fp:List Addr} {h:Heap} {p:Addr×Obj} (hp:p∈o8 fp h):p.1∈fp/\h.get? p.1=some p.2:=by
 obtain ⟨b,hb,e⟩:=List.mem_filterMap.mp hp;cases q:h.get? b with
 | none=>rw [q] at e;cases e
 | some o=>
  rw [q] at e;have e':(b,o)=p:=Option.some.inj e;subst e';exact ⟨hb,q⟩
theorem Inv.pinned {pins:List (Addr×Obj)} {σ:St} {H:Hp} {s:Shared} {fp:List Addr} (I:Inv X pins σ H s) (hf:∀b∈fp,yF X pins H b) (ho:∀b∈fp,∃o,s.heap.get? b=some o/\∀v,o.data≠.cell v):Inv X (pins++o8 fp s.heap) σ H s:=
 I.wF fun p hp=>(List.mem_append.mp hp).elim (fun z=>I.pin p (List.mem_append_right _ z)) fun z=>by
  obtain ⟨hb,e⟩:=G4 z;obtain ⟨f0,f1,f2,_⟩:=hf p.1 hb;obtain ⟨o,e',d⟩:=ho p.1 hb;rw [e] at e';cases e';exact ⟨e,f0,f1,f2,d⟩
theorem Inv.mL {pins pl:List (Addr×Obj)} {σ:St} {H:Hp} {s:Shared} (I:Inv X (pins++pl) σ H s):Inv X pins σ H s:=I.wF fun p hp=>I.pin p (List.mem_append_right _ (List.mem_append_left _ hp))
theorem G5 {iter:Expr} {body:List Stmt} {wi:TI} {g:TG} {tb:TS} {pos:Pos} (hp:PassesOwn (model X.prog X.w) X.A X.env X.xe) (hc:X.calm=true) (hi:PI X tg iter wi) (hg:PG X tg g) (hb:PSs X body tb)
  (hs:∀x,foldedSetIterable iter X.env x=pure x:=by intro _;rfl):PS X (.For tg iter body [] pos) (aF2 wi g tb):=by
 intro pins s σ H D I h;refine wpAny_For (thn (hi pins s σ H _ I h) fun v s1 h1=>thn h1 fun itv s2 h2=>?_) hs;obtain ⟨it,fp,tn,J,H2,e,I2,T,st2,f2,W,⟨m0,w0⟩,turn⟩:=h2;subst e
 -- what stays true of the iterator's objects through the loop
 have stat:∀{H':Hp},(∀b∈fp,H' b=none)->∀b∈fp,yF X pins H' b:=fun hn b hb=>⟨hn b hb,(f2 b hb).2⟩
 refine codeAny_forLoop_any (fun n s'=>∃i σ' H',Inv X pins σ' H' s'/\tn i s'.heap/\(∀b∈fp,H' b=none)/\W i n σ' H') ?_ m0 ⟨0,σ,H2,I2,st2,fun b hb=>(f2 b hb).1,w0⟩;rintro n s3 ⟨i,σ3,H3,I3,st3,fr3,w3⟩;rcases turn i n σ3 H3 w3 with ⟨stop,qn⟩|⟨go,N,hN,step⟩
 ·refine wpAny_passesOwn hp (thn (T.done X rfl rfl rfl hc i pins s3 σ3 H3 X.xe I3 (stat fr3) st3 stop) fun r s4 ⟨hr,I4⟩=>?_);subst hr;exact wpAny_execs_nil ⟨σ3,H3,I4,qn⟩
 ·refine wpAny_passesOwn hp (thn (T.item X rfl rfl rfl hc i pins s3 σ3 H3 X.xe I3 (stat fr3) st3 go) fun r s4 ⟨u,hr,h4⟩=>?_);subst hr;refine wpAny_passesOwn hp (thn h4 fun _ s5 ⟨x,H5,I5,r5,y5,st5,fr5⟩=>?_);have I5':=I5.pinned (stat fr5) (T.obj _ _ st5);refine wpAny_passesOwn hp (thn (hg _ s5 σ3 H5 x u _ I5' r5 (step x H5 y5)) fun _ s6 ⟨σ6,H6,I6,q6⟩=>?_);refine wpAny_passesOwn hp (thn (hb _ s6 σ6 H6 _ I6 q6) fun f s7 q7=>?_);have again:∀{σ7:St} {H7:Hp},Inv X (pins++o8 fp s5.heap) σ7 H7 s7->N σ7 H7->∃m,m<n/\∃i σ' H',Inv X pins σ' H' s7/\tn i s7.heap/\(∀b∈fp,H' b=none)/\W i m σ' H':=fun {σ7 H7} I7 n7=>by
   obtain ⟨m',hm,w7⟩:=hN σ7 H7 n7;refine ⟨m',hm,i+1,σ7,H7,I7.mL,T.keep _ _ _ st5 fun b hb o e=>(I7.pin (b,o) (List.mem_append_right _ (List.mem_append_right _ (lF hb e)))).1,fun b hb=>?_,w7⟩;obtain ⟨o,e,d⟩:=T.obj _ _ st5 b hb;exact (I7.pin (b,o) (List.mem_append_right _ (List.mem_append_right _ (lF hb e)))).2.1
  cases f with
  | next=>obtain ⟨σ7,H7,I7,n7⟩:=q7;exact again I7 n7
  | cont=>obtain ⟨σ7,H7,I7,n7⟩:=q7;exact again I7 n7
  | brk=>obtain ⟨σ7,H7,I7,q7⟩:=q7;exact ⟨σ7,H7,I7.mL,q7⟩
  | ret v=>obtain ⟨x7,σ7,H7,I7,r7,q7⟩:=q7;exact ⟨x7,σ7,H7,I7.mL,r7,q7⟩
end
end L2
namespace L2
open PySem PySem.Spec PyProof.Rows
abbrev R2:=V->V->Hp->VK->Prop
noncomputable def OpR (X:Cx) (f:Value->Value->Sem Value) (r:R2):Prop:=
 ∀(pins:List (Addr×Obj)) (s:Shared) (σ:St) (H:Hp) (x y:V) (v u:Value) (Q:VK),Inv X pins σ H s->RelV x v->RelV y u->r x y H Q->
  wpAny (model X.prog X.w) X.A (f v u) (EP X pins σ Q) X.xe s
noncomputable def mO (X:Cx) (f:Value) (r:List V->Hp->VK->Prop):Prop:=
 ∀(pins:List (Addr×Obj)) (s:Shared) (σ:St) (H:Hp) (xs:List V) (us:List Value) (Q:VK),Inv X pins σ H s->Vals xs us->r xs H Q->
  wpAny (model X.prog X.w) X.A (call f us) (EP X pins σ Q) X.xe s
noncomputable def aF3 (X:Cx) (r:V->Hp->(Bool->Hp->Prop)->Prop):Prop:=
 ∀(pins:List (Addr×Obj)) (s:Shared) (σ:St) (H:Hp) (x:V) (v:Value) (Q:Bool->Hp->Prop),Inv X pins σ H s->RelV x v->r x H Q->
  wpAny (model X.prog X.w) X.A (truthy v) (TP X pins σ Q) X.xe s
noncomputable def tOp (r:R2) (ta tb:TE):TE:=fun σ H Q=>ta σ H fun x H1=>tb σ H1 fun y H2=>r x y H2 Q
noncomputable def rI (C:Int->Int->Prop) (g:Int->Int->V):R2:=fun x y H Q=>∃i j,x=.int i/\y=.int j/\C i j/\Q (g i j) H
noncomputable def rI0 (g:Int->Int->V):R2:=fun x y H Q=>∃i j,x=.int i/\y=.int j/\Q (g i j) H
section
variable {X:Cx} {a b c:Expr} {ta tb tc:TE} {pos:Pos}
theorem aDi (ha:PE X a ta) (hb:PE X b tb) {pins:List (Addr×Obj)} {s:Shared} {σ:St} {H:Hp} {R:V->V->Hp->Prop} (I:Inv X pins σ H s)
  (h:ta σ H fun x H1=>tb σ H1 fun y H2=>R x y H2) {Q:Value->Shared->Prop} {f:Value->Value->Sem Value}
  (hf:∀v u s2 x y H2,Inv X pins σ H2 s2->RelV x v->RelV y u->R x y H2->wpAny (model X.prog X.w) X.A (f v u) Q X.xe s2) :
  wpAny (model X.prog X.w) X.A (eval a X.env) (fun v s₁=>wpAny (model X.prog X.w) X.A (eval b X.env) (fun u s₂=>wpAny (model X.prog X.w) X.A (f v u) Q X.xe s₂) X.xe s₁) X.xe s:=by
 refine thn (ha pins s σ H _ I h) fun v s1 ⟨x,H1,I1,r1,q1⟩=>?_
 refine thn (hb pins s1 σ H1 _ I1 q1) fun u s2 ⟨y,H2,I2,r2,q2⟩=>?_
 exact hf v u s2 x y H2 I2 r1 r2 q2
theorem aA2 {op:Operator} {r:R2} (ho:OpR X (binaryOp op) r) (ha:PE X a ta) (hb:PE X b tb):PE X (.BinOp a op b pos) (tOp r ta tb):=by
 intro pins s σ H Q I h;exact wpAny_BinOp (aDi ha hb I h fun v u s2 x y H2 I2 rx ry q=>ho pins s2 σ H2 x y v u Q I2 rx ry q)
theorem opI {f:Value->Value->Sem Value} {C:Int->Int->Prop} {g:Int->Int->Int}
  (rule:∀(i j:Int) (t u:Tok) (s:Shared) (Q:Value->Shared->Prop) (E:Value->Shared->Prop),C i j->Q (.int (g i j) s.toks) {s with toks:=s.toks+1}->wpAny (model X.prog X.w) X.A (f (.int i t) (.int j u)) Q E s) :
  OpR X f (rI C fun i j=>.int (g i j)):=by
 intro pins s σ H x y v u Q I rx ry h;obtain ⟨i,j,rfl,rfl,hc,q⟩:=h;obtain ⟨t,rfl⟩:=rx;obtain ⟨t',rfl⟩:=ry;exact rule i j t t' s _ _ hc ⟨.int (g i j),H,I.tok _,⟨_,rfl⟩,q⟩
theorem aEj {f:Value->Value->Sem Value} {g:Int->Int->Int}
  (rule:∀(i j:Int) (t u:Tok) (s:Shared) (Q:Value->Shared->Prop) (E:Value->Shared->Prop),Q (.int (g i j) s.toks) {s with toks:=s.toks+1}->wpAny (model X.prog X.w) X.A (f (.int i t) (.int j u)) Q E s) :
  OpR X f (rI0 fun i j=>.int (g i j)):=by
 intro pins s σ H x y v u Q I rx ry h;obtain ⟨i,j,rfl,rfl,q⟩:=h;obtain ⟨t,rfl⟩:=rx;obtain ⟨t',rfl⟩:=ry;exact rule i j t t' s _ _ ⟨.int (g i j),H,I.tok _,⟨_,rfl⟩,q⟩
def aF4 (i j:Int):Prop:=0<j/\j<1073741824
def aDj (i j:Int):Prop:=(-(2 ^ 64)<i/\i<2 ^ 64)\/(-(2 ^ 64)<j/\j<2 ^ 64)
theorem aDj.ok {i j:Int} (h:aDj i j):IntMulOk i j:=by
 rcases h with ⟨h1,h2⟩|⟨h1,h2⟩
 ·exact .of_left (intBits_le_64 h1 h2)
 ·exact .of_right (intBits_le_64 h1 h2)
theorem aA3:OpR X (binaryOp .Add) (rI0 fun i j=>.int (i+j)):=aEj fun _ _ _ _ _ _ _ q=>add_int q
theorem aA4:OpR X (binaryOp .Sub) (rI0 fun i j=>.int (i-j)):=aEj fun _ _ _ _ _ _ _ q=>sub_int q
theorem aA5:OpR X (binaryOp .Mult) (rI aDj fun i j=>.int (i*j)):=opI fun _ _ _ _ _ _ _ hc q=>mul_int q hc.ok
theorem V0:OpR X (binaryOp .FloorDiv) (rI aF4 fun i j=>.int (i / j)):=opI fun i j _ _ _ _ _ hc q=>by
 have h1:(0:Int)<j:=hc.1;have h2:j<1073741824:=hc.2;exact floordiv_int (by lia) (by rw [Int.fdiv_eq_ediv_of_nonneg i (by lia)];exact q) (.inl (PyProof.noPylong_small (by lia)))
theorem aA6:OpR X (binaryOp .Mod) (rI (fun _ j=>0<j) fun i j=>.int (i % j)):=opI fun i j _ _ _ _ _ hc q=>by
 have h1:(0:Int)<j:=hc;exact mod_int' (by lia) (by rw [Int.fmod_eq_emod_of_nonneg i (by lia)];exact q)
end
section
variable {X:Cx} {a b c:Expr} {ta tb tc:TE} {pos:Pos}
theorem aA7 {pins:List (Addr×Obj)} {σ:St} {H:Hp} {s:Shared} {Q:VK} {k k':Bool} (I:Inv X pins σ H s) (q:Q (.bl k) H) (e:k=k'):EP X pins σ Q (.bool k') s:=by
 subst e;exact ⟨.bl k,H,I,rfl,q⟩
theorem G6:OpR X (compareOp .In) (fun x y H Q=>∃i j,x=.str i/\y=.str j/\Q (.bl (!(Builtin.Str.occurrences j i 0 j.length 1).isEmpty)) H):=by
 intro pins s σ H x y v u Q I rx ry h;obtain ⟨i,j,rfl,rfl,q⟩:=h;obtain ⟨t,rfl⟩:=rx;obtain ⟨t',rfl⟩:=ry;exact in_str (aA7 I q rfl)
theorem eX (b:Expr) {op:CmpOp} (h:op≠.In:=by decide) (h2:op≠.NotIn:=by decide):behindInMarks op b=false:=by
 have e1:(op==CmpOp.In)=false:=by cases op <;> first|rfl|exact absurd rfl h
 have e2:(op==CmpOp.NotIn)=false:=by cases op <;> first|rfl|exact absurd rfl h2
 cases b <;> simp [behindInMarks,e1,e2]
theorem V1 {op:CmpOp} {r:R2} (ho:OpR X (compareOp op) r) (ha:PE X a ta) (hb:PE X b tb) (hm:behindInMarks op b=false):PE X (.Compare a [op] [b] pos) (tOp r ta tb):=by
 intro pins s σ H Q I h;exact wpAny_Compare1 (aDi ha hb I h fun v u s2 x y H2 I2 rx ry q=>ho pins s2 σ H2 x y v u Q I2 rx ry q) hm
def aDk (t:TE):TT:=fun σ H Q=>t σ H fun x H'=>∃k,x=.bl k/\Q k H'
theorem G7 {op:CmpOp} {r:R2} (ho:OpR X (compareOp op) r) (ha:PE X a ta) (hb:PE X b tb) (hm:behindInMarks op b=false):PT X (.Compare a [op] [b] pos) (aDk (tOp r ta tb)):=by
 intro pins s σ H Q I h;refine wpAny_isTrue_Compare1 (thn (ha pins s σ H _ I h) fun v s1 ⟨x,H1,I1,r1,q1⟩=>thn (hb pins s1 σ H1 _ I1 q1) fun u s2 ⟨y,H2,I2,r2,q2⟩=>
  thn (ho pins s2 σ H2 x y v u _ I2 r1 r2 q2) fun c s3 ⟨z,H3,I3,r3,k,e,q3⟩=>?_) hm
 subst e;cases r3;exact wpAny_truthy_bool ⟨H3,I3,q3⟩
noncomputable def aDl (K:PySem.W.Frag) (x:V) (H:Hp) (k:Bool):Prop:=
 match x with
 | .non=>k=false
 | .bl b=>k=b
 | .int i=>k=(i != 0)
 | .str y=>y.length<=sizeLine/\k=((y.length:Int) != 0)
 | .byt y=>y.size<=sizeLine/\k=((y.size:Int) != 0)
 | .ref p=>(∃xs,SqL K H p xs/\k=!xs.isEmpty)\/(∃xs,SqT K H p xs/\k=!xs.isEmpty)\/∃kvs,H p=some (.dK kvs)/\k=!kvs.isEmpty
 | _=>False
theorem BR {κ:Type} {kvs:List (κ×V)} {vs:List (κ×Value)} (r:KV kvs vs):(!vs.isEmpty)=!kvs.isEmpty:=by
 cases r <;> rfl
theorem qZ {xs:List V} {its:List Value} (r:Vals xs its):(!its.toArray.isEmpty)=!xs.isEmpty:=by
 cases r <;> simp
theorem o9:(sizeLine:Nat)<2 ^ 63:=by rw [sizeLine_eq];decide
theorem aA8:aF3 X (fun x H Q=>∃k,aDl X.K x H k/\Q k H):=by
 intro pins s σ H x v Q I rx h;obtain ⟨k,e,q⟩:=h;have hl:=o9;have hs:sizeLine=16777216:=sizeLine_eq;cases x with
 | non=>
  cases rx;have e':k=false:=e;subst e';exact truthy_none ⟨H,I,q⟩
 | bl b=>
  cases rx;have e':k=b:=e;subst e';exact wpAny_truthy_bool ⟨H,I,q⟩
 | int i=>
  obtain ⟨t,rfl⟩:=rx;have e':k=(i != 0):=e;subst e';exact PySem.P.truthy_int ⟨H,I,q⟩
 | str y=>
  obtain ⟨t,rfl⟩:=rx;obtain ⟨hy,e'⟩:y.length<=sizeLine/\k=((y.length:Int) != 0):=e;subst e';exact PySem.P.truthy_str (by lia) ⟨H,I.tok _,q⟩
 | byt y=>
  obtain ⟨t,rfl⟩:=rx;obtain ⟨hy,e'⟩:y.size<=sizeLine/\k=((y.size:Int) != 0):=e;subst e';exact PySem.W.truthy_bytes (by lia) ⟨H,I.tok _,q⟩
 | ref p=>
  cases rx;have e':(∃xs,SqL X.K H p xs/\k=!xs.isEmpty)\/(∃xs,SqT X.K H p xs/\k=!xs.isEmpty)\/∃kvs,H p=some (.dK kvs)/\k=!kvs.isEmpty:=e;rcases e' with ⟨xs,hx,e'⟩|⟨xs,hx,e'⟩|⟨kvs,hx,e'⟩
  ·subst e';obtain ⟨its,r,pl,hz⟩:=I.list hx;have hlen:=r.length;exact wpAny_truthy_list pl.isList (by simp only [List.size_toArray];lia) ⟨H,I.tok _,by rw [qZ r];exact q⟩
  ·subst e';obtain ⟨its,r,pl,hz⟩:=I.tuple hx;have hlen:=r.length;exact truthy_tuple pl (by simp only [List.size_toArray];lia) ⟨H,I.tok _,by rw [qZ r];exact q⟩
  ·subst e';obtain ⟨hz,hS,vs,r,m⟩:kvs.length<=sizeLine/\(p==sysModules)=false/\∃vs,KV kvs vs/\s.heap.DictOf (cT X.prog X.w) p vs:=I.hok p _ hx;have hlen:kvs.length=vs.length:=Paired.length r;exact wpAny_truthy_dict hS m (by lia) ⟨H,I.tok _,by rw [BR r];exact q⟩
 | _=>exact (show False from e).elim
theorem PP (ha:PE X a ta) (he:∀whole,isTrue a X.env whole=(do let v <- whole;standAt a.pos;holding [v] (truthy v))) :
  PT X a (fun σ H Q=>ta σ H fun x H'=>∃k,aDl X.K x H' k/\Q k H'):=by
 intro pins s σ H Q I h;exact isTrue_plain (thn (ha pins s σ H _ I h) fun v s1 ⟨x,H1,I1,r1,q1⟩=>aA8 pins s1 σ H1 x v Q I1 r1 q1) (he _)
theorem BV:OpR X (binaryOp .Add) (fun x y H Q=>∃i j,x=.str i/\y=.str j/\i.length+j.length<=sizeLine/\Q (.str (i++j)) H):=by
 intro pins s σ H x y v u Q I rx ry h;obtain ⟨i,j,rfl,rfl,hz,q⟩:=h;obtain ⟨t,rfl⟩:=rx;obtain ⟨t',rfl⟩:=ry;exact add_str (fun t' tk=>⟨.str (i++j),H,I.tok _,⟨_,rfl⟩,q⟩) hz
theorem vals1 {x:V} {us:List Value} (r:Vals [x] us):∃u,us=[u]/\RelV x u:=by
 cases r with
 | cons r1 r2=>cases r2;exact ⟨_,rfl,r1⟩
end
end L2
namespace L2
open PySem PySem.Spec PyProof.Rows
section
variable {prog:Program} {w:World} {A:Around} {E:Value->Shared->Prop} {s:Shared} {K:PySem.W.Frag} {x dx C f:Addr} {mA:Str->Option Value} {name:Str} {v:Value}
end
theorem O6.some_of {v:V} {o:Option Value} (r:O6 (some v) o):∃u,o=some u/\RelV v u:=by
 cases o with
 | none=>exact (show False from r).elim
 | some u=>exact ⟨u,rfl,r⟩
section
variable {P:Program} {w:World} {H H':Hp} {h h':Heap} {a C dx:Addr} {fs fs':List (Str×V)}
end
section
variable {X:Cx} {pins:List (Addr×Obj)} {σ:St} {H:Hp} {s:Shared} {a C dx:Addr} {fs:List (Str×V)} {f:Str} {v:V} {A:Around} {E:Value->Shared->Prop}
end
section
variable {X:Cx} {o e value:Expr} {f:Str} {pos pos' tpos:Pos} {ta tv:TE}
end
section
variable {X:Cx} {pins:List (Addr×Obj)} {σ:St} {H:Hp} {s:Shared} {A:Around} {E:Value->Shared->Prop} {Q:Value->Shared->Prop} {c:Value} {b:Bool}
end
end L2
namespace L2
open PySem PySem.Spec PyProof.Rows
structure mQ (k:Nat) (A:Around):Prop where
 hd:A.handled=none
 dp:A.depth+3*k+5<recursionLimit
 un:A.units+16*k+200<cLine
theorem mQ.mono {j k:Nat} {A:Around} (r:mQ k A) (h:j<=k):mQ j A:=⟨r.hd,by have:=r.dp;lia,by have:=r.un;lia⟩
theorem mQ.deeper {k:Nat} {A:Around} (r:mQ (k+1) A) (env:Env):mQ k (A.deeper env):=
 ⟨r.hd,by have:=r.dp;show A.depth+1+3*k+5<_;lia,by have:=r.un;show A.units+3+16*k+200<_;lia⟩
theorem mQ.depth {k:Nat} {A:Around} (r:mQ k A):A.depth<recursionLimit:=by have:=r.dp;lia
theorem mQ.units {k:Nat} {A:Around} (r:mQ k A):A.units+64<cLine:=by have:=r.un;lia
def aF5:TA:=fun _ H Q=>Q [] H
noncomputable def aDm (ta:TE) (tr:TA):TA:=fun σ H Q=>ta σ H fun x H1=>tr σ H1 fun xs H2=>Q (x::xs) H2
section
variable {X:Cx} {e:Expr} {es:List Expr} {te:TE} {t:TA} {pos:Pos}
theorem mR:PA X [] aF5:=fun _ _ _ _ H Q I h=>Calls.spliced_nil ⟨[],H,I,.nil,h⟩
theorem dO (ha:PE X e te) (hr:PA X es t) (hs:starEach (e::es) X.env=(false,eval e X.env)::starEach es X.env:=by rfl):PA X (e::es) (aDm te t):=by
 intro pos pins s σ H Q I h;rw [hs];show wpAny _ _ (spliced ((false,eval e X.env)::backTo pos (starEach es X.env))) _ _ s;refine Calls.spliced_cons (thn (ha pins s σ H _ I h) fun u s1 ⟨x,H1,I1,r1,q1⟩=>?_);exact thn (hr pos pins s1 σ H1 _ I1 q1) fun us s2 ⟨xs,H2,I2,r2,q2⟩=>⟨x::xs,H2,I2,.cons r1 r2,q2⟩
noncomputable def aF6 (t:TA):TE:=fun σ H Q=>t σ H fun xs H1=>xs.length<=sizeLine/\∀p,H1 p=none->Q (.ref p) (upd H1 p (.tup xs))
noncomputable def aF7 (t:TA):TE:=fun σ H Q=>t σ H fun xs H1=>xs.length<=sizeLine/\∀p,H1 p=none->Q (.ref p) (upd H1 p (.lst xs))
theorem aA9 {x1} (h:PA X es t):PE X (.Tuple es x1 pos) (aF6 t):=by
 intro pins s σ H Q I hq;refine wpAny_Tuple_spliced (thn (h pos pins s σ H _ I hq) fun us s1 ⟨xs,H1,I1,r,z,q⟩=>⟨by rw [<-r.length];exact z,?_⟩);have hf:H1 s1.heap.objs.size=none:=I1.hok.fresh (Nat.le_refl _);refine ⟨.ref s1.heap.objs.size,upd H1 s1.heap.objs.size (.tup xs),I1.laid (t':=s1.toks) (fun b u e=>Heap.get?_push_of_some _ e) (Nat.le_refl _) ?_,rfl,q _ hf⟩;exact ⟨z,us,r,⟨_,Heap.get?_push_size _ rfl,rfl,_,rfl⟩⟩
theorem S5 (h:PA X es t):PE X (.List es pos) (aF7 t):=by
 intro pins s σ H Q I hq;refine wpAny_List_spliced (thn (h pos pins s σ H _ I hq) fun us s1 ⟨xs,H1,I1,r,z,q⟩=>⟨by rw [<-r.length];exact z,?_⟩);have hf:H1 s1.heap.objs.size=none:=I1.hok.fresh (Nat.le_refl _);refine ⟨.ref s1.heap.objs.size,upd H1 s1.heap.objs.size (.lst xs),I1.laid (t':=s1.toks) (fun b u e=>Heap.get?_push_of_some _ e) (Nat.le_refl _) ?_,rfl,q _ hf⟩;exact ⟨z,us,0,r,Heap.get?_push_size _ rfl⟩
end
abbrev Sp:=List V->Hp->VK->XK->Prop
abbrev CXT:=List Env->Hp->Shared->XK->Value->Shared->Prop
structure aD2 (P:Program) (w:World) (K:PySem.W.Frag) (mg:Str->Option Value) (base:Heap) (A:Around) (outer:List Env) (s:Shared) (H:Hp):Prop where
 frames:A.frames=some outer
 mod:Mod K mg base
 bs:∀b o,base.get? b=some o->s.heap.get? b=some o/\H b=none
 bsz:base.objs.size<=s.heap.objs.size
 GK:s.heap.FunFrames base outer
 frf:∀b∈frs outer,H b=none
 hok:HOk P w H s.heap
 bare:AllBare s.gens
noncomputable def CE (outer:List Env) (P:Program) (w:World) (H:Hp) (s:Shared) (Q:VK) (u:Value) (s':Shared):Prop:=
 ∃v H',s'.os=s.os/\AllBare s'.gens/\Un (frs outer) [] H H' s.heap s'.heap/\HOk P w H' s'.heap/\RelV v u/\Q v H'
noncomputable def CR (CX:CXT) (outer:List Env) (P:Program) (w:World) (H:Hp) (s:Shared) (Q:VK) (E:XK) (r:Result) (s':Shared):Prop:=
 match r with
 | .ok (.ret u)=>CE outer P w H s Q u s'
 | .ok _=>False
 | .error e=>CX outer H s E e s'
structure v9 (P:Program) (w:World) (K:PySem.W.Frag) (mg:Str->Option Value) (base:Heap) (CX:CXT) (k:Nat) (f:Addr) (fd:FuncData) (ps:List Str) (sp:Sp):Prop where
 len:∀vs H Q E,sp vs H Q E->vs.length=ps.length
 run:∀(A:Around) (outer:List Env) (s:Shared) (H:Hp) (args:Args) (us:List Value) (vs:List V) (Q:VK) (E:XK),mQ k A->aD2 P w K mg base A outer s H->BindsTo s fd args (ps.zip us)->Vals vs us->sp vs H Q E->
  codeAny (model P w) A (.call (.ref f) args) (CR CX outer P w H s Q E) s
section
variable {X:Cx} {pins:List (Addr×Obj)} {σ:St} {H:Hp} {s s':Shared}
theorem Inv.env0 (I:Inv X pins σ H s):aD2 X.prog X.w X.K X.mg X.base X.A X.stack s H:=
 ⟨I.ok.frames,I.ok.mod,I.bs,Nat.le_trans I.ok.bsz I.sz,I.stack,I.GP,I.hok,I.bare⟩
theorem Inv.after {Q:VK} {u:Value} (I:Inv X pins σ H s) (h:CE X.stack X.prog X.w H s Q u s'):EP X pins σ Q u s':=by
 obtain ⟨v,H',os,bare,un,hok,r,q⟩:=h;obtain ⟨hh,g,d,t,os'⟩:=s';obtain rfl:os'=s.os:=os;exact ⟨v,H',I.call (h':=hh) (g':=g) (d':=d) (t':=t) (ch:=[]) un hok bare (fun b z=>absurd z (by simp)),r,q⟩
end
noncomputable def aDn (sp:Sp) (dvs:List V) (E:XK) (t:TA):TE:=fun σ H Q=>t σ H fun vs H1=>sp (vs++dvs) H1 Q E
noncomputable def Binds (K:PySem.W.Frag) (fd:FuncData) (ps:List Str) (ds:List Value):Prop:=
 ∀(s:Shared) (us:List Value),K.In s.heap->(us++ds).length=ps.length->BindsTo s fd ⟨us,[]⟩ (ps.zip (us++ds))
theorem Binds.all {K:PySem.W.Frag} {fd:FuncData} {ps:List Str} (h:∀us:List Value,us.length=ps.length->bindArgs fd ⟨us,[]⟩=pure (ps.zip us)):Binds K fd ps []:=fun s us _ hl=>by
 rw [List.append_nil] at hl ⊢;exact .of_eq (h us hl)
noncomputable def G8 (CX:CXT) (X:Cx) (E:XK):Prop:=∀(pins:List (Addr×Obj)) (σ:St) (H:Hp) (s:Shared) (e:Value) (s':Shared),Inv X pins σ H s->CX X.stack H s E e s'->X.xe e s'
section
variable {X:Cx} {CX:CXT} {k:Nat} {f C:Addr} {fd:FuncData} {ps:List Str} {sp:Sp} {dvs:List V} {ds:List Value} {E:XK} {x m:Str} {p pos apos:Pos} {e o:Expr} {es:List Expr} {ta:TE} {t:TA}
theorem aAa {pins:List (Addr×Obj)} {σ:St} {H:Hp} {s:Shared} {Q:VK} {us:List Value} {vs:List V} (F:v9 X.prog X.w X.K X.mg X.base CX k f fd ps sp) (hr:mQ k X.A) (hb:Binds X.K fd ps ds) (hd:Vals dvs ds) (hx:G8 CX X E)
  (I:Inv X pins σ H s) (r:Vals vs us) (h:sp (vs++dvs) H Q E):wpAny (model X.prog X.w) X.A (call (.ref f) us) (EP X pins σ Q) X.xe s:=by
 have r2:Vals (vs++dvs) (us++ds):=r.append hd;have hl:(us++ds).length=ps.length:=by rw [<-r2.length];exact F.len _ _ _ _ h
 refine wpAny_call (codeAny_mono (F.run X.A X.stack s H ⟨us,[]⟩ (us++ds) (vs++dvs) Q E hr I.env0 (hb s us I.kIn hl) r2 h) fun r s' hq=>?_);cases r with
 | error e=>exact hx pins σ H s e s' I hq
 | ok fl=>
  cases fl with
  | ret u=>exact I.after hq
  | next=>exact False.elim hq
  | brk=>exact False.elim hq
  | cont=>exact False.elim hq
theorem rN (F:v9 X.prog X.w X.K X.mg X.base CX k f fd ps sp) (hr:mQ k X.A) (hg:Gl X x) (hm:X.mg x=some (.ref f)) (hk:PySem.W.keepIn X.K (.ref f)=true) (hb:Binds X.K fd ps ds) (hd:Vals dvs ds) (hx:G8 CX X E)
  (ha:PA X (e::es) t) (hdb:nDb x:=by decide) (he:starEach (e::es) X.env=(false,eval e X.env)::starEach es X.env:=by rfl) (hpl:(backTo pos (starEach es X.env)).any (·.1)=false:=by rfl) :
  PE X (.Call (.Name x p) (e::es) [] pos) (aDn sp dvs E t):=by
 intro pins s σ H Q I h;refine wpAny_Call_Name_kw (VJ I hg hm ?_ hdb);refine PySem.W.callWith_K (h₀:=X.base) I.ok.mod.kin hk (thn (ha pos pins s σ H _ I h) fun us s1 ⟨vs,H1,I1,r,q⟩=>⟨I1.kIn,?_⟩) he hpl;exact aAa F hr hb hd hx I1 r q
end
section
variable {X:Cx} {CX:CXT} {k:Nat} {f C:Addr} {fd:FuncData} {ps ks:List Str} {sp:Sp} {E:XK} {x m:Str} {p pos apos kpos:Pos} {e o:Expr} {es:List Expr} {kws:List Keyword} {te ta:TE} {t tk:TA} {nm:Option Str}
variable {g:List Value->List Value->List Value} {gV:List V->List V->List V}
end
structure bV (N P:List Str) (sc:Scope):Prop where
 kind:sc.kind=.function
 co:sc.isCoroutine=false
 gen:sc.isGenerator=false
 nd:N.Nodup
 pre:N.take P.length=P
 par:∀x∈P,sc.names.lookup x=some .local\/sc.names.lookup x=some .cell
 nofree:∀y∈sc.names,y.2≠.free
theorem t_ {kindOf:Str->Option NameKind} {x:Str}:∀{binds:List (Str×Value)} {m:Str->Option Value},(∀v,(x,v)∉binds)->bindL kindOf binds m x=m x
 | [],_,_=>rfl
 | (n,v)::r,m,h=>by
  unfold bindL;rw [t_ fun w hw=>h w (List.mem_cons_of_mem _ hw)];split
  ·have:x≠n:=by rintro rfl;exact h v List.mem_cons_self
   simp [this]
  ·rfl
theorem uA {kindOf:Str->Option NameKind} {x:Str}:∀{binds:List (Str×Value)} {m:Str->Option Value},(∀v,(x,v)∉binds)->bindC kindOf binds m x=m x
 | [],_,_=>rfl
 | (n,v)::r,m,h=>by
  unfold bindC;rw [uA fun w hw=>h w (List.mem_cons_of_mem _ hw)];split
  ·rfl
  ·have:x≠n:=by rintro rfl;exact h v List.mem_cons_self
   simp [this]
theorem uB {kindOf:Str->Option NameKind} {x:Str} {v:Value}:∀{P:List Str} {vs:List Value} {i:Nat} {m:Str->Option Value},P.Nodup->P[i]?=some x->vs[i]?=some v->kindOf x=some .local->
  bindL kindOf (P.zip vs) m x=some v
 | [],_,_,_,_,h,_,_=>by simp at h
 | _::_,[],_,_,_,_,h,_=>by simp at h
 | p::P,w::vs,0,m,nd,h1,h2,hk=>by
  simp at h1 h2;subst h1;subst h2;show bindL kindOf ((p,w)::P.zip vs) m p=_;unfold bindL;rw [t_ fun v hv=>(List.nodup_cons.mp nd).1 (List.of_mem_zip hv).1,if_pos hk];simp
 | p::P,w::vs,i+1,m,nd,h1,h2,hk=>by
  show bindL kindOf ((p,w)::P.zip vs) m x=_;unfold bindL;exact uB (i:=i) (List.nodup_cons.mp nd).2 (by simpa using h1) (by simpa using h2) hk
theorem uC {kindOf:Str->Option NameKind} {x:Str} {v:Value}:∀{P:List Str} {vs:List Value} {i:Nat} {m:Str->Option Value},P.Nodup->P[i]?=some x->vs[i]?=some v->kindOf x≠some .local->
  bindC kindOf (P.zip vs) m x=some v
 | [],_,_,_,_,h,_,_=>by simp at h
 | _::_,[],_,_,_,_,h,_=>by simp at h
 | p::P,w::vs,0,m,nd,h1,h2,hk=>by
  simp at h1 h2;subst h1;subst h2;show bindC kindOf ((p,w)::P.zip vs) m p=_;unfold bindC;rw [uA fun v hv=>(List.nodup_cons.mp nd).1 (List.of_mem_zip hv).1,if_neg hk];simp
 | p::P,w::vs,i+1,m,nd,h1,h2,hk=>by
  show bindC kindOf ((p,w)::P.zip vs) m x=_;unfold bindC;exact uC (i:=i) (List.nodup_cons.mp nd).2 (by simpa using h1) (by simpa using h2) hk
noncomputable def start (N:List Str) (vs:List V):St:=vs.map some++List.replicate (N.length-vs.length) none
noncomputable def FQ (CX:CXT) (P:Program) (w:World) (K:PySem.W.Frag) (mg:Str->Option Value) (base:Heap) (N:List Str) (qual:Str) (scope:Scope) (f:Addr) (cd:Value) (A:Around) (outer:List Env) (s:Shared) (H:Hp) (E:XK):Cx where
 prog:=P
 w:=w
 K:=K
 mg:=mg
 base:=base
 A:=A.deeper (envOfC qual scope s.heap.objs.size f cd)
 N:=N
 s₀:=s
 H₀:=H
 env:=envOfC qual scope s.heap.objs.size f cd
 outer:=outer
 stack:=envOfC qual scope s.heap.objs.size f cd::outer
 ex:=[]
 calm:=true
 fn:=fun _=>true
 pn:=[]
 xe:=fun e s'=>wpAny (model P w) (A.deeper (envOfC qual scope s.heap.objs.size f cd)) (leaving (envOfC qual scope s.heap.objs.size f cd) e) (fun _ s''=>CX outer H s E e s'') (fun e' s''=>CX outer H s E e' s'') s'
theorem yG {sc:Scope} {n:Nat} {x:Str} (h:sc.names.lookup x=some .cell):∃c,(cellsFrom n sc.names []).lookup x=some c:=by
 have q:=PySem.W.cellsFrom_some sc.names n [] (.inl h);exact Option.isSome_iff_exists.mp q
theorem G9 {CX:CXT} {P:Program} {w:World} {K:PySem.W.Frag} {mg:Str->Option Value} {base:Heap} {N ps:List Str} {qual:Str} {scope:Scope} {f:Addr} {cd:Value} {A:Around} {outer:List Env} {s s1:Shared} {H:Hp} {E:XK} {us:List Value} {vs:List V}
  (S:bV N ps scope) (hd:A.handled=none) (e0:aD2 P w K mg base A outer s H) (hl:vs.length=ps.length) (r:Vals vs us)
  (x:InCallC s s.heap.objs.size (bindL (envOfC qual scope s.heap.objs.size f cd).kindOf (ps.zip us) fun _=>none) (cellsFrom (s.heap.objs.size+1) scope.names []) (bindC (envOfC qual scope s.heap.objs.size f cd).kindOf (ps.zip us) fun _=>none) s1) :
  Inv (FQ CX P w K mg base N qual scope f cd A outer s H E) [] (start N vs) H s1:=by
 have hpl:ps.length<=N.length:=by have:=congrArg List.length S.pre;rw [List.length_take] at this;lia
 obtain ⟨h1,tk,rfl,hk⟩:=x.done;have noA:∀b:Addr,b∉(FQ CX P w K mg base N qual scope f cd A outer s H E).ex:=fun b z=>absurd (show b∈([]:List Addr) from z) (by simp)
 refine ⟨⟨e0.mod,S.kind,rfl,rfl,Nat.le_refl _,fun y z c h1 h2=>?_,fun y hy=>?_,fun y c _ h=>?_,fun _=>hd,Around.frames_deeper e0.frames,.inr ⟨rfl,rfl⟩,fun b z=>absurd z (noA b),e0.bs,e0.bsz,fun b _ _=>noA b,fun b z=>absurd z (noA b),e0.GK,e0.frf⟩,
  rfl,e0.bare,Un.kept hk,⟨_,x.toInCall.ns,fun i y v h1 h2 h3=>?_⟩,fun y c h=>⟨_,x.cell y c h⟩,e0.hok.fresh (Nat.le_refl _),fun y c h=>?_,fun p hp=>absurd (show p∈([]:List (Addr×Obj)) from hp) (by simp),e0.hok.kept hk,?_⟩
 ·exact name_of_addr x.apart (PySem.mem_of_lookup h1) (PySem.mem_of_lookup h2)
 ·have hy:scope.names.lookup y=some .cell\/scope.names.lookup y=some .free:=hy;rcases hy with hy|hy
  ·exact yG hy
  ·exact absurd rfl (S.nofree _ (PySem.mem_of_lookup hy))
 ·exact Nat.le_of_lt (x.above y c (PySem.mem_of_lookup h))
 ·have hi:i<vs.length:=by
   unfold start at h2;by_cases hi:i<vs.length
   ·exact hi
   ·rw [List.getElem?_append_right (by simpa using hi)] at h2;rw [List.getElem?_replicate] at h2;split at h2 <;> cases h2
  have ha:vs[i]?=some v:=by
   unfold start at h2;rw [List.getElem?_append_left (by simpa using hi),List.getElem?_map] at h2;cases e:vs[i]? with
   | none=>rw [e] at h2;cases h2
   | some a=>rw [e] at h2;cases h2;rfl
  obtain ⟨u,hu,rv⟩:=r.get ha;have hp:ps[i]?=some y:=by
   rw [<-S.pre,List.getElem?_take_of_lt (by lia)];exact h1
  have ndP:ps.Nodup:=by rw [<-S.pre];exact S.nd.sublist (List.take_sublist _ _)
  refine ⟨u,rv,?_⟩;rcases S.par y (List.mem_of_getElem? hp) with k|k
  ·exact .inl ⟨k,uB ndP hp hu k⟩
  ·obtain ⟨c,e⟩:=yG (n:=s.heap.objs.size+1) k;refine .inr ⟨.inl k,c,e,?_⟩;have q:=x.cell y c e;rw [uC ndP hp hu (by show scope.names.lookup y≠_;rw [k];decide)] at q;exact q
 ·exact e0.hok.fresh (Nat.le_of_lt (x.above y c (PySem.mem_of_lookup h)))
 ·unfold start;show _=N.length;rw [List.length_append,List.length_map,List.length_replicate];lia
theorem aDo {CX:CXT} {P:Program} {w:World} {K:PySem.W.Frag} {mg:Str->Option Value} {base:Heap} {k:Nat} {f:Addr} {name qual:Str} {params:Arguments} {body:List Stmt} {scope:Scope} {dV kV doc pm cdv ct oc:Value} {an od:Option Addr}
  {osl:Array (Option Value)} {N ps:List Str} {sp:Sp} (lk:K.lookup f=some ⟨oc,od,.func (PySem.W.fnOf name qual params body scope dV kV doc pm an cdv ct),osl⟩) (hcd:PySem.W.codeIn K cdv qual=true) (S:bV N ps scope)
  (len:∀vs H Q E,sp vs H Q E->vs.length=ps.length)
  (hbody:∀(A:Around) (outer:List Env) (s:Shared) (H:Hp) (vs:List V) (Q:VK) (E:XK),mQ k (A.deeper (envOfC qual scope s.heap.objs.size f cdv))->sp vs H Q E->
   ∃t,PSs (FQ CX P w K mg base N qual scope f cdv A outer s H E) body t/\t {nx:=fun _ H'=>Q .non H',rt:=Q} (start N vs) H) :
  v9 P w K mg base CX (k+1) f (PySem.W.fnOf name qual params body scope dV kV doc pm an cdv ct) ps sp:=by
 refine ⟨len,fun A outer s H args us vs Q E hr e0 hb r hsp=>?_⟩;have hl:=len _ _ _ _ hsp;have KX:K.In s.heap:=e0.mod.kin.keeps fun b o e=>(e0.bs b o e).1
 have lim:s.heap.NoLimit:=e0.mod.nolimit.keeps fun b o e=>(e0.bs b o e).1
 have hkind:∀y∈ps.zip us,scope.names.lookup y.1=some .local\/(scope.names.lookup y.1=some .cell/\((cellsFrom (s.heap.objs.size+1) scope.names []).lookup y.1).isSome=true):=fun ⟨n,v⟩ hy=>by
  rcases S.par n (List.of_mem_zip hy).1 with q|q
  ·exact .inl q
  ·exact .inr ⟨q,PySem.W.cellsFrom_some _ _ _ (.inl q)⟩
 refine codeAny_call_function hr.depth (KX _ _ lk) rfl S.co S.gen rfl (PySem.W.codeRec_of KX hcd) (hb _ _ _ _ ?_);refine wpAny_newFunctionEnv_cells S.kind hkind fun env he s1 x=>?_
 subst he;refine ⟨lim.keeps x.toInCall.keep,codeAny_func ?_⟩;obtain ⟨t,ht,hq⟩:=hbody A outer s H vs Q E (hr.deeper _) hsp;have I:Inv (FQ CX P w K mg base N qual scope f cdv A outer s H E) [] (start N vs) H s1:=G9 S hr.hd e0 hl r x;refine wpAny_mono (ht [] s1 (start N vs) H _ I hq) (fun fl s' hs=>?_) fun e s' hs=>hs
 have fin:∀{σ':St} {H':Hp} {v:V} {u:Value},Inv (FQ CX P w K mg base N qual scope f cdv A outer s H E) [] σ' H' s'->RelV v u->Q v H'->CE outer P w H s Q u s':=
  fun {σ' H' v u} J rv q=>⟨v,H',J.os,J.bare,J.base,J.hok,rv,q⟩
 cases fl with
 | ret u=>
  obtain ⟨v,σ',H',J,rv,q⟩:=hs;exact fin J rv q
 | next=>
  obtain ⟨σ',H',J,q⟩:=hs;exact fin (v:=V.non) (u:=Value.none) J rfl q
 | brk=>
  obtain ⟨_,_,_,q⟩:=hs;exact False.elim q
 | cont=>
  obtain ⟨_,_,_,q⟩:=hs;exact False.elim q
end L2
namespace L2
open PySem PySem.Spec PyProof.Rows
section
variable {X:Cx} {x:Str} {p pos:Pos} {e:Expr} {es:List Expr} {t:TA} {id T:String} {r:List V->Hp->VK->Prop}
noncomputable def tCB (r:List V->Hp->VK->Prop) (t:TA):TE:=fun σ H Q=>t σ H fun vs H1=>r vs H1 Q
theorem yH (hc:mO X (.builtin id) r) (hg:Gl X x) (hm:X.mg x=none) (hv:bootBuiltins x=some (.builtin id)) (ha:PA X (e::es) t) (hn:x ≠ "__name__":=by decide) (hdb:nDb x:=by decide)
  (he:starEach (e::es) X.env=(false,eval e X.env)::starEach es X.env:=by rfl) (hpl:(backTo pos (starEach es X.env)).any (·.1)=false:=by rfl):PE X (.Call (.Name x p) (e::es) [] pos) (tCB r t):=by
 intro pins s σ H Q I h;refine wpAny_Call_Name_kw (mK I hg hm hv ?_ hn hdb);exact PyProof.Rows.callWith_builtin1 (thn (ha pos pins s σ H _ I h) fun us s1 ⟨vs,H1,I1,r1,q1⟩=>hc pins s1 σ H1 vs us Q I1 r1 q1) he hpl
theorem G_ (hc:mO X (.type T) r) (hg:Gl X x) (hm:X.mg x=none) (hv:bootBuiltins x=some (.type T)) (ha:PA X (e::es) t) (hn:x ≠ "__name__":=by decide) (hdb:nDb x:=by decide)
  (he:starEach (e::es) X.env=(false,eval e X.env)::starEach es X.env:=by rfl) (hpl:(backTo pos (starEach es X.env)).any (·.1)=false:=by rfl):PE X (.Call (.Name x p) (e::es) [] pos) (tCB r t):=by
 intro pins s σ H Q I h;refine wpAny_Call_Name_kw (mK I hg hm hv ?_ hn hdb);exact PyProof.Rows.callWith_type1 (thn (ha pos pins s σ H _ I h) fun us s1 ⟨vs,H1,I1,r1,q1⟩=>hc pins s1 σ H1 vs us Q I1 r1 q1) he hpl
end
end L2
namespace HT
open PySem PyProof.Rows
section
open PySem.SeqAt
open PySem.AutoSeq1 (wpAny_loadPart')
open PySem.MeetsSeq PySem.MeetsSeq2 PySem.MeetsSeq3
end
section
variable {prog:Program} {w:World} {A:Around} {E:Value->Shared->Prop} {s:Shared}
theorem V2 {t b:Addr} {vs ws:List Value} {Q:Value->Shared->Prop} (ht:IsTup s.heap t vs.toArray) (hb:IsTup s.heap b ws.toArray) (hv:vs≠[])
  (h1:ws=[]->Q (.ref t) s) (h2:ws≠[]->Q (.ref s.heap.objs.size) {s with heap:=s.heap.push {cls:=.type "tuple",data:=.seq (vs++ws).toArray}})
  (hsz:vs.length+ws.length<=sizeLine):wpAny (model prog w) A (binaryOp .Add (.ref t) (.ref b)) Q E s:=by
 obtain ⟨⟨cls,dd,data,sl⟩,ho,hc,n,hd⟩:=id ht;obtain ⟨⟨cls2,dd2,data2,sl2⟩,ho2,hc2,n2,hd2⟩:=id hb;simp only at hc hd hc2 hd2;subst hc hd hc2 hd2;have e:vs.toArray++ws.toArray=(vs++ws).toArray:=by simp
 by_cases hw:ws=[]
 ·exact concat_meets ⟨_,ho,rfl⟩ ⟨_,ho2,rfl⟩ noFill_tuple_add seq_tuple_add PySem.F.slot_tuple_add PySem.F.entry_tuple_add (PySem.F.args_tuple_add_2 _ _)
   (tuple_addW1 t b vs.toArray ws.toArray n n2 dd dd2 sl sl2 (by simpa using hv) (by simp [hw])) ⟨ho,ho2,h1 hw⟩
 ·refine concat_meets ⟨_,ho,rfl⟩ ⟨_,ho2,rfl⟩ noFill_tuple_add seq_tuple_add PySem.F.slot_tuple_add PySem.F.entry_tuple_add (PySem.F.args_tuple_add_2 _ _)
   (tuple_addW2 t b vs.toArray ws.toArray n n2 dd dd2 sl sl2 (by simpa using hv) (by simpa using hw) (by rw [List.size_toArray,List.size_toArray];exact hsz)) ⟨ho,ho2,?_⟩
  rw [e];exact h2 hw
noncomputable def sIx (n d:Nat):Option Int->Nat
 | none=>d
 | some v=>if v<0 then (v+(n:Int)).toNat else min v.toNat n
theorem aAb (n d:Nat) (hd:d<=n) (o:Option Int):sIx n d o<=n:=by
 cases o with
 | none=>exact hd
 | some v=>
  show (if v<0 then (v+(n:Int)).toNat else min v.toNat n)<=n;by_cases hv:v<0
  ·rw [if_pos hv];lia
  ·rw [if_neg hv];exact Nat.min_le_right _ _
theorem HB (v:Int) (n d:Nat):(if v<0 then max (v+(n:Int)) 0 else min v (n:Int))=((sIx n d (some v):Nat):Int):=by
 show (if v<0 then max (v+(n:Int)) 0 else min v (n:Int))=(((if v<0 then (v+(n:Int)).toNat else min v.toNat n):Nat):Int);by_cases hv:v<0
 ·simp only [if_pos hv];lia
 ·simp only [if_neg hv];lia
theorem BW (lo hi:Option Int) (n:Nat):Builtin.Slice.sliceAdjust lo hi 1 (n:Int)=(((sIx n 0 lo:Nat):Int),((sIx n n hi:Nat):Int)):=by
 have h1:¬((1:Int)<0):=by lia
 unfold Builtin.Slice.sliceAdjust;simp only [h1,if_false];refine Prod.ext ?_ ?_
 ·cases lo with
  | none=>rfl
  | some v=>exact HB v n 0
 ·cases hi with
  | none=>rfl
  | some v=>exact HB v n n
theorem BX (i j:Nat):Builtin.Slice.slicePlaces (i:Int) (j:Int) 1=j-i:=by
 unfold Builtin.Slice.slicePlaces;have h1:(1:Int) > 0:=by lia
 simp only [h1,if_true,Int.ediv_one];split <;> lia
theorem q_ {v:Value} {o:Option Int} {Q:Option Int->Shared->Prop} (p:IsPart v o) (h:Q o s):wpAny (model prog w) A (Builtin.Slice.slicePartIndex v) Q E s:=by
 cases p with
 | none=>exact slicePart_none h
 | int i t=>exact slicePart_int h
theorem oO {sl:Addr} {vl vu:Value} {lo hi:Option Int} {n:Nat} {Q:Int×Int×Nat->Shared->Prop} (hs:s.heap.IsSliceOf sl vl vu .none) (pl:IsPart vl lo) (pu:IsPart vu hi)
  (h:Q (((sIx n 0 lo:Nat):Int),1,sIx n n hi-sIx n 0 lo) s):wpAny (model prog w) A (Builtin.Slice.sliceApplied (.ref sl) (pure (n:Int))) Q E s:=by
 obtain ⟨os,hos,hcs,hds⟩:=id hs;unfold Builtin.Slice.sliceApplied Builtin.Slice.sliceFields;refine wpAny_bind (wpAny_bind (wpAny_field hos hds (x:=vl) rfl (wpAny_bind (wpAny_field hos hds (x:=vu) rfl (wpAny_bind (wpAny_field hos hds (x:=.none) rfl (wpAny_pure ?_)))))));refine wpAny_bind (slicePart_none ?_);show wpAny _ _ (if ((1:Int)==0)=true then _ else _) _ _ s;rw [if_neg (by decide)];refine wpAny_bind (q_ pl (wpAny_bind (q_ pu (wpAny_bind (wpAny_pure ?_)))));show wpAny _ _ (match Builtin.Slice.sliceAdjust lo hi 1 (n:Int) with|(lo,hi)=>pure (lo,(1:Int),Builtin.Slice.slicePlaces lo hi 1)) _ _ s;rw [BW lo hi n];show wpAny _ _ (pure (((sIx n 0 lo:Nat):Int),(1:Int),Builtin.Slice.slicePlaces ((sIx n 0 lo:Nat):Int) ((sIx n n hi:Nat):Int) 1)) _ _ s;rw [BX];exact wpAny_pure h
theorem PQ (xs:Array Value) (i k:Nat):((List.range k).filterMap fun (m:Nat)=>xs[((i:Int)+(m:Int)*1).toNat]?).toArray=((xs.toList.drop i).take k).toArray:=by
 have e:(fun (m:Nat)=>xs[((i:Int)+(m:Int)*1).toNat]?)=fun m=>xs[i+m]?:=by
  funext m
  have:((i:Int)+(m:Int)*1).toNat=i+m:=by lia
  rw [this]
 rw [e];have:=pick_run xs i k;rw [List.filterMap_map] at this;have e2:((fun x=>xs[x]?) ∘ fun x=>i+x)=fun m=>xs[i+m]?:=rfl
 rw [e2] at this;rw [this]
theorem nD {t sl:Addr} {items:Array Value} {vl vu:Value} {lo hi:Option Int} {Q:Value->Shared->Prop} (ht:IsTup s.heap t items) (hs:s.heap.IsSliceOf sl vl vu .none) (pl:IsPart vl lo) (pu:IsPart vu hi)
  (hw:¬(sIx items.size 0 lo=0/\sIx items.size items.size hi=items.size))
  (h:Q (.ref s.heap.objs.size) {s with heap:=s.heap.push {cls:=.type "tuple",data:=.seq ((items.toList.drop (sIx items.size 0 lo)).take (sIx items.size items.size hi-sIx items.size 0 lo)).toArray}})
  (hsz:items.size<=sizeLine):wpAny (model prog w) A (getItem (.ref t) (.ref sl)) Q E s:=by
 have htake:sizeOk (.seq ((items.toList.drop (sIx items.size 0 lo)).take (sIx items.size items.size hi-sIx items.size 0 lo)).toArray):=by
  show ((items.toList.drop (sIx items.size 0 lo)).take (sIx items.size items.size hi-sIx items.size 0 lo)).toArray.size<=sizeLine;rw [List.size_toArray,List.length_take,List.length_drop,Array.length_toList];lia
 have hj:sIx items.size items.size hi<=items.size:=aAb _ _ (Nat.le_refl _) hi;obtain ⟨os,hos,hcs,hds⟩:=id hs;have hTs:s.TypeIs (.ref sl) "slice":=⟨os,hos,hcs⟩
 unfold getItem
 try with_reducible refine wpAny_holding ?_
 first|refine wpAny_bind (wpAny_pure ?_)|skip
 refine wpAny_bind (wpAny_sequenceKey ht.typeIs (by decide) ?_);refine wpAny_bind (wpAny_callSpecial?_slot (name:=Str.ofString "__getitem__") ht.typeIs PyProof.Rows.slot_tuple_getitem
  (wpAny_call_entry PyProof.Rows.slot_tuple_getitem ht.typeIs entry_tuple_getitem ?_ (args_tuple_getitem _ _)))
 show wpAny _ _ (Builtin.Tuple.tupleItemsOf (.ref t) >>= _) _ _ s;refine wpAny_bind (tupleItemsOf_ ht ?_);refine wpAny_bind (wpAny_typeOf hTs ?_);rw [if_pos (by decide)];refine wpAny_bind (oO hs pl pu ?_);have hno:¬((((sIx items.size 0 lo:Nat):Int)==0&&(1:Int)==1&&(sIx items.size items.size hi-sIx items.size 0 lo)==items.size)=true):=by
  intro q;rw [Bool.and_eq_true,Bool.and_eq_true] at q;have q1:((sIx items.size 0 lo:Nat):Int)=0:=eq_of_beq q.1.1;have q2:sIx items.size items.size hi-sIx items.size 0 lo=items.size:=eq_of_beq q.2;exact hw ⟨by lia,by lia⟩
 show wpAny _ _ (if (((sIx items.size 0 lo:Nat):Int)==0&&(1:Int)==1&&(sIx items.size items.size hi-sIx items.size 0 lo)==items.size)=true then _ else _) _ _ s;rw [if_neg hno,PQ]
 first
  | exact wpAny_bind (m:=Builtin.Tuple.tupleExact _) (wpAny_newObj_type (wpAny_pure ⟨_,rfl,wpAny_pure h⟩) htake)
  | exact wpAny_bind (m:=Builtin.Tuple.tupleExact _) (wpAny_newObj_type (wpAny_bind (wpAny_pure (wpAny_pure ⟨_,rfl,wpAny_pure h⟩))) htake)
  | exact wpAny_bind (wpAny_bind (m:=Builtin.Tuple.tupleExact _) (wpAny_newObj_type (wpAny_pure (wpAny_pure ⟨_,rfl,wpAny_pure h⟩)) htake))
  | exact wpAny_bind (wpAny_bind (m:=Builtin.Tuple.tupleExact _) (wpAny_newObj_type (wpAny_pure ⟨_,rfl,wpAny_pure h⟩) htake))
end
end HT
namespace L2
open PySem PySem.Spec PyProof.Rows
abbrev TO:=St->Hp->(Option Int->Hp->Prop)->Prop
noncomputable def PO (X:Cx) (e:Option Expr) (t:TO):Prop:=
 ∀(pins:List (Addr×Obj)) (s:Shared) (σ:St) (H:Hp) (Q:Option Int->Hp->Prop),Inv X pins σ H s->t σ H Q->
  wpAny (model X.prog X.w) X.A (evalPart e X.env) (fun u s'=>∃o H',Inv X pins σ H' s'/\IsPart u o/\Q o H') X.xe s
def V3:TO:=fun _ H Q=>Q none H
def aDp (t:TE):TO:=fun σ H Q=>t σ H fun x H1=>∃i,x=.int i/\Q (some i) H1
section
variable {X:Cx} {e:Expr} {te:TE} {lo hi:Option Expr} {tl th:TO} {pos p2:Pos}
theorem V4:PO X none V3:=by
 intro pins s σ H Q I h;rw [evalPart_none];exact wpAny_pure ⟨none,H,I,.none,h⟩
theorem V5 (h:PE X e te):PO X (some e) (aDp te):=by
 intro pins s σ H Q I hw;rw [evalPart_some];refine thn (h pins s σ H _ I hw) fun u s1 ⟨x,H1,I1,r1,q1⟩=>?_
 obtain ⟨i,rfl,q⟩:=q1;obtain ⟨t,rfl⟩:=r1;exact ⟨some i,H1,I1,.int i t,q⟩
noncomputable def SlR (X:Cx) (r:V->Option Int->Option Int->Hp->VK->Prop):Prop:=
 ∀(pins:List (Addr×Obj)) (s:Shared) (σ:St) (H:Hp) (x:V) (v vl vu:Value) (lo hi:Option Int) (sl:Addr) (Q:VK),Inv X pins σ H s->RelV x v->s.heap.IsSliceOf sl vl vu .none->IsPart vl lo->IsPart vu hi->r x lo hi H Q->
  ∃T id,typeLookup (.type T) "__getitem__" = pure (some (.builtin id))/\s.TypeIs v T/\wpAny (model X.prog X.w) X.A (getItem v (.ref sl)) (EP X pins σ Q) X.xe s
noncomputable def tSl (r:V->Option Int->Option Int->Hp->VK->Prop) (te:TE) (tl th:TO):TE:=fun σ H Q=>te σ H fun x H1=>tl σ H1 fun l H2=>th σ H2 fun u H3=>r x l u H3 Q
theorem PX {r:V->Option Int->Option Int->Hp->VK->Prop} (hr:SlR X r) (he:PE X e te) (hl:PO X lo tl) (hu:PO X hi th):PE X (.Subscript e (.Slice lo hi none p2) pos) (tSl r te tl th):=by
 intro pins s σ H Q I h;refine Subscript_ (thn (he pins s σ H _ I h) fun v s1 ⟨x,H1,I1,r1,q1⟩=>?_);refine wpAny_Slice (thn (hl pins s1 σ H1 _ I1 q1) fun vl s2 ⟨l,H2,I2,pl,q2⟩=>thn (hu pins s2 σ H2 _ I2 q2) fun vu s3 ⟨u,H3,I3,pu,q3⟩=>?_);rw [evalPart_none];refine wpAny_pure ?_;have I4:Inv X pins σ H3 {s3 with heap:=s3.heap.push {cls:=.type "slice",data:=.fields #[vl,vu,.none]}}:=I3.kept (t':=s3.toks) fun b ob q=>Heap.get?_push_of_some _ q
 obtain ⟨T,id,hT,ht,hg⟩:=hr pins {s3 with heap:=s3.heap.push {cls:=.type "slice",data:=.fields #[vl,vu,.none]}} σ H3 x v vl vu l u s3.heap.objs.size Q I4 r1 (Heap.IsSliceOf.new ..) pl pu q3;show wpAny (model X.prog X.w) X.A (subscriptTail e (.Slice lo hi none p2) v (.ref s3.heap.objs.size)) (EP X pins σ Q) X.xe {s3 with heap:=s3.heap.push {cls:=.type "slice",data:=.fields #[vl,vu,.none]}};exact tail_any (ops:=[.ref s3.heap.objs.size,v]) ht hT hg (by with_unfolding_all rfl)
noncomputable def HD (xs:List V) (lo hi:Option Int):List V:=(xs.drop (HT.sIx xs.length 0 lo)).take (HT.sIx xs.length xs.length hi-HT.sIx xs.length 0 lo)
theorem o_ (xs:List V) (lo hi:Option Int):(HD xs lo hi).length<=xs.length:=by
 unfold HD;rw [List.length_take,List.length_drop];lia
noncomputable def aF8 (K:PySem.W.Frag):V->Option Int->Option Int->Hp->VK->Prop:=fun x lo hi H Q=>∃a xs,x=.ref a/\SqT K H a xs/\
 ¬(HT.sIx xs.length 0 lo=0/\HT.sIx xs.length xs.length hi=xs.length)/\∀p,H p=none->Q (.ref p) (upd H p (.tup (HD xs lo hi)))
theorem aAc:SlR X (aF8 X.K):=by
 intro pins s σ H x v vl vu lo hi sl Q I rx hs pl pu h;obtain ⟨a,xs,rfl,hx,hw,q⟩:=h;cases rx;obtain ⟨its,r,ht,hz⟩:=I.tuple hx;have hlen:its.toArray.size=xs.length:=by rw [List.size_toArray];exact r.length.symm
 refine ⟨"tuple",_,PyProof.Rows.slot_tuple_getitem.lookup,ht.typeIs,?_⟩;refine HT.nD ht hs pl pu (by rw [hlen];exact hw) ?_ (by rw [hlen];exact hz);rw [hlen];refine ⟨.ref s.heap.objs.size,_,I.laid (t':=s.toks) (o:=.tup (HD xs lo hi)) (fun b ob q=>Heap.get?_push_of_some _ q) (Nat.le_refl _) ?_,rfl,q _ (I.hok.fresh (Nat.le_refl _))⟩;exact ⟨Nat.le_trans (o_ xs lo hi) hz,_,(r.drop (HT.sIx xs.length 0 lo)).take (HT.sIx xs.length xs.length hi-HT.sIx xs.length 0 lo),iW.new _ _⟩
noncomputable def aDq (K:PySem.W.Frag):R2:=fun x y H Q=>∃a b xs ys,x=.ref a/\y=.ref b/\SqT K H a xs/\SqT K H b ys/\xs≠[]/\xs.length+ys.length<=sizeLine/\
 (ys=[]->Q (.ref a) H)/\(ys≠[]->∀p,H p=none->Q (.ref p) (upd H p (.tup (xs++ys))))
theorem Vals.pA {xs:List V} {us:List Value} (r:Vals xs us):us=[]↔xs=[]:=by
 cases r with
 | nil=>simp
 | cons _ _=>simp
theorem V6:OpR X (binaryOp .Add) (aDq X.K):=by
 intro pins s σ H x y v u Q I rx ry h;obtain ⟨a,b,xs,ys,rfl,rfl,ha,hb,hx,hz,q1,q2⟩:=h;cases rx;cases ry;obtain ⟨its,r1,p1,_⟩:=I.tuple ha;obtain ⟨its2,r2,p2,_⟩:=I.tuple hb;refine HT.V2 p1 p2 (fun z=>hx (r1.pA.mp z)) (fun z=>⟨.ref a,H,I,rfl,q1 (r2.pA.mp z)⟩) (fun z=>?_) (by rw [<-r1.length,<-r2.length];exact hz);refine ⟨.ref s.heap.objs.size,_,I.laid (t':=s.toks) (o:=.tup (xs++ys)) (fun b ob q=>Heap.get?_push_of_some _ q) (Nat.le_refl _) ?_,rfl,q2 (fun w=>z (r2.pA.mpr w)) _ (I.hok.fresh (Nat.le_refl _))⟩;exact ⟨by rw [List.length_append];exact hz,_,r1.append r2,iW.new _ _⟩
end
end L2
namespace L2
open PySem PySem.Spec PyProof.Rows
noncomputable def ixN (n:Nat) (i:Int):Option Nat:=if 0<=i then (if i<n then some i.toNat else none) else if -(n:Int)<=i then some (i+n).toNat else none
noncomputable def atI {α:Type} (xs:List α) (i:Int):Option α:=(ixN xs.length i).bind fun j=>xs[j]?
theorem HF {n:Nat} {i:Int} {j:Nat} (h:ixN n i=some j):seqIndex? i n=some j/\j<n/\-(n:Int)<=i/\i<n:=by
 unfold ixN at h;by_cases h0:0<=i
 ·rw [if_pos h0] at h;by_cases h1:i<n
  ·rw [if_pos h1] at h;have e:i.toNat=j:=Option.some.inj h;exact ⟨by rw [seqIndex_of h0 h1,e],by lia,by lia,h1⟩
  ·rw [if_neg h1] at h;cases h
 ·rw [if_neg h0] at h;by_cases h1:-(n:Int)<=i
  ·rw [if_pos h1] at h;have e:(i+n).toNat=j:=Option.some.inj h;exact ⟨by rw [seqIndex_neg (by lia) h1,e],by lia,h1,by lia⟩
  ·rw [if_neg h1] at h;cases h
theorem wH {α:Type} {xs:List α} {i:Int} {v:α} (h:atI xs i=some v):∃j,seqIndex? i xs.length=some j/\xs[j]?=some v/\j<xs.length/\-(xs.length:Int)<=i/\i<xs.length:=by
 unfold atI at h;cases e:ixN xs.length i with
 | none=>rw [e] at h;cases h
 | some j=>
  rw [e] at h;obtain ⟨h1,h2,h3,h4⟩:=HF e;exact ⟨j,h1,h,h2,h3,h4⟩
noncomputable def wI (b:Expr):Prop:=∀o i,subscripted b false o i=operate [o,i] (getItem o i)
noncomputable def IxR (X:Cx) (r:R2):Prop:=
 ∀(value slice:Expr) (pins:List (Addr×Obj)) (s:Shared) (σ:St) (H:Hp) (x y:V) (v u:Value) (Q:VK),Inv X pins σ H s->RelV x v->RelV y u->r x y H Q->
  subscripted slice false v u=operate [v,u] (getItem v u)->wpAny (model X.prog X.w) X.A (subscriptTail value slice v u) (EP X pins σ Q) X.xe s
noncomputable def MtR (X:Cx) (id:String) (r:V->List V->Hp->VK->Prop):Prop:=
 ∀(pins:List (Addr×Obj)) (s:Shared) (σ:St) (H:Hp) (x:V) (xs:List V) (v:Value) (us:List Value) (Q:VK),Inv X pins σ H s->RelV x v->Vals xs us->r x xs H Q->
  wpAny (model X.prog X.w) X.A (call (.builtin id) (v::us)) (EP X pins σ Q) X.xe s
section
variable {X:Cx} {a b:Expr} {ta tb:TE} {pos:Pos}
theorem aAd {r:R2} (hr:IxR X r) (ha:PE X a ta) (hb:PE X b tb) (hs:wI b):PE X (.Subscript a b pos) (tOp r ta tb):=by
 intro pins s σ H Q I h;exact Subscript_ (aDi ha hb I h fun v u s2 x y H2 I2 rx ry q=>hr a b pins s2 σ H2 x y v u Q I2 rx ry q (hs _ _))
noncomputable def aF9 (K:PySem.W.Frag):R2:=fun x y H Q=>∃p xs i v,x=.ref p/\y=.int i/\SqL K H p xs/\atI xs i=some v/\Q v H
noncomputable def aFa (K:PySem.W.Frag):R2:=fun x y H Q=>∃p xs i v,x=.ref p/\y=.int i/\SqT K H p xs/\atI xs i=some v/\Q v H
noncomputable def aFb:R2:=fun x y H Q=>∃z i c,x=.str z/\y=.int i/\z.length<=sizeLine/\atI z.cps.toList i=some c/\Q (.str ⟨#[c]⟩) H
theorem wJ:IxR X (aF9 X.K):=by
 intro value slice pins s σ H x y v u Q I rx ry h hs;obtain ⟨p,xs,i,z,rfl,rfl,hq,he,q⟩:=h;cases rx;obtain ⟨t,rfl⟩:=ry;obtain ⟨its,r,pl,hz⟩:=I.list hq;obtain ⟨j,h1,h2,h3,h4,h5⟩:=wH he;obtain ⟨w,ew,rw'⟩:=r.get h2;have hl:=r.length;have hn:=o9;have fin:EP X pins σ Q w s:=⟨z,H,I,rw',q⟩
 by_cases h0:0<=i
 ·have hj:i.toNat=j:=by
   rw [seqIndex_of h0 h5] at h1;exact Option.some.inj h1
  exact item_listR pl.isList h0 (by lia) (by rw [hj];simpa using ew) fin hs
 ·have hj:(i+(its.toArray.size:Int)).toNat=j:=by
   rw [seqIndex_neg (by lia) h4] at h1;rw [List.size_toArray,<-hl];exact Option.some.inj h1
  exact subscriptTail_builtinR (x:=w) pl.isList.typeIs slot_list_getitem.lookup
   (wpAny_getItem_list_neg (Q:=fun r s'=>r=w/\EP X pins σ Q r s') pl.isList (by lia) (by rw [List.size_toArray] <;> lia) (by lia) (by rw [hj];simpa using ew) ⟨rfl,fin⟩) hs
theorem aAe:IxR X (aFa X.K):=by
 intro value slice pins s σ H x y v u Q I rx ry h hs;obtain ⟨p,xs,i,z,rfl,rfl,hq,he,q⟩:=h;cases rx;obtain ⟨t,rfl⟩:=ry;obtain ⟨its,r,pl,hz⟩:=I.tuple hq;obtain ⟨j,h1,h2,h3,h4,h5⟩:=wH he;obtain ⟨w,ew,rw'⟩:=r.get h2;have hl:=r.length;have hn:=o9;have fin:EP X pins σ Q w s:=⟨z,H,I,rw',q⟩
 exact subscriptTail_builtinR (x:=w) pl.typeIs slot_tuple_getitem.lookup
  (getItem_tuple (j:=j) (Q:=fun r s'=>r=w/\EP X pins σ Q r s') pl (by lia) (by lia) (by rw [List.size_toArray,<-hl];exact h1) (by simpa using ew) ⟨rfl,fin⟩) hs
theorem aAf:IxR X aFb:=by
 intro value slice pins s σ H x y v u Q I rx ry h hs;obtain ⟨z,i,c,rfl,rfl,hz,he,q⟩:=h;obtain ⟨t,rfl⟩:=rx;obtain ⟨t',rfl⟩:=ry;obtain ⟨j,h1,h2,h3,h4,h5⟩:=wH he;have hl:z.cps.toList.length=z.length:=by simp [Str.length]
 rw [hl] at h1 h4 h5;have hn:=o9;exact tail_any (typeIs_str s z t) slot_str_getitem.lookup (getItem_str (c:=c) (by
  have e1:decide (i < -(2 ^ 63:Int))=false:=decide_eq_false (by lia);have e2:decide (i >= 2 ^ 63)=false:=decide_eq_false (by lia);rw [e1,e2,Bool.or_false]) (by rw [h1];simpa using h2) ⟨.str ⟨#[c]⟩,H,I.tok _,⟨_,rfl⟩,q⟩) hs
theorem BZ (its:List Value) (n j:Nat) (u:Value):Obj.mapSeq (·.setIfInBounds j u) {cls:=.type "list",data:=.seq its.toArray n}={cls:=.type "list",data:=.seq (its.set j u).toArray n}:=by
 simp [Obj.mapSeq]
theorem Inv.lst {pins:List (Addr×Obj)} {σ:St} {H:Hp} {s:Shared} {p:Addr} {xs:List V} (I:Inv X pins σ H s) (h:H p=some (.lst xs)) :
  ∃(its:List Value) (n:Nat),Vals xs its/\s.heap.get? p=some {cls:=.type "list",data:=.seq its.toArray n}/\xs.length<=sizeLine:=by
 obtain ⟨z,its,n,r,e⟩:=I.hok p _ h;exact ⟨its,n,r,e,z⟩
theorem Inv.aAg {pins:List (Addr×Obj)} {σ:St} {H:Hp} {s:Shared} {p:Addr} {xs ys:List V} {its its':List Value} {n n':Nat} {f:Obj->Obj} (I:Inv X pins σ H s) (h:H p=some (.lst xs))
  (ho:s.heap.get? p=some {cls:=.type "list",data:=.seq its.toArray n}) (hf:f {cls:=.type "list",data:=.seq its.toArray n}={cls:=.type "list",data:=.seq its'.toArray n'}) (r:Vals ys its') (hz:ys.length<=sizeLine) (t:Nat) :
  Inv X pins σ (upd H p (.lst ys)) {s with heap:=s.heap.update p f,toks:=t}:=by
 have e:(s.heap.update p f).get? p=some {cls:=.type "list",data:=.seq its'.toArray n'}:=by
  rw [Heap.get?_update_self f ho (by rw [hf] <;> rfl),hf]
 refine I.write (x:=p) (e:=p) (by rw [h];trivial) (.inl rfl) (fun b u hb q=>(Heap.get?_update_other _ _ (Ne.symm hb)).trans q) ⟨_,e⟩ ?_;exact ⟨hz,its',n',r,e⟩
noncomputable def aDr:V->V->V->Hp->(Hp->Prop)->Prop:=fun o i v H Q=>∃p xs k j,o=.ref p/\i=.int k/\H p=some (.lst xs)/\ixN xs.length k=some j/\Q (upd H p (.lst (xs.set j v)))
theorem set_list:aF1 X aDr:=by
 intro pins s σ H o i v ov iv u Q I ro ri rv h;obtain ⟨p,xs,k,j,rfl,rfl,hp,hj,q⟩:=h;cases ro;obtain ⟨t,rfl⟩:=ri;obtain ⟨its,n,r,ho,hz⟩:=I.lst hp;obtain ⟨h1,h2,h3,h4⟩:=HF hj;have hl:=r.length;have hn:=o9;have I':Inv X pins σ (upd H p (.lst (xs.set j v))) {s with heap:=s.heap.update p (Obj.mapSeq (·.setIfInBounds j u))}:=
  I.aAg hp ho (BZ its n j u) (r.set rv j) (by rw [List.length_set];exact hz) s.toks
 by_cases h0:0<=k
 ·have hk:k.toNat=j:=by
   rw [seqIndex_of h0 h4] at h1;exact Option.some.inj h1
  exact PySem.W.ki_setAt ho h0 (by lia) (by rw [List.size_toArray,<-hl];exact h4) (by rw [hk];exact ⟨_,I',q⟩)
 ·have hk:(k+(its.toArray.size:Int)).toNat=j:=by
   rw [seqIndex_neg (by lia) h3] at h1;rw [List.size_toArray,<-hl];exact Option.some.inj h1
  exact PySem.W.ki_setBack ho (by lia) (by rw [List.size_toArray,<-hl];exact h3) (by lia) (by rw [hk];exact ⟨_,I',q⟩)
theorem uE (lo hi:Option Int) (n:Nat):(sliceBounds lo hi none n).1=((HT.sIx n 0 lo:Nat):Int)/\(sliceBounds lo hi none n).2.1=((HT.sIx n n hi:Nat):Int)/\(sliceBounds lo hi none n).2.2=1:=by
 refine ⟨?_,?_,rfl⟩
 ·cases lo with
  | none=>simp [sliceBounds,HT.sIx]
  | some i=>
   simp only [sliceBounds,HT.sIx,Option.getD_none,show (1:Int) > 0 by decide,if_true];by_cases h:i<0
   ·simp only [h,if_true] <;> lia
   ·simp only [h,if_false] <;> lia
 ·cases hi with
  | none=>simp [sliceBounds,HT.sIx]
  | some i=>
   simp only [sliceBounds,HT.sIx,Option.getD_none,show (1:Int) > 0 by decide,if_true];by_cases h:i<0
   ·simp only [h,if_true] <;> lia
   ·simp only [h,if_false] <;> lia
theorem rO (its:List Value) (lo hi:Option Int):slicePick its.toArray lo hi none=((its.drop (HT.sIx its.length 0 lo)).take (HT.sIx its.length its.length hi-HT.sIx its.length 0 lo)).toArray:=by
 obtain ⟨h1,h2,h3⟩:=uE lo hi its.toArray.size;unfold slicePick;rw [h1,h2,h3];simp only [sliceRange_one,pick_run,List.size_toArray] <;> rfl
noncomputable def aFc (K:PySem.W.Frag):V->Option Int->Option Int->Hp->VK->Prop:=fun x lo hi H Q=>∃a xs,x=.ref a/\SqL K H a xs/\∀p,H p=none->Q (.ref p) (upd H p (.lst (HD xs lo hi)))
theorem HH:SlR X (aFc X.K):=by
 intro pins s σ H x v vl vu lo hi sl Q I rx hs pl pu h;obtain ⟨a,xs,rfl,hx,q⟩:=h;cases rx;obtain ⟨its,r,ht,hz⟩:=I.list hx;have hlen:=r.length;refine ⟨"list",_,slot_list_getitem.lookup,ht.isList.typeIs,?_⟩;refine wpAny_getItem_list_slice ht.isList hs pl pu .none (by simp) ?_ (by rw [List.size_toArray] <;> lia);rw [rO,<-hlen];refine ⟨.ref s.heap.objs.size,_,I.laid (t':=s.toks) (o:=.lst (HD xs lo hi)) (fun b ob q=>Heap.get?_push_of_some _ q) (Nat.le_refl _) ?_,rfl,q _ (I.hok.fresh (Nat.le_refl _))⟩;exact ⟨Nat.le_trans (o_ xs lo hi) hz,_,0,(r.drop (HT.sIx xs.length 0 lo)).take (HT.sIx xs.length xs.length hi-HT.sIx xs.length 0 lo),Heap.get?_push_size _ rfl⟩
theorem iG:mO X (.builtin "len") (fun xs H Q=>∃p ys,xs=[.ref p]/\(SqL X.K H p ys\/SqT X.K H p ys)/\Q (.int ys.length) H):=by
 intro pins s σ H xs us Q I r h;obtain ⟨p,ys,rfl,hq,q⟩:=h;obtain ⟨u,rfl,rx⟩:=vals1 r;cases rx;have hn:=o9;rcases hq with hq|hq
 ·obtain ⟨its,r',pl,hz⟩:=I.list hq;have hlen:=r'.length;exact Calls.call_len_list pl.isList (by simp only [List.size_toArray] <;> lia) ⟨.int ys.length,H,I.tok _,⟨s.toks+1,by rw [List.size_toArray,hlen]⟩,q⟩
 ·obtain ⟨its,r',pl,hz⟩:=I.tuple hq;have hlen:=r'.length;exact len_tuple pl (by simp only [List.size_toArray] <;> lia) ⟨.int ys.length,H,I.tok _,⟨s.toks+1,by rw [List.size_toArray,hlen]⟩,q⟩
theorem uF:mO X (.builtin "len") (fun xs H Q=>∃z,xs=[.str z]/\z.length<=sizeLine/\Q (.int z.length) H):=by
 intro pins s σ H xs us Q I r h;obtain ⟨z,rfl,hz,q⟩:=h;obtain ⟨u,rfl,t,rfl⟩:=vals1 r;have hn:=o9;exact len_str (by lia) ⟨.int z.length,H,I.tok _,⟨_,rfl⟩,q⟩
theorem mU:mO X (.type "tuple") (fun xs H Q=>∃p ys,xs=[.ref p]/\((SqL X.K H p ys/\∀l,H l=none->Q (.ref l) (upd H l (.tup ys)))\/(SqT X.K H p ys/\Q (.ref p) H))):=by
 intro pins s σ H xs us Q I r h;obtain ⟨p,ys,rfl,h⟩:=h;obtain ⟨u,rfl,rx⟩:=vals1 r;cases rx;rcases h with ⟨hq,q⟩|⟨hq,q⟩
 ·obtain ⟨its,r',pl,hz⟩:=I.list hq;have hlen:=r'.length;refine call_tuple_list pl.isList (fun h' kp=>?_) (by simp only [List.size_toArray] <;> lia);have I1:Inv X pins σ H {s with heap:=h'}:=I.kept (t':=s.toks) kp;have I2:Inv X pins σ (upd H h'.objs.size (.tup ys)) {s with heap:=h'.push {cls:=.type "tuple",data:=.seq its.toArray}}:=
   I1.laid (t':=s.toks) (fun b o e=>Heap.get?_push_of_some _ e) (Nat.le_refl _) (show iR X.prog X.w _ _ _ (.tup ys) from ⟨hz,its,r',iW.new _ _⟩)
  exact ⟨.ref h'.objs.size,_,I2,rfl,q _ (I1.hok.fresh (Nat.le_refl _))⟩
 ·obtain ⟨its,r',pl,hz⟩:=I.tuple hq;exact call_tuple_same pl ⟨.ref p,H,I,rfl,q⟩
noncomputable def tyV (K:PySem.W.Frag) (T:String) (x:V) (H:Hp):Prop:=match x with
 | .str _=>T = "str"
 | .int _=>T = "int"
 | .ref p=>(T = "list"/\∃xs,SqL K H p xs)\/(T = "tuple"/\((∃o,K.lookup p=some o/\o.cls=.type "tuple"/\o.dict=none)\/∃xs,H p=some (.tup xs)))\/
   (T = "dict"/\((∃kvs,H p=some (.dK kvs))\/∃kvs,H p=some (.dT kvs)))\/(T = "set"/\∃S n,H p=some (.set S n))
 | _=>False
theorem S6 {pins:List (Addr×Obj)} {σ:St} {H:Hp} {s:Shared} {T:String} {x:V} {v:Value} (I:Inv X pins σ H s) (r:RelV x v) (ty:tyV X.K T x H) :
  s.TypeIs v T/\∀a,v=.ref a->∃ob,s.heap.get? a=some ob/\ob.dict=none:=by
 cases x with
 | str z=>
  obtain ⟨t,rfl⟩:=r;cases (show T = "str" from ty);exact ⟨typeIs_str s z t,fun _ e=>nomatch e⟩
 | int i=>
  obtain ⟨t,rfl⟩:=r;cases (show T = "int" from ty);exact ⟨typeIs_int s i t,fun _ e=>nomatch e⟩
 | ref p=>
  cases r;rcases ty with ⟨rfl,xs,hq⟩|⟨rfl,⟨o,hk,hc,hd⟩|⟨xs,hk⟩⟩|⟨rfl,hk⟩|⟨rfl,S,n,hk⟩
  ·obtain ⟨its,_,pl,_⟩:=I.list hq;refine ⟨pl.isList.typeIs,fun a e=>?_⟩;cases e;obtain ⟨o,n,e,c,hd,_⟩:=pl;exact ⟨o,e,hd⟩
  ·refine ⟨⟨o,I.kIn p o hk,hc⟩,fun a e=>?_⟩;cases e;exact ⟨o,I.kIn _ o hk,hd⟩
  ·obtain ⟨_,its,_,pl⟩:=I.hok p _ hk;refine ⟨(iW.tup pl).typeIs,fun a e=>?_⟩;cases e;exact iW.bare pl
  ·have z:∃o,s.heap.get? p=some o/\o.ExactDict:=by
    rcases hk with ⟨kvs,hk⟩|⟨kvs,hk⟩
    ·obtain ⟨_,_,_,_,o,_,_,e,ex,_⟩:=I.hok p _ hk;exact ⟨o,e,ex⟩
    ·obtain ⟨_,_,_,_,o,_,_,e,ex,_⟩:=I.hok p _ hk;exact ⟨o,e,ex⟩
   obtain ⟨o,e,ex⟩:=z;refine ⟨⟨o,e,ex.1⟩,fun a e2=>?_⟩;cases e2;exact ⟨o,e,ex.2.1⟩
  ·obtain ⟨o,_,_,_,e,ex,_⟩:=I.hok p _ hk;refine ⟨⟨o,e,ex.1⟩,fun a e2=>?_⟩;cases e2;exact ⟨o,e,ex.2.1⟩
 | _=>exact False.elim ty
noncomputable def aFd (K:PySem.W.Frag) (T:String) (r:V->List V->Hp->VK->Prop) (to:TE):TE:=fun σ H Q=>to σ H fun x H1=>tyV K T x H1/\r x [] H1 Q
noncomputable def tBM (K:PySem.W.Frag) (T:String) (r:V->List V->Hp->VK->Prop) (to:TE) (t:TA):TE:=fun σ H Q=>to σ H fun x H1=>tyV K T x H1/\t σ H1 fun xs H2=>r x xs H2 Q
variable {o e:Expr} {es:List Expr} {to:TE} {t:TA} {name:Str} {apos cpos:Pos} {T id:String} {r:V->List V->Hp->VK->Prop}
theorem S7 (pa:PlainAttrs T) (slot:Slot T name id) (hty:typeOf (.builtin id)=pure (.type "method_descriptor")) (hm:MtR X id r) (ho:PE X o to)
  (hbase:attributeBase o name X.env (eval o X.env)=eval o X.env:=by rfl) (hline:(apos.endLine==cpos.line)=true:=by rfl):PE X (.Call (.Attribute o name apos) [] [] cpos) (aFd X.K T r to):=by
 intro pins s σ H Q I h;refine wpAny_Call_method0_late hbase hline (thn (ho pins s σ H _ I h) fun v s1 ⟨x,H1,I1,r1,ty,q1⟩=>?_);obtain ⟨h1,h2⟩:=S6 I1 r1 ty;exact ⟨T,id,pa,slot,hty,h1,h2,Calls.callWith_builtin rfl (PySem.evalArgs_none (hm pins s1 σ H1 x [] v [] Q I1 r1 .nil q1))⟩
theorem V7 (pa:PlainAttrs T) (slot:Slot T name id) (hty:typeOf (.builtin id)=pure (.type "method_descriptor")) (hm:MtR X id r) (ho:PE X o to) (ha:PA X (e::es) t)
  (hbase:attributeBase o name X.env (eval o X.env)=eval o X.env:=by rfl)
  (hfew:((backTo cpos (starEach (e::es) X.env)).all (fun x=>!x.1)&&(backToKw cpos (keywordEach [] X.env)).all (fun x=>x.1.isSome)
   && decide ((e::es).length+([]:List Keyword).length+(if ([]:List Keyword).isEmpty then 0 else 1)<30))=true:=by rfl)
  (hline:(apos.endLine==cpos.line)=true:=by rfl) (hs:starEach (e::es) X.env=(false,eval e X.env)::starEach es X.env:=by rfl) (hplain:(backTo cpos (starEach es X.env)).any (·.1)=false:=by rfl) :
  PE X (.Call (.Attribute o name apos) (e::es) [] cpos) (tBM X.K T r to t):=by
 intro pins s σ H Q I h;refine wpAny_Call_method_late hbase hfew hline rfl (thn (ho pins s σ H _ I h) fun v s1 ⟨x,H1,I1,r1,ty,q1⟩=>?_);obtain ⟨h1,h2⟩:=S6 I1 r1 ty;refine ⟨T,id,pa,slot,hty,h1,h2,?_⟩;have hA:=ha cpos pins s1 σ H1 _ I1 q1;rw [hs] at hA ⊢;refine Calls.callWith_builtin (by show (false||(backTo cpos (starEach es X.env)).any (·.1))=false;rw [hplain] <;> rfl) (Calls.evalArgs_plain ?_);exact thn hA fun us s2 ⟨vs,H2,I2,r2,q2⟩=>hm pins s2 σ H2 x vs v us Q I2 r1 r2 q2
end
end L2
namespace L2
open PySem PySem.Spec PyProof.Rows
noncomputable def MtM (X:Cx) (id:String) (r:V->List V->Hp->VK->Prop):Prop:=
 ∀(pins:List (Addr×Obj)) (s:Shared) (σ:St) (H:Hp) (x:V) (xs:List V) (v:Value) (us:List Value) (Q:VK),Inv X pins σ H s->RelV x v->Vals xs us->r x xs H Q->
  wpAny (model X.prog X.w) X.A (call (.builtin id) (v::us)) (EP X pins σ Q) X.xe s
theorem Vals.one:∀{x:V} {us:List Value},Vals [x] us->∃u,us=[u]/\RelV x u
 | _,_,.cons r .nil=>⟨_,rfl,r⟩
theorem Vals.zero:∀{us:List Value},Vals [] us->us=[]
 | _,.nil=>rfl
theorem Vals.dropLast {xs:List V} {us:List Value} (h:Vals xs us):Vals xs.dropLast us.dropLast:=by
 induction h with
 | nil=>exact .nil
 | cons r t ih=>
  cases t with
  | nil=>exact .nil
  | cons q t'=>exact .cons r ih
theorem B_ {α:Type} (l:List α):l.eraseIdx (l.length-1)=l.dropLast:=by
 induction l with
 | nil=>rfl
 | cons a r ih=>
  cases r with
  | nil=>rfl
  | cons b r=>
   have e:(a::b::r).length-1=((b::r).length-1)+1:=by
    have h1:(a::b::r).length=r.length+2:=rfl;have h2:(b::r).length=r.length+1:=rfl;lia
   rw [e,List.eraseIdx_cons_succ,ih]
   all_goals rfl
section
variable {X:Cx} {pins:List (Addr×Obj)} {σ:St} {H:Hp} {s:Shared} {l b:Addr} {xs ys zs:List V}
theorem Inv.aDs {its its':List Value} {n:Nat} {f:Array Value->Array Value} {t':Nat} (I:Inv X pins σ H s) (hH:H l=some (.lst xs))
  (e:s.heap.get? l=some {cls:=.type "list",data:=.seq its.toArray n}) (hf:f its.toArray=its'.toArray) (hv:Vals ys its') (hz:ys.length<=sizeLine) :
  Inv X pins σ (upd H l (.lst ys)) {s with heap:=s.heap.update l (Obj.mapSeq f),toks:=t'}:=by
 have q:=PySem.IsL.update e f;rw [hf] at q;refine I.write (x:=l) (e:=l) (by rw [hH];exact trivial) (.inl rfl) (fun b' u hb hu=>(Heap.get?_update_other s.heap (Obj.mapSeq f) (Ne.symm hb)).trans hu) ⟨_,q⟩ ?_;exact ⟨hz,its',_,hv,q⟩
theorem Inv.aFe {its:List Value} {t':Nat} (I:Inv X pins σ H s) (hv:Vals ys its) (hz:ys.length<=sizeLine) :
  Inv X pins σ (upd H s.heap.objs.size (.lst ys)) {s with heap:=s.heap.push {cls:=.type "list",data:=.seq its.toArray},toks:=t'}:=
 I.laid (fun _ _ q=>Heap.get?_push_of_some _ q) (Nat.le_refl _) ⟨hz,its,0,hv,Heap.get?_push_size _ rfl⟩
theorem Inv.fresh (I:Inv X pins σ H s):H s.heap.objs.size=none:=I.hok.fresh (Nat.le_refl _)
theorem Inv.aD3 (I:Inv X pins σ H s) (hH:H l=some (.lst xs)):xs.length<=sizeLine/\∃(its:List Value) (n:Nat),Vals xs its/\xs.length=its.length/\s.heap.get? l=some {cls:=.type "list",data:=.seq its.toArray n}:=by
 obtain ⟨z,its,n,r,e⟩:=I.hok l _ hH;exact ⟨z,its,n,r,r.length,e⟩
theorem P_ {n:Nat} (h:n<=sizeLine):Builtin.List.listTooLong n=false:=by
 unfold Builtin.List.listTooLong;exact decide_eq_false (by lia)
end
section
variable {X:Cx}
noncomputable def V8:V->List V->Hp->VK->Prop:=fun x vs H Q=>∃l xs y,x=.ref l/\vs=[y]/\H l=some (.lst xs)/\xs.length<sizeLine/\Q .non (upd H l (.lst (xs++[y])))
theorem uG:MtM X "list.append" V8:=by
 intro pins s σ H x vs v us Q I rx rv h;obtain ⟨l,xs,y,rfl,rfl,hH,hz,q⟩:=h;cases rx;obtain ⟨u,rfl,ru⟩:=rv.one;obtain ⟨z,its,n,r,hl,e⟩:=I.aD3 hH;refine call_meets F.slot_list_append ⟨_,e,rfl⟩ F.entry_list_append (F.args_list_append_2 _ _) (PySem.list_append l its.toArray n u (by rw [List.size_toArray];lia)) ⟨e,?_⟩;refine ⟨.non,_,I.aDs (its':=its++[u]) hH e (by simp) (r.append (.cons ru .nil)) ?_,rfl,q⟩;rw [List.length_append,List.length_singleton];lia
noncomputable def V9:V->List V->Hp->VK->Prop:=fun x vs H Q=>∃l b xs zs,x=.ref l/\vs=[.ref b]/\H l=some (.lst xs)/\H b=some (.lst zs)/\xs.length+zs.length<=sizeLine/\Q .non (upd H l (.lst (xs++zs)))
theorem HJ:MtM X "list.extend" V9:=by
 intro pins s σ H x vs v us Q I rx rv h;obtain ⟨l,b,xs,zs,rfl,rfl,hH,hB,hz,q⟩:=h;cases rx;obtain ⟨u,rfl,ru⟩:=rv.one;cases ru;obtain ⟨z,its,n,r,hl,e⟩:=I.aD3 hH;obtain ⟨z2,its2,n2,r2,hl2,e2⟩:=I.aD3 hB;have hsz:its.toArray.size+its2.toArray.size<=sizeLine:=by rw [List.size_toArray,List.size_toArray];lia
 have hlong:¬(!its.toArray.isEmpty&&Builtin.List.listTooLong (its.toArray.size+its2.toArray.size))=true:=by
  rw [P_ hsz,Bool.and_false];exact Bool.false_ne_true
 refine call_meets F.slot_list_extend ⟨_,e,rfl⟩ F.entry_list_extend (F.args_list_extend_2 _ _)
  (AutoSeq1.list_extend_list_list_0 l its.toArray n b its2.toArray n2 hlong (by rw [List.size_toArray];lia) (by lia)) ⟨e,e2,?_⟩
 refine ⟨.non,_,I.aDs (its':=its++its2) hH e (by simp) (r.append r2) ?_,rfl,q⟩;rw [List.length_append];lia
noncomputable def aFf:V->List V->Hp->VK->Prop:=fun x vs H Q=>∃l xs y,x=.ref l/\vs=[]/\H l=some (.lst xs)/\xs[xs.length-1]?=some y/\Q y (upd H l (.lst xs.dropLast))
theorem S8:MtM X "list.pop" aFf:=by
 intro pins s σ H x vs v us Q I rx rv h;obtain ⟨l,xs,y,rfl,rfl,hH,hy,q⟩:=h;cases rx;have hus:=rv.zero;subst hus;obtain ⟨z,its,n,r,hl,e⟩:=I.aD3 hH;obtain ⟨u,hu,ru⟩:=r.get hy;have hy':its.toArray[its.toArray.size-1]?=some u:=by
  show its.toArray[its.length-1]?=some u;rw [<-Array.getElem?_toList,<-hl];exact hu
 refine call_meets F.slot_list_pop ⟨_,e,rfl⟩ F.entry_list_pop (F.args_list_pop_1 _) (MeetsSeq.list_pop_last l its.toArray n u hy' (by rw [List.size_toArray];lia)) ⟨e,?_⟩;refine ⟨y,_,I.aDs (its':=its.dropLast) hH e ?_ r.dropLast ?_,ru,q⟩
 ·show its.toArray.eraseIdxIfInBounds (its.toArray.size-1)=its.dropLast.toArray;rw [List.size_toArray,List.eraseIdxIfInBounds_toArray,B_]
 ·rw [List.length_dropLast];lia
end
section
variable {prog:Program} {w:World} {A:Around} {E:Value->Shared->Prop} {s:Shared}
end
section
variable {X:Cx}
end
end L2
namespace L2
open PySem PySem.Spec PyProof.Rows
section
variable {κ:Type} [DecidableEq κ]
noncomputable def rA (kvs:List (κ×V)) (k:κ):Option V:=(kvs.find? fun kv=>decide (kv.1=k)).map (·.2)
noncomputable def putK (kvs:List (κ×V)) (k:κ) (v:V):List (κ×V):=
 if (kvs.any fun kv=>decide (kv.1=k))=true then kvs.map (fun kv=>if kv.1=k then (kv.1,v) else kv) else kvs++[(k,v)]
theorem mV {p:κ×V} {r:List (κ×V)} {k:κ} (e:p.1=k):rA (p::r) k=some p.2:=by simp [rA,List.find?_cons,e]
theorem mW {p:κ×V} {r:List (κ×V)} {k:κ} (e:¬p.1=k):rA (p::r) k=rA r k:=by simp [rA,List.find?_cons,e]
theorem mX (k:κ):∀kvs:List (κ×V),(kvs.any fun kv=>decide (kv.1=k))=(rA kvs k).isSome
 | []=>rfl
 | p::r=>by
  rw [List.any_cons];by_cases e:p.1=k
  ·simp only [mV e,decide_eq_true e,Bool.true_or,Option.isSome_some]
  ·rw [mW e,decide_eq_false e,Bool.false_or];exact mX k r
theorem lY (kvs:List (κ×V)) (k:κ) (v:V):(putK kvs k v).length<=kvs.length+1:=by
 unfold putK;split
 ·rw [List.length_map];lia
 ·rw [List.length_append,List.length_cons,List.length_nil];lia
theorem QB {kvs:List (κ×V)} {k:κ} (v:V) (h:rA kvs k=none):putK kvs k v=kvs++[(k,v)]:=by
 unfold putK;rw [mX,h];exact if_neg (by decide)
theorem O6.j8 {o:Option V} {u:Option Value} (r:O6 o u):o.isSome=u.isSome:=by
 cases o with
 | none=>cases u with
  | none=>rfl
  | some _=>exact (show False from r).elim
 | some _=>cases u with
  | none=>exact (show False from r).elim
  | some _=>rfl
theorem KV.val {kvs:List (κ×V)} {vs:List (κ×Value)} (r:KV kvs vs) (k:κ):O6 (rA kvs k) (valueAt vs k):=by
 unfold KV at r;induction r with
 | nil=>exact True.intro
 | @cons p q ps qs h t ih=>
  obtain ⟨h1,h2⟩:=h;by_cases e:p.1=k
  ·have e':q.1=k:=h1.symm.trans e;have b:valueAt (q::qs) k=some q.2:=by simp [valueAt,List.find?_cons,e']
   rw [mV e,b];exact h2
  ·have e':¬q.1=k:=fun z=>e (h1.trans z)
   have b:valueAt (q::qs) k=valueAt qs k:=by simp [valueAt,List.find?_cons,e']
   rw [mW e,b];exact ih
theorem KV.any {kvs:List (κ×V)} {vs:List (κ×Value)} (r:KV kvs vs) (k:κ):(kvs.any fun kv=>decide (kv.1=k))=vs.any fun kv=>decide (kv.1=k):=by
 unfold KV at r;induction r with
 | nil=>rfl
 | cons h t ih=>rw [List.any_cons,List.any_cons,ih,h.1]
theorem KV.repl {kvs:List (κ×V)} {vs:List (κ×Value)} (r:KV kvs vs) (k:κ) {y:V} {u:Value} (ry:RelV y u) :
  KV (kvs.map fun kv=>if kv.1=k then (kv.1,y) else kv) (vs.map fun kv=>if kv.1=k then (kv.1,u) else kv):=by
 unfold KV at r ⊢;induction r with
 | nil=>exact .nil
 | @cons p q ps qs h t ih=>
  rw [List.map_cons,List.map_cons];refine .cons ?_ ih;obtain ⟨h1,h2⟩:=h;by_cases e:p.1=k
  ·rw [if_pos e,if_pos (h1.symm.trans e)];exact ⟨h1,ry⟩
  ·rw [if_neg e,if_neg (fun z=>e (h1.trans z))];exact ⟨h1,h2⟩
theorem KV.put {kvs:List (κ×V)} {vs:List (κ×Value)} (r:KV kvs vs) (k:κ) {y:V} {u:Value} (ry:RelV y u):KV (putK kvs k y) (stored vs k u):=by
 unfold putK stored;rw [r.any k];by_cases e:(vs.any fun kv=>decide (kv.1=k))=true
 ·rw [if_pos e,if_pos e];exact r.repl k ry
 ·rw [if_neg e,if_neg e];exact Paired.snoc r ⟨rfl,ry⟩
theorem KV.length {kvs:List (κ×V)} {vs:List (κ×Value)} (r:KV kvs vs):kvs.length=vs.length:=Paired.length r
end
theorem uH {P:Program} {w:World} {k:Key} {u:Value} (r:RelV (kV k) u):(cT P w).is k u=true:=by
 cases k with
 | inl i=>obtain ⟨t,e⟩:=(show ∃t,u=Value.int i t from r);subst e;exact wB P w i t
 | inr x=>obtain ⟨t,e⟩:=(show ∃t,u=Value.str x t from r);subst e;exact wC P w x t
theorem uI {P:Program} {w:World}:∀{ks:List Key} {us:List Value},Vals (ks.map kV) us->ItemsAre (cT P w) ks us
 | [],_,r=>by rw [List.map_nil] at r;cases r;exact .nil
 | k::ks,_,r=>by
  rw [List.map_cons] at r;cases r with
  | cons h t=>exact .cons (uH h) (uI t)
noncomputable abbrev KT (H:Hp):List (List Key×V)->List (List Key×Addr×Value)->Prop:=Paired fun p q=>p.1=q.1/\H q.2.1=some (.tup (p.1.map kV))/\RelV p.2 q.2.2
theorem KT.val {H:Hp} {kvs:List (List Key×V)} {xs:List (List Key×Addr×Value)} (r:KT H kvs xs) (k:List Key):O6 (rA kvs k) ((atKey xs k).map (·.2)):=by
 induction r with
 | nil=>exact True.intro
 | @cons p q ps qs h t ih=>
  obtain ⟨h1,_,h2⟩:=h;by_cases e:p.1=k
  ·have e':q.1=k:=h1.symm.trans e;have b:atKey (q::qs) k=some q.2:=by simp [atKey,List.find?_cons,e']
   rw [mV e,b];exact h2
  ·have e':¬q.1=k:=fun z=>e (h1.trans z)
   have b:atKey (q::qs) k=atKey qs k:=by simp [atKey,List.find?_cons,e']
   rw [mW e,b];exact ih
theorem KT.repl {H:Hp} {kvs:List (List Key×V)} {xs:List (List Key×Addr×Value)} (r:KT H kvs xs) (k:List Key) {y:V} {u:Value} (ry:RelV y u) :
  KT H (kvs.map fun kv=>if kv.1=k then (kv.1,y) else kv) (xs.map (putAt k u)):=by
 induction r with
 | nil=>exact .nil
 | @cons p q ps qs h t ih=>
  rw [List.map_cons,List.map_cons];refine .cons ?_ ih;obtain ⟨h1,h2,h3⟩:=h;unfold putAt;by_cases e:p.1=k
  ·rw [if_pos e,if_pos (h1.symm.trans e)];exact ⟨h1,h2,ry⟩
  ·rw [if_neg e,if_neg (fun z=>e (h1.trans z))];exact ⟨h1,h2,h3⟩
theorem KT.put {H:Hp} {kvs:List (List Key×V)} {xs:List (List Key×Addr×Value)} (r:KT H kvs xs) (k:List Key) {b:Addr} {y:V} {u:Value} (hb:H b=some (.tup (k.map kV))) (ry:RelV y u) :
  KT H (putK kvs k y) (storedH xs k b u):=by
 have e:(kvs.any fun kv=>decide (kv.1=k))=(atKey xs k).isSome:=by
  rw [mX,(r.val k).j8,Option.isSome_map]
 unfold putK storedH;rw [e];by_cases q:(atKey xs k).isSome=true
 ·rw [if_pos q,if_pos q];exact r.repl k ry
 ·rw [if_neg q,if_neg q];exact Paired.snoc r ⟨rfl,hb,ry⟩
theorem KT.keeps {H H':Hp} {kvs:List (List Key×V)} {xs:List (List Key×Addr×Value)} (r:KT H kvs xs) (ht:∀b ys,H b=some (.tup ys)->H' b=some (.tup ys)):KT H' kvs xs:=
 Paired.aDa r fun _ _ z=>⟨z.1,ht _ _ z.2.1,z.2.2⟩
section
variable {P:Program} {w:World} {H:Hp} {h:Heap} {a:Addr}
theorem aAh {u:HO} (ok:HOk P w H h) (e:Rd H a u):iR P w H h a u:=e.ok ok
theorem CG {kvs:List (Key×V)} (ok:HOk P w H h) (e:Rd H a (.dK kvs)):kvs.length<=sizeLine/\(a==sysModules)=false/\∃vs,KV kvs vs/\h.DictOf (cT P w) a vs:=
 show iR P w H h a (.dK kvs) from aAh ok e
theorem QC {kvs:List (Key×V)} (ok:HOk P w H h) (e:H a=some (.dK kvs)):kvs.length<=sizeLine/\(a==sysModules)=false/\∃vs,KV kvs vs/\h.DictOf (cT P w) a vs:=CG ok (.inl e)
theorem uJ {ks:List Key} (ok:HOk P w H h) (e:H a=some (.tup (ks.map kV))):(tupleKind (cT P w)).is h ks a:=by
 obtain ⟨_,its,r,o,h1,h2,n,h3⟩:=(show iR P w H h a (.tup (ks.map kV)) from ok a _ e)
 exact ⟨o,its.toArray,n,h1,h2,congrArg (·.1) h3,by simpa using uI r⟩
theorem HN {kvs:List (List Key×V)} (ok:HOk P w H h) (e:Rd H a (.dT kvs)):kvs.length<=sizeLine/\(a==sysModules)=false/\
  ∃xs,KT H kvs xs/\h.DictOfH (tupleKind (cT P w)) a xs:=by
 obtain ⟨z,y,xs,r,o,es,ep,h1,h2,h3,h4,h5⟩:=(show iR P w H h a (.dT kvs) from aAh ok e)
 refine ⟨z,y,xs,r,o,es,ep,h1,h2,h3,h4,fun x hx=>?_,h5⟩;have all:∀{l:List (List Key×V)} {m:List (List Key×Addr×Value)},KT H l m->∀x∈m,(tupleKind (cT P w)).is h x.1 x.2.1:=by
  intro l m q;induction q with
  | nil=>intro x hx;exact nomatch hx
  | @cons p q ps qs hq t ih=>
   intro x hx;rcases List.mem_cons.mp hx with e|hx
   ·subst e;exact uJ ok (by rw [<-hq.1];exact hq.2.1)
   ·exact ih x hx
 exact all r x hx
theorem V_ {kvs:List (List Key×V)} (ok:HOk P w H h) (e:H a=some (.dT kvs)):kvs.length<=sizeLine/\(a==sysModules)=false/\
  ∃xs,KT H kvs xs/\h.DictOfH (tupleKind (cT P w)) a xs:=HN ok (.inl e)
end
noncomputable def HQ (H:Hp) (a:Addr) (y:V) (r:Option V):Prop:=
 (∃kvs k,Rd H a (.dK kvs)/\y=kV k/\r=rA kvs k)\/∃kvs k b,Rd H a (.dT kvs)/\y=.ref b/\H b=some (.tup (k.map kV))/\r=rA kvs k
noncomputable def S9 (H:Hp) (a:Addr) (y v:V) (H':Hp):Prop:=
 (∃kvs k,H a=some (.dK kvs)/\y=kV k/\kvs.length<sizeLine/\H'=upd H a (.dK (putK kvs k v)))\/
 ∃kvs k b,H a=some (.dT kvs)/\y=.ref b/\H b=some (.tup (k.map kV))/\kvs.length<sizeLine/\H'=upd H a (.dT (putK kvs k v))
theorem HQ.k {H:Hp} {a:Addr} {kvs:List (Key×V)} {k:Key} (e:H a=some (.dK kvs)):HQ H a (kV k) (rA kvs k):=.inl ⟨kvs,k,.inl e,rfl,rfl⟩
theorem HQ.t {H:Hp} {a b:Addr} {kvs:List (List Key×V)} {k:List Key} (e:H a=some (.dT kvs)) (eb:H b=some (.tup (k.map kV))):HQ H a (.ref b) (rA kvs k):=.inr ⟨kvs,k,b,.inl e,rfl,eb,rfl⟩
theorem S9.k {H:Hp} {a:Addr} {kvs:List (Key×V)} {k:Key} {v:V} (e:H a=some (.dK kvs)) (hl:kvs.length<sizeLine):S9 H a (kV k) v (upd H a (.dK (putK kvs k v))):=.inl ⟨kvs,k,e,rfl,hl,rfl⟩
theorem S9.t {H:Hp} {a b:Addr} {kvs:List (List Key×V)} {k:List Key} {v:V} (e:H a=some (.dT kvs)) (eb:H b=some (.tup (k.map kV))) (hl:kvs.length<sizeLine) :
  S9 H a (.ref b) v (upd H a (.dT (putK kvs k v))):=.inr ⟨kvs,k,b,e,rfl,eb,hl,rfl⟩
section
variable {X:Cx} {pins:List (Addr×Obj)} {σ:St} {H:Hp} {s:Shared} {a:Addr} {y v:V} {u r:Value} {o:Option V} {A:Around} {E:Value->Shared->Prop}
theorem Inv.big (I:Inv X pins σ H s):sysModules<s.heap.objs.size:=by
 have h:mainGlobals<s.heap.objs.size:=(I.mod.glob.keeps I.bk).lt;exact Nat.lt_trans (by decide) h
theorem HR {Q:Value->Shared->Prop} (hu:A.units+1<cLine) (I:Inv X pins σ H s) (g:HQ H a y (some v)) (ry:RelV y u) (h:∀w' s',Inv X pins σ H s'->RelV v w'->Q w' s') :
  wpAny (model X.prog X.w) A (getItem (.ref a) u) Q E s:=by
 rcases g with ⟨kvs,k,e,ey,l⟩|⟨kvs,k,b,e,ey,eb,l⟩
 ·subst ey;obtain ⟨z,hd,vs,rel,dd⟩:=CG I.hok e;obtain ⟨w',hw,rw'⟩:=O6.some_of (v:=v) (o:=valueAt vs k) (by rw [l];exact rel.val k);exact wpAny_getItem_of (uH ry) dd.mapOf hw (h w' _ (I.tok _) rw')
 ·subst ey;cases (show u=Value.ref b from ry);obtain ⟨z,hd,xs,rel,dd⟩:=HN I.hok e;obtain ⟨w',hw,rw'⟩:=O6.some_of (v:=v) (o:=(atKey xs k).map (·.2)) (by rw [l];exact rel.val k);obtain ⟨p,hp,hp2⟩:=Option.map_eq_some_iff.mp hw;refine wpAny_getItem_heap (tupleKind_room_in1 hu) (uJ I.hok eb) dd hp ?_;rw [hp2];exact h w' _ (I.tok _) rw'
theorem aFg {Q:Value->Shared->Prop} (hu:A.units+1<cLine) (I:Inv X pins σ H s) (g:HQ H a y o) (ry:RelV y u) (h:∀s',Inv X pins σ H s'->Q (.bool o.isSome) s') :
  wpAny (model X.prog X.w) A (compareOp .In u (.ref a)) Q E s:=by
 rcases g with ⟨kvs,k,e,ey,l⟩|⟨kvs,k,b,e,ey,eb,l⟩
 ·subst ey;obtain ⟨z,hd,vs,rel,dd⟩:=CG I.hok e;refine wpAny_in_of (uH ry) hd dd.mapOf ?_;rw [<-(rel.val k).j8,<-l];exact h _ (I.tok _)
 ·subst ey;cases (show u=Value.ref b from ry);obtain ⟨z,hd,xs,rel,dd⟩:=HN I.hok e;refine wpAny_in_heap (tupleKind_room_in1 hu) (uJ I.hok eb) hd dd ?_;have q:=(rel.val k).j8;rw [Option.isSome_map] at q;rw [<-q,<-l];exact h _ (I.tok _)
theorem WD {Q:Value->Shared->Prop} (hu:A.units+1<cLine) (I:Inv X pins σ H s) (g:HQ H a y o) (ry:RelV y u) (h:∀s',Inv X pins σ H s'->Q (.bool (!o.isSome)) s') :
  wpAny (model X.prog X.w) A (compareOp .NotIn u (.ref a)) Q E s:=by
 rcases g with ⟨kvs,k,e,ey,l⟩|⟨kvs,k,b,e,ey,eb,l⟩
 ·subst ey;obtain ⟨z,hd,vs,rel,dd⟩:=CG I.hok e;refine wpAny_notIn_of (uH ry) hd dd.mapOf ?_;rw [<-(rel.val k).j8,<-l];exact h _ (I.tok _)
 ·subst ey;cases (show u=Value.ref b from ry);obtain ⟨z,hd,xs,rel,dd⟩:=HN I.hok e;refine wpAny_notIn_heap (tupleKind_room_in1 hu) (uJ I.hok eb) hd dd ?_;have q:=(rel.val k).j8;rw [Option.isSome_map] at q;rw [<-q,<-l];exact h _ (I.tok _)
theorem wK {h':Heap} {t':Nat} {ob:HO} (I:Inv X pins σ H s) (mu:Mut (H a)) (hs:Heap.SameBut a s.heap h') (he:∃q,h'.get? a=some q) (new:iR X.prog X.w (upd H a ob) h' a ob) :
  Inv X pins σ (upd H a ob) {s with heap:=h',toks:=t'}:=
 I.write (x:=a) (e:=a) mu (.inl rfl) (fun b q hb z=>(hs.2 b hb).trans z) he new
theorem yI {P:Program} {w:World} {H':Hp} {h':Heap} {kvs:List (Key×V)} {vs:List (Key×Value)} (z:kvs.length<=sizeLine) (hd:(a==sysModules)=false) (rel:KV kvs vs) (dd:h'.DictOf (cT P w) a vs) :
  iR P w H' h' a (.dK kvs):=⟨z,hd,vs,rel,dd⟩
theorem uK {H':Hp} {Q:Unit->Shared->Prop} (hu:A.units+1<cLine) (I:Inv X pins σ H s) (g:S9 H a y v H') (ry:RelV y u) (rv:RelV v r) (h:∀s',Inv X pins σ H' s'->Q () s') :
  wpAny (model X.prog X.w) A (setItem (.ref a) u r) Q E s:=by
 rcases g with ⟨kvs,k,e,ey,l,eH⟩|⟨kvs,k,b,e,ey,eb,l,eH⟩
 ·subst ey eH;obtain ⟨z,hd,vs,rel,dd⟩:=QC I.hok e;have hz:vs.length<=sizeLine:=by rw [<-rel.length];exact z
  have hl:(putK kvs k v).length<=sizeLine:=by have:=lY kvs k v;lia
  refine wpAny_setItem_pairs (hsz:=hz) (uH ry) dd fun h' dd' hs=>h _ ?_
  have he:∃q,h'.get? a=some q:=let ⟨q,_,_,hq,_⟩:=dd';⟨q,hq⟩
  exact wK I (by rw [e];exact True.intro) hs he (yI hl hd (rel.put k rv) dd')
 ·subst ey eH;cases (show u=Value.ref b from ry);obtain ⟨z,hd,xs,rel,dd⟩:=V_ I.hok e;have hz:xs.length<=sizeLine:=by rw [<-Paired.length rel];exact z
  have hl:(putK kvs k v).length<=sizeLine:=by have:=lY kvs k v;lia
  refine wpAny_setItem_heap (hsz:=hz) (tupleKind_room_in1 hu) (uJ I.hok eb) dd fun h' dd' hs=>h _ ?_
  obtain ⟨q,es,ep,hq,h2,h3,h4,_,h5⟩:=dd';refine wK I (by rw [e];exact True.intro) hs ⟨q,hq⟩ ⟨hl,hd,_,(rel.put k eb rv).keeps fun c ys ec=>?_,q,es,ep,hq,h2,h3,h4,h5⟩;rw [bO (VG ec e (fun z=>nomatch z))];exact ec
end
section
variable {X:Cx} {pins:List (Addr×Obj)} {σ:St} {H:Hp} {s:Shared} {a:Addr} {kvs:List (Key×V)} {k:Key} {u:Value} {A:Around} {E:Value->Shared->Prop}
end
theorem wL {X:Cx} {pins:List (Addr×Obj)} {σ:St} {H:Hp} {s:Shared} {a:Addr} {y:V} {o:Option V} (I:Inv X pins σ H s) (g:HQ H a y o):s.TypeIs (.ref a) "dict":=by
 rcases g with ⟨kvs,k,e,_,_⟩|⟨kvs,k,b,e,_,_,_⟩
 ·obtain ⟨_,_,vs,_,dd⟩:=CG I.hok e;exact dd.typeIs
 ·obtain ⟨_,_,xs,_,dd⟩:=HN I.hok e;exact dd.typeIs
section
variable {X:Cx} {o i e value:Expr} {pos pos' tpos:Pos} {td ty tv:TE}
end
theorem yJ {P:Program} {w:World} {H:Hp} (h:Heap) (hb:sysModules<h.objs.size):iR P w H (h.push {cls:=.type "dict",data:=.dict #[]}) h.objs.size (.dK []):=
 ⟨Nat.zero_le _,beq_eq_false_iff_ne.mpr (Ne.symm (Nat.ne_of_lt hb)),[],.nil,Heap.DictOf.new h⟩
def aAi:TE:=fun _ H Q=>∀p,H p=none->Q (.ref p) (upd H p (.dK []))
section
variable {X:Cx} {pos:Pos}
theorem QD:PE X (.Dict [] [] pos) aAi:=fun pins s σ H Q I h=>
 wpAny_Dict_empty ⟨.ref s.heap.objs.size,_,I.laid (a:=s.heap.objs.size) (o:=.dK []) (t':=s.toks) (fun _ _ q=>Heap.get?_push_of_some _ q) (Nat.le_refl _) (yJ s.heap I.big),rfl,h _ (I.hok.fresh (Nat.le_refl _))⟩
end
noncomputable def HS:List (TE×TE)->St->Hp->(List (V×V)->Hp->Prop)->Prop
 | [],_,H,Q=>Q [] H
 | (tk,tv)::r,σ,H,Q=>tk σ H fun x H1=>tv σ H1 fun y H2=>HS r σ H2 fun ps H3=>Q ((x,y)::ps) H3
noncomputable abbrev VV:List (V×V)->List (Value×Value)->Prop:=Paired fun p q=>RelV p.1 q.1/\RelV p.2 q.2
noncomputable def PPs (X:Cx) (pos:Pos) (keys:List (Option Expr)) (values:List Expr) (trs:List (TE×TE)):Prop:=
 ∀(pins:List (Addr×Obj)) (s:Shared) (σ:St) (H:Hp) (Q:List (V×V)->Hp->Prop),Inv X pins σ H s->HS trs σ H Q->
  wpAny (model X.prog X.w) X.A (evalPairs (pairTrees keys values X.env pos)) (fun vs s'=>∃ps H',Inv X pins σ H' s'/\VV ps vs/\Q ps H') X.xe s
theorem WF {X:Cx} {pos:Pos}:PPs X pos [] [] []:=fun pins s σ H Q I h=>pairTrees_nil_walk ⟨[],H,I,.nil,h⟩
theorem yK {X:Cx} {pos:Pos} {k v:Expr} {ks:List (Option Expr)} {vs:List Expr} {tk tv:TE} {trs:List (TE×TE)} (hk:PE X k tk) (hv:PE X v tv) (hr:PPs X pos ks vs trs) :
  PPs X pos (some k::ks) (v::vs) ((tk,tv)::trs):=fun pins s σ H Q I h=>
 pairTrees_cons_walk (thn (hk pins s σ H _ I h) fun u s1 ⟨x,H1,I1,rx,q1⟩=>thn (hv pins s1 σ H1 _ I1 q1) fun w2 s2 ⟨y,H2,I2,ry,q2⟩=>
  thn (hr pins s2 σ H2 _ I2 q2) fun ws s3 ⟨ps,H3,I3,rel,q3⟩=>⟨(x,y)::ps,H3,I3,.cons ⟨rx,ry⟩ rel,q3⟩)
noncomputable def gU (kvs more:List (Key×V)):List (Key×V):=more.foldl (fun acc kv=>putK acc kv.1 kv.2) kvs
theorem KV.merge:∀{more:List (Key×V)} {rs:List (Key×Value)} {kvs:List (Key×V)} {vs:List (Key×Value)},KV more rs->KV kvs vs->KV (gU kvs more) (merged vs rs):=by
 intro more rs kvs vs r;unfold KV at r;induction r generalizing kvs vs with
 | nil=>intro q;exact q
 | @cons p q ps qs h t ih=>
  intro r0;have e:KV (putK kvs p.1 p.2) (stored vs q.1 q.2):=by
   have:=r0.put p.1 h.2;rw [<-h.1];exact this
  exact ih e
theorem jH:∀(more kvs:List (Key×V)),(gU kvs more).length<=kvs.length+more.length
 | [],kvs=>by show kvs.length<=kvs.length+0;lia
 | p::r,kvs=>by
  have h1:=jH r (putK kvs p.1 p.2);have h2:=lY kvs p.1 p.2;show (gU (putK kvs p.1 p.2) r).length<=_;rw [List.length_cons];lia
theorem rB {P:Program} {w:World}:∀{kvs:List (Key×V)} {ws:List (Value×Value)},VV (kvs.map fun kv=>(kV kv.1,kv.2)) ws->∃rs,Carries (cT P w) ws rs/\KV kvs rs
 | [],_,r=>by rw [List.map_nil] at r;cases r;exact ⟨[],True.intro,.nil⟩
 | p::kvs,_,r=>by
  rw [List.map_cons] at r;cases r with
  | @cons a b as bs h t=>
   obtain ⟨rs,c,q⟩:=rB (P:=P) (w:=w) t;obtain ⟨b1,b2⟩:=b;exact ⟨(p.1,b2)::rs,⟨uH h.1,rfl,c⟩,.cons ⟨rfl,h.2⟩ q⟩
noncomputable def aDt (trs:List (TE×TE)):TE:=fun σ H Q=>∀p,H p=none->HS trs σ (upd H p (.dK [])) fun ps H2=>H2 p=some (.dK [])/\∃kvs:List (Key×V),ps=kvs.map (fun kv=>(kV kv.1,kv.2))/\kvs.length<=15/\Q (.ref p) (upd H2 p (.dK (gU [] kvs)))
theorem WK {X:Cx} {pos:Pos} {keys:List (Option Expr)} {values:List Expr} {trs:List (TE×TE)} (h:PPs X pos keys values trs) (hall:keys.all (·.isSome)=true) (hl:keys.length=values.length) (h0:keys≠[])
  (h15:keys.length<=15):PE X (.Dict keys values pos) (aDt trs):=by
 intro pins s σ H Q I q;have hn:=I.hok.fresh (Nat.le_refl s.heap.objs.size);have I1:=I.laid (a:=s.heap.objs.size) (o:=.dK []) (h':=s.heap.push {cls:=.type "dict",data:=.dict #[]}) (t':=s.toks) (fun _ _ q=>Heap.get?_push_of_some _ q) (Nat.le_refl _) (yJ s.heap I.big);refine wpAny_Dict_walk (knd:=cT X.prog X.w) hall hl h0 h15 (thn (h pins _ σ _ _ I1 (q _ hn)) fun ws s2 ⟨ps,H2,I2,rel,e,kvs,ep,lk,q2⟩=>?_);subst ep;obtain ⟨rs,c,rk⟩:=rB (P:=X.prog) (w:=X.w) rel;obtain ⟨z,hd,vs0,r0,dd⟩:=QC I2.hok e;cases r0;refine ⟨rs,c,dd,fun h' dd' hs=>⟨.ref s.heap.objs.size,_,?_,rfl,q2⟩⟩;have hz:(gU [] kvs).length<=sizeLine:=by
  have h1:=jH kvs [];rw [List.length_nil] at h1;rw [sizeLine_eq];lia
 have he:∃q,h'.get? s.heap.objs.size=some q:=let ⟨q,_,_,hq,_⟩:=dd';⟨q,hq⟩
 exact wK I2 (by rw [e];exact True.intro) hs he (yI hz hd (rk.merge .nil) dd')
section
variable {X:Cx} {pins:List (Addr×Obj)} {σ:St} {H:Hp} {s:Shared} {a:Addr} {y d:V} {u r:Value} {o:Option V} {A:Around} {E:Value->Shared->Prop}
end
section
variable {X:Cx} {o e f:Expr} {apos cpos:Pos} {td ty tx:TE}
end
section
variable {X:Cx} {pins:List (Addr×Obj)} {σ:St} {H:Hp} {s:Shared} {a:Addr} {kvs:List (Key×V)} {A:Around} {E:Value->Shared->Prop}
theorem QF {Q:Value->Shared->Prop} (I:Inv X pins σ H s) (e:Rd H a (.dK kvs)) (h:∀p s',H p=none->Inv X pins σ (upd H p (.dK kvs)) s'->Q (.ref p) s'):wpAny (model X.prog X.w) A (call (.type "dict") [.ref a]) Q E s:=by
 obtain ⟨z,hd,vs,rel,dd⟩:=CG I.hok e;refine kt_call_dict hd dd (by rw [<-rel.length];exact z) fun h' dd' hs=>?_
 refine h _ _ (I.hok.fresh (Nat.le_refl _)) (I.laid (a:=s.heap.objs.size) (o:=.dK kvs) (t':=s.toks) (fun b q hq=>?_) (Nat.le_refl _) (yI z (beq_eq_false_iff_ne.mpr (Ne.symm (Nat.ne_of_lt I.big))) rel dd'));exact (hs.2 b (Nat.ne_of_lt (Heap.lt_size hq))).trans (Heap.get?_push_of_some _ hq)
end
section
variable {X:Cx} {pins:List (Addr×Obj)} {σ:St} {H:Hp} {s:Shared} {a:Addr} {y:V} {u:Value} {A:Around} {E:Value->Shared->Prop}
end
end L2
namespace Att
open PySem PySem.W PySem.Calls PyProof.Rows
theorem pB {P:Params} {h:Heap}:∀(ns:List Int) (vs:List Value),WellAll P h vs (ns.map WData.int)->IntsAre vs ns:=by
 intro ns;induction ns with
 | nil=>
  intro vs w;rw [List.map_nil] at w;cases w;exact .nil
 | cons n ns ih=>
  intro vs w;rw [List.map_cons] at w;cases w with
  | cons a b=>
   cases a;exact .cons _ _ (ih _ b)
theorem HW {l:OpenLaw} {n:Nat} (hn:l.most=some n) {P:Params} {h:Heap} {args:List WData} {vals:List Value}
  (hpre:l.row.toRowW.claim.pre args=true) (hwl:WellAll P h vals args) :
  ∃a vs ns,vals=[Value.ref a]/\args=[WData.list (ns.map WData.int)]/\h.get? a=some {cls:=.type "list",data:=.seq vs.toArray}/\IntsAre vs ns/\ns.length<=n:=by
 have hsh:WShape.hasAll [] args [.list .int]=true:=(pre_splitW hpre).1;have hc:l.pre.holds [] {args:=args}=true:=(pre_splitW hpre).2;obtain ⟨d,r,rfl,h1,h2⟩:=hasAllW_cons hsh;obtain rfl:=hasAllW_nil h2;obtain ⟨xs,rfl,h3⟩:=hasW_list h1;obtain ⟨ns,rfl⟩:=items_int h3;have hlen:ns.length<=n:=by
  unfold OpenLaw.pre at hc;have h4:(WTm.not (.lt (.lit (.int (n:Int))) (.len (.arg 0)))).holds [] {args:=[.list (ns.map .int)]}=true:=by
   have h4:=(holds_andW hc).1;rw [hn] at h4;exact h4
  have h5:=condW_of h4 (w_not (w_lt w_lit (w_len_list (w_arg rfl))));rw [List.length_map] at h5;refine Nat.le_of_not_lt fun q=>?_
  have q':(n:Int)<((ns.length:Nat):Int):=by lia
  first
   | (rw [decide_eq_true q'] at h5;exact absurd h5 (by decide))
   | (simp at h5;lia)
 cases hwl with
 | cons w1 w2=>
  cases w2;cases w1 with
  | list ho hall=>exact ⟨_,_,ns,rfl,rfl,ho,pB ns _ hall,hlen⟩
theorem HX (l:OpenLaw) (args:List WData):l.row.toRowW.claim.post args (.bool true) args=true:=
 postW_of (r:=l.row.toRowW) (X:=(true==true))
  (show WShape.has [] (.bool true) .bool=true by first|rfl|decide|simp [WShape.has,WShape.arms,WShape.armsAll])
  (show (WTm.eq .res (.lit (.bool true))).value [] {args:=args,res:=some (.bool true),after:=args}=some (.bool (true==true)) from w_eq_bool (w_res rfl) w_lit) rfl
theorem wM {l:OpenLaw} {n:Nat} {q:Program} {loose:List Str} {XP:(Str->Option Value)->Heap->Prop} {YP:World->Heap->Prop} {d:DefRec}
  (hn:l.most=some n) (hdf:d.params.defaults=[])
  (call:∀(w:World) (s₀ s₁:Shared) (mg mb:Str->Option Value) (fa:Addr) (o:Obj) (pm cd doc:Value) (a:Addr) (vs:List Value) (ns:List Int),
   Ground q loose [] XP w s₀ mg mb s₁.heap->YP w s₁.heap->
   s₁.heap.get? fa=some o->o.data=.func (docDef d.name d.params d.body d.scope pm cd doc)->s₁.heap.CodeRec cd d.name->mg d.name=some (.ref fa)->
   s₁.heap.get? a=some {cls:=.type "list",data:=.seq vs.toArray}->IntsAre vs ns->ns.length<=n->s₁.gens=#[]->
   codeAny (model l.prog w) callerA (.call (.ref fa) ⟨[.ref a],[]⟩) (fun r s'=>r=.ok (.ret (.bool true))/\OldK s₁.heap s'.heap/\s'.os=s₁.os/\AllBare s'.gens) s₁) :
  WalkO q loose XP YP l.row.toRowW d [] (fun f vs=>PySem.call f vs):=by
 intro w s₀ s₁ mg mb G Y fa o pm cd doc dV kV ho hd hcd hD hmg hg args vals as hpre hlay hrd hwl hlo;obtain rfl:dV=.none:=Dflts.none hD hdf;obtain rfl:kV=.none:=Dflts.noKw hD;obtain ⟨a,vs,ns,rfl,rfl,hobj,hints,hlen⟩:=HW hn hpre hwl;refine enter_call (codeAny_mono (call w s₀ s₁ mg mb fa o pm cd doc a vs ns G Y ho (fd_plain hd) hcd hmg hobj hints hlen hg) fun r s' hq=>?_);obtain ⟨rfl,h2,h3,h4⟩:=hq;exact ⟨.inl ⟨.bool true,.bool true,[],rfl,fun _=>rfl,.bool true,HX l _,fun _=>⟨List.Pairwise.nil,fun _ hm=>(nomatch hm)⟩⟩,h2,h3,h4⟩
section
variable {prog:Program} {w:World} {A:Around} {E:Value->Shared->Prop} {s:Shared} {K:Frag}
end
end Att
namespace L2
open PySem PySem.Spec PyProof.Rows
theorem uL:∀{vs:List Value} {ns:List Int},IntsAre vs ns->Vals (ns.map V.int) vs
 | _,_,.nil=>.nil
 | _,_,.cons n t h=>.cons ⟨t,rfl⟩ (uL h)
def Only (H:Hp):Prop:=∀b,H b=none\/∃o xs,H b=some (.frz o (.lst xs))
theorem QG {P:Program} {w:World} {K:PySem.W.Frag} {mg mb:Str->Option Value} {CX:CXT} {k:Nat} {fa a:Addr} {fd:FuncData} {x:Str} {sp:Sp} {s₁:Shared} {vs:List Value} {ns:List Int}
  (KX:K.In s₁.heap) (hns:s₁.heap.Ns mainGlobals mg) (hb:s₁.heap.Ns builtinsNs mb) (hbb:∀x:Str,x ≠ "__name__"->mb x=bootBuiltins x) (hlim:s₁.heap.NoLimit) (hg:s₁.gens=#[])
  (ha:s₁.heap.get? a=some {cls:=.type "list",data:=.seq vs.toArray}) (hi:IntsAre vs ns) (hl:ns.length<=sizeLine) (hr:mQ k callerA)
  (F:∀base:Heap,K.In base->base.Ns mainGlobals mg->v9 P w K mg base CX k fa fd [x] sp) (hbind:∀(s:Shared) (u:Value),BindsTo s fd ⟨[u],[]⟩ [(x,u)])
  (hsp:∀H:Hp,Only H->SqL K H a (ns.map V.int)->sp [.ref a] H (fun v _=>v=.bl true) fun _ _ _=>False)
  (hCX:∀H e s',CX [] H s₁ (fun _ _ _=>False) e s'->False) :
  codeAny (model P w) callerA (.call (.ref fa) ⟨[.ref a],[]⟩) (fun r s'=>r=.ok (.ret (.bool true))/\OldK s₁.heap s'.heap/\s'.os=s₁.os/\AllBare s'.gens) s₁:=by
 have rv:=uL hi;have lenV:=hi.length
 -- from an abstract heap in which nothing but the script may be tracked
 have core:∀H:Hp,Only H->SqL K H a (ns.map V.int)->HOk P w H s₁.heap->(∀b,H b≠none->b=a)->(H a≠none->K.lookup a=none)->
   codeAny (model P w) callerA (.call (.ref fa) ⟨[.ref a],[]⟩) (fun r s'=>r=.ok (.ret (.bool true))/\OldK s₁.heap s'.heap/\s'.os=s₁.os/\AllBare s'.gens) s₁:=by
  intro H hO hS hok hA hK;have base_of:∀{b:Addr} {o:Obj},s₁.heap.get? b=some o->H b=none->(O_ s₁.heap H).get? b=some o:=fun e n=>PB e n
  have noA:∀{b:Addr} {o:Obj} {es:Array DictEntry} {ep:Nat},s₁.heap.get? b=some o->o.data=.dict es ep->H b=none:=fun {b o es ep} e d=>by
   cases q:H b with
   | none=>rfl
   | some u=>
    have e':b=a:=hA b (by rw [q];simp);subst e';rw [ha] at e;cases e;have d':Data.seq vs.toArray _=Data.dict es ep:=d;cases d'
  have nsK:∀{b:Addr} {m:Str->Option Value},s₁.heap.Ns b m->(O_ s₁.heap H).Ns b m:=fun {b m} ⟨o,es,ep,e,d,r⟩=>⟨o,es,ep,base_of e (noA e d),d,r⟩
  have hKb:K.In (O_ s₁.heap H):=fun b o e=>base_of (KX b o e) (by
   cases q:H b with
   | none=>rfl
   | some u=>
    have e':b=a:=hA b (by rw [q];simp);subst e';rw [hK (by rw [q];simp)] at e;cases e)
  have hM:Mod K mg (O_ s₁.heap H):=⟨hKb,nsK hns,⟨mb,nsK hb,hbb⟩,let ⟨mc,h1,h2⟩:=hlim;⟨mc,nsK h1,h2⟩⟩
  have e0:aD2 P w K mg (O_ s₁.heap H) callerA [] s₁ H:=⟨rfl,hM,fun b o e=>VH e,Nat.le_of_eq (GJ _ _),trivial,fun b hb=>absurd (show b∈([]:List Addr) from hb) (by simp),hok,.of_eq hg⟩
  refine codeAny_mono ((F _ hKb (nsK hns)).run callerA [] s₁ H ⟨[.ref a],[]⟩ [.ref a] [.ref a] _ _ hr e0 (hbind s₁ (.ref a)) (.cons rfl .nil) (hsp H hO hS)) fun r s' h=>?_
  cases r with
  | error e=>exact (hCX H e s' h).elim
  | ok fl=>
   cases fl with
   | next=>exact False.elim h
   | brk=>exact False.elim h
   | cont=>exact False.elim h
   | ret u=>
    obtain ⟨v,H',os,bare,un,hok',r',q⟩:=h;have q':v=.bl true:=q;subst q';obtain rfl:u=Value.bool true:=r';refine ⟨rfl,OldK.of_keep fun b o e=>?_,os,bare⟩;cases q:H b with
    | none=>exact un.keep b o e q (by intro z;exact absurd (show b∈([]:List Addr) from z) (by simp)) (by simp)
    | some u=>
     rcases hO b with z|⟨ob,xs,z⟩
     ·rw [q] at z;cases z
     ·have z2:=un.frzs b ob _ z;obtain ⟨e1,_⟩:=hok b _ z;obtain ⟨e2,_⟩:=hok' b _ z2;rw [e] at e1;cases e1;exact e2
 cases hk:K.lookup a with
 | some o=>
  -- the script is one of the module's own objects
  have e:=KX a o hk;rw [ha] at e;cases e;refine core (fun _=>none) (fun _=>.inl rfl) (.inr ⟨_,vs.toArray,_,hk,rfl,rfl,rfl,by rw [List.size_toArray,lenV];exact hl,by simpa using rv⟩) (fun b u z=>by have z':(none:Option HO)=some u:=z;cases z') (fun b z=>absurd rfl z) fun z=>absurd rfl z
 | none=>
  refine core (fun b=>if b=a then some (.frz {cls:=.type "list",data:=.seq vs.toArray} (.lst (ns.map V.int))) else none) (fun b=>?_) (.inl (.inr ⟨{cls:=.type "list",data:=.seq vs.toArray},if_pos rfl⟩)) (fun b u z=>?_) (fun b z=>?_) fun _=>hk
  ·by_cases hb:b=a
   ·exact .inr ⟨_,_,if_pos hb⟩
   ·exact .inl (if_neg hb)
  ·by_cases hb:b=a
   ·have z':=(if_pos hb).symm.trans z;cases z';subst hb;exact ⟨ha,by rw [List.length_map];exact hl,vs,_,rv,ha⟩
   ·have z':=(if_neg hb).symm.trans z;cases z'
  ·by_cases hb:b=a
   ·exact hb
   ·exact absurd (if_neg hb) z
end L2
namespace L2
open PySem PySem.Spec PyProof.Rows
theorem WL {l:PySem.W.OpenLaw} {n k:Nat} {q:Program} {loose:List Str} {XP:(Str->Option Value)->Heap->Prop} {YP:World->Heap->Prop} {d:DefRec} {K:Params->PySem.W.Frag} {CX:World->CXT} {sp:World->Sp} {x:Str}
  (hn:l.most=some n) (hn2:n<=sizeLine) (hdf:d.params.defaults=[]) (hr:mQ k callerA)
  (hY:∀(w:World) (h:Heap),YP w h->(K w.params).In h)
  (F:∀(w:World) (mg:Str->Option Value) (fa:Addr) (h:Heap),(K w.params).In h->h.Ns mainGlobals mg->mg d.name=some (.ref fa)->
   ∃fd:FuncData,(∀(s:Shared) (u:Value),BindsTo s fd ⟨[u],[]⟩ [(x,u)])/\
    ∀base:Heap,(K w.params).In base->base.Ns mainGlobals mg->v9 l.prog w (K w.params) mg base (CX w) k fa fd [x] (sp w))
  (hsp:∀(w:World) (H:Hp) (a:Addr) (ns:List Int),ns.length<=n->Only H->SqL (K w.params) H a (ns.map V.int)->sp w [.ref a] H (fun v _=>v=.bl true) fun _ _ _=>False)
  (hCX:∀(w:World) (H:Hp) (s:Shared) (e:Value) (s':Shared),CX w [] H s (fun _ _ _=>False) e s'->False) :
  PySem.W.WalkO q loose XP YP l.row.toRowW d [] (fun f vs=>PySem.call f vs):=by
 refine Att.wM hn hdf fun w s₀ s₁ mg mb fa o pm cd doc a vs ns G Y ho hd hcd hmg hobj hints hlen hg=>?_
 have KX:=hY w _ Y;obtain ⟨fd,hb,hF⟩:=F w mg fa _ KX G.T.g hmg;exact QG KX G.T.g G.T.b G.T.builtins G.T.nolimit hg hobj hints (Nat.le_trans hlen hn2) hr hF hb (fun H hO hS=>hsp w H a ns hlen hO hS) fun H e s'=>hCX w H s₁ e s'
end L2
namespace L2
open PySem PySem.Spec PyProof.Rows
noncomputable def lZ (s:Stmt):Arguments:=match s with
 | .FunctionDef _ a _ _ _ _ _ _ _ _=>a
 | _=>{posonlyargs:=[],args:=[],vararg:=none,kwonlyargs:=[],kw_defaults:=[],kwarg:=none,defaults:=[]}
noncomputable def eG (s:Stmt):List Stmt:=match s with
 | .FunctionDef _ _ b _ _ _ _ _ _ _=>b
 | _=>[]
noncomputable def aL (s:Stmt):Scope:=match s with
 | .FunctionDef _ _ _ _ _ _ sc _ _ _=>sc
 | _=>{kind:=.function,names:=[],isGenerator:=false,isCoroutine:=false}
abbrev CX0:CXT:=fun _ _ _ _ _ _=>False
abbrev E0:XK:=fun _ _ _=>False
theorem QH {X:Cx}:G8 CX0 X E0:=fun _ _ _ _ _ _ _ h=>h.elim
structure Fun (K:PySem.W.Frag) (x qual:Str) (st:Stmt) (f:Addr) (fd:FuncData):Prop where
 ex:∃(oc:Value) (od:Option Addr) (kV doc pm:Value) (an:Option Addr) (cdv ct:Value) (osl:Array (Option Value)),
  fd=PySem.W.fnOf x qual (lZ st) (eG st) (aL st) .none kV doc pm an cdv ct/\K.lookup f=some ⟨oc,od,.func fd,osl⟩/\PySem.W.codeIn K cdv qual=true
 kp:PySem.W.keepIn K (.ref f)=true
section
variable {P:Program} {w:World} {K:PySem.W.Frag} {mg:Str->Option Value} {base:Heap}
theorem Fun.ok {x qual:Str} {st:Stmt} {f:Addr} {fd:FuncData} {N ps:List Str} {k:Nat} {sp:Sp} (F:Fun K x qual st f fd) (S:bV N ps (aL st)) (len:∀vs H Q E,sp vs H Q E->vs.length=ps.length)
  (hbody:∀(cdv:Value) (A:Around) (outer:List Env) (s:Shared) (H:Hp) (vs:List V) (Q:VK) (E:XK),mQ k (A.deeper (envOfC qual (aL st) s.heap.objs.size f cdv))->sp vs H Q E->
   ∃t,PSs (FQ CX0 P w K mg base N qual (aL st) f cdv A outer s H E).nox (eG st) t/\t {nx:=fun _ H'=>Q .non H',rt:=Q} (start N vs) H):v9 P w K mg base CX0 (k+1) f fd ps sp:=by
 obtain ⟨oc,od,kV,doc,pm,an,cdv,ct,osl,rfl,lk,hcd⟩:=F.ex;refine aDo lk hcd S len fun A outer s H vs Q E hr hsp=>?_
 obtain ⟨t,h,q⟩:=hbody cdv A outer s H vs Q E hr hsp;exact ⟨t,h.nox,q⟩
theorem Fun.binds {x qual:Str} {st:Stmt} {f:Addr} {fd:FuncData} {ps:List Str} (F:Fun K x qual st f fd)
  (h:∀(kV doc pm:Value) (an:Option Addr) (cdv ct:Value) (us:List Value),us.length=ps.length->bindArgs (PySem.W.fnOf x qual (lZ st) (eG st) (aL st) .none kV doc pm an cdv ct) ⟨us,[]⟩=pure (ps.zip us)):Binds K fd ps []:=by
 obtain ⟨oc,od,kV,doc,pm,an,cdv,ct,osl,rfl,lk,hcd⟩:=F.ex;exact .all (h kV doc pm an cdv ct)
theorem S_ {x qual:Str} {st:Stmt} {f:Addr} {oc:Value} {od an:Option Addr} {osl:Array (Option Value)} {kV doc pm cdv ct:Value} (l:K.lookup f=some ⟨oc,od,.func (PySem.W.fnOf x qual (lZ st) (eG st) (aL st) .none kV doc pm an cdv ct),osl⟩)
  (c:PySem.W.codeIn K cdv qual=true) (k:PySem.W.keepIn K (.ref f)=true):Fun K x qual st f (PySem.W.fnOf x qual (lZ st) (eG st) (aL st) .none kV doc pm an cdv ct):=⟨⟨oc,od,kV,doc,pm,an,cdv,ct,osl,rfl,l,c⟩,k⟩
end
section
variable {X:Cx}
end
def cD (H H':Hp):Prop:=∀b o,H b=some o->H' b=some o
theorem cD.refl (H:Hp):cD H H:=fun _ _ h=>h
theorem cD.trans {H H1 H2:Hp} (a:cD H H1) (b:cD H1 H2):cD H H2:=fun c o h=>b c o (a c o h)
theorem cD.free {H H':Hp} (e:cD H H') {l:Addr} (h:H' l=Option.none):H l=Option.none:=by
 cases q:H l with
 | none=>rfl
 | some o=>
  rw [e l o q] at h;cases h
section
variable {X:Cx}
end
section
variable {κ:Type} [DecidableEq κ]
theorem QJ {kvs:List (κ×V)} {k:κ} (h:rA kvs k=none):¬k∈kvs.map (·.1):=by
 intro m;obtain ⟨p,hp,e⟩:=List.mem_map.mp m;have q:(kvs.any fun kv=>decide (kv.1=k))=true:=List.any_eq_true.mpr ⟨p,hp,decide_eq_true e⟩;rw [mX,h] at q;exact absurd q (by simp)
theorem HY:∀{l:List κ} {k:κ},l.Nodup->¬k∈l->(l++[k]).Nodup
 | [],k,_,_=>by simp
 | a::r,k,h,hk=>by
  obtain ⟨h1,h2⟩:=List.nodup_cons.mp h;show (a::(r++[k])).Nodup;refine List.nodup_cons.mpr ⟨fun m=>?_,HY h2 fun m=>hk (List.mem_cons.mpr (Or.inr m))⟩;rcases List.mem_append.mp m with q|q
  ·exact h1 q
  ·exact hk (List.mem_cons.mpr (Or.inl (List.mem_singleton.mp q).symm))
theorem WM {kvs:List (κ×V)} {k:κ} (v:V) (hn:(kvs.map (·.1)).Nodup) (h:rA kvs k=none):((putK kvs k v).map (·.1)).Nodup:=by
 rw [QB v h,List.map_append];exact HY hn (QJ h)
end
end L2
end
section
namespace TS
open PySem PyProof.Rows
end TS
end
section
namespace TS
open PySem PyProof.Rows
section
variable {prog:Program} {w:World} {A:Around} {E:Value->Shared->Prop} {s:Shared}
end
end TS
end
section
namespace TS
open PySem PyProof.Rows
section
variable {prog:Program} {w:World} {A:Around} {E:Value->Shared->Prop} {s:Shared} {kd:SortKind} {U:Keyed->Prop} {blt:Keyed->Keyed->Bool}
end
section
variable (blt:Keyed->Keyed->Bool)
variable {blt}
variable {a b out:Array Keyed} {ia ib:Nat}
end
end TS
end
section
namespace TS
open PySem PyProof.Rows
section
variable {prog:Program} {w:World} {A:Around} {E:Value->Shared->Prop} {s:Shared} {kd:SortKind} {U:Keyed->Prop} {blt:Keyed->Keyed->Bool}
end
end TS
end
section
namespace TS
open PySem PyProof.Rows
section
variable {blt:Keyed->Keyed->Bool}
variable {a b out:Array Keyed} {na nb:Nat}
variable {U:Keyed->Prop}
end
section
variable {prog:Program} {w:World} {A:Around} {E:Value->Shared->Prop} {s:Shared} {kd:SortKind} {U:Keyed->Prop} {blt:Keyed->Keyed->Bool}
end
end TS
end
section
namespace TS
open PySem PyProof.Rows
section
variable {blt:Keyed->Keyed->Bool} {U:Keyed->Prop}
end
section
variable {prog:Program} {w:World} {A:Around} {E:Value->Shared->Prop} {s:Shared} {kd:SortKind} {U:Keyed->Prop} {blt:Keyed->Keyed->Bool}
end
end TS
end
section
namespace TS
open PySem PyProof.Rows
section
variable {blt:Keyed->Keyed->Bool} {U:Keyed->Prop}
end
section
variable {prog:Program} {w:World} {A:Around} {E:Value->Shared->Prop} {s:Shared} {kd:SortKind} {U:Keyed->Prop} {blt:Keyed->Keyed->Bool}
end
end TS
end
section
namespace TS
open PySem PyProof.Rows
section
variable {blt:Keyed->Keyed->Bool} {U:Keyed->Prop}
end
section
variable {prog:Program} {w:World} {A:Around} {E:Value->Shared->Prop} {s:Shared} {kd:SortKind} {U:Keyed->Prop} {blt:Keyed->Keyed->Bool}
end
section
variable {blt:Keyed->Keyed->Bool} {U:Keyed->Prop}
end
end TS
end
section
namespace TS
open PySem PyProof.Rows
section
variable {prog:Program} {w:World} {A:Around} {E:Value->Shared->Prop} {s:Shared} {kd:SortKind} {U:Keyed->Prop} {blt:Keyed->Keyed->Bool}
end
end TS
end
section
namespace Mi
open PySem
inductive D where
 | uD|non|bl (b:Bool)|int (i:Int)|str (x:Str)
 | tup (xs:List D)|lst (xs:List D)|dct (kvs:List (D×D))|scr (xs:List D)|fdc (kvs:List (D×D))|cel (a:Nat) (xs:List D)
 deriving Inhabited
mutual
noncomputable def D.pure:D->Bool
 | .tup xs=>D.aV xs
 | .lst _=>false
 | .dct _=>false
 | .uD=>false
 | .scr xs=>D.aV xs
 | .fdc _=>false
 | .cel _ _=>false
 | _=>true
noncomputable def D.aV:List D->Bool
 | []=>true
 | x::xs=>x.pure&&D.aV xs
end
mutual
noncomputable def eqD:D->D->Bool
 | .non,.non=>true
 | .bl a,.bl b=>a==b
 | .int a,.int b=>a==b
 | .bl a,.int b=>(if a then (1:Int) else 0)==b
 | .int a,.bl b=>a==(if b then (1:Int) else 0)
 | .str a,.str b=>a==b
 | .tup xs,.tup ys=>uM xs ys
 | .lst xs,.lst ys=>uM xs ys
 | _,_=>false
noncomputable def uM:List D->List D->Bool
 | [],[]=>true
 | x::xs,y::ys=>eqD x y&&uM xs ys
 | _,_=>false
end
mutual
noncomputable def D.bN:Nat->D->Bool
 | n+1,.tup xs=>D.cA n xs
 | n+1,.lst xs=>D.cA n xs
 | 0,.tup _=>false
 | 0,.lst _=>false
 | _,.dct _=>false
 | _,.uD=>false
 | _,.scr _=>false
 | _,.fdc _=>false
 | _,.cel _ _=>false
 | _,_=>true
noncomputable def D.cA:Nat->List D->Bool
 | _,[]=>true
 | n,x::xs=>D.bN n x&&D.cA n xs
end
inductive j9 where|lt|le|gt|ge
 deriving DecidableEq
noncomputable def j9.int:j9->Int->Int->Bool
 | .lt,a,b=>decide (a<b)|.le,a,b=>decide (a<=b)|.gt,a,b=>decide (b<a)|.ge,a,b=>decide (b<=a)
noncomputable def j9.nat:j9->Nat->Nat->Bool
 | .lt,a,b=>decide (a<b)|.le,a,b=>decide (a<=b)|.gt,a,b=>decide (b<a)|.ge,a,b=>decide (b<=a)
def QK (a b:Str):Bool:=decide (a.cps.toList<b.cps.toList)
noncomputable def j9.str:j9->Str->Str->Bool
 | .lt,a,b=>QK a b|.le,a,b=>!QK b a|.gt,a,b=>QK b a|.ge,a,b=>!QK a b
mutual
noncomputable def oX (o:j9):D->D->Option Bool
 | .int a,.int b=>some (o.int a b)
 | .str a,.str b=>some (o.str a b)
 | .tup xs,.tup ys=>fM o xs ys
 | _,_=>none
noncomputable def fM (o:j9):List D->List D->Option Bool
 | [],ys=>some (o.nat 0 ys.length)
 | x::xs,[]=>some (o.nat (x::xs).length 0)
 | x::xs,y::ys=>if eqD x y then fM o xs ys else oX o x y
end
inductive Res (α:Type) where
 | ok (a:α)|err (c:Str) (as:List D)|bad
noncomputable def Res.bind {α β:Type}:Res α->(α->Res β)->Res β
 | .ok a,f=>f a
 | .err c as,_=>.err c as
 | .bad,_=>.bad
noncomputable instance:Monad Res where
 pure:=.ok
 bind:=Res.bind
@[simp] theorem Res.aM {α β:Type} (a:α) (f:α->Res β):((Res.ok a) >>= f)=f a:=rfl
@[simp] theorem Res.aD4 {α β:Type} (c:Str) (as:List D) (f:α->Res β):((Res.err c as:Res α) >>= f)=.err c as:=rfl
@[simp] theorem Res.aD5 {α β:Type} (f:α->Res β):((Res.bad:Res α) >>= f)=.bad:=rfl
@[simp] theorem Res.pure_eq {α:Type} (a:α):(pure a:Res α)=.ok a:=rfl
theorem Res.WN {α β:Type} {m:Res α} {f:α->Res β} {b:β} (h:(m >>= f)=.ok b):∃a,m=.ok a/\f a=.ok b:=by
 cases m with
 | ok a=>exact ⟨a,rfl,h⟩
 | err c as=>cases h
 | bad=>cases h
noncomputable def Res.ofOpt {α:Type}:Option α->Res α
 | some a=>.ok a
 | none=>.bad
@[simp] theorem Res.ZQ {α:Type} (a:α):Res.ofOpt (some a)=.ok a:=rfl
theorem Res.jJ {α:Type} {o:Option α} {a:α} (h:Res.ofOpt o=.ok a):o=some a:=by
 cases o with
 | none=>cases h
 | some b=>cases h;rfl
def lim:Nat:=1000000
inductive Bop where|add|sub|mul|fdiv|mod|pow
 deriving DecidableEq
inductive Cop where|eq|ne|ord (o:j9)|isin|notin|isN|notN
 deriving DecidableEq
def jW (i:Int):Bool:=decide (-(2 ^ 64)<i)&&decide (i<2 ^ 64)
noncomputable def aR:Bop->D->D->Res D
 | .add,.int a,.int b=>.ok (.int (a+b))
 | .sub,.int a,.int b=>.ok (.int (a-b))
 | .mul,.int a,.int b=>if jW a||jW b then .ok (.int (a*b)) else .bad
 | .fdiv,.int a,.int b=>if decide (0<b)&&decide (b<1073741824) then .ok (.int (a / b)) else .bad
 | .mod,.int a,.int b=>if decide (0<b) then .ok (.int (a % b)) else .bad
 | .pow,.int a,.int b=>if decide (0<=b)&&decide (b<=1000000)&&decide (a.natAbs<2 ^ 64) then .ok (.int (a ^ b.toNat)) else .bad
 | .add,.str a,.str b=>if decide (a.length+b.length<=lim) then .ok (.str (a++b)) else .bad
 | .add,.lst a,.lst b=>if decide (a.length+b.length<=lim)&&D.aV a&&D.aV b then .ok (.lst (a++b)) else .bad
 | _,_,_=>.bad
noncomputable def aDu:D->Res Bool
 | .non=>.ok false
 | .bl b=>.ok b
 | .int i=>.ok (i != 0)
 | .str x=>if decide (x.length<=lim) then .ok ((x.length:Int) != 0) else .bad
 | .tup xs=>.ok (!xs.isEmpty)
 | .lst xs=>.ok (!xs.isEmpty)
 | .dct kvs=>.ok (!kvs.isEmpty)
 | .uD=>.bad
 | .fdc _=>.bad
 | .cel _ _=>.bad
 | .scr xs=>.ok (!xs.isEmpty)
noncomputable def j_:D->Bool
 | .int _=>true
 | .str _=>true
 | _=>false
noncomputable def keyOk:D->Bool
 | .int _=>true
 | .str _=>true
 | .tup xs=>xs.all j_
 | _=>false
noncomputable def isTup:D->Bool
 | .tup _=>true
 | _=>false
noncomputable def cJ:List (D×D)->D->Option D
 | [],_=>none
 | (k,v)::r,q=>if eqD k q then some v else cJ r q
noncomputable def putD:List (D×D)->D->D->List (D×D)
 | [],q,w=>[(q,w)]
 | (k,v)::r,q,w=>if eqD k q then (k,w)::r else (k,v)::putD r q w
noncomputable def qN (kvs:List (D×D)) (k:D):Bool:=keyOk k&&kvs.all (fun p=>isTup p.1==isTup k)
def a_:Nat:=12
noncomputable def cO:Cop->D->D->Res D
 | .eq,a,b=>if a.bN a_&&b.bN a_ then .ok (.bl (eqD a b)) else .bad
 | .ne,a,b=>if a.bN a_&&b.bN a_ then .ok (.bl (!eqD a b)) else .bad
 | .ord o,a,b=>if a.bN a_&&b.bN a_ then (match oX o a b with|some k=>.ok (.bl k)|none=>.bad) else .bad
 | .isin,a,.tup ys=>if a.bN a_&&D.cA a_ ys then .ok (.bl (ys.any fun y=>eqD y a)) else .bad
 | .isin,a,.lst ys=>if a.bN a_&&D.cA a_ ys then .ok (.bl (ys.any fun y=>eqD y a)) else .bad
 | .isin,a,.dct kvs=>if qN kvs a then .ok (.bl (cJ kvs a).isSome) else .bad
 | .notin,a,.tup ys=>if a.bN a_&&D.cA a_ ys then .ok (.bl (!(ys.any fun y=>eqD y a))) else .bad
 | .notin,a,.lst ys=>if a.bN a_&&D.cA a_ ys then .ok (.bl (!(ys.any fun y=>eqD y a))) else .bad
 | .notin,a,.dct kvs=>if qN kvs a then .ok (.bl (!(cJ kvs a).isSome)) else .bad
 | .isN,.scr _,.non=>.bad
 | .notN,.scr _,.non=>.bad
 | .isN,.fdc _,.non=>.bad
 | .notN,.fdc _,.non=>.bad
 | .isN,.cel _ _,.non=>.bad
 | .notN,.cel _ _,.non=>.bad
 | .isN,.non,.non=>.ok (.bl true)
 | .isN,a,.non=>.ok (.bl false)
 | .notN,.non,.non=>.ok (.bl false)
 | .notN,a,.non=>.ok (.bl true)
 | _,_,_=>.bad
noncomputable def ixD (n:Nat) (i:Int):Option Nat:=if 0<=i then (if i<n then some i.toNat else none) else if -(n:Int)<=i then some (i+n).toNat else none
noncomputable def getD (d i:D):Res D:=
 match d,i with
 | .tup xs,.int i=>Res.ofOpt ((ixD xs.length i).bind fun j=>xs[j]?)
 | .lst xs,.int i=>Res.ofOpt ((ixD xs.length i).bind fun j=>xs[j]?)
 | .scr xs,.int i=>Res.ofOpt ((ixD xs.length i).bind fun j=>xs[j]?)
 | .cel _ xs,.int i=>Res.ofOpt ((ixD xs.length i).bind fun j=>xs[j]?)
 | .str x,.int i=>if decide (x.length<=lim) then Res.ofOpt (((ixD x.cps.toList.length i).bind fun j=>x.cps.toList[j]?).map fun c=>D.str ⟨#[c]⟩) else .bad
 | .dct kvs,k=>if keyOk k then Res.ofOpt (cJ kvs k) else .bad
 | .fdc kvs,k=>if keyOk k then Res.ofOpt (cJ kvs k) else .bad
 | _,_=>.bad
noncomputable def FW (n d:Nat):Option Int->Nat
 | none=>d
 | some v=>if v<0 then (max (v+(n:Int)) 0).toNat else (min v (n:Int)).toNat
noncomputable def cutD {α:Type} (xs:List α) (lo hi:Option Int):List α:=(xs.drop (FW xs.length 0 lo)).take (FW xs.length xs.length hi-FW xs.length 0 lo)
inductive Ty where|int|str|bool|list|tuple|dict
 deriving DecidableEq
noncomputable def H_:Ty->D->Res Bool
 | _,.uD=>.bad
 | _,.scr _=>.bad
 | _,.fdc _=>.bad
 | _,.cel _ _=>.bad
 | .int,.int _=>.ok true
 | .int,.bl _=>.ok true
 | .bool,.bl _=>.ok true
 | .str,.str _=>.ok true
 | .tuple,.tup _=>.ok true
 | .list,.lst _=>.ok true
 | .dict,.dct _=>.ok true
 | _,_=>.ok false
def l_ (i:Int):Bool:=decide (-(2 ^ 62)<=i)&&decide (i<2 ^ 62)
noncomputable def asB:D->Res Bool
 | .bl b=>.ok b
 | _=>.bad
noncomputable def asI:D->Res Int
 | .int i=>.ok i
 | _=>.bad
inductive Fl where
 | nx (ρ:List D)|rt (d:D)|bk (ρ:List D)|ct (ρ:List D)
noncomputable def aEk:Fl->Res D
 | .rt d=>.ok d
 | .nx _=>.ok .non
 | _=>.bad
abbrev FE:=List D->Res D
abbrev FT:=List D->Res Bool
abbrev FA:=List D->Res (List D)
def cU (i:Nat):FE:=fun ρ=>match ρ.getD i .uD with|.uD=>.bad|d=>.ok d
def bC (d:D):FE:=fun _=>.ok d
abbrev fG:FE := cU 1
abbrev iC:FE := cU 0
abbrev cV:FE := cU 2
abbrev d9:FE := cU 3
abbrev iT:FE := cU 12
abbrev fH:FE := cU 4
abbrev dX:FE := cU 7
abbrev fW:FE := cU 6
abbrev j5:FE := cU 8
abbrev iU:FE := cU 5
abbrev iD:FE := cU 11
abbrev oR:FE := cU 9
abbrev iY:FE := cU 10
abbrev IK:FE := cU 13
abbrev wN:FE := cU 14
abbrev tZ:FE := bC (.int 4)
abbrev fJ:FE := bC (.int 1)
abbrev iZ:FE := bC (.int 3)
abbrev jX:FE := bC (.int 0)
abbrev nC:FE := bC (.int 2)
abbrev QL:FE := bC (.int 12)
abbrev ZR:FE := bC (.int 9)
abbrev WP:FE := bC (.int 10)
abbrev WQ:FE := bC (.int 13)
abbrev TF:FE := bC (.int 5)
abbrev ZV:FE := bC (.int 7)
abbrev IV:FE := bC (.int 40)
abbrev TJ:FE := bC (.int 6)
abbrev lN:FE := bC (.int 26)
abbrev aAj:FE := bC (.int 8)
abbrev yL:FE := bC (.int 120)
def b2 (f:D->D->Res D) (a b:FE):FE:=fun ρ=>do let x <- a ρ;let y <- b ρ;f x y
def b1 (f:D->Res D) (a:FE):FE:=fun ρ=>do let x <- a ρ;f x
def bTB (a:FE):FT:=fun ρ=>do let x <- a ρ;asB x
def O7 (a:FT):FT:=fun ρ=>do let x <- a ρ;pure (!x)
def TQ (a b:FT):FT:=fun ρ=>do let x <- a ρ;if x then b ρ else pure false
def bOr (a b:FT):FT:=fun ρ=>do let x <- a ρ;if x then pure true else b ρ
noncomputable def aAk (a b:FE):FE:=fun ρ=>do let x <- a ρ;let k <- asB x;if k then b ρ else pure (.bl false)
def aO:FA:=fun _=>.ok []
def aB (a:FE) (b:FA):FA:=fun ρ=>do let x <- a ρ;let xs <- b ρ;pure (x::xs)
noncomputable def cL (a:FA):FE:=fun ρ=>do let xs <- a ρ;if decide (xs.length<=lim) then pure (.tup xs) else .bad
noncomputable def j6 (a:FA):FE:=fun ρ=>do let xs <- a ρ;if decide (xs.length<=lim) then pure (.lst xs) else .bad
def bA (f:List D->Res D) (a:FA):FE:=fun ρ=>do let xs <- a ρ;f xs
noncomputable def bM (f:D->List D->Res D) (o:FE) (a:FA):FE:=fun ρ=>do let x <- o ρ;let xs <- a ρ;f x xs
noncomputable def eN (a:FE):List D->Res (Option Int):=fun ρ=>do let x <- a ρ;let i <- asI x;pure (some i)
def fB:List D->Res (Option Int):=fun _=>.ok none
noncomputable def aEm:D->Res Bool
 | .dct _=>.bad
 | .scr _=>.bad
 | .fdc _=>.bad
 | d=>aDu d
def bTr (a:FE):FT:=fun ρ=>do let x <- a ρ;aEm x
noncomputable def aD6:D->Option Int->Option Int->Res D
 | .lst xs,lo,hi=>if D.aV xs then .ok (.lst (cutD xs lo hi)) else .bad
 | .scr xs,lo,hi=>if D.aV xs then .ok (.lst (cutD xs lo hi)) else .bad
 | .tup xs,lo,hi=>if !D.aV xs||decide (FW xs.length 0 lo=0/\FW xs.length xs.length hi=xs.length) then .bad else .ok (.tup (cutD xs lo hi))
 | _,_,_=>.bad
noncomputable def nF (o:j9):List D->Res D
 | []=>.bad
 | x::xs=>if ((x::xs).all fun a=>a.bN a_&&(x::xs).all fun b=>(oX o a b).isSome) then .ok (xs.foldl (fun m y=>if (oX o y m).getD false then y else m) x) else .bad
noncomputable def btD (o:j9) (ds:List D) (i j:Nat):Bool:=(oX o (ds.getD i .non) (ds.getD j .non)).getD false
noncomputable def uN (o:j9):List D->Res D
 | [.lst xs]=>nF o xs
 | [.tup xs]=>nF o xs
 | [a,b]=>nF o [a,b]
 | _=>.bad
noncomputable def jY:List D->Res D
 | [.tup xs]=>.ok (.int xs.length)
 | [.lst xs]=>.ok (.int xs.length)
 | [.scr xs]=>.ok (.int xs.length)
 | [.cel _ xs]=>.ok (.int xs.length)
 | [.str x]=>if decide (x.length<=lim) then .ok (.int x.length) else .bad
 | _=>.bad
noncomputable def dF:List D->Res D
 | [.tup xs]=>.ok (.tup xs)
 | [.lst xs]=>.ok (.tup xs)
 | _=>.bad
noncomputable def Ty.nm:Ty->String
 | .int => "int" | .str => "str" | .bool => "bool" | .list => "list" | .tuple => "tuple" | .dict => "dict"
def QM (t:Ty) (d:D):Res D:=do let k <- H_ t d;pure (.bl k)
noncomputable def kE (n:Nat) (f:List D->Res D):List D->Res D:=fun ds=>if decide (ds.length=n) then f ds else .bad
abbrev FI:=List D->Res (List D×Bool)
noncomputable def pC:D->Res (List D)
 | .lst xs=>.ok xs
 | .tup xs=>.ok xs
 | _=>.bad
noncomputable def gF:List D->Res (List D×Bool)
 | [.int n]=>if l_ n then .ok ((List.range n.toNat).map fun (k:Nat)=>D.int (0+(k:Int)),true) else .bad
 | _=>.bad
noncomputable def gW (f:FA) (g:List D->Res (List D×Bool)):FI:=fun ρ=>do let xs <- f ρ;g xs
def wO (n:Nat) (ρ:List D):List D:=(List.range n).map fun i=>ρ.getD i .uD
def oY:D->Res (List D):=fun d=>.ok [d]
noncomputable def O8 (m:Nat):D->Res (List D)
 | .tup ds=>if decide (ds.length=m) then .ok ds else .bad
 | _=>.bad
noncomputable def nG (n:Nat) (t:D->Res (List D)) (c:FT) (f:FE) (k:Bool) (ρ:List D) (acc:List D) (x:D):Res (List D):=do
 let bs <- t x
 let ok <- c (wO n ρ++bs)
 if ok then (do
  let y <- f (wO n ρ++bs)
  if k||y.pure then pure (acc++[y]) else .bad)
 else pure acc
noncomputable def jK (g:List D->D->Res (List D)):List D->List D->Res (List D)
 | acc,[]=>.ok acc
 | acc,x::xs=>do let a <- g acc x;jK g a xs
noncomputable def dG (n:Nat) (it:FI) (t:D->Res (List D)) (c:FT) (f:FE) (k:Bool):FE:=fun ρ=>do
 let xs <- it ρ
 if decide (xs.1.length<=lim) then (do
  let ys <- jK (nG n t c f k ρ) [] xs.1
  pure (.lst ys)) else .bad
def fX:FT:=fun _=>.ok true
abbrev FS:=List D->Res Fl
noncomputable def D.yM:D->Bool
 | .cel _ _=>false
 | _=>true
noncomputable def inner:D->Bool
 | .lst xs=>D.aV xs
 | .dct kvs=>D.aV (kvs.map (·.2))
 | .cel _ xs=>D.aV xs
 | _=>false
def jL:FS:=fun ρ=>.ok (.nx ρ)
noncomputable def bD (f g:FS):FS:=fun ρ=>do
 let r <- f ρ
 match r with
 | .nx ρ'=>g ρ'
 | r=>.ok r
noncomputable def b_ (o:Bool) (i:Nat) (f:FE) (k:Bool):FS:=fun ρ=>do
 let d <- f ρ
 if (if o then k&&inner d else k||d.pure) then .ok (.nx (ρ.set i d)) else .bad
noncomputable def sIf (c:FT) (f g:FS):FS:=fun ρ=>do
 let k <- c ρ
 if k then f ρ else g ρ
noncomputable def yN (f:FE) (k:Bool):FS:=fun ρ=>do
 let d <- f ρ
 if k||d.pure then .ok (.rt d) else .bad
noncomputable def aAl (i:Nat):FS:=fun ρ=>do
 let d <- cU i ρ
 .ok (.rt d)
def rtX:Nat:=1000000
noncomputable def uO (f:FE) (k:Bool):FS:=fun ρ=>do
 let d <- f ρ
 if k||d.pure then .ok (.rt (.tup (d::ρ))) else .bad
noncomputable def rC (i:Nat):FS:=fun ρ=>do
 let d <- cU i ρ
 if d.yM then .ok (.rt (.tup (d::ρ))) else .bad
noncomputable def pF (f:FE):FS:=fun ρ=>do
 let _ <- f ρ
 .ok (.nx ρ)
noncomputable def rP (i:Nat) (f:FE):FS:=fun ρ=>do
 let d <- f ρ
 match ρ.getD i .uD with
 | .lst xs=>if decide (xs.length<lim)&&d.pure then .ok (.nx (ρ.set i (.lst (xs++[d])))) else .bad
 | _=>.bad
noncomputable def QR (i:Nat) (f:FE) (g:FE):FS:=fun ρ=>do
 let d <- g ρ
 let k <- f ρ
 match ρ.getD i .uD with
 | .dct kvs=>if decide (kvs.length<lim)&&qN kvs k&&d.pure then .ok (.nx (ρ.set i (.dct (putD kvs k d)))) else .bad
 | _=>.bad
def tg1 (i:Nat):D->List D->Res (List D):=fun d ρ=>.ok (ρ.set i d)
noncomputable def wQ:List Nat->List D->List D->List D
 | i::is,d::ds,ρ=>wQ is ds (ρ.set i d)
 | _,_,ρ=>ρ
noncomputable def tgN (is:List Nat):D->List D->Res (List D)
 | .tup ds,ρ=>if decide (ds.length=is.length) then .ok (wQ is ds ρ) else .bad
 | _,_=>.bad
noncomputable def lO (t:D->List D->Res (List D)) (body:FS):List D->List D->Res Fl
 | [],ρ=>.ok (.nx ρ)
 | x::xs,ρ=>do
  let ρ1 <- t x ρ
  let r <- body ρ1
  match r with
  | .nx ρ'=>lO t body xs ρ'
  | .ct ρ'=>lO t body xs ρ'
  | .bk ρ'=>.ok (.nx ρ')
  | .rt d=>.ok (.rt d)
noncomputable def t6 (it:FI) (t:D->List D->Res (List D)) (body:FS):FS:=fun ρ=>do
 let xs <- it ρ
 if xs.2 then lO t body xs.1 ρ else .bad
noncomputable def pG (i:Nat) (t:D->List D->Res (List D)) (body:FS):FS:=fun ρ=>do
 let d <- cU i ρ
 let xs <- pC d
 lO t body xs ρ
noncomputable def fnS (n m:Nat) (f:FS):List D->Res D:=fun ds=>do
 let r <- f (ds++List.replicate (m-n) .uD)
 aEk r
end Mi
end
section
namespace Mi
open PySem
end Mi
end
section
namespace Mi
open PySem L2
class KFrag where
 K:PySem.W.Frag
variable [KFrag]
noncomputable def WR (H:Hp) (a:Addr) (xs:List V):Prop:=(∃o,H a=some (.frz o (.lst xs)))\/
 ∃(o:Obj) (its:Array Value) (n:Nat),KFrag.K.lookup a=some o/\o.cls=.type "list"/\o.dict=none/\o.data=.seq its n/\its.size<=sizeLine/\Vals xs its.toList
theorem WR.sq {H:Hp} {a:Addr} {xs:List V} {K:PySem.W.Frag} (h:WR H a xs) (hK:KFrag.K=K):SqL K H a xs:=by
 subst hK;rcases h with ⟨o,h⟩|h
 ·exact .inl (.inr ⟨o,h⟩)
 ·exact .inr h
noncomputable def kD:Key->D
 | .inl i=>.int i
 | .inr x=>.str x
noncomputable def wR:HO->Bool
 | .lst _=>true
 | .dK _=>true
 | .dT _=>true
 | _=>false
mutual
inductive Rep (P:Addr->Prop) (H:Hp):V->D->Prop
 | non:Rep P H .non .non
 | bl (b:Bool):Rep P H (.bl b) (.bl b)
 | int (i:Int):Rep P H (.int i) (.int i)
 | str (x:Str):Rep P H (.str x) (.str x)
 | tup {a:Addr} {xs:List V} {ds:List D}:H a=some (.tup xs)->bK P H xs ds->Rep P H (.ref a) (.tup ds)
 | lst {a:Addr} {xs:List V} {ds:List D}:H a=some (.lst xs)->P a->bK P H xs ds->Rep P H (.ref a) (.lst ds)
 | cel {a:Addr} {xs:List V} {ds:List D}:H a=some (.lst xs)->P a->bK P H xs ds->Rep P H (.ref a) (.cel a ds)
 | frz {a:Addr} {xs:List V} {ds:List D}:WR H a xs->bK P H xs ds->Rep P H (.ref a) (.scr ds)
 | dK {a:Addr} {kvs:List (Key×V)} {ds:List (D×D)}:H a=some (.dK kvs)->P a->j7 P H kvs ds->(kvs.map (·.1)).Nodup->Rep P H (.ref a) (.dct ds)
 | dT {a:Addr} {kvs:List (List Key×V)} {ds:List (D×D)}:H a=some (.dT kvs)->P a->nH P H kvs ds->(kvs.map (·.1)).Nodup->Rep P H (.ref a) (.dct ds)
 | fdK {a:Addr} {o:Obj} {kvs:List (Key×V)} {ds:List (D×D)}:H a=some (.frz o (.dK kvs))->j7 P H kvs ds->(kvs.map (·.1)).Nodup->Rep P H (.ref a) (.fdc ds)
 | fdT {a:Addr} {o:Obj} {kvs:List (List Key×V)} {ds:List (D×D)}:H a=some (.frz o (.dT kvs))->nH P H kvs ds->(kvs.map (·.1)).Nodup->Rep P H (.ref a) (.fdc ds)
inductive bK (P:Addr->Prop) (H:Hp):List V->List D->Prop
 | nil:bK P H [] []
 | cons {v:V} {d:D} {vs:List V} {ds:List D}:Rep P H v d->bK P H vs ds->bK P H (v::vs) (d::ds)
inductive j7 (P:Addr->Prop) (H:Hp):List (Key×V)->List (D×D)->Prop
 | nil:j7 P H [] []
 | cons {k:Key} {v:V} {d:D} {r:List (Key×V)} {ds:List (D×D)}:Rep P H v d->j7 P H r ds->j7 P H ((k,v)::r) ((kD k,d)::ds)
inductive nH (P:Addr->Prop) (H:Hp):List (List Key×V)->List (D×D)->Prop
 | nil:nH P H [] []
 | cons {k:List Key} {v:V} {d:D} {r:List (List Key×V)} {ds:List (D×D)}:Rep P H v d->nH P H r ds->nH P H ((k,v)::r) ((.tup (k.map kD),d)::ds)
end
noncomputable def O9 (P:Addr->Prop) (H H':Hp):Prop:=∀a o,H a=some o->(P a\/wR o=false)->H' a=some o
theorem O9.same {P:Addr->Prop} {H H':Hp} (h:cD H H'):O9 P H H':=fun a o e _=>h a o e
mutual
theorem Rep.keep {P P':Addr->Prop} {H H':Hp} (k:O9 P H H') (m:∀a,P a->P' a):∀{v:V} {d:D},Rep P H v d->Rep P' H' v d
 | _,_,.non=>.non
 | _,_,.bl b=>.bl b
 | _,_,.int i=>.int i
 | _,_,.str x=>.str x
 | _,_,.tup e r=>.tup (k _ _ e (.inr rfl)) (bK.keep k m r)
 | _,_,.lst e p r=>.lst (k _ _ e (.inl p)) (m _ p) (bK.keep k m r)
 | _,_,.cel e p r=>.cel (k _ _ e (.inl p)) (m _ p) (bK.keep k m r)
 | _,_,.frz e r=>.frz (e.imp (fun ⟨o,e⟩=>⟨o,k _ _ e (.inr rfl)⟩) id) (bK.keep k m r)
 | _,_,.dK e p r n=>.dK (k _ _ e (.inl p)) (m _ p) (j7.keep k m r) n
 | _,_,.dT e p r n=>.dT (k _ _ e (.inl p)) (m _ p) (nH.keep k m r) n
 | _,_,.fdK e r n=>.fdK (k _ _ e (.inr rfl)) (j7.keep k m r) n
 | _,_,.fdT e r n=>.fdT (k _ _ e (.inr rfl)) (nH.keep k m r) n
theorem bK.keep {P P':Addr->Prop} {H H':Hp} (k:O9 P H H') (m:∀a,P a->P' a):∀{v:List V} {d:List D},bK P H v d->bK P' H' v d
 | _,_,.nil=>.nil
 | _,_,.cons r t=>.cons (Rep.keep k m r) (bK.keep k m t)
theorem j7.keep {P P':Addr->Prop} {H H':Hp} (k:O9 P H H') (m:∀a,P a->P' a):∀{v:List (Key×V)} {d:List (D×D)},j7 P H v d->j7 P' H' v d
 | _,_,.nil=>.nil
 | _,_,.cons r t=>.cons (Rep.keep k m r) (j7.keep k m t)
theorem nH.keep {P P':Addr->Prop} {H H':Hp} (k:O9 P H H') (m:∀a,P a->P' a):∀{v:List (List Key×V)} {d:List (D×D)},nH P H v d->nH P' H' v d
 | _,_,.nil=>.nil
 | _,_,.cons r t=>.cons (Rep.keep k m r) (nH.keep k m t)
end
theorem Rep.mono {P P':Addr->Prop} {H:Hp} {v:V} {d:D} (r:Rep P H v d) (m:∀a,P a->P' a):Rep P' H v d:=r.keep (fun _ _ e _=>e) m
theorem bK.mono {P P':Addr->Prop} {H:Hp} {v:List V} {d:List D} (r:bK P H v d) (m:∀a,P a->P' a):bK P' H v d:=r.keep (fun _ _ e _=>e) m
theorem Rep.same {P:Addr->Prop} {H H':Hp} {v:V} {d:D} (r:Rep P H v d) (s:cD H H'):Rep P H' v d:=r.keep (.same s) fun _ h=>h
theorem bK.same {P:Addr->Prop} {H H':Hp} {v:List V} {d:List D} (r:bK P H v d) (s:cD H H'):bK P H' v d:=r.keep (.same s) fun _ h=>h
mutual
theorem Rep.bJ {P P':Addr->Prop} {H:Hp}:∀{v:V} {d:D},Rep P H v d->d.pure=true->Rep P' H v d
 | _,_,.non,_=>.non
 | _,_,.bl b,_=>.bl b
 | _,_,.int i,_=>.int i
 | _,_,.str x,_=>.str x
 | _,_,.tup e r,h=>.tup e (bK.bJ r (by rw [D.pure] at h;exact h))
 | _,_,.lst _ _ _,h=>by rw [D.pure] at h;cases h
 | _,_,.cel _ _ _,h=>by rw [D.pure] at h;cases h
 | _,_,.frz e r,h=>.frz e (bK.bJ r (by rw [D.pure] at h;exact h))
 | _,_,.dK _ _ _ _,h=>by rw [D.pure] at h;cases h
 | _,_,.dT _ _ _ _,h=>by rw [D.pure] at h;cases h
 | _,_,.fdK _ _ _,h=>by rw [D.pure] at h;cases h
 | _,_,.fdT _ _ _,h=>by rw [D.pure] at h;cases h
theorem bK.bJ {P P':Addr->Prop} {H:Hp}:∀{v:List V} {d:List D},bK P H v d->D.aV d=true->bK P' H v d
 | _,_,.nil,_=>.nil
 | _,_,.cons r t,h=>by
  rw [D.aV,Bool.and_eq_true] at h;exact .cons (Rep.bJ r h.1) (bK.bJ t h.2)
end
theorem bK.length {P:Addr->Prop} {H:Hp}:∀{v:List V} {d:List D},bK P H v d->v.length=d.length
 | _,_,.nil=>rfl
 | _,_,.cons _ t=>by rw [List.length_cons,List.length_cons,bK.length t]
theorem bK.get {P:Addr->Prop} {H:Hp}:∀{vs:List V} {ds:List D} {i:Nat} {d:D},bK P H vs ds->ds[i]?=some d->∃v,vs[i]?=some v/\Rep P H v d
 | _,_,_,_,.nil,e=>by simp at e
 | _,_,0,_,.cons r _,e=>by simp at e;subst e;exact ⟨_,rfl,r⟩
 | _,_,i+1,d,.cons _ t,e=>by
  obtain ⟨v,h1,h2⟩:=bK.get (i:=i) (d:=d) t (by simpa using e);exact ⟨v,by simpa using h1,h2⟩
theorem bK.at {P:Addr->Prop} {H:Hp}:∀{vs:List V} {ds:List D} {i:Nat} {v:V},bK P H vs ds->vs[i]?=some v->∃d,ds[i]?=some d/\Rep P H v d
 | _,_,_,_,.nil,e=>by simp at e
 | _,_,0,_,.cons r _,e=>by simp at e;subst e;exact ⟨_,rfl,r⟩
 | _,_,i+1,d,.cons _ t,e=>by
  obtain ⟨v,h1,h2⟩:=bK.at (i:=i) (v:=d) t (by simpa using e);exact ⟨v,by simpa using h1,h2⟩
theorem bK.append {P:Addr->Prop} {H:Hp}:∀{vs ws:List V} {ds es:List D},bK P H vs ds->bK P H ws es->bK P H (vs++ws) (ds++es)
 | _,_,_,_,.nil,s=>s
 | _,_,_,_,.cons r t,s=>.cons r (bK.append t s)
theorem bK.take {P:Addr->Prop} {H:Hp}:∀{vs:List V} {ds:List D} (n:Nat),bK P H vs ds->bK P H (vs.take n) (ds.take n)
 | _,_,0,_=>.nil
 | _,_,_+1,.nil=>.nil
 | _,_,n+1,.cons r t=>.cons r (bK.take n t)
theorem bK.drop {P:Addr->Prop} {H:Hp}:∀{vs:List V} {ds:List D} (n:Nat),bK P H vs ds->bK P H (vs.drop n) (ds.drop n)
 | _,_,0,r=>r
 | _,_,_+1,.nil=>.nil
 | _,_,n+1,.cons _ t=>bK.drop n t
theorem bK.set {P:Addr->Prop} {H:Hp} {v:V} {d:D} (r:Rep P H v d):∀{vs:List V} {ds:List D} (n:Nat),bK P H vs ds->bK P H (vs.set n v) (ds.set n d)
 | _,_,_,.nil=>.nil
 | _,_,0,.cons _ t=>.cons r t
 | _,_,n+1,.cons q t=>.cons q (bK.set r n t)
theorem bK.snoc {P:Addr->Prop} {H:Hp} {vs:List V} {ds:List D} {v:V} {d:D} (t:bK P H vs ds) (r:Rep P H v d):bK P H (vs++[v]) (ds++[d]):=t.append (.cons r .nil)
theorem Rep.uD {P:Addr->Prop} {H:Hp} {v:V}:¬Rep P H v .uD:=fun h=>by cases h
abbrev All:Addr->Prop:=fun _=>True
abbrev New (H:Hp):Addr->Prop:=fun a=>H a=none
theorem Rep.all {P:Addr->Prop} {H:Hp} {v:V} {d:D} (r:Rep P H v d):Rep All H v d:=r.mono fun _ _=>trivial
theorem bK.all {P:Addr->Prop} {H:Hp} {v:List V} {d:List D} (r:bK P H v d):bK All H v d:=r.mono fun _ _=>trivial
theorem cD.new {H H':Hp} (s:cD H H'):∀a,New H' a->New H a:=fun a h=>s.free h
theorem cD.upd {H:Hp} {a:Addr} {o:HO} (h:H a=none):cD H (upd H a o):=fun b u e=>by rw [bO (dJ e h)];exact e
noncomputable def ER (H:Hp) (σ:St) (ρ:List D):Prop:=∀i,ρ.getD i .uD≠.uD->∃v,σ[i]?=some (some v)/\Rep All H v (ρ.getD i .uD)
theorem ER.same {H H':Hp} {σ:St} {ρ:List D} (e:ER H σ ρ) (s:cD H H'):ER H' σ ρ:=fun i h=>by
 obtain ⟨v,h1,h2⟩:=e i h;exact ⟨v,h1,h2.same s⟩
section
variable (cf:Nat->List D->Res D) (ff:Nat->Bool)
end
theorem PE.imp {X:Cx} {e:PySem.Expr} {t t':TE} (h:PE X e t) (i:∀σ H Q,t' σ H Q->t σ H Q):PE X e t':=fun pins s σ H Q I q=>h pins s σ H Q I (i σ H Q q)
theorem PT.imp {X:Cx} {e:PySem.Expr} {t t':TT} (h:PT X e t) (i:∀σ H Q,t' σ H Q->t σ H Q):PT X e t':=fun pins s σ H Q I q=>h pins s σ H Q I (i σ H Q q)
theorem PA.imp {X:Cx} {e:List PySem.Expr} {t t':TA} (h:PA X e t) (i:∀σ H Q,t' σ H Q->t σ H Q):PA X e t':=fun pos pins s σ H Q I q=>h pos pins s σ H Q I (i σ H Q q)
end Mi
end
section
namespace L2
open PySem PySem.Spec PyProof.Rows
noncomputable def gG (own:List Str) (x:Str):Str:=if own.contains x then x++(" " : Str) else x
noncomputable def clF (env:Env):List (Str×NameKind)->List (Str×Addr)->List (Str×Addr)
 | [],acc=>acc
 | (n,k)::r,acc=>clF env r (if k==.free then (n,(env.cells.lookup n).getD 0)::acc else acc)
theorem nJ {env:Env}:∀(names:List (Str×NameKind)) (acc:List (Str×Addr)),(∀y∈names,y.2=.free->∃c,env.cells.lookup y.1=some c)->
  (forIn names acc fun x cs=>(match x with
   | (name,kind)=>if (kind==.free)=true then cellOf env name >>= fun c=>pure (ForInStep.yield ((name,c)::cs)) else pure (ForInStep.yield cs):Sem (ForInStep (List (Str×Addr)))))=(pure (clF env names acc):Sem _)
 | [],acc,_=>by rw [List.forIn_nil];rfl
 | (n,k)::r,acc,h=>by
  rw [List.forIn_cons];by_cases hk:(k==.free)=true
  ·have hk':k=.free:=by simpa using hk
   obtain ⟨c,e⟩:=h (n,k) (List.mem_cons_self ..) hk';have e':cellOf env n=pure c:=by
    unfold cellOf;have e2:env.cells.lookup n=some c:=e;rw [e2]
   dsimp only;rw [if_pos hk,e',pure_bind,pure_bind];dsimp only;rw [nJ r _ fun y hy=>h y (List.mem_cons_of_mem _ hy)];have e2:env.cells.lookup n=some c:=e;simp only [clF,hk,if_true,e2,Option.getD_some]
  ·dsimp only;rw [if_neg hk,pure_bind];dsimp only;rw [nJ r _ fun y hy=>h y (List.mem_cons_of_mem _ hy)];simp only [clF,hk,Bool.false_eq_true,if_false]
theorem CJ {env:Env} {scope:Scope} (h:∀y∈scope.names,y.2=.free->∃c,env.cells.lookup y.1=some c):closureFor scope env=pure (clF env scope.names []):=by
 unfold closureFor;have:=nJ (env:=env) scope.names [] h;simp only [bind_pure] at *;exact this
theorem wU {env:Env}:∀{names:List (Str×NameKind)} {acc:List (Str×Addr)} {x:Str} {c:Addr},(∀y∈names,y.2=.free->∃c,env.cells.lookup y.1=some c)->(∀x c,acc.lookup x=some c->env.cells.lookup x=some c)->
  (clF env names acc).lookup x=some c->env.cells.lookup x=some c
 | [],acc,x,c,_,h,e=>h x c e
 | (n,k)::r,acc,x,c,q,h,e=>by
  unfold clF at e;refine wU (fun y hy=>q y (List.mem_cons_of_mem _ hy)) (fun y d hy=>?_) e;by_cases hk:(k==.free)=true
  ·rw [if_pos hk,List.lookup_cons] at hy;obtain ⟨c',e'⟩:=q (n,k) (List.mem_cons_self ..) (by simpa using hk);have e2:env.cells.lookup n=some c':=e';cases hyn:y==n with
   | true=>
    rw [hyn] at hy;have:y=n:=by simpa using hyn
    subst this;rw [e2] at hy;simp only [Option.getD_some] at hy;rw [e2];exact hy
   | false=>rw [hyn] at hy;exact h y d hy
  ·rw [if_neg hk] at hy;exact h y d hy
theorem IW {env:Env}:∀{names:List (Str×NameKind)} {acc:List (Str×Addr)} {x:Str},(∃c,acc.lookup x=some c)->∃c,(clF env names acc).lookup x=some c
 | [],_,_,h=>h
 | (n,k)::r,acc,x,⟨c,h⟩=>by
  unfold clF;refine IW ?_;by_cases hk:(k==.free)=true
  ·rw [if_pos hk,List.lookup_cons];cases x==n with
   | true=>exact ⟨_,rfl⟩
   | false=>exact ⟨c,h⟩
  ·rw [if_neg hk];exact ⟨c,h⟩
theorem wV {env:Env}:∀{names:List (Str×NameKind)} {acc:List (Str×Addr)} {x:Str},(x,NameKind.free)∈names->∃c,(clF env names acc).lookup x=some c
 | (n,k)::r,acc,x,h=>by
  unfold clF;rcases List.mem_cons.mp h with e|h
  ·cases e;refine IW ?_;rw [if_pos (by decide),List.lookup_cons];simp
  ·exact wV h
structure cM (N:List Str) (sc scope:Scope) (own:List Str):Prop where
 kind:scope.kind=.function
 nocell:∀y∈scope.names,y.2≠.cell
 names:∀y∈scope.names,y.2=.local->scope.names.lookup y.1=some .local
 free:∀y∈scope.names,y.2=.free->sc.names.lookup y.1=some .cell\/sc.names.lookup y.1=some .free
 ownl:∀x∈own,scope.names.lookup x=some .local
 hid:∀x∈own,scope.names.lookup (x++(" " : Str))=none
 loc:∀y∈scope.names,y.2=.local->y.1∈own\/y.1∉N
structure cH (X X':Cx) (scope:Scope) (own:List Str):Prop where
 prog:X'.prog=X.prog
 w:X'.w=X.w
 K:X'.K=X.K
 mg:X'.mg=X.mg
 base:X'.base=X.base
 A:X'.A=X.A
 N:X'.N=X.N.map (gG own)++own
 scope:X'.env.scope=relabel scope X.env
 calm:X'.calm=X.calm
 xe:X'.xe=fun _ _=>False
noncomputable def yO (X:Cx) (scope:Scope) (cl:List (Str×Addr)) (C:Addr) (own:List Str) (s₂:Shared) (H₂:Hp) (fp:List Addr):Cx:=
 {X with N:=X.N.map (gG own)++own,s₀:=s₂,H₀:=H₂,env:=compEnvC scope cl C X.env,outer:=X.stack,stack:=X.stack,ex:=fp,fn:=fun _=>false,pn:=[],xe:=fun _ _=>False}
theorem I_ {X:Cx} {scope:Scope} {cl:List (Str×Addr)} {C:Addr} {own:List Str} {s₂:Shared} {H₂:Hp} {fp:List Addr}:cH X (yO X scope cl C own s₂ H₂ fp) scope own:=
 ⟨rfl,rfl,rfl,rfl,rfl,rfl,rfl,rfl,rfl,rfl⟩
noncomputable def Ext (σ σ2:St):Prop:=σ2.length=σ.length/\∀(i:Nat) v,σ[i]?=some (some v)->σ2[i]?=some (some v)
noncomputable def wW (wi:TI) (g:TG) (tc:TT) (te:TE) (m:Nat):TE:=fun σ H Q=>wi σ H fun J H1=>∀p,H1 p=none->
 ∃W:Nat->Nat->List V->Hp->Prop,(∃n,W 0 n [] (upd H1 p (.lst [])))/\∀i n ys H,W i n ys H->H p=some (.lst ys)/\((J.stop i H/\Q (.ref p) H)\/(J.go i H/\ys.length<sizeLine/\
  ∀x H2,J.yld i H x H2->g x (σ++List.replicate m none) H2 fun σ2 H3=>Ext (σ++List.replicate m none) σ2/\tc σ2 H3 fun b H4=>if b=true then te σ2 H4 fun y H5=>H5 p=some (.lst ys)/\∃n',n'<n/\W (i+1) n' (ys++[y]) (upd H5 p (.lst (ys++[y])))
   else ∃n',n'<n/\W (i+1) n' ys H4))
section
variable {X:Cx} {scope:Scope} {own:List Str}
theorem Inv.comp {pins:List (Addr×Obj)} {σ:St} {H2:Hp} {s2:Shared} {fp:List Addr} {h1:Heap} {t1:Nat} (I:Inv X pins σ H2 s2) (S:cM X.N X.env.scope scope own) (hf:∀b∈fp,yF X pins H2 b)
  (hfx:∀b∈fp,b<s2.heap.objs.size) (hns:h1.Ns (s2.heap.objs.size+1) (fun _=>none))
  (hk:∀b o,s2.heap.get? b=some o->h1.get? b=some o) (hacc:h1.get? s2.heap.objs.size=some {cls:=.type "list",data:=.seq #[]}) :
  Inv (yO X scope (clF X.env scope.names []) (s2.heap.objs.size+1) own s2 H2 fp) [] (σ++List.replicate own.length none) (upd H2 s2.heap.objs.size (.lst [])) {s2 with heap:=h1,toks:=t1}:=by
 have hD:H2 s2.heap.objs.size=none:=I.hok.fresh (Nat.le_refl _);have hC:H2 (s2.heap.objs.size+1)=none:=I.hok.fresh (Nat.le_succ _);have cells:∀y∈scope.names,y.2=.free->∃c,X.env.cells.lookup y.1=some c:=fun y hy hk=>I.ok.has y.1 (S.free y hy hk)
 have sub:∀x c,(clF X.env scope.names []).lookup x=some c->X.env.cells.lookup x=some c:=fun x c e=>wU cells (fun _ _ h=>by simp at h) e
 have relk:∀x,(relabel scope X.env).names.lookup x=some .cell\/(relabel scope X.env).names.lookup x=some .free->(x,NameKind.free)∈scope.names:=by
  intro x hx;have go:∀(l:List (Str×NameKind)),(∀y∈l,y.2≠.cell)->((l.map fun (n,k)=>if (k==NameKind.free&&X.env.scope.kind==.function&&X.env.kindOf n==some .cell) then (n,NameKind.cell) else (n,k)).lookup x=some .cell\/(l.map fun (n,k)=>if (k==NameKind.free&&X.env.scope.kind==.function&&X.env.kindOf n==some .cell) then (n,NameKind.cell) else (n,k)).lookup x=some .free)->(x,NameKind.free)∈l:=by
   intro l;induction l with
   | nil=>intro _ h;rcases h with h|h <;> simp at h
   | cons p l ih=>
    obtain ⟨n,k⟩:=p;intro nc h;rw [List.map_cons] at h;dsimp only at h;by_cases hc:(k==NameKind.free&&X.env.scope.kind==.function&&X.env.kindOf n==some .cell)=true
    ·rw [if_pos hc] at h;rw [List.lookup_cons] at h;cases e:x==n with
     | true=>
      have:x=n:=by simpa using e
      subst this;simp only [Bool.and_eq_true] at hc;have:k=.free:=by simpa using hc.1.1
      subst this;exact List.mem_cons_self ..
     | false=>
      rw [e] at h;exact List.mem_cons_of_mem _ (ih (fun y hy=>nc y (List.mem_cons_of_mem _ hy)) h)
    ·rw [if_neg hc] at h;rw [List.lookup_cons] at h;cases e:x==n with
     | true=>
      have:x=n:=by simpa using e
      subst this;rw [e] at h;dsimp only at h;rcases h with h|h
      ·exact absurd (Option.some.inj h) (nc (x,k) (List.mem_cons_self ..))
      ·have:=Option.some.inj h;subst this;exact List.mem_cons_self ..
     | false=>
      rw [e] at h;exact List.mem_cons_of_mem _ (ih (fun y hy=>nc y (List.mem_cons_of_mem _ hy)) h)
  exact go scope.names S.nocell hx
 have hne:s2.heap.objs.size≠s2.heap.objs.size+1:=Nat.ne_of_lt (Nat.lt_succ_self _);have hlt:∀b o,s2.heap.get? b=some o->b<s2.heap.objs.size:=fun b o e=>Heap.lt_size e
 have hstk:∀b∈frs X.stack,b<s2.heap.objs.size:=fun b hb=>by
  obtain ⟨_,o,ho,_⟩:=I.stack.mem hb;exact hlt b o ho
 refine ⟨⟨I.mod,?_,I.ok.glob,I.ok.blt,Nat.le_succ _,fun x y c e1 e2=>I.ok.inj x y c (sub x c e1) (sub y c e2),fun x hx=>?_,fun _ _ h=>(by cases h),I.ok.hd,I.ok.frames,.inl rfl,fun b hb=>?_,fun b o e=>I.bs b o e,?_,fun b o e hb=>?_,fun b hb hz=>?_,I.stack,I.GP⟩,
  rfl,I.bare,Un.laid hk (Nat.le_refl _) hD,?_,fun x c e=>?_,?_,fun x c e=>?_,fun p hp=>(by simp [yO] at hp),?_,?_⟩
 ·exact S.kind
 ·have hx':(relabel scope X.env).names.lookup x=some .cell\/(relabel scope X.env).names.lookup x=some .free:=hx;exact wV (relk x hx')
 ·refine ⟨Nat.ne_of_lt (Nat.lt_succ_of_lt (hfx b hb)),fun x c e z=>?_⟩;exact (hf b hb).2.2.2.2.1 x c (sub x c e) z
 ·exact Nat.le_trans I.ok.bsz I.sz
 ·rcases (hf b hb).2.2.2.1 with z|z
  ·exact I.ok.noex b o e z
  ·exact absurd (Nat.lt_of_lt_of_le (Heap.lt_size e) (Nat.le_trans I.ok.bsz z)) (Nat.lt_irrefl _)
 ·rcases List.mem_cons.mp (I.yC b hz) with z'|z'
  ·exact (hf b hb).2.1 z'
  ·exact (hf b hb).2.2.1 z'
 ·refine ⟨_,hns,fun i x v e1 e2 e3=>?_⟩;have hi:i<σ.length:=by
   rcases Nat.lt_or_ge i σ.length with h|h
   ·exact h
   ·rw [List.getElem?_append_right h,List.getElem?_replicate] at e2;split at e2 <;> cases e2
  rw [List.getElem?_append_left hi] at e2;have hiN:i<X.N.length:=by rw [<-I.len];exact hi
  have e1':(X.N.map (gG own))[i]?=some x:=by
   have:(X.N.map (gG own)++own)[i]?=some x:=e1;rwa [List.getElem?_append_left (by rw [List.length_map];exact hiN)] at this
  rw [List.getElem?_map] at e1';obtain ⟨y,hy,ey⟩:=Option.map_eq_some_iff.mp e1';have hyN:y∈X.N:=List.mem_of_getElem? hy;have e3':(relabel scope X.env).names.lookup x=some .local\/(relabel scope X.env).names.lookup x=some .cell\/(relabel scope X.env).names.lookup x=some .free:=e3;have keys:∀z k,(relabel scope X.env).names.lookup z=some k->∃k',scope.names.lookup z=some k'/\(k=.local->k'=.local):=by
   intro z k;show (scope.names.map fun (n,k)=>if (k==NameKind.free&&X.env.scope.kind==.function&&X.env.kindOf n==some .cell) then (n,NameKind.cell) else (n,k)).lookup z=some k->_;generalize scope.names=l;induction l with
   | nil=>intro h;simp at h
   | cons p l ih=>
    obtain ⟨n,k0⟩:=p;intro h;rw [List.map_cons] at h;dsimp only at h;by_cases hc:(k0==NameKind.free&&X.env.scope.kind==.function&&X.env.kindOf n==some .cell)=true
    ·rw [if_pos hc,List.lookup_cons] at h;rw [List.lookup_cons];cases e:z==n with
     | true=>
      rw [e] at h;dsimp only at h;cases h;exact ⟨k0,rfl,fun q=>by cases q⟩
     | false=>rw [e] at h;exact ih h
    ·rw [if_neg hc,List.lookup_cons] at h;rw [List.lookup_cons];cases e:z==n with
     | true=>
      rw [e] at h;dsimp only at h;cases h;exact ⟨_,rfl,fun q=>q⟩
     | false=>rw [e] at h;exact ih h
  by_cases hown:own.contains y=true
  ·exfalso;have ex:x=y++(" " : Str):=by rw [<-ey];unfold gG;rw [if_pos hown]
   have hn:=S.hid y (by simpa using hown);rw [<-ex] at hn;rcases e3' with q|q|q
   all_goals
    obtain ⟨k',hk',_⟩:=keys _ _ q;rw [hn] at hk';cases hk'
  ·have ex:x=y:=by rw [<-ey];unfold gG;rw [if_neg hown]
   subst ex;rcases e3' with q|q
   ·exfalso;obtain ⟨k',hk',hl⟩:=keys _ _ q;have:=hl rfl;subst this;rcases S.loc _ (PySem.mem_of_lookup hk') rfl with z|z
    ·exact hown (by simpa using z)
    ·exact z hyN
   ·have hfr:=relk x q;have hv:=S.free _ hfr rfl;obtain ⟨m,_,hl⟩:=I.loc;obtain ⟨u,ru,lk⟩:=hl i x v hy e2 (.inr hv);refine ⟨u,ru,.inr ⟨q,?_⟩⟩;rcases lk with ⟨z,_⟩|⟨_,c,hc,o,ho,hd⟩
    ·have z':X.env.scope.names.lookup x=some .local:=z;rcases hv with hv|hv <;> (rw [z'] at hv;cases hv)
    ·obtain ⟨c',hc'⟩:=wV (env:=X.env) (acc:=[]) hfr;have:=sub x c' hc';rw [hc] at this;cases this;exact ⟨c,hc',o,hk c o ho,hd⟩
 ·obtain ⟨v,z⟩:=I.cell x c (sub x c e);obtain ⟨o,ho,hd⟩:=z;exact ⟨v,o,hk c o ho,hd⟩
 ·show upd H2 _ _ (s2.heap.objs.size+1)=none;rw [bO (Ne.symm hne)];exact hC
 ·obtain ⟨v,o,ho,_⟩:=I.cell x c (sub x c e);show upd H2 _ _ c=none;rw [bO (Nat.ne_of_lt (hlt c o ho))];exact I.freeC x c (sub x c e)
 ·exact I.hok.laid hk (Nat.le_refl _) ⟨Nat.zero_le _,[],0,.nil,hacc⟩
 ·show (σ++List.replicate own.length none).length=(X.N.map (gG own)++own).length;rw [List.length_append,List.length_append,List.length_replicate,List.length_map,I.len]
end
section
variable {X:Cx} {scope:Scope} {own:List Str}
noncomputable def cI (X':Cx) (σ:St) (fp:List Addr) (tn:Nat->Heap->Prop) (W:Nat->Nat->List V->Hp->Prop) (n:Nat) (s:Shared):Prop:=∃i ys H',Inv X' [] σ H' s/\tn i s.heap/\(∀b∈fp,H' b=none)/\W i n ys H'
noncomputable abbrev cE (X X':Cx) (use:Option (Value->Sem Unit)) (QQ:Value->Shared->Prop) (p:Addr):Value->Shared->Prop:=notedBy (model X.prog X.w) X.A X'.env fun e s'=>compPost (model X.prog X.w) X.A X.xe use QQ (.ref p) (p+1) (.error e) s'
noncomputable def cB (X':Cx) (σ:St) (fp:List Addr) (tn:Nat->Heap->Prop) (W:Nat->Nat->List V->Hp->Prop) (n i:Nat) (h:Heap):Prop:=∀{ys':List V} {H9:Hp} {s9:Shared} {σ9:St},Ext σ σ9->Inv X' ([]++o8 fp h) σ9 H9 s9->(∃n',n'<n/\W (i+1) n' ys' H9)->∃m,m<n/\cI X' σ fp tn W m s9
theorem wX {elt iter tg:Expr} {ifs:List Expr} {wi:TI} {g:TG} {tc:TT} {te:TE} {pos ps:Pos} {use:Option (Value->Sem Unit)} {QQ:Value->Shared->Prop} {pins:List (Addr×Obj)} {s:Shared} {σ:St} {H:Hp} {R:VK} (S:cM X.N X.env.scope scope own) (hcalm:X.calm=true) (hi:PI X tg iter wi)
  (hg:∀X',cH X X' scope own->PG X' tg g) (hc:(ifs=[]/\tc=fun _ H Q=>Q true H)\/∃c,ifs=[c]/\∀X',cH X X' scope own->PT X' c tc) (he:∀X',cH X X' scope own->PE X' elt te)
  (hs:∀x,foldedSetIterable iter X.env x=pure x) (I:Inv X pins σ H s) (h:wW wi g tc te own.length σ H R)
  (last:∀{p C:Addr} {H5:Hp} {s6:Shared} {m6:Str->Option Value},Inv X pins σ H5 s6->yF X pins H5 C->s6.heap.Ns C m6->R (.ref p) H5->compPost (model X.prog X.w) X.A X.xe use QQ (.ref p) C (.ok .next) s6) :
  wpAny (model X.prog X.w) X.A (comprehension (.ListComp elt [⟨tg,iter,ifs,0⟩] scope pos) scope X.env ps (newList []) false (eval iter X.env) use) QQ X.xe s:=by
 have cells:∀y∈scope.names,y.2=.free->∃c,X.env.cells.lookup y.1=some c:=fun y hy hk=>I.ok.has y.1 (S.free y hy hk)
 refine wpAny_comprehension_free rfl hs (CJ cells) S.kind S.names (thn (hi pins s σ H _ I h) fun xv s1 h1=>thn h1 fun itv s2 h2=>?_);obtain ⟨it,fp,tn,J,H2,e,I2,T,st2,f2,hW⟩:=h2;subst e;have hD:H2 s2.heap.objs.size=none:=I2.hok.fresh (Nat.le_refl _);obtain ⟨W,⟨n0,w0⟩,turn⟩:=hW _ hD;have hfx:∀b∈fp,b<s2.heap.objs.size:=fun b hb=>by
  obtain ⟨o,ho,_⟩:=T.obj 0 _ st2 b hb;exact Heap.lt_size ho
 refine wpAny_newObj_type (wpAny_newFunctionEnv S.nocell (by intro y hy;simp at hy) (fun h₁ hns₁ hsb₁=>?_) S.kind);dsimp only at hns₁ hsb₁ ⊢;have hC:(s2.heap.push {cls:=.type "list",dict:=none,data:=.seq ([]:List Value).toArray}).objs.size=s2.heap.objs.size+1:=Heap.size_push ..;have hne:s2.heap.objs.size≠s2.heap.objs.size+1:=Nat.ne_of_lt (Nat.lt_succ_self _);rw [hC] at hns₁ hsb₁ ⊢;have old:∀b o,s2.heap.get? b=some o->h₁.get? b=some o:=fun b o e=>hsb₁.extBut b o (Nat.ne_of_lt (Nat.lt_succ_of_lt (Heap.lt_size e))) (Heap.get?_push_of_some _ (Heap.get?_push_of_some _ e))
 have hacc:h₁.get? s2.heap.objs.size=some {cls:=.type "list",data:=.seq #[]}:=hsb₁.extBut _ _ hne (Heap.get?_push_of_some _ (Heap.get?_push_size _ rfl));have I4:=Inv.comp (t1:=s2.toks+([]:List (Str×Value)).length) I2 S f2 hfx hns₁ old hacc;generalize hX':yO X scope (clF X.env scope.names []) (s2.heap.objs.size+1) own s2 H2 fp=X' at I4;have cc:cH X X' scope own:=by rw [<-hX'];exact I_
 have eenv:X'.env=compEnvC scope (clF X.env scope.names []) (s2.heap.objs.size+1) X.env:=by rw [<-hX'];rfl
 have eA:X'.A=X.A:=cc.A;have ep:X'.prog=X.prog:=cc.prog;have ew:X'.w=X.w:=cc.w;have efs:X'.fs=frs X.stack:=by rw [<-hX'];rfl
 have eex:X'.ex=fp:=by rw [<-hX'];rfl
 have es0:X'.s₀=s2:=by rw [<-hX'];rfl
 have eH0:X'.H₀=H2:=by rw [<-hX'];rfl
 have epn:X'.pn=[]:=by rw [<-hX'];rfl
 have eK:X'.K=X.K:=cc.K;have exe:=cc.xe;have ecalm:X'.calm=true:=cc.calm.trans hcalm
 -- the iterator's records within the block
 have fpok:∀{H':Hp},(∀b∈fp,H' b=none)->∀b∈fp,yF X' [] H' b:=fun {H'} hn b hb=>by
  obtain ⟨_,f1,f3,_,f5,_⟩:=f2 b hb;refine ⟨hn b hb,?_,?_,.inl (by rw [eex];exact hb),fun x c e=>?_,fun p hp=>by rw [epn] at hp;simp at hp⟩
  ·rw [eenv];exact Nat.ne_of_lt (Nat.lt_succ_of_lt (hfx b hb))
  ·rw [efs];intro z;rcases List.mem_cons.mp (I2.yC b z) with z|z
   ·exact f1 z
   ·exact f3 z
  ·rw [eenv] at e;exact f5 x c (wU cells (fun _ _ h=>by simp at h) e)
 have st4:tn 0 h₁:=T.keep _ _ _ st2 fun b _ o e=>old b o e
 have fr4:∀b∈fp,(upd H2 s2.heap.objs.size (.lst [])) b=none:=fun b hb=>by rw [bO (Nat.ne_of_lt (hfx b hb))];exact (f2 b hb).1
 have loop:∀s4:Shared,s4={s2 with heap:=h₁,toks:=s2.toks+([]:List (Str×Value)).length}->
   codeAny (model X.prog X.w) X.A (.compLoop (.ListComp elt [⟨tg,iter,ifs,0⟩] scope pos) 0 (.ref it) (.ref s2.heap.objs.size) X'.env)
    (compPost (model X.prog X.w) X.A X.xe use QQ (.ref s2.heap.objs.size) (s2.heap.objs.size+1)) s4:=by
  rintro s4 rfl;have put:∀(n i:Nat) (ys:List V) (s7:Shared) (σ8:St) (H8:Hp) (s8:Shared),cB X' (σ++List.replicate own.length none) fp tn W n i s7.heap->Inv X' ([]++o8 fp s7.heap) σ8 H8 s8->Ext (σ++List.replicate own.length none) σ8->ys.length<sizeLine->(te σ8 H8 fun y H5=>H5 s2.heap.objs.size=some (.lst ys)/\∃n',n'<n/\W (i+1) n' (ys++[y]) (upd H5 s2.heap.objs.size (.lst (ys++[y]))))->
    wpAny (model X.prog X.w) X.A (eval elt X'.env) (fun x s₄=>wpAny (model X.prog X.w) X.A (call (.builtin "list.append") [.ref s2.heap.objs.size,x]) (fun _ s₅=>∃m,m<n/\cI X' (σ++List.replicate own.length none) fp tn W m s₅) (cE X X' use QQ s2.heap.objs.size) s₄) (cE X X' use QQ s2.heap.objs.size) s8:=by
   intro n i ys s7 σ8 H8 s8 back I8 ext8 hlen q8;have he':=he X' cc _ s8 _ H8 _ I8 q8;rw [ep,ew,eA,exe] at he';refine wpAny_mono he' (fun yv s10 ⟨y,H10,I10,r10,p10,q10⟩=>?_) fun _ _ z=>False.elim z
   have hm:=uG (X:=X') _ s10 σ8 H10 (.ref s2.heap.objs.size) [y] (.ref s2.heap.objs.size) [yv] (fun _ H11=>∃n',n'<n/\W (i+1) n' (ys++[y]) H11) I10 rfl (.cons r10 .nil) ⟨s2.heap.objs.size,ys,y,rfl,rfl,p10,hlen,q10⟩;rw [ep,ew,eA,exe] at hm;exact wpAny_mono hm (fun _ s11 ⟨_,H11,I11,_,q11⟩=>back ext8 I11 q11) fun _ _ z=>False.elim z
  have key:∀(PO:Nat->Shared->Prop),(∀(n i:Nat) (ys:List V) (s7:Shared) (σ8:St) (H8:Hp) (s8:Shared),cB X' (σ++List.replicate own.length none) fp tn W n i s7.heap->Inv X' ([]++o8 fp s7.heap) σ8 H8 s8->Ext (σ++List.replicate own.length none) σ8->ys.length<sizeLine->(tc σ8 H8 fun b H4=>if b=true then te σ8 H4 fun y H5=>H5 s2.heap.objs.size=some (.lst ys)/\∃n',n'<n/\W (i+1) n' (ys++[y]) (upd H5 s2.heap.objs.size (.lst (ys++[y]))) else ∃n',n'<n/\W (i+1) n' ys H4)->PO n s8)->
    ∀n s5,(cI X' (σ++List.replicate own.length none) fp tn W n s5)->wpAny (model X.prog X.w) X.A (pyNext (.ref it)) (fun r s₁=>match r with
     | none=>compPost (model X.prog X.w) X.A X.xe use QQ (.ref s2.heap.objs.size) (s2.heap.objs.size+1) (.ok .next) s₁
     | some v=>wpAny (model X.prog X.w) X.A (letOwnedTupleGo tg (.ref it) v) (fun _ s₀=>wpAny (model X.prog X.w) X.A (assign tg X'.env v) (fun _ s₂=>PO n s₂) (cE X X' use QQ s2.heap.objs.size) s₀) (cE X X' use QQ s2.heap.objs.size) s₁) (cE X X' use QQ s2.heap.objs.size) s5:=by
   intro PO hPO;rintro n s5 ⟨i,ys,H5,I5,st5,fr5,w5⟩;obtain ⟨hacc5,tr⟩:=turn i n ys H5 w5;rcases tr with ⟨stop,q⟩|⟨go,hlen,step⟩
   ·have done:=T.done X' ep ew eK ecalm i [] s5 _ H5 (cE X X' use QQ s2.heap.objs.size) I5 (fpok fr5) st5 stop;rw [eA] at done;refine thn done fun r s6 ⟨hr,I6⟩=>?_
    subst hr;obtain ⟨m6,hn6,_⟩:=id I6.loc;rw [eenv] at hn6;have u6:Un (frs X.stack) fp H2 H5 s2.heap s6.heap:=by
     have:=I6.base;rw [efs,eex,eH0,es0] at this;exact this
    have hCn:H5 (s2.heap.objs.size+1)=none:=by
     have:=I6.free;rw [eenv] at this;exact this
    have hok6:HOk X.prog X.w H5 s6.heap:=by
     have:=I6.hok;rw [ep,ew] at this;exact this
    have hos:s6.os=s2.os:=by have:=I6.os;rw [es0] at this;exact this
    obtain ⟨hh,gg,dd,tt,oo⟩:=s6;obtain rfl:oo=s2.os:=hos;have fin:=Inv.call (h':=hh) (g':=gg) (d':=dd) (t':=tt) (ch:=fp) I2 u6 hok6 I6.bare fun b hb=>⟨(f2 b hb).2.2.2.1,(f2 b hb).2.1,(f2 b hb).2.2.2.2.1,(f2 b hb).2.2.2.2.2⟩
    refine last fin ⟨hCn,Nat.ne_of_gt (Nat.lt_succ_of_lt I2.lt),I2.aEg (Nat.le_succ _),.inr (Nat.le_trans I2.sz (Nat.le_succ _)),fun x c e z=>?_,fun p hp z=>?_⟩ hn6 q
    ·obtain ⟨v,qq⟩:=I2.cell x c e;exact absurd (Nat.lt_succ_of_lt qq.lt) (by rw [z];exact Nat.lt_irrefl _)
    ·exact absurd (Nat.lt_succ_of_lt (Heap.lt_size (I2.pin p hp).1)) (by rw [z];exact Nat.lt_irrefl _)
   ·have item:=T.item X' ep ew eK ecalm i [] s5 _ H5 (cE X X' use QQ s2.heap.objs.size) I5 (fpok fr5) st5 go;rw [eA] at item;refine thn item fun r s6 ⟨u,hr,h6⟩=>?_
    subst hr;refine thn h6 fun _ s7 ⟨x,H7,I7,r7,y7,st7,fr7⟩=>?_
    have I7':=I7.pinned (fpok fr7) (T.obj _ _ st7);have hg':=hg X' cc _ s7 _ H7 x u _ I7' r7 (step x H7 y7);rw [ep,ew,eA,exe] at hg';refine wpAny_mono hg' (fun _ s8 ⟨σ8,H8,I8,ext8,q8⟩=>?_) fun _ _ z=>False.elim z
    have back:cB X' (σ++List.replicate own.length none) fp tn W n i s7.heap:=by
     rintro ys' H9 s9 σ9 ex9 I9 ⟨n',hn',w9⟩;refine ⟨n',hn',i+1,ys',H9,(I9.weak ex9.1.symm ex9.2).mL,T.keep _ _ _ st7 fun b hb o e=>(I9.pin (b,o) (List.mem_append_right _ (List.mem_append_right _ (lF hb e)))).1,fun b hb=>?_,w9⟩;obtain ⟨o,e,d⟩:=T.obj _ _ st7 b hb;exact (I9.pin (b,o) (List.mem_append_right _ (List.mem_append_right _ (lF hb e)))).2.1
    exact hPO n i ys s7 σ8 H8 s8 back I8 ext8 hlen q8
  rcases hc with ⟨rfl,rfl⟩|⟨c,rfl,hc⟩
  ·refine PySem.W.kcp_loop _ (key _ fun n i ys s7 σ8 H8 s8 back I8 ext8 hlen q8=>?_) n0 ⟨0,[],_,I4,st4,fr4,w0⟩;simp only [if_true] at q8;exact put n i ys s7 σ8 H8 s8 back I8 ext8 hlen q8
  ·refine PySem.W.kct_loop _ (key _ fun n i ys s7 σ8 H8 s8 back I8 ext8 hlen q8=>?_) n0 ⟨0,[],_,I4,st4,fr4,w0⟩;have hc':=hc X' cc _ s8 _ H8 _ I8 q8;rw [ep,ew,eA,exe] at hc';refine wpAny_mono hc' (fun b s9 ⟨H9,I9,q9⟩=>?_) fun _ _ z=>False.elim z
   cases b with
   | false=>
    simp only [Bool.false_eq_true,if_false] at q9 ⊢;exact back ext8 I9 q9
   | true=>
    simp only [if_true] at q9 ⊢;exact put n i ys s7 σ8 H9 s9 back I9 ext8 hlen q9
 have l4:=loop _ rfl;rw [eenv] at l4;exact codeAny_compStart_list l4 (T.self X.A 0 _ _ _ st4 l4)
theorem yP {pins:List (Addr×Obj)} {σ:St} {Q:VK} {p C:Addr} {H5:Hp} {s6:Shared} {m6:Str->Option Value} (f:Inv X pins σ H5 s6) (k:yF X pins H5 C) (n:s6.heap.Ns C m6) (q:Q (.ref p) H5):compPost (model X.prog X.w) X.A X.xe none (EP X pins σ Q) (.ref p) C (.ok .next) s6:=
 ⟨m6,n,fun h' sb=>⟨.ref p,H5,Inv.turned (t':=s6.toks) f (fun b o hb e=>sb.extBut b o hb e) k.1 k.2.1 k.2.2.2.1 k.2.2.2.2.1 k.2.2.2.2.2,rfl,q⟩⟩
theorem JB {elt iter tg c:Expr} {wi:TI} {g:TG} {tc:TT} {te:TE} {pos:Pos} (S:cM X.N X.env.scope scope own) (hcalm:X.calm=true) (hi:PI X tg iter wi)
  (hg:∀X',cH X X' scope own->PG X' tg g) (hc:∀X',cH X X' scope own->PT X' c tc) (he:∀X',cH X X' scope own->PE X' elt te)
  (hs:∀x,foldedSetIterable iter X.env x=pure x):PE X (.ListComp elt [⟨tg,iter,[c],0⟩] scope pos) (wW wi g tc te own.length):=by
 intro pins s σ H Q I h;rw [eval_ListComp];exact wX S hcalm hi hg (.inr ⟨c,rfl,hc⟩) he hs I h yP
theorem QS {elt iter tg:Expr} {wi:TI} {g:TG} {te:TE} {pos:Pos} (S:cM X.N X.env.scope scope own) (hcalm:X.calm=true) (hi:PI X tg iter wi)
  (hg:∀X',cH X X' scope own->PG X' tg g) (he:∀X',cH X X' scope own->PE X' elt te)
  (hs:∀x,foldedSetIterable iter X.env x=pure x):PE X (.ListComp elt [⟨tg,iter,[],0⟩] scope pos) (wW wi g (fun _ H Q=>Q true H) te own.length):=by
 intro pins s σ H Q I h;rw [eval_ListComp];exact wX S hcalm hi hg (.inl ⟨rfl,rfl⟩) he hs I h yP
end
end L2
end
section
namespace Mi
open PySem L2 PySem.SeqAt
variable [KFrag]
theorem i_ {X:Cx} {pins:List (Addr×Obj)} {σ:St} {H:Hp} {s:Shared} {a:Addr} {xs:List V} (I:Inv X pins σ H s) (e:H a=some (.tup xs)):∃its:List Value,Vals xs its/\s.heap.IsTuple a its.toArray:=by
 obtain ⟨_,its,r,p⟩:xs.length<=sizeLine/\∃its:List Value,Vals xs its/\iW s.heap a its.toArray:=I.hok a _ e;exact ⟨its,r,p.tup⟩
theorem jA {X:Cx} {pins:List (Addr×Obj)} {σ:St} {H:Hp} {s:Shared} {a:Addr} {xs:List V} (I:Inv X pins σ H s) (e:SqL X.K H a xs):∃its:List Value,Vals xs its/\s.heap.IsList a its.toArray:=by
 obtain ⟨its,r,p,_⟩:=I.list e;exact ⟨its,r,p.isList⟩
theorem Rep.gH {P:Addr->Prop} {H:Hp} {K:PySem.W.Frag} {v:V} {ds:List D} (r:Rep P H v (.lst ds)):∃a xs,v=.ref a/\SqL K H a xs/\bK P H xs ds:=by
 cases r with
 | lst e p r=>exact ⟨_,_,rfl,.inl (.inl e),r⟩
theorem Rep.dY {P:Addr->Prop} {H:Hp} {v:V} {ds:List D} (r:Rep P H v (.tup ds)):∃a xs,v=.ref a/\H a=some (.tup xs)/\bK P H xs ds:=by
 cases r with
 | tup e r=>exact ⟨_,_,rfl,e,r⟩
mutual
theorem rQ:∀(n:Nat) (d:D),d.bN n=true->eqD d d=true
 | _,.non,_=>rfl
 | _,.bl b,_=>by simp [eqD]
 | _,.int i,_=>by simp [eqD]
 | _,.str x,_=>by simp [eqD]
 | n+1,.tup xs,h=>by rw [D.bN] at h;rw [eqD];exact pH n xs h
 | n+1,.lst xs,h=>by rw [D.bN] at h;rw [eqD];exact pH n xs h
 | 0,.tup xs,h=>by simp [D.bN] at h
 | 0,.lst xs,h=>by simp [D.bN] at h
 | n,.dct _,h=>by cases n <;> simp [D.bN] at h
 | n,.uD,h=>by cases n <;> simp [D.bN] at h
 | n,.scr _,h=>by cases n <;> simp [D.bN] at h
 | n,.fdc _,h=>by cases n <;> simp [D.bN] at h
 | n,.cel _ _,h=>by cases n <;> simp [D.bN] at h
theorem pH:∀(n:Nat) (ds:List D),D.cA n ds=true->uM ds ds=true
 | _,[],_=>rfl
 | n,d::ds,h=>by
  rw [D.cA,Bool.and_eq_true] at h;rw [uM,rQ n d h.1,pH n ds h.2];rfl
end
mutual
theorem Rep.inj {P P':Addr->Prop} {H:Hp}:∀(n:Nat) {v:V} {d e:D},d.bN n=true->e.bN n=true->Rep P H v d->Rep P' H v e->d=e
 | _,_,_,_,_,_,.non,.non=>rfl
 | _,_,_,_,_,_,.bl _,.bl _=>rfl
 | _,_,_,_,_,_,.int _,.int _=>rfl
 | _,_,_,_,_,_,.str _,.str _=>rfl
 | n+1,_,.tup ds,_,h,h',.tup e1 r1,q=>by
  cases q with
  | tup e2 r2=>
   rw [e1] at e2;cases e2;rw [D.bN] at h h';rw [bK.inj n h h' r1 r2]
  | lst e2 _ _=>rw [e1] at e2;cases e2
  | frz e2 _=>simp [D.bN] at h'
  | fdK e2 _ _=>simp [D.bN] at h'
  | cel e2 _ _=>simp [D.bN] at h'
  | fdT e2 _ _=>simp [D.bN] at h'
  | dK e2 _ _ _=>rw [e1] at e2;cases e2
  | dT e2 _ _ _=>rw [e1] at e2;cases e2
 | n+1,_,.lst ds,_,h,h',.lst e1 p r1,q=>by
  cases q with
  | tup e2 r2=>rw [e1] at e2;cases e2
  | lst e2 _ r2=>
   rw [e1] at e2;cases e2;rw [D.bN] at h h';rw [bK.inj n h h' r1 r2]
  | frz e2 _=>simp [D.bN] at h'
  | fdK e2 _ _=>simp [D.bN] at h'
  | cel e2 _ _=>simp [D.bN] at h'
  | fdT e2 _ _=>simp [D.bN] at h'
  | dK e2 _ _ _=>rw [e1] at e2;cases e2
  | dT e2 _ _ _=>rw [e1] at e2;cases e2
 | 0,_,.tup ds,_,h,_,_,_=>by simp [D.bN] at h
 | 0,_,.lst ds,_,h,_,_,_=>by simp [D.bN] at h
 | n,_,.dct _,_,h,_,_,_=>by cases n <;> simp [D.bN] at h
 | n,_,.scr _,_,h,_,_,_=>by cases n <;> simp [D.bN] at h
 | n,_,.fdc _,_,h,_,_,_=>by cases n <;> simp [D.bN] at h
 | n,_,.cel _ _,_,h,_,_,_=>by cases n <;> simp [D.bN] at h
theorem bK.inj {P P':Addr->Prop} {H:Hp}:∀(n:Nat) {v:List V} {d e:List D},D.cA n d=true->D.cA n e=true->bK P H v d->bK P' H v e->d=e
 | _,_,_,_,_,_,.nil,.nil=>rfl
 | n,_,_,_,h,h',.cons r t,.cons r' t'=>by
  rw [D.cA,Bool.and_eq_true] at h h';rw [Rep.inj n h.1 h'.1 r r',bK.inj n h.2 h'.2 t t']
end
theorem nO:∀(xs ys:List D),uM xs ys=((List.range (min xs.length ys.length)).all (fun j=>eqD (xs.getD j .non) (ys.getD j .non))&&xs.length==ys.length)
 | [],[]=>by simp [uM]
 | [],y::ys=>by simp [uM]
 | x::xs,[]=>by simp [uM]
 | x::xs,y::ys=>by
  have e:min (x::xs).length (y::ys).length=min xs.length ys.length+1:=by simp only [List.length_cons];lia
  rw [uM,nO xs ys,e,List.range_succ_eq_map,List.all_cons,List.all_map,Bool.and_assoc]
  congr 1
  simp [Function.comp_def]
theorem fO {n:Nat}:∀{ds:List D} {j:Nat},D.cA n ds=true->j<ds.length->(ds.getD j .non).bN n=true
 | [],j,_,h=>by simp at h
 | d::ds,0,h,_=>by rw [D.cA,Bool.and_eq_true] at h;exact h.1
 | d::ds,j+1,h,hj=>by
  rw [D.cA,Bool.and_eq_true] at h;simpa using fO (ds:=ds) (j:=j) h.2 (by simpa using hj)
theorem bK.getD {P:Addr->Prop} {H:Hp} {vs:List V} {ds:List D} {j:Nat} (r:bK P H vs ds) (hj:j<ds.length):∃v,vs[j]?=some v/\Rep P H v (ds.getD j .non):=by
 obtain ⟨v,h1,h2⟩:=r.get (i:=j) (d:=ds.getD j .non) (by simp [hj]);exact ⟨v,h1,h2⟩
section
variable {X:Cx} {pins:List (Addr×Obj)} {σ:St} {H:Hp} {s:Shared}
theorem yQ (I:Inv X pins σ H s):∀(n:Nat) (A:Around) {x y:V} {a b:D} {u v:Value},A.units+n<cLine->a.bN n=true->b.bN n=true->Rep All H x a->Rep All H y b->RelV x u->RelV y v->
  RcAt A s u v (eqD a b)/\RcNeAt A s u v (!eqD a b)/\EqAt A s u v (eqD a b):=by
 intro n;induction n with
 | zero=>
  intro A x y a b u v hu ha hb rx ry ru rv;cases rx with
  | non=>
   cases ru;cases ry with
   | non=>cases rv;exact ⟨RcAt.none_none,RcNeAt.none_none,EqAt.same _⟩
   | bl _=>cases rv;exact ⟨RcAt.none_bool _,RcNeAt.none_bool _,EqAt.none_bool _⟩
   | int _=>obtain ⟨t,rfl⟩:=rv;exact ⟨RcAt.none_int _ _,RcNeAt.none_int _ _,EqAt.none_int _ _⟩
   | str _=>obtain ⟨t,rfl⟩:=rv;exact ⟨RcAt.none_str _ _,RcNeAt.none_str _ _,EqAt.none_str _ _⟩
   | _=>simp [D.bN] at hb
  | bl _=>
   cases ru;cases ry with
   | non=>cases rv;exact ⟨RcAt.bool_none _,RcNeAt.bool_none _,EqAt.bool_none _⟩
   | bl _=>cases rv;exact ⟨RcAt.bool_bool _ _,RcNeAt.bool_bool _ _,EqAt.bool_bool _ _⟩
   | int _=>obtain ⟨t,rfl⟩:=rv;exact ⟨RcAt.bool_int _ _ _,RcNeAt.bool_int _ _ _,EqAt.bool_int _ _ _⟩
   | str _=>obtain ⟨t,rfl⟩:=rv;exact ⟨RcAt.bool_str _ _ _,RcNeAt.bool_str _ _ _,EqAt.bool_str _ _ _⟩
   | _=>simp [D.bN] at hb
  | int _=>
   obtain ⟨t,rfl⟩:=ru;cases ry with
   | non=>cases rv;exact ⟨RcAt.int_none _ _,RcNeAt.int_none _ _,EqAt.int_none _ _⟩
   | bl _=>cases rv;exact ⟨RcAt.int_bool _ _ _,RcNeAt.int_bool _ _ _,EqAt.int_bool _ _ _⟩
   | int _=>obtain ⟨t',rfl⟩:=rv;exact ⟨RcAt.int_int _ _ _ _,RcNeAt.int_int _ _ _ _,EqAt.int_int _ _ _ _⟩
   | str _=>obtain ⟨t',rfl⟩:=rv;exact ⟨RcAt.int_str _ _ _ _,RcNeAt.int_str _ _ _ _,EqAt.int_str _ _ _ _⟩
   | _=>simp [D.bN] at hb
  | str _=>
   obtain ⟨t,rfl⟩:=ru;cases ry with
   | non=>cases rv;exact ⟨RcAt.str_none _ _,RcNeAt.str_none _ _,EqAt.str_none _ _⟩
   | bl _=>cases rv;exact ⟨RcAt.str_bool _ _ _,RcNeAt.str_bool _ _ _,EqAt.str_bool _ _ _⟩
   | int _=>obtain ⟨t',rfl⟩:=rv;exact ⟨RcAt.str_int _ _ _ _,RcNeAt.str_int _ _ _ _,EqAt.str_int _ _ _ _⟩
   | str _=>obtain ⟨t',rfl⟩:=rv;exact ⟨RcAt.str_str _ _ _ _,RcNeAt.str_str _ _ _ _,EqAt.str_str _ _ _ _⟩
   | _=>simp [D.bN] at hb
  | _=>simp [D.bN] at ha
 | succ n ih=>
  intro A x y a b u v hu ha hb rx ry ru rv;have hu0:A.units<cLine:=by lia
  have hu1:A.in1.units+n<cLine:=by show A.units+1+n<cLine;lia
  cases a with
  | uD=>exact absurd rx Rep.uD
  | dct _=>simp [D.bN] at ha
  | scr _=>simp [D.bN] at ha
  | fdc _=>simp [D.bN] at ha
  | cel _ _=>simp [D.bN] at ha
  | non=>
   cases rx;cases ru;cases b with
   | uD=>exact absurd ry Rep.uD
   | dct _=>simp [D.bN] at hb
   | scr _=>simp [D.bN] at hb
   | fdc _=>simp [D.bN] at hb
   | cel _ _=>simp [D.bN] at hb
   | non=>cases ry;cases rv;exact ⟨RcAt.none_none,RcNeAt.none_none,EqAt.same _⟩
   | bl _=>cases ry;cases rv;exact ⟨RcAt.none_bool _,RcNeAt.none_bool _,EqAt.none_bool _⟩
   | int _=>cases ry;obtain ⟨t2,rfl⟩:=rv;exact ⟨RcAt.none_int _ _,RcNeAt.none_int _ _,EqAt.none_int _ _⟩
   | str _=>cases ry;obtain ⟨t2,rfl⟩:=rv;exact ⟨RcAt.none_str _ _,RcNeAt.none_str _ _,EqAt.none_str _ _⟩
   | tup es=>
    obtain ⟨q,ys,rfl,e2,r2⟩:=ry.dY;cases rv;obtain ⟨its2,vr2,h2⟩:=i_ I e2;exact ⟨RcAt.none_tuple h2 hu0,RcNeAt.none_tuple h2 hu0,EqAt.none_tuple h2 hu0⟩
   | lst es=>
    obtain ⟨q,ys,rfl,e2,r2⟩:=ry.gH (K:=X.K);cases rv;obtain ⟨its2,vr2,h2⟩:=jA I e2;exact ⟨RcAt.none_list h2 hu0,RcNeAt.none_list h2 hu0,EqAt.none_list h2 hu0⟩
  | bl _=>
   cases rx;cases ru;cases b with
   | uD=>exact absurd ry Rep.uD
   | dct _=>simp [D.bN] at hb
   | scr _=>simp [D.bN] at hb
   | fdc _=>simp [D.bN] at hb
   | cel _ _=>simp [D.bN] at hb
   | non=>cases ry;cases rv;exact ⟨RcAt.bool_none _,RcNeAt.bool_none _,EqAt.bool_none _⟩
   | bl _=>cases ry;cases rv;exact ⟨RcAt.bool_bool _ _,RcNeAt.bool_bool _ _,EqAt.bool_bool _ _⟩
   | int _=>cases ry;obtain ⟨t2,rfl⟩:=rv;exact ⟨RcAt.bool_int _ _ _,RcNeAt.bool_int _ _ _,EqAt.bool_int _ _ _⟩
   | str _=>cases ry;obtain ⟨t2,rfl⟩:=rv;exact ⟨RcAt.bool_str _ _ _,RcNeAt.bool_str _ _ _,EqAt.bool_str _ _ _⟩
   | tup es=>
    obtain ⟨q,ys,rfl,e2,r2⟩:=ry.dY;cases rv;obtain ⟨its2,vr2,h2⟩:=i_ I e2;exact ⟨RcAt.bool_tuple _ h2 hu0,RcNeAt.bool_tuple _ h2 hu0,EqAt.bool_tuple _ h2 hu0⟩
   | lst es=>
    obtain ⟨q,ys,rfl,e2,r2⟩:=ry.gH (K:=X.K);cases rv;obtain ⟨its2,vr2,h2⟩:=jA I e2;exact ⟨RcAt.bool_list _ h2 hu0,RcNeAt.bool_list _ h2 hu0,EqAt.bool_list _ h2 hu0⟩
  | int _=>
   cases rx;obtain ⟨t1,rfl⟩:=ru;cases b with
   | uD=>exact absurd ry Rep.uD
   | dct _=>simp [D.bN] at hb
   | scr _=>simp [D.bN] at hb
   | fdc _=>simp [D.bN] at hb
   | cel _ _=>simp [D.bN] at hb
   | non=>cases ry;cases rv;exact ⟨RcAt.int_none _ _,RcNeAt.int_none _ _,EqAt.int_none _ _⟩
   | bl _=>cases ry;cases rv;exact ⟨RcAt.int_bool _ _ _,RcNeAt.int_bool _ _ _,EqAt.int_bool _ _ _⟩
   | int _=>cases ry;obtain ⟨t2,rfl⟩:=rv;exact ⟨RcAt.int_int _ _ _ _,RcNeAt.int_int _ _ _ _,EqAt.int_int _ _ _ _⟩
   | str _=>cases ry;obtain ⟨t2,rfl⟩:=rv;exact ⟨RcAt.int_str _ _ _ _,RcNeAt.int_str _ _ _ _,EqAt.int_str _ _ _ _⟩
   | tup es=>
    obtain ⟨q,ys,rfl,e2,r2⟩:=ry.dY;cases rv;obtain ⟨its2,vr2,h2⟩:=i_ I e2;exact ⟨RcAt.int_tuple _ _ h2 hu0,RcNeAt.int_tuple _ _ h2 hu0,EqAt.int_tuple _ _ h2 hu0⟩
   | lst es=>
    obtain ⟨q,ys,rfl,e2,r2⟩:=ry.gH (K:=X.K);cases rv;obtain ⟨its2,vr2,h2⟩:=jA I e2;exact ⟨RcAt.int_list _ _ h2 hu0,RcNeAt.int_list _ _ h2 hu0,EqAt.int_list _ _ h2 hu0⟩
  | str _=>
   cases rx;obtain ⟨t1,rfl⟩:=ru;cases b with
   | uD=>exact absurd ry Rep.uD
   | dct _=>simp [D.bN] at hb
   | scr _=>simp [D.bN] at hb
   | fdc _=>simp [D.bN] at hb
   | cel _ _=>simp [D.bN] at hb
   | non=>cases ry;cases rv;exact ⟨RcAt.str_none _ _,RcNeAt.str_none _ _,EqAt.str_none _ _⟩
   | bl _=>cases ry;cases rv;exact ⟨RcAt.str_bool _ _ _,RcNeAt.str_bool _ _ _,EqAt.str_bool _ _ _⟩
   | int _=>cases ry;obtain ⟨t2,rfl⟩:=rv;exact ⟨RcAt.str_int _ _ _ _,RcNeAt.str_int _ _ _ _,EqAt.str_int _ _ _ _⟩
   | str _=>cases ry;obtain ⟨t2,rfl⟩:=rv;exact ⟨RcAt.str_str _ _ _ _,RcNeAt.str_str _ _ _ _,EqAt.str_str _ _ _ _⟩
   | tup es=>
    obtain ⟨q,ys,rfl,e2,r2⟩:=ry.dY;cases rv;obtain ⟨its2,vr2,h2⟩:=i_ I e2;exact ⟨RcAt.str_tuple _ _ h2 hu0,RcNeAt.str_tuple _ _ h2 hu0,EqAt.str_tuple _ _ h2 hu0⟩
   | lst es=>
    obtain ⟨q,ys,rfl,e2,r2⟩:=ry.gH (K:=X.K);cases rv;obtain ⟨its2,vr2,h2⟩:=jA I e2;exact ⟨RcAt.str_list _ _ h2 hu0,RcNeAt.str_list _ _ h2 hu0,EqAt.str_list _ _ h2 hu0⟩
  | tup ds=>
   obtain ⟨p,xs,rfl,e1,r1⟩:=rx.dY;cases ru;obtain ⟨its1,vr1,h1⟩:=i_ I e1;rw [D.bN] at ha;cases b with
   | uD=>exact absurd ry Rep.uD
   | dct _=>simp [D.bN] at hb
   | scr _=>simp [D.bN] at hb
   | fdc _=>simp [D.bN] at hb
   | cel _ _=>simp [D.bN] at hb
   | non=>cases ry;cases rv;exact ⟨RcAt.tuple_none h1 hu0,RcNeAt.tuple_none h1 hu0,EqAt.tuple_none h1 hu0⟩
   | bl _=>cases ry;cases rv;exact ⟨RcAt.tuple_bool _ h1 hu0,RcNeAt.tuple_bool _ h1 hu0,EqAt.tuple_bool _ h1 hu0⟩
   | int _=>cases ry;obtain ⟨t2,rfl⟩:=rv;exact ⟨RcAt.tuple_int _ _ h1 hu0,RcNeAt.tuple_int _ _ h1 hu0,EqAt.tuple_int _ _ h1 hu0⟩
   | str _=>cases ry;obtain ⟨t2,rfl⟩:=rv;exact ⟨RcAt.tuple_str _ _ h1 hu0,RcNeAt.tuple_str _ _ h1 hu0,EqAt.tuple_str _ _ h1 hu0⟩
   | tup es=>
    obtain ⟨q,ys,rfl,e2,r2⟩:=ry.dY;cases rv;obtain ⟨its2,vr2,h2⟩:=i_ I e2;rw [D.bN] at hb;have z1:its1.toArray.size=ds.length:=by rw [List.size_toArray,<-vr1.length,r1.length]
    have z2:its2.toArray.size=es.length:=by rw [List.size_toArray,<-vr2.length,r2.length]
    have he:∀j (g1:j<its1.toArray.size) (g2:j<its2.toArray.size),EqAt A.in1 s its1.toArray[j] its2.toArray[j] (eqD (ds.getD j .non) (es.getD j .non)):=fun j g1 g2=>by
     obtain ⟨v1,w1,rr1⟩:=r1.getD (j:=j) (by lia);obtain ⟨v2,w2,rr2⟩:=r2.getD (j:=j) (by lia);obtain ⟨u1,k1,l1⟩:=vr1.get w1;obtain ⟨u2,k2,l2⟩:=vr2.get w2;have m1:its1.toArray[j]=u1:=by
      rw [List.getElem?_eq_getElem (by simpa using g1)] at k1;simpa using Option.some.inj k1
     have m2:its2.toArray[j]=u2:=by
      rw [List.getElem?_eq_getElem (by simpa using g2)] at k2;simpa using Option.some.inj k2
     rw [m1,m2];exact (ih A.in1 hu1 (fO ha (by lia)) (fO hb (by lia)) rr1 rr2 l1 l2).2.2
    have ee:eqD (.tup ds) (.tup es)=((List.range (min its1.toArray.size its2.toArray.size)).all (fun j=>eqD (ds.getD j .non) (es.getD j .non))&&its1.toArray.size==its2.toArray.size):=by
     rw [eqD,nO,z1,z2]
    have r0:=RcAt.tuples h1 h2 hu0 he;have r0':=RcNeAt.tuples h1 h2 hu0 he;rw [<-ee] at r0 r0';refine ⟨r0,r0',?_⟩;by_cases hpq:p=q
    ·subst hpq;have hab:(D.tup ds)=(.tup es):=Rep.inj (n+1) (by rw [D.bN];exact ha) (by rw [D.bN];exact hb) rx ry;rw [<-hab,rQ (n+1) _ (by rw [D.bN];exact ha)];exact EqAt.same _
    ·exact EqAt.of_refs hpq r0
   | lst es=>
    obtain ⟨q,ys,rfl,e2,r2⟩:=ry.gH (K:=X.K);cases rv;obtain ⟨its2,vr2,h2⟩:=jA I e2;exact ⟨RcAt.tuple_list h1 h2 hu0,RcNeAt.tuple_list h1 h2 hu0,EqAt.tuple_list h1 h2 hu0⟩
  | lst ds=>
   obtain ⟨p,xs,rfl,e1,r1⟩:=rx.gH (K:=X.K);cases ru;obtain ⟨its1,vr1,h1⟩:=jA I e1;rw [D.bN] at ha;cases b with
   | uD=>exact absurd ry Rep.uD
   | dct _=>simp [D.bN] at hb
   | scr _=>simp [D.bN] at hb
   | fdc _=>simp [D.bN] at hb
   | cel _ _=>simp [D.bN] at hb
   | non=>cases ry;cases rv;exact ⟨RcAt.list_none h1 hu0,RcNeAt.list_none h1 hu0,EqAt.list_none h1 hu0⟩
   | bl _=>cases ry;cases rv;exact ⟨RcAt.list_bool _ h1 hu0,RcNeAt.list_bool _ h1 hu0,EqAt.list_bool _ h1 hu0⟩
   | int _=>cases ry;obtain ⟨t2,rfl⟩:=rv;exact ⟨RcAt.list_int _ _ h1 hu0,RcNeAt.list_int _ _ h1 hu0,EqAt.list_int _ _ h1 hu0⟩
   | str _=>cases ry;obtain ⟨t2,rfl⟩:=rv;exact ⟨RcAt.list_str _ _ h1 hu0,RcNeAt.list_str _ _ h1 hu0,EqAt.list_str _ _ h1 hu0⟩
   | tup es=>
    obtain ⟨q,ys,rfl,e2,r2⟩:=ry.dY;cases rv;obtain ⟨its2,vr2,h2⟩:=i_ I e2;exact ⟨RcAt.list_tuple h1 h2 hu0,RcNeAt.list_tuple h1 h2 hu0,EqAt.list_tuple h1 h2 hu0⟩
   | lst es=>
    obtain ⟨q,ys,rfl,e2,r2⟩:=ry.gH (K:=X.K);cases rv;obtain ⟨its2,vr2,h2⟩:=jA I e2;rw [D.bN] at hb;have z1:its1.toArray.size=ds.length:=by rw [List.size_toArray,<-vr1.length,r1.length]
    have z2:its2.toArray.size=es.length:=by rw [List.size_toArray,<-vr2.length,r2.length]
    have he:∀j (g1:j<its1.toArray.size) (g2:j<its2.toArray.size),EqAt A.in1 s its1.toArray[j] its2.toArray[j] (eqD (ds.getD j .non) (es.getD j .non)):=fun j g1 g2=>by
     obtain ⟨v1,w1,rr1⟩:=r1.getD (j:=j) (by lia);obtain ⟨v2,w2,rr2⟩:=r2.getD (j:=j) (by lia);obtain ⟨u1,k1,l1⟩:=vr1.get w1;obtain ⟨u2,k2,l2⟩:=vr2.get w2;have m1:its1.toArray[j]=u1:=by
      rw [List.getElem?_eq_getElem (by simpa using g1)] at k1;simpa using Option.some.inj k1
     have m2:its2.toArray[j]=u2:=by
      rw [List.getElem?_eq_getElem (by simpa using g2)] at k2;simpa using Option.some.inj k2
     rw [m1,m2];exact (ih A.in1 hu1 (fO ha (by lia)) (fO hb (by lia)) rr1 rr2 l1 l2).2.2
    have r00:RcAt A s (.ref p) (.ref q) (eqD (.lst ds) (.lst es))/\RcNeAt A s (.ref p) (.ref q) (!eqD (.lst ds) (.lst es)):=by
     rw [eqD,nO];by_cases hz:ds.length=es.length
     ·have r0:=RcAt.lists h1 h2 (by lia) hu0 he;have r0':=RcNeAt.lists h1 h2 (by lia) hu0 he;rw [z1] at r0 r0';rw [show min ds.length es.length=ds.length by lia,show (ds.length==es.length)=true by simpa using hz,Bool.and_true];exact ⟨r0,r0'⟩
     ·have hz':(its1.toArray.size != its2.toArray.size)=true:=by rw [z1,z2];simpa using hz
      rw [show (ds.length==es.length)=false by simpa using hz,Bool.and_false];exact ⟨RcAt.lists_lengths h1 h2 hz' hu0,RcNeAt.lists_lengths h1 h2 hz' hu0⟩
    obtain ⟨r0,r0'⟩:=r00;refine ⟨r0,r0',?_⟩;by_cases hpq:p=q
    ·subst hpq;have hab:(D.lst ds)=(.lst es):=Rep.inj (n+1) (by rw [D.bN];exact ha) (by rw [D.bN];exact hb) rx ry;rw [<-hab,rQ (n+1) _ (by rw [D.bN];exact ha)];exact EqAt.same _
    ·exact EqAt.of_refs hpq r0
end
end Mi
end
section
namespace Mi
open PySem L2 PySem.SeqAt
open PySem.AutoSeq1 (wpAny_loadPart')
open PySem.MeetsSeq PySem.MeetsSeq2 PySem.MeetsSeq3
variable [KFrag]
noncomputable def j9.op:j9->CmpOp
 | .lt=>.Lt|.le=>.LtE|.gt=>.Gt|.ge=>.GtE
noncomputable def yR (op:CmpOp) (A:Around) (s:Shared) (u v:Value) (b:Bool):Prop:=
 ∀(prog:Program) (w:World) (E:Value->Shared->Prop) (Q:Value->Shared->Prop),Q (.bool b) s->wpAny (model prog w) A (richCompare op u v) Q E s
noncomputable def C2 (o:j9) (A:Around) (s:Shared) (vs ws:List Value) (xs ys:List D):Prop:=
 vs.length=xs.length/\ws.length=ys.length/\∀(j:Nat) (v w:Value) (x y:D),vs[j]?=some v->ws[j]?=some w->xs[j]?=some x->ys[j]?=some y->
  EqAt A s v w (eqD x y)/\(eqD x y=false->∀k,oX o x y=some k->yR o.op A s v w k)
theorem C2.tail {o:j9} {A:Around} {s:Shared} {v w:Value} {vs ws:List Value} {x y:D} {xs ys:List D} (h:C2 o A s (v::vs) (w::ws) (x::xs) (y::ys)):C2 o A s vs ws xs ys:=
 ⟨by simpa using h.1,by simpa using h.2.1,fun j a b c d e1 e2 e3 e4=>h.2.2 (j+1) a b c d (by simpa using e1) (by simpa using e2) (by simpa using e3) (by simpa using e4)⟩
theorem CK (l b:Addr) (items items2:Array Value) (n n2:Nat) (dd dd2:Option Addr) (sl sl2:Array (Option Value)) (xs ys:List D) (res:Bool) (hr:fM .lt xs ys=some res) :
  Meets (Builtin.«tuple.__lt__» ⟨[.ref l,.ref b],[]⟩)
   (fun A R s=>s.heap.get? l=some {cls:=.type "tuple",dict:=dd,data:=.seq items n,slots:=sl}/\s.heap.get? b=some {cls:=.type "tuple",dict:=dd2,data:=.seq items2 n2,slots:=sl2}/\
    C2 .lt A.in1 s items.toList items2.toList xs ys/\R (.ok (.ret (.bool res))) s):=
 .of_wp fun prog w A R s h=>by
  obtain ⟨hp,g,d,tk,os⟩:=s;obtain ⟨hl,hb,hC,h⟩:=h;have f2:=AutoSeq1.sub_tuple_tuple;have z1:items.size=xs.length:=by rw [<-hC.1];simp
  have z2:items2.size=ys.length:=by rw [<-hC.2.1];simp
  wp_walk using wpAny_loadPart' hl,wpAny_loadPart' hb,wpAny_forIn_list _ (fun rest b s'=>b.1=none/\s'=⟨hp,g,d,tk,os⟩/\∃(vs ws:List Value) (xs' ys':List D),rest=vs.zip ws/\
   C2 .lt A.in1 ⟨hp,g,d,tk,os⟩ vs ws xs' ys'/\xs'.length+items2.size=ys'.length+items.size/\fM .lt xs' ys'=some res) _
  case turn=>
   rintro ⟨y,x⟩ rest b s' ⟨hb',rfl,vs,ws,xs',ys',hz,hC',hlen,hR⟩;cases vs with
   | nil=>rw [List.zip_nil_left] at hz;cases hz
   | cons v vs=>
    cases ws with
    | nil=>rw [List.zip_nil_right] at hz;cases hz
    | cons w' ws=>
     rw [List.zip_cons_cons] at hz;injection hz with hyx hrest
     injection hyx with hy hx
     subst hy hx;cases xs' with
     | nil=>exact absurd hC'.1 (by simp)
     | cons x0 xs'=>
      cases ys' with
      | nil=>exact absurd hC'.2.1 (by simp)
      | cons y0 ys'=>
       rw [fM] at hR;simp only [List.length_cons] at hlen;obtain ⟨he,hlt⟩:=hC'.2.2 0 _ _ _ _ rfl rfl rfl rfl;refine wpAny_bind (he prog w _ _ ?_);cases e:eqD x0 y0 with
       | true=>
        rw [e] at hR;simp only [if_true] at hR
        wp_walk
        exact ⟨rfl,rfl,_,_,_,_,hrest,hC'.tail,by lia,hR⟩
       | false=>
        rw [e] at hR;simp only [Bool.false_eq_true,if_false] at hR;have hri:∀(E:Value->Shared->Prop) (Q:Value->Shared->Prop),Q (.bool res) ⟨hp,g,d,tk,os⟩->wpAny (model prog w) A.in1 (richCompare .Lt _ _) Q E ⟨hp,g,d,tk,os⟩:=fun E Q q=>hlt e res hR prog w E Q q
        wp_walk using hri
        exact ⟨_,rfl,by simpa using h⟩
  case fin=>
   rintro ⟨b1,b2⟩ s' ⟨hb',rfl,vs,ws,xs',ys',hz,hC',hlen,hR⟩;simp only at hb';subst hb';have hv:res=decide (items.size<items2.size):=by
    cases xs' with
    | nil=>
     rw [fM] at hR;have:=Option.some.inj hR;rw [<-this];simp only [List.length_nil] at hlen;simp only [j9.nat]
     congr 1
     simp only [eq_iff_iff];lia
    | cons x0 xs'=>
     cases ys' with
     | nil=>
      rw [fM] at hR;have:=Option.some.inj hR;rw [<-this];simp only [List.length_nil,List.length_cons] at hlen;simp only [j9.nat,List.length_cons]
      congr 1
      simp only [eq_iff_iff];lia
     | cons y0 ys'=>
      exfalso;cases vs with
      | nil=>exact absurd hC'.1 (by simp)
      | cons v vs=>
       cases ws with
       | nil=>exact absurd hC'.2.1 (by simp)
       | cons w' ws=>rw [List.zip_cons_cons] at hz;cases hz
   rw [hv] at h
   wp_walk
   exact ⟨_,rfl,by simpa [Builtin.Tuple.tupleCompareSizes] using h⟩
  case h=>
   exact ⟨rfl,rfl,items.toList,items2.toList,xs,ys,rfl,hC,by lia,hr⟩
theorem yR.aAm {A:Around} {s:Shared} {l b:Addr} {items items2:Array Value} {xs ys:List D} {res:Bool} (hl:s.heap.IsTuple l items) (hb:s.heap.IsTuple b items2) (hC:C2 .lt A.in1 s items.toList items2.toList xs ys) (hr:fM .lt xs ys=some res) (hu:A.units<cLine) :
  yR .Lt A s (.ref l) (.ref b) res:=fun prog w E Q h=>by
 obtain ⟨⟨cls,dd,data,sl⟩,ho,hc,n,hd⟩:=id hl;obtain ⟨⟨cls2,dd2,data2,sl2⟩,ho2,hc2,n2,hd2⟩:=id hb;simp only at hc hd hc2 hd2;subst hc hd hc2 hd2;exact richCompare_meets_room (op:=.Lt) ⟨_,ho,rfl⟩ ⟨_,ho2,rfl⟩ PySem.F.slot_tuple_lt PySem.F.entry_tuple_lt (PySem.F.args_tuple_lt_2 _ _) (CK l b items items2 n n2 dd dd2 sl sl2 xs ys res hr)
  ⟨ho,ho2,hC,show Value.bool res≠Value.notImplemented/\Q (.bool res) s from ⟨(fun x=>nomatch x),h⟩⟩ hu
theorem CN (l b:Addr) (items items2:Array Value) (n n2:Nat) (dd dd2:Option Addr) (sl sl2:Array (Option Value)) (xs ys:List D) (res:Bool) (hr:fM .le xs ys=some res) :
  Meets (Builtin.«tuple.__le__» ⟨[.ref l,.ref b],[]⟩)
   (fun A R s=>s.heap.get? l=some {cls:=.type "tuple",dict:=dd,data:=.seq items n,slots:=sl}/\s.heap.get? b=some {cls:=.type "tuple",dict:=dd2,data:=.seq items2 n2,slots:=sl2}/\
    C2 .le A.in1 s items.toList items2.toList xs ys/\R (.ok (.ret (.bool res))) s):=
 .of_wp fun prog w A R s h=>by
  obtain ⟨hp,g,d,tk,os⟩:=s;obtain ⟨hl,hb,hC,h⟩:=h;have f2:=AutoSeq1.sub_tuple_tuple;have z1:items.size=xs.length:=by rw [<-hC.1];simp
  have z2:items2.size=ys.length:=by rw [<-hC.2.1];simp
  wp_walk using wpAny_loadPart' hl,wpAny_loadPart' hb,wpAny_forIn_list _ (fun rest b s'=>b.1=none/\s'=⟨hp,g,d,tk,os⟩/\∃(vs ws:List Value) (xs' ys':List D),rest=vs.zip ws/\
   C2 .le A.in1 ⟨hp,g,d,tk,os⟩ vs ws xs' ys'/\xs'.length+items2.size=ys'.length+items.size/\fM .le xs' ys'=some res) _
  case turn=>
   rintro ⟨y,x⟩ rest b s' ⟨hb',rfl,vs,ws,xs',ys',hz,hC',hlen,hR⟩;cases vs with
   | nil=>rw [List.zip_nil_left] at hz;cases hz
   | cons v vs=>
    cases ws with
    | nil=>rw [List.zip_nil_right] at hz;cases hz
    | cons w' ws=>
     rw [List.zip_cons_cons] at hz;injection hz with hyx hrest
     injection hyx with hy hx
     subst hy hx;cases xs' with
     | nil=>exact absurd hC'.1 (by simp)
     | cons x0 xs'=>
      cases ys' with
      | nil=>exact absurd hC'.2.1 (by simp)
      | cons y0 ys'=>
       rw [fM] at hR;simp only [List.length_cons] at hlen;obtain ⟨he,hlt⟩:=hC'.2.2 0 _ _ _ _ rfl rfl rfl rfl;refine wpAny_bind (he prog w _ _ ?_);cases e:eqD x0 y0 with
       | true=>
        rw [e] at hR;simp only [if_true] at hR
        wp_walk
        exact ⟨rfl,rfl,_,_,_,_,hrest,hC'.tail,by lia,hR⟩
       | false=>
        rw [e] at hR;simp only [Bool.false_eq_true,if_false] at hR;have hri:∀(E:Value->Shared->Prop) (Q:Value->Shared->Prop),Q (.bool res) ⟨hp,g,d,tk,os⟩->wpAny (model prog w) A.in1 (richCompare .LtE _ _) Q E ⟨hp,g,d,tk,os⟩:=fun E Q q=>hlt e res hR prog w E Q q
        wp_walk using hri
        exact ⟨_,rfl,by simpa using h⟩
  case fin=>
   rintro ⟨b1,b2⟩ s' ⟨hb',rfl,vs,ws,xs',ys',hz,hC',hlen,hR⟩;simp only at hb';subst hb';have hv:res=decide (items.size<=items2.size):=by
    cases xs' with
    | nil=>
     rw [fM] at hR;have:=Option.some.inj hR;rw [<-this];simp only [List.length_nil] at hlen;simp only [j9.nat]
     congr 1
     simp only [eq_iff_iff];lia
    | cons x0 xs'=>
     cases ys' with
     | nil=>
      rw [fM] at hR;have:=Option.some.inj hR;rw [<-this];simp only [List.length_nil,List.length_cons] at hlen;simp only [j9.nat,List.length_cons]
      congr 1
      simp only [eq_iff_iff];lia
     | cons y0 ys'=>
      exfalso;cases vs with
      | nil=>exact absurd hC'.1 (by simp)
      | cons v vs=>
       cases ws with
       | nil=>exact absurd hC'.2.1 (by simp)
       | cons w' ws=>rw [List.zip_cons_cons] at hz;cases hz
   rw [hv] at h
   wp_walk
   exact ⟨_,rfl,by simpa [Builtin.Tuple.tupleCompareSizes] using h⟩
  case h=>
   exact ⟨rfl,rfl,items.toList,items2.toList,xs,ys,rfl,hC,by lia,hr⟩
theorem yR.aAn {A:Around} {s:Shared} {l b:Addr} {items items2:Array Value} {xs ys:List D} {res:Bool} (hl:s.heap.IsTuple l items) (hb:s.heap.IsTuple b items2) (hC:C2 .le A.in1 s items.toList items2.toList xs ys) (hr:fM .le xs ys=some res) (hu:A.units<cLine) :
  yR .LtE A s (.ref l) (.ref b) res:=fun prog w E Q h=>by
 obtain ⟨⟨cls,dd,data,sl⟩,ho,hc,n,hd⟩:=id hl;obtain ⟨⟨cls2,dd2,data2,sl2⟩,ho2,hc2,n2,hd2⟩:=id hb;simp only at hc hd hc2 hd2;subst hc hd hc2 hd2;exact richCompare_meets_room (op:=.LtE) ⟨_,ho,rfl⟩ ⟨_,ho2,rfl⟩ PySem.F.slot_tuple_le PySem.F.entry_tuple_le (PySem.F.args_tuple_le_2 _ _) (CN l b items items2 n n2 dd dd2 sl sl2 xs ys res hr)
  ⟨ho,ho2,hC,show Value.bool res≠Value.notImplemented/\Q (.bool res) s from ⟨(fun x=>nomatch x),h⟩⟩ hu
theorem CP (l b:Addr) (items items2:Array Value) (n n2:Nat) (dd dd2:Option Addr) (sl sl2:Array (Option Value)) (xs ys:List D) (res:Bool) (hr:fM .gt xs ys=some res) :
  Meets (Builtin.«tuple.__gt__» ⟨[.ref l,.ref b],[]⟩)
   (fun A R s=>s.heap.get? l=some {cls:=.type "tuple",dict:=dd,data:=.seq items n,slots:=sl}/\s.heap.get? b=some {cls:=.type "tuple",dict:=dd2,data:=.seq items2 n2,slots:=sl2}/\
    C2 .gt A.in1 s items.toList items2.toList xs ys/\R (.ok (.ret (.bool res))) s):=
 .of_wp fun prog w A R s h=>by
  obtain ⟨hp,g,d,tk,os⟩:=s;obtain ⟨hl,hb,hC,h⟩:=h;have f2:=AutoSeq1.sub_tuple_tuple;have z1:items.size=xs.length:=by rw [<-hC.1];simp
  have z2:items2.size=ys.length:=by rw [<-hC.2.1];simp
  wp_walk using wpAny_loadPart' hl,wpAny_loadPart' hb,wpAny_forIn_list _ (fun rest b s'=>b.1=none/\s'=⟨hp,g,d,tk,os⟩/\∃(vs ws:List Value) (xs' ys':List D),rest=vs.zip ws/\
   C2 .gt A.in1 ⟨hp,g,d,tk,os⟩ vs ws xs' ys'/\xs'.length+items2.size=ys'.length+items.size/\fM .gt xs' ys'=some res) _
  case turn=>
   rintro ⟨y,x⟩ rest b s' ⟨hb',rfl,vs,ws,xs',ys',hz,hC',hlen,hR⟩;cases vs with
   | nil=>rw [List.zip_nil_left] at hz;cases hz
   | cons v vs=>
    cases ws with
    | nil=>rw [List.zip_nil_right] at hz;cases hz
    | cons w' ws=>
     rw [List.zip_cons_cons] at hz;injection hz with hyx hrest
     injection hyx with hy hx
     subst hy hx;cases xs' with
     | nil=>exact absurd hC'.1 (by simp)
     | cons x0 xs'=>
      cases ys' with
      | nil=>exact absurd hC'.2.1 (by simp)
      | cons y0 ys'=>
       rw [fM] at hR;simp only [List.length_cons] at hlen;obtain ⟨he,hlt⟩:=hC'.2.2 0 _ _ _ _ rfl rfl rfl rfl;refine wpAny_bind (he prog w _ _ ?_);cases e:eqD x0 y0 with
       | true=>
        rw [e] at hR;simp only [if_true] at hR
        wp_walk
        exact ⟨rfl,rfl,_,_,_,_,hrest,hC'.tail,by lia,hR⟩
       | false=>
        rw [e] at hR;simp only [Bool.false_eq_true,if_false] at hR;have hri:∀(E:Value->Shared->Prop) (Q:Value->Shared->Prop),Q (.bool res) ⟨hp,g,d,tk,os⟩->wpAny (model prog w) A.in1 (richCompare .Gt _ _) Q E ⟨hp,g,d,tk,os⟩:=fun E Q q=>hlt e res hR prog w E Q q
        wp_walk using hri
        exact ⟨_,rfl,by simpa using h⟩
  case fin=>
   rintro ⟨b1,b2⟩ s' ⟨hb',rfl,vs,ws,xs',ys',hz,hC',hlen,hR⟩;simp only at hb';subst hb';have hv:res=decide (items2.size<items.size):=by
    cases xs' with
    | nil=>
     rw [fM] at hR;have:=Option.some.inj hR;rw [<-this];simp only [List.length_nil] at hlen;simp only [j9.nat]
     congr 1
     simp only [eq_iff_iff];lia
    | cons x0 xs'=>
     cases ys' with
     | nil=>
      rw [fM] at hR;have:=Option.some.inj hR;rw [<-this];simp only [List.length_nil,List.length_cons] at hlen;simp only [j9.nat,List.length_cons]
      congr 1
      simp only [eq_iff_iff];lia
     | cons y0 ys'=>
      exfalso;cases vs with
      | nil=>exact absurd hC'.1 (by simp)
      | cons v vs=>
       cases ws with
       | nil=>exact absurd hC'.2.1 (by simp)
       | cons w' ws=>rw [List.zip_cons_cons] at hz;cases hz
   rw [hv] at h
   wp_walk
   exact ⟨_,rfl,by simpa [Builtin.Tuple.tupleCompareSizes] using h⟩
  case h=>
   exact ⟨rfl,rfl,items.toList,items2.toList,xs,ys,rfl,hC,by lia,hr⟩
theorem yR.aAo {A:Around} {s:Shared} {l b:Addr} {items items2:Array Value} {xs ys:List D} {res:Bool} (hl:s.heap.IsTuple l items) (hb:s.heap.IsTuple b items2) (hC:C2 .gt A.in1 s items.toList items2.toList xs ys) (hr:fM .gt xs ys=some res) (hu:A.units<cLine) :
  yR .Gt A s (.ref l) (.ref b) res:=fun prog w E Q h=>by
 obtain ⟨⟨cls,dd,data,sl⟩,ho,hc,n,hd⟩:=id hl;obtain ⟨⟨cls2,dd2,data2,sl2⟩,ho2,hc2,n2,hd2⟩:=id hb;simp only at hc hd hc2 hd2;subst hc hd hc2 hd2;exact richCompare_meets_room (op:=.Gt) ⟨_,ho,rfl⟩ ⟨_,ho2,rfl⟩ PySem.F.slot_tuple_gt PySem.F.entry_tuple_gt (PySem.F.args_tuple_gt_2 _ _) (CP l b items items2 n n2 dd dd2 sl sl2 xs ys res hr)
  ⟨ho,ho2,hC,show Value.bool res≠Value.notImplemented/\Q (.bool res) s from ⟨(fun x=>nomatch x),h⟩⟩ hu
theorem CQ (l b:Addr) (items items2:Array Value) (n n2:Nat) (dd dd2:Option Addr) (sl sl2:Array (Option Value)) (xs ys:List D) (res:Bool) (hr:fM .ge xs ys=some res) :
  Meets (Builtin.«tuple.__ge__» ⟨[.ref l,.ref b],[]⟩)
   (fun A R s=>s.heap.get? l=some {cls:=.type "tuple",dict:=dd,data:=.seq items n,slots:=sl}/\s.heap.get? b=some {cls:=.type "tuple",dict:=dd2,data:=.seq items2 n2,slots:=sl2}/\
    C2 .ge A.in1 s items.toList items2.toList xs ys/\R (.ok (.ret (.bool res))) s):=
 .of_wp fun prog w A R s h=>by
  obtain ⟨hp,g,d,tk,os⟩:=s;obtain ⟨hl,hb,hC,h⟩:=h;have f2:=AutoSeq1.sub_tuple_tuple;have z1:items.size=xs.length:=by rw [<-hC.1];simp
  have z2:items2.size=ys.length:=by rw [<-hC.2.1];simp
  wp_walk using wpAny_loadPart' hl,wpAny_loadPart' hb,wpAny_forIn_list _ (fun rest b s'=>b.1=none/\s'=⟨hp,g,d,tk,os⟩/\∃(vs ws:List Value) (xs' ys':List D),rest=vs.zip ws/\
   C2 .ge A.in1 ⟨hp,g,d,tk,os⟩ vs ws xs' ys'/\xs'.length+items2.size=ys'.length+items.size/\fM .ge xs' ys'=some res) _
  case turn=>
   rintro ⟨y,x⟩ rest b s' ⟨hb',rfl,vs,ws,xs',ys',hz,hC',hlen,hR⟩;cases vs with
   | nil=>rw [List.zip_nil_left] at hz;cases hz
   | cons v vs=>
    cases ws with
    | nil=>rw [List.zip_nil_right] at hz;cases hz
    | cons w' ws=>
     rw [List.zip_cons_cons] at hz;injection hz with hyx hrest
     injection hyx with hy hx
     subst hy hx;cases xs' with
     | nil=>exact absurd hC'.1 (by simp)
     | cons x0 xs'=>
      cases ys' with
      | nil=>exact absurd hC'.2.1 (by simp)
      | cons y0 ys'=>
       rw [fM] at hR;simp only [List.length_cons] at hlen;obtain ⟨he,hlt⟩:=hC'.2.2 0 _ _ _ _ rfl rfl rfl rfl;refine wpAny_bind (he prog w _ _ ?_);cases e:eqD x0 y0 with
       | true=>
        rw [e] at hR;simp only [if_true] at hR
        wp_walk
        exact ⟨rfl,rfl,_,_,_,_,hrest,hC'.tail,by lia,hR⟩
       | false=>
        rw [e] at hR;simp only [Bool.false_eq_true,if_false] at hR;have hri:∀(E:Value->Shared->Prop) (Q:Value->Shared->Prop),Q (.bool res) ⟨hp,g,d,tk,os⟩->wpAny (model prog w) A.in1 (richCompare .GtE _ _) Q E ⟨hp,g,d,tk,os⟩:=fun E Q q=>hlt e res hR prog w E Q q
        wp_walk using hri
        exact ⟨_,rfl,by simpa using h⟩
  case fin=>
   rintro ⟨b1,b2⟩ s' ⟨hb',rfl,vs,ws,xs',ys',hz,hC',hlen,hR⟩;simp only at hb';subst hb';have hv:res=decide (items2.size<=items.size):=by
    cases xs' with
    | nil=>
     rw [fM] at hR;have:=Option.some.inj hR;rw [<-this];simp only [List.length_nil] at hlen;simp only [j9.nat]
     congr 1
     simp only [eq_iff_iff];lia
    | cons x0 xs'=>
     cases ys' with
     | nil=>
      rw [fM] at hR;have:=Option.some.inj hR;rw [<-this];simp only [List.length_nil,List.length_cons] at hlen;simp only [j9.nat,List.length_cons]
      congr 1
      simp only [eq_iff_iff];lia
     | cons y0 ys'=>
      exfalso;cases vs with
      | nil=>exact absurd hC'.1 (by simp)
      | cons v vs=>
       cases ws with
       | nil=>exact absurd hC'.2.1 (by simp)
       | cons w' ws=>rw [List.zip_cons_cons] at hz;cases hz
   rw [hv] at h
   wp_walk
   exact ⟨_,rfl,by simpa [Builtin.Tuple.tupleCompareSizes] using h⟩
  case h=>
   exact ⟨rfl,rfl,items.toList,items2.toList,xs,ys,rfl,hC,by lia,hr⟩
theorem yR.aAp {A:Around} {s:Shared} {l b:Addr} {items items2:Array Value} {xs ys:List D} {res:Bool} (hl:s.heap.IsTuple l items) (hb:s.heap.IsTuple b items2) (hC:C2 .ge A.in1 s items.toList items2.toList xs ys) (hr:fM .ge xs ys=some res) (hu:A.units<cLine) :
  yR .GtE A s (.ref l) (.ref b) res:=fun prog w E Q h=>by
 obtain ⟨⟨cls,dd,data,sl⟩,ho,hc,n,hd⟩:=id hl;obtain ⟨⟨cls2,dd2,data2,sl2⟩,ho2,hc2,n2,hd2⟩:=id hb;simp only at hc hd hc2 hd2;subst hc hd hc2 hd2;exact richCompare_meets_room (op:=.GtE) ⟨_,ho,rfl⟩ ⟨_,ho2,rfl⟩ PySem.F.slot_tuple_ge PySem.F.entry_tuple_ge (PySem.F.args_tuple_ge_2 _ _) (CQ l b items items2 n n2 dd dd2 sl sl2 xs ys res hr)
  ⟨ho,ho2,hC,show Value.bool res≠Value.notImplemented/\Q (.bool res) s from ⟨(fun x=>nomatch x),h⟩⟩ hu
section
variable {X:Cx} {pins:List (Addr×Obj)} {σ:St} {H:Hp} {s:Shared}
theorem JC (I:Inv X pins σ H s) (o:j9):∀(n:Nat) (A:Around) {x y:V} {a b:D} {u v:Value} {k:Bool},A.units+n<cLine->a.bN n=true->b.bN n=true->Rep All H x a->Rep All H y b->RelV x u->RelV y v->
  oX o a b=some k->yR o.op A s u v k:=by
 intro n;induction n with
 | zero=>
  intro A x y a b u v k hu ha hb rx ry ru rv hk;cases a with
  | int i=>
   cases b with
   | int j=>
    cases rx;cases ry;obtain ⟨t,rfl⟩:=ru;obtain ⟨t',rfl⟩:=rv;rw [oX] at hk;have:=Option.some.inj hk;subst this;cases o with
    | lt=>exact fun prog w E Q h=>(PyProof.Rows.lt_int h:wpAny (model prog w) A (compareOp .Lt (.int i t) (.int j t')) Q E s)
    | le=>exact fun prog w E Q h=>(PyProof.Rows.le_int h:wpAny (model prog w) A (compareOp .LtE (.int i t) (.int j t')) Q E s)
    | gt=>exact fun prog w E Q h=>(PyProof.Rows.gt_int h:wpAny (model prog w) A (compareOp .Gt (.int i t) (.int j t')) Q E s)
    | ge=>exact fun prog w E Q h=>(PyProof.Rows.ge_int h:wpAny (model prog w) A (compareOp .GtE (.int i t) (.int j t')) Q E s)
   | _=>simp [oX] at hk
  | str i=>
   cases b with
   | str j=>
    cases rx;cases ry;obtain ⟨t,rfl⟩:=ru;obtain ⟨t',rfl⟩:=rv;rw [oX] at hk;have:=Option.some.inj hk;subst this;cases o with
    | lt=>exact fun prog w E Q h=>(PyProof.Rows.lt_str h:wpAny (model prog w) A (compareOp .Lt (.str i t) (.str j t')) Q E s)
    | le=>exact fun prog w E Q h=>(PySem.P.le_str h:wpAny (model prog w) A (compareOp .LtE (.str i t) (.str j t')) Q E s)
    | gt=>exact fun prog w E Q h=>(PySem.P.gt_str h:wpAny (model prog w) A (compareOp .Gt (.str i t) (.str j t')) Q E s)
    | ge=>exact fun prog w E Q h=>(PySem.P.ge_str h:wpAny (model prog w) A (compareOp .GtE (.str i t) (.str j t')) Q E s)
   | _=>simp [oX] at hk
  | tup _=>simp [D.bN] at ha
  | _=>cases b <;> simp [oX] at hk
 | succ n ih=>
  intro A x y a b u v k hu ha hb rx ry ru rv hk;have hu0:A.units<cLine:=by lia
  have hu1:A.in1.units+n<cLine:=by show A.units+1+n<cLine;lia
  cases a with
  | int i=>
   cases b with
   | int j=>
    cases rx;cases ry;obtain ⟨t,rfl⟩:=ru;obtain ⟨t',rfl⟩:=rv;rw [oX] at hk;have:=Option.some.inj hk;subst this;cases o with
    | lt=>exact fun prog w E Q h=>(PyProof.Rows.lt_int h:wpAny (model prog w) A (compareOp .Lt (.int i t) (.int j t')) Q E s)
    | le=>exact fun prog w E Q h=>(PyProof.Rows.le_int h:wpAny (model prog w) A (compareOp .LtE (.int i t) (.int j t')) Q E s)
    | gt=>exact fun prog w E Q h=>(PyProof.Rows.gt_int h:wpAny (model prog w) A (compareOp .Gt (.int i t) (.int j t')) Q E s)
    | ge=>exact fun prog w E Q h=>(PyProof.Rows.ge_int h:wpAny (model prog w) A (compareOp .GtE (.int i t) (.int j t')) Q E s)
   | _=>simp [oX] at hk
  | str i=>
   cases b with
   | str j=>
    cases rx;cases ry;obtain ⟨t,rfl⟩:=ru;obtain ⟨t',rfl⟩:=rv;rw [oX] at hk;have:=Option.some.inj hk;subst this;cases o with
    | lt=>exact fun prog w E Q h=>(PyProof.Rows.lt_str h:wpAny (model prog w) A (compareOp .Lt (.str i t) (.str j t')) Q E s)
    | le=>exact fun prog w E Q h=>(PySem.P.le_str h:wpAny (model prog w) A (compareOp .LtE (.str i t) (.str j t')) Q E s)
    | gt=>exact fun prog w E Q h=>(PySem.P.gt_str h:wpAny (model prog w) A (compareOp .Gt (.str i t) (.str j t')) Q E s)
    | ge=>exact fun prog w E Q h=>(PySem.P.ge_str h:wpAny (model prog w) A (compareOp .GtE (.str i t) (.str j t')) Q E s)
   | _=>simp [oX] at hk
  | tup ds=>
   cases b with
   | tup es=>
    obtain ⟨p,xs,rfl,e1,r1⟩:=rx.dY;cases ru;obtain ⟨its1,vr1,h1⟩:=i_ I e1;obtain ⟨q,ys,rfl,e2,r2⟩:=ry.dY;cases rv;obtain ⟨its2,vr2,h2⟩:=i_ I e2;rw [D.bN] at ha hb;rw [oX] at hk;have hC:∀o',o'=o->C2 o' A.in1 s its1.toArray.toList its2.toArray.toList ds es:=by
     rintro o' rfl;refine ⟨by rw [List.toList_toArray,<-vr1.length,r1.length],by rw [List.toList_toArray,<-vr2.length,r2.length],fun j v w x y a1 a2 a3 a4=>?_⟩;rw [List.toList_toArray] at a1 a2;obtain ⟨v1,w1,rr1⟩:=r1.get a3;obtain ⟨v2,w2,rr2⟩:=r2.get a4;obtain ⟨u1,k1,l1⟩:=vr1.get w1;obtain ⟨u2,k2,l2⟩:=vr2.get w2;rw [a1] at k1;cases k1;rw [a2] at k2;cases k2;have g1:x.bN n=true:=by
      have:=fO (j:=j) ha (List.getElem?_eq_some_iff.mp a3).1;rwa [List.getD_eq_getElem?_getD,a3] at this
     have g2:y.bN n=true:=by
      have:=fO (j:=j) hb (List.getElem?_eq_some_iff.mp a4).1;rwa [List.getD_eq_getElem?_getD,a4] at this
     exact ⟨(yQ I n A.in1 hu1 g1 g2 rr1 rr2 l1 l2).2.2,fun _ k hk=>ih A.in1 hu1 g1 g2 rr1 rr2 l1 l2 hk⟩
    cases o with
    | lt=>exact yR.aAm h1 h2 (hC .lt rfl) hk hu0
    | le=>exact yR.aAn h1 h2 (hC .le rfl) hk hu0
    | gt=>exact yR.aAo h1 h2 (hC .gt rfl) hk hu0
    | ge=>exact yR.aAp h1 h2 (hC .ge rfl) hk hu0
   | _=>simp [oX] at hk
  | _=>cases b <;> simp [oX] at hk
end
end Mi
end
section
namespace TS
open PySem PyProof.Rows
end TS
end
section
namespace Mi
open PySem L2 PySem.SeqAt
open PyProof.Rows (Keyed lt' keyLt' oneLt' SortKind SortSt kindOf tuples' oneType' pairsOf wpS wpS_bind wpS_pure wpS_get wpS_lift keyKind')
variable [KFrag]
section
variable {X:Cx} {pins:List (Addr×Obj)} {σ:L2.St} {H:Hp} {s:Shared}
end
end Mi
end
section
namespace Mi
open PySem L2 PySem.SeqAt PySem.Spec PyProof.Rows
variable [KFrag]
noncomputable def kR (H:Hp) (d:D) (fr:Bool) (Q:VK):Prop:=∀v H',cD H H'->Rep All H' v d->(fr=true->Rep (New H) H' v d)->Q v H'
def gE (f:FE) (fr:Bool):TE:=fun σ H Q=>∃ρ d,ER H σ ρ/\f ρ=.ok d/\kR H d fr Q
def gT (f:FT):TT:=fun σ H Q=>∃ρ b,ER H σ ρ/\f ρ=.ok b/\∀H',cD H H'->Q b H'
noncomputable def gA (f:FA) (fr:Bool):TA:=fun σ H Q=>∃ρ ds,ER H σ ρ/\f ρ=.ok ds/\∀vs H',cD H H'->bK All H' vs ds->(fr=true->bK (New H) H' vs ds)->Q vs H'
theorem kR.self {H:Hp} {d:D} {fr:Bool} {Q:VK} {v:V} (q:kR H d fr Q) (r:Rep All H v d) (r2:fr=true->Rep (New H) H v d):Q v H:=q v H (cD.refl H) r r2
theorem kR.imp {H H':Hp} {d:D} {fr fr':Bool} {Q:VK} (q:kR H d fr Q) (s:cD H H') (h:fr=true->fr'=true):kR H' d fr' Q:=fun v H2 s2 r n=>q v H2 (s.trans s2) r fun hf=>(n (h hf)).mono (cD.new s)
theorem kR.int {H:Hp} {i:Int} {fr:Bool} {Q:VK} (q:kR H (.int i) fr Q):Q (.int i) H:=q.self (.int i) fun _=>.int i
theorem kR.bl {H:Hp} {i:Bool} {fr:Bool} {Q:VK} (q:kR H (.bl i) fr Q):Q (.bl i) H:=q.self (.bl i) fun _=>.bl i
theorem kR.str {H:Hp} {i:Str} {fr:Bool} {Q:VK} (q:kR H (.str i) fr Q):Q (.str i) H:=q.self (.str i) fun _=>.str i
noncomputable def r2 (f:D->D->Res D) (fr:Bool):R2:=fun x y H Q=>∃a b d,Rep All H x a/\Rep All H y b/\f a b=.ok d/\kR H d fr Q
noncomputable def rs (f:List D->Res D) (fr:Bool):List V->Hp->VK->Prop:=fun xs H Q=>∃ds d,bK All H xs ds/\f ds=.ok d/\kR H d fr Q
noncomputable def rm (f:D->List D->Res D) (fr:Bool):V->List V->Hp->VK->Prop:=fun x xs H Q=>∃a ds d,Rep All H x a/\bK All H xs ds/\f a ds=.ok d/\kR H d fr Q
theorem aY {α β:Type} {m:Res α} {f:α->Res β} {b:β} (h:(do let x <- m;f x)=.ok b):∃a,m=.ok a/\f a=.ok b:=Res.WN h
section
variable {X:Cx} {a b c e:Expr} {pos:Pos} {fa fb fc fe:FE} {ra rb rc re:Bool} {ga gb gc:FT}
theorem ER.var {H:Hp} {σ:L2.St} {ρ:List D} {i:Nat} {d:D} (E:ER H σ ρ) (h:cU i ρ=.ok d):∃v,σ[i]?=some (some v)/\Rep All H v d/\ρ.getD i .uD=d:=by
 have:ρ.getD i .uD=d/\d≠.uD:=by
  unfold cU at h;split at h
  ·cases h
  ·cases h;refine ⟨rfl,fun z=>?_⟩;rename_i q;exact q z
 obtain ⟨e1,e2⟩:=this;obtain ⟨v,h1,h2⟩:=E i (by rw [e1];exact e2);exact ⟨v,h1,by rw [e1] at h2;exact h2,e1⟩
theorem aA {i:Nat} {x:Str} (hN:X.N[i]?=some x:=by exact rfl) (hv:Vis X.env.scope x:=by trivial) (hd:nDb x:=by decide) (hcd:nCd x:=by decide):PE X (.Name x pos) (gE (cU i) false):=
 PE.imp (eV hN hv hd hcd) fun σ H Q ⟨ρ,d,E,h,q⟩=>by
  obtain ⟨v,h1,h2,_⟩:=E.var h;exact ⟨v,h1,q.self h2 (fun z=>by cases z)⟩
theorem aH {i j}:PE X (.Constant (.int i) j pos) (gE (bC (.int i)) true):=PE.imp Z1 fun σ H Q ⟨ρ,d,E,h,q⟩=>by cases h;exact q.int
theorem CT {i j}:PE X (.Constant (.bool i) j pos) (gE (bC (.bl i)) true):=PE.imp aDb fun σ H Q ⟨ρ,d,E,h,q⟩=>by cases h;exact q.bl
theorem kI {i j}:PE X (.Constant (.str i) j pos) (gE (bC (.str i)) true):=PE.imp Z2 fun σ H Q ⟨ρ,d,E,h,q⟩=>by cases h;exact q.str
theorem two {f:D->D->Res D} {fr:Bool} {σ:L2.St} {H:Hp} {Q:VK} (h:gE (b2 f fa fb) fr σ H Q):tOp (r2 f fr) (gE fa ra) (gE fb rb) σ H Q:=by
 obtain ⟨ρ,d,E,h,q⟩:=h;obtain ⟨x,h1,h⟩:=aY h;obtain ⟨y,h2,h⟩:=aY h;refine ⟨ρ,x,E,h1,fun v H1 s1 rp1 _=>⟨ρ,y,E.same s1,h2,fun u H2 s2 rp2 _=>⟨x,y,d,rp1.same s2,rp2,h,q.imp (s1.trans s2) id⟩⟩⟩
theorem aZ {o:Operator} {f:D->D->Res D} {fr:Bool} (ho:OpR X (binaryOp o) (r2 f fr)) (ha:PE X a (gE fa ra)) (hb:PE X b (gE fb rb)):PE X (.BinOp a o b pos) (gE (b2 f fa fb) fr):=PE.imp (aA2 ho ha hb) fun _ _ _=>two
theorem aAq {o:CmpOp} {f:D->D->Res D} {fr:Bool} (ho:OpR X (compareOp o) (r2 f fr)) (ha:PE X a (gE fa ra)) (hb:PE X b (gE fb rb)) (hm:behindInMarks o b=false):PE X (.Compare a [o] [b] pos) (gE (b2 f fa fb) fr):=PE.imp (V1 ho ha hb hm) fun _ _ _=>two
theorem cP {o:CmpOp} {f:D->D->Res D} {fr:Bool} (ho:OpR X (compareOp o) (r2 f fr)) (ha:PE X a (gE fa ra)) (hb:PE X b (gE fb rb)) (hm:behindInMarks o b=false):PT X (.Compare a [o] [b] pos) (gT (bTB (b2 f fa fb))):=
 PT.imp (G7 ho ha hb hm) fun σ H Q ⟨ρ,k,E,h,q⟩=>by
  obtain ⟨d,h1,h2⟩:=aY h;refine two ⟨ρ,d,E,h1,fun v H' s r _=>?_⟩;cases d <;> simp only [asB] at h2 <;> cases h2
  cases r;exact ⟨_,rfl,q H' s⟩
theorem bH {f:D->D->Res D} {fr:Bool} (ho:IxR X (r2 f fr)) (ha:PE X a (gE fa ra)) (hb:PE X b (gE fb rb)) (hs:wI b):PE X (.Subscript a b pos) (gE (b2 f fa fb) fr):=PE.imp (aAd ho ha hb hs) fun _ _ _=>two
theorem aFh {H:Hp} {v:V} {d:D} {k:Bool} (r:Rep All H v d) (h:aDu d=.ok k) (hd:∀kvs,d≠.dct kvs) (hs:∀xs,d≠.scr xs):aDl X.K v H k:=by
 cases r with
 | non=>cases h;rfl
 | bl b=>cases h;rfl
 | int i=>cases h;rfl
 | str x=>
  simp only [aDu] at h;split at h
  ·rename_i hl;cases h;exact ⟨Nat.le_trans (of_decide_eq_true hl) (by rw [sizeLine_eq];decide),rfl⟩
  ·cases h
 | tup e rr=>cases h;exact .inr (.inl ⟨_,.of e,by cases rr <;> rfl⟩)
 | lst e p rr=>cases h;exact .inl ⟨_,.of e,by cases rr <;> rfl⟩
 | frz e rr=>exact absurd rfl (hs _)
 | dK e p rr n=>exact absurd rfl (hd _)
 | dT e p rr n=>exact absurd rfl (hd _)
 | fdK e rr n=>cases h
 | fdT e rr n=>cases h
 | cel e p rr=>cases h
theorem rD (ha:PE X a (gE fa ra)) (he:∀whole,isTrue a X.env whole=(do let v <- whole;standAt a.pos;holding [v] (truthy v)):=by intro _;rfl):PT X a (gT (bTr fa)):=
 PT.imp (PP ha he) fun σ H Q ⟨ρ,k,E,h,q⟩=>by
  obtain ⟨d,h1,h2⟩:=aY h;refine ⟨ρ,d,E,h1,fun v H' s r _=>⟨k,aFh r ?_ ?_ ?_,q H' s⟩⟩
  ·cases d <;> first|exact h2|cases h2
  ·rintro kvs rfl;cases h2
  ·rintro kvs rfl;cases h2
theorem yS (ha:PT X a (gT ga)):PT X (.UnaryOp .Not a pos) (gT (O7 ga)):=PT.imp (Z5 ha) fun σ H Q ⟨ρ,k,E,h,q⟩=>by
  obtain ⟨d,h1,h2⟩:=aY h;cases h2;exact ⟨ρ,d,E,h1,fun H' s=>q H' s⟩
theorem aAr {op} (ha:PE X a (gE fa ra)):PE X (.BoolOp op [a] pos) (gE fa ra):=Z6 ha
theorem TV {d:D} {k:Bool} (h:asB d=.ok k):d=.bl k:=by cases d <;> simp only [asB] at h <;> cases h;rfl
theorem aAs {d:D} {k:Int} (h:asI d=.ok k):d=.int k:=by cases d <;> simp only [asI] at h <;> cases h;rfl
theorem aAt {rest:List Expr} (ha:PE X a (gE fa ra)) (hb:PE X (.BoolOp .And (b::rest) pos) (gE fb rb)):PE X (.BoolOp .And (a::b::rest) pos) (gE (aAk fa fb) rb):=PE.imp (Z7 ha hb) fun σ H Q ⟨ρ,k,E,h,q⟩=>by
  obtain ⟨d,h1,h⟩:=aY h;obtain ⟨z,h2,h3⟩:=aY h;cases TV h2;refine ⟨ρ,_,E,h1,fun v H' s r _=>?_⟩;cases r;refine ⟨_,rfl,?_⟩;cases z with
  | true=>rw [if_pos rfl];rw [if_pos rfl] at h3;exact ⟨ρ,k,E.same s,h3,q.imp s id⟩
  | false=>rw [if_neg (by simp)];rw [if_neg (by simp)] at h3;cases h3;exact (q.imp s id).bl
theorem aJ:PA X [] (gA aO true):=PA.imp mR fun σ H Q ⟨ρ,ds,E,h,q⟩=>by cases h;exact q [] H (cD.refl H) .nil fun _=>.nil
theorem aC {es:List Expr} {f:FA} {r:Bool} (he:PE X e (gE fe re)) (hes:PA X es (gA f r)) (hs:starEach (e::es) X.env=(false,eval e X.env)::starEach es X.env:=by rfl):PA X (e::es) (gA (aB fe f) (re&&r)):=PA.imp (dO he hes hs) fun σ H Q ⟨ρ,ds,E,h,q⟩=>by
  obtain ⟨x,h1,h⟩:=aY h;obtain ⟨xs,h2,h⟩:=aY h;cases h;refine ⟨ρ,x,E,h1,fun v H1 s1 r1 n1=>⟨ρ,xs,E.same s1,h2,fun vs H2 s2 r2 n2=>q _ _ (s1.trans s2) (.cons (r1.same s2) r2) fun hf=>?_⟩⟩;obtain ⟨f1,f2⟩:=(Bool.and_eq_true _ _▸hf:re=true/\r=true)
  exact .cons ((n1 f1).same s2) ((n2 f2).mono (cD.new s1))
theorem bQ {es:List Expr} {f:FA} {r:Bool} {x1} (h:PA X es (gA f r)):PE X (.Tuple es x1 pos) (gE (cL f) r):=PE.imp (aA9 h) fun σ H Q ⟨ρ,d,E,h,q⟩=>by
  obtain ⟨xs,h1,h⟩:=aY h;split at h
  ·rename_i hl;cases h;refine ⟨ρ,xs,E,h1,fun vs H1 s1 r1 n1=>⟨?_,fun p hp=>?_⟩⟩
   ·rw [r1.length];exact Nat.le_trans (of_decide_eq_true hl) (by rw [sizeLine_eq];decide)
   ·have sp:cD H1 (upd H1 p (.tup vs)):=cD.upd hp;exact q _ _ (s1.trans sp) (.tup aP (r1.same sp)) fun hf=>.tup aP ((n1 hf).same sp)
  ·cases h
theorem eY {es:List Expr} {f:FA} {r:Bool} (h:PA X es (gA f r)):PE X (.List es pos) (gE (j6 f) r):=PE.imp (S5 h) fun σ H Q ⟨ρ,d,E,h,q⟩=>by
  obtain ⟨xs,h1,h⟩:=aY h;split at h
  ·rename_i hl;cases h;refine ⟨ρ,xs,E,h1,fun vs H1 s1 r1 n1=>⟨?_,fun p hp=>?_⟩⟩
   ·rw [r1.length];exact Nat.le_trans (of_decide_eq_true hl) (by rw [sizeLine_eq];decide)
   ·have sp:cD H1 (upd H1 p (.lst vs)):=cD.upd hp;exact q _ _ (s1.trans sp) (.lst aP trivial (r1.same sp)) fun hf=>.lst aP (s1.free hp) ((n1 hf).same sp)
  ·cases h
theorem yU:PE X (.Dict [] [] pos) (gE (bC (.dct [])) true):=PE.imp QD fun σ H Q ⟨ρ,d,E,h,q⟩=>by
  cases h;exact fun p hp=>q _ _ (cD.upd hp) (.dK aP trivial .nil List.nodup_nil) fun _=>.dK aP hp .nil List.nodup_nil
end
end Mi
end
section
namespace Mi
open PySem L2 PySem.SeqAt PySem.Spec PyProof.Rows
variable [KFrag]
section
variable {X:Cx} {a b c e:Expr} {pos:Pos} {fa fb fc fe:FE} {ra rb rc re:Bool} {ga gb gc:FT}
theorem jM {n:Nat} (h:decide (n<=lim)=true):n<=sizeLine:=Nat.le_trans (of_decide_eq_true h) (by rw [sizeLine_eq];decide)
theorem JD {n:Nat} (h:decide (n<lim)=true):n<sizeLine:=Nat.lt_of_lt_of_le (of_decide_eq_true h) (by rw [sizeLine_eq];decide)
theorem Rep.aAu {P:Addr->Prop} {H:Hp} {v:V} {ds:List D} (r:Rep P H v (.lst ds)):∃a xs,v=.ref a/\Rd H a (.lst xs)/\bK P H xs ds:=by
 cases r with
 | lst e p rr=>exact ⟨_,_,rfl,.inl e,rr⟩
theorem PW.imp {X:Cx} {e:PySem.Expr} {t t':TT} (h:PW X e t) (i:∀σ H Q,t' σ H Q->t σ H Q):PW X e t':=fun wh pins s σ H Q I q=>h wh pins s σ H Q I (i σ H Q q)
theorem JF (ha:PT X a (gT ga)):PW X (.BoolOp .And [a] pos) (gT ga):=VM ha
theorem JG (ha:PT X a (gT ga)):PW X (.BoolOp .Or [a] pos) (gT ga):=Z3 ha
theorem TX {rest:List Expr} (ha:PT X a (gT ga)) (hb:PW X (.BoolOp .And (b::rest) pos) (gT gb)):PW X (.BoolOp .And (a::b::rest) pos) (gT (TQ ga gb)):=PW.imp (Z4 ha hb) fun σ H Q ⟨ρ,k,E,h,q⟩=>by
 obtain ⟨z,h1,h3⟩:=aY h;refine ⟨ρ,z,E,h1,fun H' s=>?_⟩;cases z with
 | true=>rw [if_pos rfl];rw [if_pos rfl] at h3;exact ⟨ρ,k,E.same s,h3,fun H2 s2=>q H2 (s.trans s2)⟩
 | false=>rw [if_neg (by simp)];rw [if_neg (by simp)] at h3;cases h3;exact q H' s
theorem WT {rest:List Expr} (ha:PT X a (gT ga)) (hb:PW X (.BoolOp .Or (b::rest) pos) (gT gb)):PW X (.BoolOp .Or (a::b::rest) pos) (gT (bOr ga gb)):=PW.imp (aDc ha hb) fun σ H Q ⟨ρ,k,E,h,q⟩=>by
 obtain ⟨z,h1,h3⟩:=aY h;refine ⟨ρ,z,E,h1,fun H' s=>?_⟩;cases z with
 | true=>rw [if_pos rfl];rw [if_pos rfl] at h3;cases h3;exact q H' s
 | false=>rw [if_neg (by simp)];rw [if_neg (by simp)] at h3;exact ⟨ρ,k,E.same s,h3,fun H2 s2=>q H2 (s.trans s2)⟩
theorem bY:OpR X (binaryOp .Add) (r2 (aR .add) true):=by
 intro pins s σ H x y v u Q I rx ry h;obtain ⟨a,b,d,p,q,e,k⟩:=h;cases p with
 | int i=>
  cases q with
  | int j=>cases e;exact aA3 pins s σ H _ _ v u Q I rx ry ⟨i,j,rfl,rfl,k.int⟩
  | _=>simp [aR] at e
 | str i=>
  cases q with
  | str j=>
   simp only [aR] at e;split at e
   ·rename_i hl;cases e;exact BV pins s σ H _ _ v u Q I rx ry ⟨i,j,rfl,rfl,jM hl,k.str⟩
   ·cases e
  | _=>simp [aR] at e
 | non=>simp [aR] at e
 | bl _=>simp [aR] at e
 | tup _ _=>simp [aR] at e
 | dK _ _ _ _=>simp [aR] at e
 | dT _ _ _ _=>simp [aR] at e
 | fdK _ _ _=>simp [aR] at e
 | fdT _ _ _=>simp [aR] at e
 | cel _ _ _=>simp [aR] at e
 | @lst a1 xs ds e1 p1 r1=>
  have hR:Rep All H (.ref a1) (.lst ds):=.lst e1 p1 r1;cases b with
  | lst es=>
   simp only [aR] at e;split at e
   ·rename_i hl;cases e;rw [Bool.and_eq_true,Bool.and_eq_true] at hl;obtain ⟨⟨hl,hp1⟩,hp2⟩:=hl;obtain ⟨l1,xs1,e1',rd1,rr1⟩:=hR.aAu;obtain ⟨l2,xs2,rfl,rd2,rr2⟩:=q.aAu;cases e1';cases rx;cases ry;obtain ⟨z,its,n,vr1,ee1⟩:=rd1.ok I.hok;obtain ⟨z2,its2,n2,vr2,ee2⟩:=rd2.ok I.hok;have hz:xs1.length+xs2.length<=sizeLine:=by rw [rr1.length,rr2.length];exact jM hl
    have t1:=vr1.length;have t2:=vr2.length;refine PySem.P.add_list ee1 ee2 ?_ (by rw [List.size_toArray,List.size_toArray];lia);have ea:its.toArray++its2.toArray=(its++its2).toArray:=by simp
    rw [ea];refine ⟨.ref _,_,I.aFe (t':=s.toks) (vr1.append vr2) (by rw [List.length_append];lia),rfl,?_⟩;have sp:cD H (upd H s.heap.objs.size (.lst (xs1++xs2))):=cD.upd I.fresh;exact k _ _ sp (.lst aP trivial ((rr1.append rr2).same sp)) fun _=>.lst aP I.fresh (((rr1.bJ hp1).append (rr2.bJ hp2)).same sp)
   ·cases e
  | _=>simp [aR] at e
 | frz _ _=>simp [aR] at e
theorem wY {f:Value->Value->Sem Value} {C:Int->Int->Prop} {g:Int->Int->V} {op:D->D->Res D} (h:OpR X f (rI C g))
  (hi:∀i j d,op (.int i) (.int j)=.ok d->C i j/\∃k,d=.int k/\g i j=.int k) (hn:∀a b d,op a b=.ok d->(∃i,a=.int i)/\∃j,b=.int j):OpR X f (r2 op true):=by
 intro pins s σ H x y v u Q I rx ry ⟨a,b,d,p,q,e,k⟩;obtain ⟨⟨i,rfl⟩,⟨j,rfl⟩⟩:=hn a b d e;cases p;cases q;obtain ⟨hc,m,rfl,hm⟩:=hi i j d e;exact h pins s σ H _ _ v u Q I rx ry ⟨i,j,rfl,rfl,hc,by rw [hm];exact k.int⟩
theorem JH:OpR X (binaryOp .Sub) (r2 (aR .sub) true):=by
 intro pins s σ H x y v u Q I rx ry ⟨a,b,d,p,q,e,k⟩;cases a <;> cases b <;> simp [aR] at e
 cases p;cases q;subst e;exact aA4 pins s σ H _ _ v u Q I rx ry ⟨_,_,rfl,rfl,k.int⟩
theorem aAv:OpR X (binaryOp .Mult) (r2 (aR .mul) true):=by
 refine wY aA5 (fun i j d e=>?_) fun a b d e=>?_
 ·simp only [aR] at e;split at e
  ·rename_i hl;cases e;refine ⟨?_,_,rfl,rfl⟩;simp only [jW,Bool.or_eq_true,Bool.and_eq_true,decide_eq_true_eq] at hl;exact hl
  ·cases e
 ·cases a <;> cases b <;> first|exact ⟨⟨_,rfl⟩,_,rfl⟩|simp [aR] at e
theorem cW:OpR X (binaryOp .FloorDiv) (r2 (aR .fdiv) true):=by
 refine wY V0 (fun i j d e=>?_) fun a b d e=>?_
 ·simp only [aR] at e;split at e
  ·rename_i hl;cases e;refine ⟨?_,_,rfl,rfl⟩;simp only [Bool.and_eq_true,decide_eq_true_eq] at hl;exact hl
  ·cases e
 ·cases a <;> cases b <;> first|exact ⟨⟨_,rfl⟩,_,rfl⟩|simp [aR] at e
theorem bR:OpR X (binaryOp .Mod) (r2 (aR .mod) true):=by
 refine wY aA6 (fun i j d e=>?_) fun a b d e=>?_
 ·simp only [aR] at e;split at e
  ·rename_i hl;cases e;refine ⟨?_,_,rfl,rfl⟩;simp only [Bool.and_eq_true,decide_eq_true_eq] at hl;exact hl
  ·cases e
 ·cases a <;> cases b <;> first|exact ⟨⟨_,rfl⟩,_,rfl⟩|simp [aR] at e
theorem pI (hu:X.A.units+20<cLine):OpR X (compareOp .Eq) (r2 (cO .eq) true):=by
 intro pins s σ H x y v u Q I rx ry ⟨a,b,d,p,q,e,k⟩;simp only [cO] at e;split at e
 ·rename_i hl;cases e;rw [Bool.and_eq_true] at hl;exact (yQ I a_ X.A (by have:a_=12:=rfl;lia) hl.1 hl.2 p q rx ry).1 X.prog X.w X.xe _ ⟨.bl _,H,I,rfl,k.bl⟩
 ·cases e
theorem JK (hu:X.A.units+20<cLine):OpR X (compareOp .NotEq) (r2 (cO .ne) true):=by
 intro pins s σ H x y v u Q I rx ry ⟨a,b,d,p,q,e,k⟩;simp only [cO] at e;split at e
 ·rename_i hl;cases e;rw [Bool.and_eq_true] at hl;exact (yQ I a_ X.A (by have:a_=12:=rfl;lia) hl.1 hl.2 p q rx ry).2.1 X.prog X.w X.xe _ ⟨.bl _,H,I,rfl,k.bl⟩
 ·cases e
theorem TY (o:j9) (hu:X.A.units+20<cLine):OpR X (compareOp o.op) (r2 (cO (.ord o)) true):=by
 intro pins s σ H x y v u Q I rx ry ⟨a,b,d,p,q,e,k⟩;simp only [cO] at e;split at e
 ·rename_i hl;rw [Bool.and_eq_true] at hl;split at e
  ·rename_i m hm;cases e;have:=JC I o a_ X.A (by have:a_=12:=rfl;lia) hl.1 hl.2 p q rx ry hm X.prog X.w X.xe _ (show EP X pins σ Q (.bool m) s from ⟨.bl _,H,I,rfl,k.bl⟩);cases o <;> exact this
  ·cases e
 ·cases e
theorem aDv (hu:X.A.units+20<cLine):OpR X (compareOp .Lt) (r2 (cO (.ord .lt)) true):=TY .lt hu
theorem aDw (hu:X.A.units+20<cLine):OpR X (compareOp .LtE) (r2 (cO (.ord .le)) true):=TY .le hu
end
end Mi
end
section
namespace Mi
open PySem L2 PySem.SeqAt PySem.Spec PyProof.Rows
variable [KFrag]
theorem JL (k q:Key):eqD (kD k) (kD q)=decide (k=q):=by
 cases k <;> cases q <;> simp [kD,eqD,Bool.beq_eq_decide_eq]
theorem T3:∀(k q:List Key),uM (k.map kD) (q.map kD)=decide (k=q)
 | [],[]=>by simp [uM]
 | [],_::_=>by simp [uM]
 | _::_,[]=>by simp [uM]
 | a::k,b::q=>by
  rw [List.map_cons,List.map_cons,uM,JL,T3 k q];by_cases h:a=b <;> by_cases h':k=q <;> simp [h,h']
theorem WW (k q:List Key):eqD (.tup (k.map kD)) (.tup (q.map kD))=decide (k=q):=by rw [eqD,T3]
theorem WX {P:Addr->Prop} {H:Hp} {k:Key}:∀{kvs:List (Key×V)} {ds:List (D×D)},j7 P H kvs ds->(∃v d,rA kvs k=some v/\cJ ds (kD k)=some d/\Rep P H v d)\/(rA kvs k=none/\cJ ds (kD k)=none)
 | _,_,.nil=>.inr ⟨rfl,rfl⟩
 | _,_,.cons (k:=k') r t=>by
  by_cases h:k'=k
  ·subst h;exact .inl ⟨_,_,mV rfl,by rw [cJ,JL,if_pos (by simp)],r⟩
  ·rw [cJ,JL,if_neg (by simpa using h),mW (p:=(k',_)) h];exact WX t
theorem WY {P:Addr->Prop} {H:Hp} {k:List Key}:∀{kvs:List (List Key×V)} {ds:List (D×D)},nH P H kvs ds->(∃v d,rA kvs k=some v/\cJ ds (.tup (k.map kD))=some d/\Rep P H v d)\/(rA kvs k=none/\cJ ds (.tup (k.map kD))=none)
 | _,_,.nil=>.inr ⟨rfl,rfl⟩
 | _,_,.cons (k:=k') r t=>by
  by_cases h:k'=k
  ·subst h;exact .inl ⟨_,_,mV rfl,by rw [cJ,WW,if_pos (by simp)],r⟩
  ·rw [cJ,WW,if_neg (by simpa using h),mW (p:=(k',_)) h];exact WY t
theorem rR {H:Hp} {v:V} {d:D} (h:j_ d=true) (r:Rep All H v d):∃k,v=kV k/\d=kD k:=by
 cases r <;> simp [j_] at h
 ·exact ⟨.inl _,rfl,rfl⟩
 ·exact ⟨.inr _,rfl,rfl⟩
theorem flat_keys {H:Hp}:∀{vs:List V} {ds:List D},ds.all j_=true->bK All H vs ds->∃ks:List Key,vs=ks.map kV/\ds=ks.map kD
 | _,_,_,.nil=>⟨[],rfl,rfl⟩
 | _,_,h,.cons r t=>by
  rw [List.all_cons,Bool.and_eq_true] at h;obtain ⟨k,rfl,rfl⟩:=rR h.1 r;obtain ⟨ks,rfl,rfl⟩:=flat_keys h.2 t;exact ⟨k::ks,rfl,rfl⟩
theorem jB {H:Hp} {y:V} {k:D} (h:keyOk k=true) (r:Rep All H y k):(∃q,y=kV q/\k=kD q)\/∃(b:Addr) (ks:List Key),y=.ref b/\H b=some (.tup (ks.map kV))/\k=.tup (ks.map kD):=by
 cases k <;> simp [keyOk] at h
 ·exact .inl (rR rfl r)
 ·exact .inl (rR rfl r)
 ·obtain ⟨a,xs,rfl,e,rr⟩:=r.dY;obtain ⟨ks,rfl,rfl⟩:=flat_keys (List.all_eq_true.mpr h) rr;exact .inr ⟨a,ks,rfl,e,rfl⟩
theorem lG (k:Key):isTup (kD k)=false:=by cases k <;> rfl
section
variable {X:Cx} {pins:List (Addr×Obj)} {σ:L2.St} {H:Hp} {s:Shared} {a:Addr}
theorem yV {o o':HO} (e:H a=some o):upd (upd H a o') a o=H:=by
 rw [wD]
 funext b
 by_cases h:b=a
 ·subst h;rw [aP,e]
 ·rw [bO h]
theorem nP (I:Inv X pins σ H s) (e:H a=some (.dK [])):Inv X pins σ (upd H a (.dT [])) s:=by
 obtain ⟨z,hd,vs,rel,o,es,ep,h1,h2,h3,h4,h5,h6⟩:=QC I.hok e;cases rel;refine I.write (t':=s.toks) (x:=a) (e:=a) (h':=s.heap) (by rw [e];trivial) (.inl rfl) (fun _ _ _ q=>q) ⟨o,h1⟩ ?_;refine ⟨Nat.zero_le _,hd,[],.nil,o,es,ep,h1,h2,h3,?_,List.nodup_nil⟩;cases h5':es.toList with
 | nil=>rfl
 | cons _ _=>rw [h5'] at h5;cases h5
theorem nQ (I:Inv X pins σ H s) (e:H a=some (.dT [])):Inv X pins σ (upd H a (.dK [])) s:=by
 obtain ⟨z,hd,vs,rel,o,es,ep,h1,h2,h3,h4,h5,h6⟩:=V_ I.hok e;cases rel;refine I.write (t':=s.toks) (x:=a) (e:=a) (h':=s.heap) (by rw [e];trivial) (.inl rfl) (fun _ _ _ q=>q) ⟨o,h1⟩ ?_;have h0:es.toList=[]:=h4;refine ⟨Nat.zero_le _,hd,[],.nil,o,es,ep,h1,h2,h3,?_,?_,List.nodup_nil⟩
 ·intro x hx;have:x∈es.toList:=by simpa using hx
  rw [h0] at this;cases this
 ·rw [h0];exact .nil
theorem yW {P:Addr->Prop}:∀{kvs:List (Key×V)} {ds:List (D×D)},j7 P H kvs ds->∀p∈ds,isTup p.1=false
 | _,_,.nil,_,h=>by cases h
 | _,_,.cons r t,p,h=>by
  rcases List.mem_cons.mp h with rfl|h
  ·exact lG _
  ·exact yW t p h
theorem yX {P:Addr->Prop}:∀{kvs:List (List Key×V)} {ds:List (D×D)},nH P H kvs ds->∀p∈ds,isTup p.1=true
 | _,_,.nil,_,h=>by cases h
 | _,_,.cons r t,p,h=>by
  rcases List.mem_cons.mp h with rfl|h
  ·rfl
  ·exact yX t p h
theorem W0 {x y:V} {ds:List (D×D)} {k:D} (I:Inv X pins σ H s) (rd:Rep All H x (.dct ds)) (rk:Rep All H y k) (hk:qN ds k=true) :
  ∃H1 a o,x=.ref a/\Inv X pins σ H1 s/\(∀s',Inv X pins σ H1 s'->Inv X pins σ H s')/\HQ H1 a y o/\((o=none/\cJ ds k=none)\/∃v d,o=some v/\cJ ds k=some d/\Rep All H v d):=by
 unfold qN at hk;rw [Bool.and_eq_true] at hk;obtain ⟨h1,h2⟩:=hk;cases rd with
 | @dK a kvs ds e _ r n=>
  rcases jB h1 rk with ⟨q,rfl,rfl⟩|⟨b,ks,rfl,eb,rfl⟩
  ·refine ⟨H,a,_,rfl,I,fun _ h=>h,.k e,?_⟩;rcases WX (k:=q) r with ⟨v,d,g1,g2,g3⟩|⟨g1,g2⟩
   ·exact .inr ⟨v,d,g1,g2,g3⟩
   ·exact .inl ⟨g1,g2⟩
  ·cases r with
   | nil=>
    have e2:=yV (o':=.dT []) e;refine ⟨upd H a (.dT []),a,none,rfl,nP I e,fun s' I'=>?_,.t (k:=ks) aP (by rw [bO (VG eb e (by intro z;cases z))];exact eb),.inl ⟨rfl,rfl⟩⟩;have:=nQ I' aP;rwa [e2] at this
   | cons r t=>
    rw [List.all_cons,lG] at h2;simp [isTup] at h2
 | @dT a kvs ds e _ r n=>
  rcases jB h1 rk with ⟨q,rfl,rfl⟩|⟨b,ks,rfl,eb,rfl⟩
  ·cases r with
   | nil=>
    have e2:=yV (o':=.dK []) e;refine ⟨upd H a (.dK []),a,none,rfl,nQ I e,fun s' I'=>?_,.k (k:=q) aP,.inl ⟨rfl,rfl⟩⟩;have:=nP I' aP;rwa [e2] at this
   | cons r t=>
    rw [List.all_cons,lG] at h2;simp [isTup] at h2
  ·refine ⟨H,a,_,rfl,I,fun _ h=>h,.t e eb,?_⟩;rcases WY (k:=ks) r with ⟨v,d,g1,g2,g3⟩|⟨g1,g2⟩
   ·exact .inr ⟨v,d,g1,g2,g3⟩
   ·exact .inl ⟨g1,g2⟩
theorem QT {x:V} {ds:List (D×D)} {k d:D} (rd:Rep All H x (.dct ds)) (hk:keyOk k=true) (h:cJ ds k=some d):qN ds k=true:=by
 have one:∀{ds:List (D×D)},cJ ds k=some d->∃p∈ds,eqD p.1 k=true:=by
  intro ds;induction ds with
  | nil=>intro h;cases h
  | cons p ds ih=>
   intro h;obtain ⟨p1,p2⟩:=p;rw [cJ] at h;by_cases hq:eqD p1 k=true
   ·exact ⟨_,List.mem_cons_self ..,hq⟩
   ·rw [if_neg hq] at h;obtain ⟨p,hp,e⟩:=ih h;exact ⟨p,List.mem_cons_of_mem _ hp,e⟩
 obtain ⟨p,hp,he⟩:=one h;unfold qN;rw [hk,Bool.true_and,List.all_eq_true];intro q hq;have same:isTup p.1=isTup k:=by
  obtain ⟨p1,p2⟩:=p;cases p1 <;> cases k <;> simp [eqD,keyOk,isTup] at he hk ⊢
 cases rd with
 | dK e _ r n=>rw [yW r q hq,<-same,yW r p hp];rfl
 | dT e _ r n=>rw [yX r q hq,<-same,yX r p hp];rfl
end
section
variable {X:Cx} {a b c e:Expr} {pos:Pos} {fa fb fc fe:FE} {ra rb rc re:Bool} {ga gb gc:FT}
noncomputable def v_ (H:Hp) (u:Value):D:=by
 classical
 exact if h:∃d,d.bN a_=true/\∃v,RelV v u/\Rep All H v d then Classical.choose h else .non
theorem JM {H:Hp} {u:Value} {v:V} {d:D} (hq:d.bN a_=true) (rv:RelV v u) (r:Rep All H v d):v_ H u=d:=by
 unfold v_;have h:∃d,d.bN a_=true/\∃v,RelV v u/\Rep All H v d:=⟨d,hq,v,rv,r⟩
 rw [dif_pos h];obtain ⟨h2,v',rv',r'⟩:=Classical.choose_spec h;have:=rv'.inj rv;subst this;exact Rep.inj a_ h2 hq r' r
theorem pJ {H:Hp} {a:D}:∀{xs:List V} {ds:List D} {its:List Value},D.cA a_ ds=true->bK All H xs ds->Vals xs its->(its.any fun u=>eqD (v_ H u) a)=ds.any fun y=>eqD y a
 | _,_,_,_,.nil,.nil=>rfl
 | _,_,_,h,.cons r t,.cons v vt=>by
  rw [D.cA,Bool.and_eq_true] at h;rw [List.any_cons,List.any_cons,JM h.1 v r,pJ h.2 t vt]
theorem rT {pins:List (Addr×Obj)} {σ:L2.St} {H:Hp} {s:Shared} (I:Inv X pins σ H s) (hu:X.A.units+20<cLine) {a:D} {x:V} {v:Value} (ha:a.bN a_=true) (rx:Rep All H x a) (rv:RelV x v)
  {xs:List V} {ds:List D} {its:List Value} (h:D.cA a_ ds=true) (r:bK All H xs ds) (vr:Vals xs its) (u:Value) (hm:u∈its):EqAt X.A.in1 s u v (eqD (v_ H u) a):=by
 obtain ⟨j,hj,e⟩:=List.getElem_of_mem hm;have hj':j<ds.length:=by rw [<-r.length,vr.length];exact hj
 obtain ⟨w,h1,h2⟩:=r.get (i:=j) (d:=ds[j]) (by simp [hj']);obtain ⟨u',h3,h4⟩:=vr.get h1;rw [List.getElem?_eq_getElem hj,e] at h3;cases h3;have hd:ds[j].bN a_=true:=by
  have:=fO (j:=j) h hj';rwa [List.getD_eq_getElem?_getD,List.getElem?_eq_getElem hj'] at this
 rw [JM hd h4 h2];exact (yQ I a_ X.A.in1 (by show X.A.units+1+12<cLine;lia) hd ha h2 rx h4 rv).2.2
theorem aAw (hu:X.A.units+20<cLine):OpR X (compareOp .In) (r2 (cO .isin) true):=by
 intro pins s σ H x y v u Q I rx ry ⟨a,b,d,p,q,e,k⟩;cases b with
 | tup ys=>
  simp only [cO] at e;split at e
  ·rename_i hl;cases e;rw [Bool.and_eq_true] at hl;obtain ⟨l,xs,rfl,ee,rr⟩:=q.dY;cases ry;obtain ⟨its,vr,pl⟩:=i_ I ee;refine in_tupleAt (fun u=>eqD (v_ H u) a) pl (fun w hw=>rT I hu hl.1 p rx hl.2 rr vr w (by simpa using hw)) ⟨.bl _,H,I,rfl,?_⟩;rw [show its.toArray.any (fun u=>eqD (v_ H u) a)=its.any (fun u=>eqD (v_ H u) a) by simp,pJ hl.2 rr vr];exact k.bl
  ·cases e
 | lst ys=>
  simp only [cO] at e;split at e
  ·rename_i hl;cases e;rw [Bool.and_eq_true] at hl;obtain ⟨l,xs,rfl,ee,rr⟩:=q.gH (K:=X.K);cases ry;obtain ⟨its,vr,pl⟩:=jA I ee;refine in_listAt (fun u=>eqD (v_ H u) a) pl (fun w hw=>rT I hu hl.1 p rx hl.2 rr vr w (by simpa using hw)) ⟨.bl _,H,I,rfl,?_⟩;rw [show its.toArray.any (fun u=>eqD (v_ H u) a)=its.any (fun u=>eqD (v_ H u) a) by simp,pJ hl.2 rr vr];exact k.bl
  ·cases e
 | dct kvs=>
  simp only [cO] at e;split at e
  ·rename_i hl;cases e;obtain ⟨H1,a1,o,rfl,I1,bk,g,hc⟩:=W0 I q p hl;cases ry;refine aFg (by lia) I1 g rx fun s' I'=>⟨.bl _,H,bk s' I',rfl,?_⟩
   rcases hc with ⟨rfl,h2⟩|⟨w,dd,rfl,h2,_⟩
   ·rw [h2] at k;exact k.bl
   ·rw [h2] at k;exact k.bl
  ·cases e
 | _=>simp [cO] at e
theorem mY (hu:X.A.units+20<cLine):OpR X (compareOp .NotIn) (r2 (cO .notin) true):=by
 intro pins s σ H x y v u Q I rx ry ⟨a,b,d,p,q,e,k⟩;cases b with
 | tup ys=>
  simp only [cO] at e;split at e
  ·rename_i hl;cases e;rw [Bool.and_eq_true] at hl;obtain ⟨l,xs,rfl,ee,rr⟩:=q.dY;cases ry;obtain ⟨its,vr,pl⟩:=i_ I ee;refine notIn_tupleAt (fun u=>eqD (v_ H u) a) pl (fun w hw=>rT I hu hl.1 p rx hl.2 rr vr w (by simpa using hw)) ⟨.bl _,H,I,rfl,?_⟩;rw [show its.toArray.any (fun u=>eqD (v_ H u) a)=its.any (fun u=>eqD (v_ H u) a) by simp,pJ hl.2 rr vr];exact k.bl
  ·cases e
 | lst ys=>
  simp only [cO] at e;split at e
  ·rename_i hl;cases e;rw [Bool.and_eq_true] at hl;obtain ⟨l,xs,rfl,ee,rr⟩:=q.gH (K:=X.K);cases ry;obtain ⟨its,vr,pl⟩:=jA I ee;refine notIn_listAt (fun u=>eqD (v_ H u) a) pl (fun w hw=>rT I hu hl.1 p rx hl.2 rr vr w (by simpa using hw)) ⟨.bl _,H,I,rfl,?_⟩;rw [show its.toArray.any (fun u=>eqD (v_ H u) a)=its.any (fun u=>eqD (v_ H u) a) by simp,pJ hl.2 rr vr];exact k.bl
  ·cases e
 | dct kvs=>
  simp only [cO] at e;split at e
  ·rename_i hl;cases e;obtain ⟨H1,a1,o,rfl,I1,bk,g,hc⟩:=W0 I q p hl;cases ry;refine WD (by lia) I1 g rx fun s' I'=>⟨.bl _,H,bk s' I',rfl,?_⟩
   rcases hc with ⟨rfl,h2⟩|⟨w,dd,rfl,h2,_⟩
   ·rw [h2] at k;exact k.bl
   ·rw [h2] at k;exact k.bl
  ·cases e
 | _=>simp [cO] at e
theorem aAx {α:Type} (xs:List α) (i:Int):L2.atI xs i=(ixD xs.length i).bind fun j=>xs[j]?:=rfl
theorem bK.atI {P:Addr->Prop} {H:Hp} {xs:List V} {ds:List D} {i:Int} {d:D} (r:bK P H xs ds) (h:((ixD ds.length i).bind fun j=>ds[j]?)=some d):∃v,L2.atI xs i=some v/\Rep P H v d:=by
 rw [aAx,r.length];cases hi:ixD ds.length i with
 | none=>rw [hi] at h;cases h
 | some j=>
  rw [hi] at h;obtain ⟨v,h1,h2⟩:=r.get h;exact ⟨v,h1,h2⟩
theorem uP {X:Cx} {value slice:Expr} {pins:List (Addr×Obj)} {s:Shared} {σ:L2.St} {H:Hp} {a:Addr} {y v':V} {u:Value} {Q:VK} (hu:X.A.units+20<cLine) (I:Inv X pins σ H s) (g:HQ H a y (some v')) (ry:RelV y u) {H':Hp}
  (hs:subscripted slice false (.ref a) u=operate [.ref a,u] (getItem (.ref a) u)) (bk:∀s',Inv X pins σ H s'->Inv X pins σ H' s') (q:Q v' H') :
  wpAny (model X.prog X.w) X.A (subscriptTail value slice (.ref a) u) (EP X pins σ Q) X.xe s:=by
 have hT:=wL I g;unfold subscriptTail;refine wpAny_bind ?_;rw [getitemInPython_of_ne hT.not_modules];refine wpAny_bind (wpAny_specialOf hT PySem.F.slot_dict_getitem.lookup ?_);have fin:wpAny (model X.prog X.w) X.A (subscripted slice false (.ref a) u) (fun r s₃=>wpAny (model X.prog X.w) X.A (letTemporaryGo value (.ref a) r >>= fun _=>pure r) (EP X pins σ Q) X.xe s₃) X.xe s:=by
  rw [hs];exact wpAny_operating (HR (by lia) I g ry fun w' s3 I3 rw'=>wpAny_bind (wpAny_letTemporaryGo (wpAny_pure ⟨v',H',bk s3 I3,rw',q⟩)))
 first
  | exact wpAny_pure (wpAny_bind fin)
  | exact wpAny_bind (wpAny_pure (wpAny_bind fin))
  | exact wpAny_bind fin
theorem yZ {k d:D}:∀{ds:List (D×D)},keyOk k=true->cJ ds k=some d->∃p∈ds,isTup p.1=isTup k
 | [],_,h=>by cases h
 | (p1,p2)::ds,hk,h=>by
  rw [cJ] at h;by_cases hq:eqD p1 k=true
  ·refine ⟨_,List.mem_cons_self ..,?_⟩;cases p1 <;> cases k <;> simp [eqD,keyOk,isTup] at hq hk ⊢
  ·rw [if_neg hq] at h;obtain ⟨p,hp,e⟩:=yZ hk h;exact ⟨p,List.mem_cons_of_mem _ hp,e⟩
theorem aDx {H:Hp} {x y:V} {ds:List (D×D)} {k d:D} (rd:Rep All H x (.fdc ds)) (rk:Rep All H y k) (hk:keyOk k=true) (h:cJ ds k=some d):∃a v,x=.ref a/\HQ H a y (some v)/\Rep All H v d:=by
 obtain ⟨p,hp,et⟩:=yZ hk h;cases rd with
 | @fdK a o kvs ds e r n=>
  rcases jB hk rk with ⟨q,rfl,rfl⟩|⟨b,ks,rfl,eb,rfl⟩
  ·rcases WX (k:=q) r with ⟨v,d',g1,g2,g3⟩|⟨g1,g2⟩
   ·rw [g2] at h;cases h;exact ⟨a,v,rfl,.inl ⟨kvs,q,.inr ⟨o,e⟩,rfl,g1.symm⟩,g3⟩
   ·rw [g2] at h;cases h
  ·rw [yW r p hp] at et;cases et
 | @fdT a o kvs ds e r n=>
  rcases jB hk rk with ⟨q,rfl,rfl⟩|⟨b,ks,rfl,eb,rfl⟩
  ·rw [yX r p hp,lG] at et;cases et
  ·rcases WY (k:=ks) r with ⟨v,d',g1,g2,g3⟩|⟨g1,g2⟩
   ·rw [g2] at h;cases h;exact ⟨a,v,rfl,.inr ⟨kvs,ks,b,.inr ⟨o,e⟩,rfl,eb,g1.symm⟩,g3⟩
   ·rw [g2] at h;cases h
theorem bF (hK:KFrag.K=X.K) (hu:X.A.units+20<cLine):IxR X (r2 getD false):=by
 intro value slice pins s σ H x y v u Q I rx ry ⟨a,b,d,p,q,e,k⟩ hs;cases a with
 | tup ys=>
  cases b <;> simp only [getD] at e <;> (try (cases e;done))
  have e':=Res.jJ e;obtain ⟨l,xs,rfl,ee,rr⟩:=p.dY;cases q;obtain ⟨w,h1,h2⟩:=rr.atI e';exact aAe value slice pins s σ H _ _ v u Q I rx ry ⟨l,xs,_,w,rfl,rfl,.of ee,h1,k.self h2 fun z=>by cases z⟩ hs
 | lst ys=>
  cases b <;> simp only [getD] at e <;> (try (cases e;done))
  have e':=Res.jJ e;obtain ⟨l,xs,rfl,ee,rr⟩:=p.gH (K:=X.K);cases q;obtain ⟨w,h1,h2⟩:=rr.atI e';exact wJ value slice pins s σ H _ _ v u Q I rx ry ⟨l,xs,_,w,rfl,rfl,ee,h1,k.self h2 fun z=>by cases z⟩ hs
 | cel ca ys=>
  cases b <;> simp only [getD] at e <;> (try (cases e;done))
  have e':=Res.jJ e;cases p with
  | cel ee pp rr=>
   cases q;obtain ⟨w,h1,h2⟩:=rr.atI e';exact wJ value slice pins s σ H _ _ v u Q I rx ry ⟨_,_,_,w,rfl,rfl,.inl (.inl ee),h1,k.self h2 fun z=>by cases z⟩ hs
 | scr ys=>
  cases b <;> simp only [getD] at e <;> (try (cases e;done))
  have e':=Res.jJ e;cases p with
  | frz ee rr=>
   cases q;obtain ⟨w,h1,h2⟩:=rr.atI e';exact wJ value slice pins s σ H _ _ v u Q I rx ry ⟨_,_,_,w,rfl,rfl,ee.sq hK,h1,k.self h2 fun z=>by cases z⟩ hs
 | str z=>
  cases b <;> simp only [getD] at e <;> (try (cases e;done))
  split at e
  ·rename_i hl;have e':=Res.jJ e;obtain ⟨cc,h1,h2⟩:=Option.map_eq_some_iff.mp e';subst h2;cases p;cases q;exact aAf value slice pins s σ H _ _ v u Q I rx ry ⟨z,_,cc,rfl,rfl,jM hl,h1,k.str⟩ hs
  ·cases e
 | dct kvs=>
  have e':keyOk b=true/\cJ kvs b=some d:=by
   cases b <;> simp only [getD] at e <;> (split at e <;> first|(rename_i hl;exact ⟨hl,Res.jJ e⟩)|cases e)
  obtain ⟨H1,a1,o,rfl,I1,bk,g,hc⟩:=W0 I p q (QT p e'.1 e'.2);cases rx;rcases hc with ⟨rfl,h2⟩|⟨w,dd,rfl,h2,h3⟩
  ·rw [h2] at e';cases e'.2
  ·rw [h2] at e';cases e'.2;exact uP hu I1 g ry hs bk (k.self h3 fun z=>by cases z)
 | fdc kvs=>
  have e':keyOk b=true/\cJ kvs b=some d:=by
   cases b <;> simp only [getD] at e <;> (split at e <;> first|(rename_i hl;exact ⟨hl,Res.jJ e⟩)|cases e)
  obtain ⟨a1,w,rfl,g,h3⟩:=aDx p q e'.1 e'.2;cases rx;exact uP hu I g ry hs (fun _ h=>h) (k.self h3 fun z=>by cases z)
 | _=>cases b <;> simp [getD] at e
noncomputable def gO (f:List D->Res (Option Int)):TO:=fun σ H Q=>∃ρ i,ER H σ ρ/\f ρ=.ok i/\∀H',cD H H'->Q i H'
theorem PO.imp {X:Cx} {e:Option PySem.Expr} {t t':TO} (h:PO X e t) (i:∀σ H Q,t' σ H Q->t σ H Q):PO X e t':=fun pins s σ H Q I q=>h pins s σ H Q I (i σ H Q q)
theorem fY:PO X none (gO fB):=PO.imp V4 fun σ H Q ⟨ρ,i,E,h,q⟩=>by cases h;exact q H (cD.refl H)
theorem fZ (ha:PE X a (gE fa ra)):PO X (some a) (gO (eN fa)):=PO.imp (V5 ha) fun σ H Q ⟨ρ,i,E,h,q⟩=>by
 obtain ⟨x,h1,h⟩:=aY h;obtain ⟨j,h2,h⟩:=aY h;cases h;have e:=aAs h2;subst e;exact ⟨ρ,_,E,h1,fun v H' s r _=>by cases r;exact ⟨j,rfl,q H' s⟩⟩
theorem T4 (n d:Nat) (o:Option Int):HT.sIx n d o=FW n d o:=by
 cases o with
 | none=>rfl
 | some v=>
  show (if v<0 then (v+(n:Int)).toNat else min v.toNat n)=(if v<0 then (max (v+(n:Int)) 0).toNat else (min v (n:Int)).toNat);split <;> lia
theorem bK.cut {P:Addr->Prop} {H:Hp} {xs:List V} {ds:List D} (r:bK P H xs ds) (lo hi:Option Int):bK P H (HD xs lo hi) (cutD ds lo hi):=by
 unfold HD cutD;rw [r.length];simp only [T4];exact (r.drop _).take _
theorem eO {ds:List D}:D.aV ds=true↔∀d∈ds,d.pure=true:=by
 induction ds with
 | nil=>simp [D.aV]
 | cons d ds ih=>rw [D.aV,Bool.and_eq_true,ih];simp
noncomputable def rSl:V->Option Int->Option Int->Hp->VK->Prop:=fun x lo hi H Q=>∃a d,Rep All H x a/\aD6 a lo hi=.ok d/\kR H d true Q
theorem aDy (hK:KFrag.K=X.K):SlR X rSl:=by
 intro pins s σ H x v vl vu lo hi sl Q I rx hs pl pu ⟨a,d,p,e,k⟩;cases a <;> simp only [aD6] at e <;> (try (cases e;done))
 ·split at e
  ·cases e
  ·rename_i hw;cases e;obtain ⟨l,xs,rfl,ee,rr⟩:=p.dY;refine aAc pins s σ H _ v vl vu lo hi sl Q I rx hs pl pu ⟨l,xs,rfl,.of ee,?_,fun p hp=>?_⟩
   ·simp only [T4,rr.length];simp only [Bool.not_eq_true',Bool.or_eq_true,not_or,Bool.not_eq_false',decide_eq_true_eq] at hw;exact hw.2
   ·have sp:cD H (upd H p (.tup (HD xs lo hi))):=cD.upd hp;have hp2:D.aV ‹List D›=true:=by
     simp only [Bool.or_eq_true,not_or,Bool.not_eq_true'] at hw;simpa using hw.1
    exact k _ _ sp (.tup aP ((rr.cut lo hi).same sp)) fun z=>.tup aP (((rr.bJ hp2).cut lo hi).same sp)
 ·split at e
  ·rename_i hl;cases e;obtain ⟨l,xs,rfl,ee,rr⟩:=p.gH (K:=X.K);refine HH pins s σ H _ v vl vu lo hi sl Q I rx hs pl pu ⟨l,xs,rfl,ee,fun p hp=>?_⟩;have sp:cD H (upd H p (.lst (HD xs lo hi))):=cD.upd hp;exact k _ _ sp (.lst aP trivial ((rr.cut lo hi).same sp)) fun z=>.lst aP hp (((rr.bJ hl).cut lo hi).same sp)
  ·cases e
 ·split at e
  ·rename_i hl;cases e;cases p with
   | @frz l xs ds ee rr=>
    refine HH pins s σ H _ v vl vu lo hi sl Q I rx hs pl pu ⟨l,xs,rfl,ee.sq hK,fun p hp=>?_⟩;have sp:cD H (upd H p (.lst (HD xs lo hi))):=cD.upd hp;exact k _ _ sp (.lst aP trivial ((rr.cut lo hi).same sp)) fun z=>.lst aP hp (((rr.bJ hl).cut lo hi).same sp)
  ·cases e
end
end Mi
end
section
namespace PySem.Mm
open PySem
noncomputable def wdL:Bool->String
 | false => "min.loop"
 | true => "max.loop"
noncomputable def wdO:Bool->CmpOp
 | false=>.Lt
 | true=>.Gt
section
variable {prog:Program} {w:World} {A:Around} {R:Result->Shared->Prop} {I S:Addr} {fp wr:List Addr} {n:Nat} {P:Nat->Value->Prop} {St:Nat->Heap->Prop} {bt:Nat->Nat->Bool} {Gd:Shared->Prop} {op:CmpOp}
structure aAy (prog:Program) (w:World) (A:Around) (op:CmpOp) (P:Nat->Value->Prop) (bt:Nat->Nat->Bool) (wr:List Addr) (top:Nat) (Gd:Shared->Prop):Prop where
 keep:∀s h' tk,Gd s->(∀b o,b∉wr->b<top->s.heap.get? b=some o->h'.get? b=some o)->Gd {s with heap:=h',toks:=tk}
 says:∀i j vi vj s Q E,Gd s->P i vi->P j vj->Q (.bool (bt i j)) s->wpAny (model prog w) A (richCompare op vi vj) Q E s
noncomputable def aEn (P:Nat->Value->Prop) (bt:Nat->Nat->Bool) (n:Nat):Nat->Array Value->Prop
 | 0,a=>a=#[]/\0<n
 | j+1,a=>∃v,a=#[v,v]/\P (argBest bt j) v
theorem touched (J:aAy prog w A op P bt wr S Gd) {s:Shared} {f:Array Value->Array Value} (g:Gd s):Gd {s with heap:=s.heap.update S (Obj.mapSeq f)}:=
 J.keep s _ s.toks g fun b o _ hb e=>(Heap.get?_update_other _ _ (Nat.ne_of_gt hb)).trans e
theorem turn (m:Bool) (W:Walks prog w A.in1 I fp wr n P St) (hS:S∉fp) (J:aAy prog w A.in1 (wdO m) P bt wr S Gd):∀(k j:Nat) (s:Shared) (a:Array Value) (c:Nat),j+k=n->St j s.heap->Gd s->aEn P bt n j a->
  s.heap.get? S=some {cls:=.type "list",dict:=none,data:=.seq a c,slots:=#[]}->
  (∀v h' tk,P (argBest bt (n-1)) v->(∀b o,b∉wr->b≠S->s.heap.get? b=some o->h'.get? b=some o)->R (.ok (.ret v)) {s with heap:=h',toks:=tk})->
  codeAny (model prog w) A (.builtin (wdL m) ⟨[.ref I,.none,.ref S],[]⟩) R s:=by
 have off:S∉wr:=fun h=>hS (W.sub _ h)
 have still:∀{j:Nat} {h:Heap} {f:Array Value->Array Value},St j h->St j (h.update S (Obj.mapSeq f)):=fun st=>
  W.frame _ _ _ st fun b hb o e=>(Heap.get?_update_other _ _ fun z:S=b=>hS (z▸hb)).trans e
 intro k;induction k with
 | zero=>
  intro j s a c hj st g hb hs fin;have hjn:j=n:=hj;subst hjn;cases j with
  | zero=>exact absurd hb.2 (Nat.lt_irrefl 0)
  | succ j=>
   obtain ⟨v,rfl,hv⟩:=hb;have last:∀(h':Heap) (tk:Nat),(∀b o,b∉wr->s.heap.get? b=some o->h'.get? b=some o)->R (.ok (.ret v)) {s with heap:=h'.update S (Obj.mapSeq fun _=>#[]),toks:=tk}:=fun h' tk kp=>
    fin v _ tk hv fun b o h1 h2 e=>(Heap.get?_update_other _ _ (Ne.symm h2)).trans (kp b o h1 e)
   cases m
   ·show codeAny (model prog w) A (.builtin "min.loop" ⟨[.ref I,.none,.ref S],[]⟩) R s;refine codeAny_builtin F.entry_min_loop ?_;rw [Around.under_plainId F.plain_min_loop];refine wpAny_bind (m:=seqItems? (.ref S)) (wpAny_seqItems hs rfl ?_);refine wpAny_bind (wpAny_tryCatch (m:=pyNext (.ref I)) (W.done s _ _ st fun h' tk kp=>?_));exact wpAny_bind (m:=updateSeq S _) (wpAny_updateSeq (kp S _ off hs) rfl (wpAny_bind (wpAny_letGo (wpAny_pure (last h' tk kp)))))
   ·show codeAny (model prog w) A (.builtin "max.loop" ⟨[.ref I,.none,.ref S],[]⟩) R s;refine codeAny_builtin F.entry_max_loop ?_;rw [Around.under_plainId F.plain_max_loop];refine wpAny_bind (m:=seqItems? (.ref S)) (wpAny_seqItems hs rfl ?_);refine wpAny_bind (wpAny_tryCatch (m:=pyNext (.ref I)) (W.done s _ _ st fun h' tk kp=>?_));exact wpAny_bind (m:=updateSeq S _) (wpAny_updateSeq (kp S _ off hs) rfl (wpAny_bind (wpAny_letGo (wpAny_pure (last h' tk kp)))))
 | succ k ih=>
  intro j s a c hj st g hb hs fin;have hjn:j<n:=by lia
  /- what is left to do behind the list's change,or without one -/
  have on:∀(v:Value) (h':Heap) (tk:Nat),P j v->St (j+1) h'->(∀b o,b∉wr->s.heap.get? b=some o->h'.get? b=some o)->(∀(a':Array Value) (c':Nat) (h2:Heap),aEn P bt n (j+1) a'->h2.get? S=some {cls:=.type "list",dict:=none,data:=.seq a' c',slots:=#[]}->(h2=h'\/∃f:Array Value->Array Value,h2=h'.update S (Obj.mapSeq f))->
    codeAny (model prog w) A (.builtin (wdL m) ⟨[.ref I,.none,.ref S],[]⟩) R {s with heap:=h2,toks:=tk}):=by
   intro v h' tk _ st' kp a' c' h2 hb' hs' hh;have g':Gd {s with heap:=h',toks:=tk}:=J.keep s h' tk g fun b o h1 _ e=>kp b o h1 e
   rcases hh with rfl|⟨f,rfl⟩
   ·exact ih (j+1) _ a' c' (by lia) st' g' hb' hs' fun u h3 t3 hu k3=>fin u h3 t3 hu fun b o h1 h2 e=>k3 b o h1 h2 (kp b o h1 e)
   ·exact ih (j+1) _ a' c' (by lia) (still st') (touched J g') hb' hs' fun u h3 t3 hu k3=>fin u h3 t3 hu fun b o h1 h2 e=>k3 b o h1 h2 ((Heap.get?_update_other _ _ (Ne.symm h2)).trans (kp b o h1 e))
  have nmn:(toString "min" ++ toString ".loop" : String) = "min.loop":=by decide
  have nmx:(toString "max" ++ toString ".loop" : String) = "max.loop":=by decide
  cases j with
  | zero=>
   obtain ⟨rfl,_⟩:=hb;cases m
   ·show codeAny (model prog w) A (.builtin "min.loop" ⟨[.ref I,.none,.ref S],[]⟩) R s;refine codeAny_builtin F.entry_min_loop ?_;rw [Around.under_plainId F.plain_min_loop];refine wpAny_bind (m:=seqItems? (.ref S)) (wpAny_seqItems hs rfl ?_);refine wpAny_bind (wpAny_tryCatch (m:=pyNext (.ref I)) (W.item 0 s _ _ hjn st fun v h' tk pv st' kp=>?_));have hs':=kp S _ off hs;refine wpAny_bind (m:=updateSeq S _) (wpAny_updateSeq hs' rfl ?_);rw [nmn];exact wpAny_pure ⟨plainId_quiet F.plain_min_loop _,on v h' tk pv st' kp #[v,v] _ _ ⟨v,rfl,pv⟩ (Heap.get?_update_self _ hs' rfl) (.inr ⟨_,rfl⟩)⟩
   ·show codeAny (model prog w) A (.builtin "max.loop" ⟨[.ref I,.none,.ref S],[]⟩) R s;refine codeAny_builtin F.entry_max_loop ?_;rw [Around.under_plainId F.plain_max_loop];refine wpAny_bind (m:=seqItems? (.ref S)) (wpAny_seqItems hs rfl ?_);refine wpAny_bind (wpAny_tryCatch (m:=pyNext (.ref I)) (W.item 0 s _ _ hjn st fun v h' tk pv st' kp=>?_));have hs':=kp S _ off hs;refine wpAny_bind (m:=updateSeq S _) (wpAny_updateSeq hs' rfl ?_);rw [nmx];exact wpAny_pure ⟨plainId_quiet F.plain_max_loop _,on v h' tk pv st' kp #[v,v] _ _ ⟨v,rfl,pv⟩ (Heap.get?_update_self _ hs' rfl) (.inr ⟨_,rfl⟩)⟩
  | succ j=>
   obtain ⟨u,rfl,hu⟩:=hb;cases m
   ·show codeAny (model prog w) A (.builtin "min.loop" ⟨[.ref I,.none,.ref S],[]⟩) R s;refine codeAny_builtin F.entry_min_loop ?_;rw [Around.under_plainId F.plain_min_loop];refine wpAny_bind (m:=seqItems? (.ref S)) (wpAny_seqItems hs rfl ?_);refine wpAny_bind (wpAny_tryCatch (m:=pyNext (.ref I)) (W.item (j+1) s _ _ hjn st fun v h' tk pv st' kp=>?_));have hs':=kp S _ off hs;refine wpAny_bind (wpAny_pure ?_);refine wpAny_bind (wpAny_tryCatch (wpAny_holding (wpAny_bind (m:=richCompare .Lt v u) (J.says (j+1) (argBest bt j) v u _ _ _ (J.keep s h' tk g fun b o h1 _ e=>kp b o h1 e) pv hu ?_))));refine wpAny_bind (wpAny_holding (wpAny_truthy_bool (wpAny_bind (wpAny_letGo (wpAny_pure ?_)))));cases hx:bt (j+1) (argBest bt j)
    ·rw [if_neg Bool.false_ne_true];refine wpAny_bind (wpAny_letGo ?_);rw [nmn];exact wpAny_pure ⟨plainId_quiet F.plain_min_loop _,on v h' tk pv st' kp _ _ _ ⟨u,rfl,by rw [argBest,hx];exact hu⟩ hs' (.inl rfl)⟩
    ·rw [if_pos rfl];refine wpAny_bind (m:=updateSeq S _) (wpAny_updateSeq hs' rfl (wpAny_bind (wpAny_letGo ?_)));rw [nmn];exact wpAny_pure ⟨plainId_quiet F.plain_min_loop _,on v h' tk pv st' kp #[v,v] _ _ ⟨v,rfl,by rw [argBest,hx];exact pv⟩ (Heap.get?_update_self _ hs' rfl) (.inr ⟨_,rfl⟩)⟩
   ·show codeAny (model prog w) A (.builtin "max.loop" ⟨[.ref I,.none,.ref S],[]⟩) R s;refine codeAny_builtin F.entry_max_loop ?_;rw [Around.under_plainId F.plain_max_loop];refine wpAny_bind (m:=seqItems? (.ref S)) (wpAny_seqItems hs rfl ?_);refine wpAny_bind (wpAny_tryCatch (m:=pyNext (.ref I)) (W.item (j+1) s _ _ hjn st fun v h' tk pv st' kp=>?_));have hs':=kp S _ off hs;refine wpAny_bind (wpAny_pure ?_);refine wpAny_bind (wpAny_tryCatch (wpAny_holding (wpAny_bind (m:=richCompare .Gt v u) (J.says (j+1) (argBest bt j) v u _ _ _ (J.keep s h' tk g fun b o h1 _ e=>kp b o h1 e) pv hu ?_))));refine wpAny_bind (wpAny_holding (wpAny_truthy_bool (wpAny_bind (wpAny_letGo (wpAny_pure ?_)))));cases hx:bt (j+1) (argBest bt j)
    ·rw [if_neg Bool.false_ne_true];refine wpAny_bind (wpAny_letGo ?_);rw [nmx];exact wpAny_pure ⟨plainId_quiet F.plain_max_loop _,on v h' tk pv st' kp _ _ _ ⟨u,rfl,by rw [argBest,hx];exact hu⟩ hs' (.inl rfl)⟩
    ·rw [if_pos rfl];refine wpAny_bind (m:=updateSeq S _) (wpAny_updateSeq hs' rfl (wpAny_bind (wpAny_letGo ?_)));rw [nmx];exact wpAny_pure ⟨plainId_quiet F.plain_max_loop _,on v h' tk pv st' kp #[v,v] _ _ ⟨v,rfl,by rw [argBest,hx];exact pv⟩ (Heap.get?_update_self _ hs' rfl) (.inr ⟨_,rfl⟩)⟩
end
section
variable {prog:Program} {w:World} {A:Around} {E:Value->Shared->Prop} {s:Shared} {Q:Value->Shared->Prop}
noncomputable abbrev Seen (prog:Program) (w:World) (A:Around) (op:CmpOp) (Q:Value->Shared->Prop) (it:Value) (t:Shared):Prop:=
 ∃(I:Addr) (fp wr:List Addr) (n:Nat) (P:Nat->Value->Prop) (St:Nat->Heap->Prop) (bt:Nat->Nat->Bool),it=.ref I/\Walks prog w A I fp wr n P St/\St 0 t.heap/\(∀b∈fp,b<t.heap.objs.size)/\0<n/\
  (∃Gd:Shared->Prop,Gd t/\(∀s h' tk,Gd s->(∀b o,b∉wr->b<t.heap.objs.size->s.heap.get? b=some o->h'.get? b=some o)->Gd {s with heap:=h',toks:=tk})/\
   ∀i j vi vj s Q E,Gd s->P i vi->P j vj->Q (.bool (bt i j)) s->wpAny (model prog w) A (richCompare op vi vj) Q E s)/\
  ∀v h' tk,P (argBest bt (n-1)) v->(∀b o,b∉wr->t.heap.get? b=some o->h'.get? b=some o)->Q v {t with heap:=h',toks:=tk}
theorem begun (m:Bool) {it:Value} {t:Shared} {R:Result->Shared->Prop} (hR:∀v s,Q v s->R (.ok (.ret v)) s) (h:Seen prog w A.in1 (wdO m) Q it t) :
  codeAny (model prog w) A (.builtin (wdL m) ⟨[it,.none,.ref t.heap.objs.size],[]⟩) R {t with heap:=t.heap.push {cls:=.type "list",data:=.seq #[]}}:=by
 obtain ⟨I,fp,wr,n,P,St,bt,rfl,W,st,hfp,hn,⟨Gd,g,gk,gs⟩,q⟩:=h;have up:∀b o,t.heap.get? b=some o->(t.heap.push {cls:=.type "list",data:=.seq #[]}).get? b=some o:=fun b o e=>Heap.get?_push_of_some _ e
 refine turn m W (fun z=>Nat.lt_irrefl _ (hfp _ z)) ⟨gk,gs⟩ n 0 _ #[] _ (Nat.zero_add n) (W.frame _ _ _ st fun b _ o e=>up b o e) (gk t _ t.toks g fun b o _ _ e=>up b o e) ⟨rfl,hn⟩ (Heap.get?_push_size _ rfl) fun v h' tk hv kp=>?_
 exact hR _ _ (q v h' tk hv fun b o h1 e=>kp b o h1 (Nat.ne_of_lt (Heap.lt_size e)) (up b o e))
theorem uQ {x:Value} (h:wpAny (model prog w) A.in1 (pyIter x) (Seen prog w A.in1 .Gt Q) E s):wpAny (model prog w) A (call (.builtin "max") [x]) Q E s:=by
 have nmx:(toString "max" ++ toString ".loop" : String) = "max.loop":=by decide
 refine call_function_tree F.kind_max F.plain_max F.entry_max (F.args_max1 _) ?_;refine wpAny_bind (m:=Builtin.Builtins.bindParams "max" ["key", "default"] 0 ⟨[],[]⟩) (wpAny_of_eq (a:=[none,none]) rfl ?_);refine wpAny_bind (wpAny_pure (wpAny_bind (wpAny_mono h (fun it t ht=>wpAny_bind (wpAny_newObj_type ?_)) fun _ _ e=>e)));rw [nmx];exact wpAny_pure ⟨plainId_quiet F.plain_max_loop _,begun true (fun _ _ q=>q) ht⟩
theorem wZ {a b:Value} (h:wpAny (model prog w) A.in1 (pyIter (.ref s.heap.objs.size)) (Seen prog w A.in1 .Gt Q) E {s with heap:=s.heap.push {cls:=.type "tuple",data:=.seq #[a,b]}}):wpAny (model prog w) A (call (.builtin "max") [a,b]) Q E s:=by
 have nmx:(toString "max" ++ toString ".loop" : String) = "max.loop":=by decide
 refine call_function_tree F.kind_max F.plain_max F.entry_max (F.args_max2 _ _) ?_;refine wpAny_bind (m:=Builtin.Builtins.bindParams "max" ["key", "default"] 0 ⟨[],[]⟩) (wpAny_of_eq (a:=[none,none]) rfl ?_);refine wpAny_bind (m:=newTuple [a,b]) (wpAny_newObj_type (wpAny_bind (wpAny_mono h (fun it t ht=>wpAny_bind (wpAny_newObj_type ?_)) fun _ _ e=>e)));rw [nmx];exact wpAny_pure ⟨plainId_quiet F.plain_max_loop _,begun true (fun _ _ q=>q) ht⟩
end
end PySem.Mm
end
section
namespace Mi
open PySem L2 PySem.SeqAt PySem.Spec PyProof.Rows
variable [KFrag]
theorem uR (o:j9) (x:D) (xs:List D):∀k,k<=xs.length->(xs.take k).foldl (fun m y=>if (oX o y m).getD false then y else m) x=(x::xs).getD (argBest (btD o (x::xs)) k) .non
 | 0,_=>by simp [argBest]
 | k+1,h=>by
  have ih:=uR o x xs k (by lia);have hk:k<xs.length:=by lia
  rw [List.take_succ_eq_append_getElem hk,List.foldl_append,ih];have e:(x::xs).getD (k+1) .non=xs[k]:=by simp [hk]
  have hb:btD o (x::xs) (k+1) (argBest (btD o (x::xs)) k)=(oX o xs[k] ((x::xs).getD (argBest (btD o (x::xs)) k) .non)).getD false:=by unfold btD;rw [e]
  show (if (oX o xs[k] ((x::xs).getD (argBest (btD o (x::xs)) k) .non)).getD false then xs[k] else (x::xs).getD (argBest (btD o (x::xs)) k) .non)=(x::xs).getD (if btD o (x::xs) (k+1) (argBest (btD o (x::xs)) k) then k+1 else argBest (btD o (x::xs)) k) .non;rw [<-hb];cases btD o (x::xs) (k+1) (argBest (btD o (x::xs)) k) with
  | true=>rw [if_pos rfl,if_pos rfl,e]
  | false=>rw [if_neg (by simp),if_neg (by simp)]
section
variable {X:Cx} {pins:List (Addr×Obj)} {σ:L2.St} {H:Hp} {s:Shared}
noncomputable def Gds (s:Shared) (s':Shared):Prop:=∃h' tk,s'={s with heap:=h',toks:=tk}/\∀b o,s.heap.get? b=some o->h'.get? b=some o
theorem rU (I:Inv X pins σ H s) (hu:X.A.units+20<cLine) {o:j9} {xs:List V} {ds:List D} {its:List Value} {d:D} (r:bK All H xs ds) (vr:Vals xs its) (h:nF o ds=.ok d) (i j:Nat) (vi vj:Value) (s':Shared) (Q:Value->Shared->Prop) (E:Value->Shared->Prop)
  (g:Gds s s') (hi:its.toArray[i]?=some vi) (hj:its.toArray[j]?=some vj) (q:Q (.bool (btD o ds i j)) s'):wpAny (model X.prog X.w) X.A.in1 (richCompare o.op vi vj) Q E s':=by
 obtain ⟨h',tk,rfl,hk⟩:=g;have I':Inv X pins σ H {s with heap:=h',toks:=tk}:=I.kept hk;have hi':its[i]?=some vi:=by simpa using hi
 have hj':its[j]?=some vj:=by simpa using hj
 have at_:∀{i:Nat} {v:Value},its[i]?=some v->∃d w,ds.getD i .non=d/\d∈ds/\RelV w v/\Rep All H w d:=by
  intro i v hv;have hlt:i<its.length:=(List.getElem?_eq_some_iff.mp hv).1;have hlt':i<ds.length:=by rw [<-r.length,vr.length];exact hlt
  obtain ⟨w,h1,h2⟩:=r.get (i:=i) (d:=ds[i]) (by simp [hlt']);obtain ⟨u,h3,h4⟩:=vr.get h1;rw [hv] at h3;cases h3;exact ⟨ds[i],w,by simp [hlt'],List.getElem_mem _,h4,h2⟩
 obtain ⟨d1,w1,e1,m1,v1,r1⟩:=at_ hi';obtain ⟨d2,w2,e2,m2,v2,r2⟩:=at_ hj';cases ds with
 | nil=>cases m1
 | cons x xs'=>
  simp only [nF] at h;split at h
  ·rename_i hall;have h1:=List.all_eq_true.mp hall d1 m1;have h2:=List.all_eq_true.mp hall d2 m2;rw [Bool.and_eq_true] at h1 h2;obtain ⟨k,hk⟩:=Option.isSome_iff_exists.mp (List.all_eq_true.mp h1.2 d2 m2);have:btD o (x::xs') i j=k:=by unfold btD;rw [e1,e2,hk];rfl
   rw [this] at q;exact JC I' o a_ X.A.in1 (by show X.A.units+1+12<cLine;lia) h1.1 h2.1 r1 r2 v1 v2 hk X.prog X.w E Q q
  ·cases h
theorem xF {o:j9} {xs:List V} {ds:List D} {its:List Value} {d:D} (r:bK All H xs ds) (vr:Vals xs its) (h:nF o ds=.ok d) {v:Value} (hv:its.toArray[argBest (btD o ds) (its.length-1)]?=some v):∃w,RelV w v/\Rep All H w d:=by
 have hv':its[argBest (btD o ds) (its.length-1)]?=some v:=by simpa using hv
 cases ds with
 | nil=>cases h
 | cons x xs'=>
  simp only [nF] at h;split at h
  ·cases h;have hl:its.length-1=xs'.length:=by rw [<-vr.length,r.length];simp
   rw [hl] at hv';have fb:=uR o x xs' xs'.length (Nat.le_refl _);rw [List.take_length] at fb;have hlt:argBest (btD o (x::xs')) xs'.length<its.length:=(List.getElem?_eq_some_iff.mp hv').1;have hlt':argBest (btD o (x::xs')) xs'.length<(x::xs').length:=by rw [<-r.length,vr.length];exact hlt
   obtain ⟨w,h1,h2⟩:=r.get (i:=argBest (btD o (x::xs')) xs'.length) (d:=(x::xs')[argBest (btD o (x::xs')) xs'.length]) (by simp [hlt']);obtain ⟨u,h3,h4⟩:=vr.get h1;rw [hv'] at h3;cases h3;refine ⟨w,h4,?_⟩;rw [fb,List.getD_eq_getElem?_getD,List.getElem?_eq_getElem hlt'];exact h2
  ·cases h
theorem Gds.grow {s':Shared} {h1:Heap} {tk1:Nat} (g:Gds s s') {wq:List Addr} {n:Nat} (hw:∀b∈wq,s.heap.objs.size<=b) (hn:s.heap.objs.size<=n)
  (kk:∀b o,b∉wq->b<n->s'.heap.get? b=some o->h1.get? b=some o):Gds s {s' with heap:=h1,toks:=tk1}:=by
 obtain ⟨h',tk,rfl,hk⟩:=g;refine ⟨h1,tk1,rfl,fun b o e=>kk b o (fun hb=>?_) (Nat.lt_of_lt_of_le (Heap.lt_size e) hn) (hk b o e)⟩;exact absurd (Nat.lt_of_lt_of_le (Heap.lt_size e) (hw b hb)) (Nat.lt_irrefl _)
end
section
variable {X:Cx}
theorem y_ {o:j9} {ds:List D} {d:D} (h:nF o ds=.ok d):0<ds.length:=by
 cases ds with
 | nil=>cases h
 | cons _ _=>simp
structure Mms (o:j9) (nm:String):Prop where
 walk:∀{prog:Program} {w:World} {A:Around} {Q:Value->Shared->Prop} {E:Value->Shared->Prop} {s:Shared} {x:Value},wpAny (model prog w) A.in1 (pyIter x) (Mm.Seen prog w A.in1 o.op Q) E s->wpAny (model prog w) A (call (.builtin nm) [x]) Q E s
 two:∀{prog:Program} {w:World} {A:Around} {Q:Value->Shared->Prop} {E:Value->Shared->Prop} {s:Shared} {a b:Value},wpAny (model prog w) A.in1 (pyIter (.ref s.heap.objs.size)) (Mm.Seen prog w A.in1 o.op Q) E {s with heap:=s.heap.push {cls:=.type "tuple",data:=.seq #[a,b]}}->wpAny (model prog w) A (call (.builtin nm) [a,b]) Q E s
theorem JN {o:j9} {nm:String} (M:Mms o nm) (hu:X.A.units+20<cLine) (hc:X.calm=true) {pins:List (Addr×Obj)} {σ:L2.St} {H:Hp} {s:Shared} {l:Addr} {xs:List V} {ds:List D} {d:D} {Q:VK} (I:Inv X pins σ H s) (hl:SqL X.K H l xs) (r:bK All H xs ds) (h:nF o ds=.ok d) (q:kR H d false Q) :
  wpAny (model X.prog X.w) X.A (call (.builtin nm) [.ref l]) (EP X pins σ Q) X.xe s:=by
 obtain ⟨its,vr,pl⟩:=jA I hl;have hlt:l<s.heap.objs.size:=by obtain ⟨_,e,_⟩:=pl;exact Heap.lt_size e
 refine M.walk (wpAny_pyIter_list pl ?_);refine ⟨_,_,_,_,_,_,btD o ds,rfl,Walks.list (A:=X.A.in1) (I.ok.hd hc) _ l (Nat.ne_of_lt hlt) its.toArray,⟨⟨_,Heap.get?_push_size _ rfl,rfl,rfl⟩,pl.push _⟩,fun b hb=>?_,by rw [List.size_toArray,<-vr.length,r.length];exact y_ h,⟨Gds s,⟨_,s.toks,rfl,fun b o e=>Heap.get?_push_of_some _ e⟩,fun s' h' tk g kk=>g.grow (wq:=[s.heap.objs.size]) (n:=s.heap.objs.size+1) (fun b hb=>?_) (Nat.le_succ _) fun b o h1 h2 e=>kk b o h1 (by show b<(s.heap.push _).objs.size;rw [Heap.size_push];exact h2) e,fun i j vi vj s' Q E g h1 h2 q=>rU I hu r vr h i j vi vj s' Q E g h1 h2 q⟩,fun v h' tk hP hk=>?_⟩
 ·show b<(s.heap.push _).objs.size;rw [Heap.size_push];rcases List.mem_cons.mp hb with rfl|hb
  ·exact Nat.lt_succ_self _
  ·rcases List.mem_cons.mp hb with rfl|hb
   ·exact Nat.lt_succ_of_lt hlt
   ·cases hb
 ·rcases List.mem_cons.mp hb with rfl|hb
  ·exact Nat.le_refl _
  ·cases hb
 ·obtain ⟨w,v1,r1⟩:=xF r vr h (by simpa using hP);refine ⟨w,H,I.kept fun b o e=>hk b o (fun hb=>?_) (Heap.get?_push_of_some _ e),v1,q.self r1 fun z=>by cases z⟩;rcases List.mem_cons.mp hb with rfl|hb
  ·exact absurd (Heap.lt_size e) (Nat.lt_irrefl _)
  ·cases hb
theorem JP {o:j9} {nm:String} (M:Mms o nm) (hu:X.A.units+20<cLine) (hc:X.calm=true) {pins:List (Addr×Obj)} {σ:L2.St} {H:Hp} {s:Shared} {l:Addr} {xs:List V} {ds:List D} {d:D} {Q:VK} (I:Inv X pins σ H s) (hl:H l=some (.tup xs)) (r:bK All H xs ds) (h:nF o ds=.ok d) (q:kR H d false Q) :
  wpAny (model X.prog X.w) X.A (call (.builtin nm) [.ref l]) (EP X pins σ Q) X.xe s:=by
 obtain ⟨its,vr,pl⟩:=i_ I hl;have hlt:l<s.heap.objs.size:=by obtain ⟨_,e,_⟩:=pl;exact Heap.lt_size e
 refine M.walk (wpAny_pyIter_tuple pl ?_);refine ⟨_,_,_,_,_,_,btD o ds,rfl,Walks.tuple (A:=X.A.in1) (I.ok.hd hc) _ l (Nat.ne_of_lt hlt) its.toArray,⟨⟨_,Heap.get?_push_size _ rfl,rfl,rfl⟩,pl.push _⟩,fun b hb=>?_,by rw [List.size_toArray,<-vr.length,r.length];exact y_ h,⟨Gds s,⟨_,s.toks,rfl,fun b o e=>Heap.get?_push_of_some _ e⟩,fun s' h' tk g kk=>g.grow (wq:=[s.heap.objs.size]) (n:=s.heap.objs.size+1) (fun b hb=>?_) (Nat.le_succ _) fun b o h1 h2 e=>kk b o h1 (by show b<(s.heap.push _).objs.size;rw [Heap.size_push];exact h2) e,fun i j vi vj s' Q E g h1 h2 q=>rU I hu r vr h i j vi vj s' Q E g h1 h2 q⟩,fun v h' tk hP hk=>?_⟩
 ·show b<(s.heap.push _).objs.size;rw [Heap.size_push];rcases List.mem_cons.mp hb with rfl|hb
  ·exact Nat.lt_succ_self _
  ·rcases List.mem_cons.mp hb with rfl|hb
   ·exact Nat.lt_succ_of_lt hlt
   ·cases hb
 ·rcases List.mem_cons.mp hb with rfl|hb
  ·exact Nat.le_refl _
  ·cases hb
 ·obtain ⟨w,v1,r1⟩:=xF r vr h (by simpa using hP);refine ⟨w,H,I.kept fun b o e=>hk b o (fun hb=>?_) (Heap.get?_push_of_some _ e),v1,q.self r1 fun z=>by cases z⟩;rcases List.mem_cons.mp hb with rfl|hb
  ·exact absurd (Heap.lt_size e) (Nat.lt_irrefl _)
  ·cases hb
theorem JQ {o:j9} {nm:String} (M:Mms o nm) (hu:X.A.units+20<cLine) (hc:X.calm=true) {pins:List (Addr×Obj)} {σ:L2.St} {H:Hp} {s:Shared} {x y:V} {u w:Value} {a b d:D} {Q:VK} (I:Inv X pins σ H s) (rx:Rep All H x a) (ry:Rep All H y b) (ru:RelV x u) (rw':RelV y w) (h:nF o [a,b]=.ok d) (q:kR H d false Q) :
  wpAny (model X.prog X.w) X.A (call (.builtin nm) [u,w]) (EP X pins σ Q) X.xe s:=by
 have r:bK All H [x,y] [a,b]:=.cons rx (.cons ry .nil);have vr:Vals [x,y] [u,w]:=.cons ru (.cons rw' .nil);have pl:(s.heap.push {cls:=.type "tuple",data:=.seq #[u,w]}).IsTuple s.heap.objs.size [u,w].toArray:=⟨_,Heap.get?_push_size _ rfl,rfl,0,rfl⟩
 have hsz:(s.heap.push {cls:=.type "tuple",data:=.seq #[u,w]}).objs.size=s.heap.objs.size+1:=Heap.size_push ..;refine M.two (wpAny_pyIter_tuple pl ?_);refine ⟨_,_,_,_,_,_,btD o [a,b],rfl,Walks.tuple (A:=X.A.in1) (I.ok.hd hc) _ s.heap.objs.size (by rw [hsz];exact Nat.ne_of_lt (Nat.lt_succ_self _)) [u,w].toArray,⟨⟨_,Heap.get?_push_size _ rfl,rfl,rfl⟩,pl.push _⟩,fun b hb=>?_,by simp,⟨Gds s,⟨_,s.toks,rfl,fun b o e=>Heap.get?_push_of_some _ (Heap.get?_push_of_some _ e)⟩,fun s' h' tk g kk=>g.grow (wq:=[s.heap.objs.size+1]) (n:=s.heap.objs.size+2) (fun b hb=>?_) (by lia) fun b o h1 h2 e=>kk b o (by rw [hsz];exact h1) (by show b<((s.heap.push _).push _).objs.size;rw [Heap.size_push,hsz];exact h2) e,fun i j vi vj s' Q E g h1 h2 q=>rU I hu r vr h i j vi vj s' Q E g h1 h2 q⟩,fun v h' tk hP hk=>?_⟩
 ·show b<((s.heap.push _).push _).objs.size;rw [Heap.size_push,hsz];rcases List.mem_cons.mp hb with rfl|hb
  ·rw [hsz];exact Nat.lt_succ_self _
  ·rcases List.mem_cons.mp hb with rfl|hb
   ·exact Nat.lt_succ_of_lt (Nat.lt_succ_self _)
   ·cases hb
 ·rcases List.mem_cons.mp hb with rfl|hb
  ·lia
  ·cases hb
 ·obtain ⟨w,v1,r1⟩:=xF r vr h (by simpa using hP);refine ⟨w,H,I.kept fun b o e=>hk b o (fun hb=>?_) (Heap.get?_push_of_some _ (Heap.get?_push_of_some _ e)),v1,q.self r1 fun z=>by cases z⟩;rcases List.mem_cons.mp hb with hb|hb
  ·have:=Heap.lt_size e;rw [hb,hsz] at this;exact absurd this (Nat.not_lt.mpr (Nat.le_succ _))
  ·cases hb
theorem aDz {o:j9} {nm:String} (M:Mms o nm) (hu:X.A.units+20<cLine) (hc:X.calm=true):mO X (.builtin nm) (rs (uN o) false):=by
 intro pins s σ H xs us Q I vr ⟨ds,d,r,e,k⟩;unfold uN at e;split at e
 ·cases r with
  | cons r t=>
   cases t;cases vr with
   | cons v vt=>
    cases vt;obtain ⟨l,ys,rfl,hl,rr⟩:=r.gH (K:=X.K);cases v;exact JN M hu hc I hl rr e k
 ·cases r with
  | cons r t=>
   cases t;cases vr with
   | cons v vt=>
    cases vt;obtain ⟨l,ys,rfl,hl,rr⟩:=r.dY;cases v;exact JP M hu hc I hl rr e k
 ·cases r with
  | cons r t=>
   cases t with
   | cons r' t=>
    cases t;cases vr with
    | cons v vt=>
     cases vt with
     | cons v' vt=>
      cases vt;exact JQ M hu hc I r r' v v' e k
 ·cases e
theorem aAz (hu:X.A.units+20<cLine) (hc:X.calm=true):mO X (.builtin "max") (rs (uN .gt) false):=aDz ⟨Mm.uQ,Mm.wZ⟩ hu hc
end
end Mi
end
section
namespace PySem.Mm
open PySem PyProof.Rows PySem.W
end PySem.Mm
end
section
namespace Mi
open PySem L2 PySem.SeqAt PySem.Spec PyProof.Rows
variable [KFrag]
section
variable {X:Cx} {a b c e:Expr} {es:List Expr} {pos p:Pos} {fa fb fc fe:FE} {ra rb rc re:Bool} {fs:FA} {rr:Bool} {x:Str} {id T:String}
theorem lR {P:Addr->Prop} {H:Hp} {xs:List V} {us:List Value} {d:D} (r:bK P H xs [d]) (vr:Vals xs us):∃v u,xs=[v]/\us=[u]/\Rep P H v d/\RelV v u:=by
 cases r with
 | cons r t=>
  cases t;cases vr with
  | cons v vt=>
   cases vt;exact ⟨_,_,rfl,rfl,r,v⟩
theorem zA {f:List D->Res D} {fr:Bool} {σ:L2.St} {H:Hp} {Q:VK} (h:gE (bA f fs) fr σ H Q):tCB (rs f fr) (gA fs rr) σ H Q:=by
 obtain ⟨ρ,d,E,h,q⟩:=h;obtain ⟨ds,h1,h2⟩:=aY h;exact ⟨ρ,ds,E,h1,fun vs H1 s1 r1 _=>⟨ds,d,r1,h2,q.imp s1 id⟩⟩
theorem bZ {f:List D->Res D} {fr:Bool} (hc:mO X (.builtin id) (rs f fr)) (hg:Gl X x) (hm:X.mg x=none) (hv:bootBuiltins x=some (.builtin id)) (ha:PA X (e::es) (gA fs rr)) (hn:x ≠ "__name__":=by decide) (hdb:nDb x:=by decide)
  (he:starEach (e::es) X.env=(false,eval e X.env)::starEach es X.env:=by rfl) (hpl:(backTo pos (starEach es X.env)).any (·.1)=false:=by rfl):PE X (.Call (.Name x p) (e::es) [] pos) (gE (bA f fs) fr):=
 PE.imp (yH hc hg hm hv ha hn hdb he hpl) fun _ _ _=>zA
theorem dU {f:List D->Res D} {fr:Bool} (hc:mO X (.type T) (rs f fr)) (hg:Gl X x) (hm:X.mg x=none) (hv:bootBuiltins x=some (.type T)) (ha:PA X (e::es) (gA fs rr)) (hn:x ≠ "__name__":=by decide) (hdb:nDb x:=by decide)
  (he:starEach (e::es) X.env=(false,eval e X.env)::starEach es X.env:=by rfl) (hpl:(backTo pos (starEach es X.env)).any (·.1)=false:=by rfl):PE X (.Call (.Name x p) (e::es) [] pos) (gE (bA f fs) fr):=
 PE.imp (G_ hc hg hm hv ha hn hdb he hpl) fun _ _ _=>zA
theorem eZ (hK:KFrag.K=X.K):mO X (.builtin "len") (rs jY true):=by
 intro pins s σ H xs us Q I vr ⟨ds,d,r,e,k⟩;unfold jY at e;split at e
 ·cases e;obtain ⟨vv,uu,rfl,rfl,r,v⟩:=lR r vr;obtain ⟨l,ys,rfl,hl,rr⟩:=r.dY;cases v;exact iG pins s σ H [.ref l] [.ref l] Q I (.cons rfl .nil) ⟨l,ys,rfl,.inr (.of hl),by rw [rr.length];exact k.int⟩
 ·cases e;obtain ⟨vv,uu,rfl,rfl,r,v⟩:=lR r vr;obtain ⟨l,ys,rfl,hl,rr⟩:=r.gH (K:=X.K);cases v;exact iG pins s σ H [.ref l] [.ref l] Q I (.cons rfl .nil) ⟨l,ys,rfl,.inl hl,by rw [rr.length];exact k.int⟩
 ·cases e;obtain ⟨vv,uu,rfl,rfl,r,v⟩:=lR r vr;cases r with
  | @frz l xs ds ee rr=>
   cases v;exact iG pins s σ H [.ref l] [.ref l] Q I (.cons rfl .nil) ⟨l,xs,rfl,.inl (ee.sq hK),by rw [rr.length];exact k.int⟩
 ·cases e;obtain ⟨vv,uu,rfl,rfl,r,v⟩:=lR r vr;cases r with
  | cel ee pp rr=>
   cases v;exact iG pins s σ H [.ref _] [.ref _] Q I (.cons rfl .nil) ⟨_,_,rfl,.inl (.inl (.inl ee)),by rw [rr.length];exact k.int⟩
 ·split at e
  ·rename_i hl;cases e;obtain ⟨vv,uu,rfl,rfl,r,v⟩:=lR r vr;cases r;exact uF pins s σ H _ _ Q I (.cons v .nil) ⟨_,rfl,jM hl,k.int⟩
  ·cases e
 ·cases e
theorem gJ:mO X (.type "tuple") (rs dF false):=by
 intro pins s σ H xs us Q I vr ⟨ds,d,r,e,k⟩;unfold dF at e;split at e
 ·cases e;obtain ⟨vv,uu,rfl,rfl,r,v⟩:=lR r vr;obtain ⟨l,ys,rfl,hl',rr⟩:=r.dY;cases v;exact mU pins s σ H [.ref l] [.ref l] Q I (.cons rfl .nil) ⟨l,ys,rfl,.inr ⟨.of hl',k.self (.tup hl' rr) fun z=>by cases z⟩⟩
 ·cases e;obtain ⟨vv,uu,rfl,rfl,r,v⟩:=lR r vr;obtain ⟨l,ys,rfl,hl',rr⟩:=r.gH (K:=X.K);cases v;refine mU pins s σ H [.ref l] [.ref l] Q I (.cons rfl .nil) ⟨l,ys,rfl,.inl ⟨hl',fun p hp=>?_⟩⟩;have sp:cD H (upd H p (.tup ys)):=cD.upd hp;exact k _ _ sp (.tup aP (rr.same sp)) fun z=>by cases z
 ·cases e
theorem isi {pins:List (Addr×Obj)} {s:Shared} {σ:L2.St} {H:Hp} {v:V} {u:Value} {d:D} {t:Ty} {k:Bool} (I:Inv X pins σ H s) (r:Rep All H v d) (ru:RelV v u) (h:H_ t d=.ok k) {Q:Value->Shared->Prop}
  (q:∀tk,Q (.bool k) {s with toks:=tk}):wpAny (model X.prog X.w) X.A (call (.builtin "isinstance") [u,.type t.nm]) Q X.xe s:=by
 have q0:Q (.bool k) s:=q s.toks;cases r with
 | non=>cases ru;cases t <;> simp only [H_] at h <;> cases h <;> first|exact IsiPair.NoneType_int (q _)|exact IsiPair.NoneType_str (q _)|exact IsiPair.NoneType_bool (q _)|exact IsiPair.NoneType_list (q _)|exact IsiPair.NoneType_tuple (q _)|exact IsiPair.NoneType_dict (q _)
 | bl b=>cases ru;cases t <;> simp only [H_] at h <;> cases h <;> first|exact IsiPair.bool_int q0|exact IsiPair.bool_str (q _)|exact IsiPair.bool_bool q0|exact IsiPair.bool_list (q _)|exact IsiPair.bool_tuple (q _)|exact IsiPair.bool_dict (q _)
 | int b=>obtain ⟨tt,rfl⟩:=ru;cases t <;> simp only [H_] at h <;> cases h <;> first|exact IsiPair.int_int q0|exact IsiPair.int_str (q _)|exact IsiPair.int_bool (q _)|exact IsiPair.int_list (q _)|exact IsiPair.int_tuple (q _)|exact IsiPair.int_dict (q _)
 | str b=>obtain ⟨tt,rfl⟩:=ru;cases t <;> simp only [H_] at h <;> cases h <;> first|exact IsiPair.str_int (q _)|exact IsiPair.str_str q0|exact IsiPair.str_bool (q _)|exact IsiPair.str_list (q _)|exact IsiPair.str_tuple (q _)|exact IsiPair.str_dict (q _)
 | tup e rr=>
  cases ru;obtain ⟨its,vr,o,ho,hc,_⟩:=i_ I e;cases t <;> simp only [H_] at h <;> cases h <;> first|exact IsiPair.tuple_int ho hc (q _)|exact IsiPair.tuple_str ho hc (q _)|exact IsiPair.tuple_bool ho hc (q _)|exact IsiPair.tuple_list ho hc (q _)|exact IsiPair.tuple_tuple ho hc q0|exact IsiPair.tuple_dict ho hc (q _)
 | lst e p rr=>
  cases ru;obtain ⟨its,vr,o,ho,hc,_⟩:=jA I (.of e);cases t <;> simp only [H_] at h <;> cases h <;> first|exact IsiPair.list_int ho hc (q _)|exact IsiPair.list_str ho hc (q _)|exact IsiPair.list_bool ho hc (q _)|exact IsiPair.list_list ho hc q0|exact IsiPair.list_tuple ho hc (q _)|exact IsiPair.list_dict ho hc (q _)
 | frz e rr=>cases t <;> cases h
 | fdK e rr n=>cases t <;> cases h
 | fdT e rr n=>cases t <;> cases h
 | cel e p rr=>cases t <;> cases h
 | dK e p rr n=>
  cases ru;obtain ⟨_,_,_,_,o,_,_,ho,hx,_⟩:=QC I.hok e;have hc:=hx.1;cases t <;> simp only [H_] at h <;> cases h <;> first|exact IsiPair.dict_int ho hc (q _)|exact IsiPair.dict_str ho hc (q _)|exact IsiPair.dict_bool ho hc (q _)|exact IsiPair.dict_list ho hc (q _)|exact IsiPair.dict_tuple ho hc (q _)|exact IsiPair.dict_dict ho hc q0
 | dT e p rr n=>
  cases ru;obtain ⟨_,_,_,_,o,_,_,ho,hx,_⟩:=V_ I.hok e;have hc:=hx.1;cases t <;> simp only [H_] at h <;> cases h <;> first|exact IsiPair.dict_int ho hc (q _)|exact IsiPair.dict_str ho hc (q _)|exact IsiPair.dict_bool ho hc (q _)|exact IsiPair.dict_list ho hc (q _)|exact IsiPair.dict_tuple ho hc (q _)|exact IsiPair.dict_dict ho hc q0
noncomputable def aFi (t:Ty):List V->Hp->VK->Prop:=fun xs H Q=>∃v d k,xs=[v,.ty t.nm]/\Rep All H v d/\H_ t d=.ok k/\Q (.bl k) H
theorem aB0 (t:Ty):mO X (.builtin "isinstance") (aFi t):=by
 intro pins s σ H xs us Q I vr ⟨v,d,k,e,r,h,q⟩;subst e;cases vr with
 | cons rv vt=>
  cases vt with
  | cons rt vt=>
   cases vt;cases rt;exact isi I r rv h fun tk=>⟨.bl k,H,I.tok tk,rfl,q⟩
theorem JR (t:Ty) {y:Str} {p2:Pos} (ha:PE X a (gE fa ra)) (hg:Gl X "isinstance") (hm:X.mg "isinstance" = none) (hv:bootBuiltins "isinstance" = some (.builtin "isinstance")) (gy:Gl X y) (my:X.mg y=none) (vy:bootBuiltins y=some (.type t.nm))
  (hy:y ≠ "__name__":=by decide) (hyd:(y==("__debug__" : Str))=false:=by decide)
  (he:starEach [a,.Name y p2] X.env=(false,eval a X.env)::starEach [.Name y p2] X.env:=by rfl) (he2:starEach [.Name y p2] X.env=(false,eval (.Name y p2) X.env)::starEach [] X.env:=by rfl)
  (hpl:(backTo pos (starEach [.Name y p2] X.env)).any (·.1)=false:=by rfl):PE X (.Call (.Name "isinstance" p) [a,.Name y p2] [] pos) (gE (b1 (QM t) fa) true):=
 PE.imp (yH (aB0 t) hg hm hv (dO ha (dO (VL gy my vy (v:=.ty t.nm) rfl hy hyd) mR he2) he) (by decide) (by decide) he hpl) fun σ H Q ⟨ρ,d,E,h,q⟩=>by
  obtain ⟨x,h1,h⟩:=aY h;obtain ⟨k,h2,h⟩:=aY h;cases h;exact ⟨ρ,x,E,h1,fun v H1 s1 r1 _=>⟨v,x,k,rfl,r1,h2,(q.imp s1 id).bl⟩⟩
theorem aE0 {o:Expr} {fo:FE} {ro fr:Bool} {name:Str} {apos cpos:Pos} {f:D->List D->Res D} (pa:PlainAttrs T) (slot:Slot T name id) (hty:typeOf (.builtin id)=pure (.type "method_descriptor")) (hm:MtR X id (rm f fr)) (ho:PE X o (gE fo ro)) (ha:PA X (e::es) (gA fs rr))
  (hT:∀(d:D) (ds:List D) (r:D) (v:V) (H:Hp),f d ds=.ok r->Rep All H v d->tyV X.K T v H)
  (hbase:attributeBase o name X.env (eval o X.env)=eval o X.env:=by rfl)
  (hfew:((backTo cpos (starEach (e::es) X.env)).all (fun x=>!x.1)&&(backToKw cpos (keywordEach [] X.env)).all (fun x=>x.1.isSome)
   && decide ((e::es).length+([]:List Keyword).length+(if ([]:List Keyword).isEmpty then 0 else 1)<30))=true:=by rfl)
  (hline:(apos.endLine==cpos.line)=true:=by rfl) (hs:starEach (e::es) X.env=(false,eval e X.env)::starEach es X.env:=by rfl) (hplain:(backTo cpos (starEach es X.env)).any (·.1)=false:=by rfl) :
  PE X (.Call (.Attribute o name apos) (e::es) [] cpos) (gE (bM f fo fs) fr):=
 PE.imp (V7 pa slot hty hm ho ha hbase hfew hline hs hplain) fun σ H Q ⟨ρ,d,E,h,q⟩=>by
  obtain ⟨x,h1,h⟩:=aY h;obtain ⟨ds,h2,h⟩:=aY h;exact ⟨ρ,x,E,h1,fun v H1 s1 r1 _=>⟨hT x ds d v H1 h r1,ρ,ds,E.same s1,h2,fun vs H2 s2 r2 _=>⟨x,ds,d,r1.same s2,r2,h,q.imp (s1.trans s2) fun z=>z⟩⟩⟩
noncomputable def spD (f:List D->Res D) (n:Nat):Sp:=fun vs H Q _=>∃ds d,ds.length=n/\bK All H vs ds/\f ds=.ok d/\kR H d true Q
theorem W4 {f:List D->Res D} {n:Nat} {vs:List V} {H:Hp} {Q:VK} {E:XK} (h:spD f n vs H Q E):vs.length=n:=by
 obtain ⟨ds,d,h1,r,_⟩:=h;rw [r.length,h1]
theorem W5 {k:Nat} {fad:Addr} {fd:FuncData} {ps:List Str} {f:List D->Res D} {n:Nat} (F:v9 X.prog X.w X.K X.mg X.base CX0 k fad fd ps (spD f n)) (hr:mQ k X.A) (hg:Gl X x) (hm:X.mg x=some (.ref fad)) (hk:PySem.W.keepIn X.K (.ref fad)=true) (hb:Binds X.K fd ps [])
  (ha:PA X (e::es) (gA fs rr)) (hdb:nDb x:=by decide) (he:starEach (e::es) X.env=(false,eval e X.env)::starEach es X.env:=by rfl) (hpl:(backTo pos (starEach es X.env)).any (·.1)=false:=by rfl) :
  PE X (.Call (.Name x p) (e::es) [] pos) (gE (bA (kE n f) fs) true):=
 PE.imp (rN F hr hg hm hk hb .nil QH ha hdb he hpl) fun σ H Q ⟨ρ,d,E,h,q⟩=>by
  obtain ⟨ds,h1,h⟩:=aY h;unfold kE at h;split at h
  ·rename_i hl;exact ⟨ρ,ds,E,h1,fun vs H1 s1 r1 _=>⟨ds,d,of_decide_eq_true hl,by rw [List.append_nil];exact r1,h,q.imp s1 id⟩⟩
  ·cases h
end
end Mi
end
section
namespace Mi
open PySem L2 PySem.SeqAt PySem.Spec PyProof.Rows
def uT (x:Str):List D:=x.cps.toList.map fun c=>D.str ⟨#[c]⟩
def JS (xs:List D):List D:=xs.zipIdx.map fun p=>.tup [.int p.2,p.1]
def FZ (xs ys:List D):List D:=(xs.zip ys).map fun p=>.tup [p.1,p.2]
noncomputable def QV (m:Nat) (xs:List D):List D:=xs.zipIdx.map fun p=>.tup [.int ((m+p.2:Nat):Int),p.1]
variable [KFrag]
noncomputable def aE1 (x:Str):It:=⟨fun i _=>i<x.cps.size,fun i H v H'=>H'=H/\∃c,x.cps[i]?=some c/\v=.str ⟨#[c]⟩,fun i _=>x.cps.size<=i⟩
noncomputable def Ite (K:PySem.W.Frag) (a:Addr):It:=
 ⟨fun i H=>∃xs x,SqL K H a xs/\xs[i]?=some x,fun i H v H'=>∃t x,(∀xs,SqL K H a xs->xs[i]?=some x)/\v=.ref t/\H t=none/\H'=upd H t (.tup [.int i,x]),fun i H=>∃xs,SqL K H a xs/\xs.length<=i⟩
noncomputable def aFj (K:PySem.W.Frag) (m:Nat) (a:Addr):It:=
 ⟨fun i H=>∃xs x,SqL K H a xs/\xs[i]?=some x,fun i H v H'=>∃t x,(∀xs,SqL K H a xs->xs[i]?=some x)/\v=.ref t/\H t=none/\H'=upd H t (.tup [.int ((m+i:Nat):Int),x]),fun i H=>∃xs,SqL K H a xs/\xs.length<=i⟩
noncomputable def Itz (a b:Addr):It :=
  ⟨fun i H => ∃xs ys x y, H a=some (.tup xs) /\ H b=some (.tup ys) /\ xs[i]?=some x /\ ys[i]?=some y, fun i H v H' => ∃t x y, (∀xs, H a=some (.tup xs) -> xs[i]?=some x) /\ (∀ys, H b=some (.tup ys) -> ys[i]?=some y) /\ v=.ref t /\ H t=none /\ H'=upd H t (.tup [x, y]),
   fun i H => ∃xs ys, H a=some (.tup xs) /\ H b=some (.tup ys) /\ ys.length=xs.length /\ xs.length <= i⟩
theorem QW {m:Nat} {xs:List D} {i:Nat}:(QV m xs)[i]?=(xs[i]?).map fun d=>.tup [.int ((m+i:Nat):Int),d]:=by
 unfold QV;rw [List.getElem?_map,List.getElem?_zipIdx,Nat.zero_add];cases xs[i]? <;> rfl
theorem QX {xs:List D} {i:Nat}:(JS xs)[i]?=(xs[i]?).map fun d=>.tup [.int i,d]:=by
 unfold JS;rw [List.getElem?_map,List.getElem?_zipIdx,Nat.zero_add];cases xs[i]? <;> rfl
theorem JT (xs:List D):(JS xs).length=xs.length:=by simp [JS]
inductive ItQ (K:PySem.W.Frag) (P:Addr->Prop) (J:It) (H:Hp) (items:List D):Prop
 | lst (a:Addr) (e:J=Itl K a) (r:Rep P H (.ref a) (.lst items))
 | tup (a:Addr) (e:J=Itt K a) (r:Rep P H (.ref a) (.tup items))
 | rng (lo:Int) (n:Nat) (e:J=Itr lo n) (r:items=(List.range n).map fun (k:Nat)=>D.int (lo+k))
 | chs (x:Str) (e:J=aE1 x) (r:items=uT x)
 | enm (a:Addr) (ds:List D) (e:J=Ite K a) (r:Rep P H (.ref a) (.lst ds)) (h:items=JS ds)
 | enf (m:Nat) (a:Addr) (ds:List D) (e:J=aFj K m a) (r:Rep P H (.ref a) (.lst ds)) (h:items=QV m ds)
 | scr (a:Addr) (hK:KFrag.K=K) (e:J=Itl K a) (r:Rep P H (.ref a) (.scr items))
 | zip (a b:Addr) (ds es:List D) (e:J=Itz a b) (r:Rep P H (.ref a) (.tup ds)) (q:Rep P H (.ref b) (.tup es)) (n:es.length=ds.length) (h:items=FZ ds es)
theorem ItQ.keep {K:PySem.W.Frag} {P P':Addr->Prop} {J:It} {H H':Hp} {items:List D} (h:ItQ K P J H items) (k:O9 P H H') (m:∀a,P a->P' a):ItQ K P' J H' items:=by
 cases h with
 | lst a e r=>exact .lst a e (r.keep k m)
 | tup a e r=>exact .tup a e (r.keep k m)
 | rng lo n e r=>exact .rng lo n e r
 | chs x e r=>exact .chs x e r
 | enm a ds e r h=>exact .enm a ds e (r.keep k m) h
 | enf m' a ds e r h=>exact .enf m' a ds e (r.keep k m) h
 | zip a b ds es e r q n h=>exact .zip a b ds es e (r.keep k m) (q.keep k m) n h
 | scr a hK e r=>exact .scr a hK e (r.keep k m)
theorem ItQ.stop {K:PySem.W.Frag} {P:Addr->Prop} {J:It} {H:Hp} {items:List D} {i:Nat} (h:ItQ K P J H items) (hi:items.length<=i):J.stop i H:=by
 cases h with
 | lst a e r=>
  subst e;obtain ⟨a',xs,e,hq,rr⟩:=r.gH (K:=K);cases e;exact ⟨xs,hq,by rw [rr.length];exact hi⟩
 | tup a e r=>
  subst e;obtain ⟨a',xs,e,hq,rr⟩:=r.dY;cases e;exact ⟨xs,.of hq,by rw [rr.length];exact hi⟩
 | rng lo n e r=>
  subst e r;show n<=i;simpa using hi
 | chs x e r=>
  subst e r;show x.cps.size<=i;simpa [uT] using hi
 | enm a ds e r h=>
  subst e h;obtain ⟨a',xs,e,hq,rr⟩:=r.gH (K:=K);cases e;exact ⟨xs,hq,by rw [rr.length,<-JT];exact hi⟩
 | enf m a ds e r h=>
  subst e h;obtain ⟨a',xs,e,hq,rr⟩:=r.gH (K:=K);cases e;exact ⟨xs,hq,by rw [rr.length];simpa [QV] using hi⟩
 | zip a b ds es e r q n h=>
  subst e h;obtain ⟨a',xs,e,hq,rr⟩:=r.dY;cases e;obtain ⟨b',ys,e,hq2,rr2⟩:=q.dY;cases e;have:(FZ ds es).length=ds.length:=by simp [FZ,n]
  exact ⟨xs,ys,hq,hq2,by rw [rr.length,rr2.length];exact n,by rw [rr.length];lia⟩
 | scr a hK e r=>
  subst e;cases r with
  | frz ee rr=>exact ⟨_,ee.sq hK,by rw [rr.length];exact hi⟩
theorem ItQ.go {K:PySem.W.Frag} {P:Addr->Prop} {J:It} {H:Hp} {items:List D} {i:Nat} {d:D} (h:ItQ K P J H items) (hi:items[i]?=some d):J.go i H/\∀x H',J.yld i H x H'->cD H H'/\Rep P H' x d:=by
 cases h with
 | lst a e r=>
  subst e;obtain ⟨a',xs,e,hq,rr⟩:=r.gH (K:=K);cases e;obtain ⟨v,h1,h2⟩:=rr.get hi;refine ⟨⟨xs,v,hq,h1⟩,fun x H' ⟨e,hy⟩=>?_⟩;subst e;refine ⟨cD.refl _,?_⟩;have:=hy xs hq;rw [h1] at this;cases this;exact h2
 | tup a e r=>
  subst e;obtain ⟨a',xs,e,hq,rr⟩:=r.dY;cases e;obtain ⟨v,h1,h2⟩:=rr.get hi;refine ⟨⟨xs,v,.of hq,h1⟩,fun x H' ⟨e,hy⟩=>?_⟩;subst e;refine ⟨cD.refl _,?_⟩;have:=hy xs (.of hq);rw [h1] at this;cases this;exact h2
 | rng lo n e r=>
  subst e r;have hlt:i<n:=by
   have:=(List.getElem?_eq_some_iff.mp hi).1;simpa using this
  refine ⟨hlt,fun x H' ⟨e,hy⟩=>?_⟩;subst e;have e2:D.int (lo+(i:Int))=d:=by simpa [hlt] using hi
  rw [hy,<-e2];exact ⟨cD.refl _,.int _⟩
 | chs z e r=>
  subst e r;have hlt:i<z.cps.size:=by
   have:=(List.getElem?_eq_some_iff.mp hi).1;simpa [uT] using this
  refine ⟨hlt,fun x H' ⟨e,c,hc,hv⟩=>?_⟩;subst e hv;refine ⟨cD.refl _,?_⟩;have e2:D.str ⟨#[c]⟩=d:=by
   unfold uT at hi;rw [List.getElem?_map,Array.getElem?_toList,hc] at hi;simpa using hi
  rw [<-e2];exact .str _
 | enm a ds e r h=>
  subst e h;obtain ⟨a',xs,e,hq,rr⟩:=r.gH (K:=K);cases e;rw [QX] at hi;cases hd:ds[i]? with
  | none=>rw [hd] at hi;cases hi
  | some y=>
   rw [hd] at hi;cases hi;obtain ⟨v,h1,h2⟩:=rr.get hd;refine ⟨⟨xs,v,hq,h1⟩,fun x H' ⟨t,u,hy,e1,e2,e3⟩=>?_⟩;subst e1 e3;have:=hy xs hq;rw [h1] at this;cases this;have sp:cD H (upd H t (.tup [.int i,v])):=cD.upd e2;exact ⟨sp,.tup aP (.cons (.int _) (.cons (h2.same sp) .nil))⟩
 | enf m a ds e r h=>
  subst e h;obtain ⟨a',xs,e,hq,rr⟩:=r.gH (K:=K);cases e;rw [QW] at hi;obtain ⟨y,hd,rfl⟩:=Option.map_eq_some_iff.mp hi;obtain ⟨v,h1,h2⟩:=rr.get hd;refine ⟨⟨xs,v,hq,h1⟩,fun x H' ⟨t,u,hy,e1,e2,e3⟩=>?_⟩;subst e1 e3;have:=hy xs hq;rw [h1] at this;cases this;have sp:cD H (upd H t (.tup [.int ((m+i:Nat):Int),v])):=cD.upd e2;exact ⟨sp,.tup aP (.cons (.int _) (.cons (h2.same sp) .nil))⟩
 | zip a b ds es e r q n h=>
  subst e h;obtain ⟨a',xs,e,hq,rr⟩:=r.dY;cases e;obtain ⟨b',ys,e,hq2,rr2⟩:=q.dY;cases e;unfold FZ at hi;rw [List.getElem?_map] at hi;obtain ⟨⟨x,y⟩,hd,rfl⟩:=Option.map_eq_some_iff.mp hi;rw [List.getElem?_zip_eq_some] at hd;obtain ⟨v,h1,h2⟩:=rr.get hd.1;obtain ⟨v',h3,h4⟩:=rr2.get hd.2;refine ⟨⟨xs,ys,v,v',hq,hq2,h1,h3⟩,fun x H' ⟨t,u,u',hy,hy',e1,e2,e3⟩=>?_⟩;subst e1 e3;have z:=hy xs hq;rw [h1] at z;cases z;have z:=hy' ys hq2;rw [h3] at z;cases z;have sp:cD H (upd H t (.tup [v,v'])):=cD.upd e2;exact ⟨sp,.tup aP (.cons (h2.same sp) (.cons (h4.same sp) .nil))⟩
 | scr a hK e r=>
  subst e;cases r with
  | @frz _ xs _ ee rr=>
   obtain ⟨v,h1,h2⟩:=rr.get hi;refine ⟨⟨xs,v,ee.sq hK,h1⟩,fun x H' ⟨e,hy⟩=>?_⟩;subst e;refine ⟨cD.refl _,?_⟩;have:=hy xs (ee.sq hK);rw [h1] at this;cases this;exact h2
noncomputable def gI (K:PySem.W.Frag) (f:FI):TI:=fun σ H R=>∃ρ items k,ER H σ ρ/\f ρ=.ok (items,k)/\∀J H1,cD H H1->ItQ K All J H1 items->(k=true->ItQ K (New H) J H1 items)->R J H1
noncomputable def gIV (K:PySem.W.Frag) (i:Nat):TI:=fun σ H R=>∃v d items,σ[i]?=some (some v)/\Rep All H v d/\pC d=.ok items/\∀J,(∀P:Addr->Prop,Rep P H v d->ItQ K P J H items)->R J H
section
variable {X:Cx} {tg l a b:Expr} {fl fa:FE} {rl ra rr:Bool} {fs:FA} {p pos:Pos}
theorem zB {pins:List (Addr×Obj)} {s1:Shared} {σ:L2.St} {H1:Hp} {R:It->Hp->Prop} {v:V} {u:Value} {d:D} {items:List D} (I1:Inv X pins σ H1 s1) (r:Rep All H1 v d) (ru:RelV v u) (hi:pC d=.ok items)
  (q:∀J,(∀P:Addr->Prop,Rep P H1 v d->ItQ X.K P J H1 items)->R J H1):wpAny (model X.prog X.w) X.A (pyIter u) (PIE X pins σ tg R) X.xe s1:=by
 cases d <;> simp only [pC] at hi <;> cases hi
 ·obtain ⟨a,xs,rfl,e,rr⟩:=r.dY;cases ru;obtain ⟨its,rv,p,hz⟩:=I1.tuple (.of e);refine wpAny_pyIter_tuple (show s1.heap.IsTuple a its.toArray from p) ?_;refine ⟨s1.heap.objs.size,[s1.heap.objs.size],_,_,H1,rfl,I1.kept (t':=s1.toks) fun b o e=>Heap.get?_push_of_some _ e,BL a _,⟨_,Heap.get?_push_size _ rfl,rfl,rfl⟩,fun b hb=>?_,q _ fun P r=>.tup a rfl r⟩;have e:b=s1.heap.objs.size:=by simpa using hb
  subst e;exact I1.aA1 (Nat.le_refl _) (I1.hok.fresh (Nat.le_refl _))
 ·obtain ⟨a,xs,rfl,e,rr⟩:=r.gH (K:=X.K);cases ru;obtain ⟨its,rv,p,hz⟩:=I1.list e;refine wpAny_pyIter_list p.isList ?_;refine ⟨s1.heap.objs.size,[s1.heap.objs.size],_,_,H1,rfl,I1.kept (t':=s1.toks) fun b o e=>Heap.get?_push_of_some _ e,G3 a _,⟨_,Heap.get?_push_size _ rfl,rfl,rfl⟩,fun b hb=>?_,q _ fun P r=>.lst a rfl r⟩;have e:b=s1.heap.objs.size:=by simpa using hb
  subst e;exact I1.aA1 (Nat.le_refl _) (I1.hok.fresh (Nat.le_refl _))
theorem aB1 {i:Nat} {x:Str} (hN:X.N[i]?=some x) (hv:Vis X.env.scope x) (hd:nDb x:=by decide) (hcd:nCd x:=by decide):PI X tg (.Name x pos) (gIV X.K i):=by
 intro pins s σ H R I ⟨v,d,items,hσ,r,hi,q⟩;exact thn (eV hN hv hd hcd pins s σ H (fun w H1=>w=v/\H1=H) I ⟨v,hσ,rfl,rfl⟩) fun u s1 ⟨w,H1,I1,ru,e1,e2⟩=>by
  subst e1 e2;exact zB I1 r ru hi q
theorem rE {i:Int} (h:l_ i=true):-(2 ^ 62)<=i/\i<2 ^ 62:=by
 simp only [l_,Bool.and_eq_true,decide_eq_true_eq] at h;exact h
theorem PI.imp {w w':TI} (h:PI X tg l w) (i:∀σ H R,w' σ H R->w σ H R):PI X tg l w':=fun pins s σ H R I q=>h pins s σ H R I (i σ H R q)
theorem kJ (hg:Gl X "range") (hm:X.mg "range" = none) (ha:PA X [a] (gA fs rr)) (hs:starEach [a] X.env=[(false,eval a X.env)]:=by rfl):PI X tg (.Call (.Name "range" p) [a] [] pos) (gI X.K (gW fs gF)):=
 PI.imp (t8 hg hm ha hs) fun σ H R ⟨ρ,items,k,E,h,q⟩=>by
  obtain ⟨xs,h1,h⟩:=aY h;unfold gF at h;split at h
  ·split at h
   ·rename_i hb;cases h;obtain ⟨b1,b2⟩:=rE hb;refine ⟨ρ,_,E,h1,fun vs H1 s1 r1 _=>?_⟩;cases r1 with
    | cons r t=>
     cases t;cases r;exact ⟨_,rfl,b1,b2,q _ H1 s1 (.rng 0 _ rfl rfl) fun _=>.rng 0 _ rfl rfl⟩
   ·cases h
  ·cases h
end
theorem QZ (n:Nat) (ρ bs:List D) (i:Nat) (h:i<n):(wO n ρ++bs).getD i .uD=ρ.getD i .uD:=by
 rw [List.getD_eq_getElem?_getD,List.getElem?_append_left (by simp [wO];exact h)];simp [wO,h]
theorem zE (n:Nat) (ρ:List D):(wO n ρ).length=n:=by simp [wO]
noncomputable def TgC (g:TG) (t:D->Res (List D)) (n m:Nat):Prop:=∀(v:V) (d:D) (bs:List D) (σ:L2.St) (H:Hp) (Q:L2.St->Hp->Prop),σ.length=n->Rep All H v d->t d=.ok bs->
 (∀σ2,Ext (σ++List.replicate m none) σ2->(∀j b,bs[j]?=some b->∃w,σ2[n+j]?=some (some w)/\Rep All H w b)->Q σ2 H)->g v (σ++List.replicate m none) H Q
theorem ER.ext {H:Hp} {σ σ2:L2.St} {ρ bs:List D} {n m:Nat} (E:ER H σ ρ) (hn:σ.length=n) (x:Ext (σ++List.replicate m none) σ2) (hb:∀j b,bs[j]?=some b->∃w,σ2[n+j]?=some (some w)/\Rep All H w b):ER H σ2 (wO n ρ++bs):=by
 intro i hi;by_cases h:i<n
 ·rw [QZ n ρ bs i h] at hi ⊢;obtain ⟨v,h1,h2⟩:=E i hi;exact ⟨v,x.2 i v (by rw [List.getElem?_append_left (by rw [hn];exact h)];exact h1),h2⟩
 ·have e:(wO n ρ++bs).getD i .uD=bs.getD (i-n) .uD:=by
   rw [List.getD_eq_getElem?_getD,List.getElem?_append_right (by rw [zE];lia),zE,<-List.getD_eq_getElem?_getD]
  rw [e] at hi ⊢;cases hq:bs[i-n]? with
  | none=>rw [List.getD_eq_getElem?_getD,hq] at hi;exact absurd rfl hi
  | some b=>
   obtain ⟨w,h1,h2⟩:=hb (i-n) b hq;rw [List.getD_eq_getElem?_getD,hq];exact ⟨w,by rw [<-h1];congr 1;lia,h2⟩
theorem mZ {K:PySem.W.Frag} {it:FI} {t:D->Res (List D)} {c:FT} {f:FE} {k:Bool} {n m:Nat} {g:TG} {tc:TT} (tg:TgC g t n m) (hc:∀σ H Q,gT c σ H Q->tc σ H Q) {σ:L2.St} {H:Hp} {Q:VK} (hn:σ.length=n) (h:gE (dG n it t c f k) true σ H Q) :
  wW (gI K it) g tc (gE f k) m σ H Q:=by
 obtain ⟨ρ,d,E,h,q⟩:=h;obtain ⟨⟨items,kk⟩,h1,h⟩:=aY h;split at h
 ·rename_i hlim;obtain ⟨ys,h2,h⟩:=aY h;cases h;refine ⟨ρ,items,kk,E,h1,fun J H1 s1 hJ _ p hp=>?_⟩;have hp0:H p=none:=s1.free hp;refine ⟨fun i n' vs H'=>n'=items.length-i/\i<=items.length/\H' p=some (.lst vs)/\cD H1 H'/\∃acc,acc.length<=i/\bK (fun a=>H a=none/\a≠p) H' vs acc/\jK (nG n t c f k ρ) acc (items.drop i)=.ok ys,⟨items.length,?_⟩,?_⟩
  ·exact ⟨rfl,Nat.zero_le _,aP,cD.upd hp,[],Nat.zero_le _,.nil,h2⟩
  ·rintro i n' vs H' ⟨rfl,hi,hH,sm,acc,hal,racc,hf⟩;refine ⟨hH,?_⟩;have hJ':ItQ K All J H' items:=hJ.keep (.same sm) fun _ z=>z
   rcases Nat.lt_or_ge i items.length with hlt|hge
   ·refine .inr ?_;have e:items[i]?=some items[i]:=List.getElem?_eq_getElem hlt;obtain ⟨g1,g2⟩:=hJ'.go e;have hl1:items.length<=lim:=of_decide_eq_true hlim;refine ⟨g1,?_,fun x H2 hy=>?_⟩
    ·rw [racc.length];exact Nat.lt_of_le_of_lt hal (Nat.lt_of_lt_of_le hlt (Nat.le_trans hl1 (by rw [sizeLine_eq];decide)))
    ·obtain ⟨sH,rx⟩:=g2 x H2 hy;have hH:=sH p _ hH;have sm:=sm.trans sH;have racc:=racc.same sH;rw [List.drop_eq_getElem_cons hlt] at hf;obtain ⟨acc2,hs,hf⟩:=aY hf;obtain ⟨bs,hb,hs⟩:=aY hs;obtain ⟨ok,hok,hs⟩:=aY hs;refine tg x items[i] bs σ H2 _ hn rx hb fun σ2 hx hbs=>⟨hx,hc _ _ _ ?_⟩
     have E2:ER H2 σ2 (wO n ρ++bs):=(E.same (s1.trans sm)).ext hn hx hbs;refine ⟨_,ok,E2,hok,fun H4 s4=>?_⟩;cases ok with
     | true=>
      rw [if_pos rfl];rw [if_pos rfl] at hs;obtain ⟨y,hy2,hs⟩:=aY hs;split at hs
      ·rename_i hk;cases hs;refine ⟨_,y,E2.same s4,hy2,fun w H5 s5 r5 n5=>⟨s5 p _ (s4 p _ hH),items.length-(i+1),by lia,rfl,hlt,aP,?_,acc++[y],?_,?_,hf⟩⟩
       ·exact fun b o e=>by
         rw [bO (dJ e hp)];exact s5 b o (s4 b o (sm b o e))
       ·rw [List.length_append,List.length_singleton];lia
       ·have hp5:H5 p=some (.lst vs):=s5 p _ (s4 p _ hH);have ry:Rep (fun a=>H a=none/\a≠p) H5 w y:=by
         rw [Bool.or_eq_true] at hk;rcases hk with hk|hk
         ·exact (n5 hk).mono fun a ha=>⟨((s1.trans sm).trans s4).free ha,fun z=>by subst z;have h0:=s4 _ _ hH;rw [show H4 _=none from ha] at h0;cases h0⟩
         ·exact r5.bJ hk
        have all:bK (fun a=>H a=none/\a≠p) H5 (vs++[w]) (acc++[y]):=(racc.same (s4.trans s5)).snoc ry;refine all.keep (fun b o e hb=>?_) fun _ z=>z
        rw [bO]
        ·exact e
        ·rcases hb with hb|hb
         ·exact hb.2
         ·intro z;subst z;rw [hp5] at e;cases e;cases hb
      ·cases hs
     | false=>
      rw [if_neg (by simp)];rw [if_neg (by simp)] at hs;cases hs;exact ⟨items.length-(i+1),by lia,rfl,hlt,s4 p _ hH,sm.trans s4,acc,by lia,racc.same s4,hf⟩
   ·refine .inl ⟨hJ'.stop hge,?_⟩;rw [List.drop_eq_nil_of_le hge] at hf;cases hf;exact q _ _ (s1.trans sm) (.lst hH trivial racc.all) fun _=>.lst hH hp0 (racc.mono fun a z=>z.1)
 ·cases h
noncomputable def gIx:List Nat->TGs
 | []=>aEi
 | i::is=>Z9 (o7 i) (gIx is)
noncomputable def kO:List Nat->List V->L2.St->L2.St
 | i::is,v::vs,σ=>kO is vs (σ.set i (some v))
 | _,_,σ=>σ
theorem rW {H:Hp} {Q:L2.St->Hp->Prop}:∀(is:List Nat) (vs:List V) (σ:L2.St),vs.length=is.length->Q (kO is vs σ) H->gIx is vs σ H Q
 | [],[],σ,_,q=>⟨rfl,q⟩
 | i::is,v::vs,σ,h,q=>⟨v,vs,rfl,rW is vs (σ.set i (some v)) (by simpa using h) q⟩
 | [],_::_,_,h,_=>by simp at h
 | _::_,[],_,h,_=>by simp at h
theorem uU:∀(is:List Nat) (vs:List V) (σ:L2.St),(kO is vs σ).length=σ.length
 | [],_,_=>by simp [kO]
 | _::_,[],_=>by simp [kO]
 | i::is,v::vs,σ=>by rw [kO,uU is vs];simp
theorem pK:∀(is:List Nat) (vs:List V) (σ:L2.St) (k:Nat),k∉is->(kO is vs σ)[k]?=σ[k]?
 | [],_,_,_,_=>by simp [kO]
 | _::_,[],_,_,_=>by simp [kO]
 | i::is,v::vs,σ,k,h=>by
  rw [List.mem_cons,not_or] at h;rw [kO,pK is vs _ k h.2,List.getElem?_set_ne (Ne.symm h.1)]
theorem zF:∀(is:List Nat) (vs:List V) (σ:L2.St) (j i:Nat) (v:V),is.Nodup->(∀i∈is,i<σ.length)->is[j]?=some i->vs[j]?=some v->(kO is vs σ)[i]?=some (some v)
 | [],_,_,_,_,_,_,_,h,_=>by simp at h
 | _::_,[],_,_,_,_,_,_,_,h=>by simp at h
 | a::is,w::vs,σ,0,i,v,hn,hl,h1,h2=>by
  have e1:a=i:=by simpa using h1
  have e2:w=v:=by simpa using h2
  subst e1 e2;rw [kO,pK is vs _ a (List.nodup_cons.mp hn).1,List.getElem?_set_self (hl a (List.mem_cons_self ..))]
 | a::is,w::vs,σ,j+1,i,v,hn,hl,h1,h2=>by
  rw [kO];exact zF is vs _ j i v (List.nodup_cons.mp hn).2 (fun i hi=>by rw [List.length_set];exact hl i (List.mem_cons_of_mem _ hi)) (by simpa using h1) (by simpa using h2)
theorem gY (n:Nat):TgC (o7 n) oY n 1:=by
 intro v d bs σ H Q hn r h q;cases h;have hl:(σ++List.replicate 1 (none:Option V)).length=n+1:=by simp [hn]
 refine q _ ⟨by simp,fun i w hi=>?_⟩ fun j b hj=>?_
 ·have:i≠n:=fun z=>by
   subst z;rw [List.getElem?_append_right (by lia)] at hi;simp [hn] at hi
  rw [List.getElem?_set_ne (Ne.symm this)];exact hi
 ·have e:j=0:=by
   have:=(List.getElem?_eq_some_iff.mp hj).1;simp at this;exact this
  subst e;have e:d=b:=by simpa using hj
  subst e;exact ⟨v,by rw [Nat.add_zero,List.getElem?_set_self (by lia)],r⟩
theorem JV (K:PySem.W.Frag) (n m:Nat):TgC (aDg K m (gIx (List.range' n m))) (O8 m) n m:=by
 intro v d bs σ H Q hn r h q;cases d <;> simp only [O8] at h <;> (try (cases h;done))
 split at h
 ·rename_i hm;cases h;have hm':=of_decide_eq_true hm;obtain ⟨a,xs,rfl,e,rr⟩:=r.dY;refine ⟨a,xs,rfl,.of e,by rw [rr.length];exact hm',rW _ _ _ (by rw [rr.length,hm'];simp) ?_⟩;refine q _ ⟨by rw [uU],fun i w hi=>?_⟩ fun j b hj=>?_
  ·rw [pK]
   ·exact hi
   ·intro hmem;have:=List.mem_range'_1.mp hmem;rw [List.getElem?_append_right (by lia)] at hi;rw [List.getElem?_replicate] at hi;split at hi <;> cases hi
  ·obtain ⟨w,h1,h2⟩:=rr.get hj;have hjm:j<m:=by rw [<-hm'];exact (List.getElem?_eq_some_iff.mp hj).1
   refine ⟨w,zF _ _ _ j (n+j) w (List.nodup_range' ..) (fun i hi=>?_) ?_ h1,h2⟩
   ·have:=List.mem_range'_1.mp hi;simp [hn];lia
   ·rw [List.getElem?_range' hjm];simp
 ·cases h
section
variable {X:Cx} {scope:Scope} {ownN:List Str} {elt iter tg c:Expr} {it:FI} {t:D->Res (List D)} {g:TG} {gc:FT} {fe:FE} {re:Bool} {pos:Pos}
theorem W6 {n m:Nat} (S:cM X.N X.env.scope scope ownN) (hn:X.N.length=n) (hm:ownN.length=m) (hcalm:X.calm=true) (hi:PI X tg iter (gI X.K it)) (ht:TgC g t n m) (hg:∀X',cH X X' scope ownN->PG X' tg g) (he:∀X',cH X X' scope ownN->PE X' elt (gE fe re))
  (hs:∀x,foldedSetIterable iter X.env x=pure x):PE X (.ListComp elt [⟨tg,iter,[],0⟩] scope pos) (gE (dG n it t fX fe re) true):=by
 intro pins s σ H Q I h;subst hm;exact QS S hcalm hi hg he hs pins s σ H Q I (mZ ht (fun σ H Q h=>by obtain ⟨ρ,b,E,h,q⟩:=h;cases h;exact q H (cD.refl H)) (I.len.trans hn) h)
theorem JW {n m:Nat} (S:cM X.N X.env.scope scope ownN) (hn:X.N.length=n) (hm:ownN.length=m) (hcalm:X.calm=true) (hi:PI X tg iter (gI X.K it)) (ht:TgC g t n m) (hg:∀X',cH X X' scope ownN->PG X' tg g) (hc:∀X',cH X X' scope ownN->PT X' c (gT gc)) (he:∀X',cH X X' scope ownN->PE X' elt (gE fe re))
  (hs:∀x,foldedSetIterable iter X.env x=pure x):PE X (.ListComp elt [⟨tg,iter,[c],0⟩] scope pos) (gE (dG n it t gc fe re) true):=by
 intro pins s σ H Q I h;subst hm;exact JB S hcalm hi hg hc he hs pins s σ H Q I (mZ ht (fun σ H Q h=>h) (I.len.trans hn) h)
end
end Mi
end
section
namespace Mi
open PySem L2 PySem.SeqAt PySem.Spec PyProof.Rows
variable [KFrag]
mutual
theorem Rep.dom {P:Addr->Prop} {H:Hp}:∀{v:V} {d:D},Rep P H v d->Rep (fun a=>P a/\H a≠none) H v d
 | _,_,.non=>.non
 | _,_,.bl b=>.bl b
 | _,_,.int i=>.int i
 | _,_,.str x=>.str x
 | _,_,.tup e r=>.tup e (bK.dom r)
 | _,_,.lst e p r=>.lst e ⟨p,by rw [e];simp⟩ (bK.dom r)
 | _,_,.cel e p r=>.cel e ⟨p,by rw [e];simp⟩ (bK.dom r)
 | _,_,.frz e r=>.frz e (bK.dom r)
 | _,_,.dK e p r n=>.dK e ⟨p,by rw [e];simp⟩ (j7.dom r) n
 | _,_,.dT e p r n=>.dT e ⟨p,by rw [e];simp⟩ (nH.dom r) n
 | _,_,.fdK e r n=>.fdK e (j7.dom r) n
 | _,_,.fdT e r n=>.fdT e (nH.dom r) n
theorem bK.dom {P:Addr->Prop} {H:Hp}:∀{v:List V} {d:List D},bK P H v d->bK (fun a=>P a/\H a≠none) H v d
 | _,_,.nil=>.nil
 | _,_,.cons r t=>.cons (Rep.dom r) (bK.dom t)
theorem j7.dom {P:Addr->Prop} {H:Hp}:∀{v:List (Key×V)} {d:List (D×D)},j7 P H v d->j7 (fun a=>P a/\H a≠none) H v d
 | _,_,.nil=>.nil
 | _,_,.cons r t=>.cons (Rep.dom r) (j7.dom t)
theorem nH.dom {P:Addr->Prop} {H:Hp}:∀{v:List (List Key×V)} {d:List (D×D)},nH P H v d->nH (fun a=>P a/\H a≠none) H v d
 | _,_,.nil=>.nil
 | _,_,.cons r t=>.cons (Rep.dom r) (nH.dom t)
end
theorem j7.bJ {P P':Addr->Prop} {H:Hp}:∀{v:List (Key×V)} {d:List (D×D)},j7 P H v d->D.aV (d.map (·.2))=true->j7 P' H v d
 | _,_,.nil,_=>.nil
 | _,_,.cons r t,h=>by
  rw [List.map_cons,D.aV,Bool.and_eq_true] at h;exact .cons (r.bJ h.1) (t.bJ h.2)
theorem nH.bJ {P P':Addr->Prop} {H:Hp}:∀{v:List (List Key×V)} {d:List (D×D)},nH P H v d->D.aV (d.map (·.2))=true->nH P' H v d
 | _,_,.nil,_=>.nil
 | _,_,.cons r t,h=>by
  rw [List.map_cons,D.aV,Bool.and_eq_true] at h;exact .cons (r.bJ h.1) (t.bJ h.2)
theorem Rep.mJ {P P':Addr->Prop} {H:Hp} {a:Addr} {d:D} (r:Rep P H (.ref a) d) (h:inner d=true) (hp:P' a):Rep P' H (.ref a) d:=by
 cases r with
 | tup e r=>cases h
 | lst e p r=>exact .lst e hp (r.bJ h)
 | cel e p r=>exact .cel e hp (r.bJ h)
 | frz e r=>cases h
 | dK e p r n=>exact .dK e hp (r.bJ h) n
 | dT e p r n=>exact .dT e hp (r.bJ h) n
 | fdK e r n=>cases h
 | fdT e r n=>cases h
noncomputable def Own (own:Nat->Bool) (σ:L2.St) (a:Addr):Prop:=∃i,own i=true/\σ[i]?=some (some (.ref a))
structure ES (own:Nat->Bool) (H:Hp) (σ:L2.St) (ρ:List D):Prop where
 len:σ.length=ρ.length
 at_:∀i,ρ.getD i .uD≠.uD->∃v,σ[i]?=some (some v)/\(own i=false->Rep (fun a=>¬Own own σ a) H v (ρ.getD i .uD))
 own:∀i v,own i=true->σ[i]?=some (some v)->∃a o,v=.ref a/\Rep All H v (ρ.getD i .uD)/\inner (ρ.getD i .uD)=true/\H a=some o/\wR o=true/\∀j,own j=true->σ[j]?=some (some (.ref a))->j=i
variable {own:Nat->Bool}
theorem ES.er {H:Hp} {σ:L2.St} {ρ:List D} (e:ES own H σ ρ):ER H σ ρ:=fun i hi=>by
 obtain ⟨v,h1,h2⟩:=e.at_ i hi;cases ho:own i with
 | false=>exact ⟨v,h1,(h2 ho).all⟩
 | true=>
  obtain ⟨a,o,_,h3,_⟩:=e.own i v ho h1;exact ⟨v,h1,h3⟩
theorem ES.live {H:Hp} {σ:L2.St} {ρ:List D} (e:ES own H σ ρ) {a:Addr} (h:Own own σ a):∃o,H a=some o/\wR o=true:=by
 obtain ⟨i,hi,hs⟩:=h;obtain ⟨b,o,eb,_,_,h3,h4,_⟩:=e.own i _ hi hs;cases eb;exact ⟨o,h3,h4⟩
theorem ES.same {H H':Hp} {σ:L2.St} {ρ:List D} (e:ES own H σ ρ) (s:cD H H'):ES own H' σ ρ:=by
 refine ⟨e.len,fun i hi=>?_,fun i v hi hv=>?_⟩
 ·obtain ⟨v,h1,h2⟩:=e.at_ i hi;exact ⟨v,h1,fun ho=>(h2 ho).same s⟩
 ·obtain ⟨a,o,h1,h2,h3,h4,h5,h6⟩:=e.own i v hi hv;exact ⟨a,o,h1,h2.same s,h3,s _ _ h4,h5,h6⟩
noncomputable def KU (own:Nat->Bool) (σ:L2.St) (H:Hp) (σ':L2.St) (H':Hp):Prop:=∀a o,H a=some o->¬Own own σ a->H' a=some o/\¬Own own σ' a
theorem KU.trans {σ σ1 σ2:L2.St} {H H1 H2:Hp} (a:KU own σ H σ1 H1) (b:KU own σ1 H1 σ2 H2):KU own σ H σ2 H2:=fun c o e n=>let ⟨e1,n1⟩:=a c o e n;b c o e1 n1
theorem KU.same {σ:L2.St} {H H':Hp} (s:cD H H'):KU own σ H σ H':=fun a o e n=>⟨s a o e,n⟩
theorem KU.keep {σ σ':L2.St} {H H':Hp} {ρ:List D} (k:KU own σ H σ' H') (e:ES own H σ ρ):O9 (fun a=>¬Own own σ a) H H':=fun a o h hp=>by
 by_cases ho:Own own σ a
 ·obtain ⟨o',h1,h2⟩:=e.live ho;rw [h] at h1;cases h1;rcases hp with hp|hp
  ·exact absurd ho hp
  ·rw [h2] at hp;cases hp
 ·exact (k a o h ho).1
theorem KU.rep {σ σ':L2.St} {H H':Hp} {ρ:List D} (k:KU own σ H σ' H') (e:ES own H σ ρ) {v:V} {d:D} (r:Rep (fun a=>¬Own own σ a) H v d):Rep (fun a=>¬Own own σ' a) H' v d:=by
 refine r.dom.keep (P':=fun a=>¬Own own σ' a) (fun a o h hp=>?_) fun a ⟨h1,h2⟩=>?_
 ·refine k.keep e a o h (hp.imp (fun z=>z.1) id)
 ·cases q:H a with
  | none=>exact absurd q h2
  | some o=>exact (k a o q h1).2
noncomputable def kRt (own:Nat->Bool) (D:Ends) (σ:L2.St) (H:Hp) (d:Mi.D):Prop:=if own rtX=true then ∃d0 ρ',d=.tup (d0::ρ')/\∀v σ' H',KU own σ H σ' H'->ES own H' σ' ρ'->Rep (fun a=>(Own own σ a\/H a=none)/\∀i b xs,ρ'.getD i .uD=.cel b xs->a≠b) H' v d0->D.rt v H'
  else ∀v H',(∀a o,H a=some o->¬Own own σ a->H' a=some o)->Rep (fun a=>Own own σ a\/H a=none) H' v d->D.rt v H'
theorem kRt.old {own:Nat->Bool} {D:Ends} {σ:L2.St} {H:Hp} {d:Mi.D} (h:kRt own D σ H d) (hx:own rtX=false):∀v H',(∀a o,H a=some o->¬Own own σ a->H' a=some o)->Rep (fun a=>Own own σ a\/H a=none) H' v d->D.rt v H':=by
 unfold kRt at h;rw [if_neg (by rw [hx];simp)] at h;exact h
theorem kRt.mk {own:Nat->Bool} {D:Ends} {σ:L2.St} {H:Hp} {d:Mi.D} (hx:own rtX=false) (h:∀v H',(∀a o,H a=some o->¬Own own σ a->H' a=some o)->Rep (fun a=>Own own σ a\/H a=none) H' v d->D.rt v H'):kRt own D σ H d:=by
 unfold kRt;rw [if_neg (by rw [hx];simp)];exact h
noncomputable def kS (own:Nat->Bool) (D:Ends) (σ:L2.St) (H:Hp):Fl->Prop
 | .nx ρ=>∀σ' H',KU own σ H σ' H'->ES own H' σ' ρ->D.nx σ' H'
 | .bk ρ=>∀σ' H',KU own σ H σ' H'->ES own H' σ' ρ->D.bk σ' H'
 | .ct ρ=>∀σ' H',KU own σ H σ' H'->ES own H' σ' ρ->D.ct σ' H'
 | .rt d=>kRt own D σ H d
theorem kS.step {D:Ends} {σ σ':L2.St} {H H':Hp} {fl:Fl} (k:KU own σ H σ' H') (h:kS own D σ H fl):kS own D σ' H' fl:=by
 cases fl with
 | nx ρ=>exact fun σ2 H2 k2 e=>h σ2 H2 (k.trans k2) e
 | bk ρ=>exact fun σ2 H2 k2 e=>h σ2 H2 (k.trans k2) e
 | ct ρ=>exact fun σ2 H2 k2 e=>h σ2 H2 (k.trans k2) e
 | rt d=>
  have old:∀a,(Own own σ' a\/H' a=none)->Own own σ a\/H a=none:=fun a ha=>by
   cases q:H a with
   | none=>exact .inr rfl
   | some o=>
    refine .inl (Classical.byContradiction fun n=>?_);obtain ⟨e1,n1⟩:=k a o q n;rcases ha with ha|ha
    ·exact n1 ha
    ·rw [e1] at ha;cases ha
  have h:kRt own D σ H d:=h;show kRt own D σ' H' d;unfold kRt at h ⊢;by_cases hx:own rtX=true
  ·rw [if_pos hx] at h ⊢;obtain ⟨d0,ρ',e,g⟩:=h;exact ⟨d0,ρ',e,fun v σ2 H2 k2 E2 r=>g v σ2 H2 (k.trans k2) E2 (r.mono fun a ha=>⟨old a ha.1,ha.2⟩)⟩
  ·rw [if_neg hx] at h ⊢;exact fun v H2 hk r=>h v H2 (fun a o e n=>let ⟨e1,n1⟩:=k a o e n;hk a o e1 n1) (r.mono fun a ha=>old a ha)
noncomputable def tS (own:Nat->Bool) (f:FS):TS:=fun D σ H=>∃ρ fl,ES own H σ ρ/\f ρ=.ok fl/\kS own D σ H fl
theorem PS.imp {X:Cx} {st:Stmt} {t t':TS} (h:PS X st t) (i:∀D σ H,t' D σ H->t D σ H):PS X st t':=fun pins s σ H D I q=>h pins s σ H D I (i D σ H q)
theorem PSs.imp {X:Cx} {st:List Stmt} {t t':TS} (h:PSs X st t) (i:∀D σ H,t' D σ H->t D σ H):PSs X st t':=fun pins s σ H D I q=>h pins s σ H D I (i D σ H q)
section
variable {X:Cx} {a b c e:Expr} {pos pos':Pos} {fa fb fc fe:FE} {ra rb rc re:Bool} {ga gb gc:FT} {f g:FS} {st:Stmt} {rest s1 s2:List Stmt}
theorem cF:PSs X [] (tS own jL):=PSs.imp GX fun D σ H ⟨ρ,fl,E,h,q⟩=>by
 cases h;exact q σ H (fun a o e n=>⟨e,n⟩) E
theorem JX {D:Ends} {σ:L2.St} {H:Hp} (h:tS own (bD f g) D σ H):VN (tS own f) (tS own g) D σ H:=by
 obtain ⟨ρ,fl,E,h,q⟩:=h;obtain ⟨r,h1,h2⟩:=aY h;refine ⟨ρ,r,E,h1,?_⟩;cases r with
 | nx ρ'=>exact fun σ' H' k E'=>⟨ρ',fl,E',h2,q.step k⟩
 | bk ρ'=>cases h2;exact q
 | ct ρ'=>cases h2;exact q
 | rt d=>cases h2;exact q
theorem aF (h1:PS X st (tS own f)) (h2:PSs X rest (tS own g)):PSs X (st::rest) (tS own (bD f g)):=PSs.imp (oW h1 h2) fun _ _ _=>JX
theorem aQ (h1:PS X st (tS own f)):PSs X [st] (tS own f):=wG h1
theorem gK (hc:PT X c (gT gc)) (ha:PSs X s1 (tS own f)) (hb:PSs X s2 (tS own g)):PS X (.If c s1 s2 pos) (tS own (sIf gc f g)):=PS.imp (VP hc ha hb) fun D σ H ⟨ρ,fl,E,h,q⟩=>by
 obtain ⟨k,h1,h2⟩:=aY h;refine ⟨ρ,k,E.er,h1,fun H' s=>?_⟩;cases k with
 | true=>rw [if_pos rfl];rw [if_pos rfl] at h2;exact ⟨ρ,fl,E.same s,h2,q.step (.same s)⟩
 | false=>rw [if_neg (by simp)];rw [if_neg (by simp)] at h2;exact ⟨ρ,fl,E.same s,h2,q.step (.same s)⟩
theorem m5 (he:PE X e (gE fe re)) (hx:own rtX=false:=by rfl):PS X (.Return (some e) pos) (tS own (yN fe re)):=PS.imp (qY he) fun D σ H ⟨ρ,fl,E,h,q⟩=>by
 obtain ⟨d,h1,h2⟩:=aY h;split at h2
 ·rename_i hk;cases h2;refine ⟨ρ,d,E.er,h1,fun v H' s r n=>q.old hx v H' (fun a o e _=>s a o e) ?_⟩;rw [Bool.or_eq_true] at hk;rcases hk with hk|hk
  ·exact (n hk).mono fun a ha=>.inr ha
  ·exact r.bJ hk
 ·cases h2
theorem W7 {i:Nat} {x:Str} (ho:own i=true) (hN:X.N[i]?=some x) (hv:Vis X.env.scope x) (hd:nDb x:=by decide) (hcd:nCd x:=by decide) (hx:own rtX=false:=by rfl):PS X (.Return (some (.Name x pos')) pos) (tS own (aAl i)):=
 PS.imp (qY (eV hN hv hd hcd)) fun D σ H ⟨ρ,fl,E,h,q⟩=>by
 obtain ⟨d,h1,h2⟩:=aY h;cases h2;obtain ⟨v,hv,r,e⟩:=E.er.var h1;obtain ⟨a,o,rfl,r2,hin,_⟩:=E.own i v ho hv;rw [e] at hin;exact ⟨_,hv,q.old hx _ H (fun a o e _=>e) (r.mJ hin (.inl ⟨i,ho,hv⟩))⟩
theorem pL (he:PE X e (gE fe re)) (hs:swapsWith e none pos.line X.env=pure false:=by rfl):PS X (.Expr e pos) (tS own (pF fe)):=PS.imp (rM he hs) fun D σ H ⟨ρ,fl,E,h,q⟩=>by
 obtain ⟨d,h1,h2⟩:=aY h;cases h2;exact ⟨ρ,d,E.er,h1,fun v H' s r n=>q σ H' (.same s) (E.same s)⟩
theorem mC {σ:L2.St} {i:Nat} {v:V} (ho:own i=false) (a:Addr):Own own (σ.set i (some v)) a↔Own own σ a:=by
 constructor
 ·rintro ⟨j,hj,e⟩;have:i≠j:=fun z=>by subst z;rw [ho] at hj;cases hj
  rw [List.getElem?_set_ne this] at e;exact ⟨j,hj,e⟩
 ·rintro ⟨j,hj,e⟩;have:i≠j:=fun z=>by subst z;rw [ho] at hj;cases hj
  exact ⟨j,hj,by rw [List.getElem?_set_ne this];exact e⟩
theorem cX {ρ:List D} {i j:Nat} {d:D}:(ρ.set i d).getD j .uD=if i=j/\i<ρ.length then d else ρ.getD j .uD:=by
 rw [List.getD_eq_getElem?_getD,List.getD_eq_getElem?_getD,List.getElem?_set];by_cases h:i=j
 ·subst h;by_cases h2:i<ρ.length
  ·simp [h2]
  ·simp [h2]
 ·simp [h]
theorem ES.set {H:Hp} {σ:L2.St} {ρ:List D} {i:Nat} {v:V} {d:D} (E:ES own H σ ρ) (ho:own i=false) (r:Rep (fun a=>¬Own own σ a) H v d):ES own H (σ.set i (some v)) (ρ.set i d):=by
 have hO:(fun a=>¬Own own (σ.set i (some v)) a)=fun a=>¬Own own σ a:=funext fun a=>by rw [mC ho]
 refine ⟨by simp [E.len],fun j hj=>?_,fun j w hj hw=>?_⟩
 ·rw [cX] at hj ⊢;rw [hO];by_cases h:i=j/\i<ρ.length
  ·rw [if_pos h];obtain ⟨rfl,hl⟩:=h;exact ⟨v,by rw [List.getElem?_set_self (by rw [E.len];exact hl)],fun _=>r⟩
  ·rw [if_neg h] at hj ⊢;obtain ⟨w,h1,h2⟩:=E.at_ j hj;by_cases hij:i=j
   ·subst hij;have:i<σ.length:=(List.getElem?_eq_some_iff.mp h1).1;rw [E.len] at this;exact absurd ⟨rfl,this⟩ h
   ·exact ⟨w,by rw [List.getElem?_set_ne hij];exact h1,h2⟩
 ·have hij:i≠j:=fun z=>by subst z;rw [ho] at hj;cases hj
  rw [List.getElem?_set_ne hij] at hw;rw [cX,if_neg fun z=>hij z.1];obtain ⟨a,o,h1,h2,h3,h4,h5,h6⟩:=E.own j w hj hw;refine ⟨a,o,h1,h2,h3,h4,h5,fun k hk hs=>h6 k hk ?_⟩;have hik:i≠k:=fun z=>by subst z;rw [ho] at hk;cases hk
  rwa [List.getElem?_set_ne hik] at hs
theorem ES.aFk {H H':Hp} {σ:L2.St} {ρ:List D} {i:Nat} {a:Addr} {o:HO} {d:D} (E:ES own H σ ρ) (s:cD H H') (ho:own i=true) (hn:H a=none) (r:Rep All H' (.ref a) d) (hin:inner d=true) (ha:H' a=some o) (hm:wR o=true) :
  ES own H' (σ.set i (some (.ref a))) (ρ.set i d)/\KU own σ H (σ.set i (some (.ref a))) H':=by
 have hO:∀b,H b≠none->¬Own own σ b->¬Own own (σ.set i (some (.ref a))) b:=fun b hb n ⟨j,hj,e⟩=>by
  by_cases hij:i=j
  ·subst hij;by_cases hl:i<σ.length
   ·rw [List.getElem?_set_self hl] at e;cases e;exact hb hn
   ·rw [List.getElem?_set,if_pos rfl,if_neg hl] at e;cases e
  ·rw [List.getElem?_set_ne hij] at e;exact n ⟨j,hj,e⟩
 refine ⟨⟨by simp [E.len],fun j hj=>?_,fun j w hj hw=>?_⟩,fun b ob e n=>⟨s b ob e,hO b (by rw [e];simp) n⟩⟩
 ·rw [cX] at hj ⊢;by_cases h:i=j/\i<ρ.length
  ·rw [if_pos h];obtain ⟨rfl,hl⟩:=h;exact ⟨.ref a,by rw [List.getElem?_set_self (by rw [E.len];exact hl)],fun z=>by rw [ho] at z;cases z⟩
  ·rw [if_neg h] at hj ⊢;obtain ⟨w,h1,h2⟩:=E.at_ j hj;by_cases hij:i=j
   ·subst hij;have:i<σ.length:=(List.getElem?_eq_some_iff.mp h1).1;rw [E.len] at this;exact absurd ⟨rfl,this⟩ h
   ·exact ⟨w,by rw [List.getElem?_set_ne hij];exact h1,fun hj=>((h2 hj).dom.same s).mono fun b ⟨n,hb⟩=>hO b hb n⟩
 ·by_cases hij:i=j
  ·subst hij;have hl:i<σ.length:=by
    have:=(List.getElem?_eq_some_iff.mp hw).1;simpa using this
   rw [List.getElem?_set_self hl] at hw;cases hw;rw [cX,if_pos ⟨rfl,by rw [<-E.len];exact hl⟩];refine ⟨a,o,rfl,r,hin,ha,hm,fun k hk hs=>?_⟩;by_cases hik:i=k
   ·exact hik.symm
   ·rw [List.getElem?_set_ne hik] at hs;obtain ⟨o',h1,_⟩:=E.live ⟨k,hk,hs⟩;rw [hn] at h1;cases h1
  ·rw [List.getElem?_set_ne hij] at hw;rw [cX,if_neg fun z=>hij z.1];obtain ⟨b,ob,h1,h2,h3,h4,h5,h6⟩:=E.own j w hj hw;refine ⟨b,ob,h1,h2.same s,h3,s _ _ h4,h5,fun k hk hs=>?_⟩;by_cases hik:i=k
   ·subst hik;by_cases hl:i<σ.length
    ·rw [List.getElem?_set_self hl] at hs;cases hs;rw [hn] at h4;cases h4
    ·rw [List.getElem?_set,if_pos rfl,if_neg hl] at hs;cases hs
   ·rw [List.getElem?_set_ne hik] at hs;exact h6 k hk hs
theorem T5 {P:Addr->Prop} {H:Hp} {v:V} {d:D} (r:Rep P H v d) (hin:inner d=true):∃a o,v=.ref a/\P a/\H a=some o/\wR o=true:=by
 cases r with
 | lst e p r=>exact ⟨_,_,rfl,p,e,rfl⟩
 | cel e p r=>exact ⟨_,_,rfl,p,e,rfl⟩
 | dK e p r n=>exact ⟨_,_,rfl,p,e,rfl⟩
 | dT e p r n=>exact ⟨_,_,rfl,p,e,rfl⟩
 | fdK e r n=>cases hin
 | fdT e r n=>cases hin
 | _=>cases hin
theorem rY {H H':Hp} {σ:L2.St} {ρ:List D} (E:ES own H σ ρ) {v:V} {d:D} (r:Rep (New H) H' v d):Rep (fun a=>¬Own own σ a) H' v d:=r.mono fun a ha ho=>by
 obtain ⟨o,h1,_⟩:=E.live ho;rw [show H a=none from ha] at h1;cases h1
theorem xG {o:Bool} {i:Nat} {D':Ends} {σ:L2.St} {H:Hp} (ho:own i=o) (h:tS own (b_ o i fe re) D' σ H):VR (gE fe re) (o7 i) D' σ H:=by
 obtain ⟨ρ,fl,E,h,q⟩:=h;obtain ⟨d,h1,h2⟩:=aY h;cases o with
 | true=>
  simp only [if_true] at h2;split at h2
  ·rename_i hk;cases h2;refine ⟨ρ,d,E.er,h1,fun v H' s r n=>?_⟩;rw [Bool.and_eq_true] at hk;obtain ⟨a,ob,rfl,hn,ha,hm⟩:=T5 (n hk.1) hk.2;obtain ⟨E2,k⟩:=E.aFk s ho hn r hk.2 ha hm;exact q _ H' k E2
  ·cases h2
 | false=>
  simp only [Bool.false_eq_true,if_false] at h2;split at h2
  ·rename_i hk;cases h2;refine ⟨ρ,d,E.er,h1,fun v H' s r n=>?_⟩;rw [Bool.or_eq_true] at hk;have r2:Rep (fun a=>¬Own own σ a) H' v d:=by
    rcases hk with hk|hk
    ·exact rY E (n hk)
    ·exact r.bJ hk
   exact q _ H' (fun a ob e hn=>⟨s a ob e,by rw [mC ho];exact hn⟩) ((E.same s).set ho r2)
  ·cases h2
theorem bL {i:Nat} {x:Str} {o:Bool} (ho:own i=o) (hN:X.N.Nodup) (hi:X.N[i]?=some x) (hx:Loc X.env.scope x) (he:PE X e (gE fe re)) (hs:swapsWith e (some (.Name x pos')) pos.line X.env=pure false:=by rfl) (hf:X.fn x=true\/X.env.scope.names.lookup x=some .local:=by first|exact .inl rfl|exact .inr rfl|assumption) :
  PS X (.Assign [.Name x pos'] e pos) (tS own (b_ o i fe re)):=PS.imp (GZ hN hi hx he hs hf) fun _ _ _=>xG ho
theorem ES.mut {H:Hp} {σ:L2.St} {ρ:List D} {i:Nat} {a:Addr} {o:HO} {d:D} (E:ES own H σ ρ) (ho:own i=true) (hi:σ[i]?=some (some (.ref a))) (hm:wR o=true) (r:Rep All (upd H a o) (.ref a) d) (hin:inner d=true) :
  ES own (upd H a o) σ (ρ.set i d)/\KU own σ H σ (upd H a o):=by
 have hOa:Own own σ a:=⟨i,ho,hi⟩
 obtain ⟨a',oa,ea,_,_,hHa,hma,huq⟩:=E.own i _ ho hi;cases ea;have k:KU own σ H σ (upd H a o):=fun b ob e n=>⟨by rw [bO (fun z=>by subst z;exact n hOa)];exact e,n⟩
 have hl:i<ρ.length:=by rw [<-E.len];exact (List.getElem?_eq_some_iff.mp hi).1
 refine ⟨⟨by simp [E.len],fun j hj=>?_,fun j w hj hw=>?_⟩,k⟩
 ·rw [cX] at hj ⊢;by_cases h:i=j/\i<ρ.length
  ·obtain ⟨rfl,_⟩:=h;exact ⟨_,hi,fun z=>by rw [ho] at z;cases z⟩
  ·rw [if_neg h] at hj ⊢;obtain ⟨w,h1,h2⟩:=E.at_ j hj;exact ⟨w,h1,fun hj=>k.rep E (h2 hj)⟩
 ·by_cases hij:i=j
  ·subst hij;rw [hi] at hw;cases hw;rw [cX,if_pos ⟨rfl,hl⟩];exact ⟨a,o,rfl,r,hin,aP,hm,huq⟩
  ·rw [cX,if_neg fun z=>hij z.1];obtain ⟨b,ob,h1,h2,h3,h4,h5,h6⟩:=E.own j w hj hw;subst h1;have hba:b≠a:=fun z=>by subst z;exact hij (h6 i ho hi)
   refine ⟨b,ob,rfl,?_,h3,by rw [bO hba];exact h4,h5,h6⟩;refine (h2.mJ (P':=fun c=>c=b) h3 rfl).keep (fun c oc hc hp=>?_) fun _ _=>trivial
   rw [bO]
   ·exact hc
   ·intro z;subst z;rcases hp with hp|hp
    ·exact hba hp.symm
    ·rw [hHa] at hc;cases hc;rw [hma] at hp;cases hp
theorem ES.ownAt {H:Hp} {σ:L2.St} {ρ:List D} {i:Nat} (E:ES own H σ ρ) (ho:own i=true) (hd:ρ.getD i .uD≠.uD):∃a o,σ[i]?=some (some (.ref a))/\Rep All H (.ref a) (ρ.getD i .uD)/\inner (ρ.getD i .uD)=true/\H a=some o/\wR o=true:=by
 obtain ⟨v,h1,_⟩:=E.at_ i hd;obtain ⟨a,o,rfl,h2,h3,h4,h5,_⟩:=E.own i v ho h1;exact ⟨a,o,h1,h2,h3,h4,h5⟩
theorem zG {H:Hp} {a:Addr} {xs:List D} (r:Rep All H (.ref a) (.lst xs)):∃vs,H a=some (.lst vs)/\bK All H vs xs:=by
 cases r with
 | lst e _ r=>exact ⟨_,e,r⟩
theorem bK.upd {H:Hp} {a:Addr} {vs:List V} {xs:List D} {o:HO} {ob:HO} (r:bK All H vs xs) (hp:D.aV xs=true) (ha:H a=some ob) (hm:wR ob=true):bK All (upd H a o) vs xs:=by
 refine (r.bJ (P':=fun _=>False) hp).keep (fun c oc hc h=>?_) fun _ h=>h.elim
 rw [bO]
 ·exact hc
 ·intro z;subst z;rcases h with h|h
  ·exact h
  ·rw [ha] at hc;cases hc;rw [hm] at h;cases h
theorem pM {xs ys:List D}:D.aV (xs++ys)=(D.aV xs&&D.aV ys):=by
 induction xs with
 | nil=>simp [D.aV]
 | cons x xs ih=>rw [List.cons_append,D.aV,D.aV,ih,Bool.and_assoc]
theorem oH {i:Nat} {x:Str} {p1 apos cpos:Pos} (ho:own i=true) (hN:X.N[i]?=some x) (hv:Vis X.env.scope x) (he:PE X e (gE fe re)) (hd:nDb x:=by decide) (hcd:nCd x:=by decide)
  (hbase:attributeBase (.Name x p1) "append" X.env (eval (.Name x p1) X.env)=eval (.Name x p1) X.env:=by rfl)
  (hs1:starEach [e] X.env=(false,eval e X.env)::starEach [] X.env:=by rfl)
  (hfew:((backTo cpos (starEach [e] X.env)).all (fun x=>!x.1)&&(backToKw cpos (keywordEach [] X.env)).all (fun x=>x.1.isSome)
   && decide (([e]:List Expr).length+([]:List Keyword).length+(if ([]:List Keyword).isEmpty then 0 else 1)<30))=true:=by rfl)
  (hline:(apos.endLine==cpos.line)=true:=by rfl)
  (hs:swapsWith (.Call (.Attribute (.Name x p1) "append" apos) [e] [] cpos) none pos.line X.env=pure false:=by rfl) :
  PS X (.Expr (.Call (.Attribute (.Name x p1) "append" apos) [e] [] cpos) pos) (tS own (rP i fe)):=
 PS.imp (rM (V7 PySem.F.plainAttrs_list PySem.F.slot_list_append PySem.F.type_list_append uG (eV hN hv hd hcd) (dO he mR hs1) hbase hfew hline hs1 rfl) hs) fun D' σ H ⟨ρ,fl,E,h,q⟩=>by
 obtain ⟨d,h1,h2⟩:=aY h;split at h2
 ·rename_i xs hx;split at h2
  ·rename_i hk;cases h2;rw [Bool.and_eq_true] at hk;obtain ⟨a,o,hσ,r,hin,ha,hm⟩:=E.ownAt ho (by rw [hx];intro z;cases z);rw [hx] at r hin;obtain ⟨vs,hl,rr⟩:=zG r;refine ⟨_,hσ,.inl ⟨rfl,vs,.of hl⟩,ρ,d,E.er,h1,fun v H' s rv _=>⟨a,vs,v,rfl,rfl,s _ _ hl,by rw [rr.length];exact JD hk.1,?_⟩⟩;have E':=E.same s;have hl':=s _ _ hl;obtain ⟨E2,k2⟩:=E'.mut (o:=.lst (vs++[v])) (d:=.lst (xs++[d])) ho hσ rfl (.lst aP trivial (((rr.same s).snoc rv).upd (by rw [pM];simp only [Bool.and_eq_true];exact ⟨hin,by simp [D.aV,hk.2]⟩) hl' rfl)) (by show D.aV (xs++[d])=true;rw [pM];simp only [Bool.and_eq_true];exact ⟨hin,by simp [D.aV,hk.2]⟩);exact q _ _ ((KU.same s).trans k2) E2
  ·cases h2
 ·cases h2
end
end Mi
end
section
namespace L2
open PySem PySem.Spec PyProof.Rows
section
variable {X:Cx} {scope:Scope} {own:List Str}
theorem Q0 {y:Str} {py:Pos} {iy:Nat} (hNn:X.N.Nodup) (hiy:X.N[iy]?=some y) (hxy:Loc X.env.scope y) (hfy:X.fn y=true\/X.env.scope.names.lookup y=some .local) {pins:List (Addr×Obj)} {σ:St} {D:Ends} {p C:Addr} {H5:Hp} {s6:Shared} {m6:Str->Option Value} (f:Inv X pins σ H5 s6) (k:yF X pins H5 C) (n:s6.heap.Ns C m6) (q:o7 iy (.ref p) σ H5 D.nx):compPost (model X.prog X.w) X.A X.xe (some (assign (.Name y py) X.env)) (fun _ s'=>SP X pins D .next s') (.ref p) C (.ok .next) s6:=by
 obtain ⟨oC,esC,epC,hoC,hdC,_⟩:=id n;have finP:=f.wF (pins':=pins++[(C,oC)]) fun p hp=>(List.mem_append.mp hp).elim (fun z=>f.pin p (List.mem_append_right _ z)) fun z=>by
  have z':p=(C,oC):=by simpa using z
  subst z';exact ⟨hoC,k.1,k.2.1,k.2.2.1,fun v z=>by rw [hdC] at z;cases z⟩
 refine thn (aW (pos:=py) hNn hiy hxy hfy _ _ σ H5 (.ref p) (.ref p) D.nx finP rfl q) fun _ s7 ⟨σ7,H7,I7,q7⟩=>?_
 obtain ⟨g7,hC7,_⟩:=I7.pin (C,oC) (List.mem_append_right _ (List.mem_append_right _ (by simp)));refine ⟨m6,n.at' fun o e=>?_,fun h' sb=>⟨σ7,H7,Inv.turned (t':=s7.toks) I7.mL (fun b o hb e=>sb.extBut b o hb e) hC7 k.2.1 k.2.2.2.1 k.2.2.2.2.1 k.2.2.2.2.2,q7⟩⟩;rw [hoC] at e;cases e;exact g7
theorem aB2 {elt iter tg:Expr} {ifs:List Expr} {wi:TI} {g:TG} {tc:TT} {te:TE} {pos:Pos} (S:cM X.N X.env.scope scope own) (hcalm:X.calm=true) (hi:PI X tg iter wi)
  (hg:∀X',cH X X' scope own->PG X' tg g) (hc:(ifs=[]/\tc=fun _ H Q=>Q true H)\/∃c,ifs=[c]/\∀X',cH X X' scope own->PT X' c tc) (he:∀X',cH X X' scope own->PE X' elt te)
  (hs:∀x,foldedSetIterable iter X.env x=pure x) {y:Str} {py pos2:Pos} {iy:Nat} (hNn:X.N.Nodup) (hiy:X.N[iy]?=some y) (hxy:Loc X.env.scope y) (hfy:X.fn y=true\/X.env.scope.names.lookup y=some .local) (hsw:swapsWith (.ListComp elt [⟨tg,iter,ifs,0⟩] scope pos) (some (.Name y py)) pos2.line X.env=pure true):PS X (.Assign [.Name y py] (.ListComp elt [⟨tg,iter,ifs,0⟩] scope pos) pos2) (VR (wW wi g tc te own.length) (o7 iy)):=by
 intro pins s σ H D I h;rw [exec_Assign_Name_used _ _ _ _ hsw];refine wpAny_bind (wpAny_standAt (wpAny_bind ?_));show wpAny _ X.A (do let _ <- comprehension (.ListComp elt [⟨tg,iter,ifs,0⟩] scope pos) scope X.env _ (newList []) false (eval iter X.env) (some (assign (.Name y py) X.env))) _ _ s;exact wpAny_bind (wpAny_mono (wX (QQ:=fun _ s'=>SP X pins D .next s') S hcalm hi hg hc he hs I h (Q0 hNn hiy hxy hfy)) (fun _ s' hq=>wpAny_pure (wpAny_pure hq)) fun _ _ e=>e)
theorem JZ {elt iter tg c:Expr} {wi:TI} {g:TG} {tc:TT} {te:TE} {pos:Pos} (S:cM X.N X.env.scope scope own) (hcalm:X.calm=true) (hi:PI X tg iter wi)
  (hg:∀X',cH X X' scope own->PG X' tg g) (hc:∀X',cH X X' scope own->PT X' c tc) (he:∀X',cH X X' scope own->PE X' elt te)
  (hs:∀x,foldedSetIterable iter X.env x=pure x) {y:Str} {py pos2:Pos} {iy:Nat} (hNn:X.N.Nodup) (hiy:X.N[iy]?=some y) (hxy:Loc X.env.scope y) (hfy:X.fn y=true\/X.env.scope.names.lookup y=some .local) (hsw:swapsWith (.ListComp elt [⟨tg,iter,[c],0⟩] scope pos) (some (.Name y py)) pos2.line X.env=pure true):PS X (.Assign [.Name y py] (.ListComp elt [⟨tg,iter,[c],0⟩] scope pos) pos2) (VR (wW wi g tc te own.length) (o7 iy)):=
 aB2 S hcalm hi hg (.inr ⟨c,rfl,hc⟩) he hs hNn hiy hxy hfy hsw
theorem Q3 {elt iter tg:Expr} {wi:TI} {g:TG} {te:TE} {pos:Pos} (S:cM X.N X.env.scope scope own) (hcalm:X.calm=true) (hi:PI X tg iter wi)
  (hg:∀X',cH X X' scope own->PG X' tg g) (he:∀X',cH X X' scope own->PE X' elt te)
  (hs:∀x,foldedSetIterable iter X.env x=pure x) {y:Str} {py pos2:Pos} {iy:Nat} (hNn:X.N.Nodup) (hiy:X.N[iy]?=some y) (hxy:Loc X.env.scope y) (hfy:X.fn y=true\/X.env.scope.names.lookup y=some .local) (hsw:swapsWith (.ListComp elt [⟨tg,iter,[],0⟩] scope pos) (some (.Name y py)) pos2.line X.env=pure true):PS X (.Assign [.Name y py] (.ListComp elt [⟨tg,iter,[],0⟩] scope pos) pos2) (VR (wW wi g (fun _ H Q=>Q true H) te own.length) (o7 iy)):=
 aB2 S hcalm hi hg (.inl ⟨rfl,rfl⟩) he hs hNn hiy hxy hfy hsw
end
end L2
end
section
namespace Mi
open PySem L2 PySem.SeqAt PySem.Spec PyProof.Rows
variable [KFrag]
variable {own:Nat->Bool}
section
variable {X:Cx} {a b c e:Expr} {pos pos':Pos} {fa fb fc fe:FE} {ra rb rc re:Bool} {ga gb gc:FT} {f g:FS} {st:Stmt} {rest s1 s2:List Stmt}
variable {scope:Scope} {ownN:List Str} {elt iter tg:Expr} {it:FI} {t:D->Res (List D)} {gt:TG}
theorem W8 {n m:Nat} {y:Str} {py pos2:Pos} {iy:Nat} {o:Bool} (S:cM X.N X.env.scope scope ownN) (hn:X.N.length=n) (hm:ownN.length=m) (hcalm:X.calm=true) (hi:PI X tg iter (gI X.K it)) (ht:TgC gt t n m) (hg:∀X',cH X X' scope ownN->PG X' tg gt) (he:∀X',cH X X' scope ownN->PE X' elt (gE fe re))
  (hs:∀x,foldedSetIterable iter X.env x=pure x) (ho:own iy=o) (hNn:X.N.Nodup) (hiy:X.N[iy]?=some y) (hxy:Loc X.env.scope y) (hfy:X.fn y=true\/X.env.scope.names.lookup y=some .local) (hsw:swapsWith (.ListComp elt [⟨tg,iter,[],0⟩] scope pos) (some (.Name y py)) pos2.line X.env=pure true) :
  PS X (.Assign [.Name y py] (.ListComp elt [⟨tg,iter,[],0⟩] scope pos) pos2) (tS own (b_ o iy (dG n it t fX fe re) true)):=by
 intro pins s σ H D I h;subst hm;refine Q3 S hcalm hi hg he hs hNn hiy hxy hfy hsw pins s σ H D I ?_;exact mZ ht (fun σ H Q h=>by obtain ⟨ρ,b,E,h,q⟩:=h;cases h;exact q H (cD.refl H)) (I.len.trans hn) (xG ho h)
theorem J0 {n m:Nat} {y:Str} {py pos2:Pos} {iy:Nat} {o:Bool} (S:cM X.N X.env.scope scope ownN) (hn:X.N.length=n) (hm:ownN.length=m) (hcalm:X.calm=true) (hi:PI X tg iter (gI X.K it)) (ht:TgC gt t n m) (hg:∀X',cH X X' scope ownN->PG X' tg gt) (hc:∀X',cH X X' scope ownN->PT X' c (gT gc)) (he:∀X',cH X X' scope ownN->PE X' elt (gE fe re))
  (hs:∀x,foldedSetIterable iter X.env x=pure x) (ho:own iy=o) (hNn:X.N.Nodup) (hiy:X.N[iy]?=some y) (hxy:Loc X.env.scope y) (hfy:X.fn y=true\/X.env.scope.names.lookup y=some .local) (hsw:swapsWith (.ListComp elt [⟨tg,iter,[c],0⟩] scope pos) (some (.Name y py)) pos2.line X.env=pure true) :
  PS X (.Assign [.Name y py] (.ListComp elt [⟨tg,iter,[c],0⟩] scope pos) pos2) (tS own (b_ o iy (dG n it t gc fe re) true)):=by
 intro pins s σ H D I h;subst hm;refine JZ S hcalm hi hg hc he hs hNn hiy hxy hfy hsw pins s σ H D I ?_;exact mZ ht (fun σ H Q h=>h) (I.len.trans hn) (xG ho h)
theorem rZ {κ:Type} [DecidableEq κ] {p:κ×V} {r:List (κ×V)} {k:κ} {v:V} (e:p.1=k) (h:k∉r.map (·.1)):putK (p::r) k v=(k,v)::r:=by
 unfold putK;rw [if_pos (by simp [e]),List.map_cons,if_pos e,e]
 congr 1
 have:∀q∈r,(fun kv:κ×V=>if kv.1=k then (kv.1,v) else kv) q=id q:=fun q hq=>by
  have:q.1≠k:=fun z=>h (List.mem_map.mpr ⟨q,hq,z⟩)
  simp [this]
 rw [List.map_congr_left this,List.map_id]
theorem sE {κ:Type} [DecidableEq κ] {p:κ×V} {r:List (κ×V)} {k:κ} {v:V} (e:¬p.1=k):putK (p::r) k v=p::putK r k v:=by
 unfold putK;rw [List.any_cons,decide_eq_false e,Bool.false_or];split
 ·rw [List.map_cons,if_neg e]
 ·rfl
theorem jC {κ:Type} [DecidableEq κ] {k:κ} {v:V}:∀{kvs:List (κ×V)},(kvs.map (·.1)).Nodup->((putK kvs k v).map (·.1)).Nodup:=fun {kvs} h=>by
 by_cases hk:rA kvs k=none
 ·exact WM v h hk
 ·unfold putK;rw [if_pos (by rw [mX];exact Option.isSome_iff_ne_none.mpr hk),List.map_map];have:(fun x:κ×V=>x.1) ∘ (fun kv:κ×V=>if kv.1=k then (kv.1,v) else kv)=fun x=>x.1:=by
   funext q
   simp only [Function.comp];split <;> rfl
  rw [this];exact h
theorem oZ {P:Addr->Prop} {H:Hp} {k:Key} {v:V} {d:D} (rv:Rep P H v d):∀{kvs:List (Key×V)} {ds:List (D×D)},j7 P H kvs ds->(kvs.map (·.1)).Nodup->j7 P H (putK kvs k v) (putD ds (kD k) d)
 | _,_,.nil,_=>.cons rv .nil
 | _,_,.cons (k:=k') (v:=v') (r:=rs) r t,hn=>by
  rw [List.map_cons] at hn;obtain ⟨h1,h2⟩:=List.nodup_cons.mp hn;rw [putD,JL];by_cases h:k'=k
  ·subst h;rw [if_pos (by simp),rZ rfl h1];exact .cons rv t
  ·rw [if_neg (by simpa using h),sE (p:=(k',v')) h];exact .cons r (oZ rv t h2)
theorem sG {P:Addr->Prop} {H:Hp} {k:List Key} {v:V} {d:D} (rv:Rep P H v d):∀{kvs:List (List Key×V)} {ds:List (D×D)},nH P H kvs ds->(kvs.map (·.1)).Nodup->nH P H (putK kvs k v) (putD ds (.tup (k.map kD)) d)
 | _,_,.nil,_=>.cons rv .nil
 | _,_,.cons (k:=k') (v:=v') (r:=rs) r t,hn=>by
  rw [List.map_cons] at hn;obtain ⟨h1,h2⟩:=List.nodup_cons.mp hn;rw [putD,WW];by_cases h:k'=k
  ·subst h;rw [if_pos (by simp),rZ rfl h1];exact .cons rv t
  ·rw [if_neg (by simpa using h),sE (p:=(k',v')) h];exact .cons r (sG rv t h2)
theorem j7.length {P:Addr->Prop} {H:Hp}:∀{kvs:List (Key×V)} {ds:List (D×D)},j7 P H kvs ds->kvs.length=ds.length
 | _,_,.nil=>rfl
 | _,_,.cons _ t=>by rw [List.length_cons,List.length_cons,j7.length t]
theorem nH.length {P:Addr->Prop} {H:Hp}:∀{kvs:List (List Key×V)} {ds:List (D×D)},nH P H kvs ds->kvs.length=ds.length
 | _,_,.nil=>rfl
 | _,_,.cons _ t=>by rw [List.length_cons,List.length_cons,nH.length t]
theorem sI {H:Hp} {a:Addr} {o ob:HO} (ha:H a=some ob) (hm:wR ob=true):O9 (fun _=>False) H (L2.upd H a o):=fun c oc hc h=>by
 rw [bO]
 ·exact hc
 ·intro z;subst z;rcases h with h|h
  ·exact h.elim
  ·rw [ha] at hc;cases hc;rw [hm] at h;cases h
theorem lH {d:D} {k:D} (hd:d.pure=true):∀{ds:List (D×D)},D.aV (ds.map (·.2))=true->D.aV ((putD ds k d).map (·.2))=true
 | [],_=>by simp [putD,D.aV,hd]
 | (q,w)::r,h=>by
  rw [List.map_cons,D.aV,Bool.and_eq_true] at h;rw [putD];split
  ·rw [List.map_cons,D.aV,Bool.and_eq_true];exact ⟨hd,h.2⟩
  ·rw [List.map_cons,D.aV,Bool.and_eq_true];exact ⟨h.1,lH hd h.2⟩
theorem aB3 {pins:List (Addr×Obj)} {s:Shared} {σ:L2.St} {H:Hp} {ad:Addr} {y v:V} {ds:List (D×D)} {k d:D} (I:Inv X pins σ H s) (rd:Rep All H (.ref ad) (.dct ds)) (hin:D.aV (ds.map (·.2))=true) (rk:Rep All H y k) (hk:qN ds k=true) (hl:ds.length<sizeLine) (rv:Rep All H v d) (hd:d.pure=true) :
  ∃H1 o,Inv X pins σ H1 s/\S9 H1 ad y v (L2.upd H ad o)/\wR o=true/\Rep All (L2.upd H ad o) (.ref ad) (.dct (putD ds k d)):=by
 unfold qN at hk;rw [Bool.and_eq_true] at hk;obtain ⟨h1,h2⟩:=hk;have rv':Rep (fun _=>False) H v d:=rv.bJ hd;cases rd with
 | @dK _ kvs ds e _ r n=>
  have hlen:=r.length;rcases jB h1 rk with ⟨q,rfl,rfl⟩|⟨b,ks,rfl,eb,rfl⟩
  ·refine ⟨H,.dK (putK kvs q v),I,.k e (by lia),rfl,.dK aP trivial ?_ (jC n)⟩;exact (oZ rv' (r.bJ hin) n).keep (sI e rfl) fun _ z=>z.elim
  ·cases r with
   | nil=>
    refine ⟨L2.upd H ad (.dT []),.dT (putK [] ks v),nP I e,?_,rfl,.dT aP trivial ?_ (jC List.nodup_nil)⟩
    ·have:=S9.t (H:=L2.upd H ad (.dT [])) (a:=ad) (b:=b) (kvs:=[]) (k:=ks) (v:=v) aP (by rw [bO (VG eb e (by intro z;cases z))];exact eb) hl;rwa [wD] at this
    ·exact (sG (k:=ks) rv' .nil List.nodup_nil).keep (sI e rfl) fun _ z=>z.elim
   | cons r t=>
    rw [List.all_cons,lG] at h2;simp [isTup] at h2
 | @dT _ kvs ds e _ r n=>
  have hlen:=r.length;rcases jB h1 rk with ⟨q,rfl,rfl⟩|⟨b,ks,rfl,eb,rfl⟩
  ·cases r with
   | nil=>
    refine ⟨L2.upd H ad (.dK []),.dK (putK [] q v),nQ I e,?_,rfl,.dK aP trivial ?_ (jC List.nodup_nil)⟩
    ·have:=S9.k (H:=L2.upd H ad (.dK [])) (a:=ad) (kvs:=[]) (k:=q) (v:=v) aP hl;rwa [wD] at this
    ·exact (oZ (k:=q) rv' .nil List.nodup_nil).keep (sI e rfl) fun _ z=>z.elim
   | cons r t=>
    rw [List.all_cons,lG] at h2;simp [isTup] at h2
  ·refine ⟨H,.dT (putK kvs ks v),I,.t e eb (by lia),rfl,.dT aP trivial ?_ (jC n)⟩;exact (sG rv' (r.bJ hin) n).keep (sI e rfl) fun _ z=>z.elim
theorem J1 {i:Nat} {x:Str} {p1:Pos} {value k:Expr} {fv fk:FE} {rv rk:Bool} (hu:X.A.units+20<cLine) (ho:own i=true) (hN:X.N[i]?=some x) (hvi:Vis X.env.scope x) (hk:PE X k (gE fk rk)) (hv:PE X value (gE fv rv))
  (hs:swapsWith value (some (.Subscript (.Name x p1) k pos')) pos.line X.env=pure false:=by rfl) (hd:nDb x:=by decide) (hcd:nCd x:=by decide) :
  PS X (.Assign [.Subscript (.Name x p1) k pos'] value pos) (tS own (QR i fk fv)):=by
 intro pins s σ H D' I ⟨ρ,fl,E,h,q⟩;obtain ⟨d,h0,h⟩:=aY h;obtain ⟨kd,h1,h2⟩:=aY h;split at h2
 ·rename_i kvs hx;split at h2
  ·rename_i hg;cases h2;simp only [Bool.and_eq_true] at hg;obtain ⟨⟨hg1,hg2⟩,hg3⟩:=hg;obtain ⟨a,o,hσ,r,hin,ha,hm⟩:=E.ownAt ho (by rw [hx];intro z;cases z);rw [hx] at r hin;refine wpAny_Assign_Subscript (thn (hv pins s σ H (fun v H1=>cD H H1/\Rep All H1 v d) I ⟨ρ,d,E.er,h0,fun v H1 s1 r1 _=>⟨s1,r1⟩⟩) fun rr s1 ⟨v,H1,I1,rv1,sm1,rp1⟩=>
    thn (eV hN hvi hd hcd pins s1 σ H1 (fun w H2=>w=.ref a/\H2=H1) I1 ⟨_,hσ,rfl,rfl⟩) fun u s2 ⟨xx,H2,I2,rx,ex,eH⟩=>
    thn (hk pins s2 σ H2 (fun w H3=>cD H2 H3/\Rep All H3 w kd) I2 ⟨ρ,kd,by rw [eH];exact E.er.same sm1,h1,fun v H1 s1 r1 _=>⟨s1,r1⟩⟩) fun iv s3 ⟨y,H3,I3,ry,sm3,rp3⟩=>?_) hs
   subst ex eH;obtain rfl:u=Value.ref a:=rx;have sm:=sm1.trans sm3;obtain ⟨H4,o4,I4,g,hmo,rp⟩:=aB3 I3 (r.same sm) hin rp3 hg2 (JD hg1) (rp1.same sm3) hg3;obtain ⟨E2,k2⟩:=(E.same sm).mut ho hσ hmo rp (lH hg3 hin);exact uK (by lia) I4 g ry rv1 fun s4 I5=>⟨σ,_,I5,q _ _ ((KU.same sm).trans k2) E2⟩
  ·cases h2
 ·cases h2
noncomputable def TgS (own:Nat->Bool) (g:TG) (t:D->List D->Res (List D)):Prop:=∀(v:V) (d:D) (ρ ρ':List D) (σ:L2.St) (H:Hp) (Q:L2.St->Hp->Prop),ES own H σ ρ->Rep (fun a=>¬Own own σ a) H v d->t d ρ=.ok ρ'->
 (∀σ',ES own H σ' ρ'->(∀a,Own own σ' a↔Own own σ a)->Q σ' H)->g v σ H Q
theorem gZ {i:Nat} (ho:own i=false):TgS own (o7 i) (tg1 i):=fun v d ρ ρ' σ H Q E r h q=>by
 cases h;exact q _ (E.set ho r) fun a=>mC ho a
theorem ES.sets {H:Hp}:∀{is:List Nat} {vs:List V} {ds:List D} {σ:L2.St} {ρ:List D},(∀i∈is,own i=false)->ES own H σ ρ->bK (fun a=>¬Own own σ a) H vs ds->ES own H (kO is vs σ) (wQ is ds ρ)/\∀a,Own own (kO is vs σ) a↔Own own σ a
 | [],_,_,_,_,_,E,_=>by simp only [kO,wQ];exact ⟨E,fun _=>trivial⟩
 | i::is,_,_,σ,ρ,h,E,.nil=>by simp only [kO,wQ];exact ⟨E,fun _=>trivial⟩
 | i::is,_,_,σ,ρ,h,E,.cons (v:=v) r t=>by
  have ho:=h i (List.mem_cons_self ..);have hO:(fun a=>¬Own own (σ.set i (some v)) a)=fun a=>¬Own own σ a:=funext fun a=>by rw [mC ho]
  obtain ⟨h1,h2⟩:=ES.sets (is:=is) (fun j hj=>h j (List.mem_cons_of_mem _ hj)) (E.set ho r) (by rw [hO];exact t);exact ⟨h1,fun a=>(h2 a).trans (mC ho a)⟩
theorem nR (K:PySem.W.Frag) {is:List Nat} (ho:∀i∈is,own i=false):TgS own (aDg K is.length (gIx is)) (tgN is):=fun v d ρ ρ' σ H Q E r h q=>by
 cases d <;> simp only [tgN] at h <;> (try (cases h;done))
 split at h
 ·rename_i hl;cases h;have hl':=of_decide_eq_true hl;obtain ⟨a,xs,rfl,e,rr⟩:=r.dY;obtain ⟨h1,h2⟩:=E.sets ho rr;exact ⟨a,xs,rfl,.of e,by rw [rr.length];exact hl',rW _ _ _ (by rw [rr.length];exact hl') (q _ h1 h2)⟩
 ·cases h
theorem ItQ.ku {K:PySem.W.Frag} {J:It} {items:List D} {σ σ':L2.St} {H H':Hp} {ρ:List D} (h:ItQ K (fun a=>¬Own own σ a) J H items) (k:KU own σ H σ' H') (E:ES own H σ ρ):ItQ K (fun a=>¬Own own σ' a) J H' items:=by
 cases h with
 | lst a e r=>exact .lst a e (k.rep E r)
 | tup a e r=>exact .tup a e (k.rep E r)
 | rng lo n e r=>exact .rng lo n e r
 | chs x e r=>exact .chs x e r
 | enm a ds e r h=>exact .enm a ds e (k.rep E r) h
 | enf m a ds e r h=>exact .enf m a ds e (k.rep E r) h
 | zip a b ds es e r q n h=>exact .zip a b ds es e (k.rep E r) (k.rep E q) n h
 | scr a hK e r=>exact .scr a hK e (k.rep E r)
theorem sJ {K:PySem.W.Frag} {g:TG} {t:D->List D->Res (List D)} {body:FS} {D':Ends} {J:It} {items:List D} {σ:L2.St} {H1:Hp} {ρ:List D} {fl:Fl} (tg:TgS own g t) (E:ES own H1 σ ρ) (hJ:ItQ K (fun a=>¬Own own σ a) J H1 items) (hf:lO t body items ρ=.ok fl) (q:kS own D' σ H1 fl) :
  ∃W:Nat->Nat->L2.St->Hp->Prop,(∃m,W 0 m σ H1)/\∀i m σ H,W i m σ H->
   (J.stop i H/\D'.nx σ H)\/(J.go i H/\∃N:L2.St->Hp->Prop,(∀σ' H',N σ' H'->∃m',m'<m/\W (i+1) m' σ' H')/\∀x H',J.yld i H x H'->g x σ H' fun σ2 H2=>tS own body {D' with nx:=N,ct:=N,bk:=D'.nx} σ2 H2):=by
 refine ⟨fun i m σ' H'=>m=items.length-i/\i<=items.length/\ItQ K (fun a=>¬Own own σ' a) J H' items/\∃ρ',ES own H' σ' ρ'/\lO t body (items.drop i) ρ'=.ok fl/\kS own D' σ' H' fl,⟨items.length,rfl,Nat.zero_le _,hJ,ρ,E,hf,q⟩,?_⟩;rintro i m σ' H' ⟨rfl,hi,hJ',ρ',E',hf',q'⟩;rcases Nat.lt_or_ge i items.length with hlt|hge
 ·refine .inr ?_;have e:items[i]?=some items[i]:=List.getElem?_eq_getElem hlt;obtain ⟨g1,g2⟩:=hJ'.go e;rw [List.drop_eq_getElem_cons hlt] at hf';obtain ⟨ρ1,h1,hf2⟩:=aY hf';obtain ⟨r,h2,hf3⟩:=aY hf2;refine ⟨g1,fun σ2 H2=>ItQ K (fun a=>¬Own own σ2 a) J H2 items/\∃ρ',ES own H2 σ2 ρ'/\lO t body (items.drop (i+1)) ρ'=.ok fl/\kS own D' σ2 H2 fl,fun σ2 H2 ⟨n1,n2⟩=>⟨items.length-(i+1),by lia,rfl,hlt,n1,n2⟩,fun x H2 hy=>?_⟩;obtain ⟨sH,rx⟩:=g2 x H2 hy;have ks:KU own σ' H' σ' H2:=fun a o e n=>⟨sH a o e,n⟩
  have hJ':=hJ'.ku ks E';have q':=q'.step ks;have E':=E'.same sH;refine tg x items[i] ρ' ρ1 σ' H2 _ E' rx h1 fun σ2 E2 hO=>?_
  have k0:KU own σ' H2 σ2 H2:=fun a o e n=>⟨e,by rw [hO];exact n⟩
  have hJ2:=hJ'.ku k0 E';have q2:=q'.step k0;refine ⟨ρ1,r,E2,h2,?_⟩;cases r with
  | nx ρ2=>exact fun σ3 H3 k3 E3=>⟨hJ2.ku k3 E2,ρ2,E3,hf3,q2.step k3⟩
  | ct ρ2=>exact fun σ3 H3 k3 E3=>⟨hJ2.ku k3 E2,ρ2,E3,hf3,q2.step k3⟩
  | bk ρ2=>cases hf3;exact fun σ3 H3 k3 E3=>q2 σ3 H3 k3 E3
  | rt d=>cases hf3;exact q2
 ·refine .inl ⟨hJ'.stop hge,?_⟩;rw [List.drop_eq_nil_of_le hge] at hf';cases hf';exact q' σ' H' (fun a o e n=>⟨e,n⟩) E'
theorem kW {tg iter:Expr} {body:List Stmt} {g:TG} {t:D->List D->Res (List D)} {it:FI} {fb:FS} (hp:PassesOwn (model X.prog X.w) X.A X.env X.xe) (hc:X.calm=true) (hi:PI X tg iter (gI X.K it)) (ht:TgS own g t) (hg:PG X tg g) (hb:PSs X body (tS own fb))
  (hs:∀x,foldedSetIterable iter X.env x=pure x:=by intro _;rfl):PS X (.For tg iter body [] pos) (tS own (t6 it t fb)):=PS.imp (G5 hp hc hi hg hb hs) fun D' σ H ⟨ρ,fl,E,h,q⟩=>by
 obtain ⟨⟨items,k⟩,h1,h2⟩:=aY h;split at h2
 ·rename_i hk;exact ⟨ρ,items,k,E.er,h1,fun J H1 s1 _ hJ=>sJ ht (E.same s1) ((hJ hk).keep (fun _ _ e _=>e) fun a ha ho=>by
   obtain ⟨o,e1,_⟩:=E.live ho;rw [show H a=none from ha] at e1;cases e1) h2 (q.step (.same s1))⟩
 ·cases h2
theorem pN {tg:Expr} {body:List Stmt} {g:TG} {t:D->List D->Res (List D)} {i:Nat} {x:Str} {px:Pos} {fb:FS} (ho:own i=false) (hp:PassesOwn (model X.prog X.w) X.A X.env X.xe) (hc:X.calm=true) (hN:X.N[i]?=some x) (hv:Vis X.env.scope x) (ht:TgS own g t) (hg:PG X tg g) (hb:PSs X body (tS own fb))
  (hs:∀z,foldedSetIterable (.Name x px) X.env z=pure z:=by intro _;rfl) (hd:nDb x:=by decide) (hcd:nCd x:=by decide):PS X (.For tg (.Name x px) body [] pos) (tS own (pG i t fb)):=PS.imp (G5 hp hc (aB1 hN hv hd hcd) hg hb hs) fun D' σ H ⟨ρ,fl,E,h,q⟩=>by
 obtain ⟨d,h1,h⟩:=aY h;obtain ⟨items,h2,h3⟩:=aY h;obtain ⟨v,hv,r,e⟩:=E.er.var h1;have hne:ρ.getD i .uD≠.uD:=fun z=>by
  rw [z] at e;subst e;exact Rep.uD r
 obtain ⟨w,hw,hr⟩:=E.at_ i hne;rw [hv] at hw;cases hw;have r2:=hr ho;rw [e] at r2;exact ⟨v,d,items,hv,r,h2,fun J hJ=>sJ ht E (hJ _ r2) h3 q⟩
theorem Q4 {own:Nat->Bool} {N ps:List Str} {vs:List V} {ds:List D} {H:Hp} (hst:start N vs=vs.map some++List.replicate (N.length-ps.length) none) (hl:ds.length=ps.length) (r:bK All H vs ds) (hown:∀i,i<ps.length->own i=false) (noown:∀a,¬Own own (start N vs) a):ES own H (start N vs) (ds++List.replicate (N.length-ps.length) .uD):=by
 refine ⟨by rw [hst];simp [r.length],fun i hi=>?_,fun i v hi hv=>?_⟩
 ·have hlt:i<ds.length:=Nat.lt_of_not_le fun hge=>hi (by
   rw [List.getD_eq_getElem?_getD,List.getElem?_append_right hge,List.getElem?_replicate];split <;> rfl)
  have e:(ds++List.replicate (N.length-ps.length) D.uD).getD i .uD=ds[i]:=by
   rw [List.getD_eq_getElem?_getD,List.getElem?_append_left hlt,List.getElem?_eq_getElem hlt];rfl
  obtain ⟨v,g1,g2⟩:=r.get (i:=i) (d:=ds[i]) (by simp [hlt]);refine ⟨v,by rw [hst,List.getElem?_append_left (by simp [r.length,hlt])];simp [g1],fun _=>?_⟩;rw [e];exact g2.mono fun a _=>noown a
 ·exfalso;rw [hst] at hv;by_cases h:i<ps.length
  ·rw [hown i h] at hi;cases hi
  ·rw [List.getElem?_append_right (by simp [r.length,hl];lia)] at hv;rw [List.getElem?_replicate] at hv;split at hv <;> cases hv
theorem W9 {own:Nat->Bool} {N ps:List Str} {f:FS} {vs:List V} {H:Hp} {Q:VK} {E:XK} (hx:own rtX=false) (hown:∀i,i<ps.length->own i=false) (h0:spD (fnS ps.length N.length f) ps.length vs H Q E):tS own f {nx:=fun _ H'=>Q .non H',rt:=Q} (start N vs) H:=by
 obtain ⟨ds,d,hl,r,h,q⟩:=h0
 ·obtain ⟨fl,h1,h2⟩:=aY h;have hst:start N vs=vs.map some++List.replicate (N.length-ps.length) none:=by
   show vs.map some++List.replicate (N.length-vs.length) none=_;rw [r.length,hl]
  have noown:∀a,¬Own own (start N vs) a:=fun a ⟨i,hi,e⟩=>by
   rw [hst] at e;by_cases h:i<ps.length
   ·rw [hown i h] at hi;cases hi
   ·rw [List.getElem?_append_right (by simp [r.length,hl];lia)] at e;rw [List.getElem?_replicate] at e;split at e <;> cases e
  have E0:ES own H (start N vs) (ds++List.replicate (N.length-ps.length) .uD):=Q4 hst hl r hown noown;refine ⟨_,fl,E0,h1,?_⟩;have sm:∀{σ':L2.St} {H':Hp},KU own (start N vs) H σ' H'->cD H H':=fun k a o e=>(k a o e (noown a)).1
  cases fl with
  | nx ρ'=>cases h2;exact fun σ' H' k E'=>q .non H' (sm k) .non fun _=>.non
  | rt d'=>
   cases h2;refine kRt.mk hx fun v H' hk rp=>q v H' (fun a o e=>hk a o e (noown a)) rp.all fun _=>rp.mono fun a ha=>?_
   rcases ha with ha|ha
   ·exact absurd ha (noown a)
   ·exact ha
  | bk ρ'=>cases h2
  | ct ρ'=>cases h2
theorem aB4 {P:Program} {w:World} {K:PySem.W.Frag} {mg:Str->Option Value} {base:Heap} {x qual:Str} {st:Stmt} {fad:Addr} {fd:FuncData} {N ps:List Str} {k:Nat} {f:FS} (F:Fun K x qual st fad fd) (S:bV N ps (aL st)) (own:Nat->Bool) (hown:∀i,i<ps.length->own i=false) (hNl:ps.length<=N.length)
  (hbody:∀(cdv:Value) (A:Around) (outer:List Env) (s:Shared) (H:Hp) (E:XK),mQ k (A.deeper (envOfC qual (aL st) s.heap.objs.size fad cdv))->PSs (FQ CX0 P w K mg base N qual (aL st) fad cdv A outer s H E).nox (eG st) (tS own f)) (hx:own rtX=false:=by rfl):v9 P w K mg base CX0 (k+1) fad fd ps (spD (fnS ps.length N.length f) ps.length):=
 F.ok S (fun vs H Q E h=>W4 h) fun cdv A outer s H vs Q E hr h=>⟨_,hbody cdv A outer s H E hr,W9 hx hown h⟩
end
end Mi
end
section
namespace Mi
open PySem L2 PySem.SeqAt PySem.Spec PyProof.Rows
variable [KFrag]
structure aE2 where
 s₀:Shared
 H₀:Hp
 env:Env
 outer:List Env
 stack:List Env
 ex:List Addr
 fn:Str->Bool
 pn:List (Addr×Obj)
noncomputable abbrev mkC (X:Cx) (scope:Scope) (ownN:List Str) (y:aE2):Cx:=
 {X with N:=X.N.map (gG ownN)++ownN,s₀:=y.s₀,H₀:=y.H₀,env:={y.env with scope:=relabel scope X.env},outer:=y.outer,stack:=y.stack,ex:=y.ex,fn:=y.fn,pn:=y.pn,xe:=fun _ _=>False}
theorem lU {X X':Cx} {scope:Scope} {ownN:List Str} (cc:cH X X' scope ownN):∃y,X'=mkC X scope ownN y:=by
 refine ⟨⟨X'.s₀,X'.H₀,X'.env,X'.outer,X'.stack,X'.ex,X'.fn,X'.pn⟩,?_⟩;obtain ⟨h1,h2,h3,h4,h5,h6,h7,h8,h9,h10⟩:=cc;cases X' with
 | mk a b c d e f g h i j k l m n o p q=>
  cases j;dsimp only at *;subst h1 h2 h3 h4 h5 h6 h7 h8 h9 h10;rfl
section
variable {own:Nat->Bool} {X:Cx} {scope:Scope} {ownN:List Str} {elt iter tg c:Expr} {it:FI} {t:D->Res (List D)} {g:TG} {gc:FT} {fe:FE} {re:Bool} {pos:Pos} {n m:Nat}
theorem sO (S:cM X.N X.env.scope scope ownN) (hn:X.N.length=n) (hm:ownN.length=m) (hcalm:X.calm=true) (hi:PI X tg iter (gI X.K it)) (ht:TgC g t n m) (hg:∀y,PG (mkC X scope ownN y) tg g) (he:∀y,PE (mkC X scope ownN y) elt (gE fe re))
  (hs:∀x,foldedSetIterable iter X.env x=pure x):PE X (.ListComp elt [⟨tg,iter,[],0⟩] scope pos) (gE (dG n it t fX fe re) true):=
 W6 S hn hm hcalm hi ht (fun X' cc=>by obtain ⟨y,rfl⟩:=lU cc;exact hg y) (fun X' cc=>by obtain ⟨y,rfl⟩:=lU cc;exact he y) hs
theorem CV (S:cM X.N X.env.scope scope ownN) (hn:X.N.length=n) (hm:ownN.length=m) (hcalm:X.calm=true) (hi:PI X tg iter (gI X.K it)) (ht:TgC g t n m) (hg:∀y,PG (mkC X scope ownN y) tg g) (hc:∀y,PT (mkC X scope ownN y) c (gT gc)) (he:∀y,PE (mkC X scope ownN y) elt (gE fe re))
  (hs:∀x,foldedSetIterable iter X.env x=pure x):PE X (.ListComp elt [⟨tg,iter,[c],0⟩] scope pos) (gE (dG n it t gc fe re) true):=
 JW S hn hm hcalm hi ht (fun X' cc=>by obtain ⟨y,rfl⟩:=lU cc;exact hg y) (fun X' cc=>by obtain ⟨y,rfl⟩:=lU cc;exact hc y) (fun X' cc=>by obtain ⟨y,rfl⟩:=lU cc;exact he y) hs
theorem iH {y:Str} {py pos2:Pos} {iy:Nat} {o:Bool} (S:cM X.N X.env.scope scope ownN) (hn:X.N.length=n) (hm:ownN.length=m) (hcalm:X.calm=true) (hi:PI X tg iter (gI X.K it)) (ht:TgC g t n m) (hg:∀y,PG (mkC X scope ownN y) tg g) (he:∀y,PE (mkC X scope ownN y) elt (gE fe re))
  (hs:∀x,foldedSetIterable iter X.env x=pure x) (ho:own iy=o) (hNn:X.N.Nodup) (hiy:X.N[iy]?=some y) (hxy:Loc X.env.scope y) (hfy:X.fn y=true\/X.env.scope.names.lookup y=some .local) (hsw:swapsWith (.ListComp elt [⟨tg,iter,[],0⟩] scope pos) (some (.Name y py)) pos2.line X.env=pure true) :
  PS X (.Assign [.Name y py] (.ListComp elt [⟨tg,iter,[],0⟩] scope pos) pos2) (tS own (b_ o iy (dG n it t fX fe re) true)):=
 W8 S hn hm hcalm hi ht (fun X' cc=>by obtain ⟨y,rfl⟩:=lU cc;exact hg y) (fun X' cc=>by obtain ⟨y,rfl⟩:=lU cc;exact he y) hs ho hNn hiy hxy hfy hsw
theorem CW {y:Str} {py pos2:Pos} {iy:Nat} {o:Bool} (S:cM X.N X.env.scope scope ownN) (hn:X.N.length=n) (hm:ownN.length=m) (hcalm:X.calm=true) (hi:PI X tg iter (gI X.K it)) (ht:TgC g t n m) (hg:∀y,PG (mkC X scope ownN y) tg g) (hc:∀y,PT (mkC X scope ownN y) c (gT gc)) (he:∀y,PE (mkC X scope ownN y) elt (gE fe re))
  (hs:∀x,foldedSetIterable iter X.env x=pure x) (ho:own iy=o) (hNn:X.N.Nodup) (hiy:X.N[iy]?=some y) (hxy:Loc X.env.scope y) (hfy:X.fn y=true\/X.env.scope.names.lookup y=some .local) (hsw:swapsWith (.ListComp elt [⟨tg,iter,[c],0⟩] scope pos) (some (.Name y py)) pos2.line X.env=pure true) :
  PS X (.Assign [.Name y py] (.ListComp elt [⟨tg,iter,[c],0⟩] scope pos) pos2) (tS own (b_ o iy (dG n it t gc fe re) true)):=
 J0 S hn hm hcalm hi ht (fun X' cc=>by obtain ⟨y,rfl⟩:=lU cc;exact hg y) (fun X' cc=>by obtain ⟨y,rfl⟩:=lU cc;exact hc y) (fun X' cc=>by obtain ⟨y,rfl⟩:=lU cc;exact he y) hs ho hNn hiy hxy hfy hsw
end
def pO:FS:=fun _=>.bad
theorem kY {X:Cx} {own:Nat->Bool} {st:Stmt}:PS X st (tS own pO):=fun pins s σ H D I h=>by
 obtain ⟨_,_,_,h,_⟩:=h;cases h
theorem W_ {X:Cx} {own:Nat->Bool} {st:List Stmt}:PSs X st (tS own pO):=fun pins s σ H D I h=>by
 obtain ⟨_,_,_,h,_⟩:=h;cases h
noncomputable def jD (P:Program) (w:World) (K:PySem.W.Frag) (mg:Str->Option Value) (base:Heap) (k:Nat) (x:Str) (n:Nat) (f:List D->Res D):Prop:=
 ∃(fad:Addr) (fd:FuncData) (ps:List Str),v9 P w K mg base CX0 k fad fd ps (spD f n)/\mg x=some (.ref fad)/\PySem.W.keepIn K (.ref fad)=true/\Binds K fd ps []
section
variable {X:Cx} {e:Expr} {es:List Expr} {pos p:Pos} {fs:FA} {rr:Bool} {x:Str} {k n:Nat} {f:List D->Res D}
theorem cY {k':Nat} (C:jD X.prog X.w X.K X.mg X.base k x n f) (hr:mQ k' X.A) (hkk:k<=k') (hg:Gl X x) (ha:PA X (e::es) (gA fs rr)) (hdb:nDb x:=by decide) (he:starEach (e::es) X.env=(false,eval e X.env)::starEach es X.env:=by rfl) (hpl:(backTo pos (starEach es X.env)).any (·.1)=false:=by rfl) :
  PE X (.Call (.Name x p) (e::es) [] pos) (gE (bA (kE n f) fs) true):=by
 obtain ⟨fad,fd,ps,F,hm,hk,hb⟩:=C;exact W5 F (hr.mono hkk) hg hm hk hb ha hdb he hpl
theorem lV {P:Program} {w:World} {K:PySem.W.Frag} {mg:Str->Option Value} {base:Heap} {st:Stmt} {fad:Addr} {fd:FuncData} {N ps:List Str} {fs:FS} (F:Fun K x x st fad fd) (hm:mg x=some (.ref fad)) (hb:Binds K fd ps []) (S:bV N ps (aL st)) (own:Nat->Bool) (hown:∀i,i<ps.length->own i=false) (hNl:ps.length<=N.length)
  (hbody:∀(cdv:Value) (A:Around) (outer:List Env) (s:Shared) (H:Hp) (E:XK),mQ k (A.deeper (envOfC x (aL st) s.heap.objs.size fad cdv))->PSs (FQ CX0 P w K mg base N x (aL st) fad cdv A outer s H E).nox (eG st) (tS own fs)) (hx:own rtX=false:=by rfl):jD P w K mg base (k+1) x ps.length (fnS ps.length N.length fs):=
 ⟨fad,fd,ps,aB4 F S own hown hNl hbody hx,hm,F.kp,hb⟩
end
theorem uV {A:Around} {k:Nat} (hr:mQ k A):A.units+20<cLine:=Nat.lt_of_le_of_lt (Nat.add_le_add_left (by decide:20<=64) _) hr.units
structure Bt (mg:Str->Option Value):Prop where
 len:mg "len" = none
 min:mg "min" = none
 max:mg "max" = none
 list:mg "list" = none
 tuple:mg "tuple" = none
 sorted:mg "sorted" = none
 range:mg "range" = none
 isi:mg "isinstance" = none
 int:mg "int" = none
 bool:mg "bool" = none
 str:mg "str" = none
 dict:mg "dict" = none
 all:mg "all" = none
 enum:mg "enumerate" = none
 sum:mg "sum" = none
 zip:mg "zip" = none
 abs:mg "abs" = none
 reversed:mg "reversed" = none
theorem e_:bootBuiltins "len" = some (.builtin "len"):=by decide +kernel
theorem aB5:bootBuiltins "max" = some (.builtin "max"):=by decide +kernel
theorem jN:bootBuiltins "isinstance" = some (.builtin "isinstance"):=by decide +kernel
theorem XC:bootBuiltins "list" = some (.type "list"):=by decide +kernel
theorem fK:bootBuiltins "tuple" = some (.type "tuple"):=by decide +kernel
theorem T6:bootBuiltins "str" = some (.type "str"):=by decide +kernel
theorem XD:bootBuiltins "dict" = some (.type "dict"):=by decide +kernel
theorem ints_rep {P:Addr->Prop} {H:Hp}:∀ns:List Int,bK P H (ns.map V.int) (ns.map D.int)
 | []=>.nil
 | n::ns=>.cons (.int n) (ints_rep ns)
end Mi
namespace Mi
open PySem L2
theorem J2 {K:PySem.W.Frag} {f:List D->Res D} {H:Hp} {a:Addr} {ns:List Int} {E:XK} (main:∀ns:List Int,ns.length<=63->f [.scr (ns.map D.int)]=.ok (.bl true)) (hl:ns.length<=63) (hO:Only H) (hS:SqL K H a (ns.map V.int)):@spD ⟨K⟩ f 1 [.ref a] H (fun v _=>v=.bl true) E:=by
 letI:KFrag:=⟨K⟩
 refine ⟨[.scr (ns.map D.int)],.bl true,rfl,.cons (.frz ?_ (ints_rep ns)) .nil,main ns hl,fun v H' s r n=>by cases r;rfl⟩;rcases hS with (h|⟨o,h⟩)|h
 ·rcases hO a with z|⟨o,xs,z⟩
  ·rw [h] at z;cases z
  ·rw [h] at z;cases z
 ·exact .inl ⟨o,h⟩
 ·exact .inr h
end Mi
end
section
namespace Mi
open PySem L2 PySem.SeqAt PySem.Spec PyProof.Rows
noncomputable def rF:D->D->Res D
 | .str x,.int n=>if decide (0<=n)&&decide (n<=100000)&&decide (x.length*n.toNat<=lim) then .ok (.str (Txt.mul x n)) else .bad
 | a,b=>aR .mul a b
noncomputable def inX:D->D->Res D
 | .str c,.str x=>.ok (.bl (!(Builtin.Str.occurrences x c 0 x.length 1).isEmpty))
 | a,b=>cO .isin a b
noncomputable def aB6:D->Option Int->Option Int->Res D
 | .str x,lo,hi=>if decide (x.length<=lim) then .ok (.str (Txt.slice x lo hi)) else .bad
 | d,lo,hi=>aD6 d lo hi
noncomputable def lW (a:FE) (lo hi:List D->Res (Option Int)):FE:=fun ρ=>do let x <- a ρ;let l <- lo ρ;let h <- hi ρ;aB6 x l h
noncomputable def uW:D->Res (List D)
 | .str x=>if decide (x.length<=lim) then .ok (uT x) else .bad
 | d=>pC d
noncomputable def cC (a:FE) (fr:Bool):FI:=fun ρ=>do let x <- a ρ;let xs <- uW x;pure (xs,fr||x.pure)
noncomputable def pP:List D->Option (List Str)
 | []=>some []
 | .str x::r=>(pP r).map (x::·)
 | _::_=>none
noncomputable def joinM:D->List D->Res D
 | .str sep,[.lst ds]=>match pP ds with
  | some ts=>if JoinOk sep ts then .ok (.str (Txt.join sep ts)) else .bad
  | none=>.bad
 | _,_=>.bad
noncomputable def pQ:List D->Option (List Bool)
 | []=>some []
 | .bl x::r=>(pQ r).map (x::·)
 | _::_=>none
noncomputable def aE3:List D->Res D
 | [.lst ds]=>match pQ ds with
  | some bs=>.ok (.bl (bs.all id))
  | none=>.bad
 | _=>.bad
variable [KFrag]
section
variable {X:Cx}
theorem mD:OpR X (binaryOp .Mult) (r2 rF true):=by
 intro pins s σ H x y v u Q I rx ry ⟨a,b,d,p,q,e,k⟩;by_cases hs:∃z n,a=.str z/\b=.int n
 ·obtain ⟨z,n,rfl,rfl⟩:=hs;simp only [rF] at e;split at e
  ·rename_i hl;cases e;simp only [Bool.and_eq_true,decide_eq_true_eq] at hl;obtain ⟨⟨h0,h1⟩,h2⟩:=hl;cases p;cases q;obtain ⟨t,rfl⟩:=rx;obtain ⟨t',rfl⟩:=ry;have hz:z.length*n.toNat<=sizeLine:=Nat.le_trans h2 (by rw [sizeLine_eq];decide);refine SB.mul ⟨?_,fun h3 _=>?_,fun _ _=>?_⟩ fun t2 k2=>⟨.str _,H,I.tok k2,⟨t2,rfl⟩,k.str⟩
   ·rw [decide_eq_false (by lia),decide_eq_false (by lia)];rfl
   ·have hn:0<n:=by lia
    have h4:(z.length:Int)*n<=2 ^ 63-1:=by
     have h5:((z.length*n.toNat:Nat):Int)<=1000000:=by
      have:lim=1000000:=by unfold lim;exact Eq.refl _
      lia
     rw [Int.natCast_mul,Int.toNat_of_nonneg h0] at h5;lia
    have h6:=(Int.le_ediv_iff_mul_le hn).mpr h4;lia
   ·unfold Builtin.Str.tooLong;exact decide_eq_false (by lia)
  ·cases e
 ·have he:rF a b=aR .mul a b:=by
   unfold rF;split
   ·exact absurd ⟨_,_,rfl,rfl⟩ hs
   ·rfl
  rw [he] at e;exact aAv pins s σ H x y v u Q I rx ry ⟨a,b,d,p,q,e,k⟩
theorem uX (hu:X.A.units+20<cLine):OpR X (compareOp .In) (r2 inX true):=by
 intro pins s σ H x y v u Q I rx ry ⟨a,b,d,p,q,e,k⟩;by_cases hs:∃z n,a=.str z/\b=.str n
 ·obtain ⟨z,n,rfl,rfl⟩:=hs;cases e;cases p;cases q;exact G6 pins s σ H _ _ v u Q I rx ry ⟨_,_,rfl,rfl,k.bl⟩
 ·have he:inX a b=cO .isin a b:=by
   unfold inX;split
   ·exact absurd ⟨_,_,rfl,rfl⟩ hs
   ·rfl
  rw [he] at e;exact aAw hu pins s σ H x y v u Q I rx ry ⟨a,b,d,p,q,e,k⟩
theorem part_of {v:Value} {o:Option Int} (h:IsPart v o):∃l:Option (Int×Tok),partValue l=v/\l.map (·.1)=o:=by
 cases h with
 | none=>exact ⟨none,rfl,rfl⟩
 | int i t=>exact ⟨some (i,t),rfl,rfl⟩
theorem aB7 (hK:KFrag.K=X.K):SlR X (fun x lo hi H Q=>∃a d,Rep All H x a/\aB6 a lo hi=.ok d/\kR H d true Q):=by
 intro pins s σ H x v vl vu lo hi sl Q I rx hs pl pu ⟨a,d,p,e,k⟩;by_cases hz:∃z,a=.str z
 ·obtain ⟨z,rfl⟩:=hz;simp only [aB6] at e;split at e
  ·rename_i hl;cases e;cases p;obtain ⟨t,rfl⟩:=rx;obtain ⟨l,e1,e2⟩:=part_of pl;obtain ⟨m,e3,e4⟩:=part_of pu;subst e1 e2 e3 e4;refine ⟨"str",_,F.slot_str_getitem.lookup,typeIs_str _ _ _,?_⟩;obtain ⟨o,ho,hc,hd⟩:=hs;refine wpAny_getItem_str_slice (l:=l) (u:=m) (st:=none) ⟨o,ho,hc,hd⟩ rfl ?_;have hle:(Txt.slice z (l.map (·.1)) (m.map (·.1))).length<=sizeLine:=Nat.le_trans (Txt.slice_le ..) (jM hl);have q:∀(t':Tok) (k2:Nat),EP X pins σ Q (.str (Txt.slice z (l.map (·.1)) (m.map (·.1))) t') {s with toks:=k2}:=fun t' k2=>⟨.str _,H,I.tok k2,⟨t',rfl⟩,k.str⟩
   show Made.post (if ((1:Int)==1&&(Builtin.Str.strSliceIndices (l.map (·.1)) (m.map (·.1)) 1 z.length).length==z.length)=true then .val (.str z t) else .str ⟨((Builtin.Str.strSliceIndices (l.map (·.1)) (m.map (·.1)) 1 z.length).filterMap (z.cps[·]?)).toArray⟩) _ s;unfold Txt.slice at hle q;split
   ·rename_i hh;have:=q t s.toks;rw [if_pos hh] at this;exact this
   ·rename_i hh;rw [if_neg hh] at hle;have:=q s.toks (s.toks+1);rw [if_neg hh] at this;exact ⟨hle,this⟩
  ·cases e
 ·have he:aB6 a lo hi=aD6 a lo hi:=by
   unfold aB6;split
   ·exact absurd ⟨_,rfl⟩ hz
   ·rfl
  rw [he] at e;exact aDy hK pins s σ H x v vl vu lo hi sl Q I rx hs pl pu ⟨a,d,p,e,k⟩
theorem jZ {e:Expr} {fe:FE} {re:Bool} {pos:Pos} {lo hi:Option Expr} {p2:Pos} {fl fh:List D->Res (Option Int)} (hK:KFrag.K=X.K) (he:PE X e (gE fe re)) (hl:PO X lo (gO fl)) (hh:PO X hi (gO fh)):PE X (.Subscript e (.Slice lo hi none p2) pos) (gE (lW fe fl fh) true):=
 PE.imp (PX (aB7 hK) he hl hh) fun σ H Q ⟨ρ,d,E,h,q⟩=>by
  obtain ⟨x,h1,h⟩:=aY h;obtain ⟨l,h2,h⟩:=aY h;obtain ⟨u,h3,h⟩:=aY h;exact ⟨ρ,x,E,h1,fun v H1 s1 r1 _=>⟨ρ,l,E.same s1,h2,fun H2 s2=>⟨ρ,u,E.same (s1.trans s2),h3,fun H3 s3=>⟨x,d,r1.same (s2.trans s3),h,q.imp ((s1.trans s2).trans s3) id⟩⟩⟩⟩
theorem zH {P:Addr->Prop} {H:Hp}:∀{xs:List V} {ds:List D} {its:List Value} {ts:List Str},bK P H xs ds->Vals xs its->pP ds=some ts->∃l:List (Str×Tok),its=strValues l/\l.map (·.1)=ts
 | [],[],[],_,_,_,h=>by cases h;exact ⟨[],rfl,rfl⟩
 | _,_,_,_,.cons (d:=d) r t,.cons rv tv,h=>by
  cases d with
  | str z=>
   obtain ⟨ts,h1,h2⟩:=Option.map_eq_some_iff.mp h;cases r;obtain ⟨tk,rfl⟩:=rv;obtain ⟨l,e1,e2⟩:=zH t tv h1;refine ⟨(z,tk)::l,?_,?_⟩
   ·rw [e1];rfl
   ·rw [<-h2,<-e2];rfl
  | _=>simp only [pP] at h;cases h
theorem XF:MtR X "str.join" (rm joinM true):=by
 intro pins s σ H x xs v us Q I rv vr ⟨a,ds,d,ra,rs,h,k⟩;unfold joinM at h;split at h
 ·split at h
  ·rename_i ts hts;split at h
   ·rename_i hok;cases h;obtain ⟨vv,uu,rfl,rfl,r,rk⟩:=lR rs vr;obtain ⟨l,ys,rfl,hl,rr⟩:=r.gH (K:=X.K);cases rk;cases ra;obtain ⟨t,rfl⟩:=rv;obtain ⟨its,vr',pl⟩:=jA I hl;obtain ⟨l2,e1,e2⟩:=zH rr vr' hts;subst e1;exact SC.join pl e2 hok fun t' k2=>⟨.str _,H,I.tok k2,⟨t',rfl⟩,k.str⟩
   ·cases h
  ·cases h
 ·cases h
theorem Q5 {d:D} {ds:List D} {r:D} {v:V} {H:Hp} (h:joinM d ds=.ok r) (rp:Rep All H v d):tyV X.K "str" v H:=by
 have:∃z,d=.str z:=by
  unfold joinM at h;split at h
  ·exact ⟨_,rfl⟩
  ·cases h
 obtain ⟨z,rfl⟩:=this;cases rp;rfl
theorem zJ {P:Addr->Prop} {H:Hp}:∀{xs:List V} {ds:List D} {its:List Value} {bs:List Bool},bK P H xs ds->Vals xs its->pQ ds=some bs->its=bs.map Value.bool
 | [],[],[],_,_,_,h=>by cases h;rfl
 | _,_,_,_,.cons (d:=d) r t,.cons rv tv,h=>by
  cases d <;> simp only [pQ] at h <;> (try (cases h;done))
  obtain ⟨ts,h1,h2⟩:=Option.map_eq_some_iff.mp h;cases r;cases rv;rw [zJ t tv h1,<-h2];rfl
theorem aB8 (hc:X.calm=true):mO X (.builtin "all") (rs aE3 true):=by
 intro pins s σ H xs us Q I vr ⟨ds,d,r,e,k⟩;unfold aE3 at e;split at e
 ·split at e
  ·rename_i bs hbs;cases e;obtain ⟨vv,uu,rfl,rfl,r,v⟩:=lR r vr;obtain ⟨l,ys,rfl,hl,rr⟩:=r.gH (K:=X.K);cases v;obtain ⟨its,vr',pl⟩:=jA I hl;have hb:=zJ rr vr' hbs;subst hb;have hlt:l<s.heap.objs.size:=by obtain ⟨_,e,_⟩:=pl;exact Heap.lt_size e
   refine call_all_walk (wpAny_pyIter_list pl ?_);refine ⟨_,_,_,_,_,_,fun i=>bs.getD i true,rfl,Walks.list (A:=X.A.in1) (I.ok.hd hc) _ l (Nat.ne_of_lt hlt) _,⟨⟨_,Heap.get?_push_size _ rfl,rfl,rfl⟩,pl.push _⟩,fun i v s' Q' E' hP hQ=>?_,fun h' tk hk=>?_⟩
   ·have hv:(bs.map Value.bool)[i]?=some v:=by simpa using hP
    rw [List.getElem?_map] at hv;cases hb:bs[i]? with
    | none=>rw [hb] at hv;cases hv
    | some b=>
     rw [hb] at hv;cases hv;have hQ:Q' (bs.getD i true) s':=hQ;rw [List.getD_eq_getElem?_getD,hb] at hQ;exact wpAny_truthy_bool hQ
   ·have e:(List.range (bs.map Value.bool).toArray.size).all (fun i=>bs.getD i true)=bs.all id:=by
     rw [List.size_toArray,List.length_map];have:bs=(List.range bs.length).map fun i=>bs.getD i true:=by
      apply List.ext_getElem
      ·simp
      ·intro i h1 h2;simp [h1]
     conv=>rhs;rw [this]
     rw [List.all_map];rfl
    rw [e];refine ⟨.bl _,H,I.kept fun b o e=>hk b o (fun hb=>?_) (Heap.get?_push_of_some _ e),rfl,k.bl⟩;rcases List.mem_cons.mp hb with rfl|hb
    ·exact absurd (Heap.lt_size e) (Nat.lt_irrefl _)
    ·cases hb
  ·cases e
 ·cases e
theorem Q6 {P:Program} {w:World} {K:PySem.W.Frag} {tg:Expr} (x:Str) (t:Tok) (it:Addr):Turn P w K tg (aE1 x) [it] it (fun i h=>h.IsStrIter it (strIterType x) x t i) where
 mem:=by simp
 obj:=fun i h st b hb=>by
  have e:b=it:=by simpa using hb
  subst e;obtain ⟨o,e,c,d⟩:=st;exact ⟨o,e,fun v z=>by rw [d] at z;cases z⟩
 keep:=fun i h h' st k=>by
  obtain ⟨o,e,r⟩:=st;exact ⟨o,k it (by simp) o e,r⟩
 item:=by
  intro Y hP hw hK hc i pins s σ H E I hf st hg;subst hP hw hK;obtain ⟨f0,f1,f2,f3,f4,f5⟩:=hf it (by simp);have hx:x.cps[i]?=some x.cps[i]:=Array.getElem?_eq_getElem hg;have fin:∀(h':Heap) (ty:String),(["enumerate", "zip", "dict_itemiterator", "dict_reverseitemiterator", "odict_iterator", "itertools.zip_longest", "itertools.pairwise"].contains ty=false)->strIterType x=ty->h'.IsStrIter it ty x t (i+1)->Heap.SameBut it s.heap h'->
    ∃u,some (Value.str ⟨#[x.cps[i]]⟩ s.toks)=some u/\wpAny (model Y.prog Y.w) Y.A (letOwnedTupleGo tg (.ref it) u) (fun _ s2=>∃v H',Inv Y pins σ H' s2/\RelV v u/\(aE1 x).yld i H v H'/\s2.heap.IsStrIter it (strIterType x) x t (i+1)/\∀b∈[it],H' b=none) E {s with heap:=h',toks:=s.toks+1}:=by
   intro h' ty hn hty st' sb;have I1:Inv Y pins σ H {s with heap:=h',toks:=s.toks+1}:=I.turned (fun b o hb e=>(sb.2 b hb).trans e) f0 f1 f3 f4 f5;obtain ⟨o,e,c,d⟩:=id st';exact ⟨_,rfl,PL (s:={s with heap:=h',toks:=s.toks+1}) e c d hn ⟨.str ⟨#[x.cps[i]]⟩,H,I1,⟨_,rfl⟩,⟨rfl,_,hx,rfl⟩,by rw [hty];exact st',fun b hb=>(hf b hb).1⟩⟩
  cases ha:x.cps.all (·<128)
  ·have hty:strIterType x = "str_iterator":=by simp [strIterType,ha]
   rw [hty] at st;exact wpAny_pyNext_wide_item st hx fun h' st' sb=>fin h' _ (by decide) hty st' sb
  ·have hty:strIterType x = "str_ascii_iterator":=by simp [strIterType,ha]
   rw [hty] at st;exact wpAny_pyNext_ascii_item st hx fun h' st' sb=>fin h' _ (by decide) hty st' sb
 done:=by
  intro Y hP hw hK hc i pins s σ H E I hf st hg;subst hP hw hK;obtain ⟨f0,f1,f2,f3,f4,f5⟩:=hf it (by simp);have hx:x.cps[i]?=none:=Array.getElem?_eq_none hg;cases ha:x.cps.all (·<128)
  ·have hty:strIterType x = "str_iterator":=by simp [strIterType,ha]
   rw [hty] at st;exact wpAny_pyNext_wide_end (I.ok.hd hc) st hx fun h' eb=>⟨rfl,I.turned (t':=s.toks) (fun b o hb e=>eb b o hb e) f0 f1 f3 f4 f5⟩
  ·have hty:strIterType x = "str_ascii_iterator":=by simp [strIterType,ha]
   rw [hty] at st;exact wpAny_pyNext_ascii_end (I.ok.hd hc) st hx fun h' eb=>⟨rfl,I.turned (t':=s.toks) (fun b o hb e=>eb b o hb e) f0 f1 f3 f4 f5⟩
 self:=fun _ _ _ _ _ st h=>by
  cases ha:x.cps.all (·<128)
  ·have hty:strIterType x = "str_iterator":=by simp [strIterType,ha]
   rw [hty] at st;exact wpAny_pyIter_striter_wide st h
  ·have hty:strIterType x = "str_ascii_iterator":=by simp [strIterType,ha]
   rw [hty] at st;exact wpAny_pyIter_striter_ascii st h
section
variable {tg l a:Expr} {fl fa:FE} {rl ra:Bool} {p pos:Pos}
theorem J3 {pins:List (Addr×Obj)} {s1:Shared} {σ:L2.St} {H1:Hp} {R:It->Hp->Prop} {v:V} {u:Value} {d:D} {items:List D} (I1:Inv X pins σ H1 s1) (r:Rep All H1 v d) (ru:RelV v u) (hi:uW d=.ok items)
  (q:∀J,(∀P:Addr->Prop,Rep P H1 v d->ItQ X.K P J H1 items)->R J H1):wpAny (model X.prog X.w) X.A (pyIter u) (PIE X pins σ tg R) X.xe s1:=by
 by_cases hz:∃z,d=.str z
 ·obtain ⟨z,rfl⟩:=hz;simp only [uW] at hi;split at hi
  ·cases hi;cases r;obtain ⟨t,rfl⟩:=ru;refine wpAny_pyIter_strU ?_;refine ⟨s1.heap.objs.size,[s1.heap.objs.size],_,_,H1,rfl,I1.kept (t':=s1.toks) fun b o e=>Heap.get?_push_of_some _ e,Q6 z t _,⟨_,Heap.get?_push_size _ rfl,rfl,rfl⟩,fun b hb=>?_,q _ fun P r=>.chs z rfl rfl⟩;have e:b=s1.heap.objs.size:=by simpa using hb
   subst e;exact I1.aA1 (Nat.le_refl _) (I1.hok.fresh (Nat.le_refl _))
  ·cases hi
 ·have he:uW d=pC d:=by
   unfold uW;split
   ·exact absurd ⟨_,rfl⟩ hz
   ·rfl
  rw [he] at hi;exact zB I1 r ru hi q
theorem dZ (hl:PE X l (gE fl rl)):PI X tg l (gI X.K (cC fl rl)):=by
 intro pins s σ H R I ⟨ρ,items,k,E,h,q⟩;obtain ⟨d,h1,h⟩:=aY h;obtain ⟨its,h2,h⟩:=aY h;cases h;refine thn (hl pins s σ H _ I ⟨ρ,d,E,h1,fun v H1 s1 r1 n1=>(show (∃d',Rep All H1 v d/\d'=d/\∀J,(∀P:Addr->Prop,Rep P H1 v d->ItQ X.K P J H1 items)->R J H1) from ⟨d,r1,rfl,fun J hJ=>q J H1 s1 (hJ _ r1) fun hk=>hJ _ ?_⟩)⟩) fun u s1 ⟨v,H1,I1,ru,d',r1,e,q1⟩=>J3 I1 r1 ru h2 q1
 rw [Bool.or_eq_true] at hk;rcases hk with hk|hk
 ·exact n1 hk
 ·exact r1.bJ hk
theorem xH {pins:List (Addr×Obj)} {s:Shared} {σ:L2.St} {H:Hp} {h':Heap} {t':Nat} {ch:List Addr} {a:Addr} {o:HO} (I:Inv X pins σ H s) (k:∀b u,b∉ch->s.heap.get? b=some u->h'.get? b=some u) (hf:∀b∈ch,yF X pins H b) (hp:s.heap.objs.size<=a)
  (new:iR X.prog X.w (upd H a o) h' a o):Inv X pins σ (upd H a o) {s with heap:=h',toks:=t'}:=by
 have hn:H a=none:=I.hok.fresh hp;have nch:∀b u,H b=some u->b∉ch:=fun b u e z=>by rw [(hf b z).1] at e;cases e
 have kU:∀b u,H b=some u->upd H a o b=some u:=fun b u e=>by rw [bO (dJ e hn)];exact e
 refine I.step (g':=s.gens) (d':=s.drawn) (ch:=ch) (fun b hb=>?_) (fun b u _ _ hc e _=>k b u hc e) (fun b u _ _ hc e _=>⟨u.slots,k b u hc e⟩) (fun b u _ e n=>?_)
  (fun b u hc e=>⟨u,k b u hc e⟩) (fun b xs e=>kU b _ e) (fun b u v e=>kU b _ e) (fun b ps e=>⟨#[],by rw [kU b _ e];simp⟩) (fun m hm=>?_) (fun b u e=>?_) I.bare
 ·obtain ⟨_,f1,_,f3,f4,f5⟩:=hf b hb;exact ⟨f3,f1,f4,f5⟩
 ·rw [bO (fun z=>absurd (Nat.lt_of_lt_of_le (Heap.lt_size e) hp) (by rw [z];exact Nat.lt_irrefl _))];exact n
 ·obtain ⟨u,es,ep,hu,r⟩:=hm;exact ⟨u,es,ep,k _ u (fun z=>(hf _ z).2.1 rfl) hu,r⟩
 ·by_cases hb:b=a
  ·subst hb;rw [aP] at e;cases e;exact new
  ·rw [bO hb] at e;refine (I.hok b u e).stay (fun c v hc q=>k c v ?_ q) (fun c q=>kU c _ q) fun c xs q=>kU c _ q
   rcases hc with z|z
   ·rw [z];exact nch b u e
   ·exact nch c _ z
end
end
section
variable {X:Cx} {pos p:Pos} {x:Str} {k:Nat} {f:List D->Res D}
end
theorem aB9:bootBuiltins "all" = some (.builtin "all"):=by decide +kernel
end Mi
end
section
namespace Mi
open PySem L2
theorem aBa (b:Bool):asB (.bl b)=.ok b:=rfl
theorem aU:lim=1000000:=by unfold lim;exact Eq.refl _
theorem uY {n:Nat} {ρ:List D} (h:ρ.length=n):wO n ρ=ρ:=by
 subst h;apply List.ext_getElem
 ·simp [wO]
 ·intro i h1 h2;simp [wO,h2]
theorem d7 {n:Nat} {f:List D->Res D} {ds:List D} (h:ds.length=n):kE n f ds=f ds:=by
 unfold kE;rw [if_pos (by simp [h])]
theorem aG {f:D->D->Res D} {a b:FE} {ρ:List D} {x y z:D} (h1:a ρ=.ok x) (h2:b ρ=.ok y) (h3:f x y=.ok z):b2 f a b ρ=.ok z:=by
 unfold b2;rw [h1,Res.aM,h2,Res.aM,h3]
theorem dC {i:Nat} {f:FE} {ρ:List D} {d:D} (h:f ρ=.ok d):b_ false i f true ρ=.ok (.nx (ρ.set i d)):=by
 unfold b_;rw [h,Res.aM];rfl
theorem gB {i:Nat} {f:FE} {ρ:List D} {d:D} (h:f ρ=.ok d) (hp:d.pure=true):b_ false i f false ρ=.ok (.nx (ρ.set i d)):=by
 unfold b_;rw [h,Res.aM];simp only [hp,Bool.false_or,Bool.false_eq_true,if_false,if_true]
theorem d8 {i:Nat} {f:FE} {ρ:List D} {d:D} (h:f ρ=.ok d) (hp:inner d=true):b_ true i f true ρ=.ok (.nx (ρ.set i d)):=by
 unfold b_;rw [h,Res.aM];simp only [hp,Bool.and_self,if_true]
theorem aK {f g:FS} {ρ ρ':List D} {r:Res Fl} (h1:f ρ=.ok (.nx ρ')) (h2:g ρ'=r):bD f g ρ=r:=by
 unfold bD;rw [h1,Res.aM];exact h2
theorem XH {c:FT} {f g:FS} {ρ:List D} {k:Bool} {r:Res Fl} (h1:c ρ=.ok k) (h2:(if k then f ρ else g ρ)=r):sIf c f g ρ=r:=by
 unfold sIf;rw [h1,Res.aM];exact h2
theorem F_ {c:FT} {f g:FS} {ρ:List D} {r:Res Fl} (h1:c ρ=.ok true) (h2:f ρ=r):sIf c f g ρ=r:=XH h1 (by rw [if_pos rfl];exact h2)
theorem o5 {c:FT} {f g:FS} {ρ:List D} {r:Res Fl} (h1:c ρ=.ok false) (h2:g ρ=r):sIf c f g ρ=r:=XH h1 (by rw [if_neg (by simp)];exact h2)
theorem dW {f:FE} {ρ:List D} {k:Bool} (h1:f ρ=.ok (.bl k)):bTB f ρ=.ok k:=by
 unfold bTB;rw [h1,Res.aM];rfl
theorem XJ {a b:FT} {ρ:List D} {r:Res Bool} (h1:a ρ=.ok true) (h2:b ρ=r):TQ a b ρ=r:=by
 unfold TQ;rw [h1,Res.aM,if_pos rfl,h2]
theorem aBb {a b:FT} {ρ:List D} (h1:a ρ=.ok false):TQ a b ρ=.ok false:=by
 unfold TQ;rw [h1,Res.aM,if_neg (by simp)];rfl
theorem aD {a:FE} {b:FA} {ρ:List D} {x:D} {xs:List D} (h1:a ρ=.ok x) (h2:b ρ=.ok xs):aB a b ρ=.ok (x::xs):=by
 unfold aB;rw [h1,Res.aM,h2,Res.aM];rfl
theorem bB {f:List D->Res D} {a:FA} {ρ:List D} {xs:List D} {d:D} (h1:a ρ=.ok xs) (h2:f xs=.ok d):bA f a ρ=.ok d:=by
 unfold bA;rw [h1,Res.aM,h2]
theorem b7 {a:FA} {ρ:List D} {xs:List D} (h:a ρ=.ok xs) (hl:xs.length<=lim):cL a ρ=.ok (.tup xs):=by
 unfold cL;rw [h,Res.aM,if_pos (decide_eq_true hl)];rfl
theorem pR {f:FE} {ρ:List D} {d:D} {k:Bool} (h:f ρ=.ok d) (hp:(k||d.pure)=true):yN f k ρ=.ok (.rt d):=by
 unfold yN;rw [h,Res.aM,if_pos hp]
theorem kZ {it:FI} {t:D->List D->Res (List D)} {body:FS} {ρ:List D} {xs:List D} {r:Res Fl} (h1:it ρ=.ok (xs,true)) (h2:lO t body xs ρ=r):t6 it t body ρ=r:=by
 unfold t6;rw [h1,Res.aM];exact h2
theorem pU {i:Nat} {t:D->List D->Res (List D)} {body:FS} {ρ:List D} {d:D} {xs:List D} {r:Res Fl} (h1:cU i ρ=.ok d) (h2:pC d=.ok xs) (h3:lO t body xs ρ=r):pG i t body ρ=r:=by
 unfold pG;rw [h1,Res.aM,h2,Res.aM];exact h3
theorem oJ {f:FA} {ρ:List D} {n:Int} (h:f ρ=.ok [.int n]) (h1:0<=n) (h2:n<=1000000):gW f gF ρ=.ok ((List.range n.toNat).map fun (k:Nat)=>D.int (0+(k:Int)),true):=by
 unfold gW;rw [h,Res.aM];have:l_ n=true:=by
  simp only [l_,Bool.and_eq_true,decide_eq_true_eq];lia
 simp only [gF,this,if_true]
theorem J4 {i:Nat} {f g:FE} {ρ:List D} {kvs:List (D×D)} {k d:D} (h1:g ρ=.ok d) (h2:f ρ=.ok k) (h3:ρ.getD i .uD=.dct kvs) (h4:kvs.length<lim) (h5:qN kvs k=true) (h6:d.pure=true):QR i f g ρ=.ok (.nx (ρ.set i (.dct (putD kvs k d)))):=by
 unfold QR;rw [h1,Res.aM,h2,Res.aM,h3];simp only [decide_eq_true h4,h5,h6,Bool.and_self,if_true]
theorem oK {i:Nat} {f:FE} {ρ:List D} {xs:List D} {d:D} (h1:f ρ=.ok d) (h3:ρ.getD i .uD=.lst xs) (h4:xs.length<lim) (h5:d.pure=true):rP i f ρ=.ok (.nx (ρ.set i (.lst (xs++[d])))):=by
 unfold rP;rw [h1,Res.aM,h3];simp only [decide_eq_true h4,h5,Bool.and_self,if_true]
theorem bT {t:D->List D->Res (List D)} {body:FS} {x:D} {xs:List D} {ρ ρ1 ρ2:List D} {r:Res Fl} (h1:t x ρ=.ok ρ1) (h2:body ρ1=.ok (.nx ρ2)) (h3:lO t body xs ρ2=r):lO t body (x::xs) ρ=r:=by
 rw [lO,h1,Res.aM,h2,Res.aM];exact h3
theorem sS {n:Nat} {it:FI} {t:D->Res (List D)} {c:FT} {f:FE} {k kk:Bool} {ρ:List D} {xs ys:List D} (h1:it ρ=.ok (xs,kk)) (h2:xs.length<=lim) (h3:jK (nG n t c f k ρ) [] xs=.ok ys):dG n it t c f k ρ=.ok (.lst ys):=by
 unfold dG;rw [h1,Res.aM];simp only [decide_eq_true h2,if_true];rw [h3];rfl
theorem uZ {n:Nat} {c:FT} {f:FE} {k:Bool} {ρ acc:List D} {x y:D} {b:Bool} (hρ:ρ.length=n) (h1:c (ρ++[x])=.ok b) (h2:b=true->f (ρ++[x])=.ok y/\(k||y.pure)=true):nG n oY c f k ρ acc x=.ok (if b then acc++[y] else acc):=by
 unfold nG;show (do let ok <- c (wO n ρ++[x]);_)=_;rw [uY hρ,h1,Res.aM];cases b with
 | true=>
  obtain ⟨e1,e2⟩:=h2 rfl;rw [if_pos rfl,e1,Res.aM,if_pos e2,if_pos rfl];rfl
 | false=>
  rw [if_neg (by simp),if_neg (by simp)];rfl
theorem d_ (a b:Int):aR .add (.int a) (.int b)=.ok (.int (a+b)):=rfl
theorem J5 (a b:Int):aR .sub (.int a) (.int b)=.ok (.int (a-b)):=rfl
theorem aBc (a b:Int) (h:jW b=true):aR .mul (.int a) (.int b)=.ok (.int (a*b)):=by
 simp only [aR,h,Bool.or_true,if_true]
theorem cZ (a b:Int) (h1:0<b) (h2:b<1073741824):aR .fdiv (.int a) (.int b)=.ok (.int (a / b)):=by
 simp only [aR,decide_eq_true h1,decide_eq_true h2,Bool.and_self,if_true]
theorem bU (a b:Int) (h1:0<b):aR .mod (.int a) (.int b)=.ok (.int (a % b)):=by
 simp only [aR,decide_eq_true h1,if_true]
theorem sU (a:Int) (h1:-1000000<=a) (h2:a<=1000000):jW a=true:=by
 simp only [jW,Bool.and_eq_true,decide_eq_true_eq];lia
theorem J6 (a b:Str) (h:a.length+b.length<=lim):aR .add (.str a) (.str b)=.ok (.str (a++b)):=by
 simp only [aR,decide_eq_true h,if_true]
theorem mF (a b:List D) (h:a.length+b.length<=lim) (ha:D.aV a=true) (hb:D.aV b=true):aR .add (.lst a) (.lst b)=.ok (.lst (a++b)):=by
 simp only [aR,decide_eq_true h,ha,hb,Bool.and_self,if_true]
theorem nU (S:List Int):D.aV (S.map D.int)=true:=by
 induction S with
 | nil=>rfl
 | cons q Q ih=>rw [List.map_cons,D.aV,ih];rfl
theorem XM (ns:List Int) (lo hi:Option Int):cutD (ns.map D.int) lo hi=(cutD ns lo hi).map D.int:=by
 unfold cutD;rw [List.length_map,List.map_take,List.map_drop]
end Mi
end
section
namespace Mi
open PySem L2 PySem.SeqAt PySem.Spec PyProof.Rows
section
variable {P:Program} {w:World} {K:PySem.W.Frag} {mg:Str->Option Value} {base:Heap} {N:List Str} {qual:Str} {scope:Scope} {f C:Addr} {cd:Value} {A:Around} {outer:List Env} {s:Shared} {H:Hp} {E:XK}
end
section
variable [KFrag]
end
end Mi
end
section
namespace Mi
open PySem L2 PySem.W PySem.SeqAt PySem.Spec PyProof.Rows PySem.Builtin PySem.Builtin.ObjectAttr PySem.Builtin.Getset_descriptor
section
variable {prog:Program} {w:World} {A:Around} {E:Value->Shared->Prop} {s:Shared} {K:Frag} {x C:Addr}
end
end Mi
end
section
namespace Mi
open PySem L2 PySem.W PySem.SeqAt PySem.Spec PyProof.Rows
section
variable {X:Cx} {pins:List (Addr×Obj)} {σ:L2.St} {H H1 H2:Hp} {s:Shared} {h h6:Heap} {a:Addr}
end
end Mi
end
section
namespace Mi
open PySem L2 PySem.W PySem.SeqAt PySem.Spec PyProof.Rows
variable [KFrag]
section
variable {X:Cx} {C:Addr} {i:Nat} {cs:List Addr} {b:Bool} {y:Str} {p np tpos pos:Pos} {es:List Expr} {kk:Nat} {ce:Expr} {v:V} {u:Value}
end
end Mi
end
section
namespace Mi
open PySem L2 PySem.SeqAt PySem.Spec PyProof.Rows
variable [KFrag]
section
variable {X:Cx} {a e:Expr} {es:List Expr} {p p2 pos pos2:Pos} {fs:FA} {rr:Bool}
end
section
variable {X:Cx} {own:Nat->Bool} {a b e:Expr} {pos:Pos} {fs:FA} {rr re:Bool} {fe:FE}
noncomputable def XN:List D->Res D
 | [.dct kvs]=>if !kvs.isEmpty&&(kvs.all (fun p=>!isTup p.1)&&D.aV (kvs.map (·.2))) then .ok (.dct kvs) else .bad
 | _=>.bad
theorem XQ:mO X (.type "dict") (rs XN true):=by
 intro pins s σ H xs us Q I vr ⟨ds,d,r,e,k⟩;unfold XN at e;split at e
 ·split at e
  ·rename_i hl;rw [Bool.and_eq_true,Bool.and_eq_true] at hl;cases e;obtain ⟨vv,uu,rfl,rfl,r,v⟩:=lR r vr;cases r with
   | @dK l kvs ds e _ r n=>
    cases v;refine QF I (.of e) fun p s' hp I'=>⟨.ref p,_,I',rfl,?_⟩
    have sp:cD H (upd H p (.dK kvs)):=cD.upd hp;have ku:∀{P:Addr->Prop},j7 P (upd H p (.dK kvs)) kvs _:=fun {P}=>(j7.bJ r hl.2.2).keep (.same sp) fun _ h=>h
    exact k _ _ sp (.dK aP trivial ku n) fun _=>.dK aP hp ku n
   | @dT l kvs ds e _ r n=>
    cases r with
    | cons r t=>simp [isTup] at hl
    | nil=>simp at hl
  ·cases e
 ·cases e
end
end Mi
end
section
namespace Mi
open PySem L2 PySem.SeqAt PySem.Spec PyProof.Rows
variable [KFrag]
section
variable {X:Cx} {pins:List (Addr×Obj)} {σ:L2.St} {H:Hp} {s:Shared} {a:Addr} {kvs:List (Key×V)}
end
noncomputable def aD7:HO->Bool
 | .tup _=>false
 | .frz _ (.lst _)=>false
 | _=>true
mutual
theorem zK {P:Addr->Prop} {H:Hp} {a:Addr} {u:HO} (ea:∀ob,H a=some ob->aD7 ob=true):∀{v:V} {d:D},Rep P H v d->d.pure=true->Rep P (upd H a u) v d
 | _,_,.non,_=>.non
 | _,_,.bl b,_=>.bl b
 | _,_,.int i,_=>.int i
 | _,_,.str x,_=>.str x
 | _,_,.tup (a:=b) e r,h=>.tup (by rw [bO (fun z=>by rw [z] at e;have:=ea _ e;cases this)];exact e) (k_ ea r (by rw [D.pure] at h;exact h))
 | _,_,.lst _ _ _,h=>by rw [D.pure] at h;cases h
 | _,_,.frz e r,h=>.frz (e.imp (fun ⟨o,e⟩=>⟨o,by rw [bO (fun z=>by rw [z] at e;have:=ea _ e;cases this)];exact e⟩) id) (k_ ea r (by rw [D.pure] at h;exact h))
 | _,_,.cel _ _ _,h=>by rw [D.pure] at h;cases h
 | _,_,.dK _ _ _ _,h=>by rw [D.pure] at h;cases h
 | _,_,.dT _ _ _ _,h=>by rw [D.pure] at h;cases h
 | _,_,.fdK _ _ _,h=>by rw [D.pure] at h;cases h
 | _,_,.fdT _ _ _,h=>by rw [D.pure] at h;cases h
theorem k_ {P:Addr->Prop} {H:Hp} {a:Addr} {u:HO} (ea:∀ob,H a=some ob->aD7 ob=true):∀{v:List V} {d:List D},bK P H v d->D.aV d=true->bK P (upd H a u) v d
 | _,_,.nil,_=>.nil
 | _,_,.cons r t,h=>by
  rw [D.aV,Bool.and_eq_true] at h;exact .cons (zK ea r h.1) (k_ ea t h.2)
end
section
variable {X:Cx} {scope:Scope} {x c:Str} {i n:Nat} {elt:Expr} {fe:FE} {re:Bool} {np ap cp cpos pos:Pos}
end
end Mi
end
section
namespace Mi
open PySem L2 PySem.SeqAt PySem.Spec PyProof.Rows AutoSeq1 MeetsSeq MeetsSeq2 MeetsSeq3
section
variable {P:Program} {w:World} {l b:Addr} {xs ys:Array Value} {n m:Nat} {dd de:Option Addr} {sl sm:Array (Option Value)} {e:Nat->Bool}
end
variable [KFrag]
section
variable {X:Cx} {pins:List (Addr×Obj)} {σ:L2.St} {H:Hp} {s:Shared}
end
end Mi
end
section
namespace Mi
open PySem L2 PySem.SeqAt PySem.Spec PyProof.Rows
variable [KFrag]
section
variable {P:Program} {w:World} {K:PySem.W.Frag} {mg:Str->Option Value} {base:Heap} {x qual:Str} {st:Stmt} {fad T:Addr} {its:Array Value} {fd:FuncData} {N ps:List Str} {k:Nat} {f:FS}
end
section
variable {X:Cx} {e ke:Expr} {es:List Expr} {pos p kp:Pos} {fs:FA} {rr re:Bool} {fk:FE} {x kw:Str} {k k' n:Nat} {df:D} {f:List D->Res D}
end
end Mi
end
section
namespace Mi
open PySem L2 PySem.SeqAt PySem.Spec PyProof.Rows
noncomputable def xJ:D->D->Res D
 | .tup a,.tup b=>if decide (a.length+b.length<=lim) then .ok (.tup (a++b)) else .bad
 | _,_=>.bad
noncomputable def m7:List D->List D->List (D×D)->List (D×D)
 | k::ks,v::vs,m=>m7 ks vs (putD m k v)
 | _,_,m=>m
noncomputable def J7:List D->Res D
 | [.tup xs,.tup ys]=>if decide (xs.length<=1000)&&decide (ys.length=xs.length)&&xs.all j_&&D.aV ys then .ok (.dct (m7 xs ys [])) else .bad
 | _=>.bad
noncomputable def GC (c:FT) (body:FS):Nat->List D->Res Fl
 | 0,_=>.bad
 | n+1,ρ=>do
  let k <- c ρ
  if k then (do
   let r <- body ρ
   match r with
   | .nx ρ'=>GC c body n ρ'
   | .ct ρ'=>GC c body n ρ'
   | .bk ρ'=>.ok (.nx ρ')
   | .rt d=>.ok (.rt d))
  else .ok (.nx ρ)
def aEo (c:FT) (body:FS):FS:=fun ρ=>GC c body 1000 ρ
variable [KFrag]
section
variable {X:Cx} {pos:Pos}
theorem nW:OpR X (binaryOp .Add) (r2 xJ false):=by
 intro pins s σ H x y v u Q I rx ry h;obtain ⟨a,b,d,p,q,e,k⟩:=h;unfold xJ at e;split at e
 ·rename_i da db;split at e
  ·rename_i hl;cases e;cases p with
   | @tup l1 xs1 _ e1 r1=>
    cases q with
    | @tup l2 xs2 _ e2 r2=>
     cases rx;cases ry;have hz:xs1.length+xs2.length<=sizeLine:=by rw [r1.length,r2.length];exact jM hl
     obtain ⟨its,w1,p1,_⟩:=I.tuple (.of e1);obtain ⟨its2,w2,p2,_⟩:=I.tuple (.of e2);obtain ⟨⟨cls,dd,data,sl⟩,ho,hc,n,hd⟩:=id p1;obtain ⟨⟨cls2,dd2,data2,sl2⟩,ho2,hc2,n2,hd2⟩:=id p2;simp only at hc hd hc2 hd2;by_cases hv:its=[]
     ·have:xs1=[]:=w1.pA.mp hv;subst this;cases r1;refine concat_meets ⟨_,ho,hc⟩ ⟨_,ho2,hc2⟩ noFill_tuple_add seq_tuple_add PySem.F.slot_tuple_add PySem.F.entry_tuple_add (PySem.F.args_tuple_add_2 _ _)
       (tuple_addW0 l1 l2 its.toArray its2.toArray n n2 dd dd2 sl sl2 (by simp [hv])) ⟨by subst hc hd;exact ho,by subst hc2 hd2;exact ho2,.ref l2,H,I,rfl,?_⟩
      exact k.self (.tup e2 r2) (fun z=>by cases z)
     ·refine V6 pins s σ H (.ref l1) (.ref l2) _ _ Q I rfl rfl ⟨l1,l2,xs1,xs2,rfl,rfl,.of e1,.of e2,fun z=>hv (w1.pA.mpr z),hz,fun z=>?_,fun z p hp=>?_⟩
      ·subst z;cases r2;rw [List.append_nil] at k;exact k.self (.tup e1 r1) (fun z=>by cases z)
      ·have sp:cD H (upd H p (.tup (xs1++xs2))):=cD.upd hp;exact k _ _ sp (.tup aP ((r1.append r2).same sp)) fun z=>by cases z
  ·cases e
 ·cases e
theorem aBd {own:Nat->Bool} {c:Expr} {body:List Stmt} {gc:FT} {fb:FS} (hp:PassesOwn (model X.prog X.w) X.A X.env X.xe) (hc:PT X c (gT gc)) (hb:PSs X body (tS own fb)):PS X (.While c body [] pos) (tS own (aEo gc fb)):=
 PS.imp (PK hp hc hb) fun D σ H ⟨ρ,fl,E,h,q⟩=>by
 refine ⟨fun m σ' H'=>∃ρ' ,ES own H' σ' ρ'/\GC gc fb m ρ'=.ok fl/\kS own D σ' H' fl,⟨1000,ρ,E,h,q⟩,?_⟩;rintro m σ H ⟨ρ,E,h,q⟩;cases m with
 | zero=>cases h
 | succ m=>
  rw [GC] at h;obtain ⟨k,h1,h2⟩:=aY h;refine ⟨ρ,k,E.er,h1,fun H1 s=>?_⟩;cases k with
  | true=>
   rw [if_pos rfl];rw [if_pos rfl] at h2;obtain ⟨r,h3,h4⟩:=aY h2;refine ⟨fun σ' H'=>∃ρ',ES own H' σ' ρ'/\GC gc fb m ρ'=.ok fl/\kS own D σ' H' fl,fun σ' H' w=>⟨m,Nat.lt_succ_self m,w⟩,ρ,r,E.same s,h3,?_⟩;have q1:=q.step (.same s);cases r with
   | nx ρ'=>exact fun σ' H' ku E'=>⟨ρ',E',h4,q1.step ku⟩
   | ct ρ'=>exact fun σ' H' ku E'=>⟨ρ',E',h4,q1.step ku⟩
   | bk ρ'=>cases h4;exact fun σ' H' ku E'=>q1 σ' H' ku E'
   | rt d=>cases h4;exact q1
  | false=>
   rw [if_neg (by simp)];rw [if_neg (by simp)] at h2;cases h2;exact (q.step (.same s)) σ H1 (fun a o e n=>⟨e,n⟩) (E.same s)
end
end Mi
end
section
namespace Mi
open PySem L2 PySem.SeqAt PySem.Spec PyProof.Rows
variable [KFrag]
section
variable {X:Cx} {own:Nat->Bool} {e:Expr} {fe:FE} {re:Bool} {pos:Pos}
end
end Mi
end
section
namespace Mi
open PySem L2 PySem.SeqAt PySem.Spec PyProof.Rows
variable [KFrag]
section
variable {X:Cx} {pins:List (Addr×Obj)} {σ:L2.St} {H:Hp} {s:Shared} {a:Addr} {kvs:List (Key×V)}
end
end Mi
end
section
namespace Mi
open PySem L2 PySem.SeqAt PySem.Spec PyProof.Rows
variable [KFrag]
section
variable {X:Cx} {scope:Scope} {own:Nat->Bool} {x c y:Str} {i n iy:Nat} {elt cnd:Expr} {fe:FE} {gc:FT} {re o:Bool} {np cpos pos py pos2:Pos}
end
section
variable {own:Nat->Bool}
end
end Mi
end
section
namespace Wz
open PySem PySem.Spec
noncomputable abbrev itO (t:Addr) (i:Nat):Obj:={cls:=.type "tuple_iterator",data:=.fields #[.ref t,.int i 0]}
noncomputable abbrev tuO (xs:Array Value) (n:Nat) (dd:Option Addr) (sl:Array (Option Value)):Obj:={cls:=.type "tuple",dict:=dd,data:=.seq xs n,slots:=sl}
noncomputable abbrev zpO (f0 f1:Value) (TI TO:Addr):Obj:={cls:=.type "zip",data:=.fields #[f0,f1,.bool false,.ref TI,.ref TO]}
abbrev prO (a b:Value):Obj:={cls:=.type "tuple",data:=.seq #[a,b]}
theorem CZ (it t:Addr) (i:Nat) (xs:Array Value) (n:Nat) (dd:Option Addr) (sl:Array (Option Value)) (x:Value) (hx:xs[i]?=some x) :
  Meets (Builtin.«tuple_iterator.__next__» ⟨[.ref it],[]⟩) (fun _ R s=>s.heap.get? it=some (itO t i)/\s.heap.get? t=some (tuO xs n dd sl)/\R (.ok (.ret x)) {s with heap:=s.heap.update it (Obj.mapFields (·.setIfInBounds 1 (rawInt (i+1))))}):=.of_wp fun prog w A R s hs=>by
 obtain ⟨hp,g,d,tk,os⟩:=s;obtain ⟨e1,e2,hq⟩:=hs
 wp_walk
 rw [Int.toNat_natCast,hx]
 wp_walk
 exact ⟨_,rfl,hq⟩
theorem C_ (it t:Addr) (i:Nat) (xs:Array Value) (n:Nat) (dd:Option Addr) (sl:Array (Option Value)) (hx:xs[i]?=none) :
  Meets (Builtin.«tuple_iterator.__next__» ⟨[.ref it],[]⟩) (fun A R s=>A.handled=none/\s.heap.get? it=some (itO t i)/\s.heap.get? t=some (tuO xs n dd sl)/\∀h' e,Heap.ExtBut it s.heap h'->(∃o,h'.get? e=some o/\o.cls=.type "StopIteration")->R (.error (.ref e)) {s with heap:=h'}):=.of_wp fun prog w A R s hs=>by
 obtain ⟨hp,g,d,tk,os⟩:=s;obtain ⟨hh,e1,e2,hq⟩:=hs
 wp_walk
 rw [Int.toNat_natCast,hx]
 wp_walk
 have hh1:A.in1.handled=none:=hh;unfold raiseNew
 wp_walk
 exact hq _ _ (((Heap.SameBut.update ..).extBut.push _).push _) ⟨_,Heap.get?_push_size _ rfl,rfl⟩
section
variable {prog:Program} {w:World} {A:Around} {E:Value->Shared->Prop} {s:Shared} {it t:Addr} {i:Nat} {xs:Array Value} {x:Value} {n:Nat} {dd:Option Addr} {sl:Array (Option Value)}
theorem drawn {Q:Value->Shared->Prop} (e1:s.heap.get? it=some (itO t i)) (e2:s.heap.get? t=some (tuO xs n dd sl)) (hx:xs[i]?=some x)
  (q:∀h',h'.get? it=some (itO t (i+1))->Heap.SameBut it s.heap h'->Q x {s with heap:=h'}):wpAny (model prog w) A (Builtin.SmallTypes.nextOf (.ref it)) Q E s:=by
 have ty:s.TypeIs (.ref it) "tuple_iterator":=⟨_,e1,rfl⟩
 refine wpAny_bind (wpAny_callSpecial?_slot ty F.slot_tuple_iterator_next ?_);refine call_meets F.slot_tuple_iterator_next ty F.entry_tuple_iterator_next (F.args_tuple_iterator_next_1 _) (CZ it t i xs n dd sl x hx) ⟨e1,e2,wpAny_pure (q _ ?_ (Heap.SameBut.update ..))⟩;exact Heap.get?_update_self _ e1 rfl
theorem over {Q:Value->Shared->Prop} (hh:A.handled=none) (e1:s.heap.get? it=some (itO t i)) (e2:s.heap.get? t=some (tuO xs n dd sl)) (hx:xs[i]?=none)
  (q:∀h' e,Heap.ExtBut it s.heap h'->(∃o,h'.get? e=some o/\o.cls=.type "StopIteration")->E (.ref e) {s with heap:=h'}):wpAny (model prog w) A (Builtin.SmallTypes.nextOf (.ref it)) Q E s:=by
 have ty:s.TypeIs (.ref it) "tuple_iterator":=⟨_,e1,rfl⟩
 refine wpAny_bind (wpAny_callSpecial?_slot ty F.slot_tuple_iterator_next ?_);exact call_meets F.slot_tuple_iterator_next ty F.entry_tuple_iterator_next (F.args_tuple_iterator_next_1 _) (C_ it t i xs n dd sl hx) ⟨hh,e1,e2,fun h' e k o=>q h' e k o⟩
end
structure Apart (z TI TO i1 i2 l1 l2:Addr):Prop where
 zTI:z≠TI
 zTO:z≠TO
 z1:z≠i1
 z2:z≠i2
 zl:z≠l1
 zm:z≠l2
 TT:TI≠TO
 T1:TI≠i1
 T2:TI≠i2
 O1:TO≠i1
 O2:TO≠i2
 Ol:TO≠l1
 Om:TO≠l2
 ij:i1≠i2
 il:i1≠l1
 im:i1≠l2
 jl:i2≠l1
 jm:i2≠l2
structure W (z TI TO i1 i2 l1 l2:Addr) (o1 o2:Obj) (f0 f1 a b:Value) (k1 k2:Nat) (h:Heap):Prop where
 z_:h.get? z=some (zpO f0 f1 TI TO)
 ti:h.get? TI=some (prO (.ref i1) (.ref i2))
 to:h.get? TO=some (prO a b)
 j1:h.get? i1=some (itO l1 k1)
 j2:h.get? i2=some (itO l2 k2)
 t1:h.get? l1=some o1
 t2:h.get? l2=some o2
section
variable {z TI TO i1 i2 l1 l2:Addr} {o1 o2:Obj} {f0 f1 g0 g1 a b c d:Value} {k1 k2:Nat} {h h':Heap}
theorem W.onZ (x:W z TI TO i1 i2 l1 l2 o1 o2 f0 f1 a b k1 k2 h) (ap:Apart z TI TO i1 i2 l1 l2) (e:h'.get? z=some (zpO g0 g1 TI TO)) (k:Heap.SameBut z h h'):W z TI TO i1 i2 l1 l2 o1 o2 g0 g1 a b k1 k2 h':=
 ⟨e,(k.2 _ ap.zTI.symm).trans x.ti,(k.2 _ ap.zTO.symm).trans x.to,(k.2 _ ap.z1.symm).trans x.j1,(k.2 _ ap.z2.symm).trans x.j2,(k.2 _ ap.zl.symm).trans x.t1,(k.2 _ ap.zm.symm).trans x.t2⟩
theorem W.onT (x:W z TI TO i1 i2 l1 l2 o1 o2 f0 f1 a b k1 k2 h) (ap:Apart z TI TO i1 i2 l1 l2) (e:h'.get? TO=some (prO c d)) (k:Heap.SameBut TO h h'):W z TI TO i1 i2 l1 l2 o1 o2 f0 f1 c d k1 k2 h':=
 ⟨(k.2 _ ap.zTO).trans x.z_,(k.2 _ ap.TT).trans x.ti,e,(k.2 _ ap.O1.symm).trans x.j1,(k.2 _ ap.O2.symm).trans x.j2,(k.2 _ ap.Ol.symm).trans x.t1,(k.2 _ ap.Om.symm).trans x.t2⟩
theorem W.on1 {k:Nat} (x:W z TI TO i1 i2 l1 l2 o1 o2 f0 f1 a b k1 k2 h) (ap:Apart z TI TO i1 i2 l1 l2) (e:h'.get? i1=some (itO l1 k)) (s:Heap.SameBut i1 h h'):W z TI TO i1 i2 l1 l2 o1 o2 f0 f1 a b k k2 h':=
 ⟨(s.2 _ ap.z1).trans x.z_,(s.2 _ ap.T1).trans x.ti,(s.2 _ ap.O1).trans x.to,e,(s.2 _ ap.ij.symm).trans x.j2,(s.2 _ ap.il.symm).trans x.t1,(s.2 _ ap.im.symm).trans x.t2⟩
theorem W.on2 {k:Nat} (x:W z TI TO i1 i2 l1 l2 o1 o2 f0 f1 a b k1 k2 h) (ap:Apart z TI TO i1 i2 l1 l2) (e:h'.get? i2=some (itO l2 k)) (s:Heap.SameBut i2 h h'):W z TI TO i1 i2 l1 l2 o1 o2 f0 f1 a b k1 k h':=
 ⟨(s.2 _ ap.z2).trans x.z_,(s.2 _ ap.T2).trans x.ti,(s.2 _ ap.O2).trans x.to,(s.2 _ ap.ij).trans x.j1,e,(s.2 _ ap.jl.symm).trans x.t1,(s.2 _ ap.jm.symm).trans x.t2⟩
theorem W.up (x:W z TI TO i1 i2 l1 l2 o1 o2 f0 f1 a b k1 k2 h) (k:∀c o,c=z\/c=TI\/c=TO\/c=i1\/c=i2\/c=l1\/c=l2->h.get? c=some o->h'.get? c=some o):W z TI TO i1 i2 l1 l2 o1 o2 f0 f1 a b k1 k2 h':=
 ⟨k _ _ (by simp) x.z_,k _ _ (by simp) x.ti,k _ _ (by simp) x.to,k _ _ (by simp) x.j1,k _ _ (by simp) x.j2,k _ _ (by simp) x.t1,k _ _ (by simp) x.t2⟩
end
noncomputable def Q7 (z TO i1 i2:Addr) (h h':Heap):Prop:=∀c o,c≠z->c≠TO->c≠i1->c≠i2->h.get? c=some o->h'.get? c=some o
section
variable {prog:Program} {w:World} {A:Around} {E:Value->Shared->Prop} {s:Shared} {z TI TO i1 i2 l1 l2:Addr} {n1 n2:Nat} {d1 d2:Option Addr} {s1 s2:Array (Option Value)} {f0 f1 a b x y:Value} {k:Nat} {xs ys:Array Value}
theorem W.ty {o1 o2:Obj} {k1 k2:Nat} (hw:W z TI TO i1 i2 l1 l2 o1 o2 f0 f1 a b k1 k2 s.heap):s.TypeIs (.ref z) "zip":=⟨_,hw.z_,rfl⟩
end
end Wz
end
section
namespace Wz
open PySem PySem.Spec
abbrev nxt (z:Addr):Sem PySem.Fin:=Builtin.«zip.__next__» ⟨[.ref z],[]⟩
noncomputable abbrev Got (Q:Value->Shared->Prop):PySem.Fin->Shared->Prop:=fun r t=>∃v,r=.done (.ret v)/\Q v t
section
variable {prog:Program} {w:World} {A:Around} {E:Value->Shared->Prop} {s:Shared} {z TI TO i1 i2 l1 l2:Addr} {n1 n2:Nat} {d1 d2:Option Addr} {s1 s2:Array (Option Value)} {f0 f1 a b x y:Value} {k:Nat} {xs ys:Array Value}
theorem there {c:Addr} {o:Obj} {Q:Option Obj->Shared->Prop} (e:s.heap.get? c=some o) (q:Q (some o) s):wpAny (model prog w) A (loadIfAlive c) Q E s:=fun Γ p _=>by
 show Sem.wp _ Γ (.loadIfAlive c pure) _ _ p s;rw [Sem.wp_loadIfAlive,e];exact q
theorem keptAt {o1 o2:Obj} {k1 k2:Nat} {Q:Unit->Shared->Prop} (j:Nat) (v c d:Value) (hw:W z TI TO i1 i2 l1 l2 o1 o2 f0 f1 a b k1 k2 s.heap) (ap:Apart z TI TO i1 i2 l1 l2) (hj:(#[a,b]:Array Value).setIfInBounds j v=#[c,d])
  (q:∀h',W z TI TO i1 i2 l1 l2 o1 o2 f0 f1 c d k1 k2 h'->Heap.SameBut TO s.heap h'->Q () {s with heap:=h'}):wpAny (model prog w) A (updateSeq TO (·.setIfInBounds j v)) Q E s:=
 wpAny_updateSeq_pair hw.to fun h' e sb=>q h' (hw.onT ap (by rw [e,hj]) sb) sb
theorem first {Q:Value->Shared->Prop} (ap:Apart z TI TO i1 i2 l1 l2) (hw:W z TI TO i1 i2 l1 l2 (tuO xs n1 d1 s1) (tuO ys n2 d2 s2) .none (.bool false) a b k k s.heap) (hx:xs[k]?=some x) (hy:ys[k]?=some y)
  (q:∀(h':Heap) (p:Addr),W z TI TO i1 i2 l1 l2 (tuO xs n1 d1 s1) (tuO ys n2 d2 s2) (rawInt p) (.bool false) x y (k+1) (k+1) h'->h'.get? p=some (prO x y)->p=s.heap.objs.size->Q7 z TO i1 i2 s.heap h'->Q (.ref p) {s with heap:=h'}) :
  wpAny (model prog w) A (nxt z) (Got Q) E s:=by
 refine wpAny_bind (m:=field (.ref z) 2) (wpAny_field hw.z_ rfl (x:=.bool false) rfl (wpAny_bind (m:=field (.ref z) 3) (wpAny_field hw.z_ rfl (x:=.ref TI) rfl (wpAny_bind (wpAny_seqItems hw.ti rfl ?_)))));refine wpAny_bind (m:=Builtin.SmallTypes.ownedTupleIsFree (.ref z)) (wpAny_bind (wpAny_field hw.z_ rfl (x:=.none) rfl (wpAny_pure ?_)));rw [if_pos rfl];refine wpAny_bind (wpAny_rule (wpAny_bind (wpAny_field hw.z_ rfl (x:=.ref TO) rfl (wpAny_bind (wpAny_setField_rec hw.z_ (by simp) fun h1 e1 k1=>?_)))));have w1:W z TI TO i1 i2 l1 l2 (tuO xs n1 d1 s1) (tuO ys n2 d2 s2) .ellipsis (.bool false) a b k k h1:=hw.onZ ap e1 k1;simp only [List.zipIdx_cons,List.zipIdx_nil,List.forIn_cons,List.forIn_nil];refine wpAny_bind (wpAny_bind (wpAny_bind (wpAny_onRaise (wpAny_bind (m:=Builtin.SmallTypes.nextOf (.ref i1)) (drawn w1.j1 w1.t1 hx fun h2 e2 k2=>wpAny_pure ?_)))));have w2:=w1.on1 ap e2 k2;refine wpAny_bind (wpAny_seqItems w2.to rfl (wpAny_bind (keptAt 0 x x b w2 ap rfl fun h3 w3 k3=>wpAny_bind (wpAny_letGo (wpAny_pure ?_)))));refine wpAny_bind (wpAny_bind (wpAny_onRaise (wpAny_bind (m:=Builtin.SmallTypes.nextOf (.ref i2)) (drawn w3.j2 w3.t2 hy fun h4 e4 k4=>wpAny_pure ?_))));have w4:=w3.on2 ap e4 k4;refine wpAny_bind (wpAny_seqItems w4.to rfl (wpAny_bind (keptAt 1 y x y w4 ap rfl fun h5 w5 k5=>wpAny_bind (wpAny_letGo (wpAny_pure (wpAny_pure ?_))))));have sd:Q7 z TO i1 i2 s.heap h5:=fun c o c1 c2 c3 c4 e=>(k5.2 c c2).trans ((k4.2 c c4).trans ((k3.2 c c2).trans ((k2.2 c c3).trans ((k1.2 c c1).trans e))))
 have sz:h5.objs.size=s.heap.objs.size:=by rw [k5.1,k4.1,k3.1,k2.1,k1.1]
 refine wpAny_bind (wpAny_seqItems w5.to rfl (wpAny_bind (wpAny_newTuple ?_)));have w6:W z TI TO i1 i2 l1 l2 (tuO xs n1 d1 s1) (tuO ys n2 d2 s2) .ellipsis (.bool false) x y (k+1) (k+1) (h5.push (prO x y)):=w5.up fun c o _ e=>Heap.get?_push_of_some _ e
 refine wpAny_bind (m:=Builtin.SmallTypes.ownedTupleHandOut (.ref z) (.ref h5.objs.size)) (wpAny_bind (wpAny_setField_rec w6.z_ (by simp) fun h7 e7 k7=>?_));have w7:W z TI TO i1 i2 l1 l2 (tuO xs n1 d1 s1) (tuO ys n2 d2 s2) (rawInt h5.objs.size) (.bool false) x y (k+1) (k+1) h7:=w6.onZ ap e7 k7;refine wpAny_setField_rec w7.z_ (by simp) fun h8 e8 k8=>wpAny_pure ⟨_,rfl,?_⟩
 have w8:W z TI TO i1 i2 l1 l2 (tuO xs n1 d1 s1) (tuO ys n2 d2 s2) (rawInt h5.objs.size) (.bool false) x y (k+1) (k+1) h8:=w7.onZ ap e8 k8;have nz:h5.objs.size≠z:=Nat.ne_of_gt (Heap.lt_size w5.z_);exact q h8 _ w8 ((k8.2 _ nz).trans ((k7.2 _ nz).trans (Heap.get?_push_size _ rfl))) sz fun c o c1 c2 c3 c4 e=>(k8.2 c c1).trans ((k7.2 c c1).trans (Heap.get?_push_of_some _ (sd c o c1 c2 c3 c4 e)))
theorem Q8 {Q:Fin->Shared->Prop} (hh:A.handled=none) (ap:Apart z TI TO i1 i2 l1 l2) (hw:W z TI TO i1 i2 l1 l2 (tuO xs n1 d1 s1) (tuO ys n2 d2 s2) .none (.bool false) a b k k s.heap) (hx:xs[k]?=none)
  (q:∀h' e,Q7 z TO i1 i2 s.heap h'->(∃o,h'.get? e=some o/\o.cls=.type "StopIteration")->E (.ref e) {s with heap:=h'}) :
  wpAny (model prog w) A (nxt z) Q E s:=by
 refine wpAny_bind (m:=field (.ref z) 2) (wpAny_field hw.z_ rfl (x:=.bool false) rfl (wpAny_bind (m:=field (.ref z) 3) (wpAny_field hw.z_ rfl (x:=.ref TI) rfl (wpAny_bind (wpAny_seqItems hw.ti rfl ?_)))));refine wpAny_bind (m:=Builtin.SmallTypes.ownedTupleIsFree (.ref z)) (wpAny_bind (wpAny_field hw.z_ rfl (x:=.none) rfl (wpAny_pure ?_)));rw [if_pos rfl];refine wpAny_bind (wpAny_rule (wpAny_bind (wpAny_field hw.z_ rfl (x:=.ref TO) rfl (wpAny_bind (wpAny_setField_rec hw.z_ (by simp) fun h1 e1 k1=>?_)))));have w1:W z TI TO i1 i2 l1 l2 (tuO xs n1 d1 s1) (tuO ys n2 d2 s2) .ellipsis (.bool false) a b k k h1:=hw.onZ ap e1 k1;simp only [List.zipIdx_cons,List.zipIdx_nil,List.forIn_cons,List.forIn_nil];refine wpAny_bind (wpAny_bind (wpAny_bind (wpAny_onRaise (wpAny_bind (m:=Builtin.SmallTypes.nextOf (.ref i1)) (over hh w1.j1 w1.t1 hx fun h2 e k2 he=>?_)))));obtain ⟨oe,he,hc⟩:=he;have ez:h2.get? z=some (zpO .ellipsis (.bool false) TI TO):=k2 _ _ ap.z1 w1.z_;have hez:e≠z:=fun v=>by
  rw [v,ez] at he;cases he;exact absurd (show Value.type "zip" = Value.type "StopIteration" from hc) (by decide)
 exact wpAny_setField_rec ez (by simp) fun h3 _ k3=>q h3 e (fun c o c1 _ c3 _ v=>(k3.2 c c1).trans (k2 c o c3 ((k1.2 c c1).trans v))) ⟨oe,(k3.2 e hez).trans he,hc⟩
theorem taken {o1 o2 oT:Obj} {k1 k2:Nat} {T:Addr} {bb:Bool} {Q:Bool->Shared->Prop} (ap:Apart z TI TO i1 i2 l1 l2) (hw:W z TI TO i1 i2 l1 l2 o1 o2 (rawInt T) (.bool bb) a b k1 k2 s.heap) (hT:s.heap.get? T=some oT)
  (q:∀h',W z TI TO i1 i2 l1 l2 o1 o2 (rawInt T) (.bool true) a b k1 k2 h'->Heap.SameBut z s.heap h'->Q false {s with heap:=h'}):wpAny (model prog w) A (Builtin.SmallTypes.ownedTupleIsFree (.ref z)) Q E s:=by
 refine wpAny_bind (wpAny_field hw.z_ rfl (x:=rawInt T) rfl (wpAny_bind (m:=loadIfAlive T) (there hT ?_)));refine wpAny_bind (wpAny_field hw.z_ rfl (x:=.bool bb) rfl ?_);cases bb
 ·exact wpAny_bind (wpAny_setField_rec hw.z_ (by simp) fun h1 e1 k1=>wpAny_pure (q h1 (hw.onZ ap e1 k1) k1))
 ·exact wpAny_pure (q _ hw (Heap.SameBut.refl _ _))
theorem more {T:Addr} {bb:Bool} {oT:Obj} {Q:Value->Shared->Prop} (ap:Apart z TI TO i1 i2 l1 l2) (hw:W z TI TO i1 i2 l1 l2 (tuO xs n1 d1 s1) (tuO ys n2 d2 s2) (rawInt T) (.bool bb) a b k k s.heap) (hT:s.heap.get? T=some oT) (hx:xs[k]?=some x) (hy:ys[k]?=some y)
  (q:∀h' p,W z TI TO i1 i2 l1 l2 (tuO xs n1 d1 s1) (tuO ys n2 d2 s2) (rawInt T) (.bool true) a b (k+1) (k+1) h'->h'.get? p=some (prO x y)->Q7 z TO i1 i2 s.heap h'->Q (.ref p) {s with heap:=h'}) :
  wpAny (model prog w) A (nxt z) (Got Q) E s:=by
 refine wpAny_bind (m:=field (.ref z) 2) (wpAny_field hw.z_ rfl (x:=.bool false) rfl (wpAny_bind (m:=field (.ref z) 3) (wpAny_field hw.z_ rfl (x:=.ref TI) rfl (wpAny_bind (wpAny_seqItems hw.ti rfl ?_)))));refine wpAny_bind (m:=Builtin.SmallTypes.ownedTupleIsFree (.ref z)) (taken ap hw hT fun h1 w1 k1=>?_);rw [if_neg Bool.false_ne_true];dsimp only;rw [<-Array.forIn_toList];simp only [List.forIn_cons,List.forIn_nil];refine wpAny_bind (wpAny_bind (wpAny_bind (wpAny_holding (wpAny_bind (m:=Builtin.SmallTypes.nextOf (.ref i1)) (drawn w1.j1 w1.t1 hx fun h2 e2 k2=>wpAny_pure (wpAny_pure ?_))))));have w2:=w1.on1 ap e2 k2;refine wpAny_bind (wpAny_bind (wpAny_holding (wpAny_bind (m:=Builtin.SmallTypes.nextOf (.ref i2)) (drawn w2.j2 w2.t2 hy fun h3 e3 k3=>wpAny_pure (wpAny_pure (wpAny_pure ?_))))));have w3:=w2.on2 ap e3 k3;refine wpAny_bind (wpAny_newTuple (wpAny_pure ⟨_,rfl,?_⟩) (hsz:=by show (2:Nat)<=sizeLine;decide));exact q _ _ (w3.up fun c o _ e=>Heap.get?_push_of_some _ e) (Heap.get?_push_size _ rfl) fun c o c1 c2 c3 c4 e=>Heap.get?_push_of_some _ ((k3.2 c c4).trans ((k2.2 c c3).trans ((k1.2 c c1).trans e)))
theorem XR {T:Addr} {bb:Bool} {oT:Obj} {Q:Fin->Shared->Prop} (hh:A.handled=none) (ap:Apart z TI TO i1 i2 l1 l2) (hw:W z TI TO i1 i2 l1 l2 (tuO xs n1 d1 s1) (tuO ys n2 d2 s2) (rawInt T) (.bool bb) a b k k s.heap) (hT:s.heap.get? T=some oT) (hx:xs[k]?=none)
  (q:∀h' e,Q7 z TO i1 i2 s.heap h'->(∃o,h'.get? e=some o/\o.cls=.type "StopIteration")->E (.ref e) {s with heap:=h'}) :
  wpAny (model prog w) A (nxt z) Q E s:=by
 refine wpAny_bind (m:=field (.ref z) 2) (wpAny_field hw.z_ rfl (x:=.bool false) rfl (wpAny_bind (m:=field (.ref z) 3) (wpAny_field hw.z_ rfl (x:=.ref TI) rfl (wpAny_bind (wpAny_seqItems hw.ti rfl ?_)))));refine wpAny_bind (m:=Builtin.SmallTypes.ownedTupleIsFree (.ref z)) (taken ap hw hT fun h1 w1 k1=>?_);rw [if_neg Bool.false_ne_true];dsimp only;rw [<-Array.forIn_toList];simp only [List.forIn_cons,List.forIn_nil];exact wpAny_bind (wpAny_bind (wpAny_bind (wpAny_holding (wpAny_bind (m:=Builtin.SmallTypes.nextOf (.ref i1)) (over hh w1.j1 w1.t1 hx fun h2 e k2 he=>q h2 e (fun c o c1 _ c3 _ v=>k2 c o c3 ((k1.2 c c1).trans v)) he)))))
end
end Wz
end
section
namespace Wz
open PySem PySem.Spec
theorem five (h:Heap) (a b c d e:Obj) (fa:a.isFreed=false) (fb:b.isFreed=false) (fc:c.isFreed=false) (fd:d.isFreed=false) (fe:e.isFreed=false) :
  (((((h.push a).push b).push c).push d).push e).get? h.objs.size=some a/\(((((h.push a).push b).push c).push d).push e).get? (h.objs.size+1)=some b/\(((((h.push a).push b).push c).push d).push e).get? (h.objs.size+2)=some c/\(((((h.push a).push b).push c).push d).push e).get? (h.objs.size+3)=some d/\(((((h.push a).push b).push c).push d).push e).get? (h.objs.size+4)=some e/\
  (∀x o,h.get? x=some o->(((((h.push a).push b).push c).push d).push e).get? x=some o)/\(((((h.push a).push b).push c).push d).push e).objs.size=h.objs.size+5:=by
 have z1:(h.push a).objs.size=h.objs.size+1:=Heap.size_push ..;have z2:((h.push a).push b).objs.size=h.objs.size+2:=(Heap.size_push ..).trans (by rw [z1]);have z3:(((h.push a).push b).push c).objs.size=h.objs.size+3:=(Heap.size_push ..).trans (by rw [z2]);have z4:((((h.push a).push b).push c).push d).objs.size=h.objs.size+4:=(Heap.size_push ..).trans (by rw [z3]);have up:∀{h:Heap} {x:Addr} {o q:Obj},h.get? x=some o->(h.push q).get? x=some o:=fun e=>Heap.get?_push_of_some _ e
 have g2:=Heap.get?_push_size (h.push a) (o:=b) fb;have g3:=Heap.get?_push_size ((h.push a).push b) (o:=c) fc;have g4:=Heap.get?_push_size (((h.push a).push b).push c) (o:=d) fd;have g5:=Heap.get?_push_size ((((h.push a).push b).push c).push d) (o:=e) fe;rw [z1] at g2;rw [z2] at g3;rw [z3] at g4;rw [z4] at g5;exact ⟨up (up (up (up (Heap.get?_push_size h fa)))),up (up (up g2)),up (up g3),up g4,g5,fun x o q=>up (up (up (up (up q)))),(Heap.size_push ..).trans (by rw [z4])⟩
theorem J8 (t u:Addr) (xs ys:Array Value) :
  Meets (Builtin.«zip.__new__» ⟨[.type "zip",.ref t,.ref u],[]⟩) (fun _ R s=>s.heap.IsTuple t xs/\s.heap.IsTuple u ys/\∀h' n,n=s.heap.objs.size->h'.get? n=some (itO t 0)->h'.get? (n+1)=some (itO u 0)->h'.get? (n+2)=some (prO (.ref n) (.ref (n+1)))->h'.get? (n+3)=some (prO .none .none)->h'.get? (n+4)=some (zpO .none (.bool false) (n+2) (n+3))->
   (∀x o,s.heap.get? x=some o->h'.get? x=some o)->h'.objs.size=n+5->R (.ok (.ret (.ref (n+4)))) {s with heap:=h'}):=
 .of_wp fun prog w A R s hs=>by
  obtain ⟨hp,g,d,tk,os⟩:=s;obtain ⟨ht,hu,q⟩:=hs;have sub:=sub_zip;have p1:Heap.IsTuple (Shared.heap ⟨hp,g,d,tk,os⟩) t xs:=ht;have p2:Heap.IsTuple (Shared.heap ⟨hp.push {cls:=.type "tuple_iterator",data:=.fields #[.ref t,.int 0 0]},g,d,tk,os⟩) u ys:=Heap.IsTuple.push hu _;have f:=five hp (itO t 0) (itO u 0) (prO (.ref hp.objs.size) (.ref (hp.objs.size+1))) (prO .none .none) (zpO .none (.bool false) (hp.objs.size+2) (hp.objs.size+3)) rfl rfl rfl rfl rfl
  wp_walk using wpAny_pyIter_tuple p1,wpAny_pyIter_tuple p2
  refine ⟨_,rfl,?_⟩;have fin:=q _ hp.objs.size rfl f.1 f.2.1 f.2.2.1 f.2.2.2.1 f.2.2.2.2.1 f.2.2.2.2.2.1 f.2.2.2.2.2.2;have gen:∀m1 m2 m3 m4:Nat,m1=hp.objs.size+1->m2=hp.objs.size+2->m3=hp.objs.size+3->m4=hp.objs.size+4->R (.ok (.ret (.ref m4))) ⟨((((hp.push (itO t 0)).push (itO u 0)).push (prO (.ref hp.objs.size) (.ref m1))).push (prO .none .none)).push (zpO .none (.bool false) m2 m3),g,d,tk,os⟩:=by
   intro m1 m2 m3 m4 q1 q2 q3 q4;subst q1 q2 q3 q4;exact fin
  exact gen _ _ _ _ (Heap.size_push ..) ((Heap.size_push ..).trans (congrArg (·+1) (Heap.size_push ..))) ((Heap.size_push ..).trans (congrArg (·+1) ((Heap.size_push ..).trans (congrArg (·+1) (Heap.size_push ..))))) ((Heap.size_push ..).trans (congrArg (·+1) ((Heap.size_push ..).trans (congrArg (·+1) ((Heap.size_push ..).trans (congrArg (·+1) (Heap.size_push ..)))))))
section
variable {prog:Program} {w:World} {A:Around} {E:Value->Shared->Prop} {s:Shared}
theorem T7 {t u:Addr} {xs ys:Array Value} {Q:Value->Shared->Prop} (ht:s.heap.IsTuple t xs) (hu:s.heap.IsTuple u ys)
  (q:∀h' n,n=s.heap.objs.size->h'.get? n=some (itO t 0)->h'.get? (n+1)=some (itO u 0)->h'.get? (n+2)=some (prO (.ref n) (.ref (n+1)))->h'.get? (n+3)=some (prO .none .none)->h'.get? (n+4)=some (zpO .none (.bool false) (n+2) (n+3))->
   (∀x o,s.heap.get? x=some o->h'.get? x=some o)->h'.objs.size=n+5->Q (.ref (n+4)) {s with heap:=h'}) :
  wpAny (model prog w) A (call (.type "zip") [.ref t,.ref u]) Q E s:=
 callType_new F.called_zip (by decide) (F.typeCall_zip_2 _ _) (F.newCall_zip_2 _ _) (fun obj=>F.args_object_init_3 obj _ _) F.entry_zip_new (J8 t u xs ys)
  ⟨ht,hu,fun h' n e a1 a2 a3 a4 a5 k z=>⟨⟨_,a5,rfl⟩,q h' n e a1 a2 a3 a4 a5 k z⟩⟩
end
theorem aBe:typeLookup (.type "zip") "keys" = pure none:=by rw [typeLookup_type,builtinLookup_eq_fast];kernel_rfl
theorem noGet:typeLookup (.type "zip") "__getattr__" = pure none:=by rw [typeLookup_type,builtinLookup_eq_fast];kernel_rfl
theorem aBf:entryFor table "zip.__getattribute__" = some Builtin.«object.__getattribute__»:=entryFor_alias (id' := "object.__getattribute__") (by kernel_rfl) (by decide +kernel) (by decide +kernel) (by kernel_rfl)
theorem xK (a:Addr) (f0 f1:Value) (TI TO:Addr) (u:Tok):Meets (Builtin.«object.__getattribute__» ⟨[.ref a,.str "keys" u],[]⟩) (fun A R s=>s.heap.get? a=some (zpO f0 f1 TI TO)/\raisesAttr (.ref a) "keys" A R s):=.of_wp fun prog w A R s hs=>by
 obtain ⟨hp,g,d,tk,os⟩:=s;obtain ⟨e,hh,q⟩:=hs;have ty:(⟨hp,g,d,tk,os⟩:Shared).TypeIs (.ref a) "zip":=⟨_,e,rfl⟩
 have no:=aBe
 wp_walk
 exact wpAny_raiseAttrError hh q (attrMsg_fits (by decide +kernel) (by size_fits))
section
variable {prog:Program} {w:World} {A:Around} {E:Value->Shared->Prop} {hp:Heap} {g:Array GenState} {d:Drawn} {tk:Nat} {os:OsState} {a TI TO:Addr} {f0 f1:Value}
theorem gone {u:Tok} {kw:List (Str×Value)} {Q:Value->Shared->Prop} (e:hp.get? a=some (zpO f0 f1 TI TO)) (hh:A.handled=none) (hk:kw=[]) (q:∀h' tk' x,Heap.NewAttrErr hp h' x (.ref a) "keys"->E (.ref x) ⟨h',g,d,tk',os⟩) :
  wpAny (model prog w) A (call (.builtin "zip.__getattribute__") ([.ref a]++[.str "keys" u]) kw) Q E ⟨hp,g,d,tk,os⟩:=by
 subst hk;exact call_meets F.slot_zip_getattribute ⟨_,e,rfl⟩ aBf (F.args_zip_getattribute_2 _ _) (xK a f0 f1 TI TO u) ⟨e,hh,fun h' tk' x hx=>q h' tk' x hx⟩
theorem lacks {Q:Option Value->Shared->Prop} (e:hp.get? a=some (zpO f0 f1 TI TO)) (hh:A.handled=none) (q:∀h' tk',(∀b o,hp.get? b=some o->h'.get? b=some o)->Q none ⟨h',g,d,tk',os⟩):wpAny (model prog w) A (getAttr? (.ref a) "keys") Q E ⟨hp,g,d,tk,os⟩:=by
 have ty:∀tk',(⟨hp,g,d,tk',os⟩:Shared).TypeIs (.ref a) "zip":=fun _=>⟨_,e,rfl⟩
 have f3:=F.slot_zip_getattribute.lookup;have f4:=F.slot_zip_getattribute.bind (.ref a);have f5:=noGet;have sub:=sub_AttributeError
 wp_walk using gone e hh
 case hk=>rfl
 intro h' tk' x hx;obtain ⟨t,u,ex⟩:=hx.there;show wpAny _ _ (getattributeRaised _ _ _ _ _ _ _) _ _ _
 wp_walk
 exact q _ _ hx.keeps
end
end Wz
end
section
namespace Wz
open PySem PySem.Spec
noncomputable def ZS (z TI TO i1 i2 l1 l2:Addr) (o1 o2:Obj) (k:Nat) (h:Heap):Prop:=∃f0 f1 a b,W z TI TO i1 i2 l1 l2 o1 o2 f0 f1 a b k k h/\
 ((f0=.none/\f1=.bool false)\/∃(T:Addr) (bb:Bool) (u v:Value),f0=rawInt T/\f1=.bool bb/\h.get? T=some (prO u v)/\T≠z/\T≠TO/\T≠i1/\T≠i2)
section
variable {prog:Program} {w:World} {A:Around} {E:Value->Shared->Prop} {s:Shared} {z TI TO i1 i2 l1 l2 d:Addr} {n1 n2:Nat} {d1 d2:Option Addr} {s1 s2:Array (Option Value)} {x y:Value} {k:Nat} {xs ys:Array Value}
theorem apart {h:Heap} {c d:Addr} {o od:Obj} {T:String} (e:h.get? c=some o) (hc:o.cls=.type T) (ed:h.get? d=some od) (hd:od.cls=.type "dict") (ne:(Value.type T==Value.type "dict")=false):c≠d:=fun q=>by
 subst q;rw [e] at ed;cases ed;rw [hc] at hd;rw [hd] at ne;simp at ne
theorem ZS.keep {h h':Heap} {od:Obj} (Z:ZS z TI TO i1 i2 l1 l2 (tuO xs n1 d1 s1) (tuO ys n2 d2 s2) k h) (ed:h.get? d=some od) (hd:od.cls=.type "dict") (e:∀c o,c≠d->h.get? c=some o->h'.get? c=some o):ZS z TI TO i1 i2 l1 l2 (tuO xs n1 d1 s1) (tuO ys n2 d2 s2) k h':=by
 obtain ⟨f0,f1,a,b,hw,hf⟩:=Z;refine ⟨f0,f1,a,b,⟨e _ _ (apart hw.z_ rfl ed hd (by decide)) hw.z_,e _ _ (apart hw.ti rfl ed hd (by decide)) hw.ti,e _ _ (apart hw.to rfl ed hd (by decide)) hw.to,e _ _ (apart hw.j1 rfl ed hd (by decide)) hw.j1,e _ _ (apart hw.j2 rfl ed hd (by decide)) hw.j2,e _ _ (apart hw.t1 rfl ed hd (by decide)) hw.t1,e _ _ (apart hw.t2 rfl ed hd (by decide)) hw.t2⟩,?_⟩;rcases hf with hf|⟨T,bb,u,v,h1,h2,h3,h4⟩
 ·exact .inl hf
 ·exact .inr ⟨T,bb,u,v,h1,h2,e _ _ (apart h3 rfl ed hd (by decide)) h3,h4⟩
theorem XS {Q:Option Value->Shared->Prop} (ap:Apart z TI TO i1 i2 l1 l2) (Z:ZS z TI TO i1 i2 l1 l2 (tuO xs n1 d1 s1) (tuO ys n2 d2 s2) k s.heap) (hx:xs[k]?=some x) (hy:ys[k]?=some y)
  (q:∀h' p,ZS z TI TO i1 i2 l1 l2 (tuO xs n1 d1 s1) (tuO ys n2 d2 s2) (k+1) h'->h'.get? p=some (prO x y)->Q7 z TO i1 i2 s.heap h'->Q (some (.ref p)) {s with heap:=h'}):wpAny (model prog w) A (pyNext (.ref z)) Q E s:=by
 obtain ⟨f0,f1,a,b,hw,hf⟩:=Z;refine wpAny_bind (wpAny_attempt (wpAny_callSpecial?_slot hw.ty F.slot_zip_next (wpAny_call_entry F.slot_zip_next hw.ty F.entry_zip_next ?_ (F.args_zip_next_1 _))));rcases hf with ⟨rfl,rfl⟩|⟨T,bb,u,v,rfl,rfl,hT,t1,t2,t3,t4⟩
 ·refine first ap hw hx hy fun h' p w' ep pp sd=>wpAny_pure (q h' p ⟨_,_,_,_,w',.inr ⟨p,false,x,y,rfl,rfl,ep,?_⟩⟩ ep sd)
  subst pp;have lt:∀{c o},s.heap.get? c=some o->s.heap.objs.size≠c:=fun e=>Nat.ne_of_gt (Heap.lt_size e)
  exact ⟨lt hw.z_,lt hw.to,lt hw.j1,lt hw.j2⟩
 ·exact more ap hw hT hx hy fun h' p w' ep sd=>wpAny_pure (q h' p ⟨_,_,_,_,w',.inr ⟨T,true,u,v,rfl,rfl,sd _ _ t1 t2 t3 t4 hT,t1,t2,t3,t4⟩⟩ ep sd)
theorem T8 {Q:Option Value->Shared->Prop} (hh:A.handled=none) (ap:Apart z TI TO i1 i2 l1 l2) (Z:ZS z TI TO i1 i2 l1 l2 (tuO xs n1 d1 s1) (tuO ys n2 d2 s2) k s.heap) (hx:xs[k]?=none)
  (q:∀h',Q7 z TO i1 i2 s.heap h'->Q none {s with heap:=h'}):wpAny (model prog w) A (pyNext (.ref z)) Q E s:=by
 obtain ⟨f0,f1,a,b,hw,hf⟩:=Z;refine wpAny_bind (wpAny_attempt (wpAny_callSpecial?_slot hw.ty F.slot_zip_next (wpAny_call_entry F.slot_zip_next hw.ty F.entry_zip_next ?_ (F.args_zip_next_1 _))));have stop:∀h' e,Q7 z TO i1 i2 s.heap h'->(∃o,h'.get? e=some o/\o.cls=.type "StopIteration")->wpAny (model prog w) A (do if <- isInstance (.ref e) (.type "StopIteration") then pure none else throw (.ref e)) Q E {s with heap:=h'}:=fun h' e sd he=>wpAny_bind (wpAny_isInstance (T := "StopIteration") (b:=true) he isSubtype_stop (wpAny_pure (q h' sd)))
 rcases hf with ⟨rfl,rfl⟩|⟨T,bb,u,v,rfl,rfl,hT,_⟩
 ·exact Q8 hh ap hw hx fun h' e sd he=>stop h' e sd he
 ·exact XR hh ap hw hT hx fun h' e sd he=>stop h' e sd he
end
theorem u5:entryFor table "dict.update.loop" = some Builtin.«dict.update.loop»:=entryFor_of_tree (by kernel_rfl)
section
variable {prog:Program} {w:World} {K:Type} [DecidableEq K] {knd:KeyKind prog w K} {A:Around} {R:Except Value Flow->Shared->Prop} {z TI TO i1 i2 l1 l2 d:Addr} {n1 n2:Nat} {d1 d2:Option Addr} {s1 s2:Array (Option Value)} {xs ys:Array Value} {ks:List K}
theorem Q9 (hh:A.handled=none) (ap:Apart z TI TO i1 i2 l1 l2) (hdz:d≠z) (hdT:d≠TO) (hd1:d≠i1) (hd2:d≠i2) (hsz:ys.size=xs.size) (hk:∀(i:Nat) (x:Value),xs[i]?=some x->∃k,ks[i]?=some k/\knd.is k x=true) :
  ∀(m k:Nat) (s:Shared) (kvs:List (K×Value)),k+m=xs.size->kvs.length+m<=sizeLine->ZS z TI TO i1 i2 l1 l2 (tuO xs n1 d1 s1) (tuO ys n2 d2 s2) k s.heap->s.heap.DictOf knd d kvs->
  (∀h' tk,h'.DictOf knd d (merged kvs ((ks.zip ys.toList).drop k))->(∀c o,c≠d->c≠z->c≠TO->c≠i1->c≠i2->s.heap.get? c=some o->h'.get? c=some o)->R (.ok (.ret .none)) {s with heap:=h',toks:=tk})->
  codeAny (model prog w) A (.builtin "dict.update.loop" ⟨[.ref d,.ref z,rawInt k,.none],[]⟩) R s:=by
 intro m;induction m with
 | zero=>
  intro k s kvs hkm hl Z hd q;refine codeAny_builtin u5 ?_;rw [Around.under_plainId (show plainId "dict.update.loop" = true by decide +kernel) _];refine wpAny_bind (m:=pyNext (.ref z)) (T8 hh ap Z (Array.getElem?_eq_none (by lia)) fun h' kp=>?_);refine wpAny_bind (m:=Builtin.Dict.addKeywords d []) ?_;unfold Builtin.Dict.addKeywords;rw [List.forIn_nil];refine wpAny_bind (wpAny_pure (wpAny_pure (wpAny_pure ?_)));have e:(ks.zip ys.toList).drop k=[]:=List.drop_eq_nil_of_le (by rw [List.length_zip];have:ys.toList.length=ys.size:=Array.length_toList;lia);rw [e] at q;obtain ⟨o,es,ep,ho,r⟩:=hd;exact q _ s.toks ⟨o,es,ep,kp d o hdz hdT hd1 hd2 ho,r⟩ fun c o _ c1 c2 c3 c4 e=>kp c o c1 c2 c3 c4 e
 | succ m ih=>
  intro k s kvs hkm hl Z hd q;have hlt:k<xs.size:=by lia
  have hlt2:k<ys.size:=by lia
  have hx:xs[k]?=some xs[k]:=Array.getElem?_eq_getElem hlt;have hy:ys[k]?=some ys[k]:=Array.getElem?_eq_getElem hlt2;obtain ⟨key,hkey,his⟩:=hk k _ hx;refine codeAny_builtin u5 ?_;rw [Around.under_plainId (show plainId "dict.update.loop" = true by decide +kernel) _];refine wpAny_bind (m:=pyNext (.ref z)) (XS ap Z hx hy fun h' p Z' hp kp=>?_);refine wpAny_bind (wpAny_holding (wpAny_bind (wpAny_tryCatch ?_)));refine wpAny_bind (wpAny_typeOf (T := "tuple") ⟨_,hp,rfl⟩ ?_);rw [if_pos (by decide)];refine wpAny_bind (wpAny_seqItems hp rfl (wpAny_pure ?_));show wpAny _ _ (holding [xs[k],ys[k]] (dictSet d xs[k] ys[k])) _ _ _;have hd':h'.DictOf knd d kvs:=let ⟨o,es,ep,ho,r⟩:=hd;⟨o,es,ep,kp d o hdz hdT hd1 hd2 ho,r⟩
  obtain ⟨od,es,ep,ho,hc,_⟩:=id hd';refine wpAny_holding (wpAny_dictSet_pairs his hd' (fun h2 hd2' sb=>?_) (by lia));refine wpAny_pure ⟨Code.quiet_builtin _ (by decide +kernel),?_⟩;have ek:(rawInt (k+1):Value)=rawInt ((k+1:Nat):Int):=rfl;rw [ek];have hzip:(ks.zip ys.toList).drop k=(key,ys[k])::(ks.zip ys.toList).drop (k+1):=by
   have hlz:(ks.zip ys.toList)[k]?=some (key,ys[k]):=by
    rw [List.getElem?_zip_eq_some];exact ⟨hkey,by rw [Array.getElem?_toList];exact hy⟩
   obtain ⟨h1,h2⟩:=List.getElem?_eq_some_iff.mp hlz;rw [List.drop_eq_getElem_cons h1,h2]
  have ls:(stored kvs key ys[k]).length<=kvs.length+1:=by
   unfold stored;split
   ·rw [List.length_map];lia
   ·rw [List.length_append];exact Nat.le_refl _
  refine ih (k+1) _ (stored kvs key ys[k]) (by lia) (by lia) (Z'.keep ho hc.1 fun c o hcd e=>(sb.2 c hcd).trans e) hd2' fun h3 tk hd3 kp3=>?_
  refine q h3 tk (by rw [hzip];exact hd3) fun c o c0 c1 c2 c3 c4 e=>kp3 c o c0 c1 c2 c3 c4 ((sb.2 c c0).trans (kp c o c1 c2 c3 c4 e))
end
section
variable {prog:Program} {w:World} {K:Type} [DecidableEq K] {knd:KeyKind prog w K} {A:Around} {E:Value->Shared->Prop} {hp:Heap} {g:Array GenState} {dr:Drawn} {tk:Nat} {os:OsState} {z TI TO i1 i2 l1 l2:Addr} {n1 n2:Nat} {d1 d2:Option Addr} {s1 s2:Array (Option Value)} {xs ys:Array Value} {ks:List K}
theorem Q_ {Q:Value->Shared->Prop} (hh:A.handled=none) (ap:Apart z TI TO i1 i2 l1 l2) {a b:Value} (hw:W z TI TO i1 i2 l1 l2 (tuO xs n1 d1 s1) (tuO ys n2 d2 s2) .none (.bool false) a b 0 0 hp) (hsz:ys.size=xs.size) (hxs:xs.size<=1000) (hk:∀(i:Nat) (x:Value),xs[i]?=some x->∃k,ks[i]?=some k/\knd.is k x=true)
  (q:∀h' tk',h'.DictOf knd hp.objs.size (merged [] (ks.zip ys.toList))->Q7 z TO i1 i2 hp h'->Q (.ref hp.objs.size) ⟨h',g,dr,tk',os⟩) :
  wpAny (model prog w) A (call (.type "dict") [.ref z]) Q E ⟨hp,g,dr,tk,os⟩:=by
 have hnew:(hp.push {cls:=.type "dict",data:=.dict #[]}).DictOf knd hp.objs.size []:=Heap.DictOf.new hp;have up:∀c o,hp.get? c=some o->(hp.push {cls:=.type "dict",data:=.dict #[]}).get? c=some o:=fun c o e=>Heap.get?_push_of_some _ e
 have lt:∀{c o},hp.get? c=some o->hp.objs.size≠c:=fun e=>Nat.ne_of_gt (Heap.lt_size e)
 refine callType_codes (Q₁:=fun v s₁=>v=.ref hp.objs.size/\s₁=⟨hp.push {cls:=.type "dict",data:=.dict #[]},g,dr,tk,os⟩) F.kt_called_dict (F.kt_typeCall_dict_1 _) F.entry_dict_init (kt_code_dict_new _ ⟨rfl,rfl⟩) fun v s₁ hv=>?_
 obtain ⟨rfl,rfl⟩:=hv;have ty:(⟨hp.push {cls:=.type "dict",data:=.dict #[]},g,dr,tk,os⟩:Shared).TypeIs (.ref hp.objs.size) "dict":=hnew.typeIs;have ez:=up _ _ hw.z_;have tz:(⟨hp.push {cls:=.type "dict",data:=.dict #[]},g,dr,tk,os⟩:Shared).TypeIs (.ref z) "zip":=⟨_,ez,rfl⟩
 refine ⟨ty,F.args_dict_init_2 _ _,wpAny_bind (m:=Builtin.Dict.selfAndRest "__init__" _) (wpAny_bind (wpAny_notOrdered_dict ty (wpAny_pure ?_)))⟩;refine wpAny_bind (m:=typeOf (.ref z)) (wpAny_typeOf tz ?_);rw [if_pos (by decide)];refine wpAny_bind (lacks ez hh fun h' tk' kp=>?_);rw [if_pos (show (none:Option Value).isNone=true from rfl)];refine wpAny_bind (wpAny_rule (wpAny_bind (wpAny_pyIter_zip (TI:=TI) (TO:=TO) (f0:=.none) (kp _ _ ez) (wpAny_pure ⟨Code.quiet_builtin _ (by decide +kernel),?_⟩))));have hd':h'.DictOf knd hp.objs.size []:=let ⟨o,es,ep,ho,r⟩:=hnew;⟨o,es,ep,kp _ _ ho,r⟩
 refine Q9 (A:=A.in1) (ks:=ks) (show A.in1.handled=none from hh) ap (lt hw.z_) (lt hw.to) (lt hw.j1) (lt hw.j2) hsz hk xs.size 0 ⟨h',g,dr,tk',os⟩ [] (by lia) (by rw [List.length_nil,sizeLine_eq];lia) ⟨_,_,_,_,hw.up fun c o _ e=>kp c o (up c o e),.inl ⟨rfl,rfl⟩⟩ hd' fun h2 tk2 hd2 kp2=>?_
 exact ⟨rfl,q h2 tk2 hd2 fun c o c1 c2 c3 c4 e=>kp2 c o (fun x=>lt e x.symm) c1 c2 c3 c4 (kp c o (up c o e))⟩
end
end Wz
end
section
namespace Mi
open PySem L2 PySem.SeqAt PySem.Spec PyProof.Rows
variable [KFrag]
theorem boot_zip:bootBuiltins "zip" = some (.type "zip"):=by decide +kernel
theorem RB:bootBuiltins "dict" = some (.type "dict"):=by decide +kernel
theorem J9 {P:Addr->Prop} {H:Hp} {pr:Program} {w:World}:∀{vs:List V} {us:List Value} {ds:List D},bK P H vs ds->Vals vs us->ds.all j_=true->∃ks:List Key,ks.map kD=ds/\ks.length=us.length/\∀(i:Nat) (u:Value),us[i]?=some u->∃k,ks[i]?=some k/\(cT pr w).is k u=true
 | _,_,_,.nil,.nil,_=>⟨[],rfl,rfl,fun i u h=>by simp at h⟩
 | v::vs,u::us,d::ds,.cons r t,.cons rv tv,h=>by
  rw [List.all_cons,Bool.and_eq_true] at h;obtain ⟨ks,h1,h2,h3⟩:=J9 (pr:=pr) (w:=w) t tv h.2;obtain ⟨k,hk1,hk2⟩:∃k:Key,kD k=d/\(cT pr w).is k u=true:=by
   cases r with
   | int i=>exact ⟨.inl i,rfl,uH (k:=.inl i) rv⟩
   | str x=>exact ⟨.inr x,rfl,uH (k:=.inr x) rv⟩
   | _=>cases h.1
  refine ⟨k::ks,by rw [List.map_cons,hk1,h1],by rw [List.length_cons,List.length_cons,h2],fun i u' hu=>?_⟩;cases i with
  | zero=>simp at hu;subst hu;exact ⟨k,rfl,hk2⟩
  | succ i=>exact h3 i u' (by simpa using hu)
theorem zL {P:Addr->Prop} {H:Hp} {k:Key} {v:V} {d:D} (r:Rep P H v d):∀{kvs:List (Key×V)} {ds:List (D×D)},j7 P H kvs ds->(kvs.map (·.1)).Nodup->j7 P H (putK kvs k v) (putD ds (kD k) d)
 | _,_,.nil,_=>.cons r .nil
 | _,_,.cons (k:=k') (v:=v') (r:=kvs) (ds:=ds) r' t,hn=>by
  rw [List.map_cons,List.nodup_cons] at hn;rw [putD,JL];by_cases h:k'=k
  ·rw [rZ h (by rw [<-h];exact hn.1),if_pos (decide_eq_true h),h];exact .cons r t
  ·rw [sE h,if_neg (by simpa using h)];exact .cons r' (zL r t hn.2)
theorem zM {P:Addr->Prop} {H:Hp}:∀{ks:List Key} {vs:List V} {ds:List D} {kvs:List (Key×V)} {es:List (D×D)},bK P H vs ds->j7 P H kvs es->(kvs.map (·.1)).Nodup->j7 P H (gU kvs (ks.zip vs)) (m7 (ks.map kD) ds es)/\((gU kvs (ks.zip vs)).map (·.1)).Nodup
 | [],_,_,_,_,_,r,n=>by
  rw [List.zip_nil_left];exact ⟨by cases ‹List D› <;> exact r,n⟩
 | k::ks,_,_,kvs,es,.nil,r,n=>⟨r,n⟩
 | k::ks,_,_,kvs,es,.cons rv tv,r,n=>zM (ks:=ks) tv (zL rv r n) (jC n)
theorem aBg {vs:List V} {us:List Value} (r:Vals vs us):∀ks:List Key,KV (ks.zip vs) (ks.zip us):=by
 induction r with
 | nil=>intro ks;rw [List.zip_nil_right,List.zip_nil_right];exact .nil
 | cons h t ih=>
  intro ks;cases ks with
  | nil=>exact .nil
  | cons k ks=>exact .cons ⟨rfl,h⟩ (ih ks)
theorem u9 {n l m:Nat} (hl:l<n) (hm:m<n):Wz.Apart (n+4) (n+2) (n+3) n (n+1) l m:=by
 constructor <;> (intro h;replace h:@Eq Nat _ _:=h;lia)
section
variable {X:Cx} {a b:Expr} {fs:FA} {rr:Bool} {p p2 pos pos2:Pos}
theorem XX (hg:Gl X "dict") (hm:X.mg "dict" = none) (hg2:Gl X "zip") (hm2:X.mg "zip" = none) (ha:PA X [a,b] (gA fs rr)) (hc:X.calm=true:=by rfl) (hs2:starEach [a,b] X.env=(false,eval a X.env)::starEach [b] X.env:=by rfl) (hpl2:(backTo pos2 (starEach [b] X.env)).any (·.1)=false:=by rfl)
  (hs:starEach [.Call (.Name "zip" p2) [a,b] [] pos2] X.env=(false,eval (.Call (.Name "zip" p2) [a,b] [] pos2) X.env)::starEach [] X.env:=by rfl) :
  PE X (.Call (.Name "dict" p) [.Call (.Name "zip" p2) [a,b] [] pos2] [] pos) (gE (bA J7 fs) true):=by
 intro pins s σ H Q I ⟨ρ,d,E,h,q⟩;obtain ⟨xs,h1,h2⟩:=aY h;unfold J7 at h2;split at h2
 ·rename_i xs ys;split at h2
  ·rename_i hb;cases h2;simp only [Bool.and_eq_true,decide_eq_true_eq] at hb;obtain ⟨⟨⟨hb1,hb2⟩,hb3⟩,hb4⟩:=hb;refine wpAny_Call_Name_kw (mK I hg hm RB ?_);refine PyProof.Rows.callWith_type1 ?_ hs rfl;rw [hs];show wpAny _ _ (spliced ((false,eval (.Call (.Name "zip" p2) [a,b] [] pos2) X.env)::backTo pos (starEach [] X.env))) _ _ s;refine Calls.spliced_cons ?_;refine wpAny_Call_Name_kw (mK I hg2 hm2 boot_zip ?_);refine PyProof.Rows.callWith_type1 (thn (ha pos2 pins s σ H (fun vs H1=>cD H H1/\bK All H1 vs [.tup xs,.tup ys]) I ⟨ρ,_,E,h1,fun vs H1 s1 r1 _=>⟨s1,r1⟩⟩) fun us s1 ⟨vs,H1,I1,r1,sm,rp⟩=>?_) hs2 hpl2;cases rp with
   | cons rp1 rp=>
    cases rp with
    | cons rp2 rp=>
     cases rp;obtain ⟨l1,vs1,rfl,e1,rr1⟩:=rp1.dY;obtain ⟨l2,vs2,rfl,e2,rr2⟩:=rp2.dY;cases r1 with
     | cons q1 r1=>
      cases r1 with
      | cons q2 r1=>
       cases r1;cases q1;cases q2;obtain ⟨its1,w1,p1,_⟩:=I1.tuple (.of e1);obtain ⟨its2,w2,p2,_⟩:=I1.tuple (.of e2);have t1:s1.heap.IsTuple l1 its1.toArray:=p1;have t2:s1.heap.IsTuple l2 its2.toArray:=p2;obtain ⟨⟨c1,dd1,da1,sl1⟩,g1,hc1,m1,hd1⟩:=id p1;obtain ⟨⟨c2,dd2,da2,sl2⟩,g2,hc2,m2,hd2⟩:=id p2;simp only at hc1 hd1 hc2 hd2;subst hc1 hd1 hc2 hd2;have hl1:=Heap.lt_size g1;have hl2:=Heap.lt_size g2;refine Wz.T7 t1 t2 fun h' n hn z1 z2 z3 z4 z5 kp zsz=>?_
       subst hn;refine Calls.spliced_nil ?_;have n1:=w1.length;have n2:=w2.length;have m1:=rr1.length;have m2:=rr2.length;obtain ⟨ks,k1,k2,k3⟩:=J9 (pr:=X.prog) (w:=X.w) rr1 w1 hb3;refine Wz.Q_ (knd:=cT X.prog X.w) (ks:=ks) (I1.ok.hd hc) (u9 hl1 hl2) ⟨z5,z3,z4,z1,z2,kp _ _ g1,kp _ _ g2⟩ (by simp only [List.size_toArray];lia) (by simp only [List.size_toArray];lia) (fun i u hu=>k3 i u (by simpa using hu)) fun h2 tk dd kp2=>?_
       have hfr:H1 h'.objs.size=none:=I1.hok.fresh (by rw [zsz];lia);have kall:∀c o,s1.heap.get? c=some o->h2.get? c=some o:=fun c o e=>by
        have:=Heap.lt_size e;exact kp2 c o (Nat.ne_of_lt (Nat.lt_of_lt_of_le this (Nat.le_add_right _ 4))) (Nat.ne_of_lt (Nat.lt_of_lt_of_le this (Nat.le_add_right _ 3))) (Nat.ne_of_lt this) (Nat.ne_of_lt (Nat.lt_of_lt_of_le this (Nat.le_add_right _ 1))) (kp c o e)
       have rel:KV (gU [] (ks.zip vs2)) (merged [] (ks.zip its2)):=(aBg w2 ks).merge .nil;have hz:(gU [] (ks.zip vs2)).length<=sizeLine:=by
        have:=jH (ks.zip vs2) [];rw [List.length_nil,List.length_zip] at this;rw [sizeLine_eq];lia
       obtain ⟨rk,nd⟩:=zM (ks:=ks) (P:=All) (rr2) j7.nil List.nodup_nil;rw [k1] at rk;have sp:cD H1 (upd H1 h'.objs.size (.dK (gU [] (ks.zip vs2)))):=cD.upd hfr;have pv:D.aV ((m7 xs ys []).map (·.2))=true:=by
        have go:∀(a b:List D) (m:List (D×D)),D.aV b=true->D.aV (m.map (·.2))=true->D.aV ((m7 a b m).map (·.2))=true:=by
         intro a;induction a with
         | nil=>intro b m _ hm;cases b <;> exact hm
         | cons x a ih=>
          intro b m hb hm;cases b with
          | nil=>exact hm
          | cons y b=>
           rw [D.aV,Bool.and_eq_true] at hb;refine ih b _ hb.2 ?_;have hp:=lH (ds:=m) (k:=x) hb.1 hm;exact hp
        exact go xs ys [] hb4 rfl
       have rk2:∀{P:Addr->Prop},j7 P (upd H1 h'.objs.size (.dK (gU [] (ks.zip vs2)))) (gU [] (ks.zip vs2)) (m7 xs ys []):=fun {P}=>(rk.keep (.same sp) fun _ h=>h).bJ pv
       refine ⟨.ref h'.objs.size,_,I1.laid (a:=h'.objs.size) (t':=tk) (o:=.dK (gU [] (ks.zip vs2))) kall (by rw [zsz];lia) (yI hz (beq_eq_false_iff_ne.mpr ?_) rel (by simpa using dd)),rfl,?_⟩
       ·exact Ne.symm (Nat.ne_of_lt (Nat.lt_of_lt_of_le I1.big (by rw [zsz];exact Nat.le_add_right _ 5)))
       ·exact q _ _ (sm.trans sp) (.dK aP trivial rk2 nd) fun _=>.dK aP (sm.free hfr) rk2 nd
  ·cases h2
 ·cases h2
end
end Mi
end
section
namespace Mi
open PySem L2 PySem.SeqAt PySem.Spec PyProof.Rows
noncomputable def DG (i j:Nat):FS:=fun ρ=>match ρ.getD i .uD with
 | .lst xs=>(match xs[xs.length-1]? with|some x=>.ok (.nx ((ρ.set i (.lst xs.dropLast)).set j x))|none=>.bad)
 | _=>.bad
noncomputable def X3 (i:Nat) (f:FE):FS:=fun ρ=>do
 let d <- f ρ
 match ρ.getD i .uD,d with
 | .lst xs,.lst ys=>if decide (xs.length+ys.length<=lim)&&D.aV ys then .ok (.nx (ρ.set i (.lst (xs++ys)))) else .bad
 | _,_=>.bad
variable [KFrag]
section
variable {X:Cx} {own:Nat->Bool} {e:Expr} {fe:FE} {re:Bool} {pos:Pos}
theorem X4 {i j:Nat} {x y:Str} {p1 py apos cpos:Pos} (ho:own i=true) (hN:X.N[i]?=some x) (hv:Vis X.env.scope x) (hnd:X.N.Nodup) (hj:X.N[j]?=some y) (hy:Loc X.env.scope y) (hoj:own j=false) (hd:nDb x:=by decide) (hcd:nCd x:=by decide)
  (hbase:attributeBase (.Name x p1) "pop" X.env (eval (.Name x p1) X.env)=eval (.Name x p1) X.env:=by rfl)
  (hline:(apos.endLine==cpos.line)=true:=by rfl)
  (hs:swapsWith (.Call (.Attribute (.Name x p1) "pop" apos) [] [] cpos) (some (.Name y py)) pos.line X.env=pure false:=by rfl) (hf:X.fn y=true\/X.env.scope.names.lookup y=some .local:=by first|exact .inl rfl|exact .inr rfl|assumption) :
  PS X (.Assign [.Name y py] (.Call (.Attribute (.Name x p1) "pop" apos) [] [] cpos) pos) (tS own (DG i j)):=
 PS.imp (GZ hnd hj hy (S7 PySem.F.plainAttrs_list PySem.F.slot_list_pop PySem.F.type_list_pop S8 (eV hN hv hd hcd) hbase hline) hs hf) fun D' σ H ⟨ρ,fl,E,h,q⟩=>by
 unfold DG at h;split at h
 ·rename_i xs hx;split at h
  ·rename_i dx hdx;cases h;obtain ⟨a,o,hσ,r,hin,ha,hm⟩:=E.ownAt ho (by rw [hx];intro z;cases z);rw [hx] at r hin;obtain ⟨vs,hl,rr⟩:=zG r;obtain ⟨v,hvx,rv⟩:=rr.get hdx;have hlen:=rr.length;refine ⟨_,hσ,.inl ⟨rfl,vs,.of hl⟩,a,vs,v,rfl,rfl,hl,by rw [hlen];exact hvx,?_⟩;have hin':D.aV xs=true:=hin;have pall:∀y∈xs,y.pure=true:=fun y hy=>eO.mp hin' y hy
   have pdx:dx.pure=true:=pall dx (List.mem_of_getElem? hdx);have pe:D.aV xs.dropLast=true:=eO.mpr fun y hy=>pall y (List.dropLast_subset _ hy)
   have er:bK All H vs.dropLast xs.dropLast:=by
    rw [List.dropLast_eq_take,List.dropLast_eq_take,hlen];exact rr.take _
   obtain ⟨E2,k2⟩:=E.mut (o:=.lst vs.dropLast) (d:=.lst xs.dropLast) ho hσ rfl (.lst aP trivial (er.upd pe hl rfl)) pe;have r1:=(bK.cons rv .nil).upd (o:=.lst vs.dropLast) (by rw [D.aV,pdx];rfl) hl rfl;cases r1 with
   | cons r1 _=>
    have E3:=E2.set hoj (v:=v) (d:=dx) (r1.bJ pdx);exact q _ _ (k2.trans fun b ob eb nb=>⟨eb,by rw [mC hoj];exact nb⟩) E3
  ·cases h
 ·cases h
theorem T9 {i:Nat} {x:Str} {p1 apos cpos:Pos} (ho:own i=true) (hN:X.N[i]?=some x) (hv:Vis X.env.scope x) (he:PE X e (gE fe re)) (hd:nDb x:=by decide) (hcd:nCd x:=by decide)
  (hbase:attributeBase (.Name x p1) "extend" X.env (eval (.Name x p1) X.env)=eval (.Name x p1) X.env:=by rfl)
  (hs1:starEach [e] X.env=(false,eval e X.env)::starEach [] X.env:=by rfl)
  (hfew:((backTo cpos (starEach [e] X.env)).all (fun x=>!x.1)&&(backToKw cpos (keywordEach [] X.env)).all (fun x=>x.1.isSome)
   && decide (([e]:List Expr).length+([]:List Keyword).length+(if ([]:List Keyword).isEmpty then 0 else 1)<30))=true:=by rfl)
  (hline:(apos.endLine==cpos.line)=true:=by rfl)
  (hs:swapsWith (.Call (.Attribute (.Name x p1) "extend" apos) [e] [] cpos) none pos.line X.env=pure false:=by rfl) :
  PS X (.Expr (.Call (.Attribute (.Name x p1) "extend" apos) [e] [] cpos) pos) (tS own (X3 i fe)):=
 PS.imp (rM (V7 PySem.F.plainAttrs_list PySem.F.slot_list_extend PySem.F.type_list_extend HJ (eV hN hv hd hcd) (dO he mR hs1) hbase hfew hline hs1 rfl) hs) fun D' σ H ⟨ρ,fl,E,h,q⟩=>by
 obtain ⟨d,h1,h2⟩:=aY h;split at h2
 ·rename_i xs ys hx;split at h2
  ·rename_i hk;cases h2;rw [Bool.and_eq_true,decide_eq_true_eq] at hk;obtain ⟨a,o,hσ,r,hin,ha,hm⟩:=E.ownAt ho (by rw [hx];intro z;cases z);rw [hx] at r hin;obtain ⟨vs,hl,rr⟩:=zG r;refine ⟨_,hσ,.inl ⟨rfl,vs,.of hl⟩,ρ,_,E.er,h1,fun v H' s rv _=>?_⟩;cases rv with
   | @lst b zs _ hb _ rz=>
    have E':=E.same s;have hl':=s _ _ hl;refine ⟨a,b,vs,zs,rfl,rfl,hl',hb,by rw [rr.length,rz.length];exact Nat.le_trans hk.1 (by rw [sizeLine_eq];decide),?_⟩;have hp:D.aV (xs++ys)=true:=by rw [pM,Bool.and_eq_true];exact ⟨hin,hk.2⟩
    obtain ⟨E2,k2⟩:=E'.mut (o:=.lst (vs++zs)) (d:=.lst (xs++ys)) ho hσ rfl (.lst aP trivial (((rr.same s).append rz).upd hp hl' rfl)) hp;exact q _ _ ((KU.same s).trans k2) E2
  ·cases h2
 ·cases h2
end
end Mi
end
section
namespace Ws
open PySem PySem.Spec PySem.Builtin PySem.Builtin.Str
end Ws
namespace Mi
open PySem L2 PySem.SeqAt PySem.Spec PyProof.Rows
variable [KFrag]
end Mi
end
section
namespace Ws
open PySem PySem.Spec PySem.Builtin PySem.SeqAt PyProof.Rows
section
variable {prog:Program} {w:World} {A:Around} {E:Value->Shared->Prop} {s:Shared}
end
end Ws
namespace Mi
open PySem L2 PySem.SeqAt PySem.Spec PyProof.Rows
variable [KFrag]
section
variable {X:Cx}
end
end Mi
end
section
namespace Wz
open PySem PySem.Spec
section
variable {prog:Program} {w:World} {A:Around} {E:Value->Shared->Prop} {s:Shared} {z TI TO i1 i2 l1 l2:Addr} {o1 o2:Obj} {a b:Value} {k1 k2:Nat}
theorem let_go {elts:List Expr} {x1} {pos:Pos} {p:Addr} {Q:Unit->Shared->Prop} (ap:Apart z TI TO i1 i2 l1 l2) (hw:W z TI TO i1 i2 l1 l2 o1 o2 (rawInt p) (.bool false) a b k1 k2 s.heap)
  (q:∀h',W z TI TO i1 i2 l1 l2 o1 o2 .none (.bool false) a b k1 k2 h'->Heap.SameBut z s.heap h'->Q () {s with heap:=h'}):wpAny (model prog w) A (letOwnedTupleGo (.Tuple elts x1 pos) (.ref z) (.ref p)) Q E s:=by
 refine wpAny_bind (m:=load z) (wpAny_load hw.z_ ?_);have e:(["enumerate", "zip", "dict_itemiterator", "dict_reverseitemiterator", "odict_iterator", "itertools.zip_longest", "itertools.pairwise"].contains "zip" && (#[rawInt p,.bool false,.bool false,.ref TI,.ref TO]:Array Value)[0]?==some (rawInt p))=true:=by simp
 dsimp only;rw [if_pos e];exact wpAny_bind (wpAny_rule (wpAny_setField_rec (k:=0) (x:=.none) hw.z_ (by simp) fun h1 e1 k1=>q h1 (hw.onZ ap e1 k1) k1))
end
end Wz
namespace Mi
open PySem L2 PySem.SeqAt PySem.Spec PyProof.Rows
noncomputable def aE4:List D->Res (List D×Bool)
 | [.tup xs,.tup ys]=>if decide (ys.length=xs.length)&&D.aV xs&&D.aV ys then .ok (FZ xs ys,true) else .bad
 | _=>.bad
variable [KFrag]
section
variable {X:Cx}
theorem J_ {pins:List (Addr×Obj)} {s:Shared} {σ:L2.St} {H:Hp} {h':Heap} {t':Nat} {ch:List Addr} (I:Inv X pins σ H s) (k:∀b u,b∉ch->s.heap.get? b=some u->h'.get? b=some u) (hf:∀b∈ch,yF X pins H b):Inv X pins σ H {s with heap:=h',toks:=t'}:=by
 have nch:∀b u,H b=some u->b∉ch:=fun b u e z=>by rw [(hf b z).1] at e;cases e
 refine I.step (g':=s.gens) (d':=s.drawn) (ch:=ch) (fun b hb=>?_) (fun b u _ _ hc e _=>k b u hc e) (fun b u _ _ hc e _=>⟨u.slots,k b u hc e⟩) (fun b u _ e n=>n)
  (fun b u hc e=>⟨u,k b u hc e⟩) (fun b xs e=>e) (fun b u v e=>e) (fun b ps e=>⟨#[],by rw [e];simp⟩) (fun m hm=>?_) (fun b u e=>?_) I.bare
 ·obtain ⟨_,f1,_,f3,f4,f5⟩:=hf b hb;exact ⟨f3,f1,f4,f5⟩
 ·obtain ⟨u,es,ep,hu,r⟩:=hm;exact ⟨u,es,ep,k _ u (fun z=>(hf _ z).2.1 rfl) hu,r⟩
 ·refine (I.hok b u e).stay (fun c v hc q=>k c v ?_ q) (fun c q=>q) fun c xs q=>q
  rcases hc with z|z
  ·rw [z];exact nch b u e
  ·exact nch c _ z
end
theorem sV {h:Heap} {l:Addr} {its:Array Value} (p:PyProof.Rows.IsTup h l its):∃n dd sl,h.get? l=some (Wz.tuO its n dd sl):=by
 obtain ⟨⟨c,dd,da,sl⟩,g,hc,m,hd⟩:=p;simp only at hc hd;subst hc hd;exact ⟨m,dd,sl,g⟩
noncomputable def ZF (z TI TO i1 i2 l1 l2:Addr) (i:Nat) (h:Heap):Prop:=∃a b,h.get? z=some (Wz.zpO .none (.bool false) TI TO)/\h.get? TI=some (Wz.prO (.ref i1) (.ref i2))/\h.get? TO=some (Wz.prO a b)/\h.get? i1=some (Wz.itO l1 i)/\h.get? i2=some (Wz.itO l2 i)
theorem RC {P:Program} {w:World} {K:PySem.W.Frag} {elts:List Expr} {x1} {tp:Pos} {z TI TO i1 i2 l1 l2:Addr} (ap:Wz.Apart z TI TO i1 i2 l1 l2):Turn P w K (.Tuple elts x1 tp) (Itz l1 l2) [z,TI,TO,i1,i2] z (ZF z TI TO i1 i2 l1 l2) where
 mem:=by simp
 obj:=fun i h ⟨a,b,e1,e2,e3,e4,e5⟩ c hc=>by
  simp only [List.mem_cons,List.not_mem_nil,or_false] at hc;rcases hc with rfl|rfl|rfl|rfl|rfl
  ·exact ⟨_,e1,fun v q=>nomatch (show Data.fields _=Data.cell v from q)⟩
  ·exact ⟨_,e2,fun v q=>nomatch (show Data.seq _ _=Data.cell v from q)⟩
  ·exact ⟨_,e3,fun v q=>nomatch (show Data.seq _ _=Data.cell v from q)⟩
  ·exact ⟨_,e4,fun v q=>nomatch (show Data.fields _=Data.cell v from q)⟩
  ·exact ⟨_,e5,fun v q=>nomatch (show Data.fields _=Data.cell v from q)⟩
 keep:=fun i h h' ⟨a,b,e1,e2,e3,e4,e5⟩ k=>⟨a,b,k _ (by simp) _ e1,k _ (by simp) _ e2,k _ (by simp) _ e3,k _ (by simp) _ e4,k _ (by simp) _ e5⟩
 item:=by
  intro Y hP hw hK hc i pins s σ H E I hf ⟨a,b,e1,e2,e3,e4,e5⟩ ⟨xs,ys,x,y,g1,g2,hx,hy⟩;subst hP hw hK;obtain ⟨its1,w1,p1,_⟩:=I.tuple (.of g1);obtain ⟨its2,w2,p2,_⟩:=I.tuple (.of g2);obtain ⟨u,hu,ru⟩:=w1.get hx;obtain ⟨v,hv,rv⟩:=w2.get hy;obtain ⟨n1,d1,s1,t1⟩:=sV p1;obtain ⟨n2,d2,s2,t2⟩:=sV p2;have hw:Wz.W z TI TO i1 i2 l1 l2 (Wz.tuO its1.toArray n1 d1 s1) (Wz.tuO its2.toArray n2 d2 s2) .none (.bool false) a b i i s.heap:=⟨e1,e2,e3,e4,e5,t1,t2⟩
  refine wpAny_bind (wpAny_attempt (wpAny_callSpecial?_slot hw.ty F.slot_zip_next (wpAny_call_entry F.slot_zip_next hw.ty F.entry_zip_next ?_ (F.args_zip_next_1 _))));refine Wz.first ap hw (x:=u) (y:=v) (by simpa using hu) (by simpa using hv) fun h' p w' ep pp sd=>wpAny_pure ⟨_,rfl,Wz.let_go ap w' fun h'' w'' sb=>?_⟩
  subst pp;have sb':Heap.SameBut z h' h'':=sb;have lt:∀{c o},s.heap.get? c=some o->s.heap.objs.size≠c:=fun e=>Nat.ne_of_gt (Heap.lt_size e)
  have kk:∀c o,c∉[z,TI,TO,i1,i2]->s.heap.get? c=some o->h''.get? c=some o:=fun c o hc e=>by
   simp only [List.mem_cons,List.not_mem_nil,or_false,not_or] at hc;exact (sb'.2 c hc.1).trans (sd c o hc.1 hc.2.2.1 hc.2.2.2.1 hc.2.2.2.2 e)
  have ep':h''.get? s.heap.objs.size=some (Wz.prO u v):=(sb'.2 _ (lt e1)).trans ep;refine ⟨.ref s.heap.objs.size,upd H s.heap.objs.size (.tup [x,y]),xH (s:=s) (h':=h'') (t':=s.toks) (ch:=[z,TI,TO,i1,i2]) I kk hf (Nat.le_refl _) ?_,rfl,⟨_,x,y,fun zs hz=>?_,fun zs hz=>?_,rfl,I.hok.fresh (Nat.le_refl _),rfl⟩,⟨u,v,w''.z_,w''.ti,w''.to,w''.j1,w''.j2⟩,fun c hc=>?_⟩
  ·exact ⟨by show 2<=sizeLine;rw [sizeLine_eq];decide,[u,v],.cons ru (.cons rv .nil),⟨_,ep',rfl,0,rfl⟩⟩
  ·rw [g1] at hz;cases hz;exact hx
  ·rw [g2] at hz;cases hz;exact hy
  ·have hn:=(hf c hc).1;rw [bO]
   ·exact hn
   ·intro q;subst q;simp only [List.mem_cons,List.not_mem_nil,or_false] at hc;rcases hc with h|h|h|h|h
    ·exact lt e1 h
    ·exact lt e2 h
    ·exact lt e3 h
    ·exact lt e4 h
    ·exact lt e5 h
 done:=by
  intro Y hP hw hK hc i pins s σ H E I hf ⟨a,b,e1,e2,e3,e4,e5⟩ ⟨xs,ys,g1,g2,hl,hi⟩;subst hP hw hK;obtain ⟨its1,w1,p1,_⟩:=I.tuple (.of g1);obtain ⟨its2,w2,p2,_⟩:=I.tuple (.of g2);obtain ⟨n1,d1,s1,t1⟩:=sV p1;obtain ⟨n2,d2,s2,t2⟩:=sV p2;have hw:Wz.W z TI TO i1 i2 l1 l2 (Wz.tuO its1.toArray n1 d1 s1) (Wz.tuO its2.toArray n2 d2 s2) .none (.bool false) a b i i s.heap:=⟨e1,e2,e3,e4,e5,t1,t2⟩
  have hz:its1.toArray[i]?=none:=by
   have:=w1.length;simp;lia
  refine Wz.T8 (I.ok.hd hc) ap ⟨_,_,_,_,hw,.inl ⟨rfl,rfl⟩⟩ hz fun h' sd=>⟨rfl,J_ (t':=s.toks) (ch:=[z,TI,TO,i1,i2]) I (fun c o hc e=>?_) hf⟩
  simp only [List.mem_cons,List.not_mem_nil,or_false,not_or] at hc;exact sd c o hc.1 hc.2.2.1 hc.2.2.2.1 hc.2.2.2.2 e
 self:=fun _ _ _ _ _ ⟨a,b,e1,_⟩ h=>wpAny_pyIter_zip (TI:=TI) (TO:=TO) (f0:=.none) e1 h
section
variable {X:Cx} {a b:Expr} {fs:FA} {rr:Bool} {p pos:Pos}
theorem aBh {elts:List Expr} {x1} {tp:Pos} (hg:Gl X "zip") (hm:X.mg "zip" = none) (ha:PA X [a,b] (gA fs rr)) (hs2:starEach [a,b] X.env=(false,eval a X.env)::starEach [b] X.env:=by rfl) (hpl2:(backTo pos (starEach [b] X.env)).any (·.1)=false:=by rfl) :
  PI X (.Tuple elts x1 tp) (.Call (.Name "zip" p) [a,b] [] pos) (gI X.K (gW fs aE4)):=by
 intro pins s σ H R I ⟨ρ,items,k,E,h,q⟩;obtain ⟨ds,h1,h2⟩:=aY h;unfold aE4 at h2;split at h2
 ·rename_i xs ys;split at h2
  ·rename_i hb;cases h2;simp only [Bool.and_eq_true,decide_eq_true_eq] at hb;obtain ⟨⟨hb1,hb2⟩,hb3⟩:=hb;refine wpAny_Call_Name_kw (mK I hg hm boot_zip ?_);refine PyProof.Rows.callWith_type1 (thn (ha pos pins s σ H (fun vs H1=>cD H H1/\bK All H1 vs [.tup xs,.tup ys]) I ⟨ρ,_,E,h1,fun vs H1 s1 r1 _=>⟨s1,r1⟩⟩) fun us s1 ⟨vs,H1,I1,r1,sm,rp⟩=>?_) hs2 hpl2;cases rp with
   | cons rp1 rp=>
    cases rp with
    | cons rp2 rp=>
     cases rp;obtain ⟨l1,vs1,rfl,e1,rr1⟩:=rp1.dY;obtain ⟨l2,vs2,rfl,e2,rr2⟩:=rp2.dY;cases r1 with
     | cons q1 r1=>
      cases r1 with
      | cons q2 r1=>
       cases r1;cases q1;cases q2;obtain ⟨its1,w1,p1,_⟩:=I1.tuple (.of e1);obtain ⟨its2,w2,p2,_⟩:=I1.tuple (.of e2);have lt1:l1<s1.heap.objs.size:=by obtain ⟨_,e,_⟩:=p1;exact Heap.lt_size e
       have lt2:l2<s1.heap.objs.size:=by obtain ⟨_,e,_⟩:=p2;exact Heap.lt_size e
       have t1:s1.heap.IsTuple l1 its1.toArray:=p1;have t2:s1.heap.IsTuple l2 its2.toArray:=p2;refine Wz.T7 t1 t2 fun h' n hn z1 z2 z3 z4 z5 kp zsz=>?_
       subst hn;refine wpAny_pyIter_zip (TI:=s1.heap.objs.size+2) (TO:=s1.heap.objs.size+3) (f0:=.none) z5 ?_;have fp:∀c,s1.heap.objs.size<=c->yF X pins H1 c:=fun c hc=>I1.aA1 hc (I1.hok.fresh hc)
       refine ⟨_,_,_,_,H1,rfl,I1.kept (t':=s1.toks) fun c o e=>kp c o e,RC (u9 lt1 lt2),⟨_,_,z5,z3,z4,z1,z2⟩,fun c hc=>?_,q _ H1 sm (.zip l1 l2 xs ys rfl rp1 rp2 hb1 rfl) fun _=>.zip l1 l2 xs ys rfl (rp1.bJ (by rw [D.pure];exact hb2)) (rp2.bJ (by rw [D.pure];exact hb3)) hb1 rfl⟩;simp only [List.mem_cons,List.not_mem_nil,or_false] at hc;rcases hc with rfl|rfl|rfl|rfl|rfl
       ·exact fp _ (Nat.le_add_right _ _)
       ·exact fp _ (Nat.le_add_right _ _)
       ·exact fp _ (Nat.le_add_right _ _)
       ·exact fp _ (Nat.le_refl _)
       ·exact fp _ (Nat.le_add_right _ _)
  ·cases h2
 ·cases h2
end
end Mi
end
section
namespace Mi
open PySem L2 PySem.SeqAt PySem.Spec PyProof.Rows
abbrev FX:=List D->Res (D×List D)
abbrev FXT:=List D->Res (Bool×List D)
noncomputable def t7:D->Option (List D)
 | .lst xs=>some xs
 | .cel _ xs=>some xs
 | _=>none
noncomputable def RD:D->List D->D
 | .cel a _,xs=>.cel a xs
 | _,xs=>.lst xs
def mJ (k:Nat):Nat->Bool:=fun i=>decide (i<k)
open Classical in
noncomputable def ch1 (f:List D->Res D) (xs rest:List D):Res (D×List D):=
 if h:∃p:D×List D,∀b,f (.cel b xs::rest)=.ok (.tup [p.1,.cel b p.2]) then .ok h.choose else .bad
theorem aBi {f:List D->Res D} {xs rest:List D} {p:D×List D} (h:ch1 f xs rest=.ok p):∀b,f (.cel b xs::rest)=.ok (.tup [p.1,.cel b p.2]):=by
 unfold ch1 at h;split at h
 ·rename_i e;cases h;exact e.choose_spec
 ·cases h
theorem u_ {f:List D->Res D} {xs rest xs':List D} {r:D} (h:∀b,f (.cel b xs::rest)=.ok (.tup [r,.cel b xs'])):ch1 f xs rest=.ok (r,xs'):=by
 have e:∃p:D×List D,∀b,f (.cel b xs::rest)=.ok (.tup [p.1,.cel b p.2]):=⟨(r,xs'),h⟩
 have q:ch1 f xs rest=.ok e.choose:=by unfold ch1;rw [dif_pos e]
 rw [q];have z:=e.choose_spec 0;rw [h 0] at z;injection z with z
 injection z with z
 injection z with z1 z2
 injection z2 with z2
 injection z2 with _ z2
 rw [z1,z2]
noncomputable def aE5 (k:Nat):Fl->Res D
 | .rt (.tup (d::ρ))=>.ok (.tup (d::ρ.take k))
 | .nx ρ=>.ok (.tup (.non::ρ.take k))
 | _=>.bad
noncomputable def fnX (k n m:Nat) (f:FS):List D->Res D:=fun ds=>do
 let r <- f (ds++List.replicate (m-n) .uD)
 aE5 k r
noncomputable def b8 (f:List D->Res D) (n i:Nat) (fs:FA):FX:=fun ρ=>do
 let rest <- fs ρ
 match t7 (ρ.getD i .uD) with
 | some xs=>if decide (rest.length+1=n) then (do
   let p <- ch1 f xs rest
   if D.aV p.2 then .ok (p.1,ρ.set i (RD (ρ.getD i .uD) p.2)) else .bad) else .bad
 | none=>.bad
noncomputable def x2L (f:D->D->Res D) (fa:FX) (fb:FE):FX:=fun ρ=>do
 let p <- fa ρ
 if p.1.pure then (do
  let y <- fb p.2
  let d <- f p.1 y
  if d.pure then .ok (d,p.2) else .bad) else .bad
noncomputable def x2R (f:D->D->Res D) (fa:FE) (fb:FX):FX:=fun ρ=>do
 let x <- fa ρ
 let p <- fb ρ
 let d <- f x p.1
 if d.pure then .ok (d,p.2) else .bad
noncomputable def xTB (f:FX):FXT:=fun ρ=>do
 let p <- f ρ
 let b <- asB p.1
 .ok (b,p.2)
noncomputable def fC (o:Bool) (i:Nat) (f:FX):FS:=fun ρ=>do
 let p <- f ρ
 if (if o then inner p.1 else true) then .ok (.nx (p.2.set i p.1)) else .bad
noncomputable def aBj (c:FXT) (f g:FS):FS:=fun ρ=>do
 let p <- c ρ
 if p.1 then f p.2 else g p.2
noncomputable def DK (i:Nat) (fk fv:FE):FS:=fun ρ=>do
 let d <- fv ρ
 let k <- fk ρ
 match t7 (ρ.getD i .uD),k with
 | some xs,.int k=>if d.pure then (match ixD xs.length k with|some j=>.ok (.nx (ρ.set i (RD (ρ.getD i .uD) (xs.set j d))))|none=>.bad) else .bad
 | _,_=>.bad
noncomputable def bPu (f:FE):FE:=fun ρ=>do
 let d <- f ρ
 if d.pure then .ok d else .bad
noncomputable def isI:D->Bool
 | .int _=>true
 | _=>false
noncomputable def X5:List D->Res (List D)
 | []=>.bad
 | .lst ys::xs=>if ys.all isI&&D.aV xs then .ok (.scr ys::xs) else .bad
 | x::xs=>if x.pure then (do let r <- X5 xs;.ok (x::r)) else .bad
noncomputable def aD8 (f:FE):FE:=fun ρ=>do
 let d <- f ρ
 match d with
 | .lst xs=>(do let r <- X5 xs;.ok (.lst r))
 | _=>.bad
variable [KFrag]
section
variable {own:Nat->Bool}
theorem zN {P:Addr->Prop} {H:Hp} {a:Addr} {d:D} {xs:List D} (r:Rep P H (.ref a) d) (h:t7 d=some xs):∃vs,H a=some (.lst vs)/\P a/\bK P H vs xs:=by
 cases d <;> simp only [t7] at h <;> cases h <;> cases r
 ·exact ⟨_,by assumption,by assumption,by assumption⟩
 ·exact ⟨_,by assumption,by assumption,by assumption⟩
theorem xM {P:Addr->Prop} {H:Hp} {v:V} {b:Nat} {xs:List D} (r:Rep P H v (.cel b xs)):v=.ref b:=by cases r;rfl
theorem T_ {P P':Addr->Prop} {H H':Hp} {a:Addr} {d:D} {xs xs':List D} {vs':List V} (r:Rep P H (.ref a) d) (h:t7 d=some xs) (e:H' a=some (.lst vs')) (p:P' a) (r':bK P' H' vs' xs'):Rep P' H' (.ref a) (RD d xs'):=by
 cases d <;> simp only [t7] at h <;> cases h <;> cases r
 ·exact .lst e p r'
 ·exact .cel e p r'
theorem aBk {d:D} {xs:List D} (h:t7 d=some xs):inner d=D.aV xs:=by
 cases d <;> simp only [t7] at h <;> cases h <;> rfl
theorem KC {d:D} {xs xs':List D} (h:t7 d=some xs):inner (RD d xs')=D.aV xs':=by
 cases d <;> simp only [t7] at h <;> cases h <;> rfl
theorem UG {d:D} {xs:List D} (h:t7 d=some xs):d≠.uD:=fun z=>by subst z;cases h
theorem ES.aEp {H H':Hp} {σ:L2.St} {ρ:List D} {i:Nat} {a:Addr} {o:HO} {d:D} (E:ES own H σ ρ) (ho:own i=true) (hi:σ[i]?=some (some (.ref a))) (hk:∀b ob,H b=some ob->b≠a->H' b=some ob) (e:H' a=some o) (hm:wR o=true) (r:Rep All H' (.ref a) d) (hin:inner d=true) :
  ES own H' σ (ρ.set i d)/\KU own σ H σ H':=by
 have hOa:Own own σ a:=⟨i,ho,hi⟩
 obtain ⟨a',oa,ea,_,_,hHa,hma,huq⟩:=E.own i _ ho hi;cases ea;have k:KU own σ H σ H':=fun b ob e n=>⟨hk b ob e (fun z=>by subst z;exact n hOa),n⟩
 have hl:i<ρ.length:=by rw [<-E.len];exact (List.getElem?_eq_some_iff.mp hi).1
 refine ⟨⟨by simp [E.len],fun j hj=>?_,fun j w hj hw=>?_⟩,k⟩
 ·rw [cX] at hj ⊢;by_cases h:i=j/\i<ρ.length
  ·obtain ⟨rfl,_⟩:=h;exact ⟨_,hi,fun z=>by rw [ho] at z;cases z⟩
  ·rw [if_neg h] at hj ⊢;obtain ⟨w,h1,h2⟩:=E.at_ j hj;exact ⟨w,h1,fun hj=>k.rep E (h2 hj)⟩
 ·by_cases hij:i=j
  ·subst hij;rw [hi] at hw;cases hw;rw [cX,if_pos ⟨rfl,hl⟩];exact ⟨a,o,rfl,r,hin,e,hm,huq⟩
  ·rw [cX,if_neg fun z=>hij z.1];obtain ⟨b,ob,h1,h2,h3,h4,h5,h6⟩:=E.own j w hj hw;subst h1;have hba:b≠a:=fun z=>by subst z;exact hij (h6 i ho hi)
   refine ⟨b,ob,rfl,?_,h3,hk _ _ h4 hba,h5,h6⟩;refine (h2.mJ (P':=fun c=>c=b) h3 rfl).keep (fun c oc hc hp=>?_) fun _ _=>trivial
   refine hk _ _ hc fun z=>?_
   subst z;rcases hp with hp|hp
   ·exact hba hp.symm
   ·rw [hHa] at hc;cases hc;rw [hma] at hp;cases hp
noncomputable def NS (own:Nat->Bool) (ρ ρ':List D):Prop:=∀i,own i=false->ρ'.getD i .uD=ρ.getD i .uD
theorem NS.trans {ρ ρ1 ρ2:List D} (a:NS own ρ ρ1) (b:NS own ρ1 ρ2):NS own ρ ρ2:=fun i h=>(b i h).trans (a i h)
theorem NS.set {ρ:List D} {i:Nat} {d:D} (ho:own i=true):NS own ρ (ρ.set i d):=fun j hj=>by
 rw [cX,if_neg];rintro ⟨rfl,_⟩;rw [ho] at hj;cases hj
noncomputable def kX (own:Nat->Bool) (σ:L2.St) (H:Hp) (ρ:List D) (d:D) (ρ':List D) (Q:VK):Prop:=∀v H',KU own σ H σ H'->ES own H' σ ρ'->NS own ρ ρ'->Rep (New H) H' v d->Q v H'
noncomputable def gX (own:Nat->Bool) (f:FX):TE:=fun σ H Q=>∃ρ d ρ',ES own H σ ρ/\f ρ=.ok (d,ρ')/\kX own σ H ρ d ρ' Q
noncomputable def gXT (own:Nat->Bool) (f:FXT):TT:=fun σ H Q=>∃ρ d ρ',ES own H σ ρ/\f ρ=.ok (d,ρ')/\∀H',KU own σ H σ H'->ES own H' σ ρ'->NS own ρ ρ'->Q d H'
noncomputable def gAO (own:Nat->Bool) (f:FA):TA:=fun σ H Q=>∃ρ ds,ES own H σ ρ/\f ρ=.ok ds/\∀vs H',cD H H'->bK (fun a=>¬Own own σ a) H' vs ds->Q vs H'
theorem xN {σ:L2.St} {H:Hp} {ρ:List D} (E:ES own H σ ρ) {a:Addr} (h:H a=none):¬Own own σ a:=fun n=>by
 obtain ⟨o',e,_⟩:=E.live n;rw [h] at e;cases e
theorem X6 {σ:L2.St} {H H1 H2:Hp} {ρ ρ1:List D} (E:ES own H σ ρ) (E1:ES own H1 σ ρ1) (k:KU own σ H1 σ H2):O9 (New H) H1 H2:=fun a o e hp=>by
 refine (k a o e ?_).1;rcases hp with hp|hp
 ·exact xN E hp
 ·intro n;obtain ⟨o',e',hm⟩:=E1.live n;rw [e] at e';cases e';rw [hp] at hm;cases hm
theorem Rep.ku {σ:L2.St} {H H1 H2:Hp} {ρ ρ1:List D} {v:V} {d:D} (r:Rep (New H) H1 v d) (E:ES own H σ ρ) (E1:ES own H1 σ ρ1) (k:KU own σ H1 σ H2):Rep (New H) H2 v d:=r.keep (X6 E E1 k) fun _ h=>h
theorem ES.aFl {H H':Hp} {σ:L2.St} {ρ ρ':List D} {i:Nat} {a:Addr} {o:HO} {d:D} (E:ES own H σ ρ) (k:KU own σ H σ H') (E':ES own H' σ ρ') (ns:NS own ρ ρ') (ho:own i=true) (hn:H a=none) (r:Rep All H' (.ref a) d) (hin:inner d=true) (ha:H' a=some o) (hm:wR o=true) :
  ES own H' (σ.set i (some (.ref a))) (ρ'.set i d)/\KU own σ H (σ.set i (some (.ref a))) H':=by
 have hO:∀b,H b≠none->¬Own own σ b->¬Own own (σ.set i (some (.ref a))) b:=fun b hb n ⟨j,hj,e⟩=>by
  by_cases hij:i=j
  ·subst hij;by_cases hl:i<σ.length
   ·rw [List.getElem?_set_self hl] at e;cases e;exact hb hn
   ·rw [List.getElem?_set,if_pos rfl,if_neg hl] at e;cases e
  ·rw [List.getElem?_set_ne hij] at e;exact n ⟨j,hj,e⟩
 have hna:¬Own own σ a:=xN E hn;refine ⟨⟨by simp [E'.len],fun j hj=>?_,fun j w hj hw=>?_⟩,fun b ob e n=>⟨(k b ob e n).1,hO b (by rw [e];simp) n⟩⟩
 ·rw [cX] at hj ⊢;by_cases h:i=j/\i<ρ'.length
  ·rw [if_pos h];obtain ⟨rfl,hl⟩:=h;exact ⟨.ref a,by rw [List.getElem?_set_self (by rw [E'.len];exact hl)],fun z=>by rw [ho] at z;cases z⟩
  ·rw [if_neg h] at hj ⊢;obtain ⟨w,h1,h2⟩:=E'.at_ j hj;by_cases hij:i=j
   ·subst hij;have:i<σ.length:=(List.getElem?_eq_some_iff.mp h1).1;rw [E'.len] at this;exact absurd ⟨rfl,this⟩ h
   ·refine ⟨w,by rw [List.getElem?_set_ne hij];exact h1,fun hoj=>?_⟩;rw [ns j hoj] at hj ⊢;obtain ⟨w',h1',h2'⟩:=E.at_ j hj;rw [h1] at h1';cases h1';exact (h2' hoj).dom.keep (fun c oc hc hp=>k.keep E c oc hc (hp.imp And.left id)) fun b ⟨n,hb⟩=>hO b hb n
 ·by_cases hij:i=j
  ·subst hij;have hl:i<σ.length:=by
    have:=(List.getElem?_eq_some_iff.mp hw).1;simpa using this
   rw [List.getElem?_set_self hl] at hw;cases hw;rw [cX,if_pos ⟨rfl,by rw [<-E'.len];exact hl⟩];refine ⟨a,o,rfl,r,hin,ha,hm,fun k hk hs=>?_⟩;by_cases hik:i=k
   ·exact hik.symm
   ·rw [List.getElem?_set_ne hik] at hs;exact absurd ⟨k,hk,hs⟩ hna
  ·rw [List.getElem?_set_ne hij] at hw;rw [cX,if_neg fun z=>hij z.1];obtain ⟨b,ob,h1,h2,h3,h4,h5,h6⟩:=E'.own j w hj hw;refine ⟨b,ob,h1,h2,h3,h4,h5,fun k hk hs=>?_⟩;by_cases hik:i=k
   ·subst hik;by_cases hl:i<σ.length
    ·rw [List.getElem?_set_self hl] at hs;cases hs;subst h1;exact absurd ⟨j,hj,hw⟩ hna
    ·rw [List.getElem?_set,if_pos rfl,if_neg hl] at hs;cases hs
   ·rw [List.getElem?_set_ne hik] at hs;exact h6 k hk hs
end
section
variable {own:Nat->Bool} {X:Cx} {a b c e:Expr} {pos pos':Pos} {fa fb fe:FE} {ra rb re:Bool} {xa xb xe:FX}
theorem aFm {f:D->D->Res D} {fr:Bool} {σ:L2.St} {H:Hp} {Q:VK} (h:gX own (x2L f xa fb) σ H Q):tOp (r2 f fr) (gX own xa) (gE fb rb) σ H Q:=by
 obtain ⟨ρ,d,ρ',E,h,q⟩:=h;obtain ⟨⟨x,ρ1⟩,h1,h⟩:=aY h;split at h
 ·rename_i hp;obtain ⟨y,h2,h⟩:=aY h;obtain ⟨z,h3,h⟩:=aY h;split at h
  ·rename_i hz;cases h;refine ⟨ρ,x,ρ1,E,h1,fun v H1 k1 E1 ns r1=>⟨ρ1,y,E1.er,h2,fun w H2 s2 r2 _=>⟨x,y,_,(r1.same s2).all,r2,h3,fun u H3 s3 r3 _=>?_⟩⟩⟩;exact q u H3 (k1.trans (.same (s2.trans s3))) (E1.same (s2.trans s3)) ns (r3.bJ hz)
  ·cases h
 ·cases h
theorem KD {o:Operator} {f:D->D->Res D} {fr:Bool} (ho:OpR X (binaryOp o) (r2 f fr)) (ha:PE X a (gX own xa)) (hb:PE X b (gE fb rb)):PE X (.BinOp a o b pos) (gX own (x2L f xa fb)):=PE.imp (aA2 ho ha hb) fun _ _ _=>aFm
theorem aFn {f:D->D->Res D} {fr:Bool} {σ:L2.St} {H:Hp} {Q:VK} (h:gX own (x2R f fa xb) σ H Q):tOp (r2 f fr) (gE fa true) (gX own xb) σ H Q:=by
 obtain ⟨ρ,d,ρ',E,h,q⟩:=h;obtain ⟨x,h1,h⟩:=aY h;obtain ⟨⟨y,ρ1⟩,h2,h⟩:=aY h;obtain ⟨z,h3,h⟩:=aY h;split at h
 ·rename_i hz;cases h;refine ⟨ρ,x,E.er,h1,fun v H1 s1 r1 n1=>⟨ρ,y,ρ1,E.same s1,h2,fun w H2 k2 E2 ns r2=>⟨x,y,_,((n1 rfl).ku E (E.same s1) k2).all,r2.all,h3,fun u H3 s3 r3 _=>?_⟩⟩⟩;exact q u H3 ((KU.same s1).trans (k2.trans (.same s3))) (E2.same s3) ns (r3.bJ hz)
 ·cases h
theorem aBl {σ:L2.St} {H:Hp} {ρ:List D} {i:Nat} {d:D} (E:ES own H σ ρ) (ho:own i=false) (h:cU i ρ=.ok d):∃v,σ[i]?=some (some v)/\Rep (fun a=>¬Own own σ a) H v d:=by
 obtain ⟨v,hv,r,e⟩:=E.er.var h;have hne:ρ.getD i .uD≠.uD:=fun z=>by
  rw [z] at e;subst e;exact Rep.uD r
 obtain ⟨w,hw,hr⟩:=E.at_ i hne;rw [hv] at hw;cases hw;have r2:=hr ho;rw [e] at r2;exact ⟨v,hv,r2⟩
theorem aFo {i:Nat} {f:D->D->Res D} {fr:Bool} {σ:L2.St} {H:Hp} {Q:VK} (ho:own i=false) (h:gX own (x2R f (cU i) xb) σ H Q):tOp (r2 f fr) (aD1 i) (gX own xb) σ H Q:=by
 obtain ⟨ρ,d,ρ',E,h,q⟩:=h;obtain ⟨x,h1,h⟩:=aY h;obtain ⟨⟨y,ρ1⟩,h2,h⟩:=aY h;obtain ⟨z,h3,h⟩:=aY h;obtain ⟨v,hv,rv⟩:=aBl E ho h1;split at h
 ·rename_i hz;cases h;refine ⟨v,hv,ρ,y,ρ1,E,h2,fun w H2 k2 E2 ns r2=>⟨x,y,_,(k2.rep E rv).all,r2.all,h3,fun u H3 s3 r3 _=>?_⟩⟩;exact q u H3 (k2.trans (.same s3)) (E2.same s3) ns (r3.bJ hz)
 ·cases h
theorem aBm {i:Nat} {x:Str} {pv:Pos} {f:D->D->Res D} {fr:Bool} (ho:IxR X (r2 f fr)) (hoi:own i=false) (hN:X.N[i]?=some x) (hv:Vis X.env.scope x) (hb:PE X b (gX own xb)) (hs:wI b) (hd:nDb x:=by decide) (hcd:nCd x:=by decide):PE X (.Subscript (.Name x pv) b pos) (gX own (x2R f (cU i) xb)):=PE.imp (aAd ho (eV hN hv hd hcd) hb hs) fun _ _ _=>aFo hoi
theorem RG {o:Bool} {i:Nat} {D':Ends} {σ:L2.St} {H:Hp} (ho:own i=o) (h:tS own (fC o i xe) D' σ H):VR (gX own xe) (o7 i) D' σ H:=by
 obtain ⟨ρ,fl,E,h,q⟩:=h;obtain ⟨⟨d,ρ1⟩,h1,h2⟩:=aY h;cases o with
 | true=>
  simp only [if_true] at h2;split at h2
  ·rename_i hk;cases h2;refine ⟨ρ,d,ρ1,E,h1,fun v H' k E1 ns r=>?_⟩;obtain ⟨a,ob,rfl,hn,ha,hm⟩:=T5 r hk;obtain ⟨E2,k2⟩:=E.aFl k E1 ns ho hn r.all hk ha hm;exact q _ H' k2 E2
  ·cases h2
 | false=>
  simp only [Bool.false_eq_true,if_false,if_true] at h2;cases h2;refine ⟨ρ,d,ρ1,E,h1,fun v H' k E1 ns r=>?_⟩;exact q _ H' (fun a ob e hn=>⟨(k a ob e hn).1,by rw [mC ho];exact hn⟩) (E1.set ho (rY E r))
theorem j0 {i:Nat} {x:Str} {o:Bool} (ho:own i=o) (hN:X.N.Nodup) (hi:X.N[i]?=some x) (hx:Loc X.env.scope x) (he:PE X e (gX own xe)) (hs:swapsWith e (some (.Name x pos')) pos.line X.env=pure false:=by rfl) (hf:X.fn x=true\/X.env.scope.names.lookup x=some .local:=by first|exact .inl rfl|exact .inr rfl|assumption) :
  PS X (.Assign [.Name x pos'] e pos) (tS own (fC o i xe)):=PS.imp (GZ hN hi hx he hs hf) fun _ _ _=>RG ho
theorem aE6 {s1 s2:List Stmt} {f g:FS} {xc:FXT} (hc:PT X c (gXT own xc)) (ha:PSs X s1 (tS own f)) (hb:PSs X s2 (tS own g)):PS X (.If c s1 s2 pos) (tS own (aBj xc f g)):=PS.imp (VP hc ha hb) fun D σ H ⟨ρ,fl,E,h,q⟩=>by
 obtain ⟨⟨k,ρ1⟩,h1,h2⟩:=aY h;refine ⟨ρ,k,ρ1,E,h1,fun H' ku E1 ns=>?_⟩;cases k with
 | true=>rw [if_pos rfl];rw [if_pos rfl] at h2;exact ⟨ρ1,fl,E1,h2,q.step ku⟩
 | false=>rw [if_neg (by simp)];rw [if_neg (by simp)] at h2;exact ⟨ρ1,fl,E1,h2,q.step ku⟩
end
end Mi
end
section
namespace Mi
open PySem L2 PySem.SeqAt PySem.Spec PyProof.Rows
variable [KFrag]
section
variable {own:Nat->Bool} {X:Cx} {a b c e:Expr} {pos pos':Pos} {fa fb fe:FE} {ra rb re:Bool} {xa xb xe:FX}
theorem kRt.new {D:Ends} {σ:L2.St} {H:Hp} {d0:Mi.D} {ρ':List Mi.D} (h:kRt own D σ H (.tup (d0::ρ'))) (hx:own rtX=true):∀v σ' H',KU own σ H σ' H'->ES own H' σ' ρ'->Rep (fun a=>(Own own σ a\/H a=none)/\∀i b xs,ρ'.getD i .uD=.cel b xs->a≠b) H' v d0->D.rt v H':=by
 unfold kRt at h;rw [if_pos hx] at h;obtain ⟨d1,ρ1,e,g⟩:=h;cases e;exact g
theorem jE {σ:L2.St} {H:Hp} {ρ:List D} (E:ES own H σ ρ) {i b:Nat} {xs:List D} (h:ρ.getD i .uD=.cel b xs):∃vs,σ[i]?=some (some (.ref b))/\H b=some (.lst vs):=by
 obtain ⟨v,h1,h2⟩:=E.er i (by rw [h];intro z;cases z);rw [h] at h2;cases h2 with
 | cel e _ _=>exact ⟨_,h1,e⟩
theorem sW (he:PE X e (gE fe re)) (hx:own rtX=true:=by rfl):PS X (.Return (some e) pos) (tS own (uO fe re)):=PS.imp (qY he) fun D σ H ⟨ρ,fl,E,h,q⟩=>by
 obtain ⟨d,h1,h2⟩:=aY h;split at h2
 ·rename_i hk;cases h2;refine ⟨ρ,d,E.er,h1,fun v H' s r n=>kRt.new q hx v σ H' (.same s) (E.same s) ?_⟩;rw [Bool.or_eq_true] at hk;rcases hk with hk|hk
  ·refine (n hk).mono fun a ha=>⟨.inr ha,fun i b xs hb z=>?_⟩
   obtain ⟨vs,_,e⟩:=jE E hb;subst z;rw [show H a=none from ha] at e;cases e
  ·exact r.bJ hk
 ·cases h2
theorem zO {i:Nat} {x:Str} (ho:own i=true) (hN:X.N[i]?=some x) (hv:Vis X.env.scope x) (hd:nDb x:=by decide) (hcd:nCd x:=by decide) (hx:own rtX=true:=by rfl):PS X (.Return (some (.Name x pos')) pos) (tS own (rC i)):=
 PS.imp (qY (eV hN hv hd hcd)) fun D σ H ⟨ρ,fl,E,h,q⟩=>by
 obtain ⟨d,h1,h2⟩:=aY h;split at h2
 ·rename_i hc;cases h2;obtain ⟨v,hv,r,e⟩:=E.er.var h1;obtain ⟨a,o,rfl,r2,hin,_,_,huq⟩:=E.own i v ho hv;rw [e] at hin;refine ⟨_,hv,kRt.new q hx _ σ H (.same (cD.refl H)) E (r.mJ hin ⟨.inl ⟨i,ho,hv⟩,fun j b xs hb z=>?_⟩)⟩;obtain ⟨vs,hj,eb⟩:=jE E hb;subst z;cases hoj:own j with
  | true=>
   have:=huq j hoj hj;subst this;rw [hb] at e;subst e;cases hc
  | false=>
   obtain ⟨w,hw,hr⟩:=E.at_ j (by rw [hb];intro z;cases z);have r3:=hr hoj;rw [hb] at r3;cases r3 with
   | cel e p r=>exact p ⟨i,ho,hv⟩
 ·cases h2
noncomputable def spV (k:Nat) (f:List D->Res D) (n:Nat):Sp:=fun vs H Q _=>∃ds d ds',ds.length=n/\vs.length=n/\ES (mJ k) H (vs.map some) ds/\(∀i,i<k->∃b xs xs',ds.getD i .uD=.cel b xs/\ds'.getD i .uD=.cel b xs')/\f ds=.ok (.tup (d::ds'))/\
 ∀v H',(∀a o,H a=some o->¬Own (mJ k) (vs.map some) a->H' a=some o)->(∀i v,i<k->vs[i]?=some v->Rep All H' v (ds'.getD i .uD)/\inner (ds'.getD i .uD)=true)->Rep (New H) H' v d->Q v H'
theorem X7 {k:Nat} {f:List D->Res D} {n:Nat} {vs:List V} {H:Hp} {Q:VK} {E:XK} (h:spV k f n vs H Q E):vs.length=n:=by
 obtain ⟨ds,d,ds',h1,h2,_⟩:=h;exact h2
theorem vA {ρ:List D} {k i:Nat} (h:i<k):(ρ.take k).getD i .uD=ρ.getD i .uD:=by
 rw [List.getD_eq_getElem?_getD,List.getD_eq_getElem?_getD,List.getElem?_take,if_pos h]
theorem RJ {k:Nat} {N ps:List Str} {f:FS} {vs:List V} {H:Hp} {Q:VK} {E:XK} (hx:own rtX=true) (hown:∀i,i<ps.length->own i=mJ k i) (hkn:k<=ps.length) (h0:spV k (fnX k ps.length N.length f) ps.length vs H Q E):tS own f {nx:=fun _ H'=>Q .non H',rt:=Q} (start N vs) H:=by
 obtain ⟨ds,d,ds',hl,hvl,E0,hc,h,q⟩:=h0;obtain ⟨fl,h1,h2⟩:=aY h;have hst:start N vs=vs.map some++List.replicate (N.length-ps.length) none:=by
  show vs.map some++List.replicate (N.length-vs.length) none=_;rw [hvl]
 have low:∀i,i<ps.length->(start N vs)[i]?=(vs.map some)[i]?:=fun i hi=>by rw [hst,List.getElem?_append_left (by simp [hvl,hi])]
 have high:∀i v,ps.length<=i->(start N vs)[i]?≠some (some v):=fun i v hi e=>by
  rw [hst,List.getElem?_append_right (by simp [hvl];lia),List.getElem?_replicate] at e;split at e <;> cases e
 have hO:∀a,Own own (start N vs) a↔Own (mJ k) (vs.map some) a:=fun a=>by
  constructor
  ·rintro ⟨i,hi,e⟩;by_cases hlt:i<ps.length
   ·exact ⟨i,by rw [<-hown i hlt];exact hi,by rw [<-low i hlt];exact e⟩
   ·exact absurd e (high i _ (by lia))
  ·rintro ⟨i,hi,e⟩;have hik:i<k:=by simpa [mJ] using hi
   have hlt:i<ps.length:=by lia
   exact ⟨i,by rw [hown i hlt];exact hi,by rw [low i hlt];exact e⟩
 have hOf:(fun a=>¬Own own (start N vs) a)=fun a=>¬Own (mJ k) (vs.map some) a:=funext fun a=>by rw [hO]
 have gd:∀i,i<ps.length->(ds++List.replicate (N.length-ps.length) D.uD).getD i .uD=ds.getD i .uD:=fun i hi=>by
  rw [List.getD_eq_getElem?_getD,List.getElem?_append_left (by lia),List.getD_eq_getElem?_getD]
 have ES0:ES own H (start N vs) (ds++List.replicate (N.length-ps.length) .uD):=by
  refine ⟨by rw [hst];simp [hvl,hl],fun i hi=>?_,fun i v hi hv=>?_⟩
  ·have hlt:i<ps.length:=Nat.lt_of_not_le fun hge=>hi (by
    rw [List.getD_eq_getElem?_getD,List.getElem?_append_right (by lia),List.getElem?_replicate];split <;> rfl)
   rw [gd i hlt] at hi ⊢;obtain ⟨v,g1,g2⟩:=E0.at_ i hi;exact ⟨v,by rw [low i hlt];exact g1,fun ho=>by rw [hOf];exact g2 (by rw [<-hown i hlt];exact ho)⟩
  ·have hlt:i<ps.length:=Nat.lt_of_not_le fun hge=>high i v hge hv
   rw [low i hlt] at hv;rw [gd i hlt];obtain ⟨a,o,g1,g2,g3,g4,g5,g6⟩:=E0.own i v (by rw [<-hown i hlt];exact hi) hv;refine ⟨a,o,g1,g2,g3,g4,g5,fun j hj hs=>?_⟩;have hjl:j<ps.length:=Nat.lt_of_not_le fun hge=>high j _ hge hs
   exact g6 j (by rw [<-hown j hjl];exact hj) (by rw [<-low j hjl];exact hs)
 have fin:∀v σ' H' ρ',ds'=ρ'.take k->KU own (start N vs) H σ' H'->ES own H' σ' ρ'->Rep (New H) H' v d->Q v H':=fun v σ' H' ρ' ed ku E' r=>by
  refine q v H' (fun a o e n=>(ku a o e (by rw [hO];exact n)).1) (fun i w hi hw=>?_) r;have hlt:i<ps.length:=by lia
  obtain ⟨b,xs,xs',g1,g2⟩:=hc i hi;have hoi:own i=true:=by rw [hown i hlt];simp [mJ,hi]
  have g3:ρ'.getD i .uD=.cel b xs':=by rw [ed,vA hi] at g2;exact g2
  obtain ⟨vs0,z1,_⟩:=jE E0 g1;rw [List.getElem?_map,hw] at z1;cases z1;obtain ⟨w',z2,_⟩:=E'.at_ i (by rw [g3];intro z;cases z);obtain ⟨a,o,rfl,g4,g5,_⟩:=E'.own i w' hoi z2;rw [g3] at g4 g5;have:=xM g4;cases this;rw [g2];exact ⟨g4,g5⟩
 refine ⟨_,fl,ES0,h1,?_⟩;cases fl with
 | nx ρ'=>
  simp only [aE5] at h2;injection h2 with h2
  injection h2 with h2
  injection h2 with z1 z2
  subst z1;exact fun σ' H' ku E'=>fin .non σ' H' ρ' z2.symm ku E' .non
 | bk ρ'=>cases h2
 | ct ρ'=>cases h2
 | rt d'=>
  show kRt own _ _ _ d';unfold kRt;rw [if_pos hx];unfold aE5 at h2;split at h2
  ·rename_i d1 ρ' heq;cases heq;injection h2 with h2
   injection h2 with h2
   injection h2 with z1 z2
   subst z1;refine ⟨_,_,rfl,fun v σ' H' ku E' r=>fin v σ' H' ρ' z2.symm ku E' (r.mono fun a ha=>?_)⟩;rcases ha.1 with ⟨i,hi,e⟩|hn
   ·exfalso;have hlt:i<ps.length:=Nat.lt_of_not_le fun hge=>high i _ hge e
    have hik:i<k:=by rw [hown i hlt] at hi;simpa [mJ] using hi
    obtain ⟨b,xs,xs',g1,g2⟩:=hc i hik;obtain ⟨vs0,q1,_⟩:=jE E0 g1;rw [low i hlt,q1] at e;cases e;rw [<-z2,vA hik] at g2;exact ha.2 i _ xs' g2 rfl
   ·exact hn
  ·rename_i heq;cases heq
  ·cases h2
theorem aBn {P:Program} {w:World} {K:PySem.W.Frag} {mg:Str->Option Value} {base:Heap} {x qual:Str} {st:Stmt} {fad:Addr} {fd:FuncData} {N ps:List Str} {k c:Nat} {f:FS} (F:Fun K x qual st fad fd) (S:bV N ps (aL st)) (own:Nat->Bool) (hx:own rtX=true) (hown:∀i,i<ps.length->own i=mJ c i) (hkn:c<=ps.length)
  (hbody:∀(cdv:Value) (A:Around) (outer:List Env) (s:Shared) (H:Hp) (E:XK),mQ k (A.deeper (envOfC qual (aL st) s.heap.objs.size fad cdv))->PSs (FQ CX0 P w K mg base N qual (aL st) fad cdv A outer s H E).nox (eG st) (tS own f)):v9 P w K mg base CX0 (k+1) fad fd ps (spV c (fnX c ps.length N.length f) ps.length):=
 F.ok S (fun vs H Q E h=>X7 h) fun cdv A outer s H vs Q E hr h=>⟨_,hbody cdv A outer s H E hr,RJ hx hown hkn h⟩
noncomputable def wA (P:Program) (w:World) (K:PySem.W.Frag) (mg:Str->Option Value) (base:Heap) (k:Nat) (x:Str) (n c:Nat) (f:List D->Res D):Prop:=
 ∃(fad:Addr) (fd:FuncData) (ps:List Str),v9 P w K mg base CX0 k fad fd ps (spV c f n)/\mg x=some (.ref fad)/\PySem.W.keepIn K (.ref fad)=true/\Binds K fd ps []
theorem pW {P:Program} {w:World} {K:PySem.W.Frag} {mg:Str->Option Value} {base:Heap} {x:Str} {k:Nat} {st:Stmt} {fad:Addr} {fd:FuncData} {N ps:List Str} {fs:FS} (c:Nat) (F:Fun K x x st fad fd) (hm:mg x=some (.ref fad)) (hb:Binds K fd ps []) (S:bV N ps (aL st)) (own:Nat->Bool) (hown:∀i,i<ps.length->own i=mJ c i) (hkn:c<=ps.length)
  (hbody:∀(cdv:Value) (A:Around) (outer:List Env) (s:Shared) (H:Hp) (E:XK),mQ k (A.deeper (envOfC x (aL st) s.heap.objs.size fad cdv))->PSs (FQ CX0 P w K mg base N x (aL st) fad cdv A outer s H E).nox (eG st) (tS own fs)) (hx:own rtX=true:=by rfl):wA P w K mg base (k+1) x ps.length c (fnX c ps.length N.length fs):=
 ⟨fad,fd,ps,aBn F S own hx hown hkn hbody,hm,F.kp,hb⟩
theorem g_:PA X [] (gAO own aO):=PA.imp mR fun σ H Q ⟨ρ,ds,E,h,q⟩=>by cases h;exact q [] H (cD.refl H) .nil
theorem rG {i:Nat} {x:Str} {es:List Expr} {f:FA} (ho:own i=false) (hN:X.N[i]?=some x) (hv:Vis X.env.scope x) (hes:PA X es (gAO own f)) (hd:nDb x:=by decide) (hcd:nCd x:=by decide) (hs:starEach (.Name x pos::es) X.env=(false,eval (.Name x pos) X.env)::starEach es X.env:=by rfl):PA X (.Name x pos::es) (gAO own (aB (cU i) f)):=PA.imp (dO (eV hN hv hd hcd) hes hs) fun σ H Q ⟨ρ,ds,E,h,q⟩=>by
 obtain ⟨x,h1,h⟩:=aY h;obtain ⟨xs,h2,h⟩:=aY h;cases h;obtain ⟨v,hv,rv⟩:=aBl E ho h1;exact ⟨v,hv,ρ,xs,E,h2,fun vs H2 s2 r2=>q _ _ s2 (.cons (rv.same s2) r2)⟩
theorem aE7 {es:List Expr} {f:FA} (he:PE X e (gE fe re)) (hes:PA X es (gAO own f)) (hs:starEach (e::es) X.env=(false,eval e X.env)::starEach es X.env:=by rfl):PA X (e::es) (gAO own (aB (bPu fe) f)):=PA.imp (dO he hes hs) fun σ H Q ⟨ρ,ds,E,h,q⟩=>by
 obtain ⟨x,h1,h⟩:=aY h;obtain ⟨xs,h2,h⟩:=aY h;cases h;obtain ⟨y,h3,h1⟩:=aY h1;split at h1
 ·rename_i hp;cases h1;exact ⟨ρ,_,E.er,h3,fun v H1 s1 r1 _=>⟨ρ,xs,E.same s1,h2,fun vs H2 s2 r2=>q _ _ (s1.trans s2) (.cons ((r1.bJ hp).same s2) r2)⟩⟩
 ·cases h1
theorem aBo {es:List Expr} {f:FA} (he:PE X e (gE fe true)) (hes:PA X es (gAO own f)) (hs:starEach (e::es) X.env=(false,eval e X.env)::starEach es X.env:=by rfl):PA X (e::es) (gAO own (aB fe f)):=PA.imp (dO he hes hs) fun σ H Q ⟨ρ,ds,E,h,q⟩=>by
 obtain ⟨x,h1,h⟩:=aY h;obtain ⟨xs,h2,h⟩:=aY h;cases h;exact ⟨ρ,_,E.er,h1,fun v H1 s1 r1 n1=>⟨ρ,xs,E.same s1,h2,fun vs H2 s2 r2=>q _ _ (s1.trans s2) (.cons ((rY E (n1 rfl)).same s2) r2)⟩⟩
theorem aBp {H:Hp} {a:Addr} {xs:List D} {vs0:List V} {vs:List V} {rest:List D} (ha:H a=some (.lst vs0)) (ra:bK All H vs0 xs) (hp:D.aV xs=true) (rs:bK (fun b=>b≠a) H vs rest):ES (mJ 1) H ((V.ref a::vs).map some) (.cel a xs::rest):=by
 have hO:∀b,Own (mJ 1) ((V.ref a::vs).map some) b->b=a:=fun b ⟨j,hj,e⟩=>by
  have:j=0:=by simp [mJ] at hj;lia
  subst this;simp at e;exact e.symm
 refine ⟨by simp [rs.length],fun i hi=>?_,fun i v hi hv=>?_⟩
 ·cases i with
  | zero=>exact ⟨.ref a,rfl,fun z=>by simp [mJ] at z⟩
  | succ i=>
   have e:(D.cel a xs::rest).getD (i+1) .uD=rest.getD i .uD:=rfl;rw [e] at hi ⊢;cases hq:rest[i]? with
   | none=>rw [List.getD_eq_getElem?_getD,hq] at hi;exact absurd rfl hi
   | some d=>
    obtain ⟨v,g1,g2⟩:=rs.get hq;rw [List.getD_eq_getElem?_getD,hq];exact ⟨v,by simp [g1],fun _=>g2.mono fun b hb ho=>hb (hO b ho)⟩
 ·have:i=0:=by simp [mJ] at hi;lia
  subst this;simp at hv;subst hv;exact ⟨a,.lst vs0,rfl,.cel ha trivial ra,hp,ha,rfl,fun j hj _=>by simp [mJ] at hj;lia⟩
theorem KH {σ:L2.St} {H:Hp} {ρ:List D} {i:Nat} {xs:List D} (E:ES own H σ ρ) (ho:own i=true) (h:t7 (ρ.getD i .uD)=some xs):∃a vs,σ[i]?=some (some (.ref a))/\H a=some (.lst vs)/\bK All H vs xs/\D.aV xs=true/\Rep All H (.ref a) (ρ.getD i .uD)/\∀b,ρ.getD i .uD=.cel b xs->b=a:=by
 obtain ⟨a,o,hσ,r,hin,ha,hm⟩:=E.ownAt ho (UG h);obtain ⟨vs,e,_,rr⟩:=zN r h;exact ⟨a,vs,hσ,e,rr,by rw [aBk h] at hin;exact hin,r,fun b hb=>by rw [hb] at r;have:=xM r;cases this;rfl⟩
theorem aBq {H H':Hp} {a:Addr} {d:D} {xs xs':List D} (r:Rep All H (.ref a) d) (h:t7 d=some xs) (r':Rep All H' (.ref a) (.cel a xs')):∃vs,H' a=some (.lst vs)/\Rep All H' (.ref a) (RD d xs'):=by
 obtain ⟨vs,e,_,rr⟩:=zN r' rfl;exact ⟨vs,e,T_ r h e trivial rr⟩
theorem c7 {x y:Str} {p py:Pos} {es:List Expr} {fs:FA} {k k' n i:Nat} {f:List D->Res D} (C:wA X.prog X.w X.K X.mg X.base k x n 1 f) (hr:mQ k' X.A) (hkk:k<=k') (hg:Gl X x) (ho:own i=true) (hN:X.N[i]?=some y) (hv:Vis X.env.scope y) (ha:PA X es (gAO own fs)) (hdb:nDb x:=by decide) (hd:(y==("__debug__" : Str))=false:=by decide) (hcd:(y==("__classdict__" : Str))=false:=by decide)
  (he:starEach (.Name y py::es) X.env=(false,eval (.Name y py) X.env)::starEach es X.env:=by rfl) (hpl:(backTo pos (starEach es X.env)).any (·.1)=false:=by rfl):PE X (.Call (.Name x p) (.Name y py::es) [] pos) (gX own (b8 f n i fs)):=by
 obtain ⟨fad,fd,ps,F,hm,hk,hb⟩:=C;refine PE.imp (rN F (hr.mono hkk) hg hm hk hb .nil QH (dO (eV hN hv hd hcd) ha he) hdb he hpl) fun σ H Q ⟨ρ,d,ρ',E,h,q⟩=>?_
 obtain ⟨rest,h1,h⟩:=aY h;split at h
 ·rename_i xs hx;split at h
  ·rename_i hn;obtain ⟨⟨r0,xs'⟩,h2,h⟩:=aY h;split at h
   ·rename_i hp';cases h;obtain ⟨a,vs0,hσ,e0,rr0,hp0,rp0,_⟩:=KH E ho hx;refine ⟨_,hσ,ρ,rest,E,h1,fun vs H1 s1 rs=>?_⟩;have hOa:Own own σ a:=⟨i,ho,hσ⟩
    have hl:rest.length+1=n:=of_decide_eq_true hn;dsimp only;rw [List.append_nil];refine ⟨.cel a xs::rest,_,[.cel a xs'],by simp;lia,by simp [rs.length];lia,aBp (s1 _ _ e0) (rr0.same s1) hp0 (rs.mono fun b hb z=>by subst z;exact hb hOa),fun j hj=>?_,aBi h2 a,fun v H' k1 own1 rn=>?_⟩
    ·have:j=0:=by lia
     subst this;exact ⟨a,xs,xs',rfl,rfl⟩
    ·obtain ⟨r1,hin⟩:=own1 0 _ (by lia) rfl;have r1:Rep All H' (.ref a) (.cel a xs'):=r1;obtain ⟨vs1,e1,r2⟩:=aBq (rp0.same s1) hx r1;have hk1:∀b ob,H1 b=some ob->b≠a->H' b=some ob:=fun b ob e n=>k1 b ob e fun ⟨j,hj,ej⟩=>by
      have:j=0:=by simp [mJ] at hj;lia
      subst this;simp at ej;exact n ej.symm
     obtain ⟨E2,k2⟩:=(E.same s1).aEp ho hσ hk1 e1 rfl r2 (by rw [KC hx];exact hp');exact q v H' ((KU.same s1).trans k2) E2 (.set ho) (rn.mono fun b hb=>s1.free hb)
   ·cases h
  ·cases h
 ·cases h
end
end Mi
end
section
namespace Mi
open PySem L2 PySem.SeqAt PySem.Spec PyProof.Rows
variable [KFrag]
section
variable {own:Nat->Bool} {X:Cx} {a b c e:Expr} {pos pos':Pos} {fa fb fe:FE} {ra rb re:Bool} {xa xb xe:FX}
theorem KJ {i:Nat} {x:Str} {p1:Pos} {value k:Expr} {fv fk:FE} {rv rk:Bool} (ho:own i=true) (hN:X.N[i]?=some x) (hvi:Vis X.env.scope x) (hk:PE X k (gE fk rk)) (hv:PE X value (gE fv rv)) (hs:swapsWith value (some (.Subscript (.Name x p1) k pos')) pos.line X.env=pure false:=by rfl) (hd:nDb x:=by decide) (hcd:nCd x:=by decide) :
  PS X (.Assign [.Subscript (.Name x p1) k pos'] value pos) (tS own (DK i fk fv)):=by
 intro pins s σ H D' I ⟨ρ,fl,E,h,q⟩;obtain ⟨d,h0,h⟩:=aY h;obtain ⟨kd,h1,h2⟩:=aY h;split at h2
 ·rename_i xs kk hx;split at h2
  ·rename_i hp;split at h2
   ·rename_i j hj;cases h2;obtain ⟨a,vs,hσ,e0,rr,hin,rp,_⟩:=KH E ho hx;have pn:D.aV (xs.set j d)=true:=eO.mpr fun y hy=>by
     rcases List.mem_or_eq_of_mem_set hy with hy|hy
     ·exact eO.mp hin y hy
     ·subst hy;exact hp
    have go:∀{v:V} {H2:Hp},cD H H2->Rep All H2 v d->D'.nx σ (upd H2 a (.lst (vs.set j v))):=fun {v H2} sm rv=>by
     have rn:bK All (upd H2 a (.lst (vs.set j v))) (vs.set j v) (xs.set j d):=((rr.same sm).set rv j).upd pn (sm _ _ e0) rfl;obtain ⟨E2,k2⟩:=(E.same sm).aEp (H':=upd H2 a (.lst (vs.set j v))) (o:=.lst (vs.set j v)) (d:=RD (ρ.getD i .uD) (xs.set j d)) ho hσ (fun b ob e n=>by rw [bO n];exact e) aP rfl (T_ (rp.same sm) hx aP trivial rn) (by rw [KC hx];exact pn);exact q _ _ ((KU.same sm).trans k2) E2
    refine wpAny_Assign_Subscript (thn (hv pins s σ H (fun v H1=>cD H H1/\Rep All H1 v d) I ⟨ρ,d,E.er,h0,fun v H1 s1 r1 _=>⟨s1,r1⟩⟩) fun u1 t1 ⟨v,H1,I1,rv1,sm1,rp1⟩=>
     thn (eV hN hvi hd hcd pins t1 σ H1 (fun w H2=>w=.ref a/\H2=H1) I1 ⟨_,hσ,rfl,rfl⟩) fun u2 t2 ⟨xx,H2,I2,rx,ex,eH⟩=>?_) hs
    subst ex;rw [eH] at I2;refine thn (hk pins t2 σ _ (fun w H3=>cD H1 H3/\w=.int kk) I2 ⟨ρ,_,E.er.same sm1,h1,fun w H3 s3 r3 _=>⟨s3,by cases r3;rfl⟩⟩) fun u3 t3 ⟨y,H3,I3,ry,sm3,ey⟩=>?_
    subst ey;exact thn (set_list pins t3 σ H3 (.ref a) (.int kk) v u2 u3 u1 (fun H4=>D'.nx σ H4) I3 rx ry rv1 ⟨a,vs,kk,j,rfl,rfl,(sm1.trans sm3) _ _ e0,by rw [rr.length];exact hj,go (sm1.trans sm3) (rp1.same sm3)⟩) fun _ t4 ⟨H4,I4,q4⟩=>⟨σ,H4,I4,q4⟩
   ·cases h2
  ·cases h2
 ·cases h2
theorem DN {pins:List (Addr×Obj)} {σ:L2.St} {H:Hp} {s:Shared} {a:Addr} {vs:List V} (I:Inv X pins σ H s) (e:H a=some (.lst vs)):∃o,Inv X pins σ (upd H a (.frz o (.lst vs))) s:=by
 obtain ⟨its,n,r,ho,hz⟩:=I.lst e;refine ⟨_,I.write (t':=s.toks) (x:=a) (e:=a) (h':=s.heap) (o:=.frz _ (.lst vs)) (by rw [e];trivial) (.inl rfl) (fun _ _ _ q=>q) ⟨_,ho⟩ ⟨ho,hz,its,n,r,ho⟩⟩
theorem KN {ys:List D} (h:ys.all isI=true):D.aV ys=true:=eO.mpr fun y hy=>by
 have:=List.all_eq_true.mp h y hy;cases y <;> first|rfl|cases this
theorem UJ {H H':Hp}:∀{xs r:List D} {vs:List V},X5 xs=.ok r->bK (New H) H' vs xs->∃b ws,H b=none/\H' b=some (.lst ws)/\D.aV r=true/\(∃(k:Nat) (ys:List D),vs[k]?=some (V.ref b)/\bK (New H) H' ws ys/\ys.all isI=true)/\∀o,bK (fun c=>H c=none) (upd H' b (.frz o (.lst ws))) vs r
 | [],r,vs,h,_=>by cases h
 | x::xs,r,_,h,.cons (v:=v) (vs:=vs) rx t=>by
  by_cases hl:∃ys,x=.lst ys
  ·obtain ⟨ys,rfl⟩:=hl;simp only [X5] at h;split at h
   ·rename_i hp;rw [Bool.and_eq_true] at hp;cases h;have hpi:=KN hp.1;cases rx with
    | @lst b ws _ e p rr=>
     have hne:∀ob,H' b=some ob->aD7 ob=true:=fun ob z=>by rw [e] at z;cases z;rfl
     refine ⟨b,ws,p,e,by rw [D.aV,Bool.and_eq_true];exact ⟨hpi,hp.2⟩,⟨0,ys,rfl,rr,hp.1⟩,fun o=>.cons (.frz (.inl ⟨o,aP⟩) ((k_ hne rr hpi).bJ hpi)) ((k_ hne t hp.2).bJ hp.2)⟩
   ·cases h
  ·have h':(if x.pure then (do let r <- X5 xs;.ok (x::r)) else .bad)=Res.ok r:=by
    cases x <;> first|exact h|exact absurd ⟨_,rfl⟩ hl
   split at h'
   ·rename_i hp;obtain ⟨r',h1,h2⟩:=aY h';cases h2;obtain ⟨b,ws,g1,g2,g3,⟨k,ys,g5,g6,g7⟩,g4⟩:=UJ h1 t;have hne:∀ob,H' b=some ob->aD7 ob=true:=fun ob z=>by rw [g2] at z;cases z;rfl
    exact ⟨b,ws,g1,g2,by rw [D.aV,Bool.and_eq_true];exact ⟨hp,g3⟩,⟨k+1,ys,by simpa using g5,g6,g7⟩,fun o=>.cons ((zK hne rx hp).bJ hp) (g4 o)⟩
   ·cases h'
theorem aBr (ha:PE X a (gE fa true)):PE X a (gE (aD8 fa) true):=by
 intro pins s σ H Q I ⟨ρ,d,E,h,q⟩;obtain ⟨x,h1,h⟩:=aY h;split at h
 ·rename_i xs;obtain ⟨r,h2,h⟩:=aY h;cases h;refine thn (ha pins s σ H (fun v H'=>cD H H'/\Rep (New H) H' v (.lst xs)) I ⟨ρ,_,E,h1,fun v H' sm rr n=>⟨sm,n rfl⟩⟩) fun u s' ⟨v,H',I',rv,sm,rn⟩=>?_
  cases rn with
  | @lst a vs _ e p rr=>
   obtain ⟨b,ws,g1,g2,g3,⟨k,ys,g5,g6,g7⟩,g4⟩:=UJ h2 rr;have hab:a≠b:=fun z=>by
    subst z;rw [e] at g2;cases g2;obtain ⟨d,hd,rd⟩:=g6.at g5;have:=List.all_eq_true.mp g7 d (List.mem_of_getElem? hd);cases d <;> first|(cases this;done)|(cases rd;done)
   obtain ⟨o,I2⟩:=DN I' g2;have s2:cD H (upd H' b (.frz o (.lst ws))):=fun c oc hc=>by
    rw [bO (fun z=>by subst z;rw [g1] at hc;cases hc)];exact sm c oc hc
   have e2:upd H' b (.frz o (.lst ws)) a=some (.lst vs):=by rw [bO hab];exact e
   exact ⟨.ref a,_,I2,rv,q _ _ s2 (.lst e2 trivial (g4 o).all) fun _=>.lst e2 p (g4 o)⟩
 ·cases h
end
end Mi
end
section
namespace Mi
open PySem L2 PySem.SeqAt PySem.Spec PyProof.Rows
variable [KFrag]
section
variable {X:Cx} {a:Expr} {fa:FE} {ra:Bool} {pos p p1 p2 p3:Pos}
theorem DP (ha:PE X a (gE fa ra)):PE X a (gE (bPu fa) true):=PE.imp ha fun σ H Q ⟨ρ,d,E,h,q⟩=>by
 obtain ⟨x,h1,h⟩:=aY h;split at h
 ·rename_i hp;cases h;exact ⟨ρ,_,E,h1,fun v H' s r _=>q v H' s r fun _=>r.bJ hp⟩
 ·cases h
end
end Mi
end
section
namespace Mi
open PySem L2 PySem.SeqAt PySem.Spec PyProof.Rows
variable [KFrag]
section
variable {own:Nat->Bool} {X:Cx} {pos:Pos}
end
end Mi
end
section
namespace Mi
open PySem L2 PySem.SeqAt PySem.Spec PyProof.Rows
noncomputable def DQ (i:Nat):FX:=fun ρ=>match ρ.getD i .uD with
 | .lst xs=>(match xs[xs.length-1]? with|some x=>.ok (x,ρ.set i (.lst xs.dropLast))|none=>.bad)
 | _=>.bad
noncomputable def aBs (f:FX):List D->Res (List D×List D):=fun ρ=>do
 let p <- f ρ
 let r <- gF [p.1]
 .ok (r.1,p.2)
noncomputable def KQ (it:List D->Res (List D×List D)) (t:D->List D->Res (List D)) (body:FS):FS:=fun ρ=>do
 let p <- it ρ
 lO t body p.1 p.2
variable [KFrag]
section
variable {X:Cx} {own:Nat->Bool} {a b e:Expr} {pos:Pos} {ga:FT} {xb:FXT} {xa:FX}
theorem X8 {i:Nat} {x:Str} {p1 apos cpos:Pos} (ho:own i=true) (hN:X.N[i]?=some x) (hv:Vis X.env.scope x) (hd:nDb x:=by decide) (hcd:nCd x:=by decide)
  (hbase:attributeBase (.Name x p1) "pop" X.env (eval (.Name x p1) X.env)=eval (.Name x p1) X.env:=by rfl)
  (hline:(apos.endLine==cpos.line)=true:=by rfl) :
  PE X (.Call (.Attribute (.Name x p1) "pop" apos) [] [] cpos) (gX own (DQ i)):=
 PE.imp (S7 PySem.F.plainAttrs_list PySem.F.slot_list_pop PySem.F.type_list_pop S8 (eV hN hv hd hcd) hbase hline) fun σ H Q ⟨ρ,d,ρ',E,h,q⟩=>by
 unfold DQ at h;split at h
 ·rename_i xs hx;split at h
  ·rename_i dx hdx;cases h;obtain ⟨a,o,hσ,r,hin,ha,hm⟩:=E.ownAt ho (by rw [hx];intro z;cases z);rw [hx] at r hin;obtain ⟨vs,hl,rr⟩:=zG r;obtain ⟨v,hvx,rv⟩:=rr.get hdx;have hlen:=rr.length;refine ⟨_,hσ,.inl ⟨rfl,vs,.of hl⟩,a,vs,v,rfl,rfl,hl,by rw [hlen];exact hvx,?_⟩;have hin':D.aV xs=true:=hin;have pall:∀y∈xs,y.pure=true:=fun y hy=>eO.mp hin' y hy
   have pdx:d.pure=true:=pall d (List.mem_of_getElem? hdx);have pe:D.aV xs.dropLast=true:=eO.mpr fun y hy=>pall y (List.dropLast_subset _ hy)
   have er:bK All H vs.dropLast xs.dropLast:=by
    rw [List.dropLast_eq_take,List.dropLast_eq_take,hlen];exact rr.take _
   obtain ⟨E2,k2⟩:=E.mut (o:=.lst vs.dropLast) (d:=.lst xs.dropLast) ho hσ rfl (.lst aP trivial (er.upd pe hl rfl)) pe;have r1:=(bK.cons rv .nil).upd (o:=.lst vs.dropLast) (by rw [D.aV,pdx];rfl) hl rfl;cases r1 with
   | cons r1 _=>exact q _ _ k2 E2 (.set ho) (r1.bJ pdx)
  ·cases h
 ·cases h
noncomputable def gIX (K:PySem.W.Frag) (own:Nat->Bool) (f:List D->Res (List D×List D)):TI:=fun σ H R=>∃ρ items ρ',ES own H σ ρ/\f ρ=.ok (items,ρ')/\∀J H1,KU own σ H σ H1->ES own H1 σ ρ'->ItQ K (fun a=>¬Own own σ a) J H1 items->R J H1
theorem aBt {tg:Expr} {p:Pos} (hg:Gl X "range") (hm:X.mg "range" = none) (ha:PE X a (gX own xa)) (hs:starEach [a] X.env=[(false,eval a X.env)]:=by rfl):PI X tg (.Call (.Name "range" p) [a] [] pos) (gIX X.K own (aBs xa)):=
 PI.imp (t8 hg hm (dO ha mR hs) hs) fun σ H R ⟨ρ,items,ρ',E,h,q⟩=>by
 obtain ⟨p,h1,h⟩:=aY h;obtain ⟨r,h2,h⟩:=aY h;cases h;refine ⟨ρ,p.1,p.2,E,h1,fun v H1 k1 E1 n1 r1=>?_⟩;unfold gF at h2;split at h2
 ·rename_i n he;split at h2
  ·rename_i hb;cases h2;obtain ⟨b1,b2⟩:=rE hb;injection he with he _
   rw [he] at r1;cases r1;exact ⟨_,rfl,b1,b2,q _ H1 k1 E1 (.rng 0 _ rfl rfl)⟩
  ·cases h2
 ·cases h2
theorem aBu {tg iter:Expr} {body:List Stmt} {g:TG} {t:D->List D->Res (List D)} {it:List D->Res (List D×List D)} {fb:FS} (hp:PassesOwn (model X.prog X.w) X.A X.env X.xe) (hc:X.calm=true) (hi:PI X tg iter (gIX X.K own it)) (ht:TgS own g t) (hg:PG X tg g) (hb:PSs X body (tS own fb))
  (hs:∀x,foldedSetIterable iter X.env x=pure x:=by intro _;rfl):PS X (.For tg iter body [] pos) (tS own (KQ it t fb)):=PS.imp (G5 hp hc hi hg hb hs) fun D' σ H ⟨ρ,fl,E,h,q⟩=>by
 obtain ⟨⟨items,ρ1⟩,h1,h2⟩:=aY h;exact ⟨ρ,items,ρ1,E,h1,fun J H1 k1 E1 hJ=>sJ ht E1 hJ h2 (q.step k1)⟩
end
end Mi
end
section
namespace Mi
open PySem L2 PySem.SeqAt PySem.Spec PyProof.Rows
noncomputable def bOw (i:Nat):FE:=fun ρ=>do
 let d <- cU i ρ
 if d.yM then .ok d else .bad
noncomputable def vB (f:FA):FS:=fun ρ=>do
 let ds <- f ρ
 if decide (ds.length<=lim) then .ok (.rt (.tup (.lst ds::ρ))) else .bad
noncomputable def KR (f:FX) (is:List Nat):FS:=fun ρ=>do
 let p <- f ρ
 match p.1 with
 | .lst xs=>if decide (xs.length=is.length) then .ok (.nx (wQ is xs p.2)) else .bad
 | _=>.bad
variable [KFrag]
section
variable {prog:Program} {w:World} {A:Around} {E:Value->Shared->Prop} {s:Shared}
theorem vC {it t:Addr} {items:Array Value} (hne:t≠it):∀(n i:Nat) (s:Shared) (Q:List Value->Shared->Prop),s.heap.IsListIter it t i->s.heap.IsList t items->i+n<=items.size->
  (∀h',h'.IsListIter it t (i+n)->Heap.SameBut it s.heap h'->Q ((items.toList.drop i).take n) {s with heap:=h'})->wpAny (model prog w) A (draw (.ref it) n) Q E s
 | 0,i,s,Q,hit,_,_,hQ=>by
  show wpAny _ _ (pure []) Q E s;exact wpAny_pure (by simpa using hQ s.heap hit (Heap.SameBut.refl ..))
 | n+1,i,s,Q,hit,ht,hle,hQ=>by
  have hlt:i<items.size:=by lia
  have keep:∀{h h':Heap},h.IsList t items->Heap.SameBut it h h'->h'.IsList t items:=fun {h h'} ⟨o,e,r⟩ sb=>⟨o,(sb.2 t hne).trans e,r⟩
  show wpAny _ _ (pyNext (.ref it) >>= _) Q E s;refine wpAny_bind (wpAny_pyNext_list_item hit ht (x:=items[i]) (by simp [hlt]) fun h₁ hit₁ hs₁=>?_);refine wpAny_bind (wpAny_holding (vC hne n (i+1) _ _ hit₁ (keep ht hs₁) (by lia) fun h₂ hit₂ hs₂=>wpAny_pure ?_));have hd:items.toList.drop i=items[i]::items.toList.drop (i+1):=by simp [List.drop_eq_getElem_cons,hlt]
  have:=hQ h₂ (by rw [show i+(n+1)=i+1+n by lia];exact hit₂) (hs₁.trans hs₂);rw [hd,List.take_succ_cons] at this;exact this
theorem xO {t:Addr} {items:Array Value} {targets:List (Bool×(Value->Sem Unit))} {Q:Unit->Shared->Prop} (hh:A.handled=none) (ht:s.heap.IsList t items)
  (hn:targets.length=items.size) (hstar:targets.findIdx? (·.1)=none)
  (h:∀h',Heap.ExtBut s.heap.objs.size s.heap h'->wpAny (model prog w) A (assignInOrder (targets.map (·.2)) items.toList) Q E {s with heap:=h'}) :
  wpAny (model prog w) A (unpack (.ref t) targets) Q E s:=by
 have hlt:t≠s.heap.objs.size:=by obtain ⟨o,ho,_⟩:=ht;exact Nat.ne_of_lt (Heap.lt_size ho)
 have push:∀o,(s.heap.push o).IsList t items:=fun o=>let ⟨o',e,r⟩:=ht;⟨o',Heap.get?_push_of_some _ e,r⟩
 unfold unpack;rw [hn,hstar];refine wpAny_bind (wpAny_holding ?_);unfold unpackItems;refine wpAny_bind ?_;unfold notIterableAtAll;refine wpAny_bind (wpAny_specialOf ht.typeIs PySem.F.slot_list_iter.lookup ?_);refine wpAny_pure ?_;simp only [Bool.false_eq_true,if_false];refine wpAny_bind (wpAny_holding (wpAny_pyIter_list ht ?_));refine wpAny_bind (wpAny_holding (vC hlt items.size 0 _ _ ⟨_,Heap.get?_push_size _ rfl,rfl,rfl⟩ (push _) (by lia) fun h₁ hit₁ hs₁=>?_));have hall:List.take items.size (List.drop 0 items.toList)=items.toList:=by
  rw [List.drop_zero];exact List.take_of_length_le (by simp)
 rw [hall];rw [if_neg (by simp)];have ht₁:h₁.IsList t items:=let ⟨o,e,r⟩:=push {cls:=.type "list_iterator",data:=.fields #[.ref t,.int 0 0]};⟨o,(hs₁.2 t hlt).trans e,r⟩
 refine wpAny_bind (wpAny_holding (wpAny_pyNext_list_end hh hit₁ ht₁ (by simp) fun h₂ he₂=>?_));simp only [Option.isSome_none,Bool.false_eq_true,if_false];exact wpAny_pure (h h₂ fun b o hb e=>he₂ b o hb (hs₁.extBut b o hb (Heap.get?_push_of_some _ e)))
end
section
variable {X:Cx} {own:Nat->Bool} {e:Expr} {pos pos':Pos} {fe:FE} {re:Bool} {xe:FX}
noncomputable def aBv (K:PySem.W.Frag) (n:Nat) (t:TGs):TG:=fun v σ H Q=>∃a xs,v=.ref a/\SqL K H a xs/\xs.length=n/\t xs σ H Q
theorem X_ {es:List Expr} {k:Nat} {t:TGs} {n:Nat} (hc:X.calm=true) (h:PGs X es t)
  (hn:(assignEach es X.env).length=n:=by rfl) (hst:(assignEach es X.env).findIdx? (·.1)=none:=by rfl):PG X (.Tuple es k pos) (aBv X.K n t):=by
 intro pins s σ H v u Q I r hw;obtain ⟨a,xs,e1,hq,hl,hw⟩:=hw;subst e1;cases r;obtain ⟨its,rv,ht,hz⟩:=I.list hq;rw [assign_Tuple];refine wpAny_bind (wpAny_standAt (xO (I.ok.hd hc) ht.isList (by simp [hn,<-hl,rv.length]) hst fun h' hx=>?_));have I1:Inv X pins σ H {s with heap:=h'}:=I.kept (t':=s.toks) fun b o e=>hx b o (Nat.ne_of_lt (Heap.lt_size e)) e
 exact h pins _ σ H xs _ Q I1 (by simpa using rv) hw
noncomputable def RP (own:Nat->Bool) (σ:L2.St) (H:Hp) (ρ:List D) (a:Addr):Prop:=(Own own σ a\/H a=none)/\∀i b xs,ρ.getD i .uD=.cel b xs->a≠b
theorem RP.same {σ:L2.St} {H H':Hp} {ρ:List D} {a:Addr} (s:cD H H') (h:RP own σ H' ρ a):RP own σ H ρ a:=⟨h.1.imp id s.free,h.2⟩
theorem UL {σ:L2.St} {H:Hp} {ρ:List D} {a:Addr} (E:ES own H σ ρ) (h:H a=none):RP own σ H ρ a:=⟨.inr h,fun i b xs hb z=>by
 obtain ⟨vs,_,e⟩:=jE E hb;subst z;rw [h] at e;cases e⟩
noncomputable def gAR (own:Nat->Bool) (f:FA):TA:=fun σ H Q=>∃ρ ds,ES own H σ ρ/\f ρ=.ok ds/\∀vs H',cD H H'->bK (RP own σ H ρ) H' vs ds->Q vs H'
theorem aBw:PA X [] (gAR own aO):=PA.imp mR fun σ H Q ⟨ρ,ds,E,h,q⟩=>by cases h;exact q [] H (cD.refl H) .nil
theorem UT {i:Nat} {x:Str} {es:List Expr} {f:FA} (ho:own i=true) (hN:X.N[i]?=some x) (hv:Vis X.env.scope x) (hes:PA X es (gAR own f)) (hd:nDb x:=by decide) (hcd:nCd x:=by decide) (hs:starEach (.Name x pos::es) X.env=(false,eval (.Name x pos) X.env)::starEach es X.env:=by rfl):PA X (.Name x pos::es) (gAR own (aB (bOw i) f)):=PA.imp (dO (eV hN hv hd hcd) hes hs) fun σ H Q ⟨ρ,ds,E,h,q⟩=>by
 obtain ⟨y,h1,h⟩:=aY h;obtain ⟨xs,h2,h⟩:=aY h;cases h;obtain ⟨d,h3,h1⟩:=aY h1;split at h1
 ·rename_i hc;cases h1;obtain ⟨v,hv,r,e⟩:=E.er.var h3;obtain ⟨a,o,rfl,r2,hin,_,_,huq⟩:=E.own i v ho hv;rw [e] at hin;have hp:RP own σ H ρ a:=⟨.inl ⟨i,ho,hv⟩,fun j b xs hb z=>by
   obtain ⟨vs,hj,eb⟩:=jE E hb;subst z;cases hoj:own j with
   | true=>
    have:=huq j hoj hj;subst this;rw [hb] at e;subst e;cases hc
   | false=>
    obtain ⟨w,hw,hr⟩:=E.at_ j (by rw [hb];intro z;cases z);have r3:=hr hoj;rw [hb] at r3;cases r3 with
    | cel e p r=>exact p ⟨i,ho,hv⟩⟩
  exact ⟨_,hv,ρ,xs,E,h2,fun vs H2 s2 r2=>q _ _ s2 (.cons ((r.mJ hin hp).same s2) r2)⟩
 ·cases h1
theorem aBx {es:List Expr} {f:FA} (he:PE X e (gE fe true)) (hes:PA X es (gAR own f)) (hs:starEach (e::es) X.env=(false,eval e X.env)::starEach es X.env:=by rfl):PA X (e::es) (gAR own (aB fe f)):=PA.imp (dO he hes hs) fun σ H Q ⟨ρ,ds,E,h,q⟩=>by
 obtain ⟨y,h1,h⟩:=aY h;obtain ⟨xs,h2,h⟩:=aY h;cases h;exact ⟨ρ,_,E.er,h1,fun v H1 s1 r1 n1=>⟨ρ,xs,E.same s1,h2,fun vs H2 s2 r2=>q _ _ (s1.trans s2) (.cons (((n1 rfl).mono fun a ha=>UL E ha).same s2) (r2.mono fun a ha=>ha.same s1))⟩⟩
theorem RK {es:List Expr} {f:FA} (h:PA X es (gAR own f)) (hx:own rtX=true:=by rfl):PS X (.Return (some (.List es pos')) pos) (tS own (vB f)):=PS.imp (qY (S5 h)) fun D σ H ⟨ρ,fl,E,h,q⟩=>by
 obtain ⟨ds,h1,h2⟩:=aY h;split at h2
 ·rename_i hl;cases h2;refine ⟨ρ,ds,E,h1,fun vs H1 s1 r1=>⟨by rw [r1.length];exact jM hl,fun p hp=>?_⟩⟩;have s2:cD H1 (upd H1 p (.lst vs)):=cD.upd hp;have hpH:H p=none:=s1.free hp;exact kRt.new q hx _ σ _ (.same (s1.trans s2)) (E.same (s1.trans s2)) (.lst aP (UL E hpH) (r1.same s2))
 ·cases h2
theorem aBy {es:List Expr} {k:Nat} {is:List Nat} {pt:Pos} (ho:∀i∈is,own i=false) (he:PE X e (gX own xe)) (hg:PG X (.Tuple es k pt) (aBv X.K is.length (gIx is))) (hs:swapsWithSole [.Tuple es k pt] e pos.line X.env=pure false:=by rfl) (hw:swappedStores [.Tuple es k pt] e X.env=pure none:=by rfl)
  (h1:(assignEach [.Tuple es k pt] X.env).map (·.2)=[assign (.Tuple es k pt) X.env]:=by rfl):PS X (.Assign [.Tuple es k pt] e pos) (tS own (KR xe is)):=PS.imp (Z_ he hg hs hw h1) fun D' σ H ⟨ρ,fl,E,h,q⟩=>by
 obtain ⟨p,h1,h2⟩:=aY h;refine ⟨ρ,p.1,p.2,E,h1,fun v H1 k1 E1 n1 r=>?_⟩;split at h2
 ·rename_i xs hxs;split at h2
  ·rename_i hl;cases h2;have hl':=of_decide_eq_true hl;rw [hxs] at r;have r2:=rY E r;obtain ⟨a,vs,rfl,sq,rr⟩:=r2.gH (K:=X.K);refine ⟨a,vs,rfl,sq,by rw [rr.length];exact hl',rW _ _ _ (by rw [rr.length];exact hl') ?_⟩;obtain ⟨E2,hO⟩:=ES.sets ho E1 rr;exact q _ H1 (k1.trans fun a o e n=>⟨e,by rw [hO];exact n⟩) E2
  ·cases h2
 ·cases h2
end
end Mi
end
section
namespace Mi
open PySem PySem.Spec
namespace Rv
theorem DR:typeLookup (.type "tuple") "__reversed__" = pure none:=by rw [typeLookup_type,builtinLookup_eq_fast];kernel_rfl
theorem DW:typeLookup (.type "reversed") "__len__" = pure none:=by rw [typeLookup_type,builtinLookup_eq_fast];kernel_rfl
theorem slot_next:Slot "reversed" "__next__" "reversed.__next__":=
 .of (owner := "reversed") (n := "__next__") (by rw [typeLookup_type,builtinLookup_eq_fast];kernel_rfl) (by decide +kernel) (by decide +kernel) (by decide +kernel)
  (by first|exact .inl (by decide +kernel)|exact .inr (by decide +kernel)) (by rw [isSubtype_type];kernel_rfl)
theorem pX:Slot "reversed" "__length_hint__" "reversed.__length_hint__":=
 .of (owner := "reversed") (n := "__length_hint__") (by rw [typeLookup_type,builtinLookup_eq_fast];kernel_rfl) (by decide +kernel) (by decide +kernel) (by decide +kernel)
  (by first|exact .inl (by decide +kernel)|exact .inr (by decide +kernel)) (by rw [isSubtype_type];kernel_rfl)
theorem vD:Slot "reversed" "__iter__" "reversed.__iter__":=
 .of (owner := "reversed") (n := "__iter__") (by rw [typeLookup_type,builtinLookup_eq_fast];kernel_rfl) (by decide +kernel) (by decide +kernel) (by decide +kernel)
  (by first|exact .inl (by decide +kernel)|exact .inr (by decide +kernel)) (by rw [isSubtype_type];kernel_rfl)
theorem entry_next:entryFor table "reversed.__next__" = some Builtin.«reversed.__next__»:=entryFor_of_tree (by kernel_rfl)
theorem DX:entryFor table "reversed.__length_hint__" = some Builtin.«reversed.__length_hint__»:=entryFor_of_tree (by kernel_rfl)
theorem DY:entryFor table "reversed.__iter__" = some Builtin.«dict_keyiterator.__iter__»:=
 entryFor_alias (id' := "dict_keyiterator.__iter__") (by kernel_rfl) (by first|rfl|decide +kernel|(unfold String.splitOn;simp +decide [String.splitOnAux])) (by decide +kernel) (by kernel_rfl)
theorem owner:Manifest.owners.lookup (String.ofList ['d','e','s','r','e','v','e','r'].reverse)=some Manifest.sig_reversed:=by kernel_rfl
theorem args_next (a:Value):argsOk "reversed.__next__" ⟨[a],[]⟩:=by
 unfold argsOk;rw [signature?_of (id := "reversed.__next__") (n:=['_','_','t','x','e','n','_','_']) (o:=['d','e','s','r','e','v','e','r']) (by kernel_rfl) owner];kernel_rfl
theorem KY (a:Value):argsOk "reversed.__iter__" ⟨[a],[]⟩:=by
 unfold argsOk;rw [signature?_of (id := "reversed.__iter__") (n:=['_','_','r','e','t','i','_','_']) (o:=['d','e','s','r','e','v','e','r']) (by kernel_rfl) owner];kernel_rfl
theorem KZ (a:Value):argsOk "reversed.__length_hint__" ⟨[a],[]⟩:=by
 unfold argsOk;rw [signature?_of (id := "reversed.__length_hint__") (n:=['_','_','t','n','i','h','_','h','t','g','n','e','l','_','_']) (o:=['d','e','s','r','e','v','e','r']) (by kernel_rfl) owner];kernel_rfl
theorem K1:Slot "reversed" "__init__" "object.__init__":=
 .of (owner := "object") (n := "__init__") (by rw [typeLookup_type,builtinLookup_eq_fast];kernel_rfl) (by decide +kernel) (by decide +kernel) (by decide +kernel)
  (by first|exact .inl (by decide +kernel)|exact .inr (by decide +kernel)) (by rw [isSubtype_type];kernel_rfl)
theorem called:TypeCalled "reversed" "reversed.__new__" "object.__init__":=
 ⟨by decide +kernel,by decide +kernel,⟨_,_,PySem.F.mro_reversed⟩,PySem.F.made_reversed,by decide +kernel,by rw [isSubtype_type];kernel_rfl,K1⟩
noncomputable def obj (t:Addr) (i:Int):Obj:={cls:=.type "reversed",data:=.fields #[.ref t,rawInt i]}
theorem K3 (t:Addr) (items:Array Value) (n:Nat) (dct:Option Addr) (sl:Array (Option Value)) (hz:(items.size:Int)<2 ^ 62) :
  Meets (Builtin.«reversed.__new__» ⟨[.type "reversed",.ref t],[]⟩) (fun _ R s=>s.heap.get? t=some {cls:=.type "tuple",dict:=dct,data:=.seq items n,slots:=sl}/\
   ∀tk,R (.ok (.ret (.ref s.heap.objs.size))) {s with heap:=s.heap.push (obj t ((items.size:Int)-1)),toks:=tk}):=
 .of_wp fun prog w A R s h=>by
  obtain ⟨hp,g,d,tk,os⟩:=s;obtain ⟨hl,h⟩:=h;have hT:(Shared.mk hp g d tk os).TypeIs (.ref t) "tuple":=⟨_,hl,rfl⟩
  unfold Builtin.«reversed.__new__»;refine wpAny_bind (wpAny_of_eq (newClass_reversed _) ?_)
  try dsimp only
  refine wpAny_bind (wpAny_of_eq (a:=()) (by first|rfl|kernel_rfl) ?_);refine wpAny_bind (wpAny_of_eq (a:=()) (by first|rfl|kernel_rfl) ?_)
  try dsimp only
  refine wpAny_bind (wpAny_specialOf hT DR ?_)
  try dsimp only
  refine wpAny_bind ?_;refine wpAny_bind (wpAny_isInstance (T := "tuple") (b:=false) hT (by rw [isSubtype_type];kernel_rfl) ?_);refine wpAny_ite_split (fun hab=>absurd hab (by decide)) (fun _=>?_);refine wpAny_bind (wpAny_specialOf hT PyProof.Rows.slot_tuple_getitem.lookup ?_);dsimp only;rw [if_pos (by decide +kernel)];refine wpAny_pure ?_;rw [if_neg (by decide)];refine wpAny_bind (PyProof.Rows.len_tuple (items:=items) ⟨_,hl,rfl,n,rfl⟩ (by lia) ?_);refine wpAny_bind (wpAny_of_eq (a:=some (items.size:Int)) rfl ?_);dsimp only;refine wpAny_bind ?_;unfold Builtin.SmallTypes.newRecord;exact wpAny_newObj_type (wpAny_pure ⟨_,rfl,h _⟩)
theorem RL {prog:Program} {w:World} {A:Around} {E:Value->Shared->Prop} {s:Shared} {t:Addr} {items:Array Value} {Q:Value->Shared->Prop} (hL:s.heap.IsTuple t items) (hz:(items.size:Int)<2 ^ 62)
  (h:∀tk,Q (.ref s.heap.objs.size) {s with heap:=s.heap.push (obj t ((items.size:Int)-1)),toks:=tk}):wpAny (model prog w) A (call (.type "reversed") [.ref t]) Q E s:=by
 obtain ⟨⟨c,dct,dt,sl⟩,hl,hc,n,hd⟩:=hL;replace hc:c=.type "tuple":=hc;replace hd:dt=.seq items n:=hd;subst hc hd;refine callType_new called (by decide) (PySem.F.typeCall_reversed_1 _) (PySem.F.newCall_reversed_1 _) (fun obj=>PySem.F.args_object_init_2 obj _) PySem.F.entry_reversed_new (K3 t items n dct sl hz) ⟨hl,fun tk=>⟨⟨_,Heap.get?_push_size _ rfl,rfl⟩,h tk⟩⟩
noncomputable def Is (h:Heap) (a t:Addr) (i:Int):Prop:=∃o,h.get? a=some o/\o.cls=.type "reversed"/\o.data=.fields #[.ref t,rawInt i]
theorem Is.ty {s:Shared} {a t:Addr} {i:Int} (x:Is s.heap a t i):s.TypeIs (.ref a) "reversed":=let ⟨o,ho,hc,_⟩:=x;⟨o,ho,hc⟩
theorem Is.at {h h':Heap} {a t:Addr} {i:Int} (x:Is h a t i) (e:∀o,h.get? a=some o->h'.get? a=some o):Is h' a t i:=let ⟨o,ho,r⟩:=x;⟨o,e o ho,r⟩
section
variable {prog:Program} {w:World} {A:Around} {E:Value->Shared->Prop} {s:Shared}
theorem next_item {it t:Addr} {i:Nat} {items:Array Value} {x:Value} {Q:Option Value->Shared->Prop} (hit:Is s.heap it t (i:Int)) (hl:s.heap.IsTuple t items) (hx:items[i]?=some x) (hz:(items.size:Int)<2 ^ 62)
  (hQ:∀h' tk,Is h' it t ((i:Int)-1)->Heap.SameBut it s.heap h'->Q (some x) {s with heap:=h',toks:=tk}):wpAny (model prog w) A (pyNext (.ref it)) Q E s:=by
 obtain ⟨o,ho,hc,hd⟩:=id hit;have hi:i<items.size:=(Array.getElem?_eq_some_iff.mp hx).1;unfold pyNext;refine wpAny_bind (wpAny_attempt (wpAny_callSpecial?_slot (name:=Str.ofString "__next__") hit.ty slot_next
  (wpAny_call_entry slot_next hit.ty entry_next ?_ (args_next _))))
 unfold Builtin.«reversed.__next__»;refine wpAny_bind (wpAny_of_eq (a:=(Value.ref it,[])) rfl ?_)
 try dsimp only
 refine wpAny_bind (wpAny_field ho hd (x:=.ref t) rfl ?_);refine wpAny_bind (wpAny_field ho hd (x:=rawInt (i:Int)) rfl ?_);show wpAny _ _ (if (i:Int)<0 then _ else _) _ _ s;rw [if_neg (by lia)];refine wpAny_bind (wpAny_specialOf hl.typeIs PyProof.Rows.slot_tuple_getitem.lookup ?_);rw [if_neg (by simp)];refine wpAny_bind (wpAny_mkInt ?_);refine wpAny_bind (wpAny_attempt (PyProof.Rows.getItem_tuple (items:=items) (j:=i) (x:=x) hl (by lia) (by lia) (by unfold seqIndex?;simp;lia) hx ?_));dsimp only;refine wpAny_bind (wpAny_field ho hd (x:=rawInt (i:Int)) rfl ?_);show wpAny _ _ (setField (.ref it) 1 (rawInt ((i:Int)-1)) >>= _) _ _ _;refine wpAny_bind (wpAny_setField ho hd (by simp) ?_);refine wpAny_pure ⟨x,rfl,wpAny_pure (hQ _ _ ?_ (Heap.SameBut.update ..))⟩;exact ⟨_,Heap.get?_update_self _ ho (Obj.isFreed_of_fields (Obj.data_mapFields hd _)),(Obj.cls_mapFields ..).trans hc,by
  rw [Obj.data_mapFields hd];simp⟩
theorem next_end {it t:Addr} {Q:Option Value->Shared->Prop} (hh:A.handled=none) (hit:Is s.heap it t (-1))
  (hQ:∀h',Heap.ExtBut it s.heap h'->Q none {s with heap:=h'}):wpAny (model prog w) A (pyNext (.ref it)) Q E s:=by
 obtain ⟨o,ho,hc,hd⟩:=id hit;unfold pyNext;refine wpAny_bind (wpAny_attempt (wpAny_callSpecial?_slot (name:=Str.ofString "__next__") hit.ty slot_next
  (wpAny_call_entry slot_next hit.ty entry_next ?_ (args_next _))))
 unfold Builtin.«reversed.__next__»;refine wpAny_bind (wpAny_of_eq (a:=(Value.ref it,[])) rfl ?_)
 try dsimp only
 refine wpAny_bind (wpAny_field ho hd (x:=.ref t) rfl ?_);refine wpAny_bind (wpAny_field ho hd (x:=rawInt (-1)) rfl ?_);show wpAny _ _ (if (-1:Int)<0 then _ else _) _ _ s;rw [if_pos (by decide)];refine wpAny_bind (wpAny_rule ?_);refine wpAny_bind ?_;refine wpAny_bind (wpAny_setField ho hd (by simp) ?_);have h1:=Heap.get?_update_self (h:=s.heap) (a:=it) (Obj.mapFields (·.set! 1 (rawInt (-1)))) ho (Obj.isFreed_of_fields (Obj.data_mapFields hd _));have hd1:(Obj.mapFields (·.set! 1 (rawInt (-1))) o).data=.fields #[.ref t,rawInt (-1)]:=by rw [Obj.data_mapFields hd];simp
 refine wpAny_setField h1 hd1 (by simp) ?_;refine wpAny_bind ?_;unfold Builtin.SmallTypes.stopIteration;simp only [newExc,newTuple];refine wpAny_bind ?_;refine wpAny_bind (wpAny_newObj_type ?_ (by size_fits));refine wpAny_bind (m:=firstArgMember _ _) (wpAny_of_eq (a:=Value.none) (by first|rfl|(simp only [firstArgMember];rfl)) ?_);refine wpAny_newObj_type ?_ (by size_fits);simp only [raiseNew];refine wpAny_bind (wpAny_handled ?_)
 first|rw [show A.in1.handled=none from hh]|rw [hh]
 refine wpAny_bind (wpAny_pure (wpAny_throw ?_));refine wpAny_bind (wpAny_isInstance (T := "StopIteration") (b:=true) ⟨_,Heap.get?_push_size _ rfl,rfl⟩ isSubtype_stop ?_);exact wpAny_pure (hQ _ ((((Heap.SameBut.update ..).trans (Heap.SameBut.update ..)).extBut.push _).push _))
theorem vG {it t:Addr} {i:Int} {Q:Value->Shared->Prop} (hit:Is s.heap it t i) (h:Q (.ref it) s):wpAny (model prog w) A (pyIter (.ref it)) Q E s:=by
 refine wpAny_pyIter_slot hit.ty vD (wpAny_call_entry vD hit.ty DY ?_ (KY _));show wpAny _ _ (ret (.ref it)) _ _ s;exact wpAny_pure ⟨_,rfl, "reversed",_,hit.ty,slot_next.lookup,h⟩
end
theorem walks {prog:Program} {w:World} {A:Around} (hh:A.handled=none) (I l:Addr) (hne:l≠I) (items:Array Value) (hz:(items.size:Int)<2 ^ 62) :
  Walks prog w A I [I,l] [I] items.size (fun i v=>items[items.size-1-i]?=some v) (fun i h=>i<=items.size/\Is h I l ((items.size:Int)-1-(i:Int))/\h.IsTuple l items) where
 sub:=fun b hb=>by simp at hb;simp [hb]
 frame:=fun _ _ _ x hk=>⟨x.1,x.2.1.at fun o e=>hk I (by simp) o e,let ⟨o,e,r⟩:=x.2.2;⟨o,hk l (by simp) o e,r⟩⟩
 item:=fun i s Q E hi x hQ=>by
  have e:(items.size:Int)-1-(i:Int)=((items.size-1-i:Nat):Int):=by lia
  have hit:=x.2.1;rw [e] at hit;have hx:items[items.size-1-i]?=some (items[items.size-1-i]'(by lia)):=Array.getElem?_eq_getElem (by lia);refine next_item hit x.2.2 hx hz fun h' tk hit' hs'=>?_
  have e2:((items.size-1-i:Nat):Int)-1=(items.size:Int)-1-((i+1:Nat):Int):=by lia
  rw [e2] at hit';exact hQ _ h' tk hx ⟨hi,hit',let ⟨o,eo,r⟩:=x.2.2;⟨o,(hs'.2 l hne).trans eo,r⟩⟩ fun b o hb eo=>hs'.extBut b o (fun h=>hb (by simp [h])) eo
 done:=fun s Q E x hQ=>by
  have e:(items.size:Int)-1-(items.size:Int)=-1:=by lia
  have hit:=x.2.1;rw [e] at hit;exact next_end hh hit fun h' he'=>hQ h' s.toks fun b o hb eo=>he' b o (fun h=>hb (by simp [h])) eo
 self:=fun _ _ _ _ x hQ=>vG x.2.1 hQ
section
variable {prog:Program} {w:World} {A:Around} {E:Value->Shared->Prop} {s:Shared}
theorem hint {I l:Addr} {items:Array Value} {Q:Bool->Shared->Prop} (hit:Is s.heap I l ((items.size:Int)-1)) (hl:s.heap.IsTuple l items) (hz:items.size<=sizeLine) (h:∀b tk,Q b {s with toks:=tk}):wpAny (model prog w) A (Builtin.List.listLengthHint (.ref I)) Q E s:=by
 unfold Builtin.List.listLengthHint;refine wpAny_bind (wpAny_specialOf hit.ty DW ?_);dsimp only;refine wpAny_ite_split (fun hab=>absurd hab (by decide +kernel)) (fun _=>?_);rw [if_neg (by simp)];refine wpAny_bind (wpAny_specialOf hit.ty pX.lookup ?_);generalize hid:("reversed.__length_hint__" : String)=id0
 wp_delta
 rw [show splitId id0=some ("reversed", "__length_hint__") from by subst hid;decide +kernel];subst hid;refine wpAny_bind (wpAny_isInstance (T := "reversed") (b:=true) hit.ty PySem.F.sub_reversed_self ?_);refine wpAny_ite_split (fun hab=>absurd hab (by decide)) (fun _=>?_);refine wpAny_ite_split (fun hab=>absurd hab (by decide +kernel)) (fun _=>?_);refine wpAny_bind (wpAny_rule ?_);refine wpAny_bind (wpAny_of_eq (pX.bind _) ?_);refine wpAny_bind (wpAny_attempt (wpAny_call_entry pX hit.ty DX ?_ (KZ _)));obtain ⟨o,ho,hc,hd⟩:=id hit;unfold Builtin.«reversed.__length_hint__»;refine wpAny_bind (wpAny_of_eq (a:=Value.ref I) rfl ?_);refine wpAny_bind (wpAny_field ho hd (x:=.ref l) rfl ?_);rw [if_neg (show ¬((Value.ref l==Value.none)=true) from Bool.false_ne_true)];rw [sizeLine_eq] at hz;refine wpAny_bind (PyProof.Rows.len_tuple (items:=items) hl (by lia) ?_);refine wpAny_bind (wpAny_of_eq (a:=some (items.size:Int)) rfl ?_);dsimp only;refine wpAny_bind (wpAny_field ho hd (x:=rawInt ((items.size:Int)-1)) rfl ?_);show wpAny _ _ (if (items.size:Int)<(items.size:Int)-1+1 then _ else _) _ _ _;rw [if_neg (by lia)];refine wpAny_bind (wpAny_mkInt (wpAny_pure ⟨_,rfl,?_⟩));dsimp only;refine wpAny_bind (wpAny_of_eq (a:=some ((items.size:Int)-1+1)) rfl ?_);dsimp only;rw [if_neg (by simp only [Builtin.List.listFitsIndex,Bool.not_eq_true',Bool.not_eq_false,Bool.and_eq_true,decide_eq_true_eq];lia),if_neg (by lia),if_neg (by simp only [Builtin.List.listTooLong,decide_eq_true_eq,sizeLine_eq];lia)];exact wpAny_pure (h _ _)
theorem extend {R:Result->Shared->Prop} {I l:Addr} {items:Array Value} (hh:A.handled=none) (hit:Is s.heap I l ((items.size:Int)-1)) (hl:s.heap.IsTuple l items) (hIl:l≠I) (S:Addr) (hSr:S≠I) (hSd:S≠l) (res:Value) (c₀:Nat) (hS:s.heap.get? S=some {cls:=.type "list",data:=.seq #[] c₀})
  (hR:∀h' tk acc' c',(∀b o,b≠S->b≠I->s.heap.get? b=some o->h'.get? b=some o)->h'.get? S=some {cls:=.type "list",dict:=none,data:=.seq acc' c',slots:=#[]}->ItemsOf (fun i v=>items[items.size-1-i]?=some v) acc' items.size->R (.ok (.ret res)) {s with heap:=h',toks:=tk}) (hn:items.size<=sizeLine) :
  wpAny (model prog w) A.in1 (Builtin.List.listExtendWith (.ref S) (.ref I) res)
   (fun fin s'=>match fin with|.done f=>R (.ok f) s'|.again c'=>c'.quiet=true/\codeAny (model prog w) A c' R s') (fun e s'=>R (.error e) s') s:=by
 have hz:(items.size:Int)<2 ^ 62:=by rw [sizeLine_eq] at hn;lia
 have W:=walks (prog:=prog) (w:=w) (A:=A.in1) hh I l hIl items hz;have hSf:S∉[I,l]:=by simp only [List.mem_cons,List.not_mem_nil,or_false,not_or];exact ⟨hSr,hSd⟩
 have st0:∀{h:Heap},Is h I l ((items.size:Int)-1)->h.IsTuple l items->0<=items.size/\Is h I l ((items.size:Int)-1-((0:Nat):Int))/\h.IsTuple l items:=fun {h} a b=>⟨Nat.zero_le _,by simpa using a,b⟩
 have key:∀(h:Heap) (c₁ tk:Nat),Is h I l ((items.size:Int)-1)->h.IsTuple l items->(∀b o,b≠S->s.heap.get? b=some o->h.get? b=some o)->
   h.get? S=some {cls:=.type "list",data:=.seq #[] c₁}->codeAny (model prog w) A (.builtin "list.extend.loop" ⟨[.ref S,.ref I,res],[]⟩) R {s with heap:=h,toks:=tk}:=by
  intro h c₁ tk h1 h2 hk hS₁;refine codeAny_extend_loopS W.toS hn S hSf res items.size 0 _ #[] c₁ rfl (Nat.zero_le _) (st0 h1 h2) hS₁ (ItemsOf.nil _) fun s' acc' c' hm hS' hacc=>?_
  rw [Moved.eq_with hm];refine hR s'.heap s'.toks acc' c' (fun b o hb hbI e=>hm.heap b o (fun hmem=>?_) (hk b o hb e)) hS' hacc;rcases List.mem_cons.mp hmem with e'|hmem
  ·exact hb e'
  ·exact hbI (List.mem_singleton.mp hmem)
 unfold Builtin.List.listExtendWith;refine wpAny_bind (wpAny_typeOf (T := "reversed") hit.ty ?_);have h1:Builtin.List.listSameRef (.ref S) (.ref I)=false:=by simp [Builtin.List.listSameRef,hSr]
 have n1:(Value.type "reversed" == Value.type "list")=false:=by decide
 have n2:(Value.type "reversed" == Value.type "tuple")=false:=by decide
 simp only [h1,n1,n2,Bool.or_false,Bool.false_eq_true,if_false];refine wpAny_bind (vG hit ?_);refine wpAny_bind (wpAny_holding (hint hit hl hn fun b tk=>?_));refine wpAny_ite_split (fun _=>?_) (fun _=>wpAny_pure ⟨plainId_quiet PySem.F.plain_extend_loop _,key _ c₀ _ hit hl (fun b o _ e=>e) hS⟩);refine wpAny_bind (wpAny_rule ?_);refine wpAny_bind ?_;show wpAny _ _ (updateSeq S (·.push .none) >>= fun _=>updateSeq S (·.pop)) _ _ _;refine wpAny_bind (wpAny_updateSeq hS rfl ?_);have hS₂:=Heap.get?_update_self (Obj.mapSeq (·.push Value.none)) hS rfl;refine wpAny_updateSeq (hz:=by seq_fits) hS₂ rfl ?_;have hS₃:=Heap.get?_update_self (Obj.mapSeq (·.pop)) hS₂ rfl;have oth:∀b o,b≠S->s.heap.get? b=some o->((s.heap.update S (Obj.mapSeq (·.push Value.none))).update S (Obj.mapSeq (·.pop))).get? b=some o:=fun b o hb e=>(Heap.get?_update_other _ _ (Ne.symm hb)).trans ((Heap.get?_update_other _ _ (Ne.symm hb)).trans e)
 refine wpAny_pure ⟨plainId_quiet PySem.F.plain_extend_loop _,key _ _ _ (hit.at fun o e=>oth I o (Ne.symm hSr) e) (let ⟨o,e,r⟩:=hl;⟨o,oth l o (Ne.symm hSd) e,r⟩) (fun b o hb e=>oth b o hb e) hS₃⟩
theorem init {R:Result->Shared->Prop} {I l:Addr} {items:Array Value} (hh:A.handled=none) (hit:Is s.heap I l ((items.size:Int)-1)) (hl:s.heap.IsTuple l items) (hIl:l≠I) (S:Addr) (hSr:S≠I) (hSd:S≠l) (hS:s.heap.get? S=some {cls:=.type "list",data:=.seq #[]})
  (hR:∀h' tk acc' c',(∀b o,b≠S->b≠I->s.heap.get? b=some o->h'.get? b=some o)->h'.get? S=some {cls:=.type "list",dict:=none,data:=.seq acc' c',slots:=#[]}->ItemsOf (fun i v=>items[items.size-1-i]?=some v) acc' items.size->R (.ok (.ret .none)) {s with heap:=h',toks:=tk}) (hn:items.size<=sizeLine) :
  wpAny (model prog w) A.in1 (Builtin.«list.__init__» ⟨[.ref S,.ref I],[]⟩)
   (fun fin s'=>match fin with|.done f=>R (.ok f) s'|.again c'=>c'.quiet=true/\codeAny (model prog w) A c' R s') (fun e s'=>R (.error e) s') s:=by
 show wpAny _ _ (do let old <- Builtin.List.listItems (.ref S);Builtin.List.listUpdate (.ref S) (fun _=>#[]);letGo old.toList.reverse;Builtin.List.listExtendWith (.ref S) (.ref I) .none) _ _ s;refine wpAny_bind ?_;unfold Builtin.List.listItems;refine wpAny_bind (wpAny_seqItems hS rfl (wpAny_pure ?_));show wpAny _ _ (updateSeq S (fun _=>#[]) >>= fun _=>letGo (#[]:Array Value).toList.reverse >>= fun _=>Builtin.List.listExtendWith (.ref S) (.ref I) .none) _ _ s;refine wpAny_bind (wpAny_updateSeq hS rfl ?_);have hS₂:=Heap.get?_update_self (Obj.mapSeq (fun _=>(#[]:Array Value))) hS rfl;have oth:∀b o,b≠S->s.heap.get? b=some o->(s.heap.update S (Obj.mapSeq (fun _=>(#[]:Array Value)))).get? b=some o:=
  fun b o hb e=>(Heap.get?_update_other _ _ (Ne.symm hb)).trans e
 refine wpAny_bind (wpAny_letGo ?_);refine extend hh (hit.at fun o e=>oth I o (Ne.symm hSr) e) (let ⟨o,e,r⟩:=hl;⟨o,oth l o (Ne.symm hSd) e,r⟩) hIl S hSr hSd .none _ hS₂ (fun h' tk acc' c' hk hS' hacc=>?_) hn;exact hR h' tk acc' c' (fun b o hb hbI e=>hk b o hb hbI (oth b o hb e)) hS' hacc
theorem K4 {I l:Addr} {items:Array Value} {Q:Value->Shared->Prop} (hh:A.handled=none) (hit:Is s.heap I l ((items.size:Int)-1)) (hl:s.heap.IsTuple l items) (hIl:l≠I) (hn:items.size<=sizeLine)
  (hQ:∀h' tk acc' c',(∀b o,b≠I->s.heap.get? b=some o->h'.get? b=some o)->h'.get? s.heap.objs.size=some {cls:=.type "list",dict:=none,data:=.seq acc' c',slots:=#[]}->ItemsOf (fun i v=>items[items.size-1-i]?=some v) acc' items.size->Q (.ref s.heap.objs.size) {s with heap:=h',toks:=tk}) :
  wpAny (model prog w) A (call (.type "list") [.ref I]) Q E s:=by
 refine callType_codes (Q₁:=fun obj s₁=>obj=.ref s.heap.objs.size/\s₁={s with heap:=s.heap.push {cls:=.type "list",data:=.seq #[]}}) PySem.F.called_list (PySem.F.typeCall_list_1 _) PySem.F.entry_list_init
  (code_list_new _ ⟨rfl,rfl⟩) fun obj s₁ h₁=>?_
 obtain ⟨rfl,rfl⟩:=h₁;have hS:(s.heap.push {cls:=.type "list",data:=.seq #[]}).get? s.heap.objs.size=some {cls:=.type "list",data:=.seq #[]}:=Heap.get?_push_size _ rfl;have lt:∀{b:Addr} {o:Obj},s.heap.get? b=some o->s.heap.objs.size≠b:=fun e=>Nat.ne_of_gt (Heap.lt_size e)
 have l1:s.heap.objs.size≠I:=let ⟨o,e,_⟩:=hit;lt e
 have l2:s.heap.objs.size≠l:=let ⟨o,e,_⟩:=hl;lt e
 refine ⟨⟨_,hS,rfl⟩,PySem.F.args_list_init_2 _ _,init (A:=A.in1) hh (hit.at fun o e=>Heap.get?_push_of_some _ e) (let ⟨o,e,r⟩:=hl;⟨o,Heap.get?_push_of_some _ e,r⟩) hIl _ l1 l2 hS (fun h' tk acc' c' hk hS' hacc=>?_) hn⟩;exact ⟨rfl,hQ h' tk acc' c' (fun b o hb e=>hk b o (Ne.symm (lt e)) hb (Heap.get?_push_of_some _ e)) hS' hacc⟩
end
end Rv
end Mi
end
section
namespace Mi
open PySem L2 PySem.SeqAt PySem.Spec PyProof.Rows
noncomputable def UV:D->Res D
 | .tup xs=>if D.aV xs&&decide (xs.length<=lim) then .ok (.lst xs.reverse) else .bad
 | _=>.bad
theorem xP:bootBuiltins "reversed" = some (.type "reversed"):=by decide +kernel
variable [KFrag]
theorem bK.rev {P:Addr->Prop} {H:Hp}:∀{vs:List V} {ds:List D},bK P H vs ds->bK P H vs.reverse ds.reverse
 | _,_,.nil=>.nil
 | _,_,.cons r t=>by rw [List.reverse_cons,List.reverse_cons];exact t.rev.snoc r
theorem K5 {ds:List D} (h:D.aV ds=true):D.aV ds.reverse=true:=eO.mpr fun y hy=>eO.mp h y (List.mem_reverse.mp hy)
theorem RM {xs:List V} {its acc:List Value} (r:Vals xs its) (hl:acc.length=its.length) (h:∀j v,acc[j]?=some v->its[its.length-1-j]?=some v):Vals xs.reverse acc:=by
 have e:acc=its.reverse:=by
  refine List.ext_getElem? fun j=>?_
  by_cases hj:j<its.length
  ·have h1:acc[j]?=some (acc[j]'(by lia)):=List.getElem?_eq_getElem (by lia);have h2:=h j _ h1;rw [h1,List.getElem?_reverse hj,h2]
  ·rw [List.getElem?_eq_none (by lia),List.getElem?_eq_none (by rw [List.length_reverse];lia)]
 rw [e];clear e h hl;induction r with
 | nil=>exact .nil
 | cons h t ih=>
  rw [List.reverse_cons,List.reverse_cons];exact ih.append (.cons h .nil)
section
variable {X:Cx} {e:Expr} {fe:FE} {re:Bool} {p p2 pos pos2:Pos}
theorem K6 (hc:X.calm=true) (hg:Gl X "list") (hm:X.mg "list" = none) (hg2:Gl X "reversed") (hm2:X.mg "reversed" = none) (he:PE X e (gE fe re)) (hs:starEach [e] X.env=[(false,eval e X.env)]:=by rfl)
  (hs2:starEach [.Call (.Name "reversed" p2) [e] [] pos2] X.env=[(false,eval (.Call (.Name "reversed" p2) [e] [] pos2) X.env)]:=by rfl) :
  PE X (.Call (.Name "list" p) [.Call (.Name "reversed" p2) [e] [] pos2] [] pos) (gE (b1 UV fe) true):=by
 intro pins s σ H Q I ⟨ρ,d,E,h,q⟩;obtain ⟨d0,h1,h2⟩:=aY h;unfold UV at h2;split at h2
 rotate_left
 ·cases h2
 rename_i ds;split at h2
 rotate_left
 ·cases h2
 rename_i hb;cases h2;rw [Bool.and_eq_true] at hb;refine wpAny_Call_Name_kw (mK I hg hm XC ?_);refine PyProof.Rows.callWith_type1 ?_ hs2 rfl;rw [hs2];show wpAny _ _ (spliced [(false,eval (.Call (.Name "reversed" p2) [e] [] pos2) X.env)]) _ _ s;refine Calls.spliced_cons ?_;refine wpAny_Call_Name_kw (mK I hg2 hm2 xP ?_);refine PyProof.Rows.callWith_type1 ?_ hs rfl;rw [hs];show wpAny _ _ (spliced [(false,eval e X.env)]) _ _ s;refine Calls.spliced_cons (thn (he pins s σ H (fun v H1=>cD H H1/\Rep All H1 v (.tup ds)) I ⟨ρ,_,E,h1,fun v H1 s1 r1 _=>⟨s1,r1⟩⟩) fun u s1 ⟨x,H1,I1,ru,sm,rx⟩=>?_);obtain ⟨t,xs,rfl,ex,rr⟩:=rx.dY;cases ru;obtain ⟨its,rv,ht,hz⟩:=I1.tuple (.of ex);have htt:s1.heap.IsTuple t its.toArray:=ht;refine Calls.spliced_nil ?_;have hz':its.toArray.size<=sizeLine:=by rw [List.size_toArray,<-rv.length];exact hz
 refine Rv.RL htt (by rw [sizeLine_eq] at hz';lia) fun tk=>?_
 refine Calls.spliced_nil ?_;have hne:t≠s1.heap.objs.size:=let ⟨o,e,_⟩:=htt;Nat.ne_of_lt (Heap.lt_size e)
 refine Rv.K4 (s:={s1 with heap:=s1.heap.push (Rv.obj t ((its.toArray.size:Int)-1)),toks:=tk}) (I:=s1.heap.objs.size) (l:=t) (items:=its.toArray) (I1.ok.hd hc) ⟨_,Heap.get?_push_size _ rfl,rfl,rfl⟩ (let ⟨o,e,r⟩:=htt;⟨o,Heap.get?_push_of_some _ e,r⟩) hne hz' fun h' tk' acc c hk hS hacc=>?_
 have hsz:((s1.heap.push (Rv.obj t ((its.toArray.size:Int)-1))).objs.size)=s1.heap.objs.size+1:=Heap.size_push ..;have hfr:H1 (s1.heap.push (Rv.obj t ((its.toArray.size:Int)-1))).objs.size=none:=I1.hok.fresh (by rw [hsz];lia);have hlen:acc.toList.length=its.length:=by have:=hacc.1;simpa using this
 have hv:Vals xs.reverse acc.toList:=RM rv hlen fun j v hj=>by
  have:=hacc.2 j v (by simpa using hj);simpa using this
 have sm2:cD H1 (upd H1 (s1.heap.push (Rv.obj t ((its.toArray.size:Int)-1))).objs.size (.lst xs.reverse)):=cD.upd hfr;refine ⟨.ref (s1.heap.push (Rv.obj t ((its.toArray.size:Int)-1))).objs.size,_,I1.laid (a:=(s1.heap.push (Rv.obj t ((its.toArray.size:Int)-1))).objs.size) (o:=.lst xs.reverse) (h':=h') (t':=tk') (fun b o e=>hk b o (Nat.ne_of_lt (Heap.lt_size e)) (Heap.get?_push_of_some _ e)) (by rw [hsz];lia) ⟨by rw [List.length_reverse];exact hz,acc.toList,c,hv,by simpa using hS⟩,rfl,?_⟩;exact q _ _ (sm.trans sm2) (.lst aP trivial (rr.rev.same sm2)) fun _=>.lst aP (sm.free hfr) ((rr.rev.bJ (K5 hb.1)).same sm2)
end
end Mi
end
section
namespace Wl
open PySem PySem.Spec
section
variable {prog:Program} {w:World} {A:Around} {E:Value->Shared->Prop} {hp:Heap} {g:Array GenState} {d:Drawn} {tk:Nat} {os:OsState} {a:Addr} {xs:Array Value} {n:Nat}
end
section
variable {prog:Program} {w:World} {K:Type} [DecidableEq K] {knd:KeyKind prog w K} {A:Around} {R:Except Value Flow->Shared->Prop} {it l d:Addr} {items:Array Value} {ps:List (K×Value)} {nl:Nat}
end
section
variable {prog:Program} {w:World} {K:Type} [DecidableEq K] {knd:KeyKind prog w K} {A:Around} {E:Value->Shared->Prop} {hp:Heap} {g:Array GenState} {dr:Drawn} {tk:Nat} {os:OsState} {l:Addr} {items:Array Value} {ps:List (K×Value)} {nl:Nat}
end
end Wl
end
section
namespace Mi
open PySem L2 PySem.SeqAt PySem.Spec PyProof.Rows
variable [KFrag]
section
variable {X:Cx} {e:Expr} {fe:FE} {re:Bool} {p pos:Pos}
end
end Mi
end
section
namespace Mi
open PySem L2 PySem.SeqAt PySem.Spec PyProof.Rows
noncomputable def K7 (i:Nat) (f:FE):FS:=fun ρ=>do
 let d <- f ρ
 match ρ.getD i .uD with
 | .dct kvs=>if decide (kvs.length<lim)&&(qN kvs d&&(cJ kvs d).isNone) then .ok (.nx (ρ.set i (.dct (putD kvs d (.bl true))))) else .bad
 | _=>.bad
variable [KFrag]
section
variable {X:Cx} {own:Nat->Bool} {a b e:Expr} {pos pos' posE:Pos} {fa fe:FE} {re:Bool} {xb:FX}
theorem YB {o:CmpOp} {f:D->D->Res D} {fr:Bool} (ho:OpR X (compareOp o) (r2 f fr)) (ha:PE X a (gE fa true)) (hb:PE X b (gX own xb)) (hm:behindInMarks o b=false):PT X (.Compare a [o] [b] pos) (gXT own (xTB (x2R f fa xb))):=
 PT.imp (G7 ho ha hb hm) fun σ H Q ⟨ρ,k,ρ',E,h,q⟩=>by
  obtain ⟨⟨d,ρ1⟩,h1,h2⟩:=aY h;obtain ⟨b,h3,h4⟩:=aY h2;cases h4;refine aFn ⟨ρ,d,_,E,h1,fun v H' k1 E1 ns r=>?_⟩;cases TV h3;cases r;exact ⟨_,rfl,q H' k1 E1 ns⟩
noncomputable def aBz (i:Nat) (fk fv:FE):TS:=fun D' σ H=>∃ρ kd d kvs a,ER H σ ρ/\fv ρ=.ok d/\fk ρ=.ok kd/\σ[i]?=some (some (.ref a))/\Rep All H (.ref a) (.dct kvs)/\D.aV (kvs.map (·.2))=true/\kvs.length<sizeLine/\qN kvs kd=true/\d.pure=true/\
 ∀H1 o,cD H H1->wR o=true->Rep All (upd H1 a o) (.ref a) (.dct (putD kvs kd d))->D'.nx σ (upd H1 a o)
theorem YC {i:Nat} {x:Str} {p1:Pos} {value k:Expr} {fv fk:FE} {rv rk:Bool} (hu:X.A.units+20<cLine) (hN:X.N[i]?=some x) (hvi:Vis X.env.scope x) (hk:PE X k (gE fk rk)) (hv:PE X value (gE fv rv))
  (hs:swapsWith value (some (.Subscript (.Name x p1) k pos')) pos.line X.env=pure false) (hd:nDb x) (hcd:nCd x) :
  PS X (.Assign [.Subscript (.Name x p1) k pos'] value pos) (aBz i fk fv):=by
 intro pins s σ H D' I ⟨ρ,kd,d,kvs,a,E,h0,h1,hσ,r,hin,hg1,hg2,hg3,q⟩;refine wpAny_Assign_Subscript (thn (hv pins s σ H (fun v H1=>cD H H1/\Rep All H1 v d) I ⟨ρ,d,E,h0,fun v H1 s1 r1 _=>⟨s1,r1⟩⟩) fun rr s1 ⟨v,H1,I1,rv1,sm1,rp1⟩=>
  thn (eV hN hvi hd hcd pins s1 σ H1 (fun w H2=>w=.ref a/\H2=H1) I1 ⟨_,hσ,rfl,rfl⟩) fun u s2 ⟨xx,H2,I2,rx,ex,eH⟩=>
  thn (hk pins s2 σ H2 (fun w H3=>cD H2 H3/\Rep All H3 w kd) I2 ⟨ρ,kd,by rw [eH];exact E.same sm1,h1,fun v H1 s1 r1 _=>⟨s1,r1⟩⟩) fun iv s3 ⟨y,H3,I3,ry,sm3,rp3⟩=>?_) hs
 subst ex eH;obtain rfl:u=Value.ref a:=rx;have sm:=sm1.trans sm3;obtain ⟨H4,o4,I4,g,hmo,rp⟩:=aB3 I3 (r.same sm) hin rp3 hg2 hg1 (rp1.same sm3) hg3;exact uK (by lia) I4 g ry rv1 fun s4 I5=>⟨σ,_,I5,q _ _ sm hmo rp⟩
noncomputable def aE8:Sp:=fun vs H Q _=>∃(a:Addr) (v:V) (kvs:List (D×D)) (k:D),vs=[.ref a,v]/\Rep All H (.ref a) (.dct kvs)/\Rep All H v k/\D.aV (kvs.map (·.2))=true/\kvs.length<sizeLine/\qN kvs k=true/\cJ kvs k=none/\
 ∀H1 o,cD H H1->wR o=true->Rep All (upd H1 a o) (.ref a) (.dct (putD kvs k (.bl true)))->Q .non (upd H1 a o)
noncomputable def K8 (P:Program) (w:World) (K:PySem.W.Frag) (mg:Str->Option Value) (base:Heap) (k:Nat) (x:Str):Prop:=
 ∃(fad:Addr) (fd:FuncData) (ps:List Str),v9 P w K mg base CX0 k fad fd ps aE8/\mg x=some (.ref fad)/\PySem.W.keepIn K (.ref fad)=true/\Binds K fd ps []
noncomputable def aFp:TS:=VN (aEh (gT (bTB (b2 (cO .isin) fG iC))) (fun _ _ _=>False) Z8) (aBz 0 fG (bC (.bl true)))
theorem YD {k:D} {kvs:List (D×D)} (h:qN kvs k=true) (x:D):cU 1 [x,k]=.ok k:=by
 unfold qN at h;rw [Bool.and_eq_true] at h;have h:=h.1;cases k <;> first|rfl|cases h
theorem aC0 {P:Program} {w:World} {K:PySem.W.Frag} {mg:Str->Option Value} {base:Heap} {x:Str} {k:Nat} {st:Stmt} {fad:Addr} {fd:FuncData} {N ps:List Str} (F:Fun K x x st fad fd) (hm:mg x=some (.ref fad)) (hb:Binds K fd ps []) (S:bV N ps (aL st)) (hp:ps.length=2) (hN:N.length=2)
  (hbody:∀(cdv:Value) (A:Around) (outer:List Env) (s:Shared) (H:Hp) (E:XK),mQ k (A.deeper (envOfC x (aL st) s.heap.objs.size fad cdv))->PSs (FQ CX0 P w K mg base N x (aL st) fad cdv A outer s H E).nox (eG st) aFp):K8 P w K mg base (k+1) x:=by
 refine ⟨fad,fd,ps,F.ok S (fun vs H Q E ⟨a,v,_,_,e,_⟩=>by rw [e,hp];rfl) fun cdv A outer s H vs Q E hr ⟨a,v,kvs,kd,e,r,rk,hin,hl,hf,hn,q⟩=>⟨_,hbody cdv A outer s H E hr,?_⟩,hm,F.kp,hb⟩;subst e;have hst:L2.start N [V.ref a,v]=[some (.ref a),some v]:=by
  unfold L2.start;rw [hN];rfl
 have hv:=YD hf (.dct kvs);have E0:ER H (L2.start N [V.ref a,v]) [.dct kvs,kd]:=fun i hi=>by
  rw [hst]
  match i,hi with
  | 0,_=>exact ⟨_,rfl,r⟩
  | 1,_=>exact ⟨_,rfl,rk⟩
  | n+2,hi=>exact absurd rfl hi
 refine ⟨[.dct kvs,kd],false,E0,?_,fun H1 s1=>?_⟩
 ·have hc:cO .isin kd (.dct kvs)=.ok (.bl false):=by
   show (if qN kvs kd then Res.ok (D.bl (cJ kvs kd).isSome) else .bad)=_;rw [if_pos hf,hn];rfl
  exact dW (aG hv rfl hc)
 ·dsimp only;rw [if_neg (by simp)];exact ⟨_,kd,.bl true,kvs,a,E0.same s1,rfl,hv,by rw [hst];rfl,r.same s1,hin,hl,hf,rfl,fun H2 o s2 hmo rp=>q H2 o (s1.trans s2) hmo rp⟩
theorem zP {x y:Str} {p py:Pos} {k k' i:Nat} (C:K8 X.prog X.w X.K X.mg X.base k x) (hr:mQ k' X.A) (hkk:k<=k') (hg:Gl X x) (ho:own i=true) (hN:X.N[i]?=some y) (hv:Vis X.env.scope y) (he1:PE X e (gE fe re)) (hdb:nDb x:=by decide) (hd:(y==("__debug__" : Str))=false:=by decide) (hcd:(y==("__classdict__" : Str))=false:=by decide)
  (he:starEach [.Name y py,e] X.env=(false,eval (.Name y py) X.env)::starEach [e] X.env:=by rfl) (he2:starEach [e] X.env=(false,eval e X.env)::starEach [] X.env:=by rfl) (hpl:(backTo pos (starEach [e] X.env)).any (·.1)=false:=by rfl)
  (hs:swapsWith (.Call (.Name x p) [.Name y py,e] [] pos) none posE.line X.env=pure false:=by rfl) :
  PS X (.Expr (.Call (.Name x p) [.Name y py,e] [] pos) posE) (tS own (K7 i fe)):=by
 obtain ⟨fad,fd,ps,F,hm,hk,hb⟩:=C;refine PS.imp (rM (rN F (hr.mono hkk) hg hm hk hb .nil QH (dO (eV hN hv hd hcd) (dO he1 mR he2) he) hdb he hpl) hs) fun D' σ H ⟨ρ,fl,E,h,q⟩=>?_
 obtain ⟨d,h1,h⟩:=aY h;split at h
 ·rename_i kvs hx;split at h
  ·rename_i hg;cases h;rw [Bool.and_eq_true,Bool.and_eq_true,Option.isNone_iff_eq_none] at hg;obtain ⟨hg1,hg2,hg3⟩:=hg;obtain ⟨a,o,hσ,r,hin,ha,hm'⟩:=E.ownAt ho (by rw [hx];intro z;cases z);rw [hx] at r hin;refine ⟨_,hσ,ρ,d,E.er,h1,fun v H1 s1 r1 _=>?_⟩;refine ⟨a,v,kvs,d,rfl,r.same s1,r1,hin,JD hg1,hg2,hg3,fun H2 o2 s2 hmo rp=>?_⟩;have sm:=s1.trans s2;obtain ⟨E2,k2⟩:=(E.same sm).mut ho hσ hmo rp (lH rfl hin);exact q _ _ ((KU.same sm).trans k2) E2
  ·cases h
 ·cases h
end
end Mi
end
section
namespace Mi
open PySem L2 PySem.SeqAt PySem.Spec PyProof.Rows
open Classical in
noncomputable def chR (f:FS) (m:Nat) (xs rest:List D):Res (List D):=
 if h:∃ys:List D,D.aV ys=true/\∀b,∃ρ',f ((.cel b xs::rest)++List.replicate (m-(rest.length+1)) .uD)=.ok (.nx ρ')/\ρ'.getD 0 .uD=.cel b ys then .ok h.choose else .bad
theorem aC1 {f:FS} {m:Nat} {xs rest ys:List D} (h:chR f m xs rest=.ok ys):D.aV ys=true/\∀b,∃ρ',f ((.cel b xs::rest)++List.replicate (m-(rest.length+1)) .uD)=.ok (.nx ρ')/\ρ'.getD 0 .uD=.cel b ys:=by
 unfold chR at h;split at h
 ·rename_i e;cases h;exact e.choose_spec
 ·cases h
theorem K9 {f:FS} {m:Nat} {xs rest ys:List D} (hp:D.aV ys=true) (h:∀b,∃ρ',f ((.cel b xs::rest)++List.replicate (m-(rest.length+1)) .uD)=.ok (.nx ρ')/\ρ'.getD 0 .uD=.cel b ys):chR f m xs rest=.ok ys:=by
 have e:∃ys:List D,D.aV ys=true/\∀b,∃ρ',f ((.cel b xs::rest)++List.replicate (m-(rest.length+1)) .uD)=.ok (.nx ρ')/\ρ'.getD 0 .uD=.cel b ys:=⟨ys,hp,h⟩
 have q:chR f m xs rest=.ok e.choose:=by unfold chR;rw [dif_pos e]
 rw [q];obtain ⟨ρ1,a1,a2⟩:=e.choose_spec.2 0;obtain ⟨ρ2,b1,b2⟩:=h 0;rw [a1] at b1;cases b1;rw [a2] at b2;cases b2;rfl
noncomputable def bLs (i:Nat):FE:=fun ρ=>match t7 (ρ.getD i .uD) with|some xs=>.ok (.lst xs)|none=>.bad
noncomputable def K_ (f:FS) (m:Nat) (x1 x2:FX):FX:=fun ρ=>do
 let p <- x1 ρ
 let q <- x2 p.2
 match p.1 with
 | .lst xs=>if D.aV xs&&q.1.pure then (do let ys <- chR f m xs [q.1];.ok (.lst ys,q.2)) else .bad
 | _=>.bad
noncomputable def aEq:D->D->D->D->Res D
 | .str a,.bl i,.str b,.bl j=>.ok (.dct (putD [(.str a,.bl i)] (.str b) (.bl j)))
 | _,_,_,_=>.bad
noncomputable def UW (k v l w:FE):FE:=fun ρ=>do
 let k <- k ρ
 let v <- v ρ
 let l <- l ρ
 let w <- w ρ
 aEq k v l w
variable [KFrag]
noncomputable def spR (f:FS) (m:Nat):Sp:=fun vs H Q _=>∃(a:Addr) (v:V) (xs:List D) (y:D) (ρ' ys:List D),vs=[.ref a,v]/\ES (mJ 1) H (vs.map some) [.cel a xs,y]/\f ([.cel a xs,y]++List.replicate (m-2) .uD)=.ok (.nx ρ')/\ρ'.getD 0 .uD=.cel a ys/\
 ∀H',(∀b o,H b=some o->¬Own (mJ 1) (vs.map some) b->H' b=some o)->Rep All H' (.ref a) (.cel a ys)->Q (.ref a) H'
section
variable {own:Nat->Bool}
theorem RN {N:List Str} {f:FS} {vs:List V} {H:Hp} {Q:VK} {E:XK} (hN:2<=N.length) (h0own:own 0=true) (h1own:own 1=false) (h0:spR f N.length vs H Q E):VN (tS own f) (aDf (aD1 0)) {nx:=fun _ H'=>Q .non H',rt:=Q} (L2.start N vs) H:=by
 obtain ⟨a,v,xs,y,ρ',ys,hvs,E0,h1,h2,q⟩:=h0;subst hvs;have hst:L2.start N [V.ref a,v]=[some (.ref a),some v]++List.replicate (N.length-2) none:=rfl;have high:∀i w,2<=i->(L2.start N [V.ref a,v])[i]?≠some (some w):=fun i w hi e=>by
  rw [hst,List.getElem?_append_right (by simpa using hi),List.getElem?_replicate] at e;split at e <;> cases e
 have hO:∀b,Own own (L2.start N [V.ref a,v]) b↔Own (mJ 1) ([V.ref a,v].map some) b:=fun b=>by
  constructor
  ·rintro ⟨i,hi,e⟩
   match i,hi,e with
   | 0,_,e=>exact ⟨0,rfl,e⟩
   | 1,hi,_=>rw [h1own] at hi;cases hi
   | n+2,_,e=>exact absurd e (high _ _ (by lia))
  ·rintro ⟨i,hi,e⟩;have:i=0:=by simp [mJ] at hi;lia
   subst this;exact ⟨0,h0own,e⟩
 have hOf:(fun b=>¬Own own (L2.start N [V.ref a,v]) b)=fun b=>¬Own (mJ 1) ([V.ref a,v].map some) b:=funext fun b=>by rw [hO]
 have ES0:ES own H (L2.start N [V.ref a,v]) ([.cel a xs,y]++List.replicate (N.length-2) .uD):=by
  refine ⟨by rw [hst];simp,fun i hi=>?_,fun i w hi hw=>?_⟩
  ·match i,hi with
   | 0,_=>
    obtain ⟨w,g1,g2⟩:=E0.at_ 0 (by intro z;cases z);exact ⟨w,g1,fun ho=>by rw [h0own] at ho;cases ho⟩
   | 1,hi=>
    obtain ⟨w,g1,g2⟩:=E0.at_ 1 hi;exact ⟨w,g1,fun ho=>by rw [hOf];exact g2 rfl⟩
   | n+2,hi=>
    exfalso;apply hi;rw [List.getD_eq_getElem?_getD,List.getElem?_append_right (by simp),List.getElem?_replicate];split <;> rfl
  ·match i,hi,hw with
   | 0,_,hw=>
    obtain ⟨b,o,g1,g2,g3,g4,g5,g6⟩:=E0.own 0 w rfl hw;refine ⟨b,o,g1,g2,g3,g4,g5,fun j hj hs=>?_⟩
    match j,hj,hs with
    | 0,_,_=>rfl
    | 1,hj,_=>rw [h1own] at hj;cases hj
    | n+2,_,hs=>exact absurd hs (high _ _ (by lia))
   | 1,hi,_=>rw [h1own] at hi;cases hi
   | n+2,_,hw=>exact absurd hw (high _ _ (by lia))
 refine ⟨_,.nx ρ',ES0,h1,fun σ' H' ku E'=>?_⟩;obtain ⟨w,z1,_⟩:=E'.at_ 0 (by rw [h2];intro z;cases z);obtain ⟨b,o,rfl,g4,g5,_⟩:=E'.own 0 w h0own z1;rw [h2] at g4;have:=xM g4;cases this;exact ⟨_,z1,q H' (fun b o e n=>(ku b o e (by rw [hO];exact n)).1) g4⟩
end
noncomputable def RQ (P:Program) (w:World) (K:PySem.W.Frag) (mg:Str->Option Value) (base:Heap) (k:Nat) (x:Str) (f:FS) (m:Nat):Prop:=
 ∃(fad:Addr) (fd:FuncData) (ps:List Str),v9 P w K mg base CX0 k fad fd ps (spR f m)/\mg x=some (.ref fad)/\PySem.W.keepIn K (.ref fad)=true/\Binds K fd ps []
theorem aC2 {P:Program} {w:World} {K:PySem.W.Frag} {mg:Str->Option Value} {base:Heap} {x:Str} {k:Nat} {st:Stmt} {fad:Addr} {fd:FuncData} {N ps:List Str} {f:FS} (F:Fun K x x st fad fd) (hm:mg x=some (.ref fad)) (hb:Binds K fd ps []) (S:bV N ps (aL st)) (own:Nat->Bool) (hp:ps.length=2) (hN:2<=N.length) (h0own:own 0=true) (h1own:own 1=false)
  (hbody:∀(cdv:Value) (A:Around) (outer:List Env) (s:Shared) (H:Hp) (E:XK),mQ k (A.deeper (envOfC x (aL st) s.heap.objs.size fad cdv))->PSs (FQ CX0 P w K mg base N x (aL st) fad cdv A outer s H E).nox (eG st) (VN (tS own f) (aDf (aD1 0)))):RQ P w K mg base (k+1) x f N.length:=
 ⟨fad,fd,ps,F.ok S (fun vs H Q E ⟨a,v,_,_,_,_,e,_⟩=>by rw [e,hp];rfl) fun cdv A outer s H vs Q E hr h=>⟨_,hbody cdv A outer s H E hr,RN hN h0own h1own h⟩,hm,F.kp,hb⟩
section
variable {X:Cx} {own:Nat->Bool} {st:Stmt} {rest:List Stmt} {f g:FS} {R:TS} {e1 e2:Expr} {x1 x2:FX} {pos:Pos}
theorem YF (h1:PS X st (tS own f)) (h2:PSs X rest (VN (tS own g) R)):PSs X (st::rest) (VN (tS own (bD f g)) R):=PSs.imp (oW h1 h2) fun D' σ H h=>JX h
theorem ES.off {H H2 H':Hp} {σ:L2.St} {ρ ρ2:List D} {a:Addr} {o2:HO} (E:ES own H σ ρ) (E2:ES own H2 σ ρ2) (k:KU own σ H σ H2) (ns:NS own ρ ρ2) (hn:H a=none) (ha:H2 a=some o2) (hm:wR o2=true) (hk:∀b ob,H2 b=some ob->b≠a->H' b=some ob) :
  ES own H' σ ρ2/\KU own σ H σ H':=by
 have k':KU own σ H σ H':=fun b ob e n=>⟨hk b ob (k b ob e n).1 (fun z=>by subst z;rw [hn] at e;cases e),n⟩
 refine ⟨⟨E2.len,fun j hj=>?_,fun j w hj hw=>?_⟩,k'⟩
 ·obtain ⟨w,g1,_⟩:=E2.at_ j hj;refine ⟨w,g1,fun ho=>?_⟩;rw [ns j ho] at hj ⊢;obtain ⟨w',g1',g2'⟩:=E.at_ j hj;rw [g1] at g1';cases g1';exact k'.rep E (g2' ho)
 ·obtain ⟨b,ob,h1,h2,h3,h4,h5,h6⟩:=E2.own j w hj hw;subst h1;have hba:b≠a:=fun z=>by subst z;exact xN E hn ⟨j,hj,hw⟩
  refine ⟨b,ob,rfl,?_,h3,hk _ _ h4 hba,h5,h6⟩;refine (h2.mJ (P':=fun c=>c=b) h3 rfl).keep (fun c oc hc hp=>?_) fun _ _=>trivial
  refine hk _ _ hc fun z=>?_
  subst z;rcases hp with hp|hp
  ·exact hba hp.symm
  ·rw [ha] at hc;cases hc;rw [hm] at hp;cases hp
theorem YG {x:Str} {p:Pos} {k k' m:Nat} (C:RQ X.prog X.w X.K X.mg X.base k x f m) (hr:mQ k' X.A) (hkk:k<=k') (hg:Gl X x) (he1:PE X e1 (gX own x1)) (he2:PE X e2 (gX own x2)) (hdb:nDb x:=by decide)
  (he:starEach [e1,e2] X.env=(false,eval e1 X.env)::starEach [e2] X.env:=by rfl) (he':starEach [e2] X.env=(false,eval e2 X.env)::starEach [] X.env:=by rfl) (hpl:(backTo pos (starEach [e2] X.env)).any (·.1)=false:=by rfl) :
  PE X (.Call (.Name x p) [e1,e2] [] pos) (gX own (K_ f m x1 x2)):=by
 obtain ⟨fad,fd,ps,F,hm,hk,hb⟩:=C;refine PE.imp (rN F (hr.mono hkk) hg hm hk hb .nil QH (dO he1 (dO he2 mR he') he) hdb he hpl) fun σ H Q ⟨ρ,d,ρ',E,h,q⟩=>?_
 obtain ⟨⟨d1,ρ1⟩,h1,h⟩:=aY h;obtain ⟨⟨d2,ρ2⟩,h2,h⟩:=aY h;dsimp only at h h2;split at h
 ·rename_i xs _;split at h
  ·rename_i hp;rw [Bool.and_eq_true] at hp;obtain ⟨ys,h3,h⟩:=aY h;cases h;obtain ⟨hy,hch⟩:=aC1 h3;refine ⟨ρ,_,ρ1,E,h1,fun v1 H1 k1 E1 ns1 r1=>⟨ρ1,d2,ρ',E1,h2,fun v2 H2 k2 E2 ns2 r2=>?_⟩⟩;have r1':=r1.ku E E1 k2;cases r1' with
   | @lst a vs0 _ ea hn rr=>
    obtain ⟨ρ3,g1,g2⟩:=hch a;refine ⟨a,v2,xs,d2,ρ3,ys,rfl,aBp ea rr.all hp.1 (.cons (r2.bJ hp.2) .nil),g1,g2,fun H' kp rp=>?_⟩;obtain ⟨vs',e',_,rr'⟩:=zN rp rfl;obtain ⟨E',k'⟩:=E.off E2 (k1.trans k2) (ns1.trans ns2) hn ea rfl fun b ob eb hne=>kp b ob eb fun ⟨j,hj,ej⟩=>by
     have:j=0:=by simp [mJ] at hj;lia
     subst this;simp at ej;exact hne ej.symm
    exact q _ H' k' E' (ns1.trans ns2) (.lst e' hn (rr'.bJ hy))
  ·cases h
 ·cases h
end
section
variable {X:Cx} {pos:Pos}
theorem YH {i:Nat} {x:Str} (hN:X.N[i]?=some x) (hv:Vis X.env.scope x) (hd:nDb x:=by decide) (hcd:nCd x:=by decide):PE X (.Name x pos) (gE (bLs i) false):=
 PE.imp (eV hN hv hd hcd) fun σ H Q ⟨ρ,d,E,h,q⟩=>by
  unfold bLs at h;split at h
  ·rename_i xs hx;cases h;obtain ⟨v,h1,h2⟩:=E i (UG hx);obtain ⟨a,rfl⟩:∃a,v=.ref a:=by
    cases hd0:ρ.getD i .uD <;> rw [hd0] at hx h2 <;> simp only [t7] at hx <;> cases hx <;> cases h2 <;> exact ⟨_,rfl⟩
   obtain ⟨vs,e,p,rr⟩:=zN h2 hx;exact ⟨_,h1,q.self (.lst e p rr) (fun z=>by cases z)⟩
  ·cases h
end
section
variable {X:Cx} {pos:Pos}
theorem YJ {k1 k2 v1 v2:Expr} {g1 g2 h1 h2:FE} {r1 r2 r3 r4:Bool} (hk1:PE X k1 (gE g1 r1)) (hv1:PE X v1 (gE h1 r2)) (hk2:PE X k2 (gE g2 r3)) (hv2:PE X v2 (gE h2 r4)):PE X (.Dict [some k1,some k2] [v1,v2] pos) (gE (UW g1 h1 g2 h2) true):=
 PE.imp (WK (yK hk1 hv1 (yK hk2 hv2 WF)) rfl rfl (by simp) (Nat.le_of_ble_eq_true rfl)) fun σ H Q ⟨ρ,d,E,h,q⟩=>by
 obtain ⟨a1,e1,hA⟩:=aY h;obtain ⟨a2,e2,hB⟩:=aY hA;obtain ⟨a3,e3,hC⟩:=aY hB;obtain ⟨a4,e4,hD⟩:=aY hC;clear h hA hB hC;unfold aEq at hD;split at hD
 ·rename_i x i y j;cases hD;intro p hp;have s0:cD H (upd H p (.dK [])):=cD.upd hp;refine ⟨ρ,_,E.same s0,e1,fun w1 H1 s1 q1 _=>?_⟩;cases q1;refine ⟨ρ,_,(E.same s0).same s1,e2,fun w2 H2 s2 q2 _=>?_⟩;cases q2;refine ⟨ρ,_,((E.same s0).same s1).same s2,e3,fun w3 H3 s3 q3 _=>?_⟩;cases q3;refine ⟨ρ,_,(((E.same s0).same s1).same s2).same s3,e4,fun w4 H4 s4 q4 _=>?_⟩;cases q4;have sm:cD (upd H p (.dK [])) H4:=((s1.trans s2).trans s3).trans s4;refine ⟨sm _ _ aP,[(.inr x,.bl i),(.inr y,.bl j)],rfl,Nat.le_of_ble_eq_true rfl,?_⟩;have sf:cD H (upd H4 p (.dK (gU [] [(Sum.inr x,V.bl i),(Sum.inr y,V.bl j)]))):=fun b o e=>by
   rw [bO (dJ e hp)];exact sm b o (s0 b o e)
  have rk:∀P:Addr->Prop,j7 P (upd H4 p (.dK (gU [] [(Sum.inr x,V.bl i),(Sum.inr y,V.bl j)]))) (putK [(Sum.inr x,V.bl i)] (Sum.inr y) (V.bl j)) (putD [(.str x,.bl i)] (.str y) (.bl j)):=fun P=>oZ (k:=.inr y) (.bl j) (.cons (k:=.inr x) (.bl i) .nil) (by simp)
  have nd:((putK [(Sum.inr x,V.bl i)] (Sum.inr y:Key) (V.bl j)).map (·.1)).Nodup:=jC (by simp);exact q _ _ sf (.dK aP trivial (rk All) nd) fun _=>.dK aP hp (rk _) nd
 ·cases hD
end
end Mi
end
section
local macro_rules | `(tactic| trivial) => `(tactic| first | exact Or.inl rfl | exact Or.inr rfl | exact Or.inr (Or.inl rfl) | exact Or.inr (Or.inr rfl))
namespace Lk47
open PySem L2 Mi PySem.W
noncomputable def top (i:Nat):Stmt:=PySem.Challenge.pw_hookmill_k47_sound.main.body.getD i (.Pass ⟨0,0,0,0⟩)
abbrev gC:Stmt:=top 19
def oU:Nat->Bool:=fun i=>i==0||i==1000000
noncomputable def dD:FS:=bD (b_ false 2 (b2 getD (j6 (aB (bC (.str "kind")) (aB (bC (.str "maker")) (aB (bC (.str "taker")) (aB (bC (.str "rule")) aO))))) (b2 (aR .mod) (b2 (aR .fdiv) fG tZ) tZ)) false) (sIf (TQ (bTB (b2 (cO .eq) (b2 (aR .mod) fG tZ) fJ)) (bTB (b2 (cO .notin) cV (bLs 0)))) (DK 0 (b2 (aR .add) iZ (b2 (aR .mod) (b2 (aR .fdiv) fG (bC (.int 16))) (bC (.int 15)))) cV) (jL))
abbrev mG:Stmt:=top 17
def xQ:Nat->Bool:=fun i=>i==0||i==1000000
noncomputable def pY:FS:=bD (b_ false 1 (b2 getD iC jX) false) (bD (b_ false 2 (b2 getD iC fJ) false) (bD (DK 0 fJ (b2 (aR .add) cV fJ)) (bD (sIf (bTB (b2 (cO (.ord .lt)) cV (bA jY (aB fG aO)))) (uO (b2 getD fG cV) false) (jL)) (bD (sIf (bTB (b2 (cO .eq) (bA jY (aB fG aO)) jX)) (uO (b2 (aR .add) (b2 rF (b2 rF cV cV) iZ) cV) true) (jL)) (uO (b2 (aR .add) (b2 (aR .fdiv) (b2 getD fG (b2 (aR .mod) cV (bA jY (aB fG aO)))) nC) (b2 rF cV cV)) true)))))
def aN:List D->Res D:=fnX 1 1 3 pY
abbrev gQ:Stmt:=top 20
noncomputable def D_:Nat->Bool:=fun i=>i==0||i==4||i==5||i==10||i==1000000
noncomputable def nY:FS:=bD (fC false 2 (b8 aN 1 0 aO)) (bD (b_ false 3 (b2 (aR .add) fJ (b2 (aR .mod) cV iZ)) true) (bD (b_ true 4 (lW fG (fB) (eN d9)) true) (bD (b_ true 5 (dG 12 (gW (aB d9 aO) gF) oY (fX) (cL (aB (b2 getD fG (b2 (aR .add) iZ iT)) (aB (b2 getD fH iT) (aB (cL aO) aO)))) false) true) (bD (t6 (gW (aB (b2 (aR .mod) (b2 (aR .fdiv) cV iZ) tZ) aO) gF) (tg1 6) (bD (fC false 7 (b8 aN 1 0 aO)) (bD (b_ false 8 (dG 12 (gW (aB (b2 (aR .mod) (b2 (aR .fdiv) dX iZ) tZ) aO) gF) oY (fX) (b2 getD fH (b2 (aR .mod) (b2 (aR .fdiv) dX (b2 getD (j6 (aB QL (aB (bC (.int 36)) (aB (bC (.int 108)) aO)))) iT)) d9)) false) true) (rP 5 (cL (aB (b2 getD fG (b2 (aR .add) (b2 (aR .add) iZ d9) fW)) (aB (b2 getD fH (b2 (aR .mod) dX d9)) (aB (bA dF (aB j5 aO)) aO)))))))) (bD (b_ false 9 (b2 (aR .mod) (b2 (aR .fdiv) cV QL) (bA jY (aB iU aO))) true) (bD (b_ true 10 (j6 aO) true) (bD (KQ (aBs (x2L (aR .mod) (b8 aN 1 0 aO) tZ)) (tg1 6) (bD (fC false 7 (b8 aN 1 0 aO)) (bD (b_ false 11 (dG 12 (gW (aB (b2 (aR .mod) (b2 (aR .fdiv) dX ZR) iZ) aO) gF) oY (fX) (b2 getD fH (b2 (aR .mod) (b2 (aR .fdiv) dX (b2 getD (j6 (aB (bC (.int 27)) (aB (bC (.int 81)) aO))) iT)) d9)) false) true) (rP 10 (cL (aB (b2 getD fG (b2 (aR .add) WP fW)) (aB (b2 getD fH (b2 (aR .mod) dX d9)) (aB (b2 getD fH (b2 (aR .mod) (b2 (aR .fdiv) dX iZ) d9)) (aB (bA dF (aB iD aO)) aO))))))))) (vB (aB (bOw 4) (aB (b2 (aR .add) (lW iU (eN oR) (fB)) (lW iU (fB) (eN oR))) (aB (bOw 10) aO)))))))))))
def gR:List D->Res D:=fnX 1 2 12 nY
abbrev iI:Stmt:=top 21
def vH:Nat->Bool:=fun i=>i==0||i==4||i==5||i==1000000
noncomputable def vI:FS:=bD (b_ true 4 (j6 aO) true) (bD (b_ true 5 (j6 (aB (bPu cV) aO)) true) (bD (aEo (bTB (b2 (cO .ne) iU (j6 aO))) (bD (DG 5 6) (bD (b_ false 7 (b2 (aR .sub) (b2 (aR .sub) (b2 (aR .sub) d9 (bA jY (aB fH aO))) (bA jY (aB iU aO))) fJ) true) (bD (b_ false 8 (dG 10 (cC fG false) oY (TQ (bTB (b2 (cO .eq) (b2 getD iY fJ) fW)) (bTB (b2 (cO (.ord .le)) (bA jY (aB (b2 getD iY nC) aO)) dX))) iY false) true) (bD (fC false 9 (x2R getD j5 (x2L (aR .mod) (b8 aN 1 0 aO) (bA jY (aB j5 aO))))) (bD (rP 4 (b2 getD oR jX)) (X3 5 (b1 UV (b2 getD oR nC))))))))) (rC 4)))
def fP:List D->Res D:=fnX 1 4 10 vI
abbrev iJ:Stmt:=top 22
def vJ:Nat->Bool:=fun i=>i==0||i==6||i==11||i==1000000
noncomputable def vK:FS:=bD (fC false 5 (b8 aN 1 0 aO)) (bD (b_ true 6 (j6 aO) true) (bD (pG 2 (tg1 7) (pG 1 (tg1 8) (sIf (bTB (b2 (cO .eq) (b2 getD j5 fJ) (b2 getD dX nC))) (bD (b_ false 9 (b2 xJ (b2 getD j5 nC) (b2 getD dX iZ)) false) (bD (b_ false 10 (b2 (aR .add) fJ (b2 (aR .mod) (bA jY (aB fW aO)) tZ)) true) (bD (b_ true 11 (j6 aO) true) (bD (t6 (gW (aB (bA jY (aB oR aO)) aO) gF) (tg1 12) (rP 11 (b2 getD d9 (b2 (aR .add) WQ (b2 (aR .mod) (b2 (aR .add) (b2 (aR .add) (b2 (aR .fdiv) iU iZ) (bA jY (aB fW aO))) (b2 rF iT iY)) TF))))) (bD (b_ false 13 (dG 17 (gW (aB (bA jY (aB oR aO)) aO) gF) oY (fX) (cL (aB (b2 getD iD (cU 17)) (aB (b2 getD oR (cU 17)) (aB (cL aO) aO)))) false) true) (bD (b_ false 14 ZV true) (bD (sIf (bTB (b2 (cO .eq) fW (j6 aO))) (b_ false 14 (b2 getD (j6 (aB ZV (aB (bC (.int 14)) (aB IV aO)))) (b2 (aR .mod) iU iZ)) false) (jL)) (bD (fC false 15 (b8 fP 4 0 (aB (b2 (aR .add) IK fH) (aB (bPu (b2 getD dX fJ)) (aB wN aO))))) (rP 6 (cL (aB (b2 getD dX jX) (aB (b2 getD j5 jX) (aB (bA dF (aB iD aO)) (aB (bA dF (aB (cU 15) aO)) aO)))))))))))))) (jL)))) (bD (b_ false 16 (b2 (aR .mod) (b2 (aR .fdiv) iU (bC (.int 15))) (bA (uN .gt) (aB fJ (aB (bA jY (aB fW aO)) aO)))) true) (uO (b2 (aR .add) (lW fW (eN (cU 16)) (fB)) (lW fW (fB) (eN (cU 16)))) true))))
def fQ:List D->Res D:=fnX 1 5 17 vK
abbrev jO:Stmt:=top 23
def pZ:Nat->Bool:=fun i=>false
noncomputable def xR (rr:List D->Res D):FS:=bD (sIf (bTr (b1 (QM .str) fG)) (yN (aAk (b1 (QM .str) iC) (b2 (cO .eq) iC fG)) true) (jL)) (bD (sIf (bOr (O7 (bTr (b1 (QM .tuple) iC))) (bTB (b2 (cO .ne) (bA jY (aB iC aO)) (bA jY (aB fG aO))))) (yN (bC (.bl false)) true) (jL)) (yN (bA aE3 (aB (dG 2 (gW (aB iC (aB fG aO)) aE4) (O8 2) (fX) (bA (kE 2 rr) (aB cV (aB d9 aO))) true) aO)) true))
noncomputable def bG:Nat->List D->Res D
 | 0=>fnS 2 2 pO
 | m+1=>fnS 2 2 (xR (bG m))
abbrev fU:Stmt:=top 18
def vL:Nat->Bool:=fun i=>i==0||i==9||i==1000000
noncomputable def vM:FS:=bD (b_ false 1 (bC (.str "abcdefghijklmnopqrstuvwxyz")) true) (bD (fC false 2 (b8 aN 1 0 aO)) (bD (b_ false 3 (b2 getD (j6 (aB fJ (aB iZ (aB TF (aB ZV (aB ZR (aB (bC (.int 25)) aO))))))) (b2 (aR .mod) (b2 (aR .fdiv) cV iZ) TJ)) false) (bD (b_ false 4 (b2 (aR .mod) (b2 (aR .fdiv) cV (bC (.int 18))) lN) true) (bD (fC false 5 (b8 aN 1 0 aO)) (bD (b_ false 6 (b2 (aR .mod) iU aAj) true) (bD (b_ false 7 (bM joinM (bC (.str "")) (aB (dG 14 (gW (aB fW aO) gF) oY (fX) (b2 getD fG (b2 (aR .mod) (b2 (aR .add) (b2 (aR .fdiv) iU aAj) (b2 rF wN (b2 (aR .add) fH (b2 (aR .mod) (b2 (aR .fdiv) iU IV) TF)))) lN)) false) aO)) true) (bD (fC false 8 (x2L (aR .mod) (b8 aN 1 0 aO) (b2 (aR .add) fW fJ))) (bD (sIf (bTB (b2 (cO .eq) (b2 (aR .mod) cV iZ) nC)) (b_ false 7 (lW dX (fB) (eN TJ)) true) (jL)) (bD (b_ true 9 (j6 aO) true) (bD (t6 (gW (aB lN aO) gF) (tg1 10) (bD (b_ false 11 (b2 (aR .mod) (b2 (aR .add) (b2 rF iY d9) fH) lN) true) (sIf (bTB (b2 (cO .eq) (b2 (aR .mod) cV iZ) fJ)) (rP 9 (b2 rF (b2 getD fG (b2 (aR .mod) (b2 (aR .add) fH (b2 (aR .mod) iD tZ)) lN)) (b2 (aR .add) fJ (b2 (aR .fdiv) iD tZ)))) (sIf (bTB (b2 (cO .eq) (b2 (aR .mod) cV iZ) nC)) (bD (b_ false 12 (b2 getD fG (b2 (aR .mod) (b2 (aR .add) fH (b2 (aR .mod) iD TJ)) lN)) false) (bD (b_ false 13 (b2 getD fG (b2 (aR .mod) (b2 (aR .add) fH (b2 (aR .fdiv) iD TJ)) lN)) false) (rP 9 (b2 (aR .add) (b2 (aR .add) (b2 (aR .add) (lW dX (fB) (eN j5)) iT) IK) (lW dX (eN j5) (fB)))))) (rP 9 (b2 (aR .add) (b2 (aR .add) (lW dX (fB) (eN j5)) (b2 getD fG iD)) (lW dX (eN j5) (fB)))))))) (bD (sIf (bOr (bTB (b2 inX (bC (.str "copy")) oR)) (bTB (b2 inX (bC (.str "drop")) oR))) (b_ true 9 (dG 14 (cC oR false) oY (fX) (b2 (aR .add) wN (bC (.str "e"))) true) true) (jL)) (rC 9))))))))))))
def dH:List D->Res D:=fnX 1 1 14 vM
abbrev nZ:Stmt:=top 7
def EY:Nat->Bool:=fun i=>i==1
noncomputable def E_:FS:=bD (b_ true 1 (bC (.dct [])) true) (bD (t6 (cC (b2 getD iC fJ) false) (tgN [2,3,4]) (QR 1 cV (cL (aB d9 (aB fH aO))))) (bD (t6 (cC (b2 getD iC nC) false) (tgN [2,3,5,6]) (QR 1 cV (cL (aB d9 (aB (b2 xJ (cL (aB iU aO)) fW) aO))))) (aAl 1)))
def lJ:List D->Res D:=fnS 1 7 E_
abbrev p6:Stmt:=top 9
def LC:Nat->Bool:=fun i=>false
noncomputable def LK:FS:=bD (sIf (bTB (b2 inX fG iC)) (yN (b2 getD iC fG) false) (jL)) (bD (sIf (bTB (b2 inX fG cV)) (yN (cL (aB (b2 getD cV fG) (aB (cL aO) aO))) false) (jL)) (pO))
def lA:List D->Res D:=fnS 3 3 LK
abbrev lC:Stmt:=top 8
def vN:Nat->Bool:=fun i=>i==4
noncomputable def vO:FS:=bD (b_ true 4 (j6 (aB (bPu cV) aO)) true) (bD (pG 1 (tg1 5) (bD (sIf (O7 (bTr fH)) (pO) (jL)) (bD (b_ false 6 (bA (kE 3 lA) (aB iC (aB iU (aB d9 aO)))) true) (bD (aBj (xTB (x2R (cO .ne) (bPu (b2 getD fW jX)) (DQ 4))) (pO) (jL)) (X3 4 (b1 UV (b2 getD fW fJ))))))) (sIf (bTr fH) (pO) (jL)))
def fV:List D->Res D:=fnS 4 7 vO
abbrev YK:Stmt:=top 11
abbrev jP:Stmt:=top 14
def sX:Nat->Bool:=fun i=>i==6
noncomputable def sY:FS:=bD (b_ false 5 (b2 xJ (b2 getD (b2 getD iC cV) fJ) (lW (b2 getD (b2 getD iC fG) fJ) (eN fJ) (fB))) false) (bD (sIf (bTB (b2 (cO .ne) (bA jY (aB d9 aO)) (bA jY (aB iU aO)))) (pO) (jL)) (bD (b_ true 6 (bA XN (aB fH aO)) true) (bD (pG 3 (tg1 7) (K7 6 dX)) (yN (bA J7 (aB d9 (aB iU aO))) true))))
def dM:List D->Res D:=fnS 5 8 sY
abbrev eQ:Stmt:=top 13
def sZ:Nat->Bool:=fun i=>i==5
noncomputable def tB:FS:=bD (b_ false 2 (bA (kE 1 lJ) (aB iC aO)) true) (bD (b_ false 3 (dG 10 (cC (b2 getD iC fJ) false) oY (fX) (b2 getD iY jX) false) true) (bD (b_ false 4 (dG 10 (cC (b2 getD iC nC) false) oY (fX) (b2 getD iY jX) false) true) (bD (b_ true 5 (bC (.dct [])) true) (t6 (cC (b2 getD iC iZ) false) (tgN [6,7,8,9]) (bD (sIf (bTB (b2 (cO .notin) fW fH)) (pO) (jL)) (bD (sIf (bTB (b2 (cO .notin) dX d9)) (pO) (jL)) (bD (sIf (bTB (b2 (cO .ne) (b2 getD (b2 getD cV dX) jX) (b2 getD (b2 getD (b2 getD cV fW) fJ) jX))) (pO) (jL)) (bD (sIf (bTB (b2 inX (cL (aB fW (aB dX aO))) iU)) (pO) (jL)) (bD (QR 5 (cL (aB fW (aB dX aO))) (bC (.bl true))) (pF (bA (kE 4 fV) (aB cV (aB oR (aB (b2 getD (b2 getD cV fW) jX) (aB (bA (kE 5 dM) (aB cV (aB fW (aB dX (aB j5 (aB fG aO)))))) aO)))))))))))))))
def gP:List D->Res D:=fnS 2 10 tB
abbrev dI:Stmt:=top 15
def p7:Nat->Bool:=fun i=>false
noncomputable def p8:FS:=bD (b_ false 1 (dG 7 (cC (b2 getD iC iZ) false) oY (fX) (cL (aB (b2 getD dX jX) (aB (b2 getD dX fJ) aO))) false) true) (t6 (cC (b2 getD iC nC) false) (tgN [2,3,4,5]) (t6 (cC (dG 7 (cC (b2 getD iC fJ) false) (O8 3) (bTB (b2 (cO .eq) j5 fH)) dX false) true) (tg1 6) (sIf (bTB (b2 (cO .notin) (cL (aB cV (aB fW aO))) fG)) (pO) (jL))))
def eU:List D->Res D:=fnS 1 7 p8
abbrev jQ:Stmt:=top 12
def tD:Nat->Bool:=fun i=>false
noncomputable def jR:FS:=pG 1 (tg1 2) (sIf (bTB (b2 (cO .notin) cV (b2 getD iC jX))) (pO) (jL))
def dB:List D->Res D:=fnS 2 3 jR
abbrev xT:Stmt:=top 10
def YL:Nat->Bool:=fun i=>i==1
noncomputable def YM:FS:=bD (b_ true 1 (UW (bC (.str "copy")) (bC (.bl true)) (bC (.str "drop")) (bC (.bl true))) true) (bD (t6 (cC (b2 getD iC jX) false) (tg1 2) (K7 1 cV)) (bD (t6 (cC (b2 getD iC fJ) false) (tgN [2,3,4]) (bD (K7 1 cV) (pF (bA (kE 2 dB) (aB iC (aB (b2 xJ (cL (aB d9 aO)) fH) aO)))))) (bD (t6 (cC (b2 getD iC nC) false) (tgN [2,3,5,6]) (bD (K7 1 cV) (pF (bA (kE 2 dB) (aB iC (aB (b2 xJ (cL (aB d9 (aB iU aO))) fW) aO)))))) (bD (pF (bA (kE 2 gP) (aB iC (aB fG aO)))) (bD (pF (bA (kE 1 eU) (aB iC aO))) (yN iC false))))))
def jT:List D->Res D:=fnS 1 7 YM
abbrev qO:Stmt:=top 24
def o_law:Nat->Bool:=fun i=>i==1
noncomputable def YQ:FS:=bD (b_ true 1 (aD8 (j6 (aB (lW iC (fB) (eN yL)) (aB jX aO)))) true) (bD (fC false 2 (K_ dD 3 (b8 dH 1 1 aO) (b8 aN 1 1 aO))) (bD (KR (b8 gR 2 1 (aB cV aO)) [3,4,5]) (bD (b_ false 6 (b2 (aR .add) fH (dG 12 (cC iU false) oY (fX) (cL (aB (b2 getD iT jX) (aB (b2 getD iT fJ) (aB (b2 xJ (cL (aB (b2 getD iT nC) aO)) (b2 getD iT iZ)) aO)))) false)) true) (bD (fC false 7 (b8 aN 1 1 aO)) (bD (sIf (bTB (b2 (cO .eq) (b2 (aR .mod) dX nC) fJ)) (bD (b_ false 8 (b2 getD cV (bC (.int 19))) false) (bD (b_ false 4 (b2 (aR .add) fH (j6 (aB (bPu (cL (aB (b2 getD cV ZR) (aB (b2 getD d9 (b2 (aR .mod) (b2 (aR .fdiv) dX nC) (bA jY (aB d9 aO)))) (aB (cL (aB (b2 getD d9 jX) (aB j5 aO))) aO))))) aO))) true) (bD (b_ false 5 (b2 (aR .add) (j6 (aB (bPu (cL (aB (b2 getD cV (bC (.int 20))) (aB (b2 getD d9 jX) (aB j5 (aB (cL (aB j5 aO)) aO)))))) aO)) iU) true) (b_ false 3 (b2 (aR .add) (j6 (aB (bPu j5) aO)) d9) true)))) (jL)) (bD (fC false 9 (b8 fQ 5 1 (aB fH (aB iU (aB cV (aB fW aO)))))) (bD (b_ false 10 (cL (aB (bA dF (aB d9 aO)) (aB (bA dF (aB fH aO)) (aB (bA dF (aB iU aO)) (aB (bA dF (aB oR aO)) aO))))) false) (bD (b_ false 11 (cL (aB (bA dF (aB d9 aO)) (aB (cL aO) (aB (cL aO) (aB (cL aO) aO))))) false) (bD (sIf (bOr (O7 (bTr (bA (kE 2 (bG 6)) (aB (bA (kE 1 jT) (aB iD aO)) (aB iD aO))))) (O7 (bTr (bA (kE 2 (bG 6)) (aB (bA (kE 1 jT) (aB (cL (aB (cL aO) (aB (cL aO) (aB (cL aO) (aB (cL aO) aO))))) aO)) (aB (cL (aB (cL aO) (aB (cL aO) (aB (cL aO) (aB (cL aO) aO))))) aO)))))) (yN (bC (.bl false)) true) (jL)) (yN (bA (kE 2 (bG 6)) (aB (bA (kE 1 jT) (aB iY aO)) (aB iY aO))) true))))))))))
def FJ:List D->Res D:=fnS 1 12 YQ
abbrev j4:List Str:=["names", "cell", "own"]
abbrev p_:List Str:=["deck", "cells", "at"]
noncomputable abbrev eE:List Str:=["deck", "names", "cell", "many", "kinds", "makers", "k", "one", "behind", "at", "takers", "more"]
noncomputable abbrev iK:List Str:=["deck", "heads", "wanted", "most", "words", "due", "kind", "room", "some", "pick"]
noncomputable abbrev iM:List Str:=["deck", "makers", "takers", "names", "heads", "cell", "rules", "taker", "maker", "behind", "step", "own", "j", "known", "room", "words", "at"]
abbrev fD:List Str:=["found", "due"]
noncomputable abbrev eF:List Str:=["deck", "letters", "choice", "turn", "shift", "cell", "size", "base", "at", "names", "k", "spot", "ahead", "behind"]
noncomputable abbrev rH:List Str:=["program", "heads", "name", "kind", "parts", "taken", "more"]
abbrev vP:List Str:=["heads", "word", "known"]
noncomputable abbrev oM:List Str:=["heads", "words", "wanted", "known", "waiting", "word", "head"]
abbrev aC3:List Str:=["seen", "name"]
noncomputable abbrev m8:List Str:=["heads", "taker", "maker", "names", "seen", "kinds", "taken", "name"]
noncomputable abbrev dN:List Str:=["program", "seen", "heads", "makers", "takers", "ahead", "taker", "maker", "names", "words"]
noncomputable abbrev bW:List Str:=["program", "ruled", "taker", "kind", "taken", "more", "maker"]
abbrev m9:List Str:=["program", "kinds", "kind"]
noncomputable abbrev LQ:List Str:=["program", "seen", "name", "kind", "parts", "taken", "more"]
noncomputable abbrev RT:List Str:=["script", "deck", "names", "kinds", "makers", "takers", "heads", "cell", "hollow", "rules", "program", "bare"]
theorem n6:bV j4 ["names", "cell"] (aL gC):=by refine ⟨rfl,rfl,rfl,?_,rfl,?_,?_⟩ <;> decide +kernel
theorem vQ:bV p_ ["deck"] (aL mG):=by refine ⟨rfl,rfl,rfl,?_,rfl,?_,?_⟩ <;> decide +kernel
theorem xU:bV eE ["deck", "names"] (aL gQ):=by refine ⟨rfl,rfl,rfl,?_,rfl,?_,?_⟩ <;> decide +kernel
theorem tE:bV iK ["deck", "heads", "wanted", "most"] (aL iI):=by refine ⟨rfl,rfl,rfl,?_,rfl,?_,?_⟩ <;> decide +kernel
theorem tG:bV iM ["deck", "makers", "takers", "names", "heads"] (aL iJ):=by refine ⟨rfl,rfl,rfl,?_,rfl,?_,?_⟩ <;> decide +kernel
theorem vR:bV fD ["found", "due"] (aL jO):=by refine ⟨rfl,rfl,rfl,?_,rfl,?_,?_⟩ <;> decide +kernel
theorem tH:bV eF ["deck"] (aL fU):=by refine ⟨rfl,rfl,rfl,?_,rfl,?_,?_⟩ <;> decide +kernel
theorem xV:bV rH ["program"] (aL nZ):=by refine ⟨rfl,rfl,rfl,?_,rfl,?_,?_⟩ <;> decide +kernel
theorem FN:bV vP ["heads", "word", "known"] (aL p6):=by refine ⟨rfl,rfl,rfl,?_,rfl,?_,?_⟩ <;> decide +kernel
theorem tK:bV oM ["heads", "words", "wanted", "known"] (aL lC):=by refine ⟨rfl,rfl,rfl,?_,rfl,?_,?_⟩ <;> decide +kernel
theorem aC4:bV aC3 ["seen", "name"] (aL YK):=by refine ⟨rfl,rfl,rfl,?_,rfl,?_,?_⟩ <;> decide +kernel
theorem qP:bV m8 ["heads", "taker", "maker", "names", "seen"] (aL jP):=by refine ⟨rfl,rfl,rfl,?_,rfl,?_,?_⟩ <;> decide +kernel
theorem qQ:bV dN ["program", "seen"] (aL eQ):=by refine ⟨rfl,rfl,rfl,?_,rfl,?_,?_⟩ <;> decide +kernel
theorem oV:bV bW ["program"] (aL dI):=by refine ⟨rfl,rfl,rfl,?_,rfl,?_,?_⟩ <;> decide +kernel
theorem qR:bV m9 ["program", "kinds"] (aL jQ):=by refine ⟨rfl,rfl,rfl,?_,rfl,?_,?_⟩ <;> decide +kernel
theorem RV:bV LQ ["program"] (aL xT):=by refine ⟨rfl,rfl,rfl,?_,rfl,?_,?_⟩ <;> decide +kernel
theorem aC5:bV RT ["script"] (aL qO):=by refine ⟨rfl,rfl,rfl,?_,rfl,?_,?_⟩ <;> decide +kernel
section
variable [KFrag] {P:Program} {w:World} {K:Frag} {mg:Str->Option Value} {base:Heap} {fad C:Addr} {fd:FuncData} (hK:KFrag.K=K) (B:Bt mg) 
include hK B
theorem m_  (F:Fun K "_law_own_words" "_law_own_words" gC fad fd) (hm:mg "_law_own_words" = some (.ref fad)):RQ P w K mg base 1 "_law_own_words" dD 3:=by
 have sc:=n6;refine aC2 (ps:=["names", "cell"]) (N:=j4) (k:=0) F hm (F.binds fun _ _ _ _ _ _ us hl=>match us,hl with|[_,_],_=>rfl) sc oU rfl (by decide) rfl rfl fun cdv A outer s H E hr=>?_
 have hu:=uV hr;exact YF (bL (i:=2) (o:=false) rfl sc.nd rfl (by trivial) (bH (bF hK hu) (eY (aC (kI) (aC (kI) (aC (kI) (aC (kI) (aJ)))))) (aZ bR (aZ cW (aA (i:=1)) (aH)) (aH)) (fun _ _=>rfl))) (oW (gK (PW.pt (TX (cP (pI hu) (aZ bR (aA (i:=1)) (aH)) (aH) (eX _)) (JF (cP (mY hu) (aA (i:=2)) (YH (i:=0) rfl (by trivial)) (by with_unfolding_all rfl))))) (aQ (KJ (i:=0) rfl rfl (by trivial) (aZ bY (aH) (aZ bR (aZ cW (aA (i:=1)) (aH)) (aH))) (aA (i:=2)))) (cF)) (wG (qY (eV (i:=0) rfl (by trivial)))))
theorem tL  (F:Fun K "_law_next" "_law_next" mG fad fd) (hm:mg "_law_next" = some (.ref fad)):wA P w K mg base 1 "_law_next" 1 1 aN:=by
 have sc:=vQ;refine pW (ps:=["deck"]) (N:=p_) (k:=0) 1 F hm (F.binds fun _ _ _ _ _ _ us hl=>match us,hl with|[_],_=>rfl) sc xQ (by decide) (by decide) fun cdv A outer s H E hr=>?_
 have hu:=uV hr;exact aF (bL (i:=1) (o:=false) rfl sc.nd rfl (by trivial) (bH (bF hK hu) (aA (i:=0)) (aH) (fun _ _=>rfl))) (aF (bL (i:=2) (o:=false) rfl sc.nd rfl (by trivial) (bH (bF hK hu) (aA (i:=0)) (aH) (fun _ _=>rfl))) (aF (KJ (i:=0) rfl rfl (by trivial) (aH) (aZ bY (aA (i:=2)) (aH))) (aF (gK (cP (aDv hu) (aA (i:=2)) (bZ (eZ hK) (by rfl) B.len e_ (aC (aA (i:=1)) (aJ))) (eX _)) (aQ (sW (bH (bF hK hu) (aA (i:=1)) (aA (i:=2)) (fun _ _=>rfl)))) (cF)) (aF (gK (cP (pI hu) (bZ (eZ hK) (by rfl) B.len e_ (aC (aA (i:=1)) (aJ))) (aH) (eX _)) (aQ (sW (aZ bY (aZ mD (aZ mD (aA (i:=2)) (aA (i:=2))) (aH)) (aA (i:=2))))) (cF)) (aQ (sW (aZ bY (aZ cW (bH (bF hK hu) (aA (i:=1)) (aZ bR (aA (i:=2)) (bZ (eZ hK) (by rfl) B.len e_ (aC (aA (i:=1)) (aJ)))) (fun _ _=>rfl)) (aH)) (aZ mD (aA (i:=2)) (aA (i:=2))))))))))
theorem vU (c__law_next:wA P w K mg base 1 "_law_next" 1 1 aN) (F:Fun K "_law_sig" "_law_sig" gQ fad fd) (hm:mg "_law_sig" = some (.ref fad)):wA P w K mg base 2 "_law_sig" 2 1 gR:=by
 have sc:=xU;refine pW (ps:=["deck", "names"]) (N:=eE) (k:=1) 1 F hm (F.binds fun _ _ _ _ _ _ us hl=>match us,hl with|[_,_],_=>rfl) sc D_ (by decide) (by decide) fun cdv A outer s H E hr=>?_
 have hu:=uV hr
 exact aF (j0 (i:=2) (o:=false) rfl sc.nd rfl (by trivial) (c7 (i:=0) c__law_next hr (by decide) (by rfl) rfl rfl (by trivial) (g_))) (aF (bL (i:=3) (o:=false) rfl sc.nd rfl (by trivial) (aZ bY (aH) (aZ bR (aA (i:=2)) (aH)))) (aF (bL (i:=4) (o:=true) rfl sc.nd rfl (by trivial) (jZ hK (aA (i:=1)) (fY) (fZ (aA (i:=3))))) (aF (iH (ownN:=(["k"]:List Str)) (show cM eE (aL gQ) _ (["k"]:List Str) from by refine ⟨rfl,?_,?_,?_,?_,?_,?_⟩ <;> decide +kernel) (n:=12) (m:=1) rfl rfl rfl (kJ (by rfl) B.range (aC (aA (i:=3)) (aJ))) (gY 12) (fun _=>aW (i:=12) (show ((List.map (gG (["k"]:List Str)) eE++(["k"]:List Str)):List Str).Nodup from by decide +kernel) rfl (by trivial)) (fun _=>bQ (aC (bH (bF hK hu) (aA (i:=1)) (aZ bY (aH) (aA (i:=12))) (fun _ _=>rfl)) (aC (bH (bF hK hu) (aA (i:=4)) (aA (i:=12)) (fun _ _=>rfl)) (aC (bQ (aJ)) (aJ))))) (fun _=>rfl) (iy:=5) (o:=true) rfl sc.nd rfl (by trivial) (Or.inl rfl) (by with_unfolding_all rfl)) (aF (kW PassesOwn.never rfl (kJ (by rfl) B.range (aC (aZ bR (aZ cW (aA (i:=2)) (aH)) (aH)) (aJ))) (gZ (i:=6) rfl) (aW (i:=6) sc.nd rfl (by trivial)) (aF (j0 (i:=7) (o:=false) rfl sc.nd rfl (by trivial) (c7 (i:=0) c__law_next hr (by decide) (by rfl) rfl rfl (by trivial) (g_))) (aF (iH (ownN:=(["j"]:List Str)) (show cM eE (aL gQ) _ (["j"]:List Str) from by refine ⟨rfl,?_,?_,?_,?_,?_,?_⟩ <;> decide +kernel) (n:=12) (m:=1) rfl rfl rfl (kJ (by rfl) B.range (aC (aZ bR (aZ cW (aA (i:=7)) (aH)) (aH)) (aJ))) (gY 12) (fun _=>aW (i:=12) (show ((List.map (gG (["j"]:List Str)) eE++(["j"]:List Str)):List Str).Nodup from by decide +kernel) rfl (by trivial)) (fun _=>bH (bF hK hu) (aA (i:=4)) (aZ bR (aZ cW (aA (i:=7)) (bH (bF hK hu) (eY (aC (aH) (aC (aH) (aC (aH) (aJ))))) (aA (i:=12)) (fun _ _=>rfl))) (aA (i:=3))) (fun _ _=>rfl)) (fun _=>rfl) (iy:=8) (o:=false) rfl sc.nd rfl (by trivial) (Or.inl rfl) (by with_unfolding_all rfl)) (aQ (oH (i:=5) rfl rfl (by trivial) (bQ (aC (bH (bF hK hu) (aA (i:=1)) (aZ bY (aZ bY (aH) (aA (i:=3))) (aA (i:=6))) (fun _ _=>rfl)) (aC (bH (bF hK hu) (aA (i:=4)) (aZ bR (aA (i:=7)) (aA (i:=3))) (fun _ _=>rfl)) (aC (dU gJ (by rfl) B.tuple fK (aC (aA (i:=8)) (aJ))) (aJ)))))))))) (aF (bL (i:=9) (o:=false) rfl sc.nd rfl (by trivial) (aZ bR (aZ cW (aA (i:=2)) (aH)) (bZ (eZ hK) (by rfl) B.len e_ (aC (aA (i:=5)) (aJ))))) (aF (bL (i:=10) (o:=true) rfl sc.nd rfl (by trivial) (eY (aJ))) (aF (aBu PassesOwn.never rfl (aBt (by rfl) B.range (KD bR (c7 (i:=0) c__law_next hr (by decide) (by rfl) rfl rfl (by trivial) (g_)) (aH))) (gZ (i:=6) rfl) (aW (i:=6) sc.nd rfl (by trivial)) (aF (j0 (i:=7) (o:=false) rfl sc.nd rfl (by trivial) (c7 (i:=0) c__law_next hr (by decide) (by rfl) rfl rfl (by trivial) (g_))) (aF (iH (ownN:=(["j"]:List Str)) (show cM eE (aL gQ) _ (["j"]:List Str) from by refine ⟨rfl,?_,?_,?_,?_,?_,?_⟩ <;> decide +kernel) (n:=12) (m:=1) rfl rfl rfl (kJ (by rfl) B.range (aC (aZ bR (aZ cW (aA (i:=7)) (aH)) (aH)) (aJ))) (gY 12) (fun _=>aW (i:=12) (show ((List.map (gG (["j"]:List Str)) eE++(["j"]:List Str)):List Str).Nodup from by decide +kernel) rfl (by trivial)) (fun _=>bH (bF hK hu) (aA (i:=4)) (aZ bR (aZ cW (aA (i:=7)) (bH (bF hK hu) (eY (aC (aH) (aC (aH) (aJ)))) (aA (i:=12)) (fun _ _=>rfl))) (aA (i:=3))) (fun _ _=>rfl)) (fun _=>rfl) (iy:=11) (o:=false) rfl sc.nd rfl (by trivial) (Or.inl rfl) (by with_unfolding_all rfl)) (aQ (oH (i:=10) rfl rfl (by trivial) (bQ (aC (bH (bF hK hu) (aA (i:=1)) (aZ bY (aH) (aA (i:=6))) (fun _ _=>rfl)) (aC (bH (bF hK hu) (aA (i:=4)) (aZ bR (aA (i:=7)) (aA (i:=3))) (fun _ _=>rfl)) (aC (bH (bF hK hu) (aA (i:=4)) (aZ bR (aZ cW (aA (i:=7)) (aH)) (aA (i:=3))) (fun _ _=>rfl)) (aC (dU gJ (by rfl) B.tuple fK (aC (aA (i:=11)) (aJ))) (aJ))))))))))) (aQ (RK (UT (i:=4) rfl rfl (by trivial) (aBx (aZ bY (jZ hK (aA (i:=5)) (fZ (aA (i:=9))) (fY)) (jZ hK (aA (i:=5)) (fY) (fZ (aA (i:=9))))) (UT (i:=10) rfl rfl (by trivial) (aBw)))))))))))))
theorem qT (c__law_next:wA P w K mg base 1 "_law_next" 1 1 aN) (F:Fun K "_law_words" "_law_words" iI fad fd) (hm:mg "_law_words" = some (.ref fad)):wA P w K mg base 2 "_law_words" 4 1 fP:=by
 have sc:=tE;refine pW (ps:=["deck", "heads", "wanted", "most"]) (N:=iK) (k:=1) 1 F hm (F.binds fun _ _ _ _ _ _ us hl=>match us,hl with|[_,_,_,_],_=>rfl) sc vH (by decide) (by decide) fun cdv A outer s H E hr=>?_
 have hu:=uV hr;exact aF (bL (i:=4) (o:=true) rfl sc.nd rfl (by trivial) (eY (aJ))) (aF (bL (i:=5) (o:=true) rfl sc.nd rfl (by trivial) (eY (aC (DP (aA (i:=2))) (aJ)))) (aF (aBd PassesOwn.never (cP (JK hu) (aA (i:=5)) (eY (aJ)) (eX _)) (aF (X4 (i:=5) (j:=6) rfl rfl (by trivial) sc.nd rfl (by trivial) rfl) (aF (bL (i:=7) (o:=false) rfl sc.nd rfl (by trivial) (aZ JH (aZ JH (aZ JH (aA (i:=3)) (bZ (eZ hK) (by rfl) B.len e_ (aC (aA (i:=4)) (aJ)))) (bZ (eZ hK) (by rfl) B.len e_ (aC (aA (i:=5)) (aJ)))) (aH))) (aF (CW (ownN:=(["row"]:List Str)) (show cM iK (aL iI) _ (["row"]:List Str) from by refine ⟨rfl,?_,?_,?_,?_,?_,?_⟩ <;> decide +kernel) (n:=10) (m:=1) rfl rfl rfl (dZ (aA (i:=1))) (gY 10) (fun _=>aW (i:=10) (show ((List.map (gG (["row"]:List Str)) iK++(["row"]:List Str)):List Str).Nodup from by decide +kernel) rfl (by trivial)) (fun _=>PW.pt (TX (cP (pI hu) (bH (bF hK hu) (aA (i:=10)) (aH) (fun _ _=>rfl)) (aA (i:=6)) (eX _)) (JF (cP (aDw hu) (bZ (eZ hK) (by rfl) B.len e_ (aC (bH (bF hK hu) (aA (i:=10)) (aH) (fun _ _=>rfl)) (aJ))) (aA (i:=7)) (eX _))))) (fun _=>aA (i:=10)) (fun _=>rfl) (iy:=8) (o:=false) rfl sc.nd rfl (by trivial) (Or.inl rfl) (by with_unfolding_all rfl)) (aF (j0 (i:=9) (o:=false) rfl sc.nd rfl (by trivial) (aBm (i:=8) (bF hK hu) rfl rfl (by trivial) (KD bR (c7 (i:=0) c__law_next hr (by decide) (by rfl) rfl rfl (by trivial) (g_)) (bZ (eZ hK) (by rfl) B.len e_ (aC (aA (i:=8)) (aJ)))) (fun _ _=>rfl))) (aF (oH (i:=4) rfl rfl (by trivial) (bH (bF hK hu) (aA (i:=9)) (aH) (fun _ _=>rfl))) (aQ (T9 (i:=5) rfl rfl (by trivial) (K6 (by rfl) (by rfl) B.list (by rfl) B.reversed (bH (bF hK hu) (aA (i:=9)) (aH) (fun _ _=>rfl))))))))))) (aQ (zO (i:=4) rfl rfl (by trivial)))))
theorem qU (c__law_next:wA P w K mg base 1 "_law_next" 1 1 aN) (c__law_words:wA P w K mg base 2 "_law_words" 4 1 fP) (F:Fun K "_law_rules" "_law_rules" iJ fad fd) (hm:mg "_law_rules" = some (.ref fad)):wA P w K mg base 3 "_law_rules" 5 1 fQ:=by
 have sc:=tG;refine pW (ps:=["deck", "makers", "takers", "names", "heads"]) (N:=iM) (k:=2) 1 F hm (F.binds fun _ _ _ _ _ _ us hl=>match us,hl with|[_,_,_,_,_],_=>rfl) sc vJ (by decide) (by decide) fun cdv A outer s H E hr=>?_
 have hu:=uV hr
 exact aF (j0 (i:=5) (o:=false) rfl sc.nd rfl (by trivial) (c7 (i:=0) c__law_next hr (by decide) (by rfl) rfl rfl (by trivial) (g_))) (aF (bL (i:=6) (o:=true) rfl sc.nd rfl (by trivial) (eY (aJ))) (aF (pN (i:=2) rfl PassesOwn.never rfl rfl (by trivial) (gZ (i:=7) rfl) (aW (i:=7) sc.nd rfl (by trivial)) (aQ (pN (i:=1) rfl PassesOwn.never rfl rfl (by trivial) (gZ (i:=8) rfl) (aW (i:=8) sc.nd rfl (by trivial)) (aQ (gK (cP (pI hu) (bH (bF hK hu) (aA (i:=8)) (aH) (fun _ _=>rfl)) (bH (bF hK hu) (aA (i:=7)) (aH) (fun _ _=>rfl)) (eX _)) (aF (bL (i:=9) (o:=false) rfl sc.nd rfl (by trivial) (aZ nW (bH (bF hK hu) (aA (i:=8)) (aH) (fun _ _=>rfl)) (bH (bF hK hu) (aA (i:=7)) (aH) (fun _ _=>rfl)))) (aF (bL (i:=10) (o:=false) rfl sc.nd rfl (by trivial) (aZ bY (aH) (aZ bR (bZ (eZ hK) (by rfl) B.len e_ (aC (aA (i:=6)) (aJ))) (aH)))) (aF (bL (i:=11) (o:=true) rfl sc.nd rfl (by trivial) (eY (aJ))) (aF (kW PassesOwn.never rfl (kJ (by rfl) B.range (aC (bZ (eZ hK) (by rfl) B.len e_ (aC (aA (i:=9)) (aJ))) (aJ))) (gZ (i:=12) rfl) (aW (i:=12) sc.nd rfl (by trivial)) (aQ (oH (i:=11) rfl rfl (by trivial) (bH (bF hK hu) (aA (i:=3)) (aZ bY (aH) (aZ bR (aZ bY (aZ bY (aZ cW (aA (i:=5)) (aH)) (bZ (eZ hK) (by rfl) B.len e_ (aC (aA (i:=6)) (aJ)))) (aZ mD (aA (i:=12)) (aA (i:=10)))) (aH))) (fun _ _=>rfl))))) (aF (iH (ownN:=(["j"]:List Str)) (show cM iM (aL iJ) _ (["j"]:List Str) from by refine ⟨rfl,?_,?_,?_,?_,?_,?_⟩ <;> decide +kernel) (n:=17) (m:=1) rfl rfl rfl (kJ (by rfl) B.range (aC (bZ (eZ hK) (by rfl) B.len e_ (aC (aA (i:=9)) (aJ))) (aJ))) (gY 17) (fun _=>aW (i:=17) (show ((List.map (gG (["j"]:List Str)) iM++(["j"]:List Str)):List Str).Nodup from by decide +kernel) rfl (by trivial)) (fun _=>bQ (aC (bH (bF hK hu) (aA (i:=11)) (aA (i:=17)) (fun _ _=>rfl)) (aC (bH (bF hK hu) (aA (i:=9)) (aA (i:=17)) (fun _ _=>rfl)) (aC (bQ (aJ)) (aJ))))) (fun _=>rfl) (iy:=13) (o:=false) rfl sc.nd rfl (by trivial) (Or.inl rfl) (by with_unfolding_all rfl)) (aF (bL (i:=14) (o:=false) rfl sc.nd rfl (by trivial) (aH)) (aF (gK (cP (pI hu) (aA (i:=6)) (eY (aJ)) (eX _)) (aQ (bL (i:=14) (o:=false) rfl sc.nd rfl (by trivial) (bH (bF hK hu) (eY (aC (aH) (aC (aH) (aC (aH) (aJ))))) (aZ bR (aA (i:=5)) (aH)) (fun _ _=>rfl)))) (cF)) (aF (j0 (i:=15) (o:=false) rfl sc.nd rfl (by trivial) (c7 (i:=0) c__law_words hr (by decide) (by rfl) rfl rfl (by trivial) (aBo (aZ bY (aA (i:=13)) (aA (i:=4))) (aE7 (bH (bF hK hu) (aA (i:=7)) (aH) (fun _ _=>rfl)) (rG (i:=14) rfl rfl (by trivial) (g_)))))) (aQ (oH (i:=6) rfl rfl (by trivial) (bQ (aC (bH (bF hK hu) (aA (i:=7)) (aH) (fun _ _=>rfl)) (aC (bH (bF hK hu) (aA (i:=8)) (aH) (fun _ _=>rfl)) (aC (dU gJ (by rfl) B.tuple fK (aC (aA (i:=11)) (aJ))) (aC (dU gJ (by rfl) B.tuple fK (aC (aA (i:=15)) (aJ))) (aJ)))))))))))))))) (cF)))))) (aF (bL (i:=16) (o:=false) rfl sc.nd rfl (by trivial) (aZ bR (aZ cW (aA (i:=5)) (aH)) (bZ (aAz hu (by rfl)) (by rfl) B.max aB5 (aC (aH) (aC (bZ (eZ hK) (by rfl) B.len e_ (aC (aA (i:=6)) (aJ))) (aJ)))))) (aQ (sW (aZ bY (jZ hK (aA (i:=6)) (fZ (aA (i:=16))) (fY)) (jZ hK (aA (i:=6)) (fY) (fZ (aA (i:=16))))))))))
theorem tM  (F:Fun K "_law_same" "_law_same" jO fad fd) (hm:mg "_law_same" = some (.ref fad)):∀m:Nat,jD P w K mg base (m+1) "_law_same" 2 (bG m):=by
 have sc:=vR;intro m;induction m with
 | zero=>
  refine lV (ps:=["found", "due"]) (N:=fD) (k:=0) F hm (F.binds fun _ _ _ _ _ _ us hl=>match us,hl with|[_,_],_=>rfl) sc pZ (by decide) (by decide) fun cdv A outer s H E hr=>?_
  exact W_
 | succ m ih=>
  have c__law_same:=ih;refine lV (ps:=["found", "due"]) (N:=fD) (k:=m+1) F hm (F.binds fun _ _ _ _ _ _ us hl=>match us,hl with|[_,_],_=>rfl) sc pZ (by decide) (by decide) fun cdv A outer s H E hr=>?_
  have hu:=uV hr;exact aF (gK (rD (JR .str (aA (i:=1)) (by rfl) B.isi jN (by rfl) B.str T6)) (aQ (m5 (aAt (JR .str (aA (i:=0)) (by rfl) B.isi jN (by rfl) B.str T6) (aAr (aAq (pI hu) (aA (i:=0)) (aA (i:=1)) (eX _)))))) (cF)) (aF (gK (PW.pt (WT (yS (rD (JR .tuple (aA (i:=0)) (by rfl) B.isi jN (by rfl) B.tuple fK))) (JG (cP (JK hu) (bZ (eZ hK) (by rfl) B.len e_ (aC (aA (i:=0)) (aJ))) (bZ (eZ hK) (by rfl) B.len e_ (aC (aA (i:=1)) (aJ))) (eX _))))) (aQ (m5 (CT))) (cF)) (aQ (m5 (bZ (aB8 (by rfl)) (by rfl) B.all aB9 (aC (sO (ownN:=(["one", "other"]:List Str)) (show cM fD (aL jO) _ (["one", "other"]:List Str) from by refine ⟨rfl,?_,?_,?_,?_,?_,?_⟩ <;> decide +kernel) (n:=2) (m:=2) rfl rfl rfl (aBh (by rfl) B.zip (aC (aA (i:=0)) (aC (aA (i:=1)) (aJ)))) (JV _ 2 2) (fun _=>oG rfl (bI (aW (i:=2) (show ((List.map (gG (["one", "other"]:List Str)) fD++(["one", "other"]:List Str)):List Str).Nodup from by decide +kernel) rfl (by trivial)) (bI (aW (i:=3) (show ((List.map (gG (["one", "other"]:List Str)) fD++(["one", "other"]:List Str)):List Str).Nodup from by decide +kernel) rfl (by trivial)) (jG)))) (fun _=>cY c__law_same hr (Nat.le_refl _) (by rfl) (aC (aA (i:=2)) (aC (aA (i:=3)) (aJ)))) (fun _=>rfl)) (aJ))))))
theorem qW (c__law_next:wA P w K mg base 1 "_law_next" 1 1 aN) (F:Fun K "_law_names" "_law_names" fU fad fd) (hm:mg "_law_names" = some (.ref fad)):wA P w K mg base 2 "_law_names" 1 1 dH:=by
 have sc:=tH;refine pW (ps:=["deck"]) (N:=eF) (k:=1) 1 F hm (F.binds fun _ _ _ _ _ _ us hl=>match us,hl with|[_],_=>rfl) sc vL (by decide) (by decide) fun cdv A outer s H E hr=>?_
 have hu:=uV hr
 exact aF (bL (i:=1) (o:=false) rfl sc.nd rfl (by trivial) (kI)) (aF (j0 (i:=2) (o:=false) rfl sc.nd rfl (by trivial) (c7 (i:=0) c__law_next hr (by decide) (by rfl) rfl rfl (by trivial) (g_))) (aF (bL (i:=3) (o:=false) rfl sc.nd rfl (by trivial) (bH (bF hK hu) (eY (aC (aH) (aC (aH) (aC (aH) (aC (aH) (aC (aH) (aC (aH) (aJ)))))))) (aZ bR (aZ cW (aA (i:=2)) (aH)) (aH)) (fun _ _=>rfl))) (aF (bL (i:=4) (o:=false) rfl sc.nd rfl (by trivial) (aZ bR (aZ cW (aA (i:=2)) (aH)) (aH))) (aF (j0 (i:=5) (o:=false) rfl sc.nd rfl (by trivial) (c7 (i:=0) c__law_next hr (by decide) (by rfl) rfl rfl (by trivial) (g_))) (aF (bL (i:=6) (o:=false) rfl sc.nd rfl (by trivial) (aZ bR (aA (i:=5)) (aH))) (aF (bL (i:=7) (o:=false) rfl sc.nd rfl (by trivial) (aE0 PySem.F.plainAttrs_str PySem.F.slot_str_join PySem.F.type_str_join XF (kI) (aC (sO (ownN:=(["k"]:List Str)) (show cM eF (aL fU) _ (["k"]:List Str) from by refine ⟨rfl,?_,?_,?_,?_,?_,?_⟩ <;> decide +kernel) (n:=14) (m:=1) rfl rfl rfl (kJ (by rfl) B.range (aC (aA (i:=6)) (aJ))) (gY 14) (fun _=>aW (i:=14) (show ((List.map (gG (["k"]:List Str)) eF++(["k"]:List Str)):List Str).Nodup from by decide +kernel) rfl (by trivial)) (fun _=>bH (bF hK hu) (aA (i:=1)) (aZ bR (aZ bY (aZ cW (aA (i:=5)) (aH)) (aZ mD (aA (i:=14)) (aZ bY (aA (i:=4)) (aZ bR (aZ cW (aA (i:=5)) (aH)) (aH))))) (aH)) (fun _ _=>rfl)) (fun _=>rfl)) (aJ)) (fun _ _ _ _ _ h r=>Q5 h r))) (aF (j0 (i:=8) (o:=false) rfl sc.nd rfl (by trivial) (KD bR (c7 (i:=0) c__law_next hr (by decide) (by rfl) rfl rfl (by trivial) (g_)) (aZ bY (aA (i:=6)) (aH)))) (aF (gK (cP (pI hu) (aZ bR (aA (i:=2)) (aH)) (aH) (eX _)) (aQ (bL (i:=7) (o:=false) rfl sc.nd rfl (by trivial) (jZ hK (aA (i:=7)) (fY) (fZ (aH))))) (cF)) (aF (bL (i:=9) (o:=true) rfl sc.nd rfl (by trivial) (eY (aJ))) (aF (kW PassesOwn.never rfl (kJ (by rfl) B.range (aC (aH) (aJ))) (gZ (i:=10) rfl) (aW (i:=10) sc.nd rfl (by trivial)) (aF (bL (i:=11) (o:=false) rfl sc.nd rfl (by trivial) (aZ bR (aZ bY (aZ mD (aA (i:=10)) (aA (i:=3))) (aA (i:=4))) (aH))) (aQ (gK (cP (pI hu) (aZ bR (aA (i:=2)) (aH)) (aH) (eX _)) (aQ (oH (i:=9) rfl rfl (by trivial) (aZ mD (bH (bF hK hu) (aA (i:=1)) (aZ bR (aZ bY (aA (i:=4)) (aZ bR (aA (i:=11)) (aH))) (aH)) (fun _ _=>rfl)) (aZ bY (aH) (aZ cW (aA (i:=11)) (aH)))))) (aQ (gK (cP (pI hu) (aZ bR (aA (i:=2)) (aH)) (aH) (eX _)) (aF (bL (i:=12) (o:=false) rfl sc.nd rfl (by trivial) (bH (bF hK hu) (aA (i:=1)) (aZ bR (aZ bY (aA (i:=4)) (aZ bR (aA (i:=11)) (aH))) (aH)) (fun _ _=>rfl))) (aF (bL (i:=13) (o:=false) rfl sc.nd rfl (by trivial) (bH (bF hK hu) (aA (i:=1)) (aZ bR (aZ bY (aA (i:=4)) (aZ cW (aA (i:=11)) (aH))) (aH)) (fun _ _=>rfl))) (aQ (oH (i:=9) rfl rfl (by trivial) (aZ bY (aZ bY (aZ bY (jZ hK (aA (i:=7)) (fY) (fZ (aA (i:=8)))) (aA (i:=12))) (aA (i:=13))) (jZ hK (aA (i:=7)) (fZ (aA (i:=8))) (fY))))))) (aQ (oH (i:=9) rfl rfl (by trivial) (aZ bY (aZ bY (jZ hK (aA (i:=7)) (fY) (fZ (aA (i:=8)))) (bH (bF hK hu) (aA (i:=1)) (aA (i:=11)) (fun _ _=>rfl))) (jZ hK (aA (i:=7)) (fZ (aA (i:=8))) (fY))))))))))) (aF (gK (PW.pt (WT (cP (uX hu) (kI) (aA (i:=9)) (by with_unfolding_all rfl)) (JG (cP (uX hu) (kI) (aA (i:=9)) (by with_unfolding_all rfl))))) (aQ (iH (ownN:=(["name"]:List Str)) (show cM eF (aL fU) _ (["name"]:List Str) from by refine ⟨rfl,?_,?_,?_,?_,?_,?_⟩ <;> decide +kernel) (n:=14) (m:=1) rfl rfl rfl (dZ (aA (i:=9))) (gY 14) (fun _=>aW (i:=14) (show ((List.map (gG (["name"]:List Str)) eF++(["name"]:List Str)):List Str).Nodup from by decide +kernel) rfl (by trivial)) (fun _=>aZ bY (aA (i:=14)) (kI)) (fun _=>rfl) (iy:=9) (o:=true) rfl sc.nd rfl (by trivial) (Or.inl rfl) (by with_unfolding_all rfl))) (cF)) (aQ (zO (i:=9) rfl rfl (by trivial))))))))))))))
theorem vV  (F:Fun K "heads_of" "heads_of" nZ fad fd) (hm:mg "heads_of" = some (.ref fad)):jD P w K mg base 1 "heads_of" 1 lJ:=by
 have sc:=xV;refine lV (ps:=["program"]) (N:=rH) (k:=0) F hm (F.binds fun _ _ _ _ _ _ us hl=>match us,hl with|[_],_=>rfl) sc EY (by decide) (by decide) fun cdv A outer s H E hr=>?_
 have hu:=uV hr;exact aF (bL (i:=1) (o:=true) rfl sc.nd rfl (by trivial) (yU)) (aF (kW PassesOwn.never rfl (dZ (bH (bF hK hu) (aA (i:=0)) (aH) (fun _ _=>rfl))) (nR _ (is:=[2,3,4]) (by decide)) (oG rfl (bI (aW (i:=2) sc.nd rfl (by trivial)) (bI (aW (i:=3) sc.nd rfl (by trivial)) (bI (aW (i:=4) sc.nd rfl (by trivial)) (jG))))) (aQ (J1 (i:=1) hu rfl rfl (by trivial) (aA (i:=2)) (bQ (aC (aA (i:=3)) (aC (aA (i:=4)) (aJ))))))) (aF (kW PassesOwn.never rfl (dZ (bH (bF hK hu) (aA (i:=0)) (aH) (fun _ _=>rfl))) (nR _ (is:=[2,3,5,6]) (by decide)) (oG rfl (bI (aW (i:=2) sc.nd rfl (by trivial)) (bI (aW (i:=3) sc.nd rfl (by trivial)) (bI (aW (i:=5) sc.nd rfl (by trivial)) (bI (aW (i:=6) sc.nd rfl (by trivial)) (jG)))))) (aQ (J1 (i:=1) hu rfl rfl (by trivial) (aA (i:=2)) (bQ (aC (aA (i:=3)) (aC (aZ nW (bQ (aC (aA (i:=5)) (aJ))) (aA (i:=6))) (aJ))))))) (aQ (W7 (i:=1) rfl rfl (by trivial)))))
theorem xW  (F:Fun K "head_of" "head_of" p6 fad fd) (hm:mg "head_of" = some (.ref fad)):jD P w K mg base 1 "head_of" 3 lA:=by
 have sc:=FN;refine lV (ps:=["heads", "word", "known"]) (N:=vP) (k:=0) F hm (F.binds fun _ _ _ _ _ _ us hl=>match us,hl with|[_,_,_],_=>rfl) sc LC (by decide) (by decide) fun cdv A outer s H E hr=>?_
 have hu:=uV hr;exact aF (gK (cP (uX hu) (aA (i:=1)) (aA (i:=0)) (by with_unfolding_all rfl)) (aQ (m5 (bH (bF hK hu) (aA (i:=0)) (aA (i:=1)) (fun _ _=>rfl)))) (cF)) (aF (gK (cP (uX hu) (aA (i:=1)) (aA (i:=2)) (by with_unfolding_all rfl)) (aQ (m5 (bQ (aC (bH (bF hK hu) (aA (i:=2)) (aA (i:=1)) (fun _ _=>rfl)) (aC (bQ (aJ)) (aJ)))))) (cF)) (aQ (kY)))
theorem qX (c_head_of:jD P w K mg base 1 "head_of" 3 lA) (F:Fun K "walk_words" "walk_words" lC fad fd) (hm:mg "walk_words" = some (.ref fad)):jD P w K mg base 2 "walk_words" 4 fV:=by
 have sc:=tK;refine lV (ps:=["heads", "words", "wanted", "known"]) (N:=oM) (k:=1) F hm (F.binds fun _ _ _ _ _ _ us hl=>match us,hl with|[_,_,_,_],_=>rfl) sc vN (by decide) (by decide) fun cdv A outer s H E hr=>?_
 have hu:=uV hr;exact aF (bL (i:=4) (o:=true) rfl sc.nd rfl (by trivial) (eY (aC (DP (aA (i:=2))) (aJ)))) (aF (pN (i:=1) rfl PassesOwn.never rfl rfl (by trivial) (gZ (i:=5) rfl) (aW (i:=5) sc.nd rfl (by trivial)) (aF (gK (yS (rD (aA (i:=4)))) (aQ (kY)) (cF)) (aF (bL (i:=6) (o:=false) rfl sc.nd rfl (by trivial) (cY c_head_of hr (by decide) (by rfl) (aC (aA (i:=0)) (aC (aA (i:=5)) (aC (aA (i:=3)) (aJ)))))) (aF (aE6 (YB (JK hu) (DP (bH (bF hK hu) (aA (i:=6)) (aH) (fun _ _=>rfl))) (X8 (i:=4) rfl rfl (by trivial)) (eX _)) (aQ (kY)) (cF)) (aQ (T9 (i:=4) rfl rfl (by trivial) (K6 (by rfl) (by rfl) B.list (by rfl) B.reversed (bH (bF hK hu) (aA (i:=6)) (aH) (fun _ _=>rfl))))))))) (aQ (gK (rD (aA (i:=4))) (aQ (kY)) (cF))))
theorem YS  (F:Fun K "see" "see" YK fad fd) (hm:mg "see" = some (.ref fad)):K8 P w K mg base 1 "see":=by
 have sc:=aC4;refine aC0 (ps:=["seen", "name"]) (N:=aC3) (k:=0) F hm (F.binds fun _ _ _ _ _ _ us hl=>match us,hl with|[_,_],_=>rfl) sc rfl rfl fun cdv A outer s H E hr=>?_
 have hu:=uV hr;exact oW (VP (cP (aAw hu) (aA (i:=1)) (aA (i:=0)) (by with_unfolding_all rfl)) (fun _ _ _ _ _ _ h=>h.elim) GX) (wG (YC (i:=0) hu rfl (by trivial) (aA (i:=1)) CT rfl rfl rfl))
theorem qC (c_see:K8 P w K mg base 1 "see") (F:Fun K "known_names" "known_names" jP fad fd) (hm:mg "known_names" = some (.ref fad)):jD P w K mg base 2 "known_names" 5 dM:=by
 have sc:=qP;refine lV (ps:=["heads", "taker", "maker", "names", "seen"]) (N:=m8) (k:=1) F hm (F.binds fun _ _ _ _ _ _ us hl=>match us,hl with|[_,_,_,_,_],_=>rfl) sc sX (by decide) (by decide) fun cdv A outer s H E hr=>?_
 have hu:=uV hr;exact aF (bL (i:=5) (o:=false) rfl sc.nd rfl (by trivial) (aZ nW (bH (bF hK hu) (bH (bF hK hu) (aA (i:=0)) (aA (i:=2)) (fun _ _=>rfl)) (aH) (fun _ _=>rfl)) (jZ hK (bH (bF hK hu) (bH (bF hK hu) (aA (i:=0)) (aA (i:=1)) (fun _ _=>rfl)) (aH) (fun _ _=>rfl)) (fZ (aH)) (fY)))) (aF (gK (cP (JK hu) (bZ (eZ hK) (by rfl) B.len e_ (aC (aA (i:=3)) (aJ))) (bZ (eZ hK) (by rfl) B.len e_ (aC (aA (i:=5)) (aJ))) (eX _)) (aQ (kY)) (cF)) (aF (bL (i:=6) (o:=true) rfl sc.nd rfl (by trivial) (dU XQ (by rfl) B.dict XD (aC (aA (i:=4)) (aJ)))) (aF (pN (i:=3) rfl PassesOwn.never rfl rfl (by trivial) (gZ (i:=7) rfl) (aW (i:=7) sc.nd rfl (by trivial)) (aQ (zP (i:=6) c_see hr (by decide) (by rfl) rfl rfl (by trivial) (aA (i:=7))))) (aQ (m5 (XX (by rfl) B.dict (by rfl) B.zip (aC (aA (i:=3)) (aC (aA (i:=5)) (aJ)))))))))
theorem qD (c_heads_of:jD P w K mg base 1 "heads_of" 1 lJ) (c_known_names:jD P w K mg base 2 "known_names" 5 dM) (c_walk_words:jD P w K mg base 2 "walk_words" 4 fV) (F:Fun K "check_rules" "check_rules" eQ fad fd) (hm:mg "check_rules" = some (.ref fad)):jD P w K mg base 3 "check_rules" 2 gP:=by
 have sc:=qQ;refine lV (ps:=["program", "seen"]) (N:=dN) (k:=2) F hm (F.binds fun _ _ _ _ _ _ us hl=>match us,hl with|[_,_],_=>rfl) sc sZ (by decide) (by decide) fun cdv A outer s H E hr=>?_
 have hu:=uV hr
 exact aF (bL (i:=2) (o:=false) rfl sc.nd rfl (by trivial) (cY c_heads_of hr (by decide) (by rfl) (aC (aA (i:=0)) (aJ)))) (aF (iH (ownN:=(["maker"]:List Str)) (show cM dN (aL eQ) _ (["maker"]:List Str) from by refine ⟨rfl,?_,?_,?_,?_,?_,?_⟩ <;> decide +kernel) (n:=10) (m:=1) rfl rfl rfl (dZ (bH (bF hK hu) (aA (i:=0)) (aH) (fun _ _=>rfl))) (gY 10) (fun _=>aW (i:=10) (show ((List.map (gG (["maker"]:List Str)) dN++(["maker"]:List Str)):List Str).Nodup from by decide +kernel) rfl (by trivial)) (fun _=>bH (bF hK hu) (aA (i:=10)) (aH) (fun _ _=>rfl)) (fun _=>rfl) (iy:=3) (o:=false) rfl sc.nd rfl (by trivial) (Or.inl rfl) (by with_unfolding_all rfl)) (aF (iH (ownN:=(["taker"]:List Str)) (show cM dN (aL eQ) _ (["taker"]:List Str) from by refine ⟨rfl,?_,?_,?_,?_,?_,?_⟩ <;> decide +kernel) (n:=10) (m:=1) rfl rfl rfl (dZ (bH (bF hK hu) (aA (i:=0)) (aH) (fun _ _=>rfl))) (gY 10) (fun _=>aW (i:=10) (show ((List.map (gG (["taker"]:List Str)) dN++(["taker"]:List Str)):List Str).Nodup from by decide +kernel) rfl (by trivial)) (fun _=>bH (bF hK hu) (aA (i:=10)) (aH) (fun _ _=>rfl)) (fun _=>rfl) (iy:=4) (o:=false) rfl sc.nd rfl (by trivial) (Or.inl rfl) (by with_unfolding_all rfl)) (aF (bL (i:=5) (o:=true) rfl sc.nd rfl (by trivial) (yU)) (aQ (kW PassesOwn.never rfl (dZ (bH (bF hK hu) (aA (i:=0)) (aH) (fun _ _=>rfl))) (nR _ (is:=[6,7,8,9]) (by decide)) (oG rfl (bI (aW (i:=6) sc.nd rfl (by trivial)) (bI (aW (i:=7) sc.nd rfl (by trivial)) (bI (aW (i:=8) sc.nd rfl (by trivial)) (bI (aW (i:=9) sc.nd rfl (by trivial)) (jG)))))) (aF (gK (cP (mY hu) (aA (i:=6)) (aA (i:=4)) (by with_unfolding_all rfl)) (aQ (kY)) (cF)) (aF (gK (cP (mY hu) (aA (i:=7)) (aA (i:=3)) (by with_unfolding_all rfl)) (aQ (kY)) (cF)) (aF (gK (cP (JK hu) (bH (bF hK hu) (bH (bF hK hu) (aA (i:=2)) (aA (i:=7)) (fun _ _=>rfl)) (aH) (fun _ _=>rfl)) (bH (bF hK hu) (bH (bF hK hu) (bH (bF hK hu) (aA (i:=2)) (aA (i:=6)) (fun _ _=>rfl)) (aH) (fun _ _=>rfl)) (aH) (fun _ _=>rfl)) (eX _)) (aQ (kY)) (cF)) (aF (gK (cP (uX hu) (bQ (aC (aA (i:=6)) (aC (aA (i:=7)) (aJ)))) (aA (i:=5)) (by with_unfolding_all rfl)) (aQ (kY)) (cF)) (aF (J1 (i:=5) hu rfl rfl (by trivial) (bQ (aC (aA (i:=6)) (aC (aA (i:=7)) (aJ)))) (CT)) (aQ (pL (cY c_walk_words hr (by decide) (by rfl) (aC (aA (i:=2)) (aC (aA (i:=9)) (aC (bH (bF hK hu) (bH (bF hK hu) (aA (i:=2)) (aA (i:=6)) (fun _ _=>rfl)) (aH) (fun _ _=>rfl)) (aC (cY c_known_names hr (by decide) (by rfl) (aC (aA (i:=2)) (aC (aA (i:=6)) (aC (aA (i:=7)) (aC (aA (i:=8)) (aC (aA (i:=1)) (aJ))))))) (aJ))))))))))))))))))
theorem n8  (F:Fun K "check_lacking" "check_lacking" dI fad fd) (hm:mg "check_lacking" = some (.ref fad)):jD P w K mg base 1 "check_lacking" 1 eU:=by
 have sc:=oV;refine lV (ps:=["program"]) (N:=bW) (k:=0) F hm (F.binds fun _ _ _ _ _ _ us hl=>match us,hl with|[_],_=>rfl) sc p7 (by decide) (by decide) fun cdv A outer s H E hr=>?_
 have hu:=uV hr;exact aF (iH (ownN:=(["rule"]:List Str)) (show cM bW (aL dI) _ (["rule"]:List Str) from by refine ⟨rfl,?_,?_,?_,?_,?_,?_⟩ <;> decide +kernel) (n:=7) (m:=1) rfl rfl rfl (dZ (bH (bF hK hu) (aA (i:=0)) (aH) (fun _ _=>rfl))) (gY 7) (fun _=>aW (i:=7) (show ((List.map (gG (["rule"]:List Str)) bW++(["rule"]:List Str)):List Str).Nodup from by decide +kernel) rfl (by trivial)) (fun _=>bQ (aC (bH (bF hK hu) (aA (i:=7)) (aH) (fun _ _=>rfl)) (aC (bH (bF hK hu) (aA (i:=7)) (aH) (fun _ _=>rfl)) (aJ)))) (fun _=>rfl) (iy:=1) (o:=false) rfl sc.nd rfl (by trivial) (Or.inl rfl) (by with_unfolding_all rfl)) (aQ (kW PassesOwn.never rfl (dZ (bH (bF hK hu) (aA (i:=0)) (aH) (fun _ _=>rfl))) (nR _ (is:=[2,3,4,5]) (by decide)) (oG rfl (bI (aW (i:=2) sc.nd rfl (by trivial)) (bI (aW (i:=3) sc.nd rfl (by trivial)) (bI (aW (i:=4) sc.nd rfl (by trivial)) (bI (aW (i:=5) sc.nd rfl (by trivial)) (jG)))))) (aQ (kW PassesOwn.never rfl (dZ (CV (ownN:=(["name", "given", "parts"]:List Str)) (show cM bW (aL dI) _ (["name", "given", "parts"]:List Str) from by refine ⟨rfl,?_,?_,?_,?_,?_,?_⟩ <;> decide +kernel) (n:=7) (m:=3) rfl rfl rfl (dZ (bH (bF hK hu) (aA (i:=0)) (aH) (fun _ _=>rfl))) (JV _ 7 3) (fun _=>oG rfl (bI (aW (i:=7) (show ((List.map (gG (["name", "given", "parts"]:List Str)) bW++(["name", "given", "parts"]:List Str)):List Str).Nodup from by decide +kernel) rfl (by trivial)) (bI (aW (i:=8) (show ((List.map (gG (["name", "given", "parts"]:List Str)) bW++(["name", "given", "parts"]:List Str)):List Str).Nodup from by decide +kernel) rfl (by trivial)) (bI (aW (i:=9) (show ((List.map (gG (["name", "given", "parts"]:List Str)) bW++(["name", "given", "parts"]:List Str)):List Str).Nodup from by decide +kernel) rfl (by trivial)) (jG))))) (fun _=>cP (pI hu) (aA (i:=8)) (aA (i:=4)) (eX _)) (fun _=>aA (i:=7)) (fun _=>rfl))) (gZ (i:=6) rfl) (aW (i:=6) sc.nd rfl (by trivial)) (aQ (gK (cP (mY hu) (bQ (aC (aA (i:=2)) (aC (aA (i:=6)) (aJ)))) (aA (i:=1)) (by with_unfolding_all rfl)) (aQ (kY)) (cF)))))))
theorem qF  (F:Fun K "check_kinds" "check_kinds" jQ fad fd) (hm:mg "check_kinds" = some (.ref fad)):jD P w K mg base 1 "check_kinds" 2 dB:=by
 have sc:=qR;refine lV (ps:=["program", "kinds"]) (N:=m9) (k:=0) F hm (F.binds fun _ _ _ _ _ _ us hl=>match us,hl with|[_,_],_=>rfl) sc tD (by decide) (by decide) fun cdv A outer s H E hr=>?_
 have hu:=uV hr;exact aQ (pN (i:=1) rfl PassesOwn.never rfl rfl (by trivial) (gZ (i:=2) rfl) (aW (i:=2) sc.nd rfl (by trivial)) (aQ (gK (cP (mY hu) (aA (i:=2)) (bH (bF hK hu) (aA (i:=0)) (aH) (fun _ _=>rfl)) (by with_unfolding_all rfl)) (aQ (kY)) (cF))))
theorem LR (c_see:K8 P w K mg base 1 "see") (c_check_kinds:jD P w K mg base 1 "check_kinds" 2 dB) (c_check_rules:jD P w K mg base 3 "check_rules" 2 gP) (c_check_lacking:jD P w K mg base 1 "check_lacking" 1 eU) (F:Fun K "sound" "sound" xT fad fd) (hm:mg "sound" = some (.ref fad)):jD P w K mg base 4 "sound" 1 jT:=by
 have sc:=RV;refine lV (ps:=["program"]) (N:=LQ) (k:=3) F hm (F.binds fun _ _ _ _ _ _ us hl=>match us,hl with|[_],_=>rfl) sc YL (by decide) (by decide) fun cdv A outer s H E hr=>?_
 have hu:=uV hr;exact aF (bL (i:=1) (o:=true) rfl sc.nd rfl (by trivial) (YJ (kI) (CT) (kI) (CT))) (aF (kW PassesOwn.never rfl (dZ (bH (bF hK hu) (aA (i:=0)) (aH) (fun _ _=>rfl))) (gZ (i:=2) rfl) (aW (i:=2) sc.nd rfl (by trivial)) (aQ (zP (i:=1) c_see hr (by decide) (by rfl) rfl rfl (by trivial) (aA (i:=2))))) (aF (kW PassesOwn.never rfl (dZ (bH (bF hK hu) (aA (i:=0)) (aH) (fun _ _=>rfl))) (nR _ (is:=[2,3,4]) (by decide)) (oG rfl (bI (aW (i:=2) sc.nd rfl (by trivial)) (bI (aW (i:=3) sc.nd rfl (by trivial)) (bI (aW (i:=4) sc.nd rfl (by trivial)) (jG))))) (aF (zP (i:=1) c_see hr (by decide) (by rfl) rfl rfl (by trivial) (aA (i:=2))) (aQ (pL (cY c_check_kinds hr (by decide) (by rfl) (aC (aA (i:=0)) (aC (aZ nW (bQ (aC (aA (i:=3)) (aJ))) (aA (i:=4))) (aJ)))))))) (aF (kW PassesOwn.never rfl (dZ (bH (bF hK hu) (aA (i:=0)) (aH) (fun _ _=>rfl))) (nR _ (is:=[2,3,5,6]) (by decide)) (oG rfl (bI (aW (i:=2) sc.nd rfl (by trivial)) (bI (aW (i:=3) sc.nd rfl (by trivial)) (bI (aW (i:=5) sc.nd rfl (by trivial)) (bI (aW (i:=6) sc.nd rfl (by trivial)) (jG)))))) (aF (zP (i:=1) c_see hr (by decide) (by rfl) rfl rfl (by trivial) (aA (i:=2))) (aQ (pL (cY c_check_kinds hr (by decide) (by rfl) (aC (aA (i:=0)) (aC (aZ nW (bQ (aC (aA (i:=3)) (aC (aA (i:=5)) (aJ)))) (aA (i:=6))) (aJ)))))))) (aF (pL (cY c_check_rules hr (by decide) (by rfl) (aC (aA (i:=0)) (aC (aA (i:=1)) (aJ))))) (aF (pL (cY c_check_lacking hr (by decide) (by rfl) (aC (aA (i:=0)) (aJ)))) (aQ (m5 (aA (i:=0)))))))))
theorem aC6 (c__law_own_words:RQ P w K mg base 1 "_law_own_words" dD 3) (c__law_names:wA P w K mg base 2 "_law_names" 1 1 dH) (c__law_next:wA P w K mg base 1 "_law_next" 1 1 aN) (c__law_sig:wA P w K mg base 2 "_law_sig" 2 1 gR) (c__law_rules:wA P w K mg base 3 "_law_rules" 5 1 fQ) (c_sound:jD P w K mg base 4 "sound" 1 jT) (c__law_same:jD P w K mg base 7 "_law_same" 2 (bG 6)) (F:Fun K "law" "law" qO fad fd):v9 P w K mg base CX0 8 fad fd ["script"] (spD FJ 1):=by
 have sc:=aC5;refine aB4 (ps:=["script"]) (N:=RT) (k:=7) F sc o_law (by decide) (by decide) fun cdv A outer s H E hr=>?_
 have hu:=uV hr
 exact aF (bL (i:=1) (o:=true) rfl sc.nd rfl (by trivial) (aBr (eY (aC (jZ hK (aA (i:=0)) (fY) (fZ (aH))) (aC (aH) (aJ)))))) (aF (j0 (i:=2) (o:=false) rfl sc.nd rfl (by trivial) (YG c__law_own_words hr (by decide) (by rfl) (c7 (i:=1) c__law_names hr (by decide) (by rfl) rfl rfl (by trivial) (g_)) (c7 (i:=1) c__law_next hr (by decide) (by rfl) rfl rfl (by trivial) (g_)))) (aF (aBy (is:=[3,4,5]) (by decide) (c7 (i:=1) c__law_sig hr (by decide) (by rfl) rfl rfl (by trivial) (rG (i:=2) rfl rfl (by trivial) (g_))) (X_ rfl (bI (aW (i:=3) sc.nd rfl (by trivial)) (bI (aW (i:=4) sc.nd rfl (by trivial)) (bI (aW (i:=5) sc.nd rfl (by trivial)) (jG)))))) (aF (bL (i:=6) (o:=false) rfl sc.nd rfl (by trivial) (aZ bY (aA (i:=4)) (sO (ownN:=(["row"]:List Str)) (show cM RT (aL qO) _ (["row"]:List Str) from by refine ⟨rfl,?_,?_,?_,?_,?_,?_⟩ <;> decide +kernel) (n:=12) (m:=1) rfl rfl rfl (dZ (aA (i:=5))) (gY 12) (fun _=>aW (i:=12) (show ((List.map (gG (["row"]:List Str)) RT++(["row"]:List Str)):List Str).Nodup from by decide +kernel) rfl (by trivial)) (fun _=>bQ (aC (bH (bF hK hu) (aA (i:=12)) (aH) (fun _ _=>rfl)) (aC (bH (bF hK hu) (aA (i:=12)) (aH) (fun _ _=>rfl)) (aC (aZ nW (bQ (aC (bH (bF hK hu) (aA (i:=12)) (aH) (fun _ _=>rfl)) (aJ))) (bH (bF hK hu) (aA (i:=12)) (aH) (fun _ _=>rfl))) (aJ))))) (fun _=>rfl)))) (aF (j0 (i:=7) (o:=false) rfl sc.nd rfl (by trivial) (c7 (i:=1) c__law_next hr (by decide) (by rfl) rfl rfl (by trivial) (g_))) (aF (gK (cP (pI hu) (aZ bR (aA (i:=7)) (aH)) (aH) (eX _)) (aF (bL (i:=8) (o:=false) rfl sc.nd rfl (by trivial) (bH (bF hK hu) (aA (i:=2)) (aH) (fun _ _=>rfl))) (aF (bL (i:=4) (o:=false) rfl sc.nd rfl (by trivial) (aZ bY (aA (i:=4)) (eY (aC (DP (bQ (aC (bH (bF hK hu) (aA (i:=2)) (aH) (fun _ _=>rfl)) (aC (bH (bF hK hu) (aA (i:=3)) (aZ bR (aZ cW (aA (i:=7)) (aH)) (bZ (eZ hK) (by rfl) B.len e_ (aC (aA (i:=3)) (aJ)))) (fun _ _=>rfl)) (aC (bQ (aC (bH (bF hK hu) (aA (i:=3)) (aH) (fun _ _=>rfl)) (aC (aA (i:=8)) (aJ)))) (aJ)))))) (aJ))))) (aF (bL (i:=5) (o:=false) rfl sc.nd rfl (by trivial) (aZ bY (eY (aC (DP (bQ (aC (bH (bF hK hu) (aA (i:=2)) (aH) (fun _ _=>rfl)) (aC (bH (bF hK hu) (aA (i:=3)) (aH) (fun _ _=>rfl)) (aC (aA (i:=8)) (aC (bQ (aC (aA (i:=8)) (aJ))) (aJ))))))) (aJ))) (aA (i:=5)))) (aQ (bL (i:=3) (o:=false) rfl sc.nd rfl (by trivial) (aZ bY (eY (aC (DP (aA (i:=8))) (aJ))) (aA (i:=3)))))))) (cF)) (aF (j0 (i:=9) (o:=false) rfl sc.nd rfl (by trivial) (c7 (i:=1) c__law_rules hr (by decide) (by rfl) rfl rfl (by trivial) (rG (i:=4) rfl rfl (by trivial) (rG (i:=5) rfl rfl (by trivial) (rG (i:=2) rfl rfl (by trivial) (rG (i:=6) rfl rfl (by trivial) (g_))))))) (aF (bL (i:=10) (o:=false) rfl sc.nd rfl (by trivial) (bQ (aC (dU gJ (by rfl) B.tuple fK (aC (aA (i:=3)) (aJ))) (aC (dU gJ (by rfl) B.tuple fK (aC (aA (i:=4)) (aJ))) (aC (dU gJ (by rfl) B.tuple fK (aC (aA (i:=5)) (aJ))) (aC (dU gJ (by rfl) B.tuple fK (aC (aA (i:=9)) (aJ))) (aJ))))))) (aF (bL (i:=11) (o:=false) rfl sc.nd rfl (by trivial) (bQ (aC (dU gJ (by rfl) B.tuple fK (aC (aA (i:=3)) (aJ))) (aC (bQ (aJ)) (aC (bQ (aJ)) (aC (bQ (aJ)) (aJ))))))) (aF (gK (PW.pt (WT (yS (rD (cY c__law_same hr (by decide) (by rfl) (aC (cY c_sound hr (by decide) (by rfl) (aC (aA (i:=11)) (aJ))) (aC (aA (i:=11)) (aJ)))))) (JG (yS (rD (cY c__law_same hr (by decide) (by rfl) (aC (cY c_sound hr (by decide) (by rfl) (aC (bQ (aC (bQ (aJ)) (aC (bQ (aJ)) (aC (bQ (aJ)) (aC (bQ (aJ)) (aJ)))))) (aJ))) (aC (bQ (aC (bQ (aJ)) (aC (bQ (aJ)) (aC (bQ (aJ)) (aC (bQ (aJ)) (aJ)))))) (aJ))))))))) (aQ (m5 (CT))) (cF)) (aQ (m5 (cY c__law_same hr (by decide) (by rfl) (aC (cY c_sound hr (by decide) (by rfl) (aC (aA (i:=10)) (aJ))) (aC (aA (i:=10)) (aJ)))))))))))))))
end
noncomputable def AtN (K:Frag) (n:Str) (st:Stmt):Prop:=∃(f:Addr) (fd:FuncData),nsIn K mainGlobals n=some (some (.ref f))/\Fun K n n st f fd
theorem aE9 {K:Frag} {n:Str} {st:Stmt} {f:Addr} {oc kV dc pm cd ct:Value} {od an:Option Addr} {sl:Array (Option Value)} (a:nsIn K mainGlobals n=some (some (.ref f))) (l:K.lookup f=some ⟨oc,od,.func (fnOf n n (lZ st) (eG st) (aL st) .none kV dc pm an cd ct),sl⟩) (c:codeIn K cd n=true) (k:keepIn K (.ref f)=true):AtN K n st:=⟨f,_,a,S_ (st:=st) l c k⟩
theorem aC7 {l:OpenLaw} {w:World} {K:Frag} {h:Heap} {mg:Str->Option Value} {fa:Addr} (X:K.In h) (G:h.Ns mainGlobals mg) (hfa:mg "law" = some (.ref fa)) (a0:AtN K "_law_own_words" gC) (a1:AtN K "_law_next" mG) (a2:AtN K "_law_sig" gQ) (a3:AtN K "_law_words" iI) (a4:AtN K "_law_rules" iJ) (a5:AtN K "_law_same" jO) (a6:AtN K "_law_names" fU) (a7:AtN K "heads_of" nZ) (a8:AtN K "head_of" p6) (a9:AtN K "walk_words" lC) (a10:AtN K "see" YK) (a11:AtN K "known_names" jP) (a12:AtN K "check_rules" eQ) (a13:AtN K "check_lacking" dI) (a14:AtN K "check_kinds" jQ) (a15:AtN K "sound" xT)
  {f16:Addr} {oc16 kV16 dc16 pm16 cd16 ct16:Value} {od16 an16:Option Addr} {sl16:Array (Option Value)} (a16:nsIn K mainGlobals "law" = some (some (.ref f16))) (l16:K.lookup f16=some ⟨oc16,od16,.func (fnOf "law" "law" (lZ qO) (eG qO) (aL qO) .none kV16 dc16 pm16 an16 cd16 ct16),sl16⟩) (c16:codeIn K cd16 "law" = true) (k16:keepIn K (.ref f16)=true) (z_len:nsIn K mainGlobals "len" = some none) (z_min:nsIn K mainGlobals "min" = some none) (z_max:nsIn K mainGlobals "max" = some none) (z_list:nsIn K mainGlobals "list" = some none) (z_tuple:nsIn K mainGlobals "tuple" = some none) (z_sorted:nsIn K mainGlobals "sorted" = some none) (z_range:nsIn K mainGlobals "range" = some none) (z_isinstance:nsIn K mainGlobals "isinstance" = some none) (z_int:nsIn K mainGlobals "int" = some none) (z_bool:nsIn K mainGlobals "bool" = some none) (z_str:nsIn K mainGlobals "str" = some none) (z_dict:nsIn K mainGlobals "dict" = some none) (z_all:nsIn K mainGlobals "all" = some none) (z_enumerate:nsIn K mainGlobals "enumerate" = some none) (z_sum:nsIn K mainGlobals "sum" = some none) (z_zip:nsIn K mainGlobals "zip" = some none) (z_abs:nsIn K mainGlobals "abs" = some none) (z_reversed:nsIn K mainGlobals "reversed" = some none) :
  ∃fd:FuncData,(∀(s:Shared) (v:Value),BindsTo s fd ⟨[v],[]⟩ [("script",v)])/\∀base:Heap,K.In base->base.Ns mainGlobals mg->v9 l.prog w K mg base CX0 8 fa fd ["script"] (@spD ⟨K⟩ FJ 1):=by
 have e:=hfa.symm.trans (mg_of X G a16);cases e
 letI:KFrag:=⟨K⟩
 have Y:=fun {n:Str} {v:Value}=>mg_of (n:=n) (v:=v) X G
 have Z:=fun {n:Str}=>mg_none_of (n:=n) X G
 obtain ⟨f0,_,a0,F0⟩:=a0;obtain ⟨f1,_,a1,F1⟩:=a1;obtain ⟨f2,_,a2,F2⟩:=a2;obtain ⟨f3,_,a3,F3⟩:=a3;obtain ⟨f4,_,a4,F4⟩:=a4;obtain ⟨f5,_,a5,F5⟩:=a5;obtain ⟨f6,_,a6,F6⟩:=a6;obtain ⟨f7,_,a7,F7⟩:=a7;obtain ⟨f8,_,a8,F8⟩:=a8;obtain ⟨f9,_,a9,F9⟩:=a9;obtain ⟨f10,_,a10,F10⟩:=a10;obtain ⟨f11,_,a11,F11⟩:=a11;obtain ⟨f12,_,a12,F12⟩:=a12;obtain ⟨f13,_,a13,F13⟩:=a13;obtain ⟨f14,_,a14,F14⟩:=a14;obtain ⟨f15,_,a15,F15⟩:=a15;have B:Bt mg:=⟨Z z_len,Z z_min,Z z_max,Z z_list,Z z_tuple,Z z_sorted,Z z_range,Z z_isinstance,Z z_int,Z z_bool,Z z_str,Z z_dict,Z z_all,Z z_enumerate,Z z_sum,Z z_zip,Z z_abs,Z z_reversed⟩
 refine ⟨fnOf "law" "law" (lZ qO) (eG qO) (aL qO) .none kV16 dc16 pm16 an16 cd16 ct16,fun s v=>.of_eq rfl,fun base _ _=>?_⟩;have h__law_own_words:=m_ (P:=l.prog) (w:=w) (base:=base) rfl B  F0 (Y a0);have h__law_next:=tL (P:=l.prog) (w:=w) (base:=base) rfl B  F1 (Y a1);have h__law_sig:=vU (P:=l.prog) (w:=w) (base:=base) rfl B h__law_next F2 (Y a2);have h__law_words:=qT (P:=l.prog) (w:=w) (base:=base) rfl B h__law_next F3 (Y a3);have h__law_rules:=qU (P:=l.prog) (w:=w) (base:=base) rfl B h__law_next h__law_words F4 (Y a4);have h__law_same:=tM (P:=l.prog) (w:=w) (base:=base) rfl B  F5 (Y a5) 6;have h__law_names:=qW (P:=l.prog) (w:=w) (base:=base) rfl B h__law_next F6 (Y a6);have h_heads_of:=vV (P:=l.prog) (w:=w) (base:=base) rfl B  F7 (Y a7);have h_head_of:=xW (P:=l.prog) (w:=w) (base:=base) rfl B  F8 (Y a8);have h_walk_words:=qX (P:=l.prog) (w:=w) (base:=base) rfl B h_head_of F9 (Y a9);have h_see:=YS (P:=l.prog) (w:=w) (base:=base) rfl B  F10 (Y a10);have h_known_names:=qC (P:=l.prog) (w:=w) (base:=base) rfl B h_see F11 (Y a11);have h_check_rules:=qD (P:=l.prog) (w:=w) (base:=base) rfl B h_heads_of h_known_names h_walk_words F12 (Y a12);have h_check_lacking:=n8 (P:=l.prog) (w:=w) (base:=base) rfl B  F13 (Y a13);have h_check_kinds:=qF (P:=l.prog) (w:=w) (base:=base) rfl B  F14 (Y a14);have h_sound:=LR (P:=l.prog) (w:=w) (base:=base) rfl B h_see h_check_kinds h_check_rules h_check_lacking F15 (Y a15);exact aC6 rfl B h__law_own_words h__law_names h__law_next h__law_sig h__law_rules h_sound h__law_same (S_ (st:=qO) l16 c16 k16)
theorem walk {l:OpenLaw} {q:Program} {loose:List Str} {XP:(Str->Option Value)->Heap->Prop} {YP:World->Heap->Prop} {d:DefRec} {K:Params->Frag} (main:∀ns:List Int,ns.length<=63->FJ [.scr (ns.map D.int)]=.ok (.bl true)) (hn:l.most=some 63) (hdf:d.params.defaults=[])
  (hY:∀(w:World) (h:Heap),YP w h->(K w.params).In h)
  (F:∀(w:World) (mg:Str->Option Value) (fa:Addr) (h:Heap),(K w.params).In h->h.Ns mainGlobals mg->mg d.name=some (.ref fa)->
   ∃fd:FuncData,(∀(s:Shared) (u:Value),BindsTo s fd ⟨[u],[]⟩ [("script",u)])/\∀base:Heap,(K w.params).In base->base.Ns mainGlobals mg->v9 l.prog w (K w.params) mg base CX0 8 fa fd ["script"] (@spD ⟨K w.params⟩ FJ 1)) :
  WalkO q loose XP YP l.row.toRowW d [] (fun f vs=>PySem.call f vs):=
 L2.WL (n:=63) (k:=8) (x := "script") (CX:=fun _=>CX0) (sp:=fun w=>@spD ⟨K w.params⟩ FJ 1) hn (by decide) hdf ⟨rfl,by decide,by decide⟩ hY F (fun w H a ns hl hO hS=>J2 main hl hO hS) fun _ _ _ _ _ z=>z
end Lk47
end
section
namespace Lk47
open PySem L2 Mi
theorem lD {f:List D->Res D} {n i:Nat} {fs:FA} {ρ rest h h':List D} {r:D} (h1:fs ρ=.ok rest) (h2:t7 (ρ.getD i .uD)=some h) (h3:rest.length+1=n) (h4:ch1 f h rest=.ok (r,h')) (h5:D.aV h'=true) {ρ':List D} (he:ρ.set i (RD (ρ.getD i .uD) h')=ρ'):b8 f n i fs ρ=.ok (r,ρ'):=by
 subst he;unfold b8;rw [h1,Res.aM,h2];dsimp only;rw [if_pos (decide_eq_true h3),h4,Res.aM];dsimp only;rw [if_pos h5]
theorem gD {i:Nat} {f:FX} {ρ ρ':List D} {d:D} (h:f ρ=.ok (d,ρ')) {ρ2:List D} (he:ρ'.set i d=ρ2):fC false i f ρ=.ok (.nx ρ2):=by
 subst he;unfold fC;rw [h];rfl
theorem vW {f g:FS} {ρ:List D} {d:D} (h:f ρ=.ok (.rt d)):bD f g ρ=.ok (.rt d):=by
 unfold bD;rw [h];rfl
theorem L_ {i:Nat} {fk fv:FE} {ρ xs:List D} {d:D} {k:Int} {j:Nat} (h1:fv ρ=.ok d) (h2:fk ρ=.ok (.int k)) (h3:t7 (ρ.getD i .uD)=some xs) (hp:d.pure=true) (hj:ixD xs.length k=some j) {ρ':List D} (he:ρ.set i (RD (ρ.getD i .uD) (xs.set j d))=ρ'):DK i fk fv ρ=.ok (.nx ρ'):=by
 subst he;unfold DK;rw [h1,Res.aM,h2,Res.aM,h3];dsimp only;rw [if_pos hp,hj]
theorem tO {f:FE} {ρ:List D} {d:D} {k:Bool} (h:f ρ=.ok d) (hp:(k||d.pure)=true):uO f k ρ=.ok (.rt (.tup (d::ρ))):=by
 unfold uO;rw [h,Res.aM,if_pos hp]
theorem zQ {i:Nat} {ρ:List D} {d:D} (h:cU i ρ=.ok d) (hp:d.yM=true):rC i ρ=.ok (.rt (.tup (d::ρ))):=by
 unfold rC;rw [h,Res.aM,if_pos hp]
theorem MF {f:FE} {ρ:List D} {d:D} (h:f ρ=.ok d) (hp:d.pure=true):bPu f ρ=.ok d:=by
 unfold bPu;rw [h,Res.aM,if_pos hp]
theorem MJ {f:D->D->Res D} {fa:FX} {fb:FE} {ρ ρ1:List D} {x y d:D} (h1:fa ρ=.ok (x,ρ1)) (hp:x.pure=true) (h2:fb ρ1=.ok y) (h3:f x y=.ok d) (hd:d.pure=true):x2L f fa fb ρ=.ok (d,ρ1):=by
 unfold x2L;rw [h1,Res.aM];dsimp only;rw [if_pos hp,h2,Res.aM,h3,Res.aM,if_pos hd]
theorem U0 {f:D->D->Res D} {fa:FE} {fb:FX} {ρ ρ1:List D} {x y d:D} (h1:fa ρ=.ok x) (h2:fb ρ=.ok (y,ρ1)) (h3:f x y=.ok d) (hd:d.pure=true):x2R f fa fb ρ=.ok (d,ρ1):=by
 unfold x2R;rw [h1,Res.aM,h2,Res.aM];dsimp only;rw [h3,Res.aM,if_pos hd]
theorem aC8 {f:FX} {ρ ρ1:List D} {b:Bool} (h:f ρ=.ok (.bl b,ρ1)):xTB f ρ=.ok (b,ρ1):=by
 unfold xTB;rw [h];rfl
theorem aC9 {c:FXT} {f g:FS} {ρ ρ1:List D} {k:Bool} {r:Res Fl} (h1:c ρ=.ok (k,ρ1)) (h2:(if k then f ρ1 else g ρ1)=r):aBj c f g ρ=r:=by
 unfold aBj;rw [h1];exact h2
theorem rJ {k n m:Nat} {f:FS} {ds:List D} {d:D} {ρ:List D} (h:f (ds++List.replicate (m-n) .uD)=.ok (.rt (.tup (d::ρ)))):fnX k n m f ds=.ok (.tup (d::ρ.take k)):=by
 unfold fnX;rw [h];rfl
theorem n_ (a b:Int) (h:jW b=true):rF (.int a) (.int b)=.ok (.int (a*b)):=by
 show aR .mul (.int a) (.int b)=_;exact aBc a b h
theorem MK (a:Int) (h1:-10000000000<=a) (h2:a<=10000000000):jW a=true:=by
 unfold jW;rw [Bool.and_eq_true,decide_eq_true_eq,decide_eq_true_eq];lia
theorem aCa (a b:Int):cO (.ord .le) (.int a) (.int b)=.ok (.bl (decide (a<=b))):=rfl
theorem U3 (a b:Int):cO (.ord .lt) (.int a) (.int b)=.ok (.bl (decide (a<b))):=rfl
theorem mH (a b:Int):cO .eq (.int a) (.int b)=.ok (.bl (a==b)):=rfl
theorem MN (a b:Int):cO .ne (.int a) (.int b)=.ok (.bl (!(a==b))):=rfl
theorem MP (ns:List Int) (i:Int) (h0:0<=i) (h1:i<ns.length):∃n,getD (.scr (ns.map D.int)) (.int i)=.ok (.int n):=by
 have hl:i.toNat<ns.length:=by lia
 refine ⟨ns[i.toNat],?_⟩;show Res.ofOpt ((ixD (ns.map D.int).length i).bind fun j=>(ns.map D.int)[j]?)=_;unfold ixD;rw [if_pos h0,List.length_map,if_pos h1];simp [hl]
def tx (cs:List Nat):Str:=⟨cs.toArray⟩
theorem oN (cs:List Nat):(tx cs).length=cs.length:=by
 show cs.toArray.size=_;simp
theorem zR (a b:List Nat):tx a++tx b=tx (a++b):=by
 show (⟨a.toArray++b.toArray⟩:Str)=⟨(a++b).toArray⟩
 congr 1
 simp
theorem zT {a b:List Nat} (h:tx a=tx b):a=b:=by
 unfold tx at h;injection h with h
 have:=congrArg Array.toList h;simpa using this
def abc:Str := "abcdefghijklmnopqrstuvwxyz"
theorem aCb:∀i,i<26->abc.cps.toList[i]?=some (97+i):=by decide +kernel
theorem letter (i:Int) (h0:0<=i) (h1:i<26):getD (.str abc) (.int i)=.ok (.str (tx [97+i.toNat])):=by
 have hl:decide (abc.length<=lim)=true:=by decide +kernel
 have h26:abc.cps.toList.length=26:=by decide +kernel
 have hix:ixD abc.cps.toList.length i=some i.toNat:=by
  unfold ixD;rw [if_pos h0,h26,if_pos (by lia)]
 show (if decide (abc.length<=lim) then Res.ofOpt (((ixD abc.cps.toList.length i).bind fun j=>abc.cps.toList[j]?).map fun c=>D.str ⟨#[c]⟩) else .bad)=_;rw [hl,if_pos rfl,hix];simp only [Option.bind_some];rw [aCb _ (by lia)];rfl
def dk (cs:List Int) (n:Nat):List D:=[.scr (cs.map D.int),.int n]
theorem lK (cs:List Int) (n:Nat):D.aV (dk cs n)=true:=by
 show ((D.scr (cs.map D.int)).pure&&_)=true;rw [D.pure,nU];rfl
theorem YT (cs:List Int) (n:Nat) (hn:n<=100000):∃r:Int,∀b,aN [.cel b (dk cs n)]=.ok (.tup [.int r,.cel b (dk cs (n+1))]):=by
 have hl:jY [.scr (cs.map D.int)]=.ok (.int cs.length):=by
  show Res.ok (D.int ((cs.map D.int).length:Int))=_;rw [List.length_map]
 have pre:∀(b:Nat) (R:Res Fl) (g:FS),g [.cel b (dk cs (n+1)),.scr (cs.map D.int),.int n]=R->(bD (b_ false 1 (b2 getD iC jX) false) (bD (b_ false 2 (b2 getD iC fJ) false) (bD (DK 0 fJ (b2 (aR .add) cV fJ)) g))) [.cel b (dk cs n),.uD,.uD]=R:=fun b R g hg=>by
  refine aK (ρ':=[.cel b (dk cs n),.scr (cs.map D.int),.uD]) (gB (i:=1) (aG (x:=.cel b (dk cs n)) (y:=.int 0) rfl rfl rfl) (nU cs)) ?_;refine aK (ρ':=[.cel b (dk cs n),.scr (cs.map D.int),.int n]) (gB (i:=2) (aG (x:=.cel b (dk cs n)) (y:=.int 1) rfl rfl rfl) rfl) ?_;exact aK (L_ (i:=0) (xs:=dk cs n) (k:=1) (j:=1) (d:=.int ((n+1:Nat):Int)) (aG (x:=.int n) (y:=.int 1) rfl rfl rfl) rfl rfl rfl rfl rfl) hg
 have h0:∀(b:Nat) (d:D) (ρ:List D),pY [.cel b (dk cs n),.uD,.uD]=.ok (.rt (.tup (d::.cel b (dk cs (n+1))::ρ)))->aN [.cel b (dk cs n)]=.ok (.tup [d,.cel b (dk cs (n+1))]):=fun b d ρ h=>rJ (k:=1) (ρ:=.cel b (dk cs (n+1))::ρ) h
 by_cases h1:n<cs.length
 ·obtain ⟨r,hr⟩:=MP cs n (by lia) (by lia);refine ⟨r,fun b=>h0 b _ _ (pre b _ _ (vW (F_ (dW (aG rfl (bB (aD rfl rfl) hl) ((U3 _ _).trans (by rw [decide_eq_true (by lia)])))) (tO (aG rfl rfl hr) rfl))))⟩
 ·have c1:∀b:Nat,(sIf (bTB (b2 (cO (.ord .lt)) cV (bA jY (aB fG aO)))) (uO (b2 getD fG cV) false) (jL)) [.cel b (dk cs (n+1)),.scr (cs.map D.int),.int n]=.ok (.nx [.cel b (dk cs (n+1)),.scr (cs.map D.int),.int n]):=fun b=>o5 (dW (aG rfl (bB (aD rfl rfl) hl) ((U3 _ _).trans (by rw [decide_eq_false (by lia)])))) rfl
  have hs:jW (n:Int)=true:=MK _ (by lia) (by lia);by_cases h2:cs.length=0
  ·refine ⟨(n:Int)*n*3+n,fun b=>h0 b _ _ (pre b _ _ (aK (c1 b) (vW (F_ (dW (aG (bB (aD rfl rfl) hl) rfl ((mH _ _).trans (by rw [h2];rfl)))) (tO (aG (aG (aG rfl rfl (n_ _ _ hs)) rfl (n_ _ _ rfl)) rfl (d_ _ _)) rfl)))))⟩
  ·have hp:(0:Int)<cs.length:=by lia
   obtain ⟨r,hr⟩:=MP cs ((n:Int) % cs.length) (Int.emod_nonneg _ (by lia)) (Int.emod_lt_of_pos _ hp);refine ⟨r / 2+n*n,fun b=>h0 b _ _ (pre b _ _ (aK (c1 b) (aK (ρ':=[.cel b (dk cs (n+1)),.scr (cs.map D.int),.int n]) (o5 (dW (aG (bB (aD rfl rfl) hl) rfl ((mH _ _).trans ?_))) rfl) (tO (aG (aG (aG rfl (aG rfl (bB (aD rfl rfl) hl) (bU _ _ hp)) hr) rfl (cZ _ _ (by decide) (by decide))) (aG rfl rfl (n_ _ _ hs)) (d_ _ _)) rfl))))⟩;have:((cs.length:Int)==0)=false:=by simpa using h2
   rw [this]
theorem h_ (cs:List Int) (n:Nat) (hn:n<=100000):∃r:Int,ch1 aN (dk cs n) []=.ok (.int r,dk cs (n+1)):=by
 obtain ⟨r,h⟩:=YT cs n hn;exact ⟨r,u_ h⟩
theorem qG {cs:List Int} {n:Nat} {i:Nat} {ρ:List D} {r:Int} (e:ch1 aN (dk cs n) []=.ok (.int r,dk cs (n+1))) (h2:t7 (ρ.getD i .uD)=some (dk cs n)) {ρ':List D} (he:ρ.set i (RD (ρ.getD i .uD) (dk cs (n+1)))=ρ'):b8 aN 1 i aO ρ=.ok (.int r,ρ'):=
 lD (fs:=aO) (rest:=[]) (h:=dk cs n) (h':=dk cs (n+1)) rfl h2 rfl e (lK cs (n+1)) he
end Lk47
end
section
namespace Lk47
open PySem L2 Mi
def one (c:Nat):Str:=⟨#[c]⟩
theorem vX:∀(cs:List Nat) (a:Array Nat),((cs.map one).foldl (fun acc p=>acc++("" : Str).cps++p.cps) a)=a++cs.toArray
 | [],a=>by simp
 | c::cs,a=>by
  rw [List.map_cons,List.foldl_cons,vX cs];apply Array.ext';simp [one,show (("" : Str).cps)=#[] from rfl]
theorem join_one (cs:List Nat):Txt.join ("" : Str) (cs.map one)=tx cs:=by
 unfold Txt.join Builtin.Str.glued tx;cases cs with
 | nil=>rfl
 | cons c cs=>
  rw [List.map_cons,List.drop_succ_cons,List.drop_zero,List.headD_cons,vX]
  congr 1
  apply Array.ext';simp [one]
theorem vY:∀cs:List Nat,pP (cs.map fun c=>D.str (one c))=some (cs.map one)
 | []=>rfl
 | c::cs=>by
  show (pP (cs.map fun c=>D.str (one c))).map (one c::·)=_;rw [vY cs];rfl
theorem YW (cs:List Nat) (h:cs.length<=100):joinM (.str "") [.lst (cs.map fun c=>D.str (one c))]=.ok (.str (tx cs)):=by
 show (match pP (cs.map fun c=>D.str (one c)) with|some ts=>if JoinOk "" ts then Res.ok (D.str (Txt.join "" ts)) else .bad|none=>.bad)=_;rw [vY];show (if JoinOk "" (cs.map one) then Res.ok (D.str (Txt.join "" (cs.map one))) else .bad)=_;have hok:JoinOk "" (cs.map one)=true:=by
  unfold JoinOk;rw [StrLaws.joinFits (B:=1) (fun y hy=>by obtain ⟨c,_,rfl⟩:=List.mem_map.mp hy;exact Nat.le_refl _) (by rw [List.length_map,show (("" : Str).length)=0 from rfl];lia)];rfl
 rw [if_pos hok,join_one]
theorem aFq {a b:FT} {ρ:List D} (h1:a ρ=.ok true):bOr a b ρ=.ok true:=by
 unfold bOr;rw [h1];rfl
theorem aEa {a b:FT} {ρ:List D} {r:Res Bool} (h1:a ρ=.ok false) (h2:b ρ=r):bOr a b ρ=r:=by
 unfold bOr;rw [h1];exact h2
theorem aEb {a b:FT} {ρ:List D} {x y:Bool} (h1:a ρ=.ok x) (h2:b ρ=.ok y):bOr a b ρ=.ok (x||y):=by
 cases x with
 | true=>exact aFq h1
 | false=>exact aEa h1 h2
noncomputable def nb:FS:=(bD (b_ false 11 (b2 (aR .mod) (b2 (aR .add) (b2 rF iY d9) fH) lN) true) (sIf (bTB (b2 (cO .eq) (b2 (aR .mod) cV iZ) fJ)) (rP 9 (b2 rF (b2 getD fG (b2 (aR .mod) (b2 (aR .add) fH (b2 (aR .mod) iD tZ)) lN)) (b2 (aR .add) fJ (b2 (aR .fdiv) iD tZ)))) (sIf (bTB (b2 (cO .eq) (b2 (aR .mod) cV iZ) nC)) (bD (b_ false 12 (b2 getD fG (b2 (aR .mod) (b2 (aR .add) fH (b2 (aR .mod) iD TJ)) lN)) false) (bD (b_ false 13 (b2 getD fG (b2 (aR .mod) (b2 (aR .add) fH (b2 (aR .fdiv) iD TJ)) lN)) false) (rP 9 (b2 (aR .add) (b2 (aR .add) (b2 (aR .add) (lW dX (fB) (eN j5)) iT) IK) (lW dX (eN j5) (fB)))))) (rP 9 (b2 (aR .add) (b2 (aR .add) (lW dX (fB) (eN j5)) (b2 getD fG iD)) (lW dX (eN j5) (fB)))))))
theorem jU {a:FE} {ρ:List D} {i:Int} (h:a ρ=.ok (.int i)):eN a ρ=.ok (some i):=by
 unfold eN;rw [h];rfl
theorem xX {a:FE} {lo hi:List D->Res (Option Int)} {ρ:List D} {x:Str} {l h:Option Int} (h1:a ρ=.ok (.str x)) (h2:lo ρ=.ok l) (h3:hi ρ=.ok h) (hx:x.length<=1000):lW a lo hi ρ=.ok (.str (Txt.slice x l h)):=by
 unfold lW;rw [h1,Res.aM,h2,Res.aM,h3,Res.aM];show (if decide (x.length<=lim) then Res.ok (D.str (Txt.slice x l h)) else .bad)=_;rw [if_pos (by rw [aU];exact decide_eq_true (by lia))]
theorem MT (x:Str):tx x.cps.toList=x:=rfl
theorem YX (c:Nat) (n:Nat) (h:1<=n):Txt.mul (tx [c]) (n:Int)=tx (List.replicate n c):=by
 unfold Txt.mul;rw [if_neg (by lia)];split
 ·rename_i h1;have:n=1:=by
   simp [oN] at h1;lia
  subst this;rfl
 ·have:∀(m:Nat) (a:List Nat),(List.replicate m (tx [c]).cps).foldl (·++·) a.toArray=(a++List.replicate m c).toArray:=by
   intro m;induction m with
   | zero=>intro a;simp
   | succ m ih=>
    intro a;rw [List.replicate_succ,List.foldl_cons];have:a.toArray++(tx [c]).cps=(a++[c]).toArray:=by
     apply Array.ext';simp [tx]
    rw [this,ih,List.replicate_succ];simp
  have e:=this n [];rw [Int.toNat_natCast];show (⟨_⟩:Str)=⟨_⟩
  congr 1
theorem RW (c:Nat) (n:Nat) (h:1<=n) (h2:n<=100):rF (.str (tx [c])) (.int n)=.ok (.str (tx (List.replicate n c))):=by
 show (if decide (0<=(n:Int))&&decide ((n:Int)<=100000)&&decide ((tx [c]).length*(n:Int).toNat<=lim) then Res.ok (D.str (Txt.mul (tx [c]) n)) else .bad)=_;have e3:decide ((tx [c]).length*(n:Int).toNat<=lim)=true:=by
  rw [oN,aU];simp;lia
 rw [e3,decide_eq_true (by lia),decide_eq_true (by lia),YX c n h];rfl
noncomputable abbrev ns (hD:D) (choice turn shift cell size:Int) (base:Str) (at_:Int) (NM:List D) (a b c d:D):List D:=[hD,.str abc,.int choice,.int turn,.int shift,.int cell,.int size,.str base,.int at_,.lst NM,a,b,c,d]
structure Nmf (nm:Nat->List Nat):Prop where
 inj:∀s t,s<26->t<26->nm s=nm t->s=t
 len:∀s,s<26->(nm s).length<=100
theorem M3 (x:Int):∃s:Nat,s<26/\x % 26=s:=⟨(x % 26).toNat,by lia,by lia⟩
theorem M4 {P Q A B:List Nat} (h:P++A++Q=P++B++Q):A=B:=by
 rw [List.append_assoc,List.append_assoc] at h;exact List.append_cancel_right (List.append_cancel_left h)
theorem RX {choice turn shift cell size at_:Int} {base:Str} (hb:base.length<=10) (ht:jW turn=true) (hs0:0<=shift) (hs1:shift<26) :
  ∃nm:Nat->List Nat,Nmf nm/\∀(k:Int) (s:Nat),s<26->(k*turn+shift) % 26=s->∀(NM:List D) (b c d:D),NM.length<100->∃b' c' d',∀hD,nb (ns hD choice turn shift cell size base at_ NM (.int k) b c d)=.ok (.nx (ns hD choice turn shift cell size base at_ (NM++[.str (tx (nm s))]) (.int k) b' c' d')):=by
 have sp:∀(k:Int) (s:Nat) (hD:D) (NM:List D) (b c d:D),(k*turn+shift) % 26=s->b_ false 11 (b2 (aR .mod) (b2 (aR .add) (b2 rF iY d9) fH) lN) true (ns hD choice turn shift cell size base at_ NM (.int k) b c d)=.ok (.nx (ns hD choice turn shift cell size base at_ NM (.int k) (.int s) c d)):=fun k s hD NM b c d e=>by
  rw [<-e];exact dC (aG (aG (aG (x:=.int k) (y:=.int turn) rfl rfl (n_ _ _ ht)) rfl (d_ _ _)) rfl (bU _ _ (by decide)))
 have cm:∀(ρ:List D) (j:Int),cU 2 ρ=.ok (.int choice)->bTB (b2 (cO .eq) (b2 (aR .mod) cV iZ) (bC (.int j))) ρ=.ok (choice % 3==j):=fun ρ j h=>dW (aG (aG h rfl (bU _ _ (by decide))) rfl (mH _ _))
 have lt:∀(ρ:List D) (f:FE) (i:Int) ,cU 1 ρ=.ok (.str abc)->f ρ=.ok (.int i)->0<=i->i<26->b2 getD fG f ρ=.ok (.str (tx [97+i.toNat])):=fun ρ f i h1 h2 h3 h4=>aG h1 h2 (letter i h3 h4)
 obtain ⟨P,hP,lP⟩:∃P,Txt.slice base none (some at_)=tx P/\P.length<=10:=⟨_,(MT _).symm,Nat.le_trans (Txt.slice_le ..) hb⟩
 obtain ⟨Q,hQ,lQ⟩:∃P,Txt.slice base (some at_) none=tx P/\P.length<=10:=⟨_,(MT _).symm,Nat.le_trans (Txt.slice_le ..) hb⟩
 have ap:∀(a b:List Nat),a.length<=100->b.length<=100->aR .add (.str (tx a)) (.str (tx b))=.ok (.str (tx (a++b))):=fun a b h1 h2=>by
  rw [J6 _ _ (by rw [oN,oN,aU];lia),zR]
 have slP:∀ρ:List D,cU 7 ρ=.ok (.str base)->cU 8 ρ=.ok (.int at_)->lW dX (fB) (eN j5) ρ=.ok (.str (tx P)):=fun ρ g1 g2=>by
  rw [<-hP];exact xX g1 rfl (jU g2) (by lia)
 have slQ:∀ρ:List D,cU 7 ρ=.ok (.str base)->cU 8 ρ=.ok (.int at_)->lW dX (eN j5) (fB) ρ=.ok (.str (tx Q)):=fun ρ g1 g2=>by
  rw [<-hQ];exact xX g1 (jU g2) rfl (by lia)
 by_cases h1:choice % 3=1
 ·refine ⟨fun s=>List.replicate (1+s / 4) (97+((shift+((s:Int) % 4)) % 26).toNat),⟨fun s t hs ht e=>?_,fun s hs=>by rw [List.length_replicate];lia⟩,fun k s hs hk NM b c d hN=>⟨.int s,c,d,fun hD=>?_⟩⟩
  ·have e1:=congrArg List.length e;rw [List.length_replicate,List.length_replicate] at e1;have e2:=congrArg (fun l=>l.head?) e;simp only [Nat.add_comm 1,List.replicate_succ,List.head?_cons,Option.some.injEq] at e2;lia
  ·refine aK (sp k s hD NM b c d hk) (F_ ((cm _ _ rfl).trans (by rw [h1];rfl)) ?_);refine oK (xs:=NM) (aG (lt _ _ _ rfl (aG (aG (x:=.int shift) rfl (aG (x:=.int s) rfl rfl (bU _ _ (by decide))) (d_ _ _)) rfl (bU _ _ (by decide))) (by lia) (by lia)) (aG (y:=.int ((s:Int) / 4)) (x:=.int 1) rfl (aG (x:=.int s) rfl rfl (cZ _ _ (by decide) (by decide))) (z:=.int ((1+s / 4:Nat):Int)) ?_) (RW _ _ (by lia) (by lia))) rfl (by rw [aU];lia) rfl;rw [d_]
   congr 2
 ·by_cases h2:choice % 3=2
  ·refine ⟨fun s=>P++[97+((shift+((s:Int) % 6)) % 26).toNat,97+((shift+((s:Int) / 6)) % 26).toNat]++Q,⟨fun s t hs ht e=>?_,fun s hs=>by simp only [List.length_append,List.length_cons,List.length_nil];lia⟩,fun k s hs hk NM b c d hN=>⟨.int s,.str (tx [97+((shift+((s:Int) % 6)) % 26).toNat]),.str (tx [97+((shift+((s:Int) / 6)) % 26).toNat]),fun hD=>?_⟩⟩
   ·have e1:=M4 e;simp only [List.cons.injEq,and_true] at e1;lia
   ·refine aK (sp k s hD NM b c d hk) (o5 ((cm _ _ rfl).trans (by rw [h2];rfl)) (F_ ((cm _ _ rfl).trans (by rw [h2];rfl)) ?_));refine aK (gB (lt _ _ _ rfl (aG (aG (x:=.int shift) rfl (aG (x:=.int s) rfl rfl (bU _ _ (by decide))) (d_ _ _)) rfl (bU _ _ (by decide))) (by lia) (by lia)) rfl) ?_;refine aK (gB (lt _ _ _ rfl (aG (aG (x:=.int shift) rfl (aG (x:=.int s) rfl rfl (cZ _ _ (by decide) (by decide))) (d_ _ _)) rfl (bU _ _ (by decide))) (by lia) (by lia)) rfl) ?_;refine (oK (xs:=NM) (aG (aG (aG (slP _ rfl rfl) rfl (ap _ _ (by lia) (by simp))) rfl (ap _ _ (by simp only [List.length_append,List.length_singleton];lia) (by simp))) (slQ _ rfl rfl) (ap _ _ (by simp only [List.length_append,List.length_singleton];lia) (by lia))) rfl (by rw [aU];lia) rfl).trans ?_;simp only [List.append_assoc,List.cons_append,List.nil_append];rfl
  ·refine ⟨fun s=>P++[97+s]++Q,⟨fun s t hs ht e=>?_,fun s hs=>by simp only [List.length_append,List.length_cons,List.length_nil];lia⟩,fun k s hs hk NM b c d hN=>⟨.int s,c,d,fun hD=>?_⟩⟩
   ·have e1:=M4 e;simp only [List.cons.injEq,and_true] at e1;lia
   ·refine aK (sp k s hD NM b c d hk) (o5 ((cm _ _ rfl).trans (by rw [beq_eq_false_iff_ne.mpr h1])) (o5 ((cm _ _ rfl).trans (by rw [beq_eq_false_iff_ne.mpr h2])) ?_));refine (oK (xs:=NM) (aG (aG (slP _ rfl rfl) (lt _ _ s rfl rfl (by lia) (by lia)) (ap _ _ (by lia) (by simp))) (slQ _ rfl rfl) (ap _ _ (by simp only [List.length_append,List.length_singleton];lia) (by lia))) rfl (by rw [aU];lia) rfl).trans ?_;rw [Int.toNat_natCast];rfl
theorem rK {choice turn shift cell size at_:Int} {base:Str} {nm:Nat->List Nat} (G:∀(k:Int) (s:Nat),s<26->(k*turn+shift) % 26=s->∀(NM:List D) (b c d:D),NM.length<100->∃b' c' d',∀hD,nb (ns hD choice turn shift cell size base at_ NM (.int k) b c d)=.ok (.nx (ns hD choice turn shift cell size base at_ (NM++[.str (tx (nm s))]) (.int k) b' c' d'))):∀(m j:Nat) (NM:List D) (a b c d:D),NM.length+m<100->∃a' b' c' d',∀hD,lO (tg1 10) nb ((List.range' j m).map fun (k:Nat)=>D.int (0+(k:Int))) (ns hD choice turn shift cell size base at_ NM a b c d)=.ok (.nx (ns hD choice turn shift cell size base at_ (NM++(List.range' j m).map fun (k:Nat)=>D.str (tx (nm (((k:Int)*turn+shift) % 26).toNat))) a' b' c' d'))
 | 0,j,NM,a,b,c,d,_=>⟨a,b,c,d,fun hD=>by
  rw [List.range'_zero,List.map_nil,List.map_nil,List.append_nil];rfl⟩
 | m+1,j,NM,a,b,c,d,h=>by
  obtain ⟨s,hs,es⟩:=M3 ((j:Int)*turn+shift);obtain ⟨b1,c1,d1,e1⟩:=G (0+(j:Int)) s hs (by rw [Int.zero_add];exact es) NM b c d (by lia);obtain ⟨a2,b2,c2,d2,e2⟩:=rK G m (j+1) (NM++[.str (tx (nm s))]) (.int (0+(j:Int))) b1 c1 d1 (by rw [List.length_append,List.length_singleton];lia);refine ⟨a2,b2,c2,d2,fun hD=>?_⟩;rw [List.range'_succ,List.map_cons,List.map_cons,es,Int.toNat_natCast];refine bT (ρ1:=ns hD choice turn shift cell size base at_ NM (.int (0+(j:Int))) b c d) rfl (e1 hD) ?_;rw [e2 hD,List.append_assoc];rfl
theorem YZ (i:Int) (h0:0<=i) (h1:i<6):∃t:Int,getD (.lst [.int 1,.int 3,.int 5,.int 7,.int 9,.int 25]) (.int i)=.ok (.int t)/\(t=1\/t=3\/t=5\/t=7\/t=9\/t=25):=by
 have:i=0\/i=1\/i=2\/i=3\/i=4\/i=5:=by lia
 rcases this with h|h|h|h|h|h <;> subst h
 ·exact ⟨1,rfl,by decide⟩
 ·exact ⟨3,rfl,by decide⟩
 ·exact ⟨5,rfl,by decide⟩
 ·exact ⟨7,rfl,by decide⟩
 ·exact ⟨9,rfl,by decide⟩
 ·exact ⟨25,rfl,by decide⟩
theorem RZ {t s:Int} (ht:t=1\/t=3\/t=5\/t=7\/t=9\/t=25) {j k:Nat} (hj:j<26) (hk:k<26) (h:((j:Int)*t+s) % 26=((k:Int)*t+s) % 26):j=k:=by
 rcases ht with e|e|e|e|e|e <;> subst e <;> lia
end Lk47
end
section
namespace Lk47
open PySem L2 Mi
theorem qH (n:Nat):∀N:List Str,D.cA n (N.map D.str)=true
 | []=>by rw [List.map_nil,D.cA]
 | x::N=>by
  rw [List.map_cons,D.cA,qH n N];rw [D.bN] <;> simp
theorem o6 (x:Str):(D.str x).bN a_=true:=by
 unfold a_;rw [D.bN] <;> simp
theorem jF:∀N:List Str,D.aV (N.map D.str)=true
 | []=>rfl
 | x::N=>by
  rw [List.map_cons,D.aV,jF N];rfl
theorem xY (x:Str):∀N:List Str,(N.map D.str).any (fun y=>eqD y (.str x))=decide (x∈N)
 | []=>rfl
 | y::N=>by
  rw [List.map_cons,List.any_cons,xY x N];show ((y==x)||_)=_;by_cases h:y=x
  ·simp [h]
  ·have h2:¬x=y:=fun e=>h e.symm
   simp [h,h2]
theorem in_str (x:Str) (N:List Str):cO .isin (.str x) (.lst (N.map D.str))=.ok (.bl (decide (x∈N))):=by
 show (if (D.str x).bN a_&&D.cA a_ (N.map D.str) then Res.ok (D.bl ((N.map D.str).any fun y=>eqD y (.str x))) else .bad)=_;rw [o6,qH,xY];rfl
theorem lL {a:FE} {ρ:List D} {xs:List D} {fr:Bool} (h:a ρ=.ok (.lst xs)):cC a fr ρ=.ok (xs,fr):=by
 unfold cC;rw [h,Res.aM];show Res.ok (xs,fr||false)=_;rw [Bool.or_false]
theorem cQ {a:FE} {ρ:List D} {xs:List D} {fr:Bool} (h:a ρ=.ok (.tup xs)):cC a fr ρ=.ok (xs,fr||D.aV xs):=by
 unfold cC;rw [h,Res.aM];show Res.ok (xs,fr||(D.tup xs).pure)=_;rw [D.pure]
theorem fL {α:Type} {n:Nat} {it:FI} {f:FE} {k kk:Bool} {ρ:List D} (d y:α->D) (xs:List α) (hρ:ρ.length=n) (h1:it ρ=.ok (xs.map d,kk)) (h2:xs.length<=100000) (h3:∀a∈xs,f (ρ++[d a])=.ok (y a)/\(k||(y a).pure)=true):dG n it oY fX f k ρ=.ok (.lst (xs.map y)):=by
 refine sS h1 (by rw [List.length_map,aU];lia) ?_;have:∀(xs:List α) (acc:List D),(∀a∈xs,f (ρ++[d a])=.ok (y a)/\(k||(y a).pure)=true)->jK (nG n oY fX f k ρ) acc (xs.map d)=.ok (acc++xs.map y):=by
  intro xs;induction xs with
  | nil=>intro acc _;simp [jK]
  | cons x xs ih=>
   intro acc h;rw [List.map_cons,jK,uZ hρ (b:=true) rfl fun _=>h x (List.mem_cons_self ..)];show jK _ (acc++[y x]) _=_;rw [ih _ fun a ha=>h a (List.mem_cons_of_mem _ ha),List.append_assoc];rfl
 exact (this xs [] h3).trans (by rw [List.nil_append])
theorem Y0 {α:Type} {n:Nat} {it:FI} {c:FT} {f:FE} {k kk:Bool} {ρ:List D} (d y:α->D) (p:α->Bool) (xs:List α) (hρ:ρ.length=n) (h1:it ρ=.ok (xs.map d,kk)) (h2:xs.length<=100000) (hc:∀a∈xs,c (ρ++[d a])=.ok (p a)) (h3:∀a∈xs,p a=true->f (ρ++[d a])=.ok (y a)/\(k||(y a).pure)=true):dG n it oY c f k ρ=.ok (.lst ((xs.filter p).map y)):=by
 refine sS h1 (by rw [List.length_map,aU];lia) ?_;have:∀(xs:List α) (acc:List D),(∀a∈xs,c (ρ++[d a])=.ok (p a))->(∀a∈xs,p a=true->f (ρ++[d a])=.ok (y a)/\(k||(y a).pure)=true)->jK (nG n oY c f k ρ) acc (xs.map d)=.ok (acc++(xs.filter p).map y):=by
  intro xs;induction xs with
  | nil=>intro acc _ _;simp [jK]
  | cons x xs ih=>
   intro acc hc h;rw [List.map_cons,jK,uZ hρ (hc x (List.mem_cons_self ..)) fun e=>h x (List.mem_cons_self ..) e];show jK _ _ _=_;rw [ih _ (fun a ha=>hc a (List.mem_cons_of_mem _ ha)) fun a ha=>h a (List.mem_cons_of_mem _ ha)];by_cases hp:p x
   ·simp [hp]
   ·simp [hp]
 exact (this xs [] hc h3).trans (by rw [List.nil_append])
theorem aEc {f:D->List D->Res D} {o:FE} {a:FA} {ρ:List D} {x:D} {xs:List D} {r:Res D} (h1:o ρ=.ok x) (h2:a ρ=.ok xs) (h3:f x xs=r):bM f o a ρ=r:=by
 unfold bM;rw [h1,Res.aM,h2,Res.aM,h3]
theorem aEd (a b:List Nat) (h:tx a++("e" : Str)=tx b++("e" : Str)):a=b:=by
 have e:("e" : Str)=tx [101]:=rfl;rw [e,zR,zR] at h;exact List.append_cancel_right (zT h)
theorem aCc (x:Str):¬x++("e" : Str) = "copy"/\¬x++("e" : Str) = "drop":=by
 have e:("e" : Str)=tx [101]:=rfl;have c:("copy" : Str)=tx ([99,111,112]++[121]):=rfl;have d:("drop" : Str)=tx ([100,114,111]++[112]):=rfl;rw [<-MT x,e,zR,c,d];refine ⟨fun h=>?_,fun h=>?_⟩
 ·have:=(List.append_inj_right' (zT h) rfl)
  cases this
 ·have:=(List.append_inj_right' (zT h) rfl)
  cases this
theorem R0 (cs:List Int) (n:Nat) (hn:n+3<=100000):∃N:List Str,N.length=26/\N.Nodup/\(¬("copy" : Str)∈N/\¬("drop" : Str)∈N)/\∀b,dH [.cel b (dk cs n)]=.ok (.tup [.lst (N.map D.str),.cel b (dk cs (n+3))]):=by
 obtain ⟨choice,q1⟩:=h_ cs n (by lia);obtain ⟨cell,q2⟩:=h_ cs (n+1) (by lia);obtain ⟨raw,q3⟩:=h_ cs (n+2) (by lia);obtain ⟨turn,t1,t2⟩:=YZ (choice / 3 % 6) (by lia) (by lia)
 let shift:=choice / 18 % 26
 have hs0:0<=shift:=by show 0<=choice / 18 % 26;lia
 have hs1:shift<26:=by show choice / 18 % 26<26;lia
 let size:=cell % 8
 have hz0:0<=size:=by show 0<=cell % 8;lia
 have hz1:size<8:=by show cell % 8<8;lia
 let bcs:List Nat:=(List.range size.toNat).map fun (k:Nat)=>97+((cell / 8+(0+(k:Int))*(shift+cell / 40 % 5)) % 26).toNat
 have hbl:bcs.length<=10:=by show (List.map _ _).length<=10;rw [List.length_map,List.length_range];lia
 let at_:=raw % (size+1)
 let base:Str:=if choice % 3=2 then Txt.slice (tx bcs) none (some 6) else tx bcs
 have hbase:base.length<=10:=by
  show (if choice % 3=2 then Txt.slice (tx bcs) none (some 6) else tx bcs).length<=10;split
  ·exact Nat.le_trans (Txt.slice_le ..) (by rw [oN];exact hbl)
  ·rw [oN];exact hbl
 have hts:jW turn=true:=sU _ (by lia) (by lia);obtain ⟨nm,M,G⟩:=RX (choice:=choice) (turn:=turn) (shift:=shift) (cell:=cell) (size:=size) (at_:=at_) hbase hts hs0 hs1;obtain ⟨a',b',c',d',L⟩:=rK G 26 0 [] .uD .uD .uD .uD (by decide)
 let sp:Nat->Nat:=fun k=>(((k:Int)*turn+shift) % 26).toNat
 have spl:∀k,sp k<26:=fun k=>by show (((k:Int)*turn+shift) % 26).toNat<26;lia
 have spi:∀j k,j<26->k<26->sp j=sp k->j=k:=fun j k hj hk e=>RZ (s:=shift) t2 hj hk (by
  have e':(((j:Int)*turn+shift) % 26).toNat=(((k:Int)*turn+shift) % 26).toNat:=e;lia)
 have nod:∀g:List Nat->Str,(∀a b,g a=g b->a=b)->((List.range' 0 26).map fun k=>g (nm (sp k))).Nodup:=fun g hg=>by
  rw [List.nodup_iff_pairwise_ne,List.pairwise_map];refine List.Pairwise.imp_of_mem ?_ (List.nodup_iff_pairwise_ne.mp (List.nodup_range' (s:=0) (n:=26) (step:=1) (by decide)));intro j k hj hk hne e;rw [List.mem_range'_1] at hj hk;exact hne (spi j k (by lia) (by lia) (M.inj _ _ (spl j) (spl k) (hg _ _ e)))
 have pre:∀(b:Nat) (R:Res Fl) (g:FS),g (ns (.cel b (dk cs (n+3))) choice turn shift cell size base at_ (((List.range' 0 26).map fun k=>tx (nm (sp k))).map D.str) a' b' c' d')=R->(bD (b_ false 1 (bC (.str "abcdefghijklmnopqrstuvwxyz")) true) (bD (fC false 2 (b8 aN 1 0 aO)) (bD (b_ false 3 (b2 getD (j6 (aB fJ (aB iZ (aB TF (aB ZV (aB ZR (aB (bC (.int 25)) aO))))))) (b2 (aR .mod) (b2 (aR .fdiv) cV iZ) TJ)) false) (bD (b_ false 4 (b2 (aR .mod) (b2 (aR .fdiv) cV (bC (.int 18))) lN) true) (bD (fC false 5 (b8 aN 1 0 aO)) (bD (b_ false 6 (b2 (aR .mod) iU aAj) true) (bD (b_ false 7 (bM joinM (bC (.str "")) (aB (dG 14 (gW (aB fW aO) gF) oY (fX) (b2 getD fG (b2 (aR .mod) (b2 (aR .add) (b2 (aR .fdiv) iU aAj) (b2 rF wN (b2 (aR .add) fH (b2 (aR .mod) (b2 (aR .fdiv) iU IV) TF)))) lN)) false) aO)) true) (bD (fC false 8 (x2L (aR .mod) (b8 aN 1 0 aO) (b2 (aR .add) fW fJ))) (bD (sIf (bTB (b2 (cO .eq) (b2 (aR .mod) cV iZ) nC)) (b_ false 7 (lW dX (fB) (eN TJ)) true) (jL)) (bD (b_ true 9 (j6 aO) true) (bD (t6 (gW (aB lN aO) gF) (tg1 10) nb) g))))))))))) [.cel b (dk cs n),.uD,.uD,.uD,.uD,.uD,.uD,.uD,.uD,.uD,.uD,.uD,.uD,.uD]=R:=fun b R g hg=>by
  refine aK (ρ':=[.cel b (dk cs n),.str abc,.uD,.uD,.uD,.uD,.uD,.uD,.uD,.uD,.uD,.uD,.uD,.uD]) (dC (i:=1) rfl) ?_;refine aK (ρ':=[.cel b (dk cs (n+1)),.str abc,.int choice,.uD,.uD,.uD,.uD,.uD,.uD,.uD,.uD,.uD,.uD,.uD]) (gD (i:=2) (qG q1 rfl rfl) rfl) ?_;refine aK (ρ':=[.cel b (dk cs (n+1)),.str abc,.int choice,.int turn,.uD,.uD,.uD,.uD,.uD,.uD,.uD,.uD,.uD,.uD]) (gB (i:=3) (aG rfl (aG (aG rfl rfl (cZ _ _ (by decide) (by decide))) rfl (bU _ _ (by decide))) t1) rfl) ?_;refine aK (ρ':=[.cel b (dk cs (n+1)),.str abc,.int choice,.int turn,.int shift,.uD,.uD,.uD,.uD,.uD,.uD,.uD,.uD,.uD]) (dC (i:=4) (aG (aG rfl rfl (cZ _ _ (by decide) (by decide))) rfl (bU _ _ (by decide)))) ?_;refine aK (ρ':=[.cel b (dk cs (n+2)),.str abc,.int choice,.int turn,.int shift,.int cell,.uD,.uD,.uD,.uD,.uD,.uD,.uD,.uD]) (gD (i:=5) (qG q2 rfl rfl) rfl) ?_;refine aK (ρ':=[.cel b (dk cs (n+2)),.str abc,.int choice,.int turn,.int shift,.int cell,.int size,.uD,.uD,.uD,.uD,.uD,.uD,.uD]) (dC (i:=6) (aG rfl rfl (bU _ _ (by decide)))) ?_;refine aK (ρ':=[.cel b (dk cs (n+2)),.str abc,.int choice,.int turn,.int shift,.int cell,.int size,.str (tx bcs),.uD,.uD,.uD,.uD,.uD,.uD]) (dC (i:=7) ?_) ?_
  ·have hc:=fL (n:=14) (it:=gW (aB fW aO) gF) (f:=b2 getD fG (b2 (aR .mod) (b2 (aR .add) (b2 (aR .fdiv) iU aAj) (b2 rF wN (b2 (aR .add) fH (b2 (aR .mod) (b2 (aR .fdiv) iU IV) TF)))) lN)) (k:=false) (ρ:=[.cel b (dk cs (n+2)),.str abc,.int choice,.int turn,.int shift,.int cell,.int size,.uD,.uD,.uD,.uD,.uD,.uD,.uD]) (fun k:Nat=>D.int (0+(k:Int))) (fun k:Nat=>.str (one (97+((cell / 8+(0+(k:Int))*(shift+cell / 40 % 5)) % 26).toNat))) (List.range size.toNat) rfl (oJ (n:=size) (aD rfl rfl) (by lia) (by lia)) (by rw [List.length_range];lia) (fun k _=>⟨aG (x:=.str abc) rfl (aG (aG (aG (x:=.int cell) rfl rfl (cZ _ _ (by decide) (by decide))) (aG (x:=.int (0+(k:Int))) rfl (aG (x:=.int shift) rfl (aG (aG (x:=.int cell) rfl rfl (cZ _ _ (by decide) (by decide))) rfl (bU _ _ (by decide))) (d_ _ _)) (n_ _ _ (sU _ (by lia) (by lia)))) (d_ _ _)) rfl (bU _ _ (by decide))) (letter _ (by lia) (by lia)),rfl⟩);have hj:=YW bcs (by lia);rw [List.map_map] at hj;exact aEc rfl (aD hc rfl) hj
  refine aK (ρ':=[.cel b (dk cs (n+3)),.str abc,.int choice,.int turn,.int shift,.int cell,.int size,.str (tx bcs),.int at_,.uD,.uD,.uD,.uD,.uD]) (gD (i:=8) (MJ (qG q3 rfl rfl) rfl (aG (x:=.int size) rfl rfl (d_ _ _)) (bU _ _ (by lia)) rfl) rfl) ?_;refine aK (ρ':=[.cel b (dk cs (n+3)),.str abc,.int choice,.int turn,.int shift,.int cell,.int size,.str base,.int at_,.uD,.uD,.uD,.uD,.uD]) ?_ ?_
  ·by_cases h2:choice % 3=2
   ·have eb:base=Txt.slice (tx bcs) none (some 6):=if_pos h2;rw [eb];exact F_ (dW (aG (aG rfl rfl (bU _ _ (by decide))) rfl ((mH _ _).trans (by rw [h2];rfl)))) (dC (i:=7) (xX (x:=tx bcs) rfl rfl (jU rfl) (by rw [oN];lia)))
   ·have eb:base=tx bcs:=if_neg h2;rw [eb];exact o5 (dW (aG (aG rfl rfl (bU _ _ (by decide))) rfl ((mH _ _).trans (by rw [beq_eq_false_iff_ne.mpr h2])))) rfl
  refine aK (ρ':=ns (.cel b (dk cs (n+3))) choice turn shift cell size base at_ [] .uD .uD .uD .uD) (d8 (i:=9) rfl rfl) ?_;refine aK (kZ (oJ (n:=26) (aD rfl rfl) (by decide) (by decide)) ?_) hg;have e:=L (.cel b (dk cs (n+3)));rw [List.nil_append] at e;rw [List.map_map];exact e
 generalize hN0:((List.range' 0 26).map fun k=>tx (nm (sp k)))=N0 at pre;have l0:N0.length=26:=by rw [<-hN0,List.length_map];rfl
 have n0:N0.Nodup:=hN0▸nod tx fun _ _ e=>zT e
 have tl:∀x∈N0,x.length<=100:=fun x hx=>by
  rw [<-hN0,List.mem_map] at hx;obtain ⟨k,_,rfl⟩:=hx;rw [oN];exact M.len _ (spl k)
 have cond:∀(hD:D),(bOr (bTB (b2 inX (bC (.str "copy")) oR)) (bTB (b2 inX (bC (.str "drop")) oR))) (ns hD choice turn shift cell size base at_ (N0.map D.str) a' b' c' d')=.ok (decide (("copy" : Str)∈N0)||decide (("drop" : Str)∈N0)):=fun hD=>aEb (dW (aG rfl rfl (in_str _ _))) (dW (aG rfl rfl (in_str _ _)))
 have fin:∀(b:Nat) (N:List Str),(rC 9) (ns (.cel b (dk cs (n+3))) choice turn shift cell size base at_ (N.map D.str) a' b' c' d')=.ok (.rt (.tup (.lst (N.map D.str)::ns (.cel b (dk cs (n+3))) choice turn shift cell size base at_ (N.map D.str) a' b' c' d'))):=fun b N=>zQ rfl rfl
 by_cases hc:(decide (("copy" : Str)∈N0)||decide (("drop" : Str)∈N0))=true
 ·refine ⟨N0.map fun x=>x++("e" : Str),by rw [List.length_map,l0],?_,⟨fun h=>?_,fun h=>?_⟩,fun b=>?_⟩
  ·rw [<-hN0,List.map_map];exact nod (fun a=>tx a++("e" : Str)) aEd
  ·obtain ⟨x,_,e⟩:=List.mem_map.mp h;exact (aCc x).1 e
  ·obtain ⟨x,_,e⟩:=List.mem_map.mp h;exact (aCc x).2 e
  ·refine rJ (k:=1) (ρ:=ns (.cel b (dk cs (n+3))) choice turn shift cell size base at_ ((N0.map fun x=>x++("e" : Str)).map D.str) a' b' c' d') (pre b _ _ (aK (F_ ((cond _).trans (by rw [hc])) (d8 (i:=9) (d:=.lst ((N0.map fun x=>x++("e" : Str)).map D.str)) ?_ (jF _))) (fin b _)));rw [List.map_map];exact fL (n:=14) D.str (fun x=>D.str (x++("e" : Str))) N0 rfl (lL rfl) (by lia) (fun x hx=>⟨aG rfl rfl (J6 _ _ (by have:=tl x hx;rw [aU];show x.length+1<=_;lia)),rfl⟩)
 ·refine ⟨N0,l0,n0,⟨fun h=>hc (by rw [decide_eq_true h];rfl),fun h=>hc (by rw [decide_eq_true h,Bool.or_true])⟩,fun b=>?_⟩;exact rJ (k:=1) (ρ:=ns (.cel b (dk cs (n+3))) choice turn shift cell size base at_ (N0.map D.str) a' b' c' d') (pre b _ _ (aK (o5 ((cond _).trans (by rw [Bool.eq_false_iff.mpr hc])) rfl) (fin b _)))
theorem R1 (cs:List Int) (n:Nat) (hn:n+3<=100000):∃N:List Str,N.length=26/\N.Nodup/\(¬("copy" : Str)∈N/\¬("drop" : Str)∈N)/\ch1 dH (dk cs n) []=.ok (.lst (N.map D.str),dk cs (n+3)):=by
 obtain ⟨N,h1,h2,h4,h3⟩:=R0 cs n hn;exact ⟨N,h1,h2,h4,u_ h3⟩
end Lk47
end
section
namespace Lk47
open PySem L2 Mi
theorem M5 (n d a:Nat):FW n d (some (a:Int))=min a n:=by
 show (if (a:Int)<0 then (max ((a:Int)+(n:Int)) 0).toNat else (min (a:Int) (n:Int)).toNat)=_;rw [if_neg (by lia)];lia
theorem zU (n d:Nat):FW n d none=d:=rfl
theorem M6 {α:Type} (xs:List α) (a:Nat):cutD xs none (some (a:Int))=xs.take a:=by
 unfold cutD;rw [M5,zU,List.drop_zero,Nat.sub_zero];by_cases h:a<=xs.length
 ·rw [Nat.min_eq_left h]
 ·rw [Nat.min_eq_right (by lia),List.take_of_length_le (Nat.le_refl _),List.take_of_length_le (by lia)]
theorem tQ {α:Type} (xs:List α) (a:Nat):cutD xs (some (a:Int)) none=xs.drop a:=by
 unfold cutD;rw [M5,zU];by_cases h:a<=xs.length
 ·rw [Nat.min_eq_left h,List.take_of_length_le (by rw [List.length_drop];exact Nat.le_refl _)]
 ·rw [Nat.min_eq_right (by lia),List.drop_eq_nil_of_le (Nat.le_refl _),List.drop_eq_nil_of_le (by lia),List.take_nil]
def sy (N:List Str) (i:Nat):D:=.str (N.getD i "")
theorem aCd (N:List Str) (h:N.length=26):N.map D.str=(List.range 26).map (sy N):=by
 apply List.ext_getElem
 ·simp [h]
 ·intro i h1 h2;rw [List.getElem_map,List.getElem_map,List.getElem_range];have h1':i<N.length:=by rw [List.length_map] at h1;exact h1
  show D.str (N[i]'h1')=D.str (N.getD i "");rw [List.getD_eq_getElem?_getD,List.getElem?_eq_getElem h1'];rfl
theorem vZ {N:List Str} (h:N.length=26) (hN:N.Nodup) {i j:Nat} (hi:i<26) (hj:j<26):eqD (sy N i) (sy N j)=decide (i=j):=by
 show ((N.getD i "")==(N.getD j ""))=_;have hi':i<N.length:=by lia
 have hj':j<N.length:=by lia
 rw [List.getD_eq_getElem?_getD,List.getD_eq_getElem?_getD,List.getElem?_eq_getElem hi',List.getElem?_eq_getElem hj'];show (N[i]==N[j])=_;by_cases e:i=j
 ·subst e;simp
 ·have:¬N[i]=N[j]:=fun g=>e ((List.getElem_inj hN).mp g)
  simp [e,this]
theorem cN (N:List Str):∀l:List Nat,D.aV (l.map (sy N))=true
 | []=>rfl
 | i::l=>by
  rw [List.map_cons,D.aV,cN N l];rfl
theorem nA (N:List Str) (n:Nat):∀l:List Nat,D.cA n (l.map (sy N))=true
 | []=>by rw [List.map_nil,D.cA]
 | x::l=>by
  rw [List.map_cons,D.cA,nA N n l];unfold sy;rw [D.bN] <;> simp
theorem oA (N:List Str) (i:Nat):(sy N i).bN a_=true:=o6 _
theorem M7 {N:List Str} (h:N.length=26) (hN:N.Nodup) {i:Nat} (hi:i<26):∀l:List Nat,(∀j∈l,j<26)->(l.map (sy N)).any (fun y=>eqD y (sy N i))=decide (i∈l)
 | [],_=>rfl
 | j::l,hl=>by
  rw [List.map_cons,List.any_cons,M7 h hN hi l fun k hk=>hl k (List.mem_cons_of_mem _ hk),vZ h hN (hl j (List.mem_cons_self ..)) hi];by_cases e:j=i
  ·simp [e]
  ·have e2:¬i=j:=fun g=>e g.symm
   simp [e,e2]
theorem tR {α:Type} {f:α->D} {l:List α} {i:Nat} {a:α} {x:Int} (hx:x=i) (h:l[i]?=some a):getD (.lst (l.map f)) (.int x)=.ok (f a):=by
 subst hx;obtain ⟨hi,e⟩:=List.getElem?_eq_some_iff.mp h;show Res.ofOpt ((ixD (l.map f).length (i:Int)).bind fun j=>(l.map f)[j]?)=_;unfold ixD;rw [if_pos (by lia),List.length_map,if_pos (by lia)];simp [h]
theorem zV {α:Type} {f:α->D} {l:List α} {i:Nat} {a:α} {x:Int} (hx:x=i) (h:l[i]?=some a):getD (.tup (l.map f)) (.int x)=.ok (f a):=tR hx h
theorem dR {f:Nat->D} {n i:Nat} {x:Int} (hx:x=i) (hi:i<n):getD (.lst ((List.range n).map f)) (.int x)=.ok (f i):=tR hx (by rw [List.getElem?_range hi])
abbrev Rw:=Nat×Nat×List Nat
abbrev Tk:=Nat×Nat×Nat×List Nat
noncomputable def rwD (N:List Str) (r:Rw):D:=.tup [sy N r.1,sy N r.2.1,.tup (r.2.2.map (sy N))]
noncomputable def tkD (N:List Str) (r:Tk):D:=.tup [sy N r.1,sy N r.2.1,sy N r.2.2.1,.tup (r.2.2.2.map (sy N))]
theorem cG (N:List Str) (r:Rw):(rwD N r).pure=true:=by
 show ((sy N r.1).pure&&((sy N r.2.1).pure&&((D.tup (r.2.2.map (sy N))).pure&&true)))=true;rw [D.pure,cN];rfl
theorem iB (N:List Str) (r:Tk):(tkD N r).pure=true:=by
 show ((sy N r.1).pure&&((sy N r.2.1).pure&&((sy N r.2.2.1).pure&&((D.tup (r.2.2.2.map (sy N))).pure&&true))))=true;rw [D.pure,cN];rfl
theorem aX {α:Type} {f:α->D} (h:∀a,(f a).pure=true):∀l:List α,D.aV (l.map f)=true
 | []=>rfl
 | x::l=>by
  rw [List.map_cons,D.aV,h,aX h l];rfl
theorem qI {a:FE} {lo hi:List D->Res (Option Int)} {ρ xs:List D} {l h:Option Int} (h1:a ρ=.ok (.lst xs)) (h2:lo ρ=.ok l) (h3:hi ρ=.ok h) (hx:D.aV xs=true):lW a lo hi ρ=.ok (.lst (cutD xs l h)):=by
 unfold lW;rw [h1,Res.aM,h2,Res.aM,h3,Res.aM];show (if D.aV xs then Res.ok (D.lst (cutD xs l h)) else .bad)=_;rw [if_pos hx]
theorem M8 {g:D->Res D} {f:FE} {ρ:List D} {x y:D} (h:f ρ=.ok x) (h2:g x=.ok y):b1 g f ρ=.ok y:=by
 unfold b1;rw [h];exact h2
theorem R3 (a b c d:Str) (i:Int) (h0:0<=i) (h1:i<4):∃x,getD (.lst [.str a,.str b,.str c,.str d]) (.int i)=.ok (.str x)/\(x=a\/x=b\/x=c\/x=d):=by
 have:i=0\/i=1\/i=2\/i=3:=by lia
 rcases this with h|h|h|h <;> subst h
 ·exact ⟨a,rfl,by simp⟩
 ·exact ⟨b,rfl,by simp⟩
 ·exact ⟨c,rfl,by simp⟩
 ·exact ⟨d,rfl,by simp⟩
theorem M9 (x:Str) (N:List Str):cO .notin (.str x) (.lst (N.map D.str))=.ok (.bl (!decide (x∈N))):=by
 show (if (D.str x).bN a_&&D.cA a_ (N.map D.str) then Res.ok (D.bl (!(N.map D.str).any fun y=>eqD y (.str x))) else .bad)=_;rw [o6,qH,xY];rfl
theorem M_ {N:List Str} (h:N.Nodup) {i:Nat} {x:Str} (hx:¬x∈N):(N.set i x).Nodup:=by
 rw [List.nodup_iff_pairwise_ne,List.pairwise_iff_getElem] at h ⊢;intro a b ha hb hab;rw [List.length_set] at ha hb;have h1:=h a b ha hb hab;rw [List.getElem_set,List.getElem_set];split
 ·split
  ·lia
  ·exact fun e=>hx (e▸List.getElem_mem hb)
 ·split
  ·exact fun e=>hx (e▸List.getElem_mem ha)
  ·exact h1
structure Nms (N:List Str):Prop where
 len:N.length=26
 nd:N.Nodup
 nc:¬("copy" : Str)∈N
 nr:¬("drop" : Str)∈N
theorem NB {N:List Str} (H:Nms N) (c:Int):∃N',Nms N'/\chR dD 3 (N.map D.str) [.int c]=.ok (N'.map D.str):=by
 obtain ⟨x,g1,g2⟩:=R3 "kind" "maker" "taker" "rule" (c / 4 % 4) (by lia) (by lia);have s0:∀b:Nat,b_ false 2 (b2 getD (j6 (aB (bC (.str "kind")) (aB (bC (.str "maker")) (aB (bC (.str "taker")) (aB (bC (.str "rule")) aO))))) (b2 (aR .mod) (b2 (aR .fdiv) fG tZ) tZ)) false [.cel b (N.map D.str),.int c,.uD]=.ok (.nx [.cel b (N.map D.str),.int c,.str x]):=fun b=>gB (i:=2) (aG rfl (aG (aG rfl rfl (cZ _ _ (by decide) (by decide))) rfl (bU _ _ (by decide))) g1) rfl
 have ci:∀b:Nat,bTB (b2 (cO .notin) cV (bLs 0)) [.cel b (N.map D.str),.int c,.str x]=.ok (!decide (x∈N)):=fun b=>dW (aG rfl rfl (M9 x N))
 have c1:∀b:Nat,bTB (b2 (cO .eq) (b2 (aR .mod) fG tZ) fJ) [.cel b (N.map D.str),.int c,.str x]=.ok (c % 4==1):=fun b=>dW (aG (aG rfl rfl (bU _ _ (by decide))) rfl (mH _ _))
 by_cases h1:c % 4=1
 ·by_cases h2:x∈N
  ·refine ⟨N,H,K9 (jF N) fun b=>⟨_,aK (s0 b) (o5 (XJ ((c1 b).trans (by rw [h1];rfl)) ((ci b).trans (by rw [decide_eq_true h2];rfl))) rfl),rfl⟩⟩
  ·let i:Nat:=(3+c / 16 % 15).toNat
   have hi:(i:Int)=3+c / 16 % 15:=by show (((3+c / 16 % 15).toNat:Nat):Int)=_;lia
   have hx:x ≠ "copy"/\x ≠ "drop":=by
    rcases g2 with e|e|e|e <;> subst e <;> decide +kernel
   have mem:∀y,y∈N.set i x->y∈N\/y=x:=fun y hy=>List.mem_or_eq_of_mem_set hy
   refine ⟨N.set i x,⟨by rw [List.length_set];exact H.len,M_ H.nd h2,fun h=>?_,fun h=>?_⟩,K9 (jF _) fun b=>⟨_,aK (s0 b) (F_ (XJ ((c1 b).trans (by rw [h1];rfl)) ((ci b).trans (by rw [decide_eq_false h2];rfl))) (L_ (i:=0) (xs:=N.map D.str) (k:=3+c / 16 % 15) (j:=i) (d:=.str x) rfl (aG rfl (aG (aG rfl rfl (cZ _ _ (by decide) (by decide))) rfl (bU _ _ (by decide))) (d_ _ _)) rfl rfl ?_ rfl)),?_⟩⟩
   ·rcases mem _ h with e|e
    ·exact H.nc e
    ·exact hx.1 e.symm
   ·rcases mem _ h with e|e
    ·exact H.nr e
    ·exact hx.2 e.symm
   ·unfold ixD;rw [if_pos (by lia),if_pos (by rw [List.length_map,H.len];lia)]
   ·rw [<-List.map_set];rfl
 ·refine ⟨N,H,K9 (jF N) fun b=>⟨_,aK (s0 b) (o5 (aBb ((c1 b).trans (by rw [beq_eq_false_iff_ne.mpr h1]))) rfl),rfl⟩⟩
end Lk47
end
section
namespace Lk47
open PySem L2 Mi
noncomputable def mkb:FS:=(bD (fC false 7 (b8 aN 1 0 aO)) (bD (b_ false 8 (dG 12 (gW (aB (b2 (aR .mod) (b2 (aR .fdiv) dX iZ) tZ) aO) gF) oY (fX) (b2 getD fH (b2 (aR .mod) (b2 (aR .fdiv) dX (b2 getD (j6 (aB QL (aB (bC (.int 36)) (aB (bC (.int 108)) aO)))) iT)) d9)) false) true) (rP 5 (cL (aB (b2 getD fG (b2 (aR .add) (b2 (aR .add) iZ d9) fW)) (aB (b2 getD fH (b2 (aR .mod) dX d9)) (aB (bA dF (aB j5 aO)) aO)))))))
noncomputable def tkb:FS:=(bD (fC false 7 (b8 aN 1 0 aO)) (bD (b_ false 11 (dG 12 (gW (aB (b2 (aR .mod) (b2 (aR .fdiv) dX ZR) iZ) aO) gF) oY (fX) (b2 getD fH (b2 (aR .mod) (b2 (aR .fdiv) dX (b2 getD (j6 (aB (bC (.int 27)) (aB (bC (.int 81)) aO))) iT)) d9)) false) true) (rP 10 (cL (aB (b2 getD fG (b2 (aR .add) WP fW)) (aB (b2 getD fH (b2 (aR .mod) dX d9)) (aB (b2 getD fH (b2 (aR .mod) (b2 (aR .fdiv) dX iZ) d9)) (aB (bA dF (aB iD aO)) aO))))))))
def sg0:FS:=(fC false 2 (b8 aN 1 0 aO))
def sg1:FS:=(b_ false 3 (b2 (aR .add) fJ (b2 (aR .mod) cV iZ)) true)
def sg2:FS:=(b_ true 4 (lW fG (fB) (eN d9)) true)
noncomputable def sg3:FS:=(b_ true 5 (dG 12 (gW (aB d9 aO) gF) oY (fX) (cL (aB (b2 getD fG (b2 (aR .add) iZ iT)) (aB (b2 getD fH iT) (aB (cL aO) aO)))) false) true)
noncomputable def sg4:FS:=(t6 (gW (aB (b2 (aR .mod) (b2 (aR .fdiv) cV iZ) tZ) aO) gF) (tg1 6) mkb)
noncomputable def sg5:FS:=(b_ false 9 (b2 (aR .mod) (b2 (aR .fdiv) cV QL) (bA jY (aB iU aO))) true)
def sg6:FS:=(b_ true 10 (j6 aO) true)
noncomputable def sg7:FS:=(KQ (aBs (x2L (aR .mod) (b8 aN 1 0 aO) tZ)) (tg1 6) tkb)
noncomputable def sg8:FS:=(vB (aB (bOw 4) (aB (b2 (aR .add) (lW iU (eN oR) (fB)) (lW iU (fB) (eN oR))) (aB (bOw 10) aO))))
theorem Y4:nY=(bD sg0 (bD sg1 (bD sg2 (bD sg3 (bD sg4 (bD sg5 (bD sg6 (bD sg7 sg8)))))))):=rfl
noncomputable abbrev ss (hD:D) (N:List Str) (cell:Int) (m:Nat) (M:List Rw) (a b c d e f:D):List D:=[hD,.lst ((List.range 26).map (sy N)),.int cell,.int m,.lst ((List.range m).map (sy N)),.lst (M.map (rwD N)),a,b,c,d,e,f]
def mk0 (m:Nat):List Rw:=(List.range m).map fun k=>(3+k,k,[])
section
variable {cs:List Int} {N:List Str}
theorem Y5 (f:Nat->D) (n a:Nat) (h:a<=n):cutD ((List.range n).map f) none (some (a:Int))=(List.range a).map f:=by
 rw [M6,<-List.map_take,List.take_range,Nat.min_eq_left h]
theorem aCe {hD:D} {cell:Int} {m:Nat} (hm:m<=26) (a b c d e f g h:D):sg2 [hD,.lst ((List.range 26).map (sy N)),.int cell,.int m,a,b,c,d,e,f,g,h]=.ok (.nx [hD,.lst ((List.range 26).map (sy N)),.int cell,.int m,.lst ((List.range m).map (sy N)),b,c,d,e,f,g,h]):=
 d8 (i:=4) (d:=.lst ((List.range m).map (sy N))) (by rw [<-Y5 (sy N) 26 m hm];exact qI rfl rfl (jU rfl) (cN ..)) (cN ..)
theorem aCf {hD:D} {cell:Int} {m:Nat} (hm:m<=3) (b c d e f g h:D):sg3 [hD,.lst ((List.range 26).map (sy N)),.int cell,.int m,.lst ((List.range m).map (sy N)),b,c,d,e,f,g,h]=.ok (.nx [hD,.lst ((List.range 26).map (sy N)),.int cell,.int m,.lst ((List.range m).map (sy N)),.lst ((mk0 m).map (rwD N)),c,d,e,f,g,h]):=by
 refine d8 (i:=5) (d:=.lst ((mk0 m).map (rwD N))) ?_ (aX (cG N) _);unfold mk0;rw [List.map_map];refine fL (n:=12) (fun k:Nat=>D.int (0+(k:Int))) _ (List.range m) rfl (oJ (n:=(m:Int)) (aD rfl rfl) (by lia) (by lia)) (by rw [List.length_range];lia) fun k hk=>?_
 rw [List.mem_range] at hk;exact ⟨b7 (aD (aG rfl (aG rfl rfl (d_ _ _)) (dR (i:=3+k) (by lia) (by lia))) (aD (aG rfl rfl (dR (i:=k) (by lia) hk)) (aD (b7 (xs:=[]) rfl (by rw [aU];simp)) rfl))) (by rw [aU];simp),rfl⟩
end
def Gr (m:Nat) (r:Rw):Prop:=r.2.1<m/\(∀i∈r.2.2,i<m)/\r.2.2.length<=3
noncomputable def Gt (m:Nat) (t:Tk):Prop:=t.2.1<m/\t.2.2.1<m/\(∀i∈t.2.2.2,i<m)/\t.2.2.2.length<=2
noncomputable def w3:Nat->Int
 | 0=>12
 | 1=>36
 | _=>108
noncomputable def w2:Nat->Int
 | 0=>27
 | _=>81
theorem aCg {j:Nat} (h:j<3):getD (.lst [.int 12,.int 36,.int 108]) (.int (0+(j:Int)))=.ok (.int (w3 j)):=by
 have:j=0\/j=1\/j=2:=by lia
 rcases this with e|e|e <;> subst e <;> rfl
theorem U4 (j:Nat):0<w3 j/\w3 j<1073741824:=by
 unfold w3;split <;> decide
theorem aCh {j:Nat} (h:j<2):getD (.lst [.int 27,.int 81]) (.int (0+(j:Int)))=.ok (.int (w2 j)):=by
 have:j=0\/j=1:=by lia
 rcases this with e|e <;> subst e <;> rfl
theorem U5 (j:Nat):0<w2 j/\w2 j<1073741824:=by
 unfold w2;split <;> decide
section
variable {cs:List Int} {N:List Str}
theorem kix {m:Nat} (h1:1<=m) (v:Int):∃i:Nat,i<m/\v % (m:Int)=i:=by
 have a:0<=v % (m:Int):=Int.emod_nonneg _ (by lia);have b:v % (m:Int)<m:=Int.emod_lt_of_pos _ (by lia);exact ⟨(v % (m:Int)).toNat,by lia,by lia⟩
theorem aCi {cell:Int} {m n j:Nat} {M:List Rw} (hn:n<=1000) (h1:1<=m) (hm:m<=3) (hj:j<3) (hM:M.length<100) (x o d e f:D) :
  ∃(r:Rw) (x' o':D),Gr m r/\r.1=3+m+j/\∀b,mkb (ss (.cel b (dk cs n)) N cell m M (.int (0+(j:Int))) o x d e f)=.ok (.nx (ss (.cel b (dk cs (n+1))) N cell m (M++[r]) (.int (0+(j:Int))) o' x' d e f)):=by
 obtain ⟨v,qv⟩:=h_ cs n (by lia);obtain ⟨k,k1,k2⟩:=kix h1 v
 let ix:Nat->Nat:=fun j=>((v / w3 j) % (m:Int)).toNat
 have ixm:∀j,ix j<m/\(v / w3 j) % (m:Int)=ix j:=fun j=>by
  obtain ⟨i,i1,i2⟩:=kix h1 (v / w3 j);have:ix j=i:=by show ((v / w3 j) % (m:Int)).toNat=i;lia
  exact ⟨by lia,by lia⟩
 let c:Nat:=(v / 3 % 4).toNat
 have hc:(c:Int)=v / 3 % 4:=by show (((v / 3 % 4).toNat:Nat):Int)=_;lia
 have c4:c<=3:=by lia
 let B:List Nat:=(List.range c).map ix
 have lB:B.length<=3:=by show ((List.range c).map ix).length<=3;rw [List.length_map,List.length_range];exact c4
 have mB:∀i∈B,i<m:=fun i hi=>by obtain ⟨a,_,rfl⟩:=List.mem_map.mp hi;exact (ixm a).1
 refine ⟨(3+m+j,k,B),.lst (B.map (sy N)),.int v,⟨k1,mB,lB⟩,rfl,fun b=>?_⟩;refine aK (ρ':=ss (.cel b (dk cs (n+1))) N cell m M (.int (0+(j:Int))) (.int v) x d e f) (gD (i:=7) (qG qv rfl rfl) rfl) ?_;refine aK (ρ':=ss (.cel b (dk cs (n+1))) N cell m M (.int (0+(j:Int))) (.int v) (.lst (B.map (sy N))) d e f) (dC (i:=8) ?_) ?_
 ·show _=Res.ok (D.lst (((List.range c).map ix).map (sy N)));rw [List.map_map];refine fL (n:=12) (fun k:Nat=>D.int (0+(k:Int))) (fun j=>sy N (ix j)) (List.range c) rfl (oJ (n:=(c:Int)) (aD (aG (aG (x:=.int v) rfl rfl (cZ _ _ (by decide) (by decide))) rfl ((bU _ _ (by decide)).trans (by rw [hc]))) rfl) (by lia) (by lia)) (by rw [List.length_range];lia) fun a ha=>?_
  rw [List.mem_range] at ha;exact ⟨aG (x:=.lst ((List.range m).map (sy N))) rfl (aG (aG (x:=.int v) rfl (aG rfl rfl (aCg (by lia))) (cZ _ _ (U4 a).1 (U4 a).2)) (y:=.int m) rfl (bU _ _ (by lia))) (dR (ixm a).2 (ixm a).1),rfl⟩
 have hrow:∀ρ:List D,cU 1 ρ=.ok (.lst ((List.range 26).map (sy N)))->cU 3 ρ=.ok (.int m)->cU 4 ρ=.ok (.lst ((List.range m).map (sy N)))->cU 8 ρ=.ok (.lst (B.map (sy N)))->cU 6 ρ=.ok (.int (0+(j:Int)))->cU 7 ρ=.ok (.int v)->cL (aB (b2 getD fG (b2 (aR .add) (b2 (aR .add) iZ d9) fW)) (aB (b2 getD fH (b2 (aR .mod) dX d9)) (aB (bA dF (aB j5 aO)) aO))) ρ=.ok (rwD N (3+m+j,k,B)):=fun ρ g1 g3 g4 g7 g8 g9=>b7 (aD (aG g1 (aG (aG rfl g3 (d_ _ _)) g8 (d_ _ _)) (dR (i:=3+m+j) (by lia) (by lia))) (aD (aG g4 (aG g9 g3 (bU _ _ (by lia))) (dR k2 k1)) (aD (bB (aD g7 rfl) rfl) rfl))) (by rw [aU];simp)
 have ha:=oK (i:=5) (ρ:=ss (.cel b (dk cs (n+1))) N cell m M (.int (0+(j:Int))) (.int v) (.lst (B.map (sy N))) d e f) (xs:=M.map (rwD N)) (hrow _ rfl rfl rfl rfl rfl rfl) rfl (by rw [List.length_map,aU];lia) (cG ..);refine ha.trans ?_;unfold ss;rw [List.map_append];rfl
theorem NK {cell:Int} {m:Nat} (h1:1<=m) (hm:m<=3):∀(c j n:Nat) (M:List Rw) (x k o d e f:D),n+c<=1000->j+c<=3->M.length+c<100->
  ∃(E:List Rw) (x' k' o':D),(∀r∈E,Gr m r)/\E.map (·.1)=(List.range' (3+m+j) c)/\∀b,lO (tg1 6) mkb ((List.range' j c).map fun (k:Nat)=>D.int (0+(k:Int))) (ss (.cel b (dk cs n)) N cell m M k o x d e f)=.ok (.nx (ss (.cel b (dk cs (n+c))) N cell m (M++E) k' o' x' d e f))
 | 0,j,n,M,x,k,o,d,e,f,_,_,_=>⟨[],x,k,o,fun _ h=>by simp at h,rfl,fun b=>by rw [List.append_nil];rfl⟩
 | c+1,j,n,M,x,k,o,d,e,f,g1,g2,g3=>by
  obtain ⟨r,x1,o1,r1,r2,r3⟩:=aCi (cs:=cs) (N:=N) (cell:=cell) (m:=m) (n:=n) (j:=j) (M:=M) (by lia) h1 hm (by lia) (by lia) x o d e f;obtain ⟨E,x2,k2,o2,e1,e2,e3⟩:=NK h1 hm c (j+1) (n+1) (M++[r]) x1 (.int (0+(j:Int))) o1 d e f (by lia) (by lia) (by rw [List.length_append,List.length_singleton];lia);refine ⟨r::E,x2,k2,o2,fun y hy=>?_,?_,fun b=>?_⟩
  ·rcases List.mem_cons.mp hy with h|h
   ·exact h▸r1
   ·exact e1 y h
  ·rw [List.map_cons,List.range'_succ,r2,e2];rfl
  ·rw [List.range'_succ,List.map_cons];refine bT (ρ1:=ss (.cel b (dk cs n)) N cell m M (.int (0+(j:Int))) o x d e f) rfl (r3 b) ?_;rw [e3 b,List.append_assoc,show n+1+c=n+(c+1) from by lia];rfl
theorem aCj {cell:Int} {m n j:Nat} {M:List Rw} {T:List Tk} (hn:n<=1000) (h1:1<=m) (hm:m<=3) (hj:j<3) (hT:T.length<100) (x o d f:D) :
  ∃(r:Tk) (o' f':D),Gt m r/\r.1=10+j/\∀b,tkb (ss (.cel b (dk cs n)) N cell m M (.int (0+(j:Int))) o x d (.lst (T.map (tkD N))) f)=.ok (.nx (ss (.cel b (dk cs (n+1))) N cell m M (.int (0+(j:Int))) o' x d (.lst ((T++[r]).map (tkD N))) f')):=by
 obtain ⟨v,qv⟩:=h_ cs n (by lia);obtain ⟨k,k1,k2⟩:=kix h1 v;obtain ⟨p,p1,p2⟩:=kix h1 (v / 3)
 let ix:Nat->Nat:=fun j=>((v / w2 j) % (m:Int)).toNat
 have ixm:∀j,ix j<m/\(v / w2 j) % (m:Int)=ix j:=fun j=>by
  obtain ⟨i,i1,i2⟩:=kix h1 (v / w2 j);have:ix j=i:=by show ((v / w2 j) % (m:Int)).toNat=i;lia
  exact ⟨by lia,by lia⟩
 let c:Nat:=(v / 9 % 3).toNat
 have hc:(c:Int)=v / 9 % 3:=by show (((v / 9 % 3).toNat:Nat):Int)=_;lia
 have c4:c<=2:=by lia
 let B:List Nat:=(List.range c).map ix
 have lB:B.length<=2:=by show ((List.range c).map ix).length<=2;rw [List.length_map,List.length_range];exact c4
 have mB:∀i∈B,i<m:=fun i hi=>by obtain ⟨a,_,rfl⟩:=List.mem_map.mp hi;exact (ixm a).1
 refine ⟨(10+j,k,p,B),.int v,.lst (B.map (sy N)),⟨k1,p1,mB,lB⟩,rfl,fun b=>?_⟩;refine aK (ρ':=ss (.cel b (dk cs (n+1))) N cell m M (.int (0+(j:Int))) (.int v) x d (.lst (T.map (tkD N))) f) (gD (i:=7) (qG qv rfl rfl) rfl) ?_;refine aK (ρ':=ss (.cel b (dk cs (n+1))) N cell m M (.int (0+(j:Int))) (.int v) x d (.lst (T.map (tkD N))) (.lst (B.map (sy N)))) (dC (i:=11) ?_) ?_
 ·show _=Res.ok (D.lst (((List.range c).map ix).map (sy N)));rw [List.map_map];refine fL (n:=12) (fun k:Nat=>D.int (0+(k:Int))) (fun j=>sy N (ix j)) (List.range c) rfl (oJ (n:=(c:Int)) (aD (aG (aG (x:=.int v) rfl rfl (cZ _ _ (by decide) (by decide))) rfl ((bU _ _ (by decide)).trans (by rw [hc]))) rfl) (by lia) (by lia)) (by rw [List.length_range];lia) fun a ha=>?_
  rw [List.mem_range] at ha;exact ⟨aG (x:=.lst ((List.range m).map (sy N))) rfl (aG (aG (x:=.int v) rfl (aG rfl rfl (aCh (by lia))) (cZ _ _ (U5 a).1 (U5 a).2)) (y:=.int m) rfl (bU _ _ (by lia))) (dR (ixm a).2 (ixm a).1),rfl⟩
 have hrow:∀ρ:List D,cU 1 ρ=.ok (.lst ((List.range 26).map (sy N)))->cU 3 ρ=.ok (.int m)->cU 4 ρ=.ok (.lst ((List.range m).map (sy N)))->cU 11 ρ=.ok (.lst (B.map (sy N)))->cU 6 ρ=.ok (.int (0+(j:Int)))->cU 7 ρ=.ok (.int v)->cL (aB (b2 getD fG (b2 (aR .add) WP fW)) (aB (b2 getD fH (b2 (aR .mod) dX d9)) (aB (b2 getD fH (b2 (aR .mod) (b2 (aR .fdiv) dX iZ) d9)) (aB (bA dF (aB iD aO)) aO)))) ρ=.ok (tkD N (10+j,k,p,B)):=fun ρ g1 g3 g4 g7 g8 g9=>b7 (aD (aG g1 (aG rfl g8 (d_ _ _)) (dR (i:=10+j) (by lia) (by lia))) (aD (aG g4 (aG g9 g3 (bU _ _ (by lia))) (dR k2 k1)) (aD (aG g4 (aG (aG g9 rfl (cZ _ _ (by decide) (by decide))) g3 (bU _ _ (by lia))) (dR p2 p1)) (aD (bB (aD g7 rfl) rfl) rfl)))) (by rw [aU];simp)
 have ha:=oK (i:=10) (ρ:=ss (.cel b (dk cs (n+1))) N cell m M (.int (0+(j:Int))) (.int v) x d (.lst (T.map (tkD N))) (.lst (B.map (sy N)))) (xs:=T.map (tkD N)) (hrow _ rfl rfl rfl rfl rfl rfl) rfl (by rw [List.length_map,aU];lia) (iB ..);refine ha.trans ?_;unfold ss;rw [List.map_append];rfl
theorem NP {cell:Int} {m:Nat} {M:List Rw} (h1:1<=m) (hm:m<=3):∀(c j n:Nat) (T:List Tk) (x k o d f:D),n+c<=1000->j+c<=3->T.length+c<100->
  ∃(E:List Tk) (k' o' f':D),(∀r∈E,Gt m r)/\E.map (·.1)=(List.range' (10+j) c)/\∀b,lO (tg1 6) tkb ((List.range' j c).map fun (k:Nat)=>D.int (0+(k:Int))) (ss (.cel b (dk cs n)) N cell m M k o x d (.lst (T.map (tkD N))) f)=.ok (.nx (ss (.cel b (dk cs (n+c))) N cell m M k' o' x d (.lst ((T++E).map (tkD N))) f'))
 | 0,j,n,T,x,k,o,d,f,_,_,_=>⟨[],k,o,f,fun _ h=>by simp at h,rfl,fun b=>by rw [List.append_nil];rfl⟩
 | c+1,j,n,T,x,k,o,d,f,g1,g2,g3=>by
  obtain ⟨r,o1,f1,r1,r2,r3⟩:=aCj (cs:=cs) (N:=N) (cell:=cell) (m:=m) (n:=n) (j:=j) (M:=M) (T:=T) (by lia) h1 hm (by lia) (by lia) x o d f;obtain ⟨E,k2,o2,f2,e1,e2,e3⟩:=NP (M:=M) h1 hm c (j+1) (n+1) (T++[r]) x (.int (0+(j:Int))) o1 d f1 (by lia) (by lia) (by rw [List.length_append,List.length_singleton];lia);refine ⟨r::E,k2,o2,f2,fun y hy=>?_,?_,fun b=>?_⟩
  ·rcases List.mem_cons.mp hy with h|h
   ·exact h▸r1
   ·exact e1 y h
  ·rw [List.map_cons,List.range'_succ,r2,e2];rfl
  ·rw [List.range'_succ,List.map_cons];refine bT (ρ1:=ss (.cel b (dk cs n)) N cell m M (.int (0+(j:Int))) o x d (.lst (T.map (tkD N))) f) rfl (r3 b) ?_;rw [e3 b,List.append_assoc,show n+1+c=n+(c+1) from by lia];rfl
end
end Lk47
end
section
namespace Lk47
open PySem L2 Mi
structure Sig (m:Nat) (M:List Rw) (T:List Tk):Prop where
 m1:1<=m
 m3:m<=3
 mg:∀r∈M,Gr m r
 tg:∀t∈T,Gt m t
 mn:(M.map (·.1)).Nodup
 mi:∀r∈M,3<=r.1/\r.1<9
 tn:(T.map (·.1)).Nodup
 ti:∀t∈T,10<=t.1/\t.1<13
 tl:T.length<=3
 ml:M.length<=6
 ba:∀k,k<m->∃r∈M,r.2.1=k/\r.2.2=[]
theorem Y6 {f:FX} {ρ ρ':List D} {n:Int} (h:f ρ=.ok (.int n,ρ')) (h1:0<=n) (h2:n<=1000000):aBs f ρ=.ok ((List.range n.toNat).map fun (k:Nat)=>D.int (0+(k:Int)),ρ'):=by
 unfold aBs;rw [h,Res.aM];have:l_ n=true:=by
  simp only [l_,Bool.and_eq_true,decide_eq_true_eq];lia
 simp only [gF,this,if_true];rfl
theorem Y7 {it:List D->Res (List D×List D)} {t:D->List D->Res (List D)} {body:FS} {ρ ρ' xs:List D} {r:Res Fl} (h1:it ρ=.ok (xs,ρ')) (h2:lO t body xs ρ'=r):KQ it t body ρ=r:=by
 unfold KQ;rw [h1,Res.aM];exact h2
theorem aCk {i:Nat} {ρ:List D} {d:D} (h:cU i ρ=.ok d) (h2:d.yM=true):bOw i ρ=.ok d:=by
 unfold bOw;rw [h,Res.aM,if_pos h2]
theorem R4 {f:FA} {ρ ds:List D} (h:f ρ=.ok ds) (hl:ds.length<=100):vB f ρ=.ok (.rt (.tup (.lst ds::ρ))):=by
 unfold vB;rw [h,Res.aM,if_pos (by rw [aU];exact decide_eq_true (by lia))]
section
variable {N:List Str}
theorem aCl (cs:List Int) (n:Nat) (hn:n<=900):∃(m:Nat) (M:List Rw) (T:List Tk) (n':Nat),Sig m M T/\n'<=n+8/\∀b,gR [.cel b (dk cs n),.lst ((List.range 26).map (sy N))]=.ok (.tup [.lst [.lst ((List.range m).map (sy N)),.lst (M.map (rwD N)),.lst (T.map (tkD N))],.cel b (dk cs n')]):=by
 obtain ⟨cell,q1⟩:=h_ cs n (by lia)
 let m:Nat:=(1+cell % 3).toNat
 have hm:(m:Int)=1+cell % 3:=by show (((1+cell % 3).toNat:Nat):Int)=_;lia
 have m1:1<=m:=by lia
 have m3:m<=3:=by lia
 let c:Nat:=(cell / 3 % 4).toNat
 have hc:(c:Int)=cell / 3 % 4:=by show (((cell / 3 % 4).toNat:Nat):Int)=_;lia
 have lm:(mk0 m).length=m:=by unfold mk0;rw [List.length_map,List.length_range]
 obtain ⟨E,x2,k2,o2,E1,E2,s6⟩:=NK (cs:=cs) (N:=N) (cell:=cell) (m:=m) m1 m3 c 0 (n+1) (mk0 m) .uD .uD .uD .uD .uD .uD (by lia) (by lia) (by lia);have lE:E.length=c:=by
  have:=congrArg List.length E2;rw [List.length_map,List.length_range'] at this;exact this
 generalize hM0:mk0 m++E=M0 at s6;have lM:M0.length=m+c:=by rw [<-hM0,List.length_append,lm,lE]
 obtain ⟨a,a1,a2⟩:=kix (m:=M0.length) (by lia) (cell / 12);obtain ⟨v,qv⟩:=h_ cs ((n+1)+c) (by lia)
 let t:Nat:=(v % 4).toNat
 have ht:(t:Int)=v % 4:=by show (((v % 4).toNat:Nat):Int)=_;lia
 obtain ⟨T,k3,o3,f3,T1,T2,s9⟩:=NP (cs:=cs) (N:=N) (cell:=cell) (m:=m) (M:=M0) m1 m3 t 0 ((n+1)+c+1) [] x2 k2 o2 (.int a) .uD (by lia) (by lia) (by simp;lia);rw [List.nil_append] at s9;have lT:T.length=t:=by
  have:=congrArg List.length T2;rw [List.length_map,List.length_range'] at this;exact this
 have pm:(M0.drop a++M0.take a).Perm M0:=by
  have:=List.perm_append_comm (l₁:=M0.drop a) (l₂:=M0.take a);rwa [List.take_append_drop] at this
 have mem0:∀r,r∈M0->(∃k,k<m/\r=(3+k,k,[]))\/r∈E:=fun r hr=>by
  rw [<-hM0,List.mem_append] at hr;rcases hr with h|h
  ·unfold mk0 at h;obtain ⟨k,hk,rfl⟩:=List.mem_map.mp h;exact .inl ⟨k,List.mem_range.mp hk,rfl⟩
  ·exact .inr h
 have hE:∀r∈E,3+m<=r.1/\r.1<3+m+c:=fun r hr=>by
  have:=List.mem_map_of_mem (f:=(·.1)) hr;rw [E2,List.mem_range'_1] at this;exact this
 have nm:M0.map (·.1)=List.range' 3 (m+c):=by
  rw [<-hM0,List.map_append,E2];unfold mk0;rw [List.map_map,Nat.add_zero,List.range'_append_1.symm]
  congr 1
  rw [List.range'_eq_map_range];rfl
 refine ⟨m,M0.drop a++M0.take a,T,(n+1)+c+1+t,⟨m1,m3,fun r hr=>?_,T1,?_,fun r hr=>?_,?_,fun r hr=>?_,by lia,?_,fun k hk=>?_⟩,by lia,fun b=>?_⟩
 ·rcases mem0 r (pm.mem_iff.mp hr) with ⟨k,hk,rfl⟩|h
  ·exact ⟨hk,fun i hi=>by simp at hi,by simp⟩
  ·exact E1 r h
 ·rw [(pm.map _).nodup_iff,nm];exact List.nodup_range'
 ·rcases mem0 r (pm.mem_iff.mp hr) with ⟨k,hk,rfl⟩|h
  ·exact ⟨by show 3<=3+k;lia,by show 3+k<9;lia⟩
  ·have:=hE r h;lia
 ·rw [T2];exact List.nodup_range'
 ·have:=List.mem_map_of_mem (f:=(·.1)) hr;rw [T2,List.mem_range'_1] at this;lia
 ·rw [pm.length_eq];lia
 ·refine ⟨(3+k,k,[]),pm.mem_iff.mpr ?_,rfl,rfl⟩;rw [<-hM0,List.mem_append]
  left
  unfold mk0;exact List.mem_map.mpr ⟨k,List.mem_range.mpr hk,rfl⟩
 ·refine rJ (k:=1) (ρ:=ss (.cel b (dk cs ((n+1)+c+1+t))) N cell m M0 k3 o3 x2 (.int a) (.lst (T.map (tkD N))) f3) ?_;show nY [.cel b (dk cs n),.lst ((List.range 26).map (sy N)),.uD,.uD,.uD,.uD,.uD,.uD,.uD,.uD,.uD,.uD]=_;rw [Y4];refine aK (ρ':=[.cel b (dk cs (n+1)),.lst ((List.range 26).map (sy N)),.int cell,.uD,.uD,.uD,.uD,.uD,.uD,.uD,.uD,.uD]) (gD (i:=2) (qG q1 rfl rfl) rfl) ?_;refine aK (ρ':=[.cel b (dk cs (n+1)),.lst ((List.range 26).map (sy N)),.int cell,.int m,.uD,.uD,.uD,.uD,.uD,.uD,.uD,.uD]) (dC (i:=3) (aG (x:=.int 1) rfl (aG (x:=.int cell) rfl rfl (bU _ _ (by decide))) (by rw [d_,hm]))) ?_;refine aK (aCe (by lia) ..) (aK (aCf m3 ..) ?_);refine aK (kZ (oJ (n:=(c:Int)) (aD (aG (aG (x:=.int cell) rfl rfl (cZ _ _ (by decide) (by decide))) rfl ((bU _ _ (by decide)).trans (by rw [hc]))) rfl) (by lia) (by lia)) (by rw [Int.toNat_natCast,List.range_eq_range'];exact s6 b)) ?_;refine aK (ρ':=ss (.cel b (dk cs ((n+1)+c))) N cell m M0 k2 o2 x2 (.int a) .uD .uD) (dC (i:=9) (aG (aG (x:=.int cell) rfl rfl (cZ _ _ (by decide) (by decide))) (y:=.int M0.length) (bB (aD rfl rfl) ?_) ((bU _ _ (by lia)).trans (by rw [a2])))) ?_
  ·show Res.ok (D.int ((M0.map (rwD N)).length:Int))=_;rw [List.length_map]
  refine aK (ρ':=ss (.cel b (dk cs ((n+1)+c))) N cell m M0 k2 o2 x2 (.int a) (.lst []) .uD) (d8 (i:=10) rfl rfl) ?_;refine aK (Y7 (Y6 (n:=(t:Int)) (ρ':=ss (.cel b (dk cs ((n+1)+c+1))) N cell m M0 k2 o2 x2 (.int a) (.lst []) .uD) (MJ (qG qv rfl rfl) rfl rfl ((bU _ _ (by decide)).trans (by rw [ht])) rfl) (by lia) (by lia)) (by rw [Int.toNat_natCast,List.range_eq_range'];exact s9 b)) ?_;refine R4 (aD (aCk rfl rfl) (aD ?_ (aD (aCk rfl rfl) rfl))) (by simp);rw [List.map_append];refine aG (x:=.lst ((M0.drop a).map (rwD N))) (y:=.lst ((M0.take a).map (rwD N))) ?_ ?_ (mF _ _ ?_ (aX (cG N) _) (aX (cG N) _))
  ·rw [List.map_drop,<-tQ];exact qI rfl (jU rfl) rfl (aX (cG N) _)
  ·rw [List.map_take,<-M6];exact qI rfl rfl (jU rfl) (aX (cG N) _)
  ·rw [List.length_map,List.length_map,List.length_drop,List.length_take,aU];lia
theorem aCm (cs:List Int) (n:Nat) (hn:n<=900):∃(m:Nat) (M:List Rw) (T:List Tk) (n':Nat),Sig m M T/\n'<=n+8/\ch1 gR (dk cs n) [.lst ((List.range 26).map (sy N))]=.ok (.lst [.lst ((List.range m).map (sy N)),.lst (M.map (rwD N)),.lst (T.map (tkD N))],dk cs n'):=by
 obtain ⟨m,M,T,n',h1,h2,h3⟩:=aCl cs n hn;exact ⟨m,M,T,n',h1,h2,u_ h3⟩
end
end Lk47
end
section
namespace Lk47
open PySem L2 Mi
theorem R5 {c:FT} {body:FS} {n:Nat} {ρ ρ':List D} {r:Res Fl} (h1:c ρ=.ok true) (h2:body ρ=.ok (.nx ρ')) (h3:GC c body n ρ'=r):GC c body (n+1) ρ=r:=by
 rw [GC,h1,Res.aM,if_pos rfl,h2];exact h3
theorem Y8 {c:FT} {body:FS} {n:Nat} {ρ:List D} (h1:c ρ=.ok false):GC c body (n+1) ρ=.ok (.nx ρ):=by
 rw [GC,h1];rfl
def wc:FT:=(bTB (b2 (cO .ne) iU (j6 aO)))
def wb0:FS:=(DG 5 6)
noncomputable def wb1:FS:=(b_ false 7 (b2 (aR .sub) (b2 (aR .sub) (b2 (aR .sub) d9 (bA jY (aB fH aO))) (bA jY (aB iU aO))) fJ) true)
noncomputable def wb2:FS:=(b_ false 8 (dG 10 (cC fG false) oY (TQ (bTB (b2 (cO .eq) (b2 getD iY fJ) fW)) (bTB (b2 (cO (.ord .le)) (bA jY (aB (b2 getD iY nC) aO)) dX))) iY false) true)
noncomputable def wb3:FS:=(fC false 9 (x2R getD j5 (x2L (aR .mod) (b8 aN 1 0 aO) (bA jY (aB j5 aO)))))
def wb4:FS:=(rP 4 (b2 getD oR jX))
def wb5:FS:=(X3 5 (b1 UV (b2 getD oR nC)))
def wb:FS:=(bD wb0 (bD wb1 (bD wb2 (bD wb3 (bD wb4 wb5)))))
inductive Run (H:List Rw):List Nat->List Nat->Prop
 | nil:Run H [] []
 | step {r:Rw} {rest W:List Nat}:r∈H->Run H (r.2.2++rest) W->Run H (r.2.1::rest) (r.1::W)
theorem Y9 {i j:Nat} {ρ xs:List D} {x:D} (h:ρ.getD i .uD=.lst (xs++[x])) {ρ':List D} (he:(ρ.set i (.lst xs)).set j x=ρ'):DG i j ρ=.ok (.nx ρ'):=by
 subst he;unfold DG;rw [h];dsimp only;rw [List.length_append,List.length_singleton,Nat.add_sub_cancel,List.getElem?_append_right (Nat.le_refl _),Nat.sub_self,List.dropLast_concat];rfl
theorem U6 {i:Nat} {ρ:List D} {f:FE} {xs ys:List D} (h1:f ρ=.ok (.lst ys)) (h2:ρ.getD i .uD=.lst xs) (hl:xs.length+ys.length<=10000) (hp:D.aV ys=true):X3 i f ρ=.ok (.nx (ρ.set i (.lst (xs++ys)))):=by
 unfold X3;rw [h1,Res.aM,h2];dsimp only;rw [if_pos (by rw [hp,aU,decide_eq_true (by lia)];rfl)]
theorem tU {α:Type} {N:List Str} (hN:N.length=26) (hd:N.Nodup) (nm:α->Nat) (g:α->D):∀(L:List α),(L.map nm).Nodup->(∀a∈L,nm a<26)->∀a∈L,cJ (L.map fun a=>(sy N (nm a),g a)) (sy N (nm a))=some (g a)
 | [],_,_,a,ha=>by simp at ha
 | b::L,h1,h2,a,ha=>by
  rw [List.map_cons,cJ,vZ hN hd (h2 b (List.mem_cons_self ..)) (h2 a ha)];rw [List.map_cons,List.nodup_cons] at h1;rcases List.mem_cons.mp ha with e|e
  ·subst e;rw [decide_eq_true rfl,if_pos rfl]
  ·have:¬nm b=nm a:=fun g=>h1.1 (g▸List.mem_map_of_mem (f:=nm) e)
   rw [decide_eq_false this,if_neg (by simp)];exact tU hN hd nm g L h1.2 (fun c hc=>h2 c (List.mem_cons_of_mem _ hc)) a e
section
variable {N:List Str} (hN:N.length=26) (hd:N.Nodup)
include hN hd
omit hN hd in
theorem jV {ρ:List D} {i:Nat} {r:Rw} (h:cU i ρ=.ok (rwD N r)):b2 getD (cU i) jX ρ=.ok (sy N r.1)/\b2 getD (cU i) fJ ρ=.ok (sy N r.2.1)/\b2 getD (cU i) nC ρ=.ok (.tup (r.2.2.map (sy N))):=⟨aG h rfl rfl,aG h rfl rfl,aG h rfl rfl⟩
theorem zW {i j:Nat} (hi:i<26) (hj:j<26):cO .eq (sy N i) (sy N j)=.ok (.bl (decide (i=j))):=by
 show (if (sy N i).bN a_&&(sy N j).bN a_ then Res.ok (D.bl (eqD (sy N i) (sy N j))) else .bad)=_;rw [oA,oA,vZ hN hd hi hj];rfl
theorem NQ {i j:Nat} (hi:i<26) (hj:j<26):cO .ne (sy N i) (sy N j)=.ok (.bl (!decide (i=j))):=by
 show (if (sy N i).bN a_&&(sy N j).bN a_ then Res.ok (D.bl (!eqD (sy N i) (sy N j))) else .bad)=_;rw [oA,oA,vZ hN hd hi hj];rfl
theorem R6 {i:Nat} {l:List Nat} (hi:i<26) (hl:∀j∈l,j<26):cO .notin (sy N i) (.tup (l.map (sy N)))=.ok (.bl (!decide (i∈l))):=by
 show (if (sy N i).bN a_&&D.cA a_ (l.map (sy N)) then Res.ok (D.bl (!(l.map (sy N)).any fun y=>eqD y (sy N i))) else .bad)=_;rw [oA,nA,M7 hN hd hi l hl];rfl
omit hN hd in
omit hN hd in
theorem aCn (l:List Nat):cO .ne (.lst (l.map (sy N))) (.lst [])=.ok (.bl (!l.isEmpty)):=by
 show (if D.cA 11 (l.map (sy N))&&D.cA 11 [] then Res.ok (D.bl (!uM (l.map (sy N)) [])) else .bad)=_;rw [nA,D.cA];cases l <;> rfl
omit hN hd in
end
structure aD9 (m:Nat) (H:List Rw):Prop where
 m3:m<=3
 hl:H.length<=100
 hg:∀r∈H,r.1<26/\r.2.1<26/\(∀i∈r.2.2,i<m)/\r.2.2.length<=3
 ba:∀k,k<m->∃r∈H,r.2.1=k/\r.2.2=[]
noncomputable abbrev wst (hD:D) (N:List Str) (H:List Rw) (w:D) (most:Nat) (W st:List Nat) (a b c d:D):List D:=[hD,.lst (H.map (rwD N)),w,.int most,.lst (W.map (sy N)),.lst (st.reverse.map (sy N)),a,b,c,d]
theorem Y_ {N:List Str} {cs:List Int} {n:Nat} {H:List Rw} {w:D} {most:Nat} {W rest:List Nat} {a b d:D} {S:List Rw} {v:Int} {i:Nat} {r:Rw} {z:Nat} (qv:ch1 aN (dk cs n) []=.ok (.int v,dk cs (n+1))) (lS:0<S.length) (i2:v % (S.length:Int)=i) (hi:S[i]?=some r):wb3 (wst (.cel z (dk cs n)) N H w most W rest a b (.lst (S.map (rwD N))) d)=.ok (.nx (wst (.cel z (dk cs (n+1))) N H w most W rest a b (.lst (S.map (rwD N))) (rwD N r))):=by
 have hl:∀ρ:List D,cU 8 ρ=.ok (.lst (S.map (rwD N)))->(bA jY (aB j5 aO)) ρ=.ok (.int S.length):=fun ρ h=>bB (aD h rfl) (by
  show Res.ok (D.int ((S.map (rwD N)).length:Int))=_;rw [List.length_map])
 exact gD (i:=9) (U0 (x:=.lst (S.map (rwD N))) rfl (MJ (qG qv rfl rfl) rfl (hl _ rfl) (bU _ _ (by lia)) rfl) (tR i2 hi) (cG ..)) rfl
section
variable {N:List Str} (hN:N.length=26) (hd:N.Nodup)
include hN hd
theorem turn {cs:List Int} {n:Nat} {H:List Rw} {w:D} {most:Nat} {m:Nat} (P:aD9 m H) {W rest:List Nat} {k:Nat} (hk:k<m) (hn:n<=10000) (hw:W.length+rest.length+1<=most) (hm:most<=100) (a b c d:D) :
  ∃r∈H,r.2.1=k/\W.length+1+(r.2.2.length+rest.length)<=most/\∃a' b' c' d':D,∀z,wb (wst (.cel z (dk cs n)) N H w most W (k::rest) a b c d)=.ok (.nx (wst (.cel z (dk cs (n+1))) N H w most (W++[r.1]) (r.2.2++rest) a' b' c' d')):=by
 have m3:=P.m3;obtain ⟨v,qv⟩:=h_ cs n (by lia)
 let room:Nat:=most-W.length-rest.length-1
 have hroom:(most:Int)-W.length-rest.length-1=(room:Int):=by show _=((most-W.length-rest.length-1:Nat):Int);lia
 obtain ⟨S,hS,neS⟩:∃S:List Rw,S=H.filter (fun r=>decide (r.2.1=k)&&decide ((r.2.2.length:Int)<=(room:Int)))/\S≠[]:=⟨_,rfl,by
  obtain ⟨r,hr,e1,e2⟩:=P.ba k hk;refine List.ne_nil_of_mem (List.mem_filter.mpr ⟨hr,?_⟩);rw [Bool.and_eq_true,decide_eq_true_eq,decide_eq_true_eq,e2];exact ⟨e1,by simp⟩⟩
 have sub1:∀r∈S,r∈H/\r.2.1=k/\r.2.2.length<=room:=fun r hr=>by
  rw [hS] at hr;have:=List.mem_filter.mp hr;have h2:=this.2;rw [Bool.and_eq_true,decide_eq_true_eq,decide_eq_true_eq] at h2;exact ⟨this.1,h2.1,by lia⟩
 have lS:0<S.length:=List.length_pos_iff.mpr neS;obtain ⟨i,i1,i2⟩:=kix (m:=S.length) (by lia) v;have hi:S[i]?=some S[i]:=List.getElem?_eq_getElem i1;obtain ⟨g1,g2,g3⟩:=sub1 _ (List.getElem_mem i1);generalize S[i]=r at g1 g2 g3 hi;obtain ⟨u0,u1,u2,u3⟩:=P.hg r g1;refine ⟨r,g1,g2,by show _<=_;have:r.2.2.length<=most-W.length-rest.length-1:=g3;lia,sy N k,.int room,.lst (S.map (rwD N)),rwD N r,fun z=>?_⟩;have t0:wb0 (wst (.cel z (dk cs n)) N H w most W (k::rest) a b c d)=.ok (.nx (wst (.cel z (dk cs n)) N H w most W rest (sy N k) b c d)):=Y9 (i:=5) (j:=6) (xs:=rest.reverse.map (sy N)) (x:=sy N k) (by
  show D.lst ((k::rest).reverse.map (sy N))=_;rw [List.reverse_cons,List.map_append];rfl) rfl
 have t1:wb1 (wst (.cel z (dk cs n)) N H w most W rest (sy N k) b c d)=.ok (.nx (wst (.cel z (dk cs n)) N H w most W rest (sy N k) (.int room) c d)):=by
  rw [<-hroom];refine dC (i:=7) (aG (aG (aG (x:=.int most) rfl (y:=.int W.length) (bB (aD rfl rfl) ?_) (J5 _ _)) (y:=.int rest.length) (bB (aD rfl rfl) ?_) (J5 _ _)) rfl (J5 _ _))
  ·show Res.ok (D.int ((W.map (sy N)).length:Int))=_;rw [List.length_map]
  ·show Res.ok (D.int ((rest.reverse.map (sy N)).length:Int))=_;rw [List.length_map,List.length_reverse]
 have t2:wb2 (wst (.cel z (dk cs n)) N H w most W rest (sy N k) (.int room) c d)=.ok (.nx (wst (.cel z (dk cs n)) N H w most W rest (sy N k) (.int room) (.lst (S.map (rwD N))) d)):=by
  rw [hS];refine dC (i:=8) (Y0 (n:=10) (rwD N) (rwD N) _ H rfl (lL rfl) (by have:=P.hl;lia) (fun r hr=>?_) fun r hr _=>⟨rfl,cG ..⟩);obtain ⟨v0,v1,v2,v3⟩:=P.hg r hr;have c1:∀ρ:List D,cU 10 ρ=.ok (rwD N r)->cU 6 ρ=.ok (sy N k)->(bTB (b2 (cO .eq) (b2 getD iY fJ) fW)) ρ=.ok (decide (r.2.1=k)):=fun ρ e1 e2=>dW (aG (jV e1).2.1 e2 (zW hN hd (by lia) (by lia)))
  have c2:∀ρ:List D,cU 10 ρ=.ok (rwD N r)->cU 7 ρ=.ok (.int room)->(bTB (b2 (cO (.ord .le)) (bA jY (aB (b2 getD iY nC) aO)) dX)) ρ=.ok (decide ((r.2.2.length:Int)<=(room:Int))):=fun ρ e1 e2=>dW (aG (bB (aD (jV e1).2.2 rfl) (by
   show Res.ok (D.int ((r.2.2.map (sy N)).length:Int))=_;rw [List.length_map])) e2 (aCa _ _))
  by_cases hrk:r.2.1=k
  ·refine (XJ ((c1 _ rfl rfl).trans (by rw [decide_eq_true hrk])) (c2 _ rfl rfl)).trans ?_;rw [decide_eq_true hrk,Bool.true_and]
  ·refine (aBb ((c1 _ rfl rfl).trans (by rw [decide_eq_false hrk]))).trans ?_;rw [decide_eq_false hrk,Bool.false_and]
 have t3:wb3 (wst (.cel z (dk cs n)) N H w most W rest (sy N k) (.int room) (.lst (S.map (rwD N))) d)=.ok (.nx (wst (.cel z (dk cs (n+1))) N H w most W rest (sy N k) (.int room) (.lst (S.map (rwD N))) (rwD N r))):=Y_ qv lS i2 hi;have t4:wb4 (wst (.cel z (dk cs (n+1))) N H w most W rest (sy N k) (.int room) (.lst (S.map (rwD N))) (rwD N r))=.ok (.nx (wst (.cel z (dk cs (n+1))) N H w most (W++[r.1]) rest (sy N k) (.int room) (.lst (S.map (rwD N))) (rwD N r))):=by
  have ha:=oK (i:=4) (ρ:=wst (.cel z (dk cs (n+1))) N H w most W rest (sy N k) (.int room) (.lst (S.map (rwD N))) (rwD N r)) (xs:=W.map (sy N)) (jV (i:=9) (r:=r) rfl).1 rfl (by rw [List.length_map,aU];lia) rfl;refine ha.trans ?_;unfold wst;rw [List.map_append];rfl
 have t5:wb5 (wst (.cel z (dk cs (n+1))) N H w most (W++[r.1]) rest (sy N k) (.int room) (.lst (S.map (rwD N))) (rwD N r))=.ok (.nx (wst (.cel z (dk cs (n+1))) N H w most (W++[r.1]) (r.2.2++rest) (sy N k) (.int room) (.lst (S.map (rwD N))) (rwD N r))):=by
  have hx:=U6 (i:=5) (ρ:=wst (.cel z (dk cs (n+1))) N H w most (W++[r.1]) rest (sy N k) (.int room) (.lst (S.map (rwD N))) (rwD N r)) (f:=b1 UV (b2 getD oR nC)) (xs:=rest.reverse.map (sy N)) (ys:=r.2.2.reverse.map (sy N)) (M8 (jV (i:=9) (r:=r) rfl).2.2 (by
   show (if D.aV (r.2.2.map (sy N))&&decide ((r.2.2.map (sy N)).length<=lim) then Res.ok (D.lst (r.2.2.map (sy N)).reverse) else .bad)=_;rw [cN,List.length_map,aU,decide_eq_true (by lia),<-List.map_reverse];rfl)) rfl (by rw [List.length_map,List.length_reverse,List.length_map,List.length_reverse];lia) (cN ..)
  refine hx.trans ?_;have e7:((r.2.2++rest).reverse.map (sy N))=rest.reverse.map (sy N)++r.2.2.reverse.map (sy N):=by rw [List.reverse_append,List.map_append]
  unfold wst;rw [e7];rfl
 exact aK t0 (aK t1 (aK t2 (aK t3 (aK t4 t5))))
theorem aCo {cs:List Int} {H:List Rw} {w:D} {most:Nat} {m:Nat} (P:aD9 m H) (hm:most<=100):∀(μ n fuel:Nat) (W st:List Nat) (a b c d:D),most-W.length=μ->μ<fuel->n+μ<=5000->W.length+st.length<=most->(∀k∈st,k<m)->
  ∃(V:List Nat) (n':Nat) (a' b' c' d':D),Run H st V/\V.length<=μ/\n'<=n+μ/\∀z,GC wc wb fuel (wst (.cel z (dk cs n)) N H w most W st a b c d)=.ok (.nx (wst (.cel z (dk cs n')) N H w most (W++V) [] a' b' c' d'))
 | μ,n,0,W,st,a,b,c,d,h1,h2,_,_,_=>absurd h2 (Nat.not_lt_zero _)
 | μ,n,fuel+1,W,[],a,b,c,d,h1,h2,_,_,_=>⟨[],n,a,b,c,d,.nil,Nat.zero_le _,by lia,fun z=>by
   rw [List.append_nil];exact Y8 (dW (aG rfl rfl (aCn (N:=N) [])))⟩
 | 0,n,fuel+1,W,k::rest,a,b,c,d,h1,h2,_,h4,h5=>by
   rw [List.length_cons] at h4;lia
 | μ+1,n,fuel+1,W,k::rest,a,b,c,d,h1,h2,h3,h4,h5=>by
   have hk:=h5 k (List.mem_cons_self ..);have hrest:∀k∈rest,k<m:=fun j hj=>h5 j (List.mem_cons_of_mem _ hj)
   rw [List.length_cons] at h4;obtain ⟨r,r1,r2,r3,a',b',c',d',r4⟩:=turn hN hd (cs:=cs) (n:=n) (w:=w) (most:=most) P (W:=W) (rest:=rest) (k:=k) hk (by lia) (by lia) hm a b c d;have hp:=(P.hg r r1).2.2.1;obtain ⟨V,n',a2,b2,c2,d2,q1,q2,q3,q4⟩:=aCo P hm μ (n+1) fuel (W++[r.1]) (r.2.2++rest) a' b' c' d' (by rw [List.length_append,List.length_singleton];lia) (by lia) (by lia) (by rw [List.length_append,List.length_append,List.length_singleton];lia) (fun j hj=>by
    rcases List.mem_append.mp hj with h|h
    ·exact hp j h
    ·exact hrest j h)
   refine ⟨r.1::V,n',a2,b2,c2,d2,r2▸.step r1 q1,by rw [List.length_cons];lia,by lia,fun z=>?_⟩;refine R5 (dW (aG rfl rfl ((aCn (N:=N) (k::rest).reverse).trans ?_))) (r4 z) ?_
   ·rw [List.reverse_cons];cases rest.reverse <;> rfl
   ·rw [q4 z,List.append_assoc];rfl
theorem R7 (cs:List Int) {n:Nat} {H:List Rw} {m:Nat} (P:aD9 m H) {k most:Nat} (hk:k<m) (h1:1<=most) (hm:most<=100) (hn:n<=4000) :
  ∃(V:List Nat) (n':Nat),Run H [k] V/\V.length<=100/\n'<=n+100/\ch1 fP (dk cs n) [.lst (H.map (rwD N)),sy N k,.int most]=.ok (.lst (V.map (sy N)),dk cs n'):=by
 obtain ⟨V,n',a',b',c',d',g1,g2,g3,g4⟩:=aCo hN hd (cs:=cs) (w:=sy N k) (most:=most) P hm most n 1000 [] [k] .uD .uD .uD .uD (by simp) (by lia) (by lia) (by simpa using h1) (fun j hj=>by rw [List.mem_singleton] at hj;lia);refine ⟨V,n',g1,by lia,by lia,u_ fun z=>rJ (k:=1) (ρ:=wst (.cel z (dk cs n')) N H (sy N k) most V [] a' b' c' d') ?_⟩;refine aK (ρ':=[.cel z (dk cs n),.lst (H.map (rwD N)),sy N k,.int most,.lst [],.uD,.uD,.uD,.uD,.uD]) (d8 (i:=4) rfl rfl) ?_;refine aK (ρ':=wst (.cel z (dk cs n)) N H (sy N k) most [] [k] .uD .uD .uD .uD) (d8 (i:=5) rfl rfl) ?_;refine aK (g4 z) ?_;exact zQ rfl rfl
end
end Lk47
end
section
namespace Lk47
open PySem L2 Mi
def rc:FT:=(bTB (b2 (cO .eq) (b2 getD j5 fJ) (b2 getD dX nC)))
noncomputable def rin:FS:=(rP 11 (b2 getD d9 (b2 (aR .add) WQ (b2 (aR .mod) (b2 (aR .add) (b2 (aR .add) (b2 (aR .fdiv) iU iZ) (bA jY (aB fW aO))) (b2 rF iT iY)) TF))))
def rb0:FS:=(b_ false 9 (b2 xJ (b2 getD j5 nC) (b2 getD dX iZ)) false)
noncomputable def rb1:FS:=(b_ false 10 (b2 (aR .add) fJ (b2 (aR .mod) (bA jY (aB fW aO)) tZ)) true)
def rb2:FS:=(b_ true 11 (j6 aO) true)
noncomputable def rb3:FS:=(t6 (gW (aB (bA jY (aB oR aO)) aO) gF) (tg1 12) rin)
noncomputable def rb4:FS:=(b_ false 13 (dG 17 (gW (aB (bA jY (aB oR aO)) aO) gF) oY (fX) (cL (aB (b2 getD iD (cU 17)) (aB (b2 getD oR (cU 17)) (aB (cL aO) aO)))) false) true)
def rb5:FS:=(b_ false 14 ZV true)
noncomputable def rb6:FS:=(sIf (bTB (b2 (cO .eq) fW (j6 aO))) (b_ false 14 (b2 getD (j6 (aB ZV (aB (bC (.int 14)) (aB IV aO)))) (b2 (aR .mod) iU iZ)) false) (jL))
noncomputable def rb7:FS:=(fC false 15 (b8 fP 4 0 (aB (b2 (aR .add) IK fH) (aB (bPu (b2 getD dX fJ)) (aB wN aO)))))
noncomputable def rb8:FS:=(rP 6 (cL (aB (b2 getD dX jX) (aB (b2 getD j5 jX) (aB (bA dF (aB iD aO)) (aB (bA dF (aB (cU 15) aO)) aO))))))
noncomputable def ri:FS:=sIf rc (bD rb0 (bD rb1 (bD rb2 (bD rb3 (bD rb4 (bD rb5 (bD rb6 (bD rb7 rb8)))))))) (jL)
def tw (N:List Str) (w:List Nat):D:=.tup (w.map (sy N))
theorem oE (N:List Str) (w:List Nat):(tw N w).pure=true:=by
 show (D.tup (w.map (sy N))).pure=true;rw [D.pure,cN]
abbrev Ru:=Nat×Nat×List Nat×List Nat
noncomputable def ruD (N:List Str) (u:Ru):D:=.tup [sy N u.1,sy N u.2.1,tw N u.2.2.1,tw N u.2.2.2]
theorem iV (N:List Str) (u:Ru):(ruD N u).pure=true:=by
 show ((sy N u.1).pure&&((sy N u.2.1).pure&&((tw N u.2.2.1).pure&&((tw N u.2.2.2).pure&&true))))=true;rw [oE,oE];rfl
theorem NT (N:List Str) (w:List Nat) (n:Nat):(tw N w).bN (n+1)=true:=by
 unfold tw;rw [D.bN,nA]
theorem zX (N:List Str):∀R:List Ru,D.cA 11 (R.map (ruD N))=true
 | []=>by rw [List.map_nil,D.cA]
 | r::R=>by
  rw [List.map_cons,D.cA,zX N R];unfold ruD;rw [D.bN,D.cA,D.cA,D.cA,D.cA,D.cA,NT,NT];unfold sy;rw [D.bN,D.bN] <;> simp
theorem aEe (N:List Str) (R:List Ru):cO .eq (.lst (R.map (ruD N))) (.lst [])=.ok (.bl R.isEmpty):=by
 show (if D.cA 11 (R.map (ruD N))&&D.cA 11 [] then Res.ok (D.bl (uM (R.map (ruD N)) [])) else .bad)=_;rw [zX,D.cA];cases R <;> rfl
theorem lX {N:List Str} {ρ:List D} {i:Nat} {t:Tk} (h:cU i ρ=.ok (tkD N t)):b2 getD (cU i) jX ρ=.ok (sy N t.1)/\b2 getD (cU i) fJ ρ=.ok (sy N t.2.1)/\b2 getD (cU i) nC ρ=.ok (sy N t.2.2.1)/\b2 getD (cU i) iZ ρ=.ok (.tup (t.2.2.2.map (sy N))):=⟨aG h rfl rfl,aG h rfl rfl,aG h rfl rfl,aG h rfl rfl⟩
structure Mat (m:Nat) (M:List Rw) (T:List Tk) (Hd:List Rw):Prop where
 m3:m<=3
 ml:M.length<=10
 tl:T.length<=10
 hl:Hd.length<=50
 mg:∀r∈M,r.1<26/\r.2.1<26/\(∀i∈r.2.2,i<26)/\r.2.2.length<=3
 tg:∀t∈T,t.1<26/\t.2.1<m/\t.2.2.1<26/\(∀i∈t.2.2.2,i<26)/\t.2.2.2.length<=2
 hg:∀r∈Hd,r.1<26/\r.2.1<26/\(∀i∈r.2.2,i<m)/\r.2.2.length<=3
 ba:∀k,k<m->∃r∈Hd,r.2.1=k/\r.2.2=[]
noncomputable def kn (ow be:List Nat):List Rw:=(List.range be.length).map fun j=>(ow.getD j 0,be.getD j 0,[])
structure aEr (M:List Rw) (T:List Tk) (Hd:List Rw) (t:Tk) (r:Rw) (u:Ru):Prop where
 n1:u.1=t.1
 n2:u.2.1=r.1
 ol:u.2.2.1.length=(r.2.2++t.2.2.2).length
 on:u.2.2.1.Nodup
 oi:∀i∈u.2.2.1,13<=i/\i<18
 rn:Run (kn u.2.2.1 (r.2.2++t.2.2.2)++Hd) [t.2.1] u.2.2.2
 wl:u.2.2.2.length<=100
def oi (e:Int) (s j:Nat):Nat:=13+((e+(0+(j:Int))*s) % 5).toNat
theorem aCp {e:Int} {s j k:Nat} (hs:1<=s/\s<=4) (hj:j<5) (hk:k<5) (h:oi e s j=oi e s k):j=k:=by
 unfold oi at h;have:s=1\/s=2\/s=3\/s=4:=by lia
 rcases this with g|g|g|g <;> subst g <;> omega
theorem aCq (e:Int) (s j:Nat):13<=oi e s j/\oi e s j<18:=by
 unfold oi;lia
noncomputable abbrev rst (hD:D) (N:List Str) (M:List Rw) (T:List Tk) (Hd:List Rw) (cell:Int) (R:List Ru) (t r a b c d e f g i:D):List D:=[hD,.lst (M.map (rwD N)),.lst (T.map (tkD N)),.lst ((List.range 26).map (sy N)),.lst (Hd.map (rwD N)),.int cell,.lst (R.map (ruD N)),t,r,a,b,c,d,e,f,g,i]
theorem NZ {N:List Str} {M:List Rw} {T:List Tk} {Hd:List Rw} {cell:Int} {R:List Ru} {t r a e f g i:D} {s:Nat} (hs:s<=4):∀(c j:Nat) (O:List Nat) (d:D),O.length+c<=100->∃d',∀hD,lO (tg1 12) rin ((List.range' j c).map fun (k:Nat)=>D.int (0+(k:Int))) (rst hD N M T Hd cell R t r a (.int s) (.lst (O.map (sy N))) d e f g i)=.ok (.nx (rst hD N M T Hd cell R t r a (.int s) (.lst ((O++(List.range' j c).map (oi (cell / 3+R.length) s)).map (sy N))) d' e f g i))
 | 0,j,O,d,_=>⟨d,fun hD=>by rw [List.range'_zero,List.map_nil,List.map_nil,List.append_nil];rfl⟩
 | c+1,j,O,d,h=>by
  obtain ⟨d',q⟩:=NZ (N:=N) (M:=M) (T:=T) (Hd:=Hd) (cell:=cell) (R:=R) (t:=t) (r:=r) (a:=a) (e:=e) (f:=f) (g:=g) (i:=i) hs c (j+1) (O++[oi (cell / 3+R.length) s j]) (.int (0+(j:Int))) (by rw [List.length_append,List.length_singleton];lia);refine ⟨d',fun hD=>?_⟩;have q:=q hD;rw [List.range'_succ,List.map_cons,List.map_cons];rw [List.append_assoc] at q;have hl:∀ρ:List D,cU 6 ρ=.ok (.lst (R.map (ruD N)))->(bA jY (aB fW aO)) ρ=.ok (.int R.length):=fun ρ g=>bB (aD g rfl) (by
   show Res.ok (D.int ((R.map (ruD N)).length:Int))=_;rw [List.length_map])
  have ho:=aCq (cell / 3+R.length) s j;have ha:=oK (i:=11) (f:=b2 getD d9 (b2 (aR .add) WQ (b2 (aR .mod) (b2 (aR .add) (b2 (aR .add) (b2 (aR .fdiv) iU iZ) (bA jY (aB fW aO))) (b2 rF iT iY)) TF))) (ρ:=rst hD N M T Hd cell R t r a (.int s) (.lst (O.map (sy N))) (.int (0+(j:Int))) e f g i) (xs:=O.map (sy N)) (d:=sy N (oi (cell / 3+R.length) s j)) (aG rfl (aG rfl (aG (aG (aG (aG (x:=.int cell) rfl rfl (cZ _ _ (by decide) (by decide))) (hl _ rfl) (d_ _ _)) (aG (x:=.int (0+(j:Int))) (y:=.int s) rfl rfl (n_ _ _ (sU _ (by lia) (by lia)))) (d_ _ _)) rfl (bU _ _ (by decide))) (d_ _ _)) (dR (by unfold oi;lia) (by lia))) rfl (by rw [List.length_map,aU];lia) rfl;refine bT (ρ1:=rst hD N M T Hd cell R t r a (.int s) (.lst (O.map (sy N))) (.int (0+(j:Int))) e f g i) rfl (ha.trans ?_) q;rw [List.map_append];rfl
theorem ZC (i:Int) (h0:0<=i) (h1:i<3):∃t:Nat,getD (.lst [.int 7,.int 14,.int 40]) (.int i)=.ok (.int t)/\1<=t/\t<=40:=by
 have:i=0\/i=1\/i=2:=by lia
 rcases this with h|h|h <;> subst h
 ·exact ⟨7,rfl,by decide,by decide⟩
 ·exact ⟨14,rfl,by decide,by decide⟩
 ·exact ⟨40,rfl,by decide,by decide⟩
section
variable {N:List Str} (hN:N.length=26) (hd:N.Nodup)
include hN hd
theorem R8 {cs:List Int} {n:Nat} {m:Nat} {M:List Rw} {T:List Tk} {Hd:List Rw} (G:Mat m M T Hd) {cell:Int} {R:List Ru} {t:Tk} (ht:t∈T) {r:Rw} (hr:r∈M) (hk:r.2.1=t.2.2.1) (hn:n<=4000) (hR:R.length<=1000) (a b c d e f g i:D) :
  ∃(u:Ru) (n':Nat) (a' b' c' d' e' f' g':D),aEr M T Hd t r u/\n'<=n+100/\∀z,ri (rst (.cel z (dk cs n)) N M T Hd cell R (tkD N t) (rwD N r) a b c d e f g i)=.ok (.nx (rst (.cel z (dk cs n')) N M T Hd cell (R++[u]) (tkD N t) (rwD N r) a' b' c' d' e' f' g' i)):=by
 obtain ⟨u1,u2,u3,u4⟩:=G.mg r hr;obtain ⟨v1,v2,v3,v4,v5⟩:=G.tg t ht;have m3:=G.m3;generalize hbe:r.2.2++t.2.2.2=be;have lbe:be.length<=5:=by rw [<-hbe,List.length_append];lia
 have mbe:∀x∈be,x<26:=fun x hx=>by
  rw [<-hbe,List.mem_append] at hx;rcases hx with h|h
  ·exact u3 x h
  ·exact v4 x h
 let s:Nat:=1+R.length % 4
 have hs:1<=s/\s<=4:=by show 1<=1+R.length % 4/\1+R.length % 4<=4;lia
 generalize hOw:(List.range' 0 be.length).map (oi (cell / 3+R.length) s)=Ow;have lOw:Ow.length=be.length:=by rw [<-hOw,List.length_map,List.length_range']
 have mOw:∀x∈Ow,13<=x/\x<18:=fun x hx=>by
  rw [<-hOw] at hx;obtain ⟨j,_,rfl⟩:=List.mem_map.mp hx;exact aCq ..
 have nOw:Ow.Nodup:=by
  rw [<-hOw,List.nodup_iff_pairwise_ne,List.pairwise_map];refine List.Pairwise.imp_of_mem ?_ (List.nodup_iff_pairwise_ne.mp (List.nodup_range' (s:=0) (n:=be.length) (step:=1) (by decide)));intro j k hj hk hne e;rw [List.mem_range'_1] at hj hk;exact hne (aCp hs (by lia) (by lia) e)
 have P:aD9 m (kn Ow be++Hd):=by
  refine ⟨m3,?_,fun x hx=>?_,fun k hk=>?_⟩
  ·unfold kn;have:=G.hl;rw [List.length_append,List.length_map,List.length_range];lia
  ·rcases List.mem_append.mp hx with h|h
   ·unfold kn at h;obtain ⟨j,hj,rfl⟩:=List.mem_map.mp h;have hj:=List.mem_range.mp hj;refine ⟨?_,?_,fun i hi=>by simp at hi,by simp⟩
    ·show Ow.getD j 0<26;rw [List.getD_eq_getElem?_getD,List.getElem?_eq_getElem (by lia)];have:=mOw _ (List.getElem_mem (l:=Ow) (n:=j) (by lia));show Ow[j]<26;lia
    ·show be.getD j 0<26;rw [List.getD_eq_getElem?_getD,List.getElem?_eq_getElem (by lia)];exact mbe _ (List.getElem_mem (l:=be) (n:=j) (by lia))
   ·exact G.hg x h
  ·obtain ⟨r,hr,e⟩:=G.ba k hk;exact ⟨r,List.mem_append_right _ hr,e⟩
 obtain ⟨rm,o1,o2,o3⟩:=ZC (cell % 3) (by lia) (by lia);generalize hrm:(if R.isEmpty then rm else 7)=room;have hroom:1<=room/\room<=40:=by
  rw [<-hrm];split <;> lia
 obtain ⟨V,n',w1,w2,w3,w4⟩:=R7 hN hd cs (n:=n) P v2 hroom.1 (by lia) hn;obtain ⟨d1,q3⟩:∃d1,∀hD,lO (tg1 12) rin ((List.range' 0 be.length).map fun (k:Nat)=>D.int (0+(k:Int))) (rst hD N M T Hd cell R (tkD N t) (rwD N r) (tw N be) (.int s) (.lst []) d e f g i)=.ok (.nx (rst hD N M T Hd cell R (tkD N t) (rwD N r) (tw N be) (.int s) (.lst (Ow.map (sy N))) d1 e f g i)):=by
  obtain ⟨d1,q⟩:=NZ (N:=N) (M:=M) (T:=T) (Hd:=Hd) (cell:=cell) (R:=R) (t:=tkD N t) (r:=rwD N r) (a:=tw N be) (e:=e) (f:=f) (g:=g) (i:=i) hs.2 be.length 0 [] d (by simp;lia);refine ⟨d1,fun hD=>?_⟩;have q:=q hD;rw [List.nil_append,hOw] at q;exact q
 refine ⟨(t.1,r.1,Ow,V),n',tw N be,.int s,.lst (Ow.map (sy N)),d1,.lst ((kn Ow be).map (rwD N)),.int room,.lst (V.map (sy N)),⟨rfl,rfl,by rw [hbe];exact lOw,nOw,mOw,by rw [hbe];exact w1,w2⟩,w3,fun z=>?_⟩;have lnb:∀ρ:List D,cU 9 ρ=.ok (tw N be)->(bA jY (aB oR aO)) ρ=.ok (.int be.length):=fun ρ g=>bB (aD g rfl) (by
  show Res.ok (D.int ((be.map (sy N)).length:Int))=_;rw [List.length_map])
 have hcnd:rc (rst (.cel z (dk cs n)) N M T Hd cell R (tkD N t) (rwD N r) a b c d e f g i)=.ok true:=(dW (aG (jV (i:=8) (r:=r) rfl).2.1 (lX (i:=7) (t:=t) rfl).2.2.1 (zW hN hd u2 v3))).trans (by rw [decide_eq_true hk]);have s0:rb0 (rst (.cel z (dk cs n)) N M T Hd cell R (tkD N t) (rwD N r) a b c d e f g i)=.ok (.nx (rst (.cel z (dk cs n)) N M T Hd cell R (tkD N t) (rwD N r) (tw N be) b c d e f g i)):=by
  refine gB (i:=9) (d:=tw N be) (aG (jV (i:=8) (r:=r) rfl).2.2 (lX (i:=7) (t:=t) rfl).2.2.2 ?_) (oE ..);show (if decide ((r.2.2.map (sy N)).length+(t.2.2.2.map (sy N)).length<=lim) then Res.ok (D.tup (r.2.2.map (sy N)++t.2.2.2.map (sy N))) else .bad)=_;rw [List.length_map,List.length_map,aU,decide_eq_true (by lia),<-List.map_append,hbe];rfl
 have s1:rb1 (rst (.cel z (dk cs n)) N M T Hd cell R (tkD N t) (rwD N r) (tw N be) b c d e f g i)=.ok (.nx (rst (.cel z (dk cs n)) N M T Hd cell R (tkD N t) (rwD N r) (tw N be) (.int s) c d e f g i)):=by
  have es:((s:Nat):Int)=1+(R.length:Int) % 4:=by show ((1+R.length % 4:Nat):Int)=_;lia
  unfold rst;rw [es];refine dC (i:=10) (aG (x:=.int 1) rfl (aG (x:=.int R.length) (bB (aD rfl rfl) ?_) rfl (bU _ _ (by decide))) (d_ _ _));show Res.ok (D.int ((R.map (ruD N)).length:Int))=_;rw [List.length_map]
 have s2:rb2 (rst (.cel z (dk cs n)) N M T Hd cell R (tkD N t) (rwD N r) (tw N be) (.int s) c d e f g i)=.ok (.nx (rst (.cel z (dk cs n)) N M T Hd cell R (tkD N t) (rwD N r) (tw N be) (.int s) (.lst []) d e f g i)):=d8 (i:=11) rfl rfl;have s3:rb3 (rst (.cel z (dk cs n)) N M T Hd cell R (tkD N t) (rwD N r) (tw N be) (.int s) (.lst []) d e f g i)=.ok (.nx (rst (.cel z (dk cs n)) N M T Hd cell R (tkD N t) (rwD N r) (tw N be) (.int s) (.lst (Ow.map (sy N))) d1 e f g i)):=kZ (oJ (n:=(be.length:Int)) (aD (lnb _ rfl) rfl) (by lia) (by lia)) (by rw [Int.toNat_natCast,List.range_eq_range'];exact q3 _);have s4:rb4 (rst (.cel z (dk cs n)) N M T Hd cell R (tkD N t) (rwD N r) (tw N be) (.int s) (.lst (Ow.map (sy N))) d1 e f g i)=.ok (.nx (rst (.cel z (dk cs n)) N M T Hd cell R (tkD N t) (rwD N r) (tw N be) (.int s) (.lst (Ow.map (sy N))) d1 (.lst ((kn Ow be).map (rwD N))) f g i)):=by
  refine dC (i:=13) ?_;unfold kn;rw [List.map_map];refine fL (n:=17) (fun k:Nat=>D.int (0+(k:Int))) _ (List.range be.length) rfl (oJ (n:=(be.length:Int)) (aD (lnb _ rfl) rfl) (by lia) (by lia)) (by rw [List.length_range];lia) fun j hj=>?_
  have hj:=List.mem_range.mp hj;have e1:Ow[j]?=some (Ow.getD j 0):=by rw [List.getD_eq_getElem?_getD,List.getElem?_eq_getElem (by lia)];rfl
  have e2:be[j]?=some (be.getD j 0):=by rw [List.getD_eq_getElem?_getD,List.getElem?_eq_getElem hj];rfl
  exact ⟨b7 (aD (aG rfl rfl (tR (by lia) e1)) (aD (aG (x:=tw N be) rfl rfl (zV (by lia) e2)) (aD (b7 (xs:=[]) rfl (by rw [aU];simp)) rfl))) (by rw [aU];simp),rfl⟩
 have s5:rb5 (rst (.cel z (dk cs n)) N M T Hd cell R (tkD N t) (rwD N r) (tw N be) (.int s) (.lst (Ow.map (sy N))) d1 (.lst ((kn Ow be).map (rwD N))) f g i)=.ok (.nx (rst (.cel z (dk cs n)) N M T Hd cell R (tkD N t) (rwD N r) (tw N be) (.int s) (.lst (Ow.map (sy N))) d1 (.lst ((kn Ow be).map (rwD N))) (.int 7) g i)):=dC (i:=14) rfl;have s6:rb6 (rst (.cel z (dk cs n)) N M T Hd cell R (tkD N t) (rwD N r) (tw N be) (.int s) (.lst (Ow.map (sy N))) d1 (.lst ((kn Ow be).map (rwD N))) (.int 7) g i)=.ok (.nx (rst (.cel z (dk cs n)) N M T Hd cell R (tkD N t) (rwD N r) (tw N be) (.int s) (.lst (Ow.map (sy N))) d1 (.lst ((kn Ow be).map (rwD N))) (.int room) g i)):=by
  refine XH (dW (aG rfl rfl (aEe N R))) ?_;rw [<-hrm];cases R.isEmpty
  ·rw [if_neg (by simp),if_neg (by simp)];rfl
  ·rw [if_pos rfl,if_pos rfl];exact gB (i:=14) (aG rfl (aG (x:=.int cell) rfl rfl (bU _ _ (by decide))) o1) rfl
 have hargs:(aB (b2 (aR .add) IK fH) (aB (bPu (b2 getD dX fJ)) (aB wN aO))) (rst (.cel z (dk cs n)) N M T Hd cell R (tkD N t) (rwD N r) (tw N be) (.int s) (.lst (Ow.map (sy N))) d1 (.lst ((kn Ow be).map (rwD N))) (.int room) g i)=.ok [.lst ((kn Ow be++Hd).map (rwD N)),sy N t.2.1,.int room]:=by
  rw [List.map_append];refine aD (aG (x:=.lst ((kn Ow be).map (rwD N))) (y:=.lst (Hd.map (rwD N))) rfl rfl (mF _ _ ?_ (aX (cG N) _) (aX (cG N) _))) (aD (MF (lX (i:=7) (t:=t) rfl).2.1 rfl) (aD rfl rfl));unfold kn;have:=G.hl;rw [List.length_map,List.length_map,List.length_map,List.length_range,aU];lia
 have s7:rb7 (rst (.cel z (dk cs n)) N M T Hd cell R (tkD N t) (rwD N r) (tw N be) (.int s) (.lst (Ow.map (sy N))) d1 (.lst ((kn Ow be).map (rwD N))) (.int room) g i)=.ok (.nx (rst (.cel z (dk cs n')) N M T Hd cell R (tkD N t) (rwD N r) (tw N be) (.int s) (.lst (Ow.map (sy N))) d1 (.lst ((kn Ow be).map (rwD N))) (.int room) (.lst (V.map (sy N))) i)):=gD (i:=15) (lD (i:=0) hargs rfl rfl w4 (lK ..) rfl) rfl;have s8:=oK (i:=6) (f:=cL (aB (b2 getD dX jX) (aB (b2 getD j5 jX) (aB (bA dF (aB iD aO)) (aB (bA dF (aB (cU 15) aO)) aO))))) (ρ:=rst (.cel z (dk cs n')) N M T Hd cell R (tkD N t) (rwD N r) (tw N be) (.int s) (.lst (Ow.map (sy N))) d1 (.lst ((kn Ow be).map (rwD N))) (.int room) (.lst (V.map (sy N))) i) (xs:=R.map (ruD N)) (d:=ruD N (t.1,r.1,Ow,V)) (b7 (aD (lX (i:=7) (t:=t) rfl).1 (aD (jV (i:=8) (r:=r) rfl).1 (aD (bB (aD rfl rfl) rfl) (aD (bB (aD rfl rfl) rfl) rfl)))) (by rw [aU];simp)) rfl (by rw [List.length_map,aU];lia) (iV ..);refine F_ hcnd (aK s0 (aK s1 (aK s2 (aK s3 (aK s4 (aK s5 (aK s6 (aK s7 (s8.trans ?_)))))))));unfold rst;rw [List.map_append];rfl
end
end Lk47
end
section
namespace Lk47
open PySem L2 Mi
noncomputable def prs (t:Tk) (L:List Rw):List (Nat×Nat):=(L.filter fun r=>decide (r.2.1=t.2.2.1)).map fun r=>(t.1,r.1)
def prT (T:List Tk) (M:List Rw):List (Nat×Nat):=T.flatMap fun t=>prs t M
def pq (u:Ru):Nat×Nat:=(u.1,u.2.1)
noncomputable def Good (M:List Rw) (T:List Tk) (Hd:List Rw) (u:Ru):Prop:=∃t∈T,∃r∈M,r.2.1=t.2.2.1/\aEr M T Hd t r u
theorem aFr (v:Int):uN .gt [.int 1,.int v]=.ok (.int (if 1<v then v else 1)):=by
 show nF .gt [.int 1,.int v]=_;have h:∀x y:Int,oX .gt (.int x) (.int y)=some (decide (y<x)):=fun x y=>rfl
 have hall:([D.int 1,D.int v].all fun x=>x.bN a_&&[D.int 1,D.int v].all fun y=>(oX .gt x y).isSome)=true:=by
  simp only [List.all_cons,List.all_nil,h,Option.isSome_some,Bool.and_true];rfl
 rw [nF,if_pos hall];simp only [List.foldl_cons,List.foldl_nil,h,Option.getD_some];by_cases hr:1<v
 ·simp [hr]
 ·simp [hr]
section
variable {N:List Str} (hN:N.length=26) (hd:N.Nodup)
include hN hd
theorem xZ {cs:List Int} {m:Nat} {M:List Rw} {T:List Tk} {Hd:List Rw} (G:Mat m M T Hd) {cell:Int} {t:Tk} (ht:t∈T) {i:D}:∀(L:List Rw),(∀r∈L,r∈M)->∀(n:Nat) (R:List Ru) (x a b c d e f g:D),n+100*L.length<=4000->R.length+L.length<=1000->
  ∃(E:List Ru) (n':Nat) (x' a' b' c' d' e' f' g':D),E.map pq=prs t L/\(∀u∈E,Good M T Hd u)/\E.length<=L.length/\n'<=n+100*L.length/\∀z,lO (tg1 8) ri (L.map (rwD N)) (rst (.cel z (dk cs n)) N M T Hd cell R (tkD N t) x a b c d e f g i)=.ok (.nx (rst (.cel z (dk cs n')) N M T Hd cell (R++E) (tkD N t) x' a' b' c' d' e' f' g' i))
 | [],_,n,R,x,a,b,c,d,e,f,g,_,_=>⟨[],n,x,a,b,c,d,e,f,g,rfl,fun _ h=>by simp at h,by simp,by lia,fun z=>by rw [List.append_nil];rfl⟩
 | r::L,hL,n,R,x,a,b,c,d,e,f,g,h1,h2=>by
  rw [List.length_cons] at h1 h2;have hr:=hL r (List.mem_cons_self ..);by_cases hk:r.2.1=t.2.2.1
  ·obtain ⟨u,n1,a1,b1,c1,d1,e1,f1,g1,q1,q2,q3⟩:=R8 hN hd (cs:=cs) (n:=n) G (cell:=cell) (R:=R) ht hr hk (by lia) (by lia) a b c d e f g i;obtain ⟨E,n',x',a',b',c',d',e',f',g',p1,p2,p3,p4,p5⟩:=xZ G ht L (fun y hy=>hL y (List.mem_cons_of_mem _ hy)) n1 (R++[u]) (rwD N r) a1 b1 c1 d1 e1 f1 g1 (by lia) (by rw [List.length_append,List.length_singleton];lia);refine ⟨u::E,n',x',a',b',c',d',e',f',g',?_,fun y hy=>?_,by rw [List.length_cons,List.length_cons];lia,by rw [List.length_cons];lia,fun z=>?_⟩
   ·unfold prs at p1 ⊢;rw [List.filter_cons_of_pos (by simpa using hk),List.map_cons,List.map_cons,p1];unfold pq;rw [q1.n1,q1.n2]
   ·rcases List.mem_cons.mp hy with h|h
    ·exact h▸⟨t,ht,r,hr,hk,q1⟩
    ·exact p2 y h
   ·rw [List.map_cons];refine bT (ρ1:=rst (.cel z (dk cs n)) N M T Hd cell R (tkD N t) (rwD N r) a b c d e f g i) rfl (q3 z) ?_;rw [p5 z,List.append_assoc];rfl
  ·obtain ⟨E,n',x',a',b',c',d',e',f',g',p1,p2,p3,p4,p5⟩:=xZ G ht L (fun y hy=>hL y (List.mem_cons_of_mem _ hy)) n R (rwD N r) a b c d e f g (by lia) (by lia);refine ⟨E,n',x',a',b',c',d',e',f',g',?_,p2,by rw [List.length_cons];lia,by rw [List.length_cons];lia,fun z=>?_⟩
   ·unfold prs at p1 ⊢;rw [List.filter_cons_of_neg (by simpa using hk),p1]
   ·rw [List.map_cons];obtain ⟨u1,u2,_,_⟩:=G.mg r hr;obtain ⟨v1,v2,v3,_,_⟩:=G.tg t ht;refine bT (ρ1:=rst (.cel z (dk cs n)) N M T Hd cell R (tkD N t) (rwD N r) a b c d e f g i) rfl (o5 ((dW (aG (jV (i:=8) (r:=r) rfl).2.1 (lX (i:=7) (t:=t) rfl).2.2.1 (zW hN hd u2 v3))).trans (by rw [decide_eq_false hk])) rfl) (p5 z)
theorem N5 {cs:List Int} {m:Nat} {M:List Rw} {T:List Tk} {Hd:List Rw} (G:Mat m M T Hd) {cell:Int} {i:D}:∀(L:List Tk),(∀r∈L,r∈T)->∀(n:Nat) (R:List Ru) (y x a b c d e f g:D),n+100*(M.length*L.length)<=4000->R.length+10*L.length<=900->
  ∃(E:List Ru) (n':Nat) (y' x' a' b' c' d' e' f' g':D),E.map pq=prT L M/\(∀u∈E,Good M T Hd u)/\E.length<=10*L.length/\∀z,lO (tg1 7) (pG 1 (tg1 8) ri) (L.map (tkD N)) (rst (.cel z (dk cs n)) N M T Hd cell R y x a b c d e f g i)=.ok (.nx (rst (.cel z (dk cs n')) N M T Hd cell (R++E) y' x' a' b' c' d' e' f' g' i))
 | [],_,n,R,y,x,a,b,c,d,e,f,g,_,_=>⟨[],n,y,x,a,b,c,d,e,f,g,rfl,fun _ h=>by simp at h,by simp,fun z=>by rw [List.append_nil];rfl⟩
 | t::L,hL,n,R,y,x,a,b,c,d,e,f,g,h1,h2=>by
  rw [List.length_cons] at h1 h2;have ml:=G.ml;rw [Nat.mul_add,Nat.mul_one] at h1;obtain ⟨E1,n1,x1,a1,b1,c1,d1,e1,f1,g1,q1,q2,q3,q4,q5⟩:=xZ hN hd (cs:=cs) G (cell:=cell) (hL t (List.mem_cons_self ..)) (i:=i) M (fun _ h=>h) n R x a b c d e f g (by lia) (by lia);obtain ⟨E,n',y',x',a',b',c',d',e',f',g',p1,p2,p3,p5⟩:=N5 G L (fun y hy=>hL y (List.mem_cons_of_mem _ hy)) n1 (R++E1) (tkD N t) x1 a1 b1 c1 d1 e1 f1 g1 (by lia) (by rw [List.length_append];lia);refine ⟨E1++E,n',y',x',a',b',c',d',e',f',g',?_,fun y hy=>?_,by rw [List.length_append,List.length_cons];lia,fun z=>?_⟩
  ·unfold prT at p1 ⊢;rw [List.map_append,q1,p1,List.flatMap_cons]
  ·rcases List.mem_append.mp hy with h|h
   ·exact q2 y h
   ·exact p2 y h
  ·rw [List.map_cons];refine bT (ρ1:=rst (.cel z (dk cs n)) N M T Hd cell R (tkD N t) x a b c d e f g i) rfl (pU rfl rfl (q5 z)) ?_;rw [p5 z,List.append_assoc]
theorem R9 (cs:List Int) {n m:Nat} {M:List Rw} {T:List Tk} {Hd:List Rw} (G:Mat m M T Hd) (hn:n+100*(M.length*T.length)<=3900):∃(R:List Ru) (n':Nat),(R.map pq).Perm (prT T M)/\(∀u∈R,Good M T Hd u)/\R.length<=100/\ch1 fQ (dk cs n) [.lst (M.map (rwD N)),.lst (T.map (tkD N)),.lst ((List.range 26).map (sy N)),.lst (Hd.map (rwD N))]=.ok (.lst (R.map (ruD N)),dk cs n'):=by
 obtain ⟨cell,q1⟩:=h_ cs n (by lia);have tl:=G.tl;obtain ⟨R,n',y,x,a,b,c,d,e,f,g,p1,p2,p3,p4⟩:=N5 hN hd (cs:=cs) G (cell:=cell) (i:=.uD) T (fun _ h=>h) (n+1) [] .uD .uD .uD .uD .uD .uD .uD .uD .uD (by lia) (by simp;lia);rw [List.nil_append] at p4;generalize hl:(if (1:Int)<R.length then (R.length:Int) else 1)=w;have hw:0<w:=by rw [<-hl];split <;> lia
 obtain ⟨at_,a1,a2⟩:∃k:Nat,cell / 15 % w=k/\(k:Int)<w:=by
  have h1:0<=cell / 15 % w:=Int.emod_nonneg _ (by lia);have h2:cell / 15 % w<w:=Int.emod_lt_of_pos _ hw;exact ⟨(cell / 15 % w).toNat,by lia,by lia⟩
 have pm:(R.drop at_++R.take at_).Perm R:=by
  have:=List.perm_append_comm (l₁:=R.drop at_) (l₂:=R.take at_);rwa [List.take_append_drop] at this
 refine ⟨R.drop at_++R.take at_,n',?_,fun u hu=>p2 u (pm.mem_iff.mp hu),by rw [pm.length_eq];lia,u_ fun z=>rJ (k:=1) (ρ:=rst (.cel z (dk cs n')) N M T Hd cell R y x a b c d e f g (.int at_)) ?_⟩
 ·rw [<-p1];exact pm.map _
 have s1:pG 2 (tg1 7) (pG 1 (tg1 8) ri) (rst (.cel z (dk cs (n+1))) N M T Hd cell [] .uD .uD .uD .uD .uD .uD .uD .uD .uD .uD)=.ok (.nx (rst (.cel z (dk cs n')) N M T Hd cell R y x a b c d e f g .uD)):=pU rfl rfl (p4 z);refine aK (ρ':=[.cel z (dk cs (n+1)),.lst (M.map (rwD N)),.lst (T.map (tkD N)),.lst ((List.range 26).map (sy N)),.lst (Hd.map (rwD N)),.int cell,.uD,.uD,.uD,.uD,.uD,.uD,.uD,.uD,.uD,.uD,.uD]) (gD (i:=5) (qG q1 rfl rfl) rfl) ?_;refine aK (ρ':=rst (.cel z (dk cs (n+1))) N M T Hd cell [] .uD .uD .uD .uD .uD .uD .uD .uD .uD .uD) (d8 (i:=6) rfl rfl) ?_;refine aK s1 ?_;refine aK (ρ':=rst (.cel z (dk cs n')) N M T Hd cell R y x a b c d e f g (.int at_)) (dC (i:=16) (aG (aG (x:=.int cell) rfl rfl (cZ _ _ (by decide) (by decide))) (y:=.int w) (bB (aD rfl (aD (x:=.int R.length) (bB (aD rfl rfl) ?_) rfl)) ((aFr _).trans (by rw [hl]))) ((bU _ _ hw).trans (by rw [a1])))) ?_
 ·show Res.ok (D.int ((R.map (ruD N)).length:Int))=_;rw [List.length_map]
 refine tO (aG (x:=.lst ((R.drop at_).map (ruD N))) (y:=.lst ((R.take at_).map (ruD N))) ?_ ?_ ((mF _ _ ?_ (aX (iV N) _) (aX (iV N) _)).trans (by rw [List.map_append]))) rfl
 ·rw [List.map_drop,<-tQ];exact qI rfl (jU rfl) rfl (aX (iV N) _)
 ·rw [List.map_take,<-M6];exact qI rfl rfl (jU rfl) (aX (iV N) _)
 ·rw [List.length_map,List.length_map,List.length_drop,List.length_take,aU];lia
end
end Lk47
end
section
namespace Lk47
open PySem L2 Mi
theorem call_v {n m:Nat} {f:FS} {ds:List D} {d:D} (h:f (ds++List.replicate (m-n) D.uD)=.ok (.rt d)):fnS n m f ds=.ok d:=by
 unfold fnS;rw [h];rfl
theorem zY {a:FT} {ρ:List D} {b:Bool} (h:a ρ=.ok b):O7 a ρ=.ok (!b):=by
 unfold O7;rw [h,Res.aM];rfl
theorem N6 {a:FE} {ρ:List D} {b:Bool} (h:a ρ=.ok (.bl b)):bTr a ρ=.ok b:=by
 unfold bTr;rw [h,Res.aM];rfl
def hdV (N:List Str) (r:Rw):D:=.tup [sy N r.2.1,.tup (r.2.2.map (sy N))]
def hdD (N:List Str) (F:List Rw):List (D×D):=F.map fun r=>(sy N r.1,hdV N r)
def tr (t:Tk):Rw:=(t.1,t.2.1,t.2.2.1::t.2.2.2)
theorem tV (N:List Str) (r:Rw):(hdV N r).pure=true:=by
 show ((sy N r.2.1).pure&&((D.tup (r.2.2.map (sy N))).pure&&true))=true;rw [D.pure,cN];rfl
theorem ZD {H:List Rw} {st w:List Nat} (h:Run H st w):st.length<=w.length:=by
 induction h with
 | nil=>exact Nat.le_refl _
 | step hr _ ih=>
  rw [List.length_append] at ih;rw [List.length_cons,List.length_cons];lia
section
variable {N:List Str} (hN:N.length=26) (hd:N.Nodup)
include hN hd
theorem qJ {α:Type} (nm:α->Nat) (g:α->D) {i:Nat} (hi:i<26) (v:D):∀(L:List α),(∀a∈L,nm a<26)->i∉L.map nm->putD (L.map fun a=>(sy N (nm a),g a)) (sy N i) v=(L.map fun a=>(sy N (nm a),g a))++[(sy N i,v)]
 | [],_,_=>rfl
 | a::L,h1,h2=>by
  rw [List.map_cons,List.mem_cons,not_or] at h2;rw [List.map_cons,putD,vZ hN hd (h1 a (List.mem_cons_self ..)) hi,decide_eq_false (fun g=>h2.1 g.symm),if_neg (by simp),qJ nm g hi v L (fun b hb=>h1 b (List.mem_cons_of_mem _ hb)) h2.2];rfl
omit hN hd in
theorem N7 {α:Type} (nm:α->Nat) (g:α->D) (L:List α) (i:Nat):qN (L.map fun a=>(sy N (nm a),g a)) (sy N i)=true:=by
 show (true&&(L.map fun a=>(sy N (nm a),g a)).all fun p=>isTup p.1==false)=true;rw [Bool.true_and,List.all_eq_true];intro y hy;obtain ⟨k,_,rfl⟩:=List.mem_map.mp hy;rfl
theorem zZ {pr e f g h:D} (e5:D):∀(M L:List Rw),((L++M).map (·.1)).Nodup->(∀r∈L++M,r.1<26)->L.length+M.length<=1000->∀(a b c:D),∃a' b' c',lO (tgN [2,3,4]) (QR 1 cV (cL (aB d9 (aB fH aO)))) (M.map (rwD N)) [pr,.dct (hdD N L),a,b,c,e5,f]=.ok (.nx [pr,.dct (hdD N (L++M)),a',b',c',e5,f])
 | [],L,_,_,_,a,b,c=>⟨a,b,c,by rw [List.append_nil];rfl⟩
 | r::M,L,h1,h2,h3,a,b,c=>by
  have hr:r.1<26:=h2 r (by simp);have hn:r.1∉L.map (·.1):=fun hm=>by
   rw [List.map_append,List.map_cons,List.nodup_append] at h1;exact h1.2.2 _ hm _ (List.mem_cons_self ..) rfl
  have e1:hdD N (L++[r])=putD (hdD N L) (sy N r.1) (hdV N r):=by
   unfold hdD;rw [qJ hN hd (fun r:Rw=>r.1) (hdV N) hr _ L (fun x hx=>h2 x (by simp [hx])) hn,List.map_append];rfl
  rw [List.length_cons] at h3;obtain ⟨a',b',c',q⟩:=zZ (pr:=pr) (e:=e) (f:=f) (g:=g) (h:=h) e5 M (L++[r]) (by rw [List.append_assoc];exact h1) (by rw [List.append_assoc];exact h2) (by rw [List.length_append,List.length_singleton];lia) (sy N r.1) (sy N r.2.1) (.tup (r.2.2.map (sy N)));refine ⟨a',b',c',?_⟩;rw [List.map_cons];rw [List.append_assoc] at q;refine bT (ρ1:=[pr,.dct (hdD N L),sy N r.1,sy N r.2.1,.tup (r.2.2.map (sy N)),e5,f]) rfl (J4 (i:=1) (kvs:=hdD N L) (k:=sy N r.1) (d:=hdV N r) (b7 (aD rfl (aD rfl rfl)) (by rw [aU];simp)) rfl rfl (by unfold hdD;rw [List.length_map,aU];lia) (N7 ..) (tV ..)) ?_;rw [<-e1];exact q
theorem z6 {pr:D}:∀(T:List Tk) (L:List Rw),((L++T.map tr).map (·.1)).Nodup->(∀r∈L++T.map tr,r.1<26)->L.length+T.length<=1000->(∀t∈T,t.2.2.2.length<=10)->∀(a b c d e:D),∃a' b' c' d' e',lO (tgN [2,3,5,6]) (QR 1 cV (cL (aB d9 (aB (b2 xJ (cL (aB iU aO)) fW) aO)))) (T.map (tkD N)) [pr,.dct (hdD N L),a,b,c,d,e]=.ok (.nx [pr,.dct (hdD N (L++T.map tr)),a',b',c',d',e'])
 | [],L,_,_,_,_,a,b,c,d,e=>⟨a,b,c,d,e,by rw [show L++List.map tr []=L from List.append_nil L];rfl⟩
 | t::T,L,h1,h2,h3,h4,a,b,c,d,e=>by
  have hr:(tr t).1<26:=h2 (tr t) (by simp);have hn:(tr t).1∉L.map (·.1):=fun hm=>by
   rw [List.map_cons,List.map_append,List.map_cons,List.nodup_append] at h1;exact h1.2.2 _ hm _ (List.mem_cons_self ..) rfl
  have e1:hdD N (L++[tr t])=putD (hdD N L) (sy N (tr t).1) (hdV N (tr t)):=by
   unfold hdD;rw [qJ hN hd (fun r:Rw=>r.1) (hdV N) hr _ L (fun x hx=>h2 x (List.mem_append_left _ hx)) hn,List.map_append];rfl
  rw [List.length_cons] at h3;obtain ⟨a',b',c',d',e',q⟩:=z6 (pr:=pr) T (L++[tr t]) (by rw [List.append_assoc];exact h1) (by rw [List.append_assoc];exact h2) (by rw [List.length_append,List.length_singleton];lia) (fun x hx=>h4 x (List.mem_cons_of_mem _ hx)) (sy N t.1) (sy N t.2.1) c (sy N t.2.2.1) (.tup (t.2.2.2.map (sy N)));refine ⟨a',b',c',d',e',?_⟩;rw [List.map_cons];rw [List.append_assoc] at q;have hl:=h4 t (List.mem_cons_self ..);have had:xJ (.tup [sy N t.2.2.1]) (.tup (t.2.2.2.map (sy N)))=.ok (.tup ((tr t).2.2.map (sy N))):=by
   show (if decide ([sy N t.2.2.1].length+(t.2.2.2.map (sy N)).length<=lim) then Res.ok (D.tup ([sy N t.2.2.1]++t.2.2.2.map (sy N))) else .bad)=_;rw [List.length_map,aU,decide_eq_true (by simp;lia)];rfl
  refine bT (ρ1:=[pr,.dct (hdD N L),sy N t.1,sy N t.2.1,c,sy N t.2.2.1,.tup (t.2.2.2.map (sy N))]) rfl (J4 (i:=1) (kvs:=hdD N L) (k:=sy N (tr t).1) (d:=hdV N (tr t)) (b7 (aD rfl (aD (aG (b7 (aD rfl rfl) (by rw [aU];simp)) rfl had) rfl)) (by rw [aU];simp)) rfl rfl (by unfold hdD;rw [List.length_map,aU];lia) (N7 ..) (tV ..)) ?_;rw [<-e1];exact q
structure Hds (F:List Rw):Prop where
 nd:(F.map (·.1)).Nodup
 lt:∀r∈F,r.1<26/\r.2.1<26/\(∀i∈r.2.2,i<26)/\r.2.2.length<=10
 ln:F.length<=100
theorem R_ {M:List Rw} {T:List Tk} (F:Hds (M++T.map tr)) {P0 P3:D}:lJ [.tup [P0,.tup (M.map (rwD N)),.tup (T.map (tkD N)),P3]]=.ok (.dct (hdD N (M++T.map tr))):=by
 have hl:=F.ln;rw [List.length_append,List.length_map] at hl;obtain ⟨a,b,c,q1⟩:=zZ hN hd (pr:=.tup [P0,.tup (M.map (rwD N)),.tup (T.map (tkD N)),P3]) (e:=.uD) (f:=.uD) (g:=.uD) (h:=.uD) .uD M [] (by have:=F.nd;rw [List.map_append,List.nodup_append] at this;exact this.1) (fun r hr=>(F.lt r (List.mem_append_left _ hr)).1) (by simp;lia) .uD .uD .uD;obtain ⟨a2,b2',c2,d2,e2,q2⟩:=z6 hN hd (pr:=.tup [P0,.tup (M.map (rwD N)),.tup (T.map (tkD N)),P3]) T M F.nd (fun r hr=>(F.lt r hr).1) (by lia) (fun t ht=>by have:=(F.lt (tr t) (List.mem_append_right _ (List.mem_map_of_mem ht))).2.2.2;have e:(tr t).2.2.length=t.2.2.2.length+1:=rfl;lia) a b c .uD .uD;refine call_v ?_;refine aK (ρ':=[.tup [P0,.tup (M.map (rwD N)),.tup (T.map (tkD N)),P3],.dct [],.uD,.uD,.uD,.uD,.uD]) (d8 (i:=1) rfl rfl) ?_;refine aK (kZ ((cQ (aG rfl rfl rfl)).trans (by rw [aX (cG N)];rfl)) q1) ?_;exact aK (kZ ((cQ (aG rfl rfl rfl)).trans (by rw [aX (iB N)];rfl)) q2) rfl
theorem v6 {F:List Rw} (hF:Hds F) {r:Rw} (hr:r∈F):getD (.dct (hdD N F)) (sy N r.1)=.ok (hdV N r):=by
 show (if true then Res.ofOpt (cJ (hdD N F) (sy N r.1)) else .bad)=_;unfold hdD;rw [if_pos rfl,tU hN hd (fun r:Rw=>r.1) (hdV N) F hF.nd (fun a ha=>(hF.lt a ha).1) r hr];rfl
end
end Lk47
end
section
namespace Lk47
open PySem L2 Mi
def hb0:FS:=(sIf (O7 (bTr fH)) (pO) (jL))
noncomputable def hb1:FS:=(b_ false 6 (bA (kE 3 lA) (aB iC (aB iU (aB d9 aO)))) true)
noncomputable def hb2:FS:=(aBj (xTB (x2R (cO .ne) (bPu (b2 getD fW jX)) (DQ 4))) (pO) (jL))
def hb3:FS:=(X3 4 (b1 UV (b2 getD fW fJ)))
def hb:FS:=(bD hb0 (bD hb1 (bD hb2 hb3)))
theorem SJ {a:FE} {ρ xs:List D} (h1:a ρ=.ok (.tup xs)) (hx:D.aV xs=true) (hl:1<=xs.length):lW a (eN fJ) fB ρ=.ok (.tup (xs.drop 1)):=by
 unfold lW;rw [h1,Res.aM,jU (i:=1) rfl,Res.aM];have e0:∀d:Nat,FW xs.length d (some (1:Int))=1:=fun d=>by
  unfold FW;dsimp only;rw [if_neg (by lia)];lia
 show (if !D.aV xs||decide (FW xs.length 0 (some (1:Int))=0/\FW xs.length xs.length none=xs.length) then Res.bad else Res.ok (D.tup (cutD xs (some (1:Int)) none)))=_;rw [hx,e0,decide_eq_false (by lia),if_neg (by simp)];rw [show ((1:Int))=((1:Nat):Int) from rfl,tQ]
noncomputable def sn (N:List Str) (S:List Nat):List (D×D):=(.str "copy",.bl true)::(.str "drop",.bl true)::S.map fun i=>(sy N i,.bl true)
theorem U7 (N:List Str) (S:List Nat) (i:Nat):qN (sn N S) (sy N i)=true:=by
 show (true&&((D.str "copy",D.bl true)::(D.str "drop",D.bl true)::S.map fun i=>(sy N i,D.bl true)).all fun p=>isTup p.1==false)=true;rw [Bool.true_and,List.all_eq_true];intro y hy;rcases List.mem_cons.mp hy with h|h
 ·subst h;rfl
 ·rcases List.mem_cons.mp h with h|h
  ·subst h;rfl
  ·obtain ⟨k,_,rfl⟩:=List.mem_map.mp h;rfl
theorem aCr (N:List Str) (S:List Nat):(sn N S).length=S.length+2:=by
 unfold sn;simp
theorem ZG (N:List Str) (S:List Nat):inner (.dct (sn N S))=true:=by
 show D.aV ((sn N S).map (·.2))=true;unfold sn;rw [List.map_cons,List.map_cons,List.map_map,D.aV,D.aV,aX (fun _=>rfl)];rfl
section
variable {N:List Str} (H:Nms N)
include H
theorem aEf {i:Nat} (hi:i<26):eqD (.str "copy") (sy N i)=false/\eqD (.str "drop") (sy N i)=false:=by
 have hl:i<N.length:=by have:=H.len;lia
 have e:N.getD i "" = N[i]:=by rw [List.getD_eq_getElem?_getD,List.getElem?_eq_getElem hl];rfl
 have hm:N[i]∈N:=List.getElem_mem hl;refine ⟨?_,?_⟩
 ·show (("copy" : Str)==N.getD i "")=false;rw [e];exact beq_eq_false_iff_ne.mpr fun z=>H.nc (z▸hm)
 ·show (("drop" : Str)==N.getD i "")=false;rw [e];exact beq_eq_false_iff_ne.mpr fun z=>H.nr (z▸hm)
theorem qK {α:Type} (nm:α->Nat) (g:α->D) {i:Nat} (hi:i<26):∀(L:List α),(∀a∈L,nm a<26)->i∉L.map nm->cJ (L.map fun a=>(sy N (nm a),g a)) (sy N i)=none
 | [],_,_=>rfl
 | a::L,h1,h2=>by
  rw [List.map_cons,List.mem_cons,not_or] at h2;rw [List.map_cons,cJ,vZ H.len H.nd (h1 a (List.mem_cons_self ..)) hi,decide_eq_false (fun g=>h2.1 g.symm),if_neg (by simp)];exact qK nm g hi L (fun b hb=>h1 b (List.mem_cons_of_mem _ hb)) h2.2
theorem aCs {S:List Nat} (hS:∀i∈S,i<26) {i:Nat} (hi:i<26) (hn:i∉S):cJ (sn N S) (sy N i)=none/\putD (sn N S) (sy N i) (.bl true)=sn N (S++[i]):=by
 obtain ⟨h1,h2⟩:=aEf H hi;unfold sn;refine ⟨?_,?_⟩
 ·rw [cJ,h1,if_neg (by simp),cJ,h2,if_neg (by simp)];exact qK H (fun i=>i) (fun _=>.bl true) hi S hS (by rw [List.map_id'];exact hn)
 ·rw [putD,h1,if_neg (by simp),putD,h2,if_neg (by simp)];rw [qJ H.len H.nd (fun i:Nat=>i) (fun _=>.bl true) hi (.bl true) S hS (by rw [List.map_id'];exact hn),List.map_append];rfl
theorem z7 {S:List Nat} (hS:∀i∈S,i<26) (hl:S.length<=1000) {i:Nat} (hi:i<26) (hn:i∉S) {j:Nat} {f:FE} {ρ:List D} (hf:f ρ=.ok (sy N i)) (hρ:ρ.getD j .uD=.dct (sn N S)):K7 j f ρ=.ok (.nx (ρ.set j (.dct (sn N (S++[i]))))):=by
 obtain ⟨h1,h2⟩:=aCs H hS hi hn;unfold K7;rw [hf,Res.aM,hρ];dsimp only;rw [if_pos,h2];rw [U7,h1,aCr,aU,decide_eq_true (by lia)];rfl
theorem z8 {K l:List Nat} (hK:∀i∈K,i<26) (hl:∀i∈l,i∈K) {P1 P2 P3:D}:dB [.tup [tw N K,P1,P2,P3],tw N l]=.ok .non:=by
 have loop:∀(l:List Nat) (x:D),(∀i∈l,i∈K)->∃x',lO (tg1 2) (sIf (bTB (b2 (cO .notin) cV (b2 getD iC jX))) (pO) (jL)) (l.map (sy N)) [.tup [tw N K,P1,P2,P3],tw N l,x]=.ok (.nx [.tup [tw N K,P1,P2,P3],tw N l,x']):=by
  intro l0
  suffices h:∀(y:D) (l:List Nat) (x:D),(∀i∈l,i∈K)->∃x',lO (tg1 2) (sIf (bTB (b2 (cO .notin) cV (b2 getD iC jX))) (pO) (jL)) (l.map (sy N)) [.tup [tw N K,P1,P2,P3],y,x]=.ok (.nx [.tup [tw N K,P1,P2,P3],y,x']) from h (tw N l0) l0
  intro y l;induction l with
  | nil=>exact fun x _=>⟨x,rfl⟩
  | cons i l ih=>
   intro x hl;have hi:=hl i (List.mem_cons_self ..);obtain ⟨x',q⟩:=ih (sy N i) fun k hk=>hl k (List.mem_cons_of_mem _ hk)
   refine ⟨x',?_⟩;rw [List.map_cons];exact bT (ρ1:=[.tup [tw N K,P1,P2,P3],y,sy N i]) rfl (o5 (dW (aG rfl (aG rfl rfl (z:=tw N K) rfl) ((R6 H.len H.nd (hK i hi) hK).trans (by rw [decide_eq_true hi];rfl)))) rfl) q
 obtain ⟨x',q⟩:=loop l .uD hl;have:jR [.tup [tw N K,P1,P2,P3],tw N l,.uD]=.ok (.nx [.tup [tw N K,P1,P2,P3],tw N l,x']):=pU (xs:=l.map (sy N)) rfl rfl q;show (do let r <- jR [.tup [tw N K,P1,P2,P3],tw N l,.uD];aEk r)=_;rw [this];rfl
noncomputable def kd (N:List Str) (ow be:List Nat):List (D×D):=(kn ow be).map fun r=>(sy N r.1,sy N r.2.1)
omit H in
theorem tW {ow be:List Nat} (h:ow.length=be.length):(kn ow be).map (·.1)=ow:=by
 unfold kn;rw [List.map_map];apply List.ext_getElem
 ·simp [h]
 ·intro i h1 h2;simp [List.getD_eq_getElem?_getD,h2]
theorem ZJ {F:List Rw} (hF:Hds F) {Hd:List Rw} (hs:∀r∈Hd,r∈F) {ow be:List Nat} (hl:ow.length=be.length) (hn:ow.Nodup) (ho:∀i∈ow,i<26/\i∉F.map (·.1)) {r:Rw} (hr:r∈kn ow be++Hd):lA [.dct (hdD N F),sy N r.1,.dct (kd N ow be)]=.ok (hdV N r):=by
 have inD:∀(L:List Rw) (g:Rw->D) (i:Nat),cO .isin (sy N i) (.dct (L.map fun r=>(sy N r.1,g r)))=.ok (.bl (cJ (L.map fun r=>(sy N r.1,g r)) (sy N i)).isSome):=fun L g i=>by
  show (if qN (L.map fun r=>(sy N r.1,g r)) (sy N i) then Res.ok (D.bl (cJ (L.map fun r=>(sy N r.1,g r)) (sy N i)).isSome) else .bad)=_;rw [N7];rfl
 refine call_v ?_;by_cases hm:r∈Hd
 ·have hrF:=hs r hm;have hlk:cJ (hdD N F) (sy N r.1)=some (hdV N r):=by
   unfold hdD;exact tU H.len H.nd (fun r:Rw=>r.1) (hdV N) F hF.nd (fun a ha=>(hF.lt a ha).1) r hrF
  refine vW (F_ (dW (aG rfl rfl ((inD F (hdV N) r.1).trans ?_))) (pR (aG rfl rfl (v6 H.len H.nd hF hrF)) (tV ..)));unfold hdD at hlk;rw [hlk];rfl
 ·have hk:r∈kn ow be:=(List.mem_append.mp hr).resolve_right hm;have hro:r.1∈ow:=by rw [<-tW hl];exact List.mem_map_of_mem (f:=(·.1)) hk
  obtain ⟨o1,o2⟩:=ho _ hro;have hp:r.2.2=[]:=by
   unfold kn at hk;obtain ⟨j,_,rfl⟩:=List.mem_map.mp hk;rfl
  have hno:cJ (hdD N F) (sy N r.1)=none:=by
   unfold hdD;exact qK H (fun r:Rw=>r.1) (hdV N) o1 F (fun a ha=>(hF.lt a ha).1) o2
  have hyes:cJ (kd N ow be) (sy N r.1)=some (sy N r.2.1):=by
   unfold kd;exact tU H.len H.nd (fun r:Rw=>r.1) (fun r=>sy N r.2.1) (kn ow be) (by rw [tW hl];exact hn) (fun a ha=>(ho _ (by rw [<-tW hl];exact List.mem_map_of_mem (f:=(·.1)) ha)).1) r hk
  have hv:hdV N r=.tup [sy N r.2.1,.tup []]:=by
   unfold hdV;rw [hp];rfl
  rw [hv];refine aK (o5 (dW (aG rfl rfl ((inD F (hdV N) r.1).trans ?_))) rfl) (vW (F_ (dW (aG rfl rfl ((inD (kn ow be) (fun r=>sy N r.2.1) r.1).trans ?_))) (pR (b7 (aD (x:=sy N r.2.1) (aG rfl rfl ?_) (aD (b7 (xs:=[]) rfl (by rw [aU];simp)) rfl)) (by rw [aU];simp)) rfl)))
  ·unfold hdD at hno;rw [hno];rfl
  ·unfold kd at hyes;rw [hyes];rfl
  ·show (if true then Res.ofOpt (cJ (kd N ow be) (sy N r.1)) else .bad)=_;rw [if_pos rfl,hyes];rfl
theorem aCt {F:List Rw} (hF:Hds F) {Hd:List Rw} (hs:∀r∈Hd,r∈F) {ow be:List Nat} (hl:ow.length=be.length) (hn:ow.Nodup) (ho:∀i∈ow,i<26/\i∉F.map (·.1)) (hbe:∀i∈be,i<26) {pa wd:D} {st w:List Nat} (R:Run (kn ow be++Hd) st w):w.length<=500->∀x y:D,∃x' y',lO (tg1 5) hb (w.map (sy N)) [.dct (hdD N F),pa,wd,.dct (kd N ow be),.lst (st.reverse.map (sy N)),x,y]=.ok (.nx [.dct (hdD N F),pa,wd,.dct (kd N ow be),.lst [],x',y']):=by
 induction R with
 | nil=>exact fun _ x y=>⟨x,y,rfl⟩
 | @step r rest W hr R ih=>
  intro hwl x y;rw [List.length_cons] at hwl;obtain ⟨x',y',q⟩:=ih (by lia) (sy N r.1) (hdV N r);have hrl:=ZD R;rw [List.length_append] at hrl;have l2:r.2.1<26/\r.2.2.length<=10:=by
   rcases List.mem_append.mp hr with g|g
   ·unfold kn at g;obtain ⟨j,hj,rfl⟩:=List.mem_map.mp g;have hj:=List.mem_range.mp hj;refine ⟨?_,by simp⟩;show be.getD j 0<26;rw [List.getD_eq_getElem?_getD,List.getElem?_eq_getElem hj];exact hbe _ (List.getElem_mem hj)
   ·exact ⟨(hF.lt r (hs r g)).2.1,(hF.lt r (hs r g)).2.2.2⟩
  refine ⟨x',y',?_⟩;rw [List.map_cons];refine bT (ρ1:=[.dct (hdD N F),pa,wd,.dct (kd N ow be),.lst ((r.2.1::rest).reverse.map (sy N)),sy N r.1,y]) rfl ?_ q;have e:(r.2.1::rest).reverse.map (sy N)=rest.reverse.map (sy N)++[sy N r.2.1]:=by
   rw [List.reverse_cons,List.map_append];rfl
  rw [e];have s0:hb0 [.dct (hdD N F),pa,wd,.dct (kd N ow be),.lst (rest.reverse.map (sy N)++[sy N r.2.1]),sy N r.1,y]=.ok (.nx [.dct (hdD N F),pa,wd,.dct (kd N ow be),.lst (rest.reverse.map (sy N)++[sy N r.2.1]),sy N r.1,y]):=by
   have ht:bTr fH [.dct (hdD N F),pa,wd,.dct (kd N ow be),.lst (rest.reverse.map (sy N)++[sy N r.2.1]),sy N r.1,y]=.ok true:=by
    show aEm (.lst (rest.reverse.map (sy N)++[sy N r.2.1]))=_;cases rest.reverse.map (sy N) <;> rfl
   exact o5 (zY (b:=true) ht) rfl
  have s1:hb1 [.dct (hdD N F),pa,wd,.dct (kd N ow be),.lst (rest.reverse.map (sy N)++[sy N r.2.1]),sy N r.1,y]=.ok (.nx [.dct (hdD N F),pa,wd,.dct (kd N ow be),.lst (rest.reverse.map (sy N)++[sy N r.2.1]),sy N r.1,hdV N r]):=dC (i:=6) (bB (aD rfl (aD rfl (aD rfl rfl))) ((d7 rfl).trans (ZJ H hF hs hl hn ho hr)));have s2:hb2 [.dct (hdD N F),pa,wd,.dct (kd N ow be),.lst (rest.reverse.map (sy N)++[sy N r.2.1]),sy N r.1,hdV N r]=.ok (.nx [.dct (hdD N F),pa,wd,.dct (kd N ow be),.lst (rest.reverse.map (sy N)),sy N r.1,hdV N r]):=by
   have hpop:DQ 4 [.dct (hdD N F),pa,wd,.dct (kd N ow be),.lst (rest.reverse.map (sy N)++[sy N r.2.1]),sy N r.1,hdV N r]=.ok (sy N r.2.1,[.dct (hdD N F),pa,wd,.dct (kd N ow be),.lst (rest.reverse.map (sy N)),sy N r.1,hdV N r]):=by
    unfold DQ;rw [show [D.dct (hdD N F),pa,wd,.dct (kd N ow be),.lst (rest.reverse.map (sy N)++[sy N r.2.1]),sy N r.1,hdV N r].getD 4 .uD=.lst (rest.reverse.map (sy N)++[sy N r.2.1]) from rfl];dsimp only;rw [List.length_append,List.length_singleton,Nat.add_sub_cancel,List.getElem?_append_right (Nat.le_refl _),Nat.sub_self,List.dropLast_concat];rfl
   refine aC9 (k:=false) (aC8 (U0 (x:=sy N r.2.1) (MF (aG rfl rfl rfl) rfl) hpop ((NQ H.len H.nd l2.1 l2.1).trans (by rw [decide_eq_true rfl];rfl)) rfl)) ?_;rw [if_neg (by simp)];rfl
  have s3:hb3 [.dct (hdD N F),pa,wd,.dct (kd N ow be),.lst (rest.reverse.map (sy N)),sy N r.1,hdV N r]=.ok (.nx [.dct (hdD N F),pa,wd,.dct (kd N ow be),.lst ((r.2.2++rest).reverse.map (sy N)),sy N r.1,hdV N r]):=by
   have hx:=U6 (i:=4) (ρ:=[.dct (hdD N F),pa,wd,.dct (kd N ow be),.lst (rest.reverse.map (sy N)),sy N r.1,hdV N r]) (f:=b1 UV (b2 getD fW fJ)) (xs:=rest.reverse.map (sy N)) (ys:=r.2.2.reverse.map (sy N)) (M8 (aG rfl rfl (z:=.tup (r.2.2.map (sy N))) rfl) (by
    show (if D.aV (r.2.2.map (sy N))&&decide ((r.2.2.map (sy N)).length<=lim) then Res.ok (D.lst (r.2.2.map (sy N)).reverse) else .bad)=_;rw [cN,List.length_map,aU,decide_eq_true (by lia),<-List.map_reverse];rfl)) rfl (by rw [List.length_map,List.length_reverse,List.length_map,List.length_reverse];lia) (cN ..)
   refine hx.trans ?_;have e7:((r.2.2++rest).reverse.map (sy N))=rest.reverse.map (sy N)++r.2.2.reverse.map (sy N):=by rw [List.reverse_append,List.map_append]
   rw [e7];rfl
  exact aK s0 (aK s1 (aK s2 s3))
end
end Lk47
end
section
namespace Lk47
open PySem L2 Mi
def cb0:FS:=(sIf (bTB (b2 (cO .notin) fW fH)) (pO) (jL))
def cb1:FS:=(sIf (bTB (b2 (cO .notin) dX d9)) (pO) (jL))
noncomputable def cb2:FS:=(sIf (bTB (b2 (cO .ne) (b2 getD (b2 getD cV dX) jX) (b2 getD (b2 getD (b2 getD cV fW) fJ) jX))) (pO) (jL))
noncomputable def cb3:FS:=(sIf (bTB (b2 inX (cL (aB fW (aB dX aO))) iU)) (pO) (jL))
def cb4:FS:=(QR 5 (cL (aB fW (aB dX aO))) (bC (.bl true)))
noncomputable def cb5:FS:=(pF (bA (kE 4 fV) (aB cV (aB oR (aB (b2 getD (b2 getD cV fW) jX) (aB (bA (kE 5 dM) (aB cV (aB fW (aB dX (aB j5 (aB fG aO)))))) aO))))))
def cb:FS:=(bD cb0 (bD cb1 (bD cb2 (bD cb3 (bD cb4 cb5)))))
theorem N8 {n m:Nat} {f:FS} {ds ρ':List D} (h:f (ds++List.replicate (m-n) D.uD)=.ok (.nx ρ')):fnS n m f ds=.ok .non:=by
 unfold fnS;rw [h];rfl
theorem ZK (o b:Nat) (ow be:List Nat):kn (o::ow) (b::be)=(o,b,[])::kn ow be:=by
 unfold kn;rw [List.length_cons,List.range_succ_eq_map,List.map_cons,List.map_map];rfl
theorem z9 (N:List Str):∀l:List Nat,(l.map (sy N)).all j_=true
 | []=>rfl
 | i::l=>by
  rw [List.map_cons,List.all_cons,z9 N l];rfl
theorem qL {f:FE} {ρ:List D} {d:D} (h:f ρ=.ok d):pF f ρ=.ok (.nx ρ):=by
 unfold pF;rw [h];rfl
def pD (N:List Str) (p:Nat×Nat):D:=.tup [sy N p.1,sy N p.2]
noncomputable def ad (N:List Str) (L:List (Nat×Nat)):List (D×D):=L.map fun p=>(pD N p,.bl true)
theorem N_ (N:List Str) (p:Nat×Nat) (n:Nat):(pD N p).bN (n+1)=true:=by
 unfold pD;rw [D.bN,D.cA,D.cA,D.cA];unfold sy;rw [D.bN,D.bN] <;> simp
theorem A_ (N:List Str) (n:Nat):∀L:List (Nat×Nat),D.cA (n+1) (L.map (pD N))=true
 | []=>by rw [List.map_nil,D.cA]
 | p::L=>by rw [List.map_cons,D.cA,N_,A_ N n L];rfl
section
variable {N:List Str} (H:Nms N)
include H
theorem U8 {i:Nat} {l:List Nat} (hi:i<26) (hl:∀j∈l,j<26):cO .notin (sy N i) (.lst (l.map (sy N)))=.ok (.bl (!decide (i∈l))):=by
 show (if (sy N i).bN a_&&D.cA a_ (l.map (sy N)) then Res.ok (D.bl (!(l.map (sy N)).any fun y=>eqD y (sy N i))) else .bad)=_;rw [oA,nA,M7 H.len H.nd hi l hl];rfl
theorem ZL {F:List Rw} (hF:Hds F) {Hd:List Rw} (hs:∀r∈Hd,r∈F) {ow be:List Nat} (hl:ow.length=be.length) (hn:ow.Nodup) (ho:∀i∈ow,i<26/\i∉F.map (·.1)) (hbe:∀i∈be,i<26) {k:Nat} {W:List Nat} (R:Run (kn ow be++Hd) [k] W) (hW:W.length<=500):fV [.dct (hdD N F),tw N W,sy N k,.dct (kd N ow be)]=.ok .non:=by
 obtain ⟨x,y,q⟩:=aCt H hF hs hl hn ho hbe (pa:=tw N W) (wd:=sy N k) R hW .uD .uD;refine N8 (ρ':=[.dct (hdD N F),tw N W,sy N k,.dct (kd N ow be),.lst [],x,y]) ?_;refine aK (ρ':=[.dct (hdD N F),tw N W,sy N k,.dct (kd N ow be),.lst [sy N k],.uD,.uD]) (d8 (i:=4) rfl rfl) ?_;exact aK (pU (xs:=W.map (sy N)) rfl rfl q) (o5 rfl rfl)
theorem U9:∀(ow be:List Nat) (acc:List Rw),ow.length=be.length->(acc.map (·.1)++ow).Nodup->(∀i∈acc.map (·.1)++ow,i<26)->m7 (ow.map (sy N)) (be.map (sy N)) (acc.map fun r=>(sy N r.1,sy N r.2.1))=(acc++kn ow be).map fun r=>(sy N r.1,sy N r.2.1)
 | [],[],acc,_,_,_=>by
  show acc.map _=(acc++kn [] []).map _;rw [show kn [] []=[] from rfl,List.append_nil]
 | [],b::be,acc,h,_,_=>by simp at h
 | o::ow,[],acc,h,_,_=>by simp at h
 | o::ow,b::be,acc,h,h2,h3=>by
  rw [List.map_cons,List.map_cons,m7,ZK];have hno:o∉acc.map (·.1):=fun hm=>by
   rw [List.nodup_append] at h2;exact h2.2.2 _ hm _ (List.mem_cons_self ..) rfl
  rw [qJ H.len H.nd (fun r:Rw=>r.1) (fun r=>sy N r.2.1) (h3 o (by simp)) _ acc (fun a ha=>h3 _ (List.mem_append_left _ (List.mem_map_of_mem (f:=(·.1)) ha))) hno];have e:(acc.map fun r:Rw=>(sy N r.1,sy N r.2.1))++[(sy N o,sy N b)]=(acc++[((o,b,[]):Rw)]).map fun r=>(sy N r.1,sy N r.2.1):=by rw [List.map_append];rfl
  rw [e,U9 ow be (acc++[(o,b,[])]) (by simpa using h) (by rw [List.map_append,List.append_assoc];exact h2) (by rw [List.map_append,List.append_assoc];exact h3),List.append_assoc];rfl
theorem SM {F:List Rw} (hF:Hds F) {t:Tk} (ht:tr t∈F) {r:Rw} (hr:r∈F) {ow S:List Nat} (hl:ow.length=(r.2.2++t.2.2.2).length) (hn:ow.Nodup) (ho:∀i∈ow,i<26/\i∉S) (hS:∀i∈S,i<26) (hSl:S.length<=500) :
  dM [.dct (hdD N F),sy N t.1,sy N r.1,tw N ow,.dct (sn N S)]=.ok (.dct (kd N ow (r.2.2++t.2.2.2))):=by
 obtain ⟨a1,a2,a3,a4⟩:=hF.lt _ ht;obtain ⟨b1',b2',b3,b4⟩:=hF.lt _ hr;have a5:t.2.2.2.length+1<=10:=a4;have hol:ow.length<=20:=by rw [hl,List.length_append];lia
 have sees:∀(L D0:List Nat) (x:D),(D0++L).Nodup->(∀i∈D0++L,i<26/\i∉S)->D0.length+L.length<=100->∃x',lO (tg1 7) (K7 6 dX) (L.map (sy N)) [.dct (hdD N F),sy N t.1,sy N r.1,tw N ow,.dct (sn N S),tw N (r.2.2++t.2.2.2),.dct (sn N (S++D0)),x]=.ok (.nx [.dct (hdD N F),sy N t.1,sy N r.1,tw N ow,.dct (sn N S),tw N (r.2.2++t.2.2.2),.dct (sn N (S++(D0++L))),x']):=by
  intro L;induction L with
  | nil=>exact fun D0 x _ _ _=>⟨x,by rw [List.append_nil];rfl⟩
  | cons i L ih=>
   intro D0 x h1 h2 h3;rw [List.length_cons] at h3;obtain ⟨x',q⟩:=ih (D0++[i]) (sy N i) (by rw [List.append_assoc];exact h1) (by rw [List.append_assoc];exact h2) (by rw [List.length_append,List.length_singleton];lia);refine ⟨x',?_⟩;rw [List.append_assoc,<-List.append_assoc S] at q;have hi:=h2 i (by simp);have hiD:i∉D0:=fun hm=>by
    rw [List.nodup_append] at h1;exact h1.2.2 _ hm _ (List.mem_cons_self ..) rfl
   rw [List.map_cons];refine bT (ρ1:=[.dct (hdD N F),sy N t.1,sy N r.1,tw N ow,.dct (sn N S),tw N (r.2.2++t.2.2.2),.dct (sn N (S++D0)),sy N i]) rfl (z7 H (S:=S++D0) (fun k hk=>?_) (by rw [List.length_append];lia) hi.1 (fun hm=>?_) (j:=6) rfl rfl) q
   ·rcases List.mem_append.mp hk with g|g
    ·exact hS k g
    ·exact (h2 k (List.mem_append_left _ g)).1
   ·rcases List.mem_append.mp hm with g|g
    ·exact hi.2 g
    ·exact hiD g
 obtain ⟨x',q⟩:=sees ow [] .uD (by simpa using hn) (by simpa using ho) (by simp;lia);rw [List.append_nil,List.nil_append] at q;refine call_v ?_;refine aK (ρ':=[.dct (hdD N F),sy N t.1,sy N r.1,tw N ow,.dct (sn N S),tw N (r.2.2++t.2.2.2),.uD,.uD]) (gB (i:=5) (d:=tw N (r.2.2++t.2.2.2)) (aG (aG (aG rfl rfl (v6 H.len H.nd hF hr)) rfl (z:=.tup (r.2.2.map (sy N))) rfl) (SJ (xs:=(tr t).2.2.map (sy N)) (aG (aG (x:=.dct (hdD N F)) (y:=sy N (tr t).1) rfl rfl (v6 H.len H.nd hF ht)) rfl rfl) (cN ..) (by rw [List.length_map];show 1<=(t.2.2.1::t.2.2.2).length;rw [List.length_cons];lia)) ?_) (oE ..)) ?_
 ·show (if decide ((r.2.2.map (sy N)).length+(t.2.2.2.map (sy N)).length<=lim) then Res.ok (D.tup (r.2.2.map (sy N)++t.2.2.2.map (sy N))) else .bad)=_;rw [List.length_map,List.length_map,aU,decide_eq_true (by lia),<-List.map_append];rfl
 refine aK (o5 (dW (aG (x:=.int ow.length) (y:=.int (r.2.2++t.2.2.2).length) (bB (aD rfl rfl) ?_) (bB (aD rfl rfl) ?_) ((MN _ _).trans (by rw [hl];simp)))) rfl) ?_
 ·show Res.ok (D.int ((ow.map (sy N)).length:Int))=_;rw [List.length_map]
 ·show Res.ok (D.int (((r.2.2++t.2.2.2).map (sy N)).length:Int))=_;rw [List.length_map]
 refine aK (ρ':=[.dct (hdD N F),sy N t.1,sy N r.1,tw N ow,.dct (sn N S),tw N (r.2.2++t.2.2.2),.dct (sn N S),.uD]) (d8 (i:=6) (bB (aD rfl rfl) ?_) (ZG N S)) ?_
 ·show (if !(sn N S).isEmpty&&((sn N S).all (fun p=>!isTup p.1)&&D.aV ((sn N S).map (·.2))) then Res.ok (D.dct (sn N S)) else .bad)=_;have hp:D.aV ((sn N S).map (·.2))=true:=ZG N S;have ha:(sn N S).all (fun p=>!isTup p.1)=true:=by
   have:=U7 N S 0;unfold qN at this;rw [Bool.and_eq_true,List.all_eq_true] at this;rw [List.all_eq_true];intro y hy;have:=this.2 y hy;have e:(isTup y.1==false)=true:=this;cases hy2:isTup y.1
   ·rfl
   ·rw [hy2] at e;cases e
  rw [hp,ha];rfl
 refine aK (pU (xs:=ow.map (sy N)) rfl rfl q) ?_;refine pR (bB (aD rfl (aD rfl rfl)) ?_) rfl;show (if decide ((ow.map (sy N)).length<=1000)&&decide (((r.2.2++t.2.2.2).map (sy N)).length=(ow.map (sy N)).length)&&(ow.map (sy N)).all j_&&D.aV ((r.2.2++t.2.2.2).map (sy N)) then Res.ok (D.dct (m7 (ow.map (sy N)) ((r.2.2++t.2.2.2).map (sy N)) [])) else .bad)=_;have hz:=U9 H ow (r.2.2++t.2.2.2) [] hl (by simpa using hn) (fun i hi=>(ho i (by simpa using hi)).1);rw [List.map_nil,List.nil_append] at hz;rw [hz,z9,cN,List.length_map,List.length_map,decide_eq_true (by lia),decide_eq_true hl.symm];rfl
theorem aCu {p q:Nat×Nat} (hp:p.1<26/\p.2<26) (hq:q.1<26/\q.2<26):eqD (pD N p) (pD N q)=decide (p=q):=by
 show (eqD (sy N p.1) (sy N q.1)&&(eqD (sy N p.2) (sy N q.2)&&true))=_;rw [vZ H.len H.nd hp.1 hq.1,vZ H.len H.nd hp.2 hq.2];obtain ⟨a,b⟩:=p;obtain ⟨c,d⟩:=q;simp [Prod.mk.injEq]
theorem U_ {q:Nat×Nat} (hq:q.1<26/\q.2<26):∀(L:List (Nat×Nat)),(∀p∈L,p.1<26/\p.2<26)->q∉L->cJ (ad N L) (pD N q)=none/\putD (ad N L) (pD N q) (.bl true)=ad N (L++[q])
 | [],_,_=>⟨rfl,rfl⟩
 | p::L,h1,h2=>by
  rw [List.mem_cons,not_or] at h2;obtain ⟨i1,i2⟩:=U_ hq L (fun x hx=>h1 x (List.mem_cons_of_mem _ hx)) h2.2;unfold ad at i1 i2 ⊢;rw [List.cons_append,List.map_cons,List.map_cons,cJ,putD,aCu H (h1 p (List.mem_cons_self ..)) hq,decide_eq_false (fun g=>h2.1 g.symm),if_neg (by simp),if_neg (by simp),i2];exact ⟨i1,rfl⟩
omit H in
theorem VB (L:List (Nat×Nat)) (q:Nat×Nat):qN (ad N L) (pD N q)=true:=by
 show (true&&(ad N L).all fun p=>isTup p.1==true)=true;rw [Bool.true_and,List.all_eq_true];intro y hy;unfold ad at hy;obtain ⟨k,_,rfl⟩:=List.mem_map.mp hy;rfl
end
end Lk47
end
section
namespace Lk47
open PySem L2 Mi
theorem SN {n:Nat} {N:List Str} {it:FI} {c:FT} {f:FE} {kk:Bool} {ρ:List D} (y:Rw->D) (p:Rw->Bool) (xs:List Rw) (hρ:ρ.length=n) (h1:it ρ=.ok (xs.map (rwD N),kk)) (h2:xs.length<=100000) (hc:∀a∈xs,c (ρ++[sy N a.1,sy N a.2.1,.tup (a.2.2.map (sy N))])=.ok (p a)) (h3:∀a∈xs,p a=true->f (ρ++[sy N a.1,sy N a.2.1,.tup (a.2.2.map (sy N))])=.ok (y a)/\(y a).pure=true):dG n it (O8 3) c f false ρ=.ok (.lst ((xs.filter p).map y)):=by
 refine sS h1 (by rw [List.length_map,aU];lia) ?_;have:∀(xs:List Rw) (acc:List D),(∀a∈xs,c (ρ++[sy N a.1,sy N a.2.1,.tup (a.2.2.map (sy N))])=.ok (p a))->(∀a∈xs,p a=true->f (ρ++[sy N a.1,sy N a.2.1,.tup (a.2.2.map (sy N))])=.ok (y a)/\(y a).pure=true)->jK (nG n (O8 3) c f false ρ) acc (xs.map (rwD N))=.ok (acc++(xs.filter p).map y):=by
  intro xs;induction xs with
  | nil=>intro acc _ _;simp [jK]
  | cons x xs ih=>
   intro acc hc h;have e:nG n (O8 3) c f false ρ acc (rwD N x)=.ok (if p x then acc++[y x] else acc):=by
    unfold nG;show (do let ok <- c (wO n ρ++[sy N x.1,sy N x.2.1,.tup (x.2.2.map (sy N))]);_)=_;rw [uY hρ,hc x (List.mem_cons_self ..),Res.aM];cases hp:p x with
    | true=>
     obtain ⟨e1,e2⟩:=h x (List.mem_cons_self ..) hp;rw [if_pos rfl,e1,Res.aM,if_pos (by rw [e2];rfl),if_pos rfl];rfl
    | false=>
     rw [if_neg (by simp),if_neg (by simp)];rfl
   rw [List.map_cons,jK,e];show jK _ _ _=_;rw [ih _ (fun a ha=>hc a (List.mem_cons_of_mem _ ha)) fun a ha=>h a (List.mem_cons_of_mem _ ha)];by_cases hp:p x
   ·simp [hp]
   ·simp [hp]
 exact (this xs [] hc h3).trans (by rw [List.nil_append])
noncomputable def prD (N:List Str) (K:List Nat) (M:List Rw) (T:List Tk) (R:List Ru):D:=.tup [tw N K,.tup (M.map (rwD N)),.tup (T.map (tkD N)),.tup (R.map (ruD N))]
theorem VD {N:List Str} {ρ:List D} {i:Nat} {u:Ru} (h:cU i ρ=.ok (ruD N u)):b2 getD (cU i) jX ρ=.ok (sy N u.1)/\b2 getD (cU i) fJ ρ=.ok (sy N u.2.1):=⟨aG h rfl rfl,aG h rfl rfl⟩
section
variable {N:List Str} (H:Nms N)
include H
theorem SQ {K:List Nat} {M:List Rw} {T:List Tk} {R:List Ru} {Hd:List Rw} (hF:Hds (M++T.map tr)) (hs:∀r∈Hd,r∈M++T.map tr) (hR:∀u∈R,Good M T Hd u) (hn:(R.map pq).Nodup) (hRl:R.length<=100) {S:List Nat} (hS:∀i∈S,i<26/\¬(13<=i/\i<18)) (hSl:S.length<=500) (hfn:∀r∈M++T.map tr,¬(13<=r.1/\r.1<18)) :
  gP [prD N K M T R,.dct (sn N S)]=.ok .non:=by
 have hM:∀i∈M.map (·.1),i<26:=fun i hi=>by obtain ⟨r,hr,rfl⟩:=List.mem_map.mp hi;exact (hF.lt r (List.mem_append_left _ hr)).1
 have hT:∀i∈T.map (·.1),i<26:=fun i hi=>by obtain ⟨t,ht,rfl⟩:=List.mem_map.mp hi;exact (hF.lt (tr t) (List.mem_append_right _ (List.mem_map_of_mem ht))).1
 have hln:=hF.ln;rw [List.length_append,List.length_map] at hln;have loop:∀(L:List Ru) (L0:List (Nat×Nat)),(∀u∈L,u∈R)->(L0++L.map pq).Nodup->(∀p∈L0,p.1<26/\p.2<26)->L0.length+L.length<=500->∀(a b c d:D),∃(a' b' c' d':D) (L1:List (Nat×Nat)),lO (tgN [6,7,8,9]) cb (L.map (ruD N)) [prD N K M T R,.dct (sn N S),.dct (hdD N (M++T.map tr)),.lst ((M.map (·.1)).map (sy N)),.lst ((T.map (·.1)).map (sy N)),.dct (ad N L0),a,b,c,d]=.ok (.nx [prD N K M T R,.dct (sn N S),.dct (hdD N (M++T.map tr)),.lst ((M.map (·.1)).map (sy N)),.lst ((T.map (·.1)).map (sy N)),.dct (ad N L1),a',b',c',d']):=by
  intro L;induction L with
  | nil=>exact fun L0 _ _ _ _ a b c d=>⟨a,b,c,d,L0,rfl⟩
  | cons u L ih=>
   intro L0 hL h1 h2 h3 a b c d;rw [List.length_cons] at h3;obtain ⟨t,ht,r,hr,hk,Q⟩:=hR u (hL u (List.mem_cons_self ..));have hrF:r∈M++T.map tr:=List.mem_append_left _ hr;have htF:tr t∈M++T.map tr:=List.mem_append_right _ (List.mem_map_of_mem ht);obtain ⟨f1,f2,f3,f4⟩:=hF.lt r hrF;obtain ⟨g1,g2,g3,g4⟩:=hF.lt _ htF;have hu1:u.1<26:=by rw [Q.n1];exact g1
   have hu2:u.2.1<26:=by rw [Q.n2];exact f1
   have hnew:pq u∉L0:=fun hm=>by
    rw [List.map_cons,List.nodup_append] at h1;exact h1.2.2 _ hm _ (List.mem_cons_self ..) rfl
   obtain ⟨k1,k2⟩:=U_ H (q:=pq u) ⟨hu1,hu2⟩ L0 h2 hnew;obtain ⟨a',b',c',d',L1,q⟩:=ih (L0++[pq u]) (fun x hx=>hL x (List.mem_cons_of_mem _ hx)) (by rw [List.append_assoc];exact h1) (fun p hp=>by
    rcases List.mem_append.mp hp with g|g
    ·exact h2 p g
    ·rw [List.mem_singleton] at g;subst g;exact ⟨hu1,hu2⟩) (by rw [List.length_append,List.length_singleton];lia) (sy N u.1) (sy N u.2.1) (tw N u.2.2.1) (tw N u.2.2.2)
   refine ⟨a',b',c',d',L1,?_⟩;rw [List.map_cons];have ht1:u.1∈T.map (·.1):=by rw [Q.n1];exact List.mem_map_of_mem (f:=(·.1)) ht
   have hr1:u.2.1∈M.map (·.1):=by rw [Q.n2];exact List.mem_map_of_mem (f:=(·.1)) hr
   have gT:getD (.dct (hdD N (M++T.map tr))) (sy N u.1)=.ok (hdV N (tr t)):=by rw [Q.n1];exact v6 H.len H.nd hF htF
   have gM:getD (.dct (hdD N (M++T.map tr))) (sy N u.2.1)=.ok (hdV N r):=by rw [Q.n2];exact v6 H.len H.nd hF hrF
   have hown:∀i∈u.2.2.1,i<26/\i∉S:=fun i hi=>⟨by have:=Q.oi i hi;lia,fun hm=>(hS i hm).2 (Q.oi i hi)⟩
   have hownF:∀i∈u.2.2.1,i<26/\i∉(M++T.map tr).map (·.1):=fun i hi=>⟨by have:=Q.oi i hi;lia,fun hm=>by
    obtain ⟨x,hx,e⟩:=List.mem_map.mp hm;exact hfn x hx (e▸Q.oi i hi)⟩
   have hbe:∀i∈r.2.2++t.2.2.2,i<26:=fun i hi=>by
    rcases List.mem_append.mp hi with g|g
    ·exact f3 i g
    ·exact g3 i (List.mem_cons_of_mem _ g)
   have kne:dM [.dct (hdD N (M++T.map tr)),sy N u.1,sy N u.2.1,tw N u.2.2.1,.dct (sn N S)]=.ok (.dct (kd N u.2.2.1 (r.2.2++t.2.2.2))):=by
    rw [Q.n1,Q.n2];exact SM H hF htF hrF Q.ol Q.on hown (fun i hi=>(hS i hi).1) hSl
   have wke:=ZL H hF hs Q.ol Q.on hownF hbe Q.rn (by have:=Q.wl;lia);have s0:cb0 [prD N K M T R,.dct (sn N S),.dct (hdD N (M++T.map tr)),.lst ((M.map (·.1)).map (sy N)),.lst ((T.map (·.1)).map (sy N)),.dct (ad N L0),sy N u.1,sy N u.2.1,tw N u.2.2.1,tw N u.2.2.2]=.ok (.nx [prD N K M T R,.dct (sn N S),.dct (hdD N (M++T.map tr)),.lst ((M.map (·.1)).map (sy N)),.lst ((T.map (·.1)).map (sy N)),.dct (ad N L0),sy N u.1,sy N u.2.1,tw N u.2.2.1,tw N u.2.2.2]):=o5 (dW (aG rfl rfl ((U8 H hu1 hT).trans (by rw [decide_eq_true ht1];rfl)))) rfl;have s1:cb1 [prD N K M T R,.dct (sn N S),.dct (hdD N (M++T.map tr)),.lst ((M.map (·.1)).map (sy N)),.lst ((T.map (·.1)).map (sy N)),.dct (ad N L0),sy N u.1,sy N u.2.1,tw N u.2.2.1,tw N u.2.2.2]=.ok (.nx [prD N K M T R,.dct (sn N S),.dct (hdD N (M++T.map tr)),.lst ((M.map (·.1)).map (sy N)),.lst ((T.map (·.1)).map (sy N)),.dct (ad N L0),sy N u.1,sy N u.2.1,tw N u.2.2.1,tw N u.2.2.2]):=o5 (dW (aG rfl rfl ((U8 H hu2 hM).trans (by rw [decide_eq_true hr1];rfl)))) rfl;have s2:cb2 [prD N K M T R,.dct (sn N S),.dct (hdD N (M++T.map tr)),.lst ((M.map (·.1)).map (sy N)),.lst ((T.map (·.1)).map (sy N)),.dct (ad N L0),sy N u.1,sy N u.2.1,tw N u.2.2.1,tw N u.2.2.2]=.ok (.nx [prD N K M T R,.dct (sn N S),.dct (hdD N (M++T.map tr)),.lst ((M.map (·.1)).map (sy N)),.lst ((T.map (·.1)).map (sy N)),.dct (ad N L0),sy N u.1,sy N u.2.1,tw N u.2.2.1,tw N u.2.2.2]):=o5 (dW (aG (x:=sy N r.2.1) (y:=sy N t.2.2.1) (aG (aG rfl rfl gM) rfl rfl) (aG (x:=.tup ((tr t).2.2.map (sy N))) (aG (aG rfl rfl gT) rfl rfl) rfl (zV (i:=0) (l:=(tr t).2.2) rfl rfl)) ((NQ H.len H.nd f2 (hk▸f2)).trans (by rw [decide_eq_true hk];rfl)))) rfl;have s3:cb3 [prD N K M T R,.dct (sn N S),.dct (hdD N (M++T.map tr)),.lst ((M.map (·.1)).map (sy N)),.lst ((T.map (·.1)).map (sy N)),.dct (ad N L0),sy N u.1,sy N u.2.1,tw N u.2.2.1,tw N u.2.2.2]=.ok (.nx [prD N K M T R,.dct (sn N S),.dct (hdD N (M++T.map tr)),.lst ((M.map (·.1)).map (sy N)),.lst ((T.map (·.1)).map (sy N)),.dct (ad N L0),sy N u.1,sy N u.2.1,tw N u.2.2.1,tw N u.2.2.2]):=by
    refine o5 (dW (aG (x:=pD N (pq u)) (y:=.dct (ad N L0)) (b7 (aD rfl (aD rfl rfl)) (by rw [aU];simp)) rfl ?_)) rfl;show (if qN (ad N L0) (pD N (pq u)) then Res.ok (D.bl (cJ (ad N L0) (pD N (pq u))).isSome) else .bad)=_;rw [VB,k1];rfl
   have s4:cb4 [prD N K M T R,.dct (sn N S),.dct (hdD N (M++T.map tr)),.lst ((M.map (·.1)).map (sy N)),.lst ((T.map (·.1)).map (sy N)),.dct (ad N L0),sy N u.1,sy N u.2.1,tw N u.2.2.1,tw N u.2.2.2]=.ok (.nx [prD N K M T R,.dct (sn N S),.dct (hdD N (M++T.map tr)),.lst ((M.map (·.1)).map (sy N)),.lst ((T.map (·.1)).map (sy N)),.dct (ad N (L0++[pq u])),sy N u.1,sy N u.2.1,tw N u.2.2.1,tw N u.2.2.2]):=by
    rw [<-k2];exact J4 (i:=5) (kvs:=ad N L0) (k:=pD N (pq u)) (d:=.bl true) rfl (b7 (aD rfl (aD rfl rfl)) (by rw [aU];simp)) rfl (by unfold ad;rw [List.length_map,aU];lia) (VB ..) rfl
   have s5:cb5 [prD N K M T R,.dct (sn N S),.dct (hdD N (M++T.map tr)),.lst ((M.map (·.1)).map (sy N)),.lst ((T.map (·.1)).map (sy N)),.dct (ad N (L0++[pq u])),sy N u.1,sy N u.2.1,tw N u.2.2.1,tw N u.2.2.2]=.ok (.nx [prD N K M T R,.dct (sn N S),.dct (hdD N (M++T.map tr)),.lst ((M.map (·.1)).map (sy N)),.lst ((T.map (·.1)).map (sy N)),.dct (ad N (L0++[pq u])),sy N u.1,sy N u.2.1,tw N u.2.2.1,tw N u.2.2.2]):=qL (bB (aD rfl (aD rfl (aD (aG (aG rfl rfl gT) rfl (z:=sy N t.2.1) rfl) (aD (bB (aD rfl (aD rfl (aD rfl (aD rfl (aD rfl rfl))))) ((d7 rfl).trans kne)) rfl)))) ((d7 rfl).trans wke));exact bT (ρ1:=[prD N K M T R,.dct (sn N S),.dct (hdD N (M++T.map tr)),.lst ((M.map (·.1)).map (sy N)),.lst ((T.map (·.1)).map (sy N)),.dct (ad N L0),sy N u.1,sy N u.2.1,tw N u.2.2.1,tw N u.2.2.2]) rfl (aK s0 (aK s1 (aK s2 (aK s3 (aK s4 s5))))) q
 obtain ⟨a,b,c,d,L1,q⟩:=loop R [] (fun _ h=>h) (by simpa using hn) (fun p hp=>by simp at hp) (by simp;lia) .uD .uD .uD .uD;refine N8 (ρ':=[prD N K M T R,.dct (sn N S),.dct (hdD N (M++T.map tr)),.lst ((M.map (·.1)).map (sy N)),.lst ((T.map (·.1)).map (sy N)),.dct (ad N L1),a,b,c,d]) ?_;refine aK (ρ':=[prD N K M T R,.dct (sn N S),.dct (hdD N (M++T.map tr)),.uD,.uD,.uD,.uD,.uD,.uD,.uD]) (dC (i:=2) (bB (aD rfl rfl) ((d7 rfl).trans (R_ H.len H.nd hF)))) ?_;refine aK (ρ':=[prD N K M T R,.dct (sn N S),.dct (hdD N (M++T.map tr)),.lst ((M.map (·.1)).map (sy N)),.uD,.uD,.uD,.uD,.uD,.uD]) (dC (i:=3) ?_) ?_
 ·rw [List.map_map];exact fL (n:=10) (k:=false) (rwD N) (fun r=>sy N r.1) M rfl (cQ (aG rfl rfl rfl)) (by lia) fun r hr=>⟨(jV (i:=10) (r:=r) rfl).1,rfl⟩
 refine aK (ρ':=[prD N K M T R,.dct (sn N S),.dct (hdD N (M++T.map tr)),.lst ((M.map (·.1)).map (sy N)),.lst ((T.map (·.1)).map (sy N)),.uD,.uD,.uD,.uD,.uD]) (dC (i:=4) ?_) ?_
 ·have e:(T.map (·.1)).map (sy N)=T.map (fun r=>sy N r.1):=by rw [List.map_map];rfl
  rw [e];exact fL (n:=10) (k:=false) (tkD N) (fun r=>sy N r.1) T rfl (cQ (aG rfl rfl rfl)) (by lia) fun r hr=>⟨(lX (i:=10) (t:=r) rfl).1,rfl⟩
 refine aK (ρ':=[prD N K M T R,.dct (sn N S),.dct (hdD N (M++T.map tr)),.lst ((M.map (·.1)).map (sy N)),.lst ((T.map (·.1)).map (sy N)),.dct [],.uD,.uD,.uD,.uD]) (d8 (i:=5) rfl rfl) ?_;exact kZ ((cQ (aG rfl rfl rfl)).trans (by rw [aX (iV N)];rfl)) q
end
end Lk47
end
section
namespace Lk47
open PySem L2 Mi
section
variable {N:List Str} (H:Nms N)
include H
theorem VF {p:Nat×Nat} (hp:p.1<26/\p.2<26):∀L:List (Nat×Nat),(∀q∈L,q.1<26/\q.2<26)->p∈L->(L.map (pD N)).any (fun y=>eqD y (pD N p))=true
 | [],_,h=>by simp at h
 | q::L,h1,h=>by
  rw [List.map_cons,List.any_cons,aCu H (h1 q (List.mem_cons_self ..)) hp];rcases List.mem_cons.mp h with e|e
  ·rw [decide_eq_true e.symm];rfl
  ·rw [VF hp L (fun x hx=>h1 x (List.mem_cons_of_mem _ hx)) e,Bool.or_true]
theorem FP {K:List Nat} {M:List Rw} {T:List Tk} {R:List Ru} (hM:∀r∈M,r.1<26/\r.2.1<26) (hT:∀t∈T,t.1<26/\t.2.2.1<26) (hR:∀u∈R,u.1<26/\u.2.1<26) (hp:∀p∈prT T M,p∈R.map pq) (hMl:M.length<=100) (hRl:R.length<=100):eU [prD N K M T R]=.ok .non:=by
 let inb:FS:=sIf (bTB (b2 (cO .notin) (cL (aB cV (aB fW aO))) fG)) (pO) (jL)
 have hRq:∀q∈R.map pq,q.1<26/\q.2<26:=fun q hq=>by obtain ⟨u,hu,rfl⟩:=List.mem_map.mp hq;exact hR u hu
 have inner:∀(t:Tk),t∈T->∀(L:List Rw),(∀r∈L,r∈M/\r.2.1=t.2.2.1)->∀x:D,∃x',lO (tg1 6) inb (L.map fun r=>sy N r.1) [prD N K M T R,.lst ((R.map pq).map (pD N)),sy N t.1,sy N t.2.1,sy N t.2.2.1,.tup (t.2.2.2.map (sy N)),x]=.ok (.nx [prD N K M T R,.lst ((R.map pq).map (pD N)),sy N t.1,sy N t.2.1,sy N t.2.2.1,.tup (t.2.2.2.map (sy N)),x']):=by
  intro t ht L;induction L with
  | nil=>exact fun _ x=>⟨x,rfl⟩
  | cons r L ih=>
   intro hL x;obtain ⟨hr,hk⟩:=hL r (List.mem_cons_self ..);obtain ⟨x',q⟩:=ih (fun y hy=>hL y (List.mem_cons_of_mem _ hy)) (sy N r.1);refine ⟨x',?_⟩;rw [List.map_cons];have hin:((t.1,r.1):Nat×Nat)∈R.map pq:=hp _ (by
    unfold prT prs;rw [List.mem_flatMap];exact ⟨t,ht,List.mem_map.mpr ⟨r,List.mem_filter.mpr ⟨hr,decide_eq_true hk⟩,rfl⟩⟩)
   refine bT (ρ1:=[prD N K M T R,.lst ((R.map pq).map (pD N)),sy N t.1,sy N t.2.1,sy N t.2.2.1,.tup (t.2.2.2.map (sy N)),sy N r.1]) rfl (o5 (dW (aG (x:=pD N (t.1,r.1)) (y:=.lst ((R.map pq).map (pD N))) (b7 (aD rfl (aD rfl rfl)) (by rw [aU];simp)) rfl ?_)) rfl) q;show (if (pD N (t.1,r.1)).bN 12&&D.cA 12 ((R.map pq).map (pD N)) then Res.ok (D.bl (!((R.map pq).map (pD N)).any fun y=>eqD y (pD N (t.1,r.1)))) else .bad)=_;rw [N_,A_,VF H ⟨(hT t ht).1,(hM r hr).1⟩ _ hRq hin];rfl
 have outer:∀(L:List Tk),(∀t∈L,t∈T)->∀a b c d x:D,∃a' b' c' d' x',lO (tgN [2,3,4,5]) (t6 (cC (dG 7 (cC (b2 getD iC fJ) false) (O8 3) (bTB (b2 (cO .eq) j5 fH)) dX false) true) (tg1 6) inb) (L.map (tkD N)) [prD N K M T R,.lst ((R.map pq).map (pD N)),a,b,c,d,x]=.ok (.nx [prD N K M T R,.lst ((R.map pq).map (pD N)),a',b',c',d',x']):=by
  intro L;induction L with
  | nil=>exact fun _ a b c d x=>⟨a,b,c,d,x,rfl⟩
  | cons t L ih=>
   intro hL a b c d x;have ht:=hL t (List.mem_cons_self ..);obtain ⟨x1,q1⟩:=inner t ht (M.filter fun r=>decide (r.2.1=t.2.2.1)) (fun r hr=>by
    have:=List.mem_filter.mp hr;exact ⟨this.1,of_decide_eq_true this.2⟩) x
   obtain ⟨a',b',c',d',x',q⟩:=ih (fun y hy=>hL y (List.mem_cons_of_mem _ hy)) (sy N t.1) (sy N t.2.1) (sy N t.2.2.1) (.tup (t.2.2.2.map (sy N))) x1;refine ⟨a',b',c',d',x',?_⟩;rw [List.map_cons];refine bT (ρ1:=[prD N K M T R,.lst ((R.map pq).map (pD N)),sy N t.1,sy N t.2.1,sy N t.2.2.1,.tup (t.2.2.2.map (sy N)),x]) rfl (kZ (lL (SN (n:=7) (N:=N) (fun r=>sy N r.1) (fun r=>decide (r.2.1=t.2.2.1)) M rfl (cQ (aG rfl rfl rfl)) (by lia) (fun r hr=>dW (aG (x:=sy N r.2.1) (y:=sy N t.2.2.1) rfl rfl (zW H.len H.nd (hM r hr).2 (hT t ht).2))) (fun r hr _=>⟨rfl,rfl⟩))) q1) q
 obtain ⟨a,b,c,d,x,q⟩:=outer T (fun _ h=>h) .uD .uD .uD .uD .uD;refine N8 (ρ':=[prD N K M T R,.lst ((R.map pq).map (pD N)),a,b,c,d,x]) ?_;refine aK (ρ':=[prD N K M T R,.lst ((R.map pq).map (pD N)),.uD,.uD,.uD,.uD,.uD]) (dC (i:=1) ?_) ?_
 ·rw [List.map_map];exact fL (n:=7) (k:=false) (ruD N) (fun u=>pD N (pq u)) R rfl (cQ (aG rfl rfl rfl)) (by lia) fun u hu=>⟨b7 (aD (VD (i:=7) (u:=u) rfl).1 (aD (VD (i:=7) (u:=u) rfl).2 rfl)) (by rw [aU];simp),rfl⟩
 exact kZ ((cQ (aG rfl rfl rfl)).trans (by rw [aX (iB N)];rfl)) q
end
theorem same_str (n:Nat) (x:Str):bG (n+1) [.str x,.str x]=.ok (.bl true):=by
 refine call_v ?_;refine vW (F_ (N6 (M8 rfl rfl)) (pR ?_ rfl));show (do let k <- asB (.bl true);if k then b2 (cO .eq) iC fG [.str x,.str x] else pure (.bl false))=_;rw [aBa,Res.aM,if_pos rfl];refine aG rfl rfl ?_;show (if (D.str x).bN a_&&(D.str x).bN a_ then Res.ok (D.bl (x==x)) else .bad)=_;rw [o6];simp
theorem v7 {α:Type}:∀l:List α,pQ (l.map fun _=>D.bl true)=some (l.map fun _=>true)
 | []=>rfl
 | a::l=>by
  rw [List.map_cons,pQ,v7 l];rfl
theorem iQ (n:Nat) (ds:List D) (hp:D.aV ds=true) (hl:ds.length<=1000) (h:∀d∈ds,bG n [d,d]=.ok (.bl true)):bG (n+1) [.tup ds,.tup ds]=.ok (.bl true):=by
 refine call_v ?_;refine aK (o5 (N6 (M8 rfl rfl)) rfl) (aK (o5 (aEa (zY (b:=true) (N6 (M8 rfl rfl))) (dW (aG (x:=.int ds.length) (y:=.int ds.length) (bB (aD rfl rfl) rfl) (bB (aD rfl rfl) rfl) ((MN _ _).trans (by simp))))) rfl) ?_);refine pR (bB (aD (x:=.lst (ds.map fun _=>.bl true)) (sS (xs:=FZ ds ds) (kk:=true) ?_ ?_ ?_) rfl) ?_) rfl
 ·unfold gW;rw [show aB iC (aB fG aO) ([D.tup ds,.tup ds]++List.replicate (2-2) .uD)=.ok [.tup ds,.tup ds] from rfl,Res.aM];show (if decide (ds.length=ds.length)&&D.aV ds&&D.aV ds then Res.ok (FZ ds ds,true) else .bad)=_;rw [hp,decide_eq_true rfl];rfl
 ·have:∀l:List D,(FZ l l).length=l.length:=fun l=>by
   induction l with
   | nil=>rfl
   | cons a l ih=>
    show (D.tup [a,a]::FZ l l).length=_;rw [List.length_cons,List.length_cons,ih]
  rw [this,aU];lia
 ·have:∀(l:List D) (acc:List D),(∀d∈l,bG n [d,d]=.ok (.bl true))->jK (nG 2 (O8 2) fX (bA (kE 2 (bG n)) (aB cV (aB d9 aO))) true [.tup ds,.tup ds]) acc (FZ l l)=.ok (acc++l.map fun _=>.bl true):=by
   intro l;induction l with
   | nil=>intro acc _;rw [List.map_nil,List.append_nil];rfl
   | cons a l ih=>
    intro acc hh;rw [show FZ (a::l) (a::l)=D.tup [a,a]::FZ l l from rfl,jK];have ha:cU 2 [.tup ds,.tup ds,a,a]=.ok a:=by
     have:=hh a (List.mem_cons_self ..);cases a <;> first|rfl|(exfalso;revert this;cases n <;> intro this <;> cases this)
    have ha3:cU 3 [.tup ds,.tup ds,a,a]=.ok a:=ha;have e:nG 2 (O8 2) fX (bA (kE 2 (bG n)) (aB cV (aB d9 aO))) true [.tup ds,.tup ds] acc (.tup [a,a])=.ok (acc++[.bl true]):=by
     unfold nG;show (do let y <- bA (kE 2 (bG n)) (aB cV (aB d9 aO)) [.tup ds,.tup ds,a,a];if (true||y.pure) then pure (acc++[y]) else .bad)=_;have hc:bA (kE 2 (bG n)) (aB cV (aB d9 aO)) [.tup ds,.tup ds,a,a]=.ok (.bl true):=bB (aD ha (aD (b:=aO) (xs:=[]) ha3 rfl)) ((d7 rfl).trans (hh a (List.mem_cons_self ..)));rw [hc];rfl
    rw [e];show jK _ (acc++[.bl true]) _=_;rw [ih _ fun d hd=>hh d (List.mem_cons_of_mem _ hd),List.append_assoc];rfl
  exact (this ds [] h).trans (by rw [List.nil_append])
 ·show (match pQ (ds.map fun _=>D.bl true) with|some bs=>Res.ok (D.bl (bs.all id))|none=>.bad)=_;rw [v7];show Res.ok (D.bl ((ds.map fun _=>true).all id))=_
  congr 2
  rw [List.all_eq_true];intro x hx;obtain ⟨_,_,rfl⟩:=List.mem_map.mp hx;rfl
theorem qM (N:List Str) (n:Nat) (w:List Nat) (hw:w.length<=1000):bG (n+2) [tw N w,tw N w]=.ok (.bl true):=iQ (n+1) _ (cN ..) (by rw [List.length_map];exact hw) fun d hd=>by
 obtain ⟨i,_,rfl⟩:=List.mem_map.mp hd;exact same_str n _
end Lk47
end
section
namespace Lk47
open PySem L2 Mi
structure Snd (K:List Nat) (M:List Rw) (T:List Tk):Prop where
 nd:(K++M.map (·.1)++T.map (·.1)).Nodup
 lt:∀i∈K++M.map (·.1)++T.map (·.1),i<26/\¬(13<=i/\i<18)
 ln:K.length<=50/\M.length<=50/\T.length<=50
 hm:∀r∈M,r.2.1∈K/\(∀i∈r.2.2,i∈K)/\r.2.2.length<=9
 ht:∀t∈T,t.2.1∈K/\t.2.2.1∈K/\(∀i∈t.2.2.2,i∈K)/\t.2.2.2.length<=8
section
variable {N:List Str} (H:Nms N)
include H
theorem OD (a b:List Nat) (h:a.length+b.length<=1000):xJ (tw N a) (tw N b)=.ok (tw N (a++b)):=by
 show (if decide ((a.map (sy N)).length+(b.map (sy N)).length<=lim) then Res.ok (D.tup (a.map (sy N)++b.map (sy N))) else .bad)=_;rw [List.length_map,List.length_map,aU,decide_eq_true (by lia),<-List.map_append];rfl
theorem aEs {P:D} {b c d e:D}:∀(L S:List Nat),(S++L).Nodup->(∀i∈S++L,i<26)->S.length+L.length<=500->∀a:D,∃a',lO (tg1 2) (K7 1 cV) (L.map (sy N)) [P,.dct (sn N S),a,b,c,d,e]=.ok (.nx [P,.dct (sn N (S++L)),a',b,c,d,e])
 | [],S,_,_,_,a=>⟨a,by rw [List.append_nil];rfl⟩
 | i::L,S,h1,h2,h3,a=>by
  rw [List.length_cons] at h3;obtain ⟨a',q⟩:=aEs (P:=P) (b:=b) (c:=c) (d:=d) (e:=e) L (S++[i]) (by rw [List.append_assoc];exact h1) (by rw [List.append_assoc];exact h2) (by rw [List.length_append,List.length_singleton];lia) (sy N i);rw [List.append_assoc] at q;have hn:i∉S:=fun hm=>by
   rw [List.nodup_append] at h1;exact h1.2.2 _ hm _ (List.mem_cons_self ..) rfl
  refine ⟨a',?_⟩;rw [List.map_cons];exact bT (ρ1:=[P,.dct (sn N S),sy N i,b,c,d,e]) rfl (z7 H (fun k hk=>h2 k (List.mem_append_left _ hk)) (by lia) (h2 i (by simp)) hn (j:=1) rfl rfl) q
theorem aEt {K:List Nat} {P1 P2 P3:D} (hK:∀i∈K,i<26) {d e:D}:∀(L:List Rw) (S:List Nat),(S++L.map (·.1)).Nodup->(∀i∈S++L.map (·.1),i<26)->S.length+L.length<=500->(∀r∈L,r.2.1∈K/\(∀i∈r.2.2,i∈K)/\r.2.2.length<=9)->∀a b c:D,∃a' b' c',lO (tgN [2,3,4]) (bD (K7 1 cV) (pF (bA (kE 2 dB) (aB iC (aB (b2 xJ (cL (aB d9 aO)) fH) aO))))) (L.map (rwD N)) [.tup [tw N K,P1,P2,P3],.dct (sn N S),a,b,c,d,e]=.ok (.nx [.tup [tw N K,P1,P2,P3],.dct (sn N (S++L.map (·.1))),a',b',c',d,e])
 | [],S,_,_,_,_,a,b,c=>⟨a,b,c,by rw [show S++List.map (fun x:Rw=>x.1) []=S from List.append_nil S];rfl⟩
 | r::L,S,h1,h2,h3,h4,a,b,c=>by
  rw [List.length_cons] at h3;rw [List.map_cons] at h1 h2;obtain ⟨k1,k2,k3⟩:=h4 r (List.mem_cons_self ..);obtain ⟨a',b',c',q⟩:=aEt (P1:=P1) (P2:=P2) (P3:=P3) hK (d:=d) (e:=e) L (S++[r.1]) (by rw [List.append_assoc];exact h1) (by rw [List.append_assoc];exact h2) (by rw [List.length_append,List.length_singleton];lia) (fun x hx=>h4 x (List.mem_cons_of_mem _ hx)) (sy N r.1) (sy N r.2.1) (tw N r.2.2);rw [List.append_assoc] at q;have hn:r.1∉S:=fun hm=>by
   rw [List.nodup_append] at h1;exact h1.2.2 _ hm _ (List.mem_cons_self ..) rfl
  refine ⟨a',b',c',?_⟩;rw [List.map_cons,List.map_cons];refine bT (ρ1:=[.tup [tw N K,P1,P2,P3],.dct (sn N S),sy N r.1,sy N r.2.1,tw N r.2.2,d,e]) rfl (aK (z7 H (fun k hk=>h2 k (List.mem_append_left _ hk)) (by lia) (h2 r.1 (by simp)) hn (j:=1) rfl rfl) (qL (bB (aD rfl (aD (aG (x:=tw N [r.2.1]) (y:=tw N r.2.2) (b7 (aD rfl rfl) (by rw [aU];simp)) rfl (OD H _ _ (by simp;lia))) rfl)) ((d7 rfl).trans (z8 H hK fun i hi=>?_))))) q;rcases List.mem_append.mp hi with g|g
  ·rw [List.mem_singleton] at g;subst g;exact k1
  ·exact k2 i g
theorem aEu {K:List Nat} {P1 P2 P3:D} (hK:∀i∈K,i<26):∀(L:List Tk) (S:List Nat),(S++L.map (·.1)).Nodup->(∀i∈S++L.map (·.1),i<26)->S.length+L.length<=500->(∀t∈L,t.2.1∈K/\t.2.2.1∈K/\(∀i∈t.2.2.2,i∈K)/\t.2.2.2.length<=8)->∀a b c d e:D,∃a' b' c' d' e',lO (tgN [2,3,5,6]) (bD (K7 1 cV) (pF (bA (kE 2 dB) (aB iC (aB (b2 xJ (cL (aB d9 (aB iU aO))) fW) aO))))) (L.map (tkD N)) [.tup [tw N K,P1,P2,P3],.dct (sn N S),a,b,c,d,e]=.ok (.nx [.tup [tw N K,P1,P2,P3],.dct (sn N (S++L.map (·.1))),a',b',c',d',e'])
 | [],S,_,_,_,_,a,b,c,d,e=>⟨a,b,c,d,e,by rw [show S++List.map (fun x:Tk=>x.1) []=S from List.append_nil S];rfl⟩
 | t::L,S,h1,h2,h3,h4,a,b,c,d,e=>by
  rw [List.length_cons] at h3;rw [List.map_cons] at h1 h2;obtain ⟨k1,k2,k3,k4⟩:=h4 t (List.mem_cons_self ..);obtain ⟨a',b',c',d',e',q⟩:=aEu (P1:=P1) (P2:=P2) (P3:=P3) hK L (S++[t.1]) (by rw [List.append_assoc];exact h1) (by rw [List.append_assoc];exact h2) (by rw [List.length_append,List.length_singleton];lia) (fun x hx=>h4 x (List.mem_cons_of_mem _ hx)) (sy N t.1) (sy N t.2.1) c (sy N t.2.2.1) (tw N t.2.2.2);rw [List.append_assoc] at q;have hn:t.1∉S:=fun hm=>by
   rw [List.nodup_append] at h1;exact h1.2.2 _ hm _ (List.mem_cons_self ..) rfl
  refine ⟨a',b',c',d',e',?_⟩;rw [List.map_cons,List.map_cons];refine bT (ρ1:=[.tup [tw N K,P1,P2,P3],.dct (sn N S),sy N t.1,sy N t.2.1,c,sy N t.2.2.1,tw N t.2.2.2]) rfl (aK (z7 H (fun k hk=>h2 k (List.mem_append_left _ hk)) (by lia) (h2 t.1 (by simp)) hn (j:=1) rfl rfl) (qL (bB (aD rfl (aD (aG (x:=tw N [t.2.1,t.2.2.1]) (y:=tw N t.2.2.2) (b7 (aD rfl (aD rfl rfl)) (by rw [aU];simp)) rfl (OD H _ _ (by simp;lia))) rfl)) ((d7 rfl).trans (z8 H hK fun i hi=>?_))))) q;rcases List.mem_append.mp hi with g|g
  ·simp at g;rcases g with g|g <;> subst g
   ·exact k1
   ·exact k2
  ·exact k3 i g
theorem tX (K:List Nat) (M:List Rw) (T:List Tk) (R:List Ru):(prD N K M T R).pure=true:=by
 show ((tw N K).pure&&((D.tup (M.map (rwD N))).pure&&((D.tup (T.map (tkD N))).pure&&((D.tup (R.map (ruD N))).pure&&true))))=true;rw [oE,D.pure,D.pure,D.pure,aX (cG N),aX (iB N),aX (iV N)];rfl
theorem tY {K:List Nat} {M:List Rw} {T:List Tk} {R:List Ru} {Hd:List Rw} (W:Snd K M T) (hs:∀r∈Hd,r∈M++T.map tr) (hR:∀u∈R,Good M T Hd u) (hn:(R.map pq).Perm (prT T M)) (hpn:(prT T M).Nodup) (hRl:R.length<=100):jT [prD N K M T R]=.ok (prD N K M T R):=by
 obtain ⟨l1,l2,l3⟩:=W.ln;have lt26:∀i∈K++M.map (·.1)++T.map (·.1),i<26:=fun i hi=>(W.lt i hi).1
 have hK:∀i∈K,i<26:=fun i hi=>lt26 i (by simp [hi])
 have hM1:∀r∈M,r.1<26:=fun r hr=>lt26 _ (List.mem_append_left _ (List.mem_append_right _ (List.mem_map_of_mem (f:=(·.1)) hr)))
 have hT1:∀t∈T,t.1<26:=fun t ht=>lt26 _ (List.mem_append_right _ (List.mem_map_of_mem (f:=(·.1)) ht))
 have nd:=W.nd;have ndF:((M++T.map tr).map (·.1)).Nodup:=by
  have e:(M++T.map tr).map (·.1)=M.map (·.1)++T.map (·.1):=by rw [List.map_append,List.map_map];rfl
  rw [e];rw [List.append_assoc,List.nodup_append] at nd;exact nd.2.1
 have hF:Hds (M++T.map tr):=by
  refine ⟨ndF,fun r hr=>?_,by rw [List.length_append,List.length_map];lia⟩;rcases List.mem_append.mp hr with g|g
  ·obtain ⟨a,b,c⟩:=W.hm r g;exact ⟨hM1 r g,hK _ a,fun i hi=>hK _ (b i hi),by lia⟩
  ·obtain ⟨t,ht,rfl⟩:=List.mem_map.mp g;obtain ⟨a,b,c,d⟩:=W.ht t ht;refine ⟨hT1 t ht,hK _ a,fun i hi=>?_,by show (t.2.2.1::t.2.2.2).length<=10;rw [List.length_cons];lia⟩;rcases List.mem_cons.mp hi with q|q
   ·exact q▸hK _ b
   ·exact hK _ (c i q)
 have hRn:(R.map pq).Nodup:=hn.nodup_iff.mpr hpn;have rok:=SQ H (K:=K) hF hs hR hRn hRl (S:=K++M.map (·.1)++T.map (·.1)) W.lt (by simp;lia) (fun r hr=>by
  rcases List.mem_append.mp hr with g|g
  ·exact (W.lt _ (List.mem_append_left _ (List.mem_append_right _ (List.mem_map_of_mem (f:=(·.1)) g)))).2
  ·obtain ⟨t,ht,rfl⟩:=List.mem_map.mp g;exact (W.lt _ (List.mem_append_right _ (List.mem_map_of_mem (f:=(·.1)) ht))).2)
 have lok:=FP H (K:=K) (M:=M) (T:=T) (R:=R) (fun r hr=>⟨hM1 r hr,hK _ (W.hm r hr).1⟩) (fun t ht=>⟨hT1 t ht,hK _ (W.ht t ht).2.1⟩) (fun u hu=>by
  obtain ⟨t,ht,r,hr,_,Q⟩:=hR u hu;rw [Q.n1,Q.n2];exact ⟨hT1 t ht,hM1 r hr⟩) (fun p hp=>hn.mem_iff.mpr hp) (by lia) hRl
 obtain ⟨a1,q1⟩:=aEs H (P:=prD N K M T R) (b:=.uD) (c:=.uD) (d:=.uD) (e:=.uD) K [] (by rw [List.append_assoc,List.nodup_append] at nd;simpa using nd.1) (by simpa using hK) (by simp;lia) .uD;obtain ⟨a2,b2,c2,q2⟩:=aEt H (K:=K) (P1:=.tup (M.map (rwD N))) (P2:=.tup (T.map (tkD N))) (P3:=.tup (R.map (ruD N))) hK (d:=.uD) (e:=.uD) M K (by rw [List.nodup_append] at nd;exact nd.1) (fun i hi=>lt26 i (List.mem_append_left _ hi)) (by lia) W.hm a1 .uD .uD;obtain ⟨a3,b3,c3,d3,e3,q3⟩:=aEu H (K:=K) (P1:=.tup (M.map (rwD N))) (P2:=.tup (T.map (tkD N))) (P3:=.tup (R.map (ruD N))) hK T (K++M.map (·.1)) nd lt26 (by simp;lia) W.ht a2 b2 c2 .uD .uD;rw [List.nil_append] at q1;refine call_v ?_;refine aK (ρ':=[prD N K M T R,.dct (sn N []),.uD,.uD,.uD,.uD,.uD]) (d8 (i:=1) (d:=.dct (sn N [])) rfl (ZG N [])) ?_;refine aK (kZ ((cQ (aG rfl rfl rfl)).trans (by rw [cN];rfl)) q1) ?_;refine aK (kZ ((cQ (aG rfl rfl rfl)).trans (by rw [aX (cG N)];rfl)) q2) ?_;refine aK (kZ ((cQ (aG rfl rfl rfl)).trans (by rw [aX (iB N)];rfl)) q3) ?_;refine aK (qL (bB (aD rfl (aD rfl rfl)) ((d7 rfl).trans rok))) ?_;refine aK (qL (bB (aD rfl rfl) ((d7 rfl).trans lok))) ?_;exact pR rfl (tX H K M T R)
end
end Lk47
end
section
namespace Lk47
open PySem L2 Mi
theorem ZM {f:FX} {ρ ρ1 xs:List D} {is:List Nat} (h:f ρ=.ok (.lst xs,ρ1)) (hl:xs.length=is.length) {ρ':List D} (he:wQ is xs ρ1=ρ'):KR f is ρ=.ok (.nx ρ'):=by
 subst he;unfold KR;rw [h,Res.aM];dsimp only;rw [if_pos (decide_eq_true hl)]
theorem BJ {a:FA} {ρ:List D} {xs:List D} (h:a ρ=.ok xs) (hl:xs.length<=lim):j6 a ρ=.ok (.lst xs):=by
 unfold j6;rw [h,Res.aM,if_pos (decide_eq_true hl)];rfl
theorem aFs (ns:List Int):(ns.map D.int).all isI=true:=by
 rw [List.all_eq_true];intro x hx;obtain ⟨i,_,rfl⟩:=List.mem_map.mp hx;rfl
noncomputable def lw0:FS:=(b_ true 1 (aD8 (j6 (aB (lW iC (fB) (eN yL)) (aB jX aO)))) true)
noncomputable def lw1:FS:=(fC false 2 (K_ dD 3 (b8 dH 1 1 aO) (b8 aN 1 1 aO)))
def lw2:FS:=(KR (b8 gR 2 1 (aB cV aO)) [3,4,5])
noncomputable def lw3:FS:=(b_ false 6 (b2 (aR .add) fH (dG 12 (cC iU false) oY (fX) (cL (aB (b2 getD iT jX) (aB (b2 getD iT fJ) (aB (b2 xJ (cL (aB (b2 getD iT nC) aO)) (b2 getD iT iZ)) aO)))) false)) true)
def lw4:FS:=(fC false 7 (b8 aN 1 1 aO))
noncomputable def lw5:FS:=(sIf (bTB (b2 (cO .eq) (b2 (aR .mod) dX nC) fJ)) (bD (b_ false 8 (b2 getD cV (bC (.int 19))) false) (bD (b_ false 4 (b2 (aR .add) fH (j6 (aB (bPu (cL (aB (b2 getD cV ZR) (aB (b2 getD d9 (b2 (aR .mod) (b2 (aR .fdiv) dX nC) (bA jY (aB d9 aO)))) (aB (cL (aB (b2 getD d9 jX) (aB j5 aO))) aO))))) aO))) true) (bD (b_ false 5 (b2 (aR .add) (j6 (aB (bPu (cL (aB (b2 getD cV (bC (.int 20))) (aB (b2 getD d9 jX) (aB j5 (aB (cL (aB j5 aO)) aO)))))) aO)) iU) true) (b_ false 3 (b2 (aR .add) (j6 (aB (bPu j5) aO)) d9) true)))) (jL))
noncomputable def lw6:FS:=(fC false 9 (b8 fQ 5 1 (aB fH (aB iU (aB cV (aB fW aO))))))
noncomputable def lw7:FS:=(b_ false 10 (cL (aB (bA dF (aB d9 aO)) (aB (bA dF (aB fH aO)) (aB (bA dF (aB iU aO)) (aB (bA dF (aB oR aO)) aO))))) false)
noncomputable def lw8:FS:=(b_ false 11 (cL (aB (bA dF (aB d9 aO)) (aB (cL aO) (aB (cL aO) (aB (cL aO) aO))))) false)
noncomputable def lw9:FS:=(sIf (bOr (O7 (bTr (bA (kE 2 (bG 6)) (aB (bA (kE 1 jT) (aB iD aO)) (aB iD aO))))) (O7 (bTr (bA (kE 2 (bG 6)) (aB (bA (kE 1 jT) (aB (cL (aB (cL aO) (aB (cL aO) (aB (cL aO) (aB (cL aO) aO))))) aO)) (aB (cL (aB (cL aO) (aB (cL aO) (aB (cL aO) (aB (cL aO) aO))))) aO)))))) (yN (bC (.bl false)) true) (jL))
noncomputable def aFt:FS:=(yN (bA (kE 2 (bG 6)) (aB (bA (kE 1 jT) (aB iY aO)) (aB iY aO))) true)
theorem ZP:YQ=(bD lw0 (bD lw1 (bD lw2 (bD lw3 (bD lw4 (bD lw5 (bD lw6 (bD lw7 (bD lw8 (bD lw9 aFt)))))))))):=rfl
theorem aCv (ns:List Int) (r:List D):∃cs:List Int,lw0 (.scr (ns.map D.int)::.uD::r)=.ok (.nx (.scr (ns.map D.int)::.lst (dk cs 0)::r)):=by
 refine ⟨cutD ns none (some 120),d8 (i:=1) (d:=.lst (dk (cutD ns none (some 120)) 0)) ?_ (lK _ _)⟩;have h1:lW iC (fB) (eN yL) (.scr (ns.map D.int)::.uD::r)=.ok (.lst ((cutD ns none (some 120)).map D.int)):=by
  rw [<-XM];show (if D.aV (ns.map D.int) then Res.ok (D.lst (cutD (ns.map D.int) none (some 120))) else .bad)=_;rw [nU];rfl
 have h2:j6 (aB (lW iC (fB) (eN yL)) (aB jX aO)) (.scr (ns.map D.int)::.uD::r)=.ok (.lst [.lst ((cutD ns none (some 120)).map D.int),.int 0]):=BJ (aD h1 rfl) (by rw [aU];simp);unfold aD8;rw [h2,Res.aM];show (do let r <- X5 [.lst ((cutD ns none (some 120)).map D.int),.int 0];Res.ok (D.lst r))=_;have h3:X5 [.lst ((cutD ns none (some 120)).map D.int),.int 0]=.ok (dk (cutD ns none (some 120)) 0):=by
  show (if ((cutD ns none (some 120)).map D.int).all isI&&D.aV [.int 0] then Res.ok (D.scr ((cutD ns none (some 120)).map D.int)::[.int 0]) else .bad)=_;rw [aFs];rfl
 rw [h3];rfl
theorem SX {f:FS} {m:Nat} {x1 x2:FX} {ρ ρ1 ρ2 xs ys:List D} {d:D} (h1:x1 ρ=.ok (.lst xs,ρ1)) (h2:x2 ρ1=.ok (d,ρ2)) (hp:D.aV xs=true) (hd:d.pure=true) (h3:chR f m xs [d]=.ok ys):K_ f m x1 x2 ρ=.ok (.lst ys,ρ2):=by
 unfold K_;rw [h1,Res.aM];dsimp only;rw [h2,Res.aM];dsimp only;rw [if_pos (by rw [hp,hd];rfl),h3];rfl
theorem OJ {t:Tk} {L:List Rw} {p:Nat×Nat} (h:p∈prs t L):p.1=t.1:=by
 unfold prs at h;obtain ⟨r,_,rfl⟩:=List.mem_map.mp h;rfl
theorem O3 (t:Tk) {M:List Rw} (h:(M.map (·.1)).Nodup):(prs t M).Nodup:=by
 unfold prs;rw [List.nodup_iff_pairwise_ne,List.pairwise_map];rw [List.nodup_iff_pairwise_ne,List.pairwise_map] at h;refine List.Pairwise.imp ?_ (h.sublist List.filter_sublist);intro a b hne e;exact hne (congrArg Prod.snd e)
theorem v8 {M:List Rw} (h:(M.map (·.1)).Nodup):∀(T:List Tk),(T.map (·.1)).Nodup->(prT T M).Nodup
 | [],_=>List.nodup_nil
 | t::T,hT=>by
  rw [List.map_cons,List.nodup_cons] at hT;unfold prT;rw [List.flatMap_cons,List.nodup_append];refine ⟨O3 t h,v8 h T hT.2,fun a ha b hb e=>?_⟩;subst e;obtain ⟨t',ht',hp⟩:=List.mem_flatMap.mp hb;have:=(OJ ha).symm.trans (OJ hp);exact hT.1 (this▸List.mem_map_of_mem (f:=(·.1)) ht')
theorem x_ (N:List Str) {K:List Nat} {M:List Rw} {T:List Tk} {R:List Ru} (hK:K.length<=1000) (hM:M.length<=1000/\∀r∈M,r.2.2.length<=1000) (hT:T.length<=1000/\∀t∈T,t.2.2.2.length<=1000) (hR:R.length<=1000/\∀u∈R,u.2.2.1.length<=1000/\u.2.2.2.length<=1000):bG 6 [prD N K M T R,prD N K M T R]=.ok (.bl true):=by
 refine iQ 5 _ ?_ (by simp) fun d hd=>?_
 ·show ((tw N K).pure&&((D.tup (M.map (rwD N))).pure&&((D.tup (T.map (tkD N))).pure&&((D.tup (R.map (ruD N))).pure&&true))))=true;rw [oE,D.pure,D.pure,D.pure,aX (cG N),aX (iB N),aX (iV N)];rfl
 ·simp only [List.mem_cons,List.not_mem_nil,or_false] at hd;rcases hd with rfl|rfl|rfl|rfl
  ·exact qM N 3 K hK
  ·refine iQ 4 _ (aX (cG N) _) (by rw [List.length_map];exact hM.1) fun d hd=>?_
   obtain ⟨r,hr,rfl⟩:=List.mem_map.mp hd;refine iQ 3 _ (cG N r) (by simp) fun d hd=>?_
   simp only [List.mem_cons,List.not_mem_nil,or_false] at hd;rcases hd with rfl|rfl|rfl
   ·exact same_str 2 _
   ·exact same_str 2 _
   ·exact qM N 1 _ (hM.2 r hr)
  ·refine iQ 4 _ (aX (iB N) _) (by rw [List.length_map];exact hT.1) fun d hd=>?_
   obtain ⟨r,hr,rfl⟩:=List.mem_map.mp hd;refine iQ 3 _ (iB N r) (by simp) fun d hd=>?_
   simp only [List.mem_cons,List.not_mem_nil,or_false] at hd;rcases hd with rfl|rfl|rfl|rfl
   ·exact same_str 2 _
   ·exact same_str 2 _
   ·exact same_str 2 _
   ·exact qM N 1 _ (hT.2 r hr)
  ·refine iQ 4 _ (aX (iV N) _) (by rw [List.length_map];exact hR.1) fun d hd=>?_
   obtain ⟨r,hr,rfl⟩:=List.mem_map.mp hd;refine iQ 3 _ (iV N r) (by simp) fun d hd=>?_
   simp only [List.mem_cons,List.not_mem_nil,or_false] at hd;rcases hd with rfl|rfl|rfl|rfl
   ·exact same_str 2 _
   ·exact same_str 2 _
   ·exact qM N 1 _ (hR.2 r hr).1
   ·exact qM N 1 _ (hR.2 r hr).2
noncomputable def kk (h:Bool) (m:Nat):List Nat:=if h then 19::List.range m else List.range m
noncomputable def mm (h:Bool) (k:Nat) (M:List Rw):List Rw:=if h then M++[(9,k,[0,19])] else M
def tt (h:Bool) (T:List Tk):List Tk:=if h then (20,0,19,[19])::T else T
section
variable {m:Nat} {M:List Rw} {T:List Tk}
theorem O4 {h:Bool} {k:Nat} {r:Rw} (hr:r∈mm h k M):r∈M\/(h=true/\r=(9,k,[0,19])):=by
 unfold mm at hr;split at hr
 ·rename_i hh;rcases List.mem_append.mp hr with g|g
  ·exact .inl g
  ·rw [List.mem_singleton] at g;exact .inr ⟨hh,g⟩
 ·exact .inl hr
theorem O5 {h:Bool} {t:Tk} (ht:t∈tt h T):t∈T\/(h=true/\t=(20,0,19,[19])):=by
 unfold tt at ht;split at ht
 ·rename_i hh;rcases List.mem_cons.mp ht with g|g
  ·exact .inr ⟨hh,g⟩
  ·exact .inl g
 ·exact .inl ht
theorem aCw (S:Sig m M T) (h:Bool) {k:Nat} (hk:k<m):Mat m (mm h k M) (tt h T) (M++T.map tr):=by
 have m3:=S.m3;have m1:=S.m1;have ml:=S.ml;have tl:=S.tl;refine ⟨m3,?_,?_,?_,fun r hr=>?_,fun t ht=>?_,fun r hr=>?_,fun k hk=>?_⟩
 ·unfold mm;split
  ·rw [List.length_append,List.length_singleton];lia
  ·lia
 ·unfold tt;split
  ·rw [List.length_cons];lia
  ·lia
 ·rw [List.length_append,List.length_map];lia
 ·rcases O4 hr with g|⟨_,rfl⟩
  ·obtain ⟨a,b,c⟩:=S.mg r g;have:=S.mi r g;exact ⟨by lia,by lia,fun i hi=>by have:=b i hi;lia,c⟩
  ·refine ⟨by simp,by show k<26;lia,fun i hi=>?_,by simp⟩;simp at hi;lia
 ·rcases O5 ht with g|⟨_,rfl⟩
  ·obtain ⟨a,b,c,d⟩:=S.tg t g;have:=S.ti t g;exact ⟨by lia,a,by lia,fun i hi=>by have:=c i hi;lia,d⟩
  ·refine ⟨by decide,by show 0<m;lia,by decide,fun i hi=>?_,by decide⟩;simp at hi;lia
 ·rcases List.mem_append.mp hr with g|g
  ·obtain ⟨a,b,c⟩:=S.mg r g;have:=S.mi r g;exact ⟨by lia,by lia,b,c⟩
  ·obtain ⟨t,ht,rfl⟩:=List.mem_map.mp g;obtain ⟨a,b,c,d⟩:=S.tg t ht;have:=S.ti t ht;refine ⟨by show t.1<26;lia,by show t.2.1<26;lia,fun i hi=>?_,by show (t.2.2.1::t.2.2.2).length<=3;rw [List.length_cons];lia⟩;rcases List.mem_cons.mp hi with q|q
   ·lia
   ·exact c i q
 ·obtain ⟨r,hr,e⟩:=S.ba k hk;exact ⟨r,List.mem_append_left _ hr,e⟩
theorem aCx (S:Sig m M T) (h:Bool) {k:Nat} (hk:k<m):Snd (kk h m) (mm h k M) (tt h T):=by
 have m3:=S.m3;have m1:=S.m1;have ml:=S.ml;have tl:=S.tl;have hkk:∀i∈kk h m,i<m\/i=19:=fun i hi=>by
  unfold kk at hi;split at hi
  ·rcases List.mem_cons.mp hi with g|g
   ·exact .inr g
   ·exact .inl (List.mem_range.mp g)
  ·exact .inl (List.mem_range.mp hi)
 have hlo:∀i,i<m->i∈kk h m:=fun i hi=>by
  unfold kk;split
  ·exact List.mem_cons_of_mem _ (List.mem_range.mpr hi)
  ·exact List.mem_range.mpr hi
 have hhi:h=true->19∈kk h m:=fun e=>by
  unfold kk;rw [if_pos e];exact List.mem_cons_self ..
 have hm:∀i∈(mm h k M).map (·.1),3<=i/\i<10:=fun i hi=>by
  obtain ⟨r,hr,rfl⟩:=List.mem_map.mp hi;rcases O4 hr with g|⟨_,rfl⟩
  ·have:=S.mi r g;lia
  ·exact ⟨by simp,by simp⟩
 have htn:∀i∈(tt h T).map (·.1),(10<=i/\i<13)\/i=20:=fun i hi=>by
  obtain ⟨t,ht,rfl⟩:=List.mem_map.mp hi;rcases O5 ht with g|⟨_,rfl⟩
  ·exact .inl (S.ti t g)
  ·exact .inr rfl
 have nK:(kk h m).Nodup:=by
  unfold kk;split
  ·rw [List.nodup_cons];exact ⟨fun g=>by have:=List.mem_range.mp g;lia,List.nodup_range⟩
  ·exact List.nodup_range
 have nM:((mm h k M).map (·.1)).Nodup:=by
  unfold mm;split
  ·rw [List.map_append,List.nodup_append];refine ⟨S.mn,by simp,fun a ha b hb=>?_⟩;obtain ⟨r,hr,rfl⟩:=List.mem_map.mp ha;have:=S.mi r hr;simp at hb;lia
  ·exact S.mn
 have nT:((tt h T).map (·.1)).Nodup:=by
  unfold tt;split
  ·rw [List.map_cons,List.nodup_cons];refine ⟨fun g=>?_,S.tn⟩;obtain ⟨t,ht,e⟩:=List.mem_map.mp g;have:=S.ti t ht;have e':t.1=20:=e;lia
  ·exact S.tn
 refine ⟨?_,fun i hi=>?_,⟨?_,?_,?_⟩,fun r hr=>?_,fun t ht=>?_⟩
 ·rw [List.nodup_append];refine ⟨?_,nT,fun a ha b hb=>?_⟩
  ·rw [List.nodup_append];refine ⟨nK,nM,fun a ha b hb=>?_⟩;have:=hkk a ha;have:=hm b hb;lia
  ·have:=htn b hb;rcases List.mem_append.mp ha with g|g
   ·have:=hkk a g;lia
   ·have:=hm a g;lia
 ·rcases List.mem_append.mp hi with g|g
  ·rcases List.mem_append.mp g with g|g
   ·have:=hkk i g;lia
   ·have:=hm i g;lia
  ·have:=htn i g;lia
 ·unfold kk;split
  ·rw [List.length_cons,List.length_range];lia
  ·rw [List.length_range];lia
 ·unfold mm;split
  ·rw [List.length_append,List.length_singleton];lia
  ·lia
 ·unfold tt;split
  ·rw [List.length_cons];lia
  ·lia
 ·rcases O4 hr with g|⟨e,rfl⟩
  ·obtain ⟨a,b,c⟩:=S.mg r g;exact ⟨hlo _ a,fun i hi=>hlo _ (b i hi),by lia⟩
  ·refine ⟨hlo _ hk,fun i hi=>?_,by simp⟩;simp at hi;rcases hi with rfl|rfl
   ·exact hlo _ (by lia)
   ·exact hhi e
 ·rcases O5 ht with g|⟨e,rfl⟩
  ·obtain ⟨a,b,c,d⟩:=S.tg t g;exact ⟨hlo _ a,hlo _ b,fun i hi=>hlo _ (c i hi),by lia⟩
  ·refine ⟨hlo _ (by show 0<m;lia),hhi e,fun i hi=>?_,by decide⟩;simp at hi;subst hi;exact hhi e
theorem aCy (h:Bool) (k:Nat):∀r∈M++T.map tr,r∈mm h k M++(tt h T).map tr:=fun r hr=>by
 rcases List.mem_append.mp hr with g|g
 ·refine List.mem_append_left _ ?_;unfold mm;split
  ·exact List.mem_append_left _ g
  ·exact g
 ·refine List.mem_append_right _ ?_;obtain ⟨t,ht,rfl⟩:=List.mem_map.mp g;refine List.mem_map_of_mem ?_;unfold tt;split
  ·exact List.mem_cons_of_mem _ ht
  ·exact ht
end
end Lk47
end
section
namespace Lk47
open PySem L2 Mi
noncomputable abbrev la (sc:D) (cs:List Int) (n:Nat) (N:List Str) (K:List Nat) (M:List Rw) (T:List Tk) (a b c d e f:D):List D:=[sc,.lst (dk cs n),.lst ((List.range 26).map (sy N)),.lst (K.map (sy N)),.lst (M.map (rwD N)),.lst (T.map (tkD N)),a,b,c,d,e,f]
theorem aCz {sc:D} {cs:List Int} {n:Nat} {N:List Str} {K:List Nat} {M:List Rw} {T:List Tk} (hM:M.length<=100) (hT:T.length<=100) (hm:∀t∈T,t.2.2.2.length<=10) (a b c d e f:D):lw3 (la sc cs n N K M T a b c d e f)=.ok (.nx (la sc cs n N K M T (.lst ((M++T.map tr).map (rwD N))) b c d e f)):=by
 refine dC (i:=6) ?_;rw [List.map_append,List.map_map];refine aG (x:=.lst (M.map (rwD N))) rfl (fL (n:=12) (tkD N) (fun t=>rwD N (tr t)) T rfl (lL rfl) (by lia) fun t ht=>?_) (mF _ _ (by rw [List.length_map,List.length_map,aU];lia) (aX (cG N) _) ?_)
 ·refine ⟨b7 (aD (lX (i:=12) (t:=t) rfl).1 (aD (lX (i:=12) (t:=t) rfl).2.1 (aD (aG (b7 (aD (lX (i:=12) (t:=t) rfl).2.2.1 rfl) (by rw [aU];simp)) (lX (i:=12) (t:=t) rfl).2.2.2 (z:=.tup ((tr t).2.2.map (sy N))) ?_) rfl))) (by rw [aU];simp),cG ..⟩;show (if decide ([sy N t.2.2.1].length+(t.2.2.2.map (sy N)).length<=lim) then Res.ok (D.tup ([sy N t.2.2.1]++t.2.2.2.map (sy N))) else .bad)=_;have:=hm t ht;rw [List.length_map,aU,decide_eq_true (by simp;lia)];rfl
 ·exact aX (fun t=>cG N (tr t)) T
theorem aD0 {sc:D} {cs:List Int} {n m:Nat} {N:List Str} {M:List Rw} {T:List Tk} {cell:Int} {k:Nat} (m1:1<=m) (m3:m<=3) (hk:k<m) (hke:cell / 2 % (m:Int)=k) (hM:M.length<=100) (hT:T.length<=100) (a d e f:D):∃c',lw5 (la sc cs n N (List.range m) M T a (.int cell) .uD d e f)=.ok (.nx (la sc cs n N (kk (cell % 2==1) m) (mm (cell % 2==1) k M) (tt (cell % 2==1) T) a (.int cell) c' d e f)):=by
 have hc:(bTB (b2 (cO .eq) (b2 (aR .mod) dX nC) fJ)) (la sc cs n N (List.range m) M T a (.int cell) .uD d e f)=.ok (cell % 2==1):=dW (aG (aG (x:=.int cell) rfl rfl (bU _ _ (by decide))) rfl (mH _ _));cases hh:(cell % 2==1)
 ·exact ⟨.uD,o5 (hc.trans (by rw [hh])) rfl⟩
 ·refine ⟨sy N 19,F_ (hc.trans (by rw [hh])) ?_⟩;have hlk:∀ρ:List D,cU 3 ρ=.ok (.lst ((List.range m).map (sy N)))->(bA jY (aB d9 aO)) ρ=.ok (.int m):=fun ρ g=>bB (aD g rfl) (by
   show Res.ok (D.int (((List.range m).map (sy N)).length:Int))=_;rw [List.length_map,List.length_range])
  refine aK (ρ':=la sc cs n N (List.range m) M T a (.int cell) (sy N 19) d e f) (gB (i:=8) (aG rfl rfl (dR (i:=19) rfl (by decide))) rfl) ?_;refine aK (ρ':=la sc cs n N (List.range m) (mm true k M) T a (.int cell) (sy N 19) d e f) (dC (i:=4) ?_) ?_
  ·have e1:(mm true k M).map (rwD N)=M.map (rwD N)++[rwD N (9,k,[0,19])]:=by
    unfold mm;rw [if_pos rfl,List.map_append];rfl
   rw [e1];refine aG (x:=.lst (M.map (rwD N))) rfl (BJ (aD (MF (d:=rwD N (9,k,[0,19])) (b7 (aD (aG rfl rfl (dR (i:=9) rfl (by decide))) (aD (aG rfl (aG (aG (x:=.int cell) rfl rfl (cZ _ _ (by decide) (by decide))) (hlk _ rfl) (bU _ _ (by lia))) (dR hke hk)) (aD (b7 (aD (aG rfl rfl (dR (i:=0) rfl (by lia))) (aD rfl rfl)) (by rw [aU];simp)) rfl))) (by rw [aU];simp)) (cG ..)) rfl) (by rw [aU];simp)) (mF _ _ ?_ (aX (cG N) _) (aX (cG N) [(9,k,[0,19])]));rw [List.length_map,List.length_singleton,aU];lia
  refine aK (ρ':=la sc cs n N (List.range m) (mm true k M) (tt true T) a (.int cell) (sy N 19) d e f) (dC (i:=5) ?_) ?_
  ·have e1:(tt true T).map (tkD N)=[tkD N (20,0,19,[19])]++T.map (tkD N):=rfl;rw [e1];refine aG (BJ (aD (MF (d:=tkD N (20,0,19,[19])) (b7 (aD (aG rfl rfl (dR (i:=20) rfl (by decide))) (aD (aG rfl rfl (dR (i:=0) rfl (by lia))) (aD rfl (aD (b7 (aD rfl rfl) (by rw [aU];simp)) rfl)))) (by rw [aU];simp)) (iB ..)) rfl) (by rw [aU];simp)) (y:=.lst (T.map (tkD N))) rfl (mF _ _ ?_ (aX (iB N) [(20,0,19,[19])]) (aX (iB N) _));rw [List.length_map,List.length_singleton,aU];lia
  have e1:(kk true m).map (sy N)=[sy N 19]++(List.range m).map (sy N):=rfl;unfold la;rw [e1];refine dC (i:=3) (aG (BJ (aD (MF rfl rfl) rfl) (by rw [aU];simp)) (y:=.lst ((List.range m).map (sy N))) rfl (mF _ _ ?_ rfl (cN ..)));rw [List.length_map,List.length_range,List.length_singleton,aU];lia
set_option maxHeartbeats 1000000 in
theorem main:∀ns:List Int,ns.length<=63->FJ [.scr (ns.map D.int)]=.ok (.bl true):=fun ns _=>by
 obtain ⟨cs,e0⟩:=aCv ns [.uD,.uD,.uD,.uD,.uD,.uD,.uD,.uD,.uD,.uD];obtain ⟨N0,a1,a2,a3,q1⟩:=R1 cs 0 (by lia);obtain ⟨c0,q2⟩:=h_ cs 3 (by lia);obtain ⟨N,H,q3⟩:=NB (N:=N0) ⟨a1,a2,a3.1,a3.2⟩ c0;rw [aCd N H.len] at q3;obtain ⟨m,M,T,n1,S,hn1,q4⟩:=aCm (N:=N) cs 4 (by lia);have m1:=S.m1;have m3:=S.m3;have ml:=S.ml;have tl:=S.tl;obtain ⟨cell,q5⟩:=h_ cs n1 (by lia);obtain ⟨k,k1,k2⟩:=kix m1 (cell / 2);obtain ⟨c8,q6⟩:=aD0 (sc:=.scr (ns.map D.int)) (cs:=cs) (n:=n1+1) (N:=N) (M:=M) (T:=T) (cell:=cell) m1 m3 k1 k2 (by lia) (by lia) (.lst ((M++T.map tr).map (rwD N))) .uD .uD .uD;generalize (cell % 2==1)=h at q6;have G:=aCw S h k1;have W:=aCx S h k1;have lm:(mm h k M).length<=7:=by
  unfold mm;split
  ·rw [List.length_append,List.length_singleton];lia
  ·lia
 have lt:(tt h T).length<=4:=by
  unfold tt;split
  ·rw [List.length_cons];lia
  ·lia
 have lk:(kk h m).length<=4:=by
  unfold kk;split
  ·rw [List.length_cons,List.length_range];lia
  ·rw [List.length_range];lia
 have hmul:(mm h k M).length*(tt h T).length<=28:=Nat.mul_le_mul lm lt;obtain ⟨R,n2,r1,r2,r3,q7⟩:=R9 H.len H.nd cs (n:=n1+1) G (by lia);have hs:=aCy (M:=M) (T:=T) h k;generalize hK:kk h m=K at *;generalize hM':mm h k M=M' at *;generalize hT':tt h T=T' at *;have nd:=W.nd;have ndM:(M'.map (·.1)).Nodup:=by rw [List.nodup_append] at nd;have:=nd.1;rw [List.nodup_append] at this;exact this.2.1
 have ndT:(T'.map (·.1)).Nodup:=by rw [List.nodup_append] at nd;exact nd.2.1
 have w1:=tY H W hs r2 r1 (v8 ndM T' ndT) r3;have W2:Snd K [] []:=by
  refine ⟨?_,fun i hi=>W.lt i ?_,⟨by lia,by simp,by simp⟩,fun r hr=>by simp at hr,fun t ht=>by simp at ht⟩
  ·rw [List.append_assoc,List.nodup_append] at nd;simpa using nd.1
  ·have:i∈K:=by simpa using hi
   simp [this]
 have W3:Snd [] [] []:=⟨by simp,fun i hi=>by simp at hi,⟨by simp,by simp,by simp⟩,fun r hr=>by simp at hr,fun t ht=>by simp at ht⟩
 have w2:=tY H (K:=K) (R:=[]) (Hd:=[]) W2 (fun r hr=>by simp at hr) (fun u hu=>by simp at hu) (List.Perm.refl _) List.nodup_nil (by simp);have w3:=tY H (R:=[]) (Hd:=[]) W3 (fun r hr=>by simp at hr) (fun u hu=>by simp at hu) (List.Perm.refl _) List.nodup_nil (by simp);have z1:=x_ N (K:=K) (M:=M') (T:=T') (R:=R) (by lia) ⟨by lia,fun r hr=>by have:=(W.hm r hr).2.2;lia⟩ ⟨by lia,fun t ht=>by have:=(W.ht t ht).2.2.2;lia⟩ ⟨by lia,fun u hu=>by
  obtain ⟨t,ht,r,hr,_,Q⟩:=r2 u hu;have h1:=(W.hm r hr).2.2;have h2:=(W.ht t ht).2.2.2;have h3:=Q.ol;rw [List.length_append] at h3;have h4:=Q.wl;exact ⟨by lia,by lia⟩⟩
 have z2:=x_ N (K:=K) (M:=[]) (T:=[]) (R:=[]) (by lia) ⟨by simp,fun r hr=>by simp at hr⟩ ⟨by simp,fun r hr=>by simp at hr⟩ ⟨by simp,fun r hr=>by simp at hr⟩;have z3:=x_ N (K:=[]) (M:=[]) (T:=[]) (R:=[]) (by simp) ⟨by simp,fun r hr=>by simp at hr⟩ ⟨by simp,fun r hr=>by simp at hr⟩ ⟨by simp,fun r hr=>by simp at hr⟩;refine call_v ?_;show YQ [.scr (ns.map D.int),.uD,.uD,.uD,.uD,.uD,.uD,.uD,.uD,.uD,.uD,.uD]=_;rw [ZP];refine aK e0 ?_;have hnm:b8 dH 1 1 aO [.scr (ns.map D.int),.lst (dk cs 0),.uD,.uD,.uD,.uD,.uD,.uD,.uD,.uD,.uD,.uD]=.ok (.lst (N0.map D.str),[.scr (ns.map D.int),.lst (dk cs 3),.uD,.uD,.uD,.uD,.uD,.uD,.uD,.uD,.uD,.uD]):=lD (fs:=aO) (i:=1) (rest:=[]) rfl rfl rfl q1 (lK ..) rfl;refine aK (ρ':=[.scr (ns.map D.int),.lst (dk cs 4),.lst ((List.range 26).map (sy N)),.uD,.uD,.uD,.uD,.uD,.uD,.uD,.uD,.uD]) (gD (i:=2) (SX hnm (qG q2 rfl rfl) (jF _) rfl q3) rfl) ?_;refine aK (ρ':=la (.scr (ns.map D.int)) cs n1 N (List.range m) M T .uD .uD .uD .uD .uD .uD) (ZM (lD (i:=1) (fs:=aB cV aO) (rest:=[.lst ((List.range 26).map (sy N))]) (aD rfl rfl) rfl rfl q4 (lK ..) rfl) rfl rfl) ?_;refine aK (aCz (by lia) (by lia) (fun t ht=>by have:=(S.tg t ht).2.2.2;lia) ..) ?_;refine aK (ρ':=la (.scr (ns.map D.int)) cs (n1+1) N (List.range m) M T (.lst ((M++T.map tr).map (rwD N))) (.int cell) .uD .uD .uD .uD) (gD (i:=7) (qG q5 rfl rfl) rfl) ?_;refine aK q6 ?_;have hargs:(aB fH (aB iU (aB cV (aB fW aO)))) (la (.scr (ns.map D.int)) cs (n1+1) N K M' T' (.lst ((M++T.map tr).map (rwD N))) (.int cell) c8 .uD .uD .uD)=.ok [.lst (M'.map (rwD N)),.lst (T'.map (tkD N)),.lst ((List.range 26).map (sy N)),.lst ((M++T.map tr).map (rwD N))]:=rfl;refine aK (ρ':=la (.scr (ns.map D.int)) cs n2 N K M' T' (.lst ((M++T.map tr).map (rwD N))) (.int cell) c8 (.lst (R.map (ruD N))) .uD .uD) (gD (i:=9) (lD (i:=1) hargs rfl rfl q7 (lK ..) rfl) rfl) ?_;refine aK (ρ':=la (.scr (ns.map D.int)) cs n2 N K M' T' (.lst ((M++T.map tr).map (rwD N))) (.int cell) c8 (.lst (R.map (ruD N))) (prD N K M' T' R) .uD) (gB (i:=10) (d:=prD N K M' T' R) (b7 (aD (bB (aD rfl rfl) rfl) (aD (bB (aD rfl rfl) rfl) (aD (bB (aD rfl rfl) rfl) (aD (bB (aD rfl rfl) rfl) rfl)))) (by rw [aU];simp)) (tX H ..)) ?_
 refine aK (ρ':=la (.scr (ns.map D.int)) cs n2 N K M' T' (.lst ((M++T.map tr).map (rwD N))) (.int cell) c8 (.lst (R.map (ruD N))) (prD N K M' T' R) (prD N K [] [] [])) (gB (i:=11) (d:=prD N K [] [] []) (b7 (aD (bB (aD rfl rfl) rfl) (aD (b7 (xs:=[]) rfl (by rw [aU];simp)) (aD (b7 (xs:=[]) rfl (by rw [aU];simp)) (aD (b7 (xs:=[]) rfl (by rw [aU];simp)) rfl)))) (by rw [aU];simp)) (tX H ..)) ?_;have em:∀ρ:List D,(cL (aB (cL aO) (aB (cL aO) (aB (cL aO) (aB (cL aO) aO))))) ρ=.ok (prD N [] [] [] []):=fun ρ=>b7 (aD (b7 (xs:=[]) rfl (by rw [aU];simp)) (aD (b7 (xs:=[]) rfl (by rw [aU];simp)) (aD (b7 (xs:=[]) rfl (by rw [aU];simp)) (aD (b7 (xs:=[]) rfl (by rw [aU];simp)) rfl)))) (by rw [aU];simp)
 refine aK (o5 (aEa (zY (b:=true) (N6 (bB (aD (bB (aD (x:=prD N K [] [] []) rfl rfl) ((d7 rfl).trans w2)) (aD rfl rfl)) ((d7 rfl).trans z2)))) (zY (b:=true) (N6 (bB (aD (bB (aD (em _) rfl) ((d7 rfl).trans w3)) (aD (em _) rfl)) ((d7 rfl).trans z3))))) rfl) ?_;exact pR (bB (aD (bB (aD (x:=prD N K M' T' R) rfl rfl) ((d7 rfl).trans w1)) (aD rfl rfl)) ((d7 rfl).trans z1)) rfl
end Lk47
end
section
open PySem PySem.W PyProof.Rows
def PySem.W.Fast.tw8811570989141822065 : Unit:=()
def PySem.W.Fast.tw5595763958116364317 : Unit:=()
def PySem.W.Fast.tw11923451449403173613 : Unit:=()
def PySem.W.Fast.tw3873602906075210523 : Unit:=()
def PySem.W.Fast.tw13556824980769799820 : Unit:=()
def PySem.W.Fast.tw5862101523421254616 : Unit:=()
def PySem.W.Fast.tw13976060788335733140 : Unit:=()
def PySem.W.Fast.tw6380711585286058706 : Unit:=()
def PySem.W.Fast.tw12342096062552471601 : Unit:=()
def PySem.W.Fast.tw11022968244333589693 : Unit:=()
def PySem.W.Fast.tw12123981249434718997 : Unit:=()
def PySem.W.Fast.tw4364921756284630013 : Unit:=()
set_option maxRecDepth 100000 in
set_option maxHeartbeats 0 in
theorem PySem.Challenge.cw_hookmill_k47_sound_holds : PySem.Challenge.rw_hookmill_k47_sound.Holds := by
 w_on;o_law;k_head;(case hw=>w_witness2)
 k_fill
 refine Lk47.walk (l:=PySem.Challenge.rw_hookmill_k47_sound) Lk47.main rfl rfl (fun w h Y=>PySem.W.kIn_of Y) ?F
 case F=>
  intro w mg fa h KX G hmg
  refine' Lk47.aC7 KX G hmg ?a0 ?a1 ?a2 ?a3 ?a4 ?a5 ?a6 ?a7 ?a8 ?a9 ?a10 ?a11 ?a12 ?a13 ?a14 ?a15 ?a16 ?l16 ?c16 ?k16 ?z_len ?z_min ?z_max ?z_list ?z_tuple ?z_sorted ?z_range ?z_isinstance ?z_int ?z_bool ?z_str ?z_dict ?z_all ?z_enumerate ?z_sum ?z_zip ?z_abs ?z_reversed
  (case a0|a1|a2|a3|a4|a5|a6|a7|a8|a9|a10|a11|a12|a13|a14|a15=>refine' Lk47.aE9 ?a ?b ?c ?d;(case a=>k_is);(case b=>k_is);(case c=>k_is);case d=>k_is)
  (case a16|l16|c16|k16|z_len|z_min|z_max|z_list|z_tuple|z_sorted|z_range|z_isinstance|z_int|z_bool|z_str|z_dict|z_all|z_enumerate|z_sum|z_zip|z_abs|z_reversed=>k_is)
end
