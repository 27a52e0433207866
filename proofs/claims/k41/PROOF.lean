import PyProof.Rows.All
import Wide.All
import OpenK.AllK
import Wide.FinOn
import PyProof.EqAt
import PyProof.EqKinds
import PyProof.TupleCall
import Lean
import PyProof.Rows.SortRuns
import PySem.Syntax
import PyProof.NeKinds
import PyProof.WalkInts
import KE.KDictList
import PyProof.CompUse
import PyProof.StrWalks
import PyProof.EnumMake
import PyProof.EnumFor
import PyProof.StrCalls2
import PyProof.StrBlock2
import PyProof.StrBlockI
import PyProof.SliceStr2
import PyProof.ConsumeWalk
import PyProof.StrLawsJoin
import PySem.Challenge.RW_hookmill_k41_names
set_option Elab.async false
section
set_option Elab.async false
set_option linter.all false
set_option maxRecDepth 100000
namespace L2
open PySem PySem.Spec PyProof.Rows

/-- a key: an int or a str -/
abbrev Key := Sum Int Str
def keyIs : Key → Value → Bool
  | .inl k, v => Value.isInt k v
  | .inr x, v => Value.isStrOf x v
def keyH (w : World) : Key → Int
  | .inl k => hashInt k
  | .inr x => hashStr w x
theorem keyIs_shape : ∀ {k : Key} {v : Value}, keyIs k v = true → (∃ i t, k = Sum.inl i ∧ v = Value.int i t) ∨ (∃ x t, k = Sum.inr x ∧ v = Value.str x t)
  | .inl i, v, h => by
    obtain ⟨t, e⟩ := Value.isInt_shape (k := i) (v := v) h
    exact .inl ⟨i, t, rfl, e⟩
  | .inr x, v, h => by
    obtain ⟨t, e⟩ := Value.isStrOf_shape (x := x) (v := v) h
    exact .inr ⟨x, t, rfl, e⟩
theorem keyIs_int (i : Int) (t : Tok) : keyIs (.inl i) (.int i t) = true := by simp [keyIs, Value.isInt]
theorem keyIs_str (x : Str) (t : Tok) : keyIs (.inr x) (.str x t) = true := by simp [keyIs, Value.isStrOf]
theorem key_ll (a b : Int) : decide ((Sum.inl a : Key) = Sum.inl b) = (a == b) := by
  by_cases e : a = b
  · subst e; simp
  · have h : ¬ (Sum.inl a : Key) = Sum.inl b := fun q => e (Sum.inl.inj q)
    rw [decide_eq_false h]
    exact (beq_eq_false_iff_ne.mpr e).symm
theorem key_rr (a b : Str) : decide ((Sum.inr a : Key) = Sum.inr b) = decide (a = b) := by
  by_cases e : a = b
  · subst e; simp
  · have h : ¬ (Sum.inr a : Key) = Sum.inr b := fun q => e (Sum.inr.inj q)
    rw [decide_eq_false h, decide_eq_false e]
theorem key_lr (a : Int) (b : Str) : decide ((Sum.inl a : Key) = Sum.inr b) = false := decide_eq_false (fun q => nomatch q)
theorem key_rl (a : Str) (b : Int) : decide ((Sum.inr a : Key) = Sum.inl b) = false := decide_eq_false (fun q => nomatch q)

def mixKind (prog : Program) (w : World) : PySem.KeyKind prog w Key where
  is := keyIs
  hash := keyH w
  inj := fun v a b ha hb => by
    rcases keyIs_shape ha with ⟨i, t, rfl, rfl⟩ | ⟨x, t, rfl, rfl⟩
    · rcases keyIs_shape hb with ⟨j, u, rfl, e⟩ | ⟨y, u, rfl, e⟩
      · injection e with e1 _; rw [e1]
      · exact nomatch e
    · rcases keyIs_shape hb with ⟨j, u, rfl, e⟩ | ⟨y, u, rfl, e⟩
      · exact nomatch e
      · injection e with e1 _; rw [e1]
  byValue := fun k v h => by
    rcases keyIs_shape h with ⟨i, t, rfl, rfl⟩ | ⟨x, t, rfl, rfl⟩ <;> rfl
  pyHash := fun hv h => by
    rcases keyIs_shape hv with ⟨i, t, rfl, rfl⟩ | ⟨x, t, rfl, rfl⟩
    · exact wpAny_pyHash_int h
    · exact wpAny_pyHash_str h
  eqBool := fun hu hv h => by
    rcases keyIs_shape hu with ⟨i, t, rfl, rfl⟩ | ⟨x, t, rfl, rfl⟩
    · rcases keyIs_shape hv with ⟨j, u, rfl, rfl⟩ | ⟨y, u, rfl, rfl⟩
      · rw [key_ll] at h; exact wpAny_eqBool_int h
      · rw [key_lr] at h; exact SeqAt.EqAt.int_str i t y u _ _ _ _ h
    · rcases keyIs_shape hv with ⟨j, u, rfl, rfl⟩ | ⟨y, u, rfl, rfl⟩
      · rw [key_rl] at h; exact SeqAt.EqAt.str_int x t j u _ _ _ _ h
      · rw [key_rr] at h; exact wpAny_eqBool_str h
  «strs» := fun k x t v h => by
    rcases keyIs_shape h with ⟨i, u, rfl, e⟩ | ⟨y, u, rfl, e⟩
    · exact nomatch e
    · injection e with e1 _
      subst e1
      cases v <;> rfl

theorem mixKind_int (prog : Program) (w : World) (i : Int) (t : Tok) : (mixKind prog w).is (.inl i) (.int i t) = true := keyIs_int i t
theorem mixKind_str (prog : Program) (w : World) (x : Str) (t : Tok) : (mixKind prog w).is (.inr x) (.str x t) = true := keyIs_str x t
end L2

namespace L2
open PySem PySem.Spec PyProof.Rows

/-- a value, without the heap -/
inductive V where
  | non | bl (b : Bool) | int (i : Int) | str (x : Str) | byt (b : Array UInt8) | flt (b : UInt64) | ref (a : Addr) | ty (n : String)
  deriving DecidableEq

def RelV : V → Value → Prop
  | .non, u => u = Value.none
  | .bl b, u => u = Value.bool b
  | .int i, u => ∃ t, u = Value.int i t
  | .str x, u => ∃ t, u = Value.str x t
  | .byt b, u => ∃ t, u = Value.bytes b t
  | .flt b, u => ∃ t, u = Value.float b t
  | .ref a, u => u = Value.ref a
  | .ty n, u => u = Value.type n

abbrev Vals : List V → List Value → Prop := Paired RelV
theorem Vals.length {xs : List V} {us : List Value} (r : Vals xs us) : xs.length = us.length := Paired.length r
theorem Vals.get : ∀ {xs : List V} {us : List Value} {i : Nat} {x : V}, Vals xs us → xs[i]? = some x → ∃ u, us[i]? = some u ∧ RelV x u
  | _, _, _, _, .nil, e => by simp at e
  | _, _, 0, _, .cons r _, e => by simp at e; subst e; exact ⟨_, rfl, r⟩
  | _, _, i + 1, x, .cons _ t, e => by
    obtain ⟨u, h1, h2⟩ := Vals.get (i := i) (x := x) t (by simpa using e)
    exact ⟨u, by simpa using h1, h2⟩
theorem Vals.append : ∀ {xs ys : List V} {us ws : List Value}, Vals xs us → Vals ys ws → Vals (xs ++ ys) (us ++ ws)
  | _, _, _, _, .nil, s => s
  | _, _, _, _, .cons r t, s => .cons r (Vals.append t s)
theorem Vals.take : ∀ {xs : List V} {us : List Value} (n : Nat), Vals xs us → Vals (xs.take n) (us.take n)
  | _, _, 0, _ => .nil
  | _, _, _ + 1, .nil => .nil
  | _, _, n + 1, .cons r t => .cons r (Vals.take n t)
theorem Vals.drop : ∀ {xs : List V} {us : List Value} (n : Nat), Vals xs us → Vals (xs.drop n) (us.drop n)
  | _, _, 0, r => r
  | _, _, _ + 1, .nil => .nil
  | _, _, n + 1, .cons _ t => Vals.drop n t
def RelO : Option V → Option Value → Prop
  | some v, some u => RelV v u
  | none, none => True
  | _, _ => False
def KV {κ : Type} : List (κ × V) → List (κ × Value) → Prop := Paired fun (p : κ × V) (q : κ × Value) => p.1 = q.1 ∧ RelV p.2 q.2

/-- a key of a dict (00_mix): an int or a text -/
def kV : Key → V
  | .inl i => .int i
  | .inr x => .str x

/-- what stands at a tracked address -/
inductive HO where
  /-- a list -/
  | lst (xs : List V)
  /-- a tuple (never changes) -/
  | tup (xs : List V)
  /-- a dict whose keys are ints and texts; one whose keys are tuples of ints and texts (the empty one is both) -/
  | dK (kvs : List (Key × V)) | dT (kvs : List (List Key × V))
  /-- a set of ints: its members, its size -/
  | set (S : Int → Bool) (n : Nat)
  /-- an instance of the class at C, its dict at dx, its attributes -/
  | ins (C dx : Addr) (fs : List (Str × V))
  /-- the dict of the instance at x -/
  | own (x : Addr)
  /-- the dict of an exception -/
  | xd (fs : List (Str × V))
  /-- a bound method, f of x -/
  | met (f x : Addr)
  /-- a range object lo, lo + 1, .. below hi -/
  | rng (lo hi : Int)
  /-- a thing that is known to the object (the script; a dict while a loop walks it): read, never written while it is so -/
  | frz (o : Obj) (u : HO)
  /-- a code object's table -/
  | tbl (ps : Array Value)
  /-- any other thing, by what is true of its one object (a def of one's own: SetO a S n := HO.ext fun h => ..) -/
  | ext (φ : Heap → Prop)

abbrev Hp := Addr → Option HO
def upd (H : Hp) (a : Addr) (o : HO) : Hp := fun b => if b = a then some o else H b
theorem upd_same {H : Hp} {a : Addr} {o : HO} : upd H a o a = some o := by unfold upd; rw [if_pos rfl]
theorem upd_ne {H : Hp} {a b : Addr} {o : HO} (h : b ≠ a) : upd H a o b = H b := by unfold upd; rw [if_neg h]
theorem upd_upd {H : Hp} {a : Addr} {o u : HO} : upd (upd H a o) a u = upd H a u := by
  funext b; unfold upd; split <;> rfl
/-- two objects of different content stand apart -/
theorem ne_of {H : Hp} {a b : Addr} {o u : HO} (h : H a = some o) (h' : H b = some u) (d : o ≠ u) : a ≠ b := by
  intro e; subst e; rw [h] at h'; exact d (Option.some.inj h')
theorem ne_of_none {H : Hp} {a b : Addr} {o : HO} (h : H a = some o) (h' : H b = none) : a ≠ b := by
  intro e; subst e; rw [h] at h'; cases h'

section
variable (P : Program) (w : World)
def ObjOk (H : Hp) (h : Heap) (a : Addr) : HO → Prop
  | .lst xs => xs.length ≤ sizeLine ∧ ∃ (its : List Value) (n : Nat), Vals xs its ∧ h.get? a = some { cls := .type "list", data := .seq its.toArray n }
  | .tup xs => xs.length ≤ sizeLine ∧ ∃ its : List Value, Vals xs its ∧ IsTup h a its.toArray
  | .dK kvs => kvs.length ≤ sizeLine ∧ (a == sysModules) = false ∧ ∃ vs, KV kvs vs ∧ h.DictOf (mixKind P w) a vs
  | .dT kvs => kvs.length ≤ sizeLine ∧ (a == sysModules) = false ∧ ∃ xs : List (List Key × Addr × Value),
      Paired (fun (p : List Key × V) (q : List Key × Addr × Value) => p.1 = q.1 ∧ H q.2.1 = some (.tup (p.1.map kV)) ∧ RelV p.2 q.2.2) kvs xs ∧
      ∃ o es ep, h.get? a = some o ∧ o.ExactDict ∧ o.data = .dict es ep ∧ es.toList = xs.map (entryOfKey (tupleKind (mixKind P w))) ∧ (xs.map (·.1)).Nodup
  | .set S n => h.SetOf (intKind P w) a S n
  | .ins C dx fs => H dx = some (.own a) ∧ fs.length ≤ 1000 ∧ dx ≠ a ∧ h.get? a = some (PySem.W.instObj C dx) ∧
      ∃ mA, h.Ns1 dx mA ∧ (∀ f, RelO (fs.lookup f) (mA f)) ∧ PySem.Within mA (fs.map (·.1))
  | .own _ => ∃ o, h.get? a = some o
  | .xd fs => ∃ mA, h.Ns1 a mA ∧ ∀ f, RelO (fs.lookup f) (mA f)
  | .rng lo hi => ∃ t u v, h.get? a = some { cls := .type "range", data := .fields #[.int lo t, .int hi u, .int 1 v] }
  | .frz o u => h.get? a = some o ∧ ObjOk H h a u
  | .tbl ps => h.get? a = some { cls := .none, data := .fields ps }
  | .met f x => h.get? a = some (PySem.W.methodObj (.ref f) (.ref x))
  | .ext φ => φ h ∧ (∃ o, h.get? a = some o) ∧ ∀ h1 h2 : Heap, φ h1 → (∀ o, h1.get? a = some o → h2.get? a = some o) → φ h2
/-- the abstract heap is held -/
def HOk (H : Hp) (h : Heap) : Prop := ∀ a o, H a = some o → ObjOk P w H h a o
end

section
variable {P : Program} {w : World} {H H' : Hp} {h h' : Heap} {a : Addr} {o : HO}
theorem ObjOk.lt (x : ObjOk P w H h a o) : a < h.objs.size := by
  cases o with
  | lst xs => obtain ⟨_, _, _, _, e⟩ := x; exact Heap.lt_size e
  | tup xs => obtain ⟨_, _, _, p⟩ := x; exact p.lt
  | dK kvs => obtain ⟨_, _, _, _, o, _, _, e, _⟩ := x; exact Heap.lt_size e
  | dT kvs => obtain ⟨_, _, _, _, o, _, _, e, _⟩ := x; exact Heap.lt_size e
  | set S n => obtain ⟨o, _, _, _, e, _⟩ := x; exact Heap.lt_size e
  | ins C dx fs => obtain ⟨_, _, _, e, _⟩ := x; exact Heap.lt_size e
  | own y => obtain ⟨_, e⟩ := x; exact Heap.lt_size e
  | xd fs => obtain ⟨_, ⟨_, _, _, e, _⟩, _⟩ := x; exact Heap.lt_size e
  | rng lo hi => obtain ⟨_, _, _, e⟩ := x; exact Heap.lt_size e
  | frz ob u => obtain ⟨e, _⟩ := x; exact Heap.lt_size e
  | tbl ps => exact Heap.lt_size (show h.get? a = some _ from x)
  | met f y => exact Heap.lt_size (show h.get? a = some _ from x)
  | ext φ => obtain ⟨_, ⟨_, e⟩, _⟩ := x; exact Heap.lt_size e
theorem Paired.mapP {α β : Type} {F G : α → β → Prop} : ∀ {l₁ : List α} {l₂ : List β}, Paired F l₁ l₂ → (∀ a b, F a b → G a b) → Paired G l₁ l₂
  | _, _, .nil, _ => .nil
  | _, _, .cons r t, f => .cons (f _ _ r) (Paired.mapP t f)
/-- what an object's description leans on: its own object, its own dict, the tuples -/
theorem ObjOk.stay (x : ObjOk P w H h a o) (k : ∀ b u, (b = a ∨ H b = some (.own a)) → h.get? b = some u → h'.get? b = some u)
    (ho : ∀ b, H b = some (.own a) → H' b = some (.own a)) (ht : ∀ b xs, H b = some (.tup xs) → H' b = some (.tup xs)) : ObjOk P w H' h' a o := by
  induction o with
  | lst xs => obtain ⟨z, its, n, r, e⟩ := x; exact ⟨z, its, n, r, k _ _ (.inl rfl) e⟩
  | tup xs => obtain ⟨z, its, r, ob, e, c⟩ := x; exact ⟨z, its, r, ob, k _ _ (.inl rfl) e, c⟩
  | dK kvs => obtain ⟨z, y, vs, r, ob, es, ep, e, c⟩ := x; exact ⟨z, y, vs, r, ob, es, ep, k _ _ (.inl rfl) e, c⟩
  | dT kvs =>
    obtain ⟨z, y, xs, r, ob, es, ep, e, c⟩ := x
    exact ⟨z, y, xs, Paired.mapP r fun p q z => ⟨z.1, ht _ _ z.2.1, z.2.2⟩, ob, es, ep, k _ _ (.inl rfl) e, c⟩
  | set S n => obtain ⟨ob, es, ep, t, e, c⟩ := x; exact ⟨ob, es, ep, t, k _ _ (.inl rfl) e, c⟩
  | ins C dx fs =>
    obtain ⟨d, z, ne, e, mA, ⟨od, es, ep, e2, c⟩, r⟩ := x
    exact ⟨ho _ d, z, ne, k _ _ (.inl rfl) e, mA, ⟨od, es, ep, k _ _ (.inr d) e2, c⟩, r⟩
  | own y => obtain ⟨ob, e⟩ := x; exact ⟨ob, k _ _ (.inl rfl) e⟩
  | xd fs => obtain ⟨mA, ⟨od, es, ep, e, c⟩, r⟩ := x; exact ⟨mA, ⟨od, es, ep, k _ _ (.inl rfl) e, c⟩, r⟩
  | rng lo hi => obtain ⟨t, u, v, e⟩ := x; exact ⟨t, u, v, k _ _ (.inl rfl) e⟩
  | frz ob u ih => obtain ⟨e, q⟩ := x; exact ⟨k _ _ (.inl rfl) e, ih q⟩
  | tbl ps =>
    have e : h.get? a = some { cls := .none, data := .fields ps } := x
    show h'.get? a = some { cls := .none, data := .fields ps }
    exact k a _ (.inl rfl) e
  | met f y =>
    have e : h.get? a = some (PySem.W.methodObj (.ref f) (.ref y)) := x
    show h'.get? a = some (PySem.W.methodObj (.ref f) (.ref y))
    exact k a _ (.inl rfl) e
  | ext φ => obtain ⟨p, ⟨o, e⟩, st⟩ := x; exact ⟨st _ _ p fun o q => k _ _ (.inl rfl) q, ⟨o, k _ _ (.inl rfl) e⟩, st⟩
theorem HOk.lt (x : HOk P w H h) (e : H a = some o) : a < h.objs.size := (x a o e).lt
theorem HOk.fresh (x : HOk P w H h) (e : h.objs.size ≤ a) : H a = none := by
  cases q : H a with
  | none => rfl
  | some u => exact absurd (Nat.lt_of_lt_of_le (x.lt q) e) (Nat.lt_irrefl _)
/-- every object of the heap is kept -/
theorem HOk.kept (x : HOk P w H h) (k : ∀ b u, h.get? b = some u → h'.get? b = some u) : HOk P w H h' := fun a o e =>
  (x a o e).stay (fun b u _ q => k b u q) (fun _ q => q) fun _ _ q => q
/-- a new object is laid and tracked -/
theorem HOk.laid (x : HOk P w H h) (k : ∀ b u, h.get? b = some u → h'.get? b = some u) (hp : h.objs.size ≤ a) (new : ObjOk P w (upd H a o) h' a o) : HOk P w (upd H a o) h' := fun b u e => by
  have hn := x.fresh hp
  by_cases hb : b = a
  · subst hb; rw [upd_same] at e; cases e; exact new
  · rw [upd_ne hb] at e
    exact (x b u e).stay (fun c v _ q => k c v q) (fun c q => by rw [upd_ne (ne_of_none q hn)]; exact q) fun c xs q => by rw [upd_ne (ne_of_none q hn)]; exact q
end

/-- what may be read as u: it is u, or a known u -/
def Rd (H : Hp) (a : Addr) (u : HO) : Prop := H a = some u ∨ ∃ o, H a = some (.frz o u)
theorem Rd.ok {P : Program} {w : World} {H : Hp} {h : Heap} {a : Addr} {u : HO} (r : Rd H a u) (x : HOk P w H h) : ObjOk P w H h a u := by
  rcases r with r | ⟨o, r⟩
  · exact x a u r
  · obtain ⟨_, q⟩ := x a _ r
    exact q
/-- what may be written -/
def Mut : Option HO → Prop
  | some (.lst _) => True
  | some (.dK _) => True
  | some (.dT _) => True
  | some (.set _ _) => True
  | some (.ins _ _ _) => True
  | some (.ext _) => True
  | _ => False
section
variable {P : Program} {w : World} {H : Hp} {h h' : Heap} {x e : Addr} {o' : HO}
/-- the object at e is changed: x itself, or the dict of the instance x -/
theorem HOk.write (ok : HOk P w H h) (mu : Mut (H x)) (he : e = x ∨ H e = some (.own x)) (k : ∀ b u, b ≠ e → h.get? b = some u → h'.get? b = some u) (heo : ∃ u, h'.get? e = some u)
    (new : ObjOk P w (upd H x o') h' x o') : HOk P w (upd H x o') h' := fun b u q => by
  have nown : ∀ c y, H c = some (.own y) → c ≠ x := fun c y r z => by subst z; rw [r] at mu; exact mu
  have ntup : ∀ c xs, H c = some (.tup xs) → c ≠ x := fun c xs r z => by subst z; rw [r] at mu; exact mu
  by_cases hb : b = x
  · subst hb; rw [upd_same] at q; cases q; exact new
  · rw [upd_ne hb] at q
    by_cases hbe : b = e
    · have q' : H b = some (.own x) := by
        rcases he with z | z
        · exact absurd (hbe.trans z) hb
        · rw [hbe]; exact z
      rw [q] at q'; cases q'
      obtain ⟨v, hv⟩ := heo
      exact ⟨v, by rw [hbe]; exact hv⟩
    · refine (ok b u q).stay (fun c v hc r => k c v ?_ r) (fun c r => by rw [upd_ne (nown c b r)]; exact r) fun c xs r => by rw [upd_ne (ntup c xs r)]; exact r
      rcases hc with rfl | hc
      · exact hbe
      · rintro rfl
        rcases he with z | z
        · exact nown c b hc z
        · rw [hc] at z; cases z; exact hb rfl
end

structure Un (fs ex : List Addr) (H H' : Hp) (h h' : Heap) : Prop where
  keep : ∀ b o, h.get? b = some o → H b = none → b ∉ fs → b ∉ ex → h'.get? b = some o
  slot : ∀ b o, h.get? b = some o → H b = none → b ∈ fs → b ∉ ex → ∃ sl, h'.get? b = some { o with slots := sl }
  free : ∀ b o, h.get? b = some o → H b = none → b ∉ ex → H' b = none
  there : ∀ b o, h.get? b = some o → b ∉ ex → ∃ o', h'.get? b = some o'
  tups : ∀ b xs, H b = some (.tup xs) → H' b = some (.tup xs)
  frzs : ∀ b o u, H b = some (.frz o u) → H' b = some (.frz o u)
  tbls : ∀ b ps, H b = some (.tbl ps) → ∃ more, H' b = some (.tbl (ps ++ more))
section
variable {fs fs' ex ex' : List Addr} {H H1 H2 : Hp} {h h1 h2 h' : Heap} {a x e : Addr} {o : HO}
theorem Un.any (u : Un fs ex H H1 h h1) {b : Addr} {ob : Obj} (q : h.get? b = some ob) (n : H b = none) (hx : b ∉ ex) : ∃ sl, h1.get? b = some { ob with slots := sl } := by
  by_cases hb : b ∈ fs
  · exact u.slot b ob q n hb hx
  · exact ⟨ob.slots, u.keep b ob q n hb hx⟩
theorem Un.kept (k : ∀ b u, h.get? b = some u → h'.get? b = some u) : Un fs ex H H h h' :=
  ⟨fun b ob q _ _ _ => k b ob q, fun b ob q _ _ _ => ⟨ob.slots, k b ob q⟩, fun _ _ _ n _ => n, fun b ob q _ => ⟨ob, k b ob q⟩, fun _ _ q => q, fun _ _ _ q => q, fun _ ps q => ⟨#[], by rw [q]; simp⟩⟩
theorem Un.refl : Un fs ex H H h h := Un.kept fun _ _ q => q
theorem Un.laid (k : ∀ b u, h.get? b = some u → h'.get? b = some u) (hp : h.objs.size ≤ a) (hn : H a = none) : Un fs ex H (upd H a o) h h' where
  keep := fun b u q _ _ _ => k b u q
  slot := fun b u q _ _ _ => ⟨u.slots, k b u q⟩
  free := fun b u q n _ => by rw [upd_ne (Nat.ne_of_lt (Nat.lt_of_lt_of_le (Heap.lt_size q) hp))]; exact n
  there := fun b u q _ => ⟨u, k b u q⟩
  tups := fun b xs q => by rw [upd_ne (ne_of_none q hn)]; exact q
  frzs := fun b u xs q => by rw [upd_ne (ne_of_none q hn)]; exact q
  tbls := fun b ps q => ⟨#[], by rw [upd_ne (ne_of_none q hn), q]; simp⟩
theorem Un.write (mu : Mut (H x)) (he : e = x ∨ H e = some (.own x)) (k : ∀ b u, b ≠ e → h.get? b = some u → h'.get? b = some u) (heo : ∃ u, h'.get? e = some u) : Un fs ex H (upd H x o) h h' := by
  have hx : ∀ b, H b = none → b ≠ x := fun b n z => by subst z; rw [n] at mu; exact mu
  have hb : ∀ b, H b = none → b ≠ e := fun b n z => by
    subst z
    rcases he with r | r
    · exact hx b n r
    · rw [n] at r; cases r
  have hm : ∀ b u, H b = some u → ¬ Mut (some u) → b ≠ x := fun b u q nm z => by subst z; rw [q] at mu; exact nm mu
  refine ⟨fun b u q n _ _ => k b u (hb b n) q, fun b u q n _ _ => ⟨u.slots, k b u (hb b n) q⟩, fun b u q n _ => by rw [upd_ne (hx b n)]; exact n, fun b u q _ => ?_,
    fun b xs q => by rw [upd_ne (hm b _ q fun z => z)]; exact q, fun b u xs q => by rw [upd_ne (hm b _ q fun z => z)]; exact q, fun b ps q => ⟨#[], by rw [upd_ne (hm b _ q fun z => z), q]; simp⟩⟩
  by_cases hbe : b = e
  · subst hbe; exact heo
  · exact ⟨u, k b u hbe q⟩
end

def trk (h : Heap) (H : Hp) : List Addr := (List.range h.objs.size).filter fun a => (H a).isSome
def hidT (h : Heap) (H : Hp) : Heap := PySem.W.hideAll h (trk h H)
theorem hidT_size (h : Heap) (H : Hp) : (hidT h H).objs.size = h.objs.size := PySem.W.hideAll_size _ _
theorem hidT_get {h : Heap} {H : Hp} {b : Addr} {o : Obj} (e : h.get? b = some o) (n : H b = none) : (hidT h H).get? b = some o :=
  PySem.W.hideAll_get _ e fun hm => by
    have q : (H b).isSome = true := (List.mem_filter.mp hm).2
    rw [n] at q; simp at q
theorem of_hidT {h : Heap} {H : Hp} {b : Addr} {o : Obj} (e : (hidT h H).get? b = some o) : h.get? b = some o ∧ H b = none := by
  have e' : h.get? b = some o := PySem.W.of_hideAll (trk h H) e
  refine ⟨e', ?_⟩
  cases q : H b with
  | none => rfl
  | some x =>
    have hm : b ∈ trk h H := List.mem_filter.mpr ⟨List.mem_range.mpr (Heap.lt_size e'), by simp [q]⟩
    have z : (hidT h H).get? b = none := PySem.W.hideAll_none (trk h H) hm
    rw [z] at e; cases e

end L2

namespace L2
open PySem PySem.Spec PyProof.Rows

/-- the module's facts, over the base: the heap at the law's entry without what is tracked there -/
structure Mod (K : PySem.W.Frag) (mg : Str → Option Value) (base : Heap) : Prop where
  kin : K.In base
  glob : base.Ns mainGlobals mg
  blt : ∃ mb, base.Ns builtinsNs mb ∧ ∀ x : Str, x ≠ "__name__" → mb x = bootBuiltins x
  nolimit : base.NoLimit

/-- the context: a def's body (or a comprehension's block) running. base: fixed through the whole law; s₀, H₀: the entry; outer: the frames whose slots others may change (a def's callers); stack: all frames that run;
   ex: iterators that were made ahead of the entry and are walked here (a comprehension's); fn: the names whose cells were made at the entry (a def: all; a comprehension's block: its own); calm: not within an except suite; pn: pins that every state bears; xe: what is wanted of an exception that leaves the code -/
structure Cx where
  prog : Program
  w : World
  K : PySem.W.Frag
  mg : Str → Option Value
  base : Heap
  A : Around
  N : List Str
  s₀ : Shared
  H₀ : Hp
  env : Env
  outer : List Env
  stack : List Env
  ex : List Addr
  fn : Str → Bool
  calm : Bool
  pn : List (Addr × Obj)
  xe : Value → Shared → Prop
/-- the callers' frames -/
def frs (l : List Env) : List Addr := l.filterMap (·.frame)
abbrev Cx.fs (X : Cx) : List Addr := frs X.outer

def Vis (sc : Scope) (x : Str) : Prop := sc.names.lookup x = some .local ∨ sc.names.lookup x = some .cell ∨ sc.names.lookup x = some .free
def Loc (sc : Scope) (x : Str) : Prop := sc.names.lookup x = some .local ∨ sc.names.lookup x = some .cell
def Look (env : Env) (h : Heap) (m : Str → Option Value) (x : Str) (u : Value) : Prop :=
  (env.kindOf x = some .local ∧ m x = some u) ∨ ((env.kindOf x = some .cell ∨ env.kindOf x = some .free) ∧ ∃ c, env.cells.lookup x = some c ∧ h.IsCell c (some u))

structure Cx.Ok (X : Cx) : Prop where
  mod : Mod X.K X.mg X.base
  kind : X.env.scope.kind = .function
  glob : X.env.globals = mainGlobals
  blt : X.env.builtins = builtinsNs
  above : X.s₀.heap.objs.size ≤ X.env.locals
  inj : ∀ x y c, X.env.cells.lookup x = some c → X.env.cells.lookup y = some c → x = y
  has : ∀ x, (X.env.kindOf x = some .cell ∨ X.env.kindOf x = some .free) → ∃ c, X.env.cells.lookup x = some c
  cab : ∀ x c, X.fn x = true → X.env.cells.lookup x = some c → X.s₀.heap.objs.size ≤ c
  hd : X.calm = true → X.A.handled = none
  frames : X.A.frames = some X.stack
  stk : X.stack = X.outer ∨ (X.stack = X.env :: X.outer ∧ X.env.frame = some X.env.locals)
  exf : ∀ b ∈ X.ex, b ≠ X.env.locals ∧ ∀ x c, X.env.cells.lookup x = some c → c ≠ b
  bs : ∀ b o, X.base.get? b = some o → X.s₀.heap.get? b = some o ∧ X.H₀ b = none
  bsz : X.base.objs.size ≤ X.s₀.heap.objs.size
  noex : ∀ b o, X.base.get? b = some o → b ∉ X.ex
  exfs : ∀ b ∈ X.ex, b ∉ X.fs
  funs : X.s₀.heap.FunFrames X.base X.outer
  frf : ∀ b ∈ X.fs, X.H₀ b = none

structure Inv (X : Cx) (pins : List (Addr × Obj)) (σ : List (Option V)) (H : Hp) (s : Shared) : Prop where
  ok : X.Ok
  os : s.os = X.s₀.os
  bare : AllBare s.gens
  base : Un X.fs X.ex X.H₀ H X.s₀.heap s.heap
  loc : ∃ m, s.heap.Ns X.env.locals m ∧ ∀ (i : Nat) (x : Str) (v : V), X.N[i]? = some x → σ[i]? = some (some v) → Vis X.env.scope x → ∃ u, RelV v u ∧ Look X.env s.heap m x u
  cell : ∀ x c, X.env.cells.lookup x = some c → ∃ v, s.heap.IsCell c v
  free : H X.env.locals = none
  freeC : ∀ x c, X.env.cells.lookup x = some c → H c = none
  pin : ∀ p ∈ X.pn ++ pins, s.heap.get? p.1 = some p.2 ∧ H p.1 = none ∧ p.1 ≠ X.env.locals ∧ p.1 ∉ X.fs ∧ ∀ v, p.2.data ≠ .cell v
  hok : HOk X.prog X.w H s.heap
  len : σ.length = X.N.length

section
variable {X : Cx} {pins : List (Addr × Obj)} {σ : List (Option V)} {H H' : Hp} {s : Shared} {h' : Heap}

theorem Cx.Ok.nofr (ok : X.Ok) {b : Addr} {o : Obj} (e : X.base.get? b = some o) : b ∉ X.fs := fun hb => by
  have := (ok.funs.mem hb).1
  rw [e] at this; cases this
theorem Inv.bs (I : Inv X pins σ H s) : ∀ b o, X.base.get? b = some o → s.heap.get? b = some o ∧ H b = none := fun b o e =>
  ⟨I.base.keep b o (I.ok.bs b o e).1 (I.ok.bs b o e).2 (I.ok.nofr e) (I.ok.noex b o e), I.base.free b o (I.ok.bs b o e).1 (I.ok.bs b o e).2 (I.ok.noex b o e)⟩
theorem Inv.bk (I : Inv X pins σ H s) : ∀ b o, X.base.get? b = some o → s.heap.get? b = some o := fun b o e => (I.bs b o e).1
theorem Inv.mod (I : Inv X pins σ H s) : Mod X.K X.mg X.base := I.ok.mod
theorem Inv.kIn (I : Inv X pins σ H s) : X.K.In s.heap := I.ok.mod.kin.keeps I.bk
theorem Inv.lt (I : Inv X pins σ H s) : X.env.locals < s.heap.objs.size := let ⟨_, hn, _⟩ := I.loc; hn.lt
theorem Inv.sz (I : Inv X pins σ H s) : X.s₀.heap.objs.size ≤ s.heap.objs.size := Nat.le_trans I.ok.above (Nat.le_of_lt I.lt)
theorem Inv.nofs (I : Inv X pins σ H s) {a : Addr} (h : s.heap.objs.size ≤ a) : a ∉ X.fs := fun hb => by
  obtain ⟨_, o, ho, _⟩ := I.ok.funs.mem hb
  exact absurd (Nat.lt_of_lt_of_le (Heap.lt_size ho) (Nat.le_trans I.sz h)) (Nat.lt_irrefl _)
theorem Inv.cne (I : Inv X pins σ H s) : ∀ x c, X.env.cells.lookup x = some c → c ≠ X.env.locals := fun x c e z => by
  obtain ⟨v, o, ho, hd⟩ := I.cell x c e
  obtain ⟨m, ⟨o', es, ep, ho', hd', _⟩, _⟩ := I.loc
  rw [z, ho'] at ho; cases ho; rw [hd'] at hd; cases hd
theorem Inv.funs (I : Inv X pins σ H s) : s.heap.FunFrames X.base X.outer := by
  have all : ∀ (l : List Env), (∀ b ∈ frs l, b ∈ X.fs) → X.s₀.heap.FunFrames X.base l → s.heap.FunFrames X.base l := by
    intro l
    induction l with
    | nil => intro _ _; trivial
    | cons env r ih =>
      intro hs hl
      obtain ⟨hk, ⟨L, o, hf, hn, ho, hd⟩, hr⟩ := hl
      have hL : L ∈ X.fs := hs L (by unfold frs; rw [List.filterMap_cons, hf]; exact List.mem_cons_self)
      obtain ⟨sl, e⟩ := I.base.slot L o ho (I.ok.frf L hL) hL fun z => I.ok.exfs L z hL
      exact ⟨hk, ⟨L, _, hf, hn, e, hd⟩, ih (fun b hb => hs b (by unfold frs; rw [List.filterMap_cons, hf]; exact List.mem_cons_of_mem _ hb)) hr⟩
  exact all X.outer (fun _ hb => hb) I.ok.funs

/-- the frames that run, for a call -/
theorem Inv.stack (I : Inv X pins σ H s) : s.heap.FunFrames X.base X.stack := by
  rcases I.ok.stk with e | ⟨e, hf⟩
  · rw [e]; exact I.funs
  · rw [e]
    obtain ⟨m, hn, _⟩ := I.loc
    refine .cons (by rw [I.ok.kind]; decide) hf hn ?_ I.funs
    exact Heap.get?_none_of_le (Nat.le_trans I.ok.bsz I.ok.above)
theorem Inv.stkSub (I : Inv X pins σ H s) : ∀ b ∈ frs X.stack, b ∈ X.env.locals :: X.fs := fun b hb => by
  rcases I.ok.stk with e | ⟨e, hf⟩
  · rw [e] at hb; exact List.mem_cons_of_mem _ hb
  · rw [e] at hb
    unfold frs at hb
    rw [List.filterMap_cons, hf] at hb
    exact hb
theorem Inv.stkFree (I : Inv X pins σ H s) : ∀ b ∈ frs X.stack, H b = none := fun b hb => by
  rcases List.mem_cons.mp (I.stkSub b hb) with e | hb
  · rw [e]; exact I.free
  · obtain ⟨_, o, ho, _⟩ := I.ok.funs.mem hb
    exact I.base.free b o ho (I.ok.frf b hb) fun z => I.ok.exfs b z hb

/-- THE STEP: the untracked objects but the frame and the records at ch are kept (the callers' frames up to slots), the frame's map is kept, the new abstract heap is held -/
theorem Inv.step {g' : Array GenState} {t' : Nat} {d' : Drawn} {ch : List Addr} (I : Inv X pins σ H s)
    (hch : ∀ b ∈ ch, (b ∈ X.ex ∨ X.s₀.heap.objs.size ≤ b) ∧ b ≠ X.env.locals ∧ (∀ x c, X.env.cells.lookup x = some c → c ≠ b) ∧ ∀ p ∈ X.pn ++ pins, p.1 ≠ b)
    (keep : ∀ b o, b ≠ X.env.locals → b ∉ X.fs → b ∉ ch → s.heap.get? b = some o → H b = none → h'.get? b = some o)
    (slot : ∀ b o, b ≠ X.env.locals → b ∈ X.fs → b ∉ ch → s.heap.get? b = some o → H b = none → ∃ sl, h'.get? b = some { o with slots := sl }) (free : ∀ b o, b ∉ ch → s.heap.get? b = some o → H b = none → H' b = none)
    (there : ∀ b o, b ∉ ch → s.heap.get? b = some o → ∃ o', h'.get? b = some o')
    (tups : ∀ b xs, H b = some (.tup xs) → H' b = some (.tup xs)) (frzs : ∀ b o u, H b = some (.frz o u) → H' b = some (.frz o u)) (tbls : ∀ b ps, H b = some (.tbl ps) → ∃ more, H' b = some (.tbl (ps ++ more)))
    (ns : ∀ m, s.heap.Ns X.env.locals m → h'.Ns X.env.locals m) (hok : HOk X.prog X.w H' h') (hg : AllBare g') :
    Inv X pins σ H' { s with heap := h', gens := g', drawn := d', toks := t' } := by
  have neL : ∀ b o, X.s₀.heap.get? b = some o → b ≠ X.env.locals := fun b o e => Nat.ne_of_lt (Nat.lt_of_lt_of_le (Heap.lt_size e) I.ok.above)
  have neC : ∀ b o, X.s₀.heap.get? b = some o → b ∉ X.ex → b ∉ ch := fun b o e hx hb => by
    rcases (hch b hb).1 with z | z
    · exact hx z
    · exact absurd (Nat.lt_of_lt_of_le (Heap.lt_size e) z) (Nat.lt_irrefl _)
  have cellK : ∀ x c, X.env.cells.lookup x = some c → ∀ v, s.heap.IsCell c v → h'.IsCell c v := fun x c e v ⟨o, ho, hd⟩ => by
    have nch : c ∉ ch := fun z => (hch c z).2.2.1 x c e rfl
    by_cases hc : c ∈ X.fs
    · obtain ⟨sl, q⟩ := slot c o (I.cne x c e) hc nch ho (I.freeC x c e)
      exact ⟨_, q, hd⟩
    · exact ⟨o, keep c o (I.cne x c e) hc nch ho (I.freeC x c e), hd⟩
  refine ⟨I.ok, I.os, hg, ⟨fun b o e n hb hx => ?_, fun b o e n hb hx => ?_, fun b o e n hx => ?_, fun b o e hx => ?_, fun b xs e => tups b xs (I.base.tups b xs e), fun b o xs e => frzs b o xs (I.base.frzs b o xs e), fun b ps e => ?_⟩, ?_, fun x c e => ?_, ?_, fun x c e => ?_, fun p hp => ?_, hok, I.len⟩
  · exact keep b o (neL b o e) hb (neC b o e hx) (I.base.keep b o e n hb hx) (I.base.free b o e n hx)
  · obtain ⟨sl, e1⟩ := I.base.slot b o e n hb hx
    obtain ⟨sl', e2⟩ := slot b _ (neL b o e) hb (neC b o e hx) e1 (I.base.free b o e n hx)
    exact ⟨sl', e2⟩
  · obtain ⟨o', e1⟩ := I.base.there b o e hx
    exact free b o' (neC b o e hx) e1 (I.base.free b o e n hx)
  · obtain ⟨o', e1⟩ := I.base.there b o e hx
    exact there b o' (neC b o e hx) e1
  · obtain ⟨m1, e1⟩ := I.base.tbls b ps e
    obtain ⟨m2, e2⟩ := tbls b _ e1
    exact ⟨m1 ++ m2, by rw [e2, Array.append_assoc]⟩
  · obtain ⟨m, hn, hl⟩ := I.loc
    refine ⟨m, ns m hn, fun i x v e1 e2 e3 => ?_⟩
    obtain ⟨u, r, l⟩ := hl i x v e1 e2 e3
    refine ⟨u, r, ?_⟩
    rcases l with l | ⟨k, c, e, z⟩
    · exact .inl l
    · exact .inr ⟨k, c, e, cellK x c e _ z⟩
  · obtain ⟨v, z⟩ := I.cell x c e
    exact ⟨v, cellK x c e v z⟩
  · obtain ⟨m, ⟨o, _, _, ho, _⟩, _⟩ := I.loc
    exact free _ o (fun z => (hch _ z).2.1 rfl) ho I.free
  · obtain ⟨v, o, ho, hd⟩ := I.cell x c e
    exact free c o (fun z => (hch c z).2.2.1 x c e rfl) ho (I.freeC x c e)
  · obtain ⟨e, n, ne, nf, d⟩ := I.pin p hp
    have nch : p.1 ∉ ch := fun z => (hch p.1 z).2.2.2 p hp rfl
    exact ⟨keep p.1 p.2 ne nf nch e n, free p.1 p.2 nch e n, ne, nf, d⟩
/-- .. where the frame's own object is kept too -/
theorem Inv.un {t' : Nat} (I : Inv X pins σ H s) (u : Un X.fs [] H H' s.heap h') (hok : HOk X.prog X.w H' h') : Inv X pins σ H' { s with heap := h', toks := t' } := by
  obtain ⟨m, ⟨o, es, ep, ho, r⟩, _⟩ := id I.loc
  obtain ⟨sl, hL⟩ := u.any ho I.free (by simp)
  exact I.step (g' := s.gens) (d' := s.drawn) (ch := []) (fun _ z => nomatch z) (fun b o _ hb _ e n => u.keep b o e n hb (by simp)) (fun b o _ hb _ e n => u.slot b o e n hb (by simp)) (fun b o _ e n => u.free b o e n (by simp)) (fun b o _ e => u.there b o e (by simp)) u.tups u.frzs u.tbls (fun m' hm => by
    obtain ⟨o', es', ep', ho', r'⟩ := hm
    rw [ho] at ho'; cases ho'
    exact ⟨_, es', ep', hL, r'⟩) hok I.bare
/-- behind a call (or a comprehension's block): the slots of this frame may have changed too, the records at ch may have turned -/
theorem Inv.call {g' : Array GenState} {t' : Nat} {d' : Drawn} {ch : List Addr} (I : Inv X pins σ H s) (u : Un (frs X.stack) ch H H' s.heap h') (hok : HOk X.prog X.w H' h') (hg : AllBare g')
    (hch : ∀ b ∈ ch, (b ∈ X.ex ∨ X.s₀.heap.objs.size ≤ b) ∧ b ≠ X.env.locals ∧ (∀ x c, X.env.cells.lookup x = some c → c ≠ b) ∧ ∀ p ∈ X.pn ++ pins, p.1 ≠ b) :
    Inv X pins σ H' { s with heap := h', gens := g', drawn := d', toks := t' } := by
  obtain ⟨m, ⟨o, es, ep, ho, r⟩, _⟩ := id I.loc
  obtain ⟨sl, hL⟩ := u.any ho I.free fun z => (hch _ z).2.1 rfl
  exact I.step (ch := ch) hch (fun b o hL hb hc e n => u.keep b o e n (fun z => (List.mem_cons.mp (I.stkSub b z)).elim hL hb) hc) (fun b o _ _ hc e n => u.any e n hc) (fun b o hc e n => u.free b o e n hc) (fun b o hc e => u.there b o e hc) u.tups u.frzs u.tbls (fun m' hm => by
    obtain ⟨o', es', ep', ho', r'⟩ := hm
    rw [ho] at ho'; cases ho'
    exact ⟨_, es', ep', hL, r'⟩) hok hg
/-- an untracked record of ours (an iterator) has turned -/
theorem Inv.turned {t' : Nat} {it : Addr} (I : Inv X pins σ H s) (k : ∀ b o, b ≠ it → s.heap.get? b = some o → h'.get? b = some o) (hn : H it = none) (hL : it ≠ X.env.locals)
    (h1 : it ∈ X.ex ∨ X.s₀.heap.objs.size ≤ it) (h2 : ∀ x c, X.env.cells.lookup x = some c → c ≠ it) (h3 : ∀ p ∈ X.pn ++ pins, p.1 ≠ it) : Inv X pins σ H { s with heap := h', toks := t' } := by
  have nit : ∀ b u, H b = some u → b ≠ it := fun b u e z => by rw [z, hn] at e; cases e
  refine I.step (g' := s.gens) (d' := s.drawn) (ch := [it]) (fun b hb => ?_) (fun b o _ _ hc e _ => k b o (fun z => hc (by simp [z])) e) (fun b o _ _ hc e _ => ⟨o.slots, k b o (fun z => hc (by simp [z])) e⟩) (fun _ _ _ _ n => n)
    (fun b o hc e => ⟨o, k b o (fun z => hc (by simp [z])) e⟩) (fun _ _ e => e) (fun _ _ _ e => e) (fun b ps e => ⟨#[], by rw [e]; simp⟩) (fun m hm => ?_) (fun b u e => ?_) I.bare
  · have e : b = it := by simpa using hb
    subst e
    exact ⟨h1, hL, h2, h3⟩
  · obtain ⟨o, es, ep, ho, r⟩ := hm
    exact ⟨o, es, ep, k _ o (Ne.symm hL) ho, r⟩
  · refine (I.hok b u e).stay (fun c v hc q => k c v ?_ q) (fun _ q => q) fun _ _ q => q
    rcases hc with z | z
    · rw [z]; exact nit b u e
    · exact nit c _ z
theorem Inv.tok (I : Inv X pins σ H s) (t : Nat) : Inv X pins σ H { s with toks := t } := I.un (h' := s.heap) (t' := t) Un.refl I.hok
/-- all objects kept -/
theorem Inv.kept {t' : Nat} (I : Inv X pins σ H s) (k : ∀ b u, s.heap.get? b = some u → h'.get? b = some u) : Inv X pins σ H { s with heap := h', toks := t' } := I.un (Un.kept k) (I.hok.kept k)
/-- a new object laid and tracked -/
theorem Inv.laid {a : Addr} {o : HO} {t' : Nat} (I : Inv X pins σ H s) (k : ∀ b u, s.heap.get? b = some u → h'.get? b = some u) (hp : s.heap.objs.size ≤ a) (new : ObjOk X.prog X.w (upd H a o) h' a o) :
    Inv X pins σ (upd H a o) { s with heap := h', toks := t' } := I.un (Un.laid k hp (I.hok.fresh hp)) (I.hok.laid k hp new)
/-- an object written -/
theorem Inv.write {x e : Addr} {o : HO} {t' : Nat} (I : Inv X pins σ H s) (mu : Mut (H x)) (he : e = x ∨ H e = some (.own x)) (k : ∀ b u, b ≠ e → s.heap.get? b = some u → h'.get? b = some u) (heo : ∃ u, h'.get? e = some u)
    (new : ObjOk X.prog X.w (upd H x o) h' x o) : Inv X pins σ (upd H x o) { s with heap := h', toks := t' } := I.un (Un.write mu he k heo) (I.hok.write mu he k heo new)
/-- forgetting slots, pins -/
theorem Inv.weak {σ' : List (Option V)} (I : Inv X pins σ H s) (hl : σ'.length = σ.length) (w : ∀ (i : Nat) v, σ'[i]? = some (some v) → σ[i]? = some (some v)) : Inv X pins σ' H s :=
  ⟨I.ok, I.os, I.bare, I.base, let ⟨m, hn, hl'⟩ := I.loc; ⟨m, hn, fun i x v e1 e2 e3 => hl' i x v e1 (w i v e2) e3⟩, I.cell, I.free, I.freeC, I.pin, I.hok, hl.trans I.len⟩
theorem Inv.pins_of {pins' : List (Addr × Obj)} (I : Inv X pins σ H s) (h : ∀ p ∈ pins', s.heap.get? p.1 = some p.2 ∧ H p.1 = none ∧ p.1 ≠ X.env.locals ∧ p.1 ∉ X.fs ∧ ∀ v, p.2.data ≠ .cell v) : Inv X pins' σ H s :=
  ⟨I.ok, I.os, I.bare, I.base, I.loc, I.cell, I.free, I.freeC, fun p hp => (List.mem_append.mp hp).elim (fun z => I.pin p (List.mem_append_left _ z)) (h p), I.hok, I.len⟩

theorem nodup_ix {N : List Str} (hN : N.Nodup) {i j : Nat} {x : Str} (a : N[i]? = some x) (b : N[j]? = some x) : i = j := by
  obtain ⟨h1, e1⟩ := List.getElem?_eq_some_iff.mp a
  obtain ⟨h2, e2⟩ := List.getElem?_eq_some_iff.mp b
  exact (List.getElem_inj hN).mp (e1.trans e2.symm)

/-- a name is stored; what changed -/
theorem store_ok2 {M : Model} {A : Around} {E : Value → Shared → Prop} {i : Nat} {x : Str} {v : V} {u : Value} {Q : Unit → Shared → Prop} (I : Inv X pins σ H s) (hN : X.N.Nodup) (hi : X.N[i]? = some x) (hx : Loc X.env.scope x) (r : RelV v u)
    (h : ∀ s', Inv X pins (σ.set i (some v)) H s' → (∃ a, Heap.SameBut a s.heap s'.heap ∧ (a = X.env.locals ∨ X.env.cells.lookup x = some a)) → Q () s') (hf : X.fn x = true ∨ X.env.scope.names.lookup x = some .local := by first | exact .inl rfl | exact .inr rfl | assumption) : wpAny M A (storeName X.env x u) Q E s := by
  obtain ⟨m, hn, hl⟩ := id I.loc
  have hcls : (X.env.scope.kind == .class || (X.env.scope.kind == .module && X.env.locals != X.env.globals)) = false := by rw [I.ok.kind]; rfl
  have hiσ : i < σ.length := by rw [I.len]; exact (List.getElem?_eq_some_iff.mp hi).1
  have cne := I.cne
  have tracked : ∀ {a : Addr} {h' : Heap}, (∃ o, s.heap.get? a = some o ∧ H a = none) → Heap.SameBut a s.heap h' → HOk X.prog X.w H h' := fun {a h'} ha hs b ob e => by
    obtain ⟨_, _, hfree⟩ := ha
    refine (I.hok b ob e).stay (fun c w' hc q => (hs.2 c ?_).trans q) (fun _ q => q) fun _ _ q => q
    rintro rfl
    rcases hc with rfl | hc
    · rw [hfree] at e; cases e
    · rw [hfree] at hc; cases hc
  rcases hx with hk | hk
  · refine wpAny_storeName_local hk hn (fun h' hn' hs => ?_) hcls
    obtain ⟨oL, _, _, hoL, _⟩ := id hn
    refine h _ ⟨I.ok, I.os, I.bare, ⟨fun b o e n hb hx => ?_, fun b o e n hb hx => ?_, I.base.free, fun b o e hx => ?_, I.base.tups, I.base.frzs, I.base.tbls⟩, ⟨_, hn', fun j y v' e1 e2 e3 => ?_⟩, fun y c e => ?_, I.free, I.freeC, fun p hp => ?_, tracked ⟨oL, hoL, I.free⟩ hs, by simpa using I.len⟩ ⟨_, hs, .inl rfl⟩
    · exact (hs.2 b (Nat.ne_of_lt (Nat.lt_of_lt_of_le (Heap.lt_size e) I.ok.above))).trans (I.base.keep b o e n hb hx)
    · obtain ⟨sl, e1⟩ := I.base.slot b o e n hb hx
      exact ⟨sl, (hs.2 b (Nat.ne_of_lt (Nat.lt_of_lt_of_le (Heap.lt_size e) I.ok.above))).trans e1⟩
    · obtain ⟨o', e1⟩ := I.base.there b o e hx
      exact ⟨o', (hs.2 b (Nat.ne_of_lt (Nat.lt_of_lt_of_le (Heap.lt_size e) I.ok.above))).trans e1⟩
    · by_cases hj : j = i
      · subst hj
        rw [hi] at e1; cases e1
        rw [List.getElem?_set_self hiσ] at e2
        cases e2
        exact ⟨u, r, .inl ⟨hk, by simp⟩⟩
      · rw [List.getElem?_set_ne (Ne.symm hj)] at e2
        obtain ⟨u', r', q⟩ := hl j y v' e1 e2 e3
        refine ⟨u', r', ?_⟩
        rcases q with ⟨k, e⟩ | ⟨k, c, e, z⟩
        · refine .inl ⟨k, ?_⟩
          have : y ≠ x := fun e => hj (nodup_ix hN e1 (e ▸ hi))
          simp [this, e]
        · exact .inr ⟨k, c, e, z.sameBut hs (cne y c e)⟩
    · obtain ⟨w', z⟩ := I.cell y c e
      exact ⟨w', z.sameBut hs (cne y c e)⟩
    · obtain ⟨e, n, ne, nf, d⟩ := I.pin p hp
      exact ⟨(hs.2 p.1 ne).trans e, n, ne, nf, d⟩
  · have hfn : X.fn x = true := by
      rcases hf with z | z
      · exact z
      · rw [z] at hk; cases hk
    obtain ⟨c, hc⟩ := I.ok.has x (.inl hk)
    obtain ⟨w', z⟩ := I.cell x c hc
    refine wpAny_storeName_cell I.ok.kind hk hc z (fun h' hc' hs => ?_)
    obtain ⟨oc, hoc, hocd⟩ := id z
    refine h { s with heap := h' } ⟨I.ok, I.os, I.bare, ⟨fun b o e n hb hx => ?_, fun b o e n hb hx => ?_, I.base.free, fun b o e hx => ?_, I.base.tups, I.base.frzs, I.base.tbls⟩, ⟨m, hn.sameBut hs (Ne.symm (cne x c hc)), fun j y v' e1 e2 e3 => ?_⟩, fun y c' e => ?_, I.free, I.freeC, fun p hp => ?_, tracked ⟨oc, hoc, I.freeC x c hc⟩ hs, by simpa using I.len⟩ ⟨c, hs, .inr hc⟩
    · exact (hs.2 b (Nat.ne_of_lt (Nat.lt_of_lt_of_le (Heap.lt_size e) (I.ok.cab x c hfn hc)))).trans (I.base.keep b o e n hb hx)
    · obtain ⟨sl, e1⟩ := I.base.slot b o e n hb hx
      exact ⟨sl, (hs.2 b (Nat.ne_of_lt (Nat.lt_of_lt_of_le (Heap.lt_size e) (I.ok.cab x c hfn hc)))).trans e1⟩
    · obtain ⟨o', e1⟩ := I.base.there b o e hx
      exact ⟨o', (hs.2 b (Nat.ne_of_lt (Nat.lt_of_lt_of_le (Heap.lt_size e) (I.ok.cab x c hfn hc)))).trans e1⟩
    · by_cases hj : j = i
      · subst hj
        rw [hi] at e1; cases e1
        rw [List.getElem?_set_self hiσ] at e2
        cases e2
        exact ⟨u, r, .inr ⟨.inl hk, c, hc, hc'⟩⟩
      · rw [List.getElem?_set_ne (Ne.symm hj)] at e2
        obtain ⟨u', r', q⟩ := hl j y v' e1 e2 e3
        refine ⟨u', r', ?_⟩
        rcases q with q | ⟨k, c', e, z'⟩
        · exact .inl q
        · refine .inr ⟨k, c', e, z'.sameBut hs ?_⟩
          rintro rfl
          exact hj (nodup_ix hN e1 (I.ok.inj _ _ _ e hc ▸ hi))
    · by_cases hcc : c' = c
      · subst hcc; exact ⟨_, hc'⟩
      · obtain ⟨w2, z2⟩ := I.cell y c' e
        exact ⟨w2, z2.sameBut hs hcc⟩
    · obtain ⟨e, n, ne, nf, d⟩ := I.pin p hp
      refine ⟨(hs.2 p.1 ?_).trans e, n, ne, nf, d⟩
      intro q
      rw [q, hoc] at e
      have q' : oc = p.2 := Option.some.inj e
      exact d w' (by rw [← q']; exact hocd)
theorem store_ok {M : Model} {A : Around} {E : Value → Shared → Prop} {i : Nat} {x : Str} {v : V} {u : Value} {Q : Unit → Shared → Prop} (I : Inv X pins σ H s) (hN : X.N.Nodup) (hi : X.N[i]? = some x) (hx : Loc X.env.scope x) (r : RelV v u)
    (h : ∀ s', Inv X pins (σ.set i (some v)) H s' → Q () s') (hf : X.fn x = true ∨ X.env.scope.names.lookup x = some .local := by first | exact .inl rfl | exact .inr rfl | assumption) : wpAny M A (storeName X.env x u) Q E s :=
  store_ok2 I hN hi hx r (fun s' I' _ => h s' I') hf
end

/-- an exception: its class, its own dict's address (where it has one), the abstract heap behind it -/
abbrev XK := Value → Option Addr → Hp → Prop
abbrev St := List (Option V)
abbrev VK := V → Hp → Prop
/-- an expression's reading; a test's; an argument list's -/
abbrev TE := St → Hp → VK → Prop
abbrev TT := St → Hp → (Bool → Hp → Prop) → Prop
abbrev TA := St → Hp → (List V → Hp → Prop) → Prop
/-- what is wanted behind a statement -/
structure Ends where
  nx : St → Hp → Prop
  rt : VK
  bk : St → Hp → Prop := fun _ _ => False
  ct : St → Hp → Prop := fun _ _ => False
abbrev TS := Ends → St → Hp → Prop

def EP (X : Cx) (pins : List (Addr × Obj)) (σ : St) (Q : VK) (u : Value) (s' : Shared) : Prop := ∃ v H', Inv X pins σ H' s' ∧ RelV v u ∧ Q v H'
def TP (X : Cx) (pins : List (Addr × Obj)) (σ : St) (Q : Bool → Hp → Prop) (b : Bool) (s' : Shared) : Prop := ∃ H', Inv X pins σ H' s' ∧ Q b H'
def AP (X : Cx) (pins : List (Addr × Obj)) (σ : St) (Q : List V → Hp → Prop) (us : List Value) (s' : Shared) : Prop := ∃ vs H', Inv X pins σ H' s' ∧ Vals vs us ∧ Q vs H'
def SP (X : Cx) (pins : List (Addr × Obj)) (D : Ends) (f : Flow) (s' : Shared) : Prop :=
  match f with
  | .next => ∃ σ' H', Inv X pins σ' H' s' ∧ D.nx σ' H'
  | .brk => ∃ σ' H', Inv X pins σ' H' s' ∧ D.bk σ' H'
  | .cont => ∃ σ' H', Inv X pins σ' H' s' ∧ D.ct σ' H'
  | .ret u => ∃ v σ' H', Inv X pins σ' H' s' ∧ RelV v u ∧ D.rt v H'

def PE (X : Cx) (e : Expr) (t : TE) : Prop :=
  ∀ (pins : List (Addr × Obj)) (s : Shared) (σ : St) (H : Hp) (Q : VK), Inv X pins σ H s → t σ H Q → wpAny (model X.prog X.w) X.A (eval e X.env) (EP X pins σ Q) X.xe s
def PT (X : Cx) (e : Expr) (t : TT) : Prop :=
  ∀ (pins : List (Addr × Obj)) (s : Shared) (σ : St) (H : Hp) (Q : Bool → Hp → Prop), Inv X pins σ H s → t σ H Q → wpAny (model X.prog X.w) X.A (isTrue e X.env (eval e X.env)) (TP X pins σ Q) X.xe s
/-- a test whatever its 'whole' is (and, or) -/
def PW (X : Cx) (e : Expr) (t : TT) : Prop :=
  ∀ (whole : Sem Value) (pins : List (Addr × Obj)) (s : Shared) (σ : St) (H : Hp) (Q : Bool → Hp → Prop), Inv X pins σ H s → t σ H Q → wpAny (model X.prog X.w) X.A (isTrue e X.env whole) (TP X pins σ Q) X.xe s
theorem PW.pt {X : Cx} {e : Expr} {t : TT} (h : PW X e t) : PT X e t := h _
/-- an argument list (no star), from the left -/
def PA (X : Cx) (es : List Expr) (t : TA) : Prop :=
  ∀ (pos : Pos) (pins : List (Addr × Obj)) (s : Shared) (σ : St) (H : Hp) (Q : List V → Hp → Prop), Inv X pins σ H s → t σ H Q → wpAny (model X.prog X.w) X.A (spliced (backTo pos (starEach es X.env))) (AP X pins σ Q) X.xe s
def PS (X : Cx) (st : Stmt) (t : TS) : Prop :=
  ∀ (pins : List (Addr × Obj)) (s : Shared) (σ : St) (H : Hp) (D : Ends), Inv X pins σ H s → t D σ H → wpAny (model X.prog X.w) X.A (exec st X.env) (SP X pins D) X.xe s
def PSs (X : Cx) (st : List Stmt) (t : TS) : Prop :=
  ∀ (pins : List (Addr × Obj)) (s : Shared) (σ : St) (H : Hp) (D : Ends), Inv X pins σ H s → t D σ H → wpAny (model X.prog X.w) X.A (execs st X.env) (SP X pins D) X.xe s
/-- weaken the end -/
theorem thn {α : Type} {t : Sem α} {Q Q' : α → Shared → Prop} {M : Model} {A : Around} {E : Value → Shared → Prop} {s : Shared} (h : wpAny M A t Q E s) (hQ : ∀ a s, Q a s → Q' a s) : wpAny M A t Q' E s := wpAny_mono h hQ fun _ _ x => x
end L2

namespace L2
open PySem PySem.Spec PyProof.Rows
section
variable {X : Cx}

def tVar (i : Nat) : TE := fun σ H Q => ∃ v, σ[i]? = some (some v) ∧ Q v H
def tC (v : V) : TE := fun _ H Q => Q v H
theorem pe_var {i : Nat} {x : Str} {pos : Pos} (hN : X.N[i]? = some x) (hv : Vis X.env.scope x) (hd : (x == ("__debug__" : Str)) = false := by decide) (hcd : (x == ("__classdict__" : Str)) = false := by decide) : PE X (.Name x pos) (tVar i) := by
  intro pins s σ H Q I h
  obtain ⟨v, e, h⟩ := h
  obtain ⟨m, hn, hl⟩ := I.loc
  obtain ⟨u, r, l⟩ := hl i x v hN e hv
  have fin : EP X pins σ Q u s := ⟨v, H, I, r, h⟩
  rcases l with ⟨hk, hm⟩ | ⟨hk, c, hc, hcell⟩
  · exact wpAny_Name (wpAny_loadName_local I.ok.kind hk hn hm fin) hd
  · rcases hk with hk | hk
    · exact wpAny_Name (wpAny_loadName_cell I.ok.kind hk hc hcell fin) hd
    · exact wpAny_Name (wpAny_loadName_free I.ok.kind hk hc hcell fin hcd) hd
theorem pe_int {i j pos} : PE X (.Constant (.int i) j pos) (tC (.int i)) := fun _ _ _ H _ I h => wpAny_Constant_int ⟨.int i, H, I.tok _, ⟨_, rfl⟩, h⟩
theorem pe_bl {b j pos} : PE X (.Constant (.bool b) j pos) (tC (.bl b)) := fun _ _ _ H _ I h => Constant_bool ⟨.bl b, H, I, rfl, h⟩
theorem pe_str {x j pos} : PE X (.Constant (.str x) j pos) (tC (.str x)) := fun _ _ _ H _ I h => Calls.Constant_str ⟨.str x, H, I.tok _, ⟨_, rfl⟩, h⟩

/-- a global name of the def -/
def Gl (X : Cx) (x : Str) : Prop := X.env.kindOf x = some .globalImplicit
theorem ld_glob {E : Value → Shared → Prop} {pins : List (Addr × Obj)} {s : Shared} {σ : St} {H : Hp} {x : Str} {u : Value} {pos : Pos} {Q : Value → Shared → Prop} (I : Inv X pins σ H s) (hg : Gl X x) (hm : X.mg x = some u) (h : Q u s)
    (hd : (x == ("__debug__" : Str)) = false := by decide) : wpAny (model X.prog X.w) X.A (eval (.Name x pos) X.env) Q E s :=
  Calls.Name_function_global I.ok.kind hg (Calls.loadGlobal_global (by rw [I.ok.glob]; exact I.mod.glob.keeps I.bk) hm h) hd
theorem ld_blt {E : Value → Shared → Prop} {pins : List (Addr × Obj)} {s : Shared} {σ : St} {H : Hp} {x : Str} {u : Value} {pos : Pos} {Q : Value → Shared → Prop} (I : Inv X pins σ H s) (hg : Gl X x) (hm : X.mg x = none) (hv : bootBuiltins x = some u) (h : Q u s)
    (hn : x ≠ "__name__" := by decide) (hd : (x == ("__debug__" : Str)) = false := by decide) : wpAny (model X.prog X.w) X.A (eval (.Name x pos) X.env) Q E s := by
  obtain ⟨mb, h1, h2⟩ := I.mod.blt
  exact Calls.Name_function_global I.ok.kind hg (Calls.loadGlobal_builtin (by rw [I.ok.glob]; exact I.mod.glob.keeps I.bk) hm (by rw [I.ok.blt]; exact h1.keeps I.bk) ((h2 x hn).trans hv) h) hd
theorem pe_bltn {x : Str} {v : V} {u : Value} {pos : Pos} (hg : Gl X x) (hm : X.mg x = none) (hv : bootBuiltins x = some u) (r : RelV v u) (hn : x ≠ "__name__" := by decide) (hd : (x == ("__debug__" : Str)) = false := by decide) : PE X (.Name x pos) (tC v) :=
  fun _ _ _ H _ I h => ld_blt I hg hm hv ⟨v, H, I, r, h⟩ hn hd

variable {a b : Expr} {ta tb : TE} {pos : Pos}
variable {tA tB' : TT} {rest : List Expr}
def tAnd (t u : TT) : TT := fun σ H Q => t σ H fun c H1 => if c = true then u σ H1 Q else Q false H1
def tOr (t u : TT) : TT := fun σ H Q => t σ H fun c H1 => if c = true then Q true H1 else u σ H1 Q
def tNot (t : TT) : TT := fun σ H Q => t σ H fun c H1 => Q (!c) H1
theorem pw_and1 (ha : PT X a tA) : PW X (.BoolOp .And [a] pos) tA := by
  intro wh pins s σ H Q I h
  refine isTrue_and (thn (ha pins s σ H Q I h) fun c s1 e => ?_)
  cases c with
  | true => exact isTrue_and_nil e
  | false => exact e
theorem pw_or1 (ha : PT X a tA) : PW X (.BoolOp .Or [a] pos) tA := by
  intro wh pins s σ H Q I h
  refine isTrue_or (thn (ha pins s σ H Q I h) fun c s1 e => ?_)
  cases c with
  | false => exact isTrue_or_nil e
  | true => exact e
theorem pw_and (ha : PT X a tA) (hb : PW X (.BoolOp .And (b :: rest) pos) tB') : PW X (.BoolOp .And (a :: b :: rest) pos) (tAnd tA tB') := by
  intro wh pins s σ H Q I h
  refine isTrue_and (thn (ha pins s σ H _ I h) fun c s1 ⟨H1, I1, q1⟩ => ?_)
  cases c with
  | true => exact hb wh pins s1 σ H1 Q I1 q1
  | false => exact ⟨H1, I1, q1⟩
theorem pw_or (ha : PT X a tA) (hb : PW X (.BoolOp .Or (b :: rest) pos) tB') : PW X (.BoolOp .Or (a :: b :: rest) pos) (tOr tA tB') := by
  intro wh pins s σ H Q I h
  refine isTrue_or (thn (ha pins s σ H _ I h) fun c s1 ⟨H1, I1, q1⟩ => ?_)
  cases c with
  | true => exact ⟨H1, I1, q1⟩
  | false => exact hb wh pins s1 σ H1 Q I1 q1
theorem pt_not (ha : PT X a tA) : PT X (.UnaryOp .Not a pos) (tNot tA) := by
  intro pins s σ H Q I h
  exact isTrue_not (ha pins s σ H (fun c H1 => Q (!c) H1) I h)
/-- .. as values (bools) -/
def tAndV (ta tb : TE) : TE := fun σ H Q => ta σ H fun x H1 => ∃ c, x = .bl c ∧ if c = true then tb σ H1 Q else Q (.bl false) H1
theorem pe_one {op} {t : TE} (h : PE X a t) : PE X (.BoolOp op [a] pos) t := fun pins s σ H Q I hw => BoolOp_one (h pins s σ H Q I hw)
theorem pe_and (ha : PE X a ta) (hb : PE X (.BoolOp .And (b :: rest) pos) tb) : PE X (.BoolOp .And (a :: b :: rest) pos) (tAndV ta tb) := by
  intro pins s σ H Q I h
  refine BoolOp_and (thn (ha pins s σ H _ I h) fun v s1 ⟨x, H1, I1, r1, q1⟩ => ?_)
  obtain ⟨c, rfl, q1⟩ := q1
  cases r1
  refine wpAny_truthy_bool ?_
  cases c with
  | true => exact hb pins s1 σ H1 Q I1 q1
  | false => exact ⟨.bl false, H1, I1, rfl, q1⟩
end
end L2

namespace L2
open PySem PySem.Spec PyProof.Rows

def SqL (K : PySem.W.Frag) (H : Hp) (a : Addr) (xs : List V) : Prop :=
  Rd H a (.lst xs) ∨
    ∃ (o : Obj) (its : Array Value) (n : Nat), K.lookup a = some o ∧ o.cls = .type "list" ∧ o.dict = none ∧ o.data = .seq its n ∧ its.size ≤ sizeLine ∧ Vals xs its.toList
def SqT (K : PySem.W.Frag) (H : Hp) (a : Addr) (xs : List V) : Prop :=
  Rd H a (.tup xs) ∨
    ∃ (o : Obj) (its : Array Value) (n : Nat), K.lookup a = some o ∧ o.cls = .type "tuple" ∧ o.data = .seq its n ∧ its.size ≤ sizeLine ∧ Vals xs its.toList
def absV : Value → Option V
  | .none => some .non
  | .bool b => some (.bl b)
  | .int i _ => some (.int i)
  | .str x _ => some (.str x)
  | .bytes b _ => some (.byt b)
  | .float b _ => some (.flt b)
  | .ref a => some (.ref a)
  | .type n => some (.ty n)
  | _ => none
theorem RelV.abs {x : V} {u : Value} (r : RelV x u) : absV u = some x := by
  cases x with
  | non => cases r; rfl
  | bl _ => cases r; rfl
  | int _ => obtain ⟨t, rfl⟩ := r; rfl
  | str _ => obtain ⟨t, rfl⟩ := r; rfl
  | byt _ => obtain ⟨t, rfl⟩ := r; rfl
  | flt _ => obtain ⟨t, rfl⟩ := r; rfl
  | ref _ => cases r; rfl
  | ty _ => cases r; rfl
theorem RelV.inj {x y : V} {u : Value} (r : RelV x u) (q : RelV y u) : x = y := Option.some.inj (r.abs.symm.trans q.abs)
theorem Vals.inj : ∀ {xs ys : List V} {us : List Value}, Vals xs us → Vals ys us → xs = ys
  | _, _, _, .nil, .nil => rfl
  | _, _, _, .cons r t, .cons r' t' => by rw [r.inj r', Vals.inj t t']
section
variable {X : Cx} {pins : List (Addr × Obj)} {σ : St} {H : Hp} {s : Shared} {a : Addr} {xs ys : List V}
theorem SqL.of {K : PySem.W.Frag} (h : H a = some (.lst xs)) : SqL K H a xs := .inl (.inl h)
theorem SqT.of {K : PySem.W.Frag} (h : H a = some (.tup xs)) : SqT K H a xs := .inl (.inl h)
theorem Inv.list (I : Inv X pins σ H s) (h : SqL X.K H a xs) : ∃ its : List Value, Vals xs its ∧ PlainL s.heap a its.toArray ∧ xs.length ≤ sizeLine := by
  rcases h with h | ⟨o, its, n, hk, hc, hd, hs, hz, r⟩
  · obtain ⟨z, its, n, r, e⟩ := h.ok I.hok
    exact ⟨its, r, ⟨_, n, e, rfl, rfl, rfl⟩, z⟩
  · refine ⟨its.toList, r, ⟨o, n, I.kIn a o hk, hc, hd, by simpa using hs⟩, ?_⟩
    have e := r.length
    simp only [Array.length_toList] at e
    omega
theorem Inv.tuple (I : Inv X pins σ H s) (h : SqT X.K H a xs) : ∃ its : List Value, Vals xs its ∧ IsTup s.heap a its.toArray ∧ xs.length ≤ sizeLine := by
  rcases h with h | ⟨o, its, n, hk, hc, hs, hz, r⟩
  · obtain ⟨z, its, r, p⟩ := h.ok I.hok
    exact ⟨its, r, p, z⟩
  · refine ⟨its.toList, r, ⟨o, I.kIn a o hk, hc, n, by simpa using hs⟩, ?_⟩
    have e := r.length
    simp only [Array.length_toList] at e
    omega
theorem Inv.list_inj (I : Inv X pins σ H s) (h : SqL X.K H a xs) (h' : SqL X.K H a ys) : xs = ys := by
  obtain ⟨its, r, ⟨o, n, e, _, _, d⟩, _⟩ := I.list h
  obtain ⟨its', r', ⟨o', n', e', _, _, d'⟩, _⟩ := I.list h'
  rw [e] at e'; cases e'
  rw [d] at d'
  injection d' with d1 _
  have : its = its' := by simpa using congrArg Array.toList d1
  subst this
  exact r.inj r'
theorem Inv.tuple_inj (I : Inv X pins σ H s) (h : SqT X.K H a xs) (h' : SqT X.K H a ys) : xs = ys := by
  obtain ⟨its, r, ⟨o, e, _, n, d⟩, _⟩ := I.tuple h
  obtain ⟨its', r', ⟨o', e', _, n', d'⟩, _⟩ := I.tuple h'
  rw [e] at e'; cases e'
  rw [d] at d'
  injection d' with d1 _
  have : its = its' := by simpa using congrArg Array.toList d1
  subst this
  exact r.inj r'
end

abbrev Cx.wish (X : Cx) (E : Value → Shared → Prop) : Cx := { X with xe := E }
/-- no exception leaves -/
abbrev Cx.nox (X : Cx) : Cx := X.wish fun _ _ => False
theorem Cx.Ok.wish {X : Cx} (ok : X.Ok) (E : Value → Shared → Prop) : (X.wish E).Ok :=
  ⟨ok.mod, ok.kind, ok.glob, ok.blt, ok.above, ok.inj, ok.has, ok.cab, ok.hd, ok.frames, ok.stk, ok.exf, ok.bs, ok.bsz, ok.noex, ok.exfs, ok.funs, ok.frf⟩
theorem Cx.Ok.unwish {X : Cx} {E : Value → Shared → Prop} (ok : (X.wish E).Ok) : X.Ok :=
  ⟨ok.mod, ok.kind, ok.glob, ok.blt, ok.above, ok.inj, ok.has, ok.cab, ok.hd, ok.frames, ok.stk, ok.exf, ok.bs, ok.bsz, ok.noex, ok.exfs, ok.funs, ok.frf⟩
section
variable {X : Cx} {pins : List (Addr × Obj)} {σ : St} {H : Hp} {s : Shared} {E : Value → Shared → Prop}
theorem Inv.wish (I : Inv X pins σ H s) (E : Value → Shared → Prop) : Inv (X.wish E) pins σ H s := ⟨I.ok.wish E, I.os, I.bare, I.base, I.loc, I.cell, I.free, I.freeC, I.pin, I.hok, I.len⟩
theorem Inv.unwish (I : Inv (X.wish E) pins σ H s) : Inv X pins σ H s := ⟨I.ok.unwish, I.os, I.bare, I.base, I.loc, I.cell, I.free, I.freeC, I.pin, I.hok, I.len⟩
theorem SP.unwish {D : Ends} {f : Flow} {s' : Shared} (h : SP (X.wish E) pins D f s') : SP X pins D f s' := by
  cases f with
  | next => obtain ⟨σ', H', I, q⟩ := h; exact ⟨σ', H', I.unwish, q⟩
  | brk => obtain ⟨σ', H', I, q⟩ := h; exact ⟨σ', H', I.unwish, q⟩
  | cont => obtain ⟨σ', H', I, q⟩ := h; exact ⟨σ', H', I.unwish, q⟩
  | ret u => obtain ⟨v, σ', H', I, r, q⟩ := h; exact ⟨v, σ', H', I.unwish, r, q⟩
theorem PSs.nox {st : List Stmt} {t : TS} (h : PSs X.nox st t) : PSs X st t := fun pins s σ H D I hw =>
  wpAny_mono (h pins s σ H D (I.wish _) hw) (fun _ _ q => q.unwish) fun _ _ z => False.elim z
end

section
variable {X : Cx} {st : Stmt} {rest : List Stmt} {t u : TS} {e : Expr} {te : TE} {pos : Pos}
def tNext : TS := fun D σ H => D.nx σ H
def tSeq (t u : TS) : TS := fun D σ H => t { D with nx := u D } σ H
theorem pss_nil : PSs X [] tNext := fun _ _ σ H _ I h => wpAny_execs_nil ⟨σ, H, I, h⟩
theorem pss_cons (h1 : PS X st t) (h2 : PSs X rest u) : PSs X (st :: rest) (tSeq t u) := by
  intro pins s σ H D I h
  refine wpAny_execs_cons (thn (h1 pins s σ H { D with nx := u D } I h) fun f s1 q => ?_)
  cases f with
  | next =>
    obtain ⟨σ', H', I', q⟩ := q
    exact h2 pins s1 σ' H' D I' q
  | ret v => exact q
  | brk => exact q
  | cont => exact q
theorem pss_one (h1 : PS X st t) : PSs X [st] t := by
  intro pins s σ H D I h
  refine wpAny_execs_cons (thn (h1 pins s σ H D I h) fun f s1 q => ?_)
  cases f with
  | next => exact wpAny_execs_nil q
  | ret v => exact q
  | brk => exact q
  | cont => exact q
def tRet (te : TE) : TS := fun D σ H => te σ H D.rt
theorem ps_ret (he : PE X e te) : PS X (.Return (some e) pos) (tRet te) := by
  intro pins s σ H D I h
  exact wpAny_Return_some (thn (he pins s σ H _ I h) fun v s1 ⟨x, H1, I1, r1, q1⟩ => ⟨x, σ, H1, I1, r1, q1⟩)
def tIfS (c : TT) (t u : TS) : TS := fun D σ H => c σ H fun b H1 => if b = true then t D σ H1 else u D σ H1
theorem ps_if {c : Expr} {a b : List Stmt} {tc : TT} (hc : PT X c tc) (ha : PSs X a t) (hb : PSs X b u) : PS X (.If c a b pos) (tIfS tc t u) := by
  intro pins s σ H D I h
  refine wpAny_If (thn (hc pins s σ H _ I h) fun d s1 ⟨H1, I1, q1⟩ => ?_)
  cases d with
  | true => exact ha pins s1 σ H1 D I1 q1
  | false => exact hb pins s1 σ H1 D I1 q1
end

abbrev TG := V → St → Hp → (St → Hp → Prop) → Prop
abbrev TGs := List V → St → Hp → (St → Hp → Prop) → Prop
def PG (X : Cx) (target : Expr) (t : TG) : Prop :=
  ∀ (pins : List (Addr × Obj)) (s : Shared) (σ : St) (H : Hp) (v : V) (u : Value) (Q : St → Hp → Prop), Inv X pins σ H s → RelV v u → t v σ H Q →
    wpAny (model X.prog X.w) X.A (assign target X.env u) (fun _ s' => ∃ σ' H', Inv X pins σ' H' s' ∧ Q σ' H') X.xe s
/-- several targets, one after another -/
def PGs (X : Cx) (ts : List Expr) (t : TGs) : Prop :=
  ∀ (pins : List (Addr × Obj)) (s : Shared) (σ : St) (H : Hp) (vs : List V) (us : List Value) (Q : St → Hp → Prop), Inv X pins σ H s → Vals vs us → t vs σ H Q →
    wpAny (model X.prog X.w) X.A (assignInOrder ((assignEach ts X.env).map (·.2)) us) (fun _ s' => ∃ σ' H', Inv X pins σ' H' s' ∧ Q σ' H') X.xe s
section
variable {X : Cx} {pos : Pos}
def gName (i : Nat) : TG := fun v σ H Q => Q (σ.set i (some v)) H
theorem pg_name {i : Nat} {x : Str} (hN : X.N.Nodup) (hi : X.N[i]? = some x) (hx : Loc X.env.scope x) (hf : X.fn x = true ∨ X.env.scope.names.lookup x = some .local := by first | exact .inl rfl | exact .inr rfl | assumption) : PG X (.Name x pos) (gName i) := by
  intro pins s σ H v u Q I r h
  exact wpAny_assign_Name (store_ok I hN hi hx r (fun s' I' => ⟨_, H, I', h⟩) hf)
def gNil : TGs := fun vs σ H Q => vs = [] ∧ Q σ H
def gCons (t : TG) (u : TGs) : TGs := fun vs σ H Q => ∃ v r, vs = v :: r ∧ t v σ H fun σ' H' => u r σ' H' Q
theorem pgs_nil : PGs X [] gNil := by
  intro pins s σ H vs us Q I r h
  obtain ⟨e, h⟩ := h
  subst e
  cases r
  exact assignInOrder_nil ⟨σ, H, I, h⟩
theorem pgs_cons {e : Expr} {es : List Expr} {t : TG} {u : TGs} (h1 : PG X e t) (h2 : PGs X es u)
    (hs : (assignEach (e :: es) X.env).map (·.2) = assign e X.env :: (assignEach es X.env).map (·.2) := by rfl) : PGs X (e :: es) (gCons t u) := by
  intro pins s σ H vs us Q I r h
  obtain ⟨v, vr, e1, h⟩ := h
  subst e1
  cases r with
  | cons r rr =>
    rw [hs]
    refine assignInOrder_cons (thn (h1 pins s σ H _ _ _ I r h) fun _ s1 ⟨σ1, H1, I1, q1⟩ => ?_)
    exact h2 pins s1 σ1 H1 _ _ Q I1 rr q1
/-- (a, b, ..) = a tuple of that length -/
def gTup (K : PySem.W.Frag) (n : Nat) (t : TGs) : TG := fun v σ H Q => ∃ a xs, v = .ref a ∧ SqT K H a xs ∧ xs.length = n ∧ t xs σ H Q
theorem pg_tup {es : List Expr} {k : Nat} {t : TGs} {n : Nat} (hc : X.calm = true) (h : PGs X es t)
    (hn : (assignEach es X.env).length = n := by rfl) (hst : (assignEach es X.env).findIdx? (·.1) = none := by rfl) : PG X (.Tuple es k pos) (gTup X.K n t) := by
  intro pins s σ H v u Q I r hw
  obtain ⟨a, xs, e1, hq, hl, hw⟩ := hw
  subst e1
  cases r
  obtain ⟨its, rv, ht, hz⟩ := I.tuple hq
  refine assign_Tuple_tuple (I.ok.hd hc) ht (by simp [hn, ← hl, rv.length]) hst fun h' hx => ?_
  have I1 : Inv X pins σ H { s with heap := h' } := I.kept (t' := s.toks) fun b o e => hx b o (Nat.ne_of_lt (Heap.lt_size e)) e
  exact h pins _ σ H xs _ Q I1 (by simpa using rv) hw
/-- target = value -/
def tAsg (te : TE) (g : TG) : TS := fun D σ H => te σ H fun x H1 => g x σ H1 D.nx
/-- name = value -/
theorem ps_set {i : Nat} {x : Str} {e : Expr} {te : TE} {pos' : Pos} (hN : X.N.Nodup) (hi : X.N[i]? = some x) (hx : Loc X.env.scope x) (he : PE X e te) (hs : swapsWith e (some (.Name x pos')) pos.line X.env = pure false := by rfl) (hf : X.fn x = true ∨ X.env.scope.names.lookup x = some .local := by first | exact .inl rfl | exact .inr rfl | assumption) :
    PS X (.Assign [.Name x pos'] e pos) (tAsg te (gName i)) := by
  intro pins s σ H D I h
  refine wpAny_Assign_Name (thn (he pins s σ H _ I h) fun v s1 ⟨y, H1, I1, r1, q1⟩ => ?_) hs
  exact store_ok I1 hN hi hx r1 (fun s2 I2 => ⟨_, H1, I2, q1⟩) hf
end

section
variable {X : Cx} {pos : Pos}
end

/-- at turn i: it yields x (the heap may grow), or it stops -/
structure It where
  go : Nat → Hp → Prop
  yld : Nat → Hp → V → Hp → Prop
  stop : Nat → Hp → Prop
/-- the iterator's own objects may turn: they are not the frame's, not pinned, younger than the entry (or a comprehension's own) -/
def FpOk (X : Cx) (pins : List (Addr × Obj)) (H : Hp) (b : Addr) : Prop :=
  H b = none ∧ b ≠ X.env.locals ∧ b ∉ X.fs ∧ (b ∈ X.ex ∨ X.s₀.heap.objs.size ≤ b) ∧ (∀ x c, X.env.cells.lookup x = some c → c ≠ b) ∧ ∀ p ∈ X.pn ++ pins, p.1 ≠ b
theorem Inv.fpOk {X : Cx} {pins : List (Addr × Obj)} {σ : St} {H H' : Hp} {s : Shared} {b : Addr} (I : Inv X pins σ H s) (hb : s.heap.objs.size ≤ b) (hn : H' b = none) : FpOk X pins H' b := by
  refine ⟨hn, Nat.ne_of_gt (Nat.lt_of_lt_of_le I.lt hb), I.nofs hb, .inr (Nat.le_trans I.sz hb), fun x c e z => ?_, fun p hp z => ?_⟩
  · obtain ⟨v, q⟩ := I.cell x c e
    exact absurd (Nat.lt_of_lt_of_le q.lt (by rw [z]; exact hb)) (Nat.lt_irrefl _)
  · exact absurd (Nat.lt_of_lt_of_le (Heap.lt_size (I.pin p hp).1) (by rw [z]; exact hb)) (Nat.lt_irrefl _)
structure Turn (P : Program) (w : World) (K : PySem.W.Frag) (tg : Expr) (J : It) (fp : List Addr) (it : Addr) (tn : Nat → Heap → Prop) : Prop where
  mem : it ∈ fp
  obj : ∀ i h, tn i h → ∀ b ∈ fp, ∃ o, h.get? b = some o ∧ ∀ v, o.data ≠ .cell v
  keep : ∀ i h h', tn i h → (∀ b ∈ fp, ∀ o, h.get? b = some o → h'.get? b = some o) → tn i h'
  item : ∀ (X : Cx), X.prog = P → X.w = w → X.K = K → X.calm = true → ∀ (i : Nat) (pins : List (Addr × Obj)) (s : Shared) (σ : St) (H : Hp) (E : Value → Shared → Prop), Inv X pins σ H s → (∀ b ∈ fp, FpOk X pins H b) → tn i s.heap → J.go i H →
    wpAny (model P w) X.A (pyNext (.ref it)) (fun r s1 => ∃ u, r = some u ∧
      wpAny (model P w) X.A (letOwnedTupleGo tg (.ref it) u) (fun _ s2 => ∃ x H', Inv X pins σ H' s2 ∧ RelV x u ∧ J.yld i H x H' ∧ tn (i + 1) s2.heap ∧ ∀ b ∈ fp, H' b = none) E s1) E s
  done : ∀ (X : Cx), X.prog = P → X.w = w → X.K = K → X.calm = true → ∀ (i : Nat) (pins : List (Addr × Obj)) (s : Shared) (σ : St) (H : Hp) (E : Value → Shared → Prop), Inv X pins σ H s → (∀ b ∈ fp, FpOk X pins H b) → tn i s.heap → J.stop i H →
    wpAny (model P w) X.A (pyNext (.ref it)) (fun r s1 => r = none ∧ Inv X pins σ H s1) E s
  self : ∀ (A : Around) (i : Nat) (s : Shared) (Q : Value → Shared → Prop) (E : Value → Shared → Prop), tn i s.heap → Q (.ref it) s → wpAny (model P w) A (pyIter (.ref it)) Q E s
abbrev TI := St → Hp → (It → Hp → Prop) → Prop
/-- an iterator has come -/
def PIE (X : Cx) (pins : List (Addr × Obj)) (σ : St) (tg : Expr) (R : It → Hp → Prop) (itv : Value) (s2 : Shared) : Prop :=
  ∃ (it : Addr) (fp : List Addr) (tn : Nat → Heap → Prop) (J : It) (H' : Hp), itv = .ref it ∧ Inv X pins σ H' s2 ∧ Turn X.prog X.w X.K tg J fp it tn ∧ tn 0 s2.heap ∧ (∀ b ∈ fp, FpOk X pins H' b) ∧ R J H'
def PI (X : Cx) (tg iter : Expr) (wi : TI) : Prop :=
  ∀ (pins : List (Addr × Obj)) (s : Shared) (σ : St) (H : Hp) (R : It → Hp → Prop), Inv X pins σ H s → wi σ H R →
    wpAny (model X.prog X.w) X.A (eval iter X.env) (fun v s1 => wpAny (model X.prog X.w) X.A (pyIter v) (PIE X pins σ tg R) X.xe s1) X.xe s

/-- the step ahead of the store is nothing for an iterator that keeps no tuple -/
theorem go_of {M : Model} {A : Around} {E : Value → Shared → Prop} {s : Shared} {tg : Expr} {it : Addr} {u : Value} {o : Obj} {n : String} {vs : Array Value} {Q : Unit → Shared → Prop} (ho : s.heap.get? it = some o) (hc : o.cls = .type n) (hd : o.data = .fields vs)
    (hn : ["enumerate", "zip", "dict_itemiterator", "dict_reverseitemiterator", "odict_iterator", "itertools.zip_longest", "itertools.pairwise"].contains n = false) (hQ : Q () s) : wpAny M A (letOwnedTupleGo tg (.ref it) u) Q E s := by
  unfold letOwnedTupleGo
  cases tg <;> first
    | exact wpAny_pure hQ
    | (cases u <;> first
        | exact wpAny_pure hQ
        | (refine wpAny_bind (wpAny_load ho ?_)
           rw [hc, hd]
           show wpAny M A (if (["enumerate", "zip", "dict_itemiterator", "dict_reverseitemiterator", "odict_iterator", "itertools.zip_longest", "itertools.pairwise"].contains n && vs[0]? == some (rawInt _)) = true then _ else _) Q E s
           rw [if_neg (by intro h; rw [hn, Bool.false_and] at h; cases h)]
           exact wpAny_pure hQ))

/-- the list at a, as it stands at each turn (a loop may append to it) -/
def Itl (K : PySem.W.Frag) (a : Addr) : It :=
  ⟨fun i H => ∃ xs x, SqL K H a xs ∧ xs[i]? = some x, fun i H x H' => H' = H ∧ ∀ xs, SqL K H a xs → xs[i]? = some x, fun i H => ∃ xs, SqL K H a xs ∧ xs.length ≤ i⟩
def Itt (K : PySem.W.Frag) (a : Addr) : It :=
  ⟨fun i H => ∃ xs x, SqT K H a xs ∧ xs[i]? = some x, fun i H x H' => H' = H ∧ ∀ xs, SqT K H a xs → xs[i]? = some x, fun i H => ∃ xs, SqT K H a xs ∧ xs.length ≤ i⟩
/-- lo, lo + 1, .. (n of them) -/
def Itr (lo : Int) (n : Nat) : It := ⟨fun i _ => i < n, fun i H x H' => H' = H ∧ x = .int (lo + i), fun i _ => n ≤ i⟩
theorem turn_list {P : Program} {w : World} {K : PySem.W.Frag} {tg : Expr} (a it : Addr) : Turn P w K tg (Itl K a) [it] it (fun i h => h.IsListIter it a i) where
  mem := by simp
  obj := fun i h st b hb => by
    have e : b = it := by simpa using hb
    subst e
    obtain ⟨o, e, c, d⟩ := st
    exact ⟨o, e, fun v z => by rw [d] at z; cases z⟩
  keep := fun i h h' st k => st.at fun o e => k it (by simp) o e
  item := by
    intro X hP hw hK hc i pins s σ H E I hf st hg
    subst hP hw hK
    obtain ⟨xs, x, hq, hx⟩ := hg
    obtain ⟨its, rv, p, hz⟩ := I.list hq
    obtain ⟨u, hu, ru⟩ := rv.get hx
    obtain ⟨f0, f1, f2, f3, f4, f5⟩ := hf it (by simp)
    refine wpAny_pyNext_list_item st p.isList (x := u) (by simpa using hu) fun h' st' sb => ?_
    have I1 : Inv X pins σ H { s with heap := h' } := I.turned (t' := s.toks) (fun b o hb e => (sb.2 b hb).trans e) f0 f1 f3 f4 f5
    obtain ⟨o, e, c, d⟩ := id st'
    exact ⟨u, rfl, go_of (s := { s with heap := h' }) e c d (by decide) ⟨x, H, I1, ru, ⟨rfl, fun ys hy => by rw [I.list_inj hy hq]; exact hx⟩, st', fun b hb => (hf b hb).1⟩⟩
  done := by
    intro X hP hw hK hc i pins s σ H E I hf st hg
    subst hP hw hK
    obtain ⟨xs, hq, hx⟩ := hg
    obtain ⟨its, rv, p, hz⟩ := I.list hq
    obtain ⟨f0, f1, f2, f3, f4, f5⟩ := hf it (by simp)
    have hl := rv.length
    exact wpAny_pyNext_list_end (I.ok.hd hc) st p.isList (by simp; omega) fun h' eb => ⟨rfl, I.turned (t' := s.toks) (fun b o hb e => eb b o hb e) f0 f1 f3 f4 f5⟩
  self := fun _ _ _ _ _ st h => wpAny_pyIter_listiter st h
theorem turn_tuple {P : Program} {w : World} {K : PySem.W.Frag} {tg : Expr} (a it : Addr) : Turn P w K tg (Itt K a) [it] it (fun i h => h.IsTupleIter it a i) where
  mem := by simp
  obj := fun i h st b hb => by
    have e : b = it := by simpa using hb
    subst e
    obtain ⟨o, e, c, d⟩ := st
    exact ⟨o, e, fun v z => by rw [d] at z; cases z⟩
  keep := fun i h h' st k => st.at fun o e => k it (by simp) o e
  item := by
    intro X hP hw hK hc i pins s σ H E I hf st hg
    subst hP hw hK
    obtain ⟨xs, x, hq, hx⟩ := hg
    obtain ⟨its, rv, p, hz⟩ := I.tuple hq
    obtain ⟨u, hu, ru⟩ := rv.get hx
    obtain ⟨f0, f1, f2, f3, f4, f5⟩ := hf it (by simp)
    refine wpAny_pyNext_tuple_item st (show s.heap.IsTuple a its.toArray from p) (x := u) (by simpa using hu) fun h' st' sb => ?_
    have I1 : Inv X pins σ H { s with heap := h' } := I.turned (t' := s.toks) (fun b o hb e => (sb.2 b hb).trans e) f0 f1 f3 f4 f5
    obtain ⟨o, e, c, d⟩ := id st'
    exact ⟨u, rfl, go_of (s := { s with heap := h' }) e c d (by decide) ⟨x, H, I1, ru, ⟨rfl, fun ys hy => by rw [I.tuple_inj hy hq]; exact hx⟩, st', fun b hb => (hf b hb).1⟩⟩
  done := by
    intro X hP hw hK hc i pins s σ H E I hf st hg
    subst hP hw hK
    obtain ⟨xs, hq, hx⟩ := hg
    obtain ⟨its, rv, p, hz⟩ := I.tuple hq
    obtain ⟨f0, f1, f2, f3, f4, f5⟩ := hf it (by simp)
    have hl := rv.length
    exact wpAny_pyNext_tuple_end (I.ok.hd hc) st (show s.heap.IsTuple a its.toArray from p) (by simp; omega) fun h' eb => ⟨rfl, I.turned (t' := s.toks) (fun b o hb e => eb b o hb e) f0 f1 f3 f4 f5⟩
  self := fun _ _ _ _ _ st h => wpAny_pyIter_tupleiter st h
theorem turn_range {P : Program} {w : World} {K : PySem.W.Frag} {tg : Expr} (it : Addr) (lo : Int) (n : Nat) : Turn P w K tg (Itr lo n) [it] it (fun i h => IsRangeIter h it (lo + (i : Nat) * 1) ((n : Int) - (i : Nat)) 1) where
  mem := by simp
  obj := fun i h st b hb => by
    have e : b = it := by simpa using hb
    subst e
    exact ⟨_, st, fun v z => by
      have z' : Data.fields _ = Data.cell v := z
      cases z'⟩
  keep := fun i h h' st k => k it (by simp) _ st
  item := by
    intro X hP hw hK hc i pins s σ H E I hf st hg
    subst hP hw hK
    obtain ⟨f0, f1, f2, f3, f4, f5⟩ := hf it (by simp)
    have W := Walks.range (prog := X.prog) (w := X.w) (I.ok.hd hc) it lo 1 n
    refine W.item i s _ _ hg st fun v h' tk hv st' kk => ?_
    obtain ⟨t, rfl⟩ := hv
    have I1 : Inv X pins σ H { s with heap := h', toks := tk } := I.turned (fun b o hb e => kk b o (by simpa using hb) e) f0 f1 f3 f4 f5
    refine ⟨_, rfl, go_of (s := { s with heap := h', toks := tk }) (n := "range_iterator") st' rfl rfl (by decide) ⟨.int (lo + i), H, I1, ⟨t, ?_⟩, ⟨rfl, rfl⟩, st', fun b hb => (hf b hb).1⟩⟩
    rw [Int.mul_one]
  done := by
    intro X hP hw hK hc i pins s σ H E I hf st hg
    subst hP hw hK
    obtain ⟨f0, f1, f2, f3, f4, f5⟩ := hf it (by simp)
    exact wpAny_pyNext_range_end (I.ok.hd hc) st (by have : n ≤ i := hg; omega) fun h' eb => ⟨rfl, I.turned (t' := s.toks) (fun b o hb e => eb b o hb e) f0 f1 f3 f4 f5⟩
  self := fun _ _ _ _ _ st h => wpAny_pyIter_rangeiter st h
end L2

namespace L2
open PySem PySem.Spec PyProof.Rows
section
variable {X : Cx} {tg : Expr}
/-- a range object just made, walked -/
theorem range_it {pins : List (Addr × Obj)} {σ : St} {H : Hp} {s : Shared} {R : It → Hp → Prop} {E : Value → Shared → Prop} {lo hi : Int} {t u v : Tok} {tk : Nat} (I : Inv X pins σ H s) (h1 : -(2 ^ 62) ≤ lo) (h2 : lo < 2 ^ 62) (h3 : -(2 ^ 62) ≤ hi) (h4 : hi < 2 ^ 62)
    (q : R (Itr lo (hi - lo).toNat) H) : wpAny (model X.prog X.w) X.A (pyIter (.ref s.heap.objs.size)) (PIE X pins σ tg R) E { s with heap := s.heap.push { cls := .type "range", data := .fields #[.int lo t, .int hi u, .int 1 v] }, toks := tk } := by
  refine wpAny_pyIter_range (IsRange.new ..) (small_one h1 h2 h3 h4) ?_
  have I1 : Inv X pins σ H { s with heap := s.heap.push { cls := .type "range", data := .fields #[.int lo t, .int hi u, .int 1 v] }, toks := tk } := I.kept fun b o e => Heap.get?_push_of_some _ e
  refine ⟨(s.heap.push { cls := .type "range", data := .fields #[.int lo t, .int hi u, .int 1 v] }).objs.size, [(s.heap.push { cls := .type "range", data := .fields #[.int lo t, .int hi u, .int 1 v] }).objs.size], _, _, H, rfl,
    I1.kept (t' := tk) fun b o e => Heap.get?_push_of_some _ e, turn_range _ lo (hi - lo).toNat, ?_, fun b hb => ?_, q⟩
  · have e1 : lo + ((0 : Nat) : Int) * 1 = lo := by simp
    have e2 : (((hi - lo).toNat : Nat) : Int) - ((0 : Nat) : Int) = Builtin.Range.rangeSize lo hi 1 := by rw [rangeSize_one]; split <;> omega
    show IsRangeIter _ _ (lo + ((0 : Nat) : Int) * 1) ((((hi - lo).toNat : Nat) : Int) - ((0 : Nat) : Int)) 1
    rw [e1, e2]
    exact Heap.get?_push_size _ rfl
  · have e : b = (s.heap.push { cls := .type "range", data := .fields #[.int lo t, .int hi u, .int 1 v] }).objs.size := by simpa using hb
    subst e
    exact I1.fpOk (Nat.le_refl _) (I1.hok.fresh (Nat.le_refl _))
def iRng1 (ta : TA) : TI := fun σ H R => ta σ H fun vs H1 => ∃ j : Int, vs = [.int j] ∧ -(2 ^ 62) ≤ j ∧ j < 2 ^ 62 ∧ R (Itr 0 j.toNat) H1
theorem pi_range1 {a : Expr} {ta : TA} {p pos : Pos} (hg : Gl X "range") (hm : X.mg "range" = none) (ha : PA X [a] ta) (hs : starEach [a] X.env = [(false, eval a X.env)] := by rfl) : PI X tg (.Call (.Name "range" p) [a] [] pos) (iRng1 ta) := by
  intro pins s σ H R I h
  refine Call_ (ld_blt I hg hm boot_range (PyProof.Rows.callWith_type1 (thn (ha pos pins s σ H _ I h) fun us s1 ⟨vs, H1, I1, r1, q1⟩ => ?_) hs rfl))
  obtain ⟨j, e, q1, q2, q⟩ := q1
  subst e
  cases r1 with
  | cons r rr =>
    cases rr
    obtain ⟨t, rfl⟩ := r
    exact call_range_1 (range_it I1 (by omega) (by omega) q1 q2 (by simpa using q))
/-- W: the invariant by the turn and a measure; N: what the body is to reach -/
def tFor (wi : TI) (g : TG) (tb : TS) : TS := fun D σ H => wi σ H fun J H1 => ∃ W : Nat → Nat → St → Hp → Prop, (∃ m, W 0 m σ H1) ∧ ∀ i m σ H, W i m σ H →
  (J.stop i H ∧ D.nx σ H) ∨ (J.go i H ∧ ∃ N : St → Hp → Prop, (∀ σ' H', N σ' H' → ∃ m', m' < m ∧ W (i + 1) m' σ' H') ∧ ∀ x H', J.yld i H x H' → g x σ H' fun σ2 H2 => tb { D with nx := N, ct := N, bk := D.nx } σ2 H2)
/-- the records at fp as they stand -/
def pinsAt (fp : List Addr) (h : Heap) : List (Addr × Obj) := fp.filterMap fun b => (h.get? b).map fun o => (b, o)
theorem mem_pinsAt {fp : List Addr} {h : Heap} {b : Addr} {o : Obj} (hb : b ∈ fp) (e : h.get? b = some o) : (b, o) ∈ pinsAt fp h := List.mem_filterMap.mpr ⟨b, hb, by rw [e]; rfl⟩
theorem of_pinsAt {fp : List Addr} {h : Heap} {p : Addr × Obj} (hp : p ∈ pinsAt fp h) : p.1 ∈ fp ∧ h.get? p.1 = some p.2 := by
  obtain ⟨b, hb, e⟩ := List.mem_filterMap.mp hp
  cases q : h.get? b with
  | none => rw [q] at e; cases e
  | some o =>
    rw [q] at e
    have e' : (b, o) = p := Option.some.inj e
    subst e'
    exact ⟨hb, q⟩
theorem Inv.pinned {pins : List (Addr × Obj)} {σ : St} {H : Hp} {s : Shared} {fp : List Addr} (I : Inv X pins σ H s) (hf : ∀ b ∈ fp, FpOk X pins H b) (ho : ∀ b ∈ fp, ∃ o, s.heap.get? b = some o ∧ ∀ v, o.data ≠ .cell v) : Inv X (pins ++ pinsAt fp s.heap) σ H s :=
  I.pins_of fun p hp => (List.mem_append.mp hp).elim (fun z => I.pin p (List.mem_append_right _ z)) fun z => by
    obtain ⟨hb, e⟩ := of_pinsAt z
    obtain ⟨f0, f1, f2, _⟩ := hf p.1 hb
    obtain ⟨o, e', d⟩ := ho p.1 hb
    rw [e] at e'; cases e'
    exact ⟨e, f0, f1, f2, d⟩
theorem Inv.unpinned {pins pl : List (Addr × Obj)} {σ : St} {H : Hp} {s : Shared} (I : Inv X (pins ++ pl) σ H s) : Inv X pins σ H s := I.pins_of fun p hp => I.pin p (List.mem_append_right _ (List.mem_append_left _ hp))
theorem ps_for {iter : Expr} {body : List Stmt} {wi : TI} {g : TG} {tb : TS} {pos : Pos} (hp : PassesOwn (model X.prog X.w) X.A X.env X.xe) (hc : X.calm = true) (hi : PI X tg iter wi) (hg : PG X tg g) (hb : PSs X body tb)
    (hs : ∀ x, foldedSetIterable iter X.env x = pure x := by intro _; rfl) : PS X (.For tg iter body [] pos) (tFor wi g tb) := by
  intro pins s σ H D I h
  refine wpAny_For (thn (hi pins s σ H _ I h) fun v s1 h1 => thn h1 fun itv s2 h2 => ?_) hs
  obtain ⟨it, fp, tn, J, H2, e, I2, T, st2, f2, W, ⟨m0, w0⟩, turn⟩ := h2
  subst e
  -- what stays true of the iterator's objects through the loop
  have stat : ∀ {H' : Hp}, (∀ b ∈ fp, H' b = none) → ∀ b ∈ fp, FpOk X pins H' b := fun hn b hb => ⟨hn b hb, (f2 b hb).2⟩
  refine codeAny_forLoop_any (fun n s' => ∃ i σ' H', Inv X pins σ' H' s' ∧ tn i s'.heap ∧ (∀ b ∈ fp, H' b = none) ∧ W i n σ' H') ?_ m0 ⟨0, σ, H2, I2, st2, fun b hb => (f2 b hb).1, w0⟩
  rintro n s3 ⟨i, σ3, H3, I3, st3, fr3, w3⟩
  rcases turn i n σ3 H3 w3 with ⟨stop, qn⟩ | ⟨go, N, hN, step⟩
  · refine wpAny_passesOwn hp (thn (T.done X rfl rfl rfl hc i pins s3 σ3 H3 X.xe I3 (stat fr3) st3 stop) fun r s4 ⟨hr, I4⟩ => ?_)
    subst hr
    exact wpAny_execs_nil ⟨σ3, H3, I4, qn⟩
  · refine wpAny_passesOwn hp (thn (T.item X rfl rfl rfl hc i pins s3 σ3 H3 X.xe I3 (stat fr3) st3 go) fun r s4 ⟨u, hr, h4⟩ => ?_)
    subst hr
    refine wpAny_passesOwn hp (thn h4 fun _ s5 ⟨x, H5, I5, r5, y5, st5, fr5⟩ => ?_)
    have I5' := I5.pinned (stat fr5) (T.obj _ _ st5)
    refine wpAny_passesOwn hp (thn (hg _ s5 σ3 H5 x u _ I5' r5 (step x H5 y5)) fun _ s6 ⟨σ6, H6, I6, q6⟩ => ?_)
    refine wpAny_passesOwn hp (thn (hb _ s6 σ6 H6 _ I6 q6) fun f s7 q7 => ?_)
    have again : ∀ {σ7 : St} {H7 : Hp}, Inv X (pins ++ pinsAt fp s5.heap) σ7 H7 s7 → N σ7 H7 → ∃ m, m < n ∧ ∃ i σ' H', Inv X pins σ' H' s7 ∧ tn i s7.heap ∧ (∀ b ∈ fp, H' b = none) ∧ W i m σ' H' := fun {σ7 H7} I7 n7 => by
      obtain ⟨m', hm, w7⟩ := hN σ7 H7 n7
      refine ⟨m', hm, i + 1, σ7, H7, I7.unpinned, T.keep _ _ _ st5 fun b hb o e => (I7.pin (b, o) (List.mem_append_right _ (List.mem_append_right _ (mem_pinsAt hb e)))).1, fun b hb => ?_, w7⟩
      obtain ⟨o, e, d⟩ := T.obj _ _ st5 b hb
      exact (I7.pin (b, o) (List.mem_append_right _ (List.mem_append_right _ (mem_pinsAt hb e)))).2.1
    cases f with
    | next => obtain ⟨σ7, H7, I7, n7⟩ := q7; exact again I7 n7
    | cont => obtain ⟨σ7, H7, I7, n7⟩ := q7; exact again I7 n7
    | brk => obtain ⟨σ7, H7, I7, q7⟩ := q7; exact ⟨σ7, H7, I7.unpinned, q7⟩
    | ret v => obtain ⟨x7, σ7, H7, I7, r7, q7⟩ := q7; exact ⟨x7, σ7, H7, I7.unpinned, r7, q7⟩
end

end L2

namespace L2
open PySem PySem.Spec PyProof.Rows

abbrev R2 := V → V → Hp → VK → Prop
/-- a two-place operation on values: f is binaryOp op, inplaceOp op or compareOp op -/
def OpR (X : Cx) (f : Value → Value → Sem Value) (r : R2) : Prop :=
  ∀ (pins : List (Addr × Obj)) (s : Shared) (σ : St) (H : Hp) (x y : V) (v u : Value) (Q : VK), Inv X pins σ H s → RelV x v → RelV y u → r x y H Q →
    wpAny (model X.prog X.w) X.A (f v u) (EP X pins σ Q) X.xe s
/-- a call of a value that is known (a builtin, a type) with values -/
def CallR (X : Cx) (f : Value) (r : List V → Hp → VK → Prop) : Prop :=
  ∀ (pins : List (Addr × Obj)) (s : Shared) (σ : St) (H : Hp) (xs : List V) (us : List Value) (Q : VK), Inv X pins σ H s → Vals xs us → r xs H Q →
    wpAny (model X.prog X.w) X.A (call f us) (EP X pins σ Q) X.xe s
/-- a value's truth -/
def TruR (X : Cx) (r : V → Hp → (Bool → Hp → Prop) → Prop) : Prop :=
  ∀ (pins : List (Addr × Obj)) (s : Shared) (σ : St) (H : Hp) (x : V) (v : Value) (Q : Bool → Hp → Prop), Inv X pins σ H s → RelV x v → r x H Q →
    wpAny (model X.prog X.w) X.A (truthy v) (TP X pins σ Q) X.xe s

def tOp (r : R2) (ta tb : TE) : TE := fun σ H Q => ta σ H fun x H1 => tb σ H1 fun y H2 => r x y H2 Q
/-- ints in, under C, and a value out -/
def rI (C : Int → Int → Prop) (g : Int → Int → V) : R2 := fun x y H Q => ∃ i j, x = .int i ∧ y = .int j ∧ C i j ∧ Q (g i j) H
def rI0 (g : Int → Int → V) : R2 := fun x y H Q => ∃ i j, x = .int i ∧ y = .int j ∧ Q (g i j) H
section
variable {X : Cx} {a b c : Expr} {ta tb tc : TE} {pos : Pos}

theorem binT (ha : PE X a ta) (hb : PE X b tb) {pins : List (Addr × Obj)} {s : Shared} {σ : St} {H : Hp} {R : V → V → Hp → Prop} (I : Inv X pins σ H s)
    (h : ta σ H fun x H1 => tb σ H1 fun y H2 => R x y H2) {Q : Value → Shared → Prop} {f : Value → Value → Sem Value}
    (hf : ∀ v u s2 x y H2, Inv X pins σ H2 s2 → RelV x v → RelV y u → R x y H2 → wpAny (model X.prog X.w) X.A (f v u) Q X.xe s2) :
    wpAny (model X.prog X.w) X.A (eval a X.env) (fun v s₁ => wpAny (model X.prog X.w) X.A (eval b X.env) (fun u s₂ => wpAny (model X.prog X.w) X.A (f v u) Q X.xe s₂) X.xe s₁) X.xe s := by
  refine thn (ha pins s σ H _ I h) fun v s1 ⟨x, H1, I1, r1, q1⟩ => ?_
  refine thn (hb pins s1 σ H1 _ I1 q1) fun u s2 ⟨y, H2, I2, r2, q2⟩ => ?_
  exact hf v u s2 x y H2 I2 r1 r2 q2

theorem pe_op {op : Operator} {r : R2} (ho : OpR X (binaryOp op) r) (ha : PE X a ta) (hb : PE X b tb) : PE X (.BinOp a op b pos) (tOp r ta tb) := by
  intro pins s σ H Q I h
  exact wpAny_BinOp (binT ha hb I h fun v u s2 x y H2 I2 rx ry q => ho pins s2 σ H2 x y v u Q I2 rx ry q)
theorem opI {f : Value → Value → Sem Value} {C : Int → Int → Prop} {g : Int → Int → Int}
    (rule : ∀ (i j : Int) (t u : Tok) (s : Shared) (Q : Value → Shared → Prop) (E : Value → Shared → Prop), C i j → Q (.int (g i j) s.toks) { s with toks := s.toks + 1 } → wpAny (model X.prog X.w) X.A (f (.int i t) (.int j u)) Q E s) :
    OpR X f (rI C fun i j => .int (g i j)) := by
  intro pins s σ H x y v u Q I rx ry h
  obtain ⟨i, j, rfl, rfl, hc, q⟩ := h
  obtain ⟨t, rfl⟩ := rx
  obtain ⟨t', rfl⟩ := ry
  exact rule i j t t' s _ _ hc ⟨.int (g i j), H, I.tok _, ⟨_, rfl⟩, q⟩
theorem opI0 {f : Value → Value → Sem Value} {g : Int → Int → Int}
    (rule : ∀ (i j : Int) (t u : Tok) (s : Shared) (Q : Value → Shared → Prop) (E : Value → Shared → Prop), Q (.int (g i j) s.toks) { s with toks := s.toks + 1 } → wpAny (model X.prog X.w) X.A (f (.int i t) (.int j u)) Q E s) :
    OpR X f (rI0 fun i j => .int (g i j)) := by
  intro pins s σ H x y v u Q I rx ry h
  obtain ⟨i, j, rfl, rfl, q⟩ := h
  obtain ⟨t, rfl⟩ := rx
  obtain ⟨t', rfl⟩ := ry
  exact rule i j t t' s _ _ ⟨.int (g i j), H, I.tok _, ⟨_, rfl⟩, q⟩
def CDiv (i j : Int) : Prop := 0 < j ∧ j < 1073741824
def CMul (i j : Int) : Prop := (-(2 ^ 64) < i ∧ i < 2 ^ 64) ∨ (-(2 ^ 64) < j ∧ j < 2 ^ 64)
theorem CMul.ok {i j : Int} (h : CMul i j) : IntMulOk i j := by
  rcases h with ⟨h1, h2⟩ | ⟨h1, h2⟩
  · exact .of_left (intBits_le_64 h1 h2)
  · exact .of_right (intBits_le_64 h1 h2)
theorem op_add : OpR X (binaryOp .Add) (rI0 fun i j => .int (i + j)) := opI0 fun _ _ _ _ _ _ _ q => add_int q
theorem op_mul : OpR X (binaryOp .Mult) (rI CMul fun i j => .int (i * j)) := opI fun _ _ _ _ _ _ _ hc q => mul_int q hc.ok
/-- // by a positive divisor -/
theorem op_fdiv : OpR X (binaryOp .FloorDiv) (rI CDiv fun i j => .int (i / j)) := opI fun i j _ _ _ _ _ hc q => by
  have h1 : (0 : Int) < j := hc.1
  have h2 : j < 1073741824 := hc.2
  exact floordiv_int (by omega) (by rw [Int.fdiv_eq_ediv_of_nonneg i (by omega)]; exact q) (.inl (PyProof.noPylong_small (by omega)))
/-- % by a positive divisor of any size -/
theorem op_mod : OpR X (binaryOp .Mod) (rI (fun _ j => 0 < j) fun i j => .int (i % j)) := opI fun i j _ _ _ _ _ hc q => by
  have h1 : (0 : Int) < j := hc
  exact mod_int' (by omega) (by rw [Int.fmod_eq_emod_of_nonneg i (by omega)]; exact q)
end

section
variable {X : Cx} {a b c : Expr} {ta tb tc : TE} {pos : Pos}
theorem fin_bl {pins : List (Addr × Obj)} {σ : St} {H : Hp} {s : Shared} {Q : VK} {k k' : Bool} (I : Inv X pins σ H s) (q : Q (.bl k) H) (e : k = k') : EP X pins σ Q (.bool k') s := by
  subst e
  exact ⟨.bl k, H, I, rfl, q⟩
/-- the one string within the other -/
theorem op_in_str : OpR X (compareOp .In) (fun x y H Q => ∃ i j, x = .str i ∧ y = .str j ∧ Q (.bl (!(Builtin.Str.occurrences j i 0 j.length 1).isEmpty)) H) := by
  intro pins s σ H x y v u Q I rx ry h
  obtain ⟨i, j, rfl, rfl, q⟩ := h
  obtain ⟨t, rfl⟩ := rx
  obtain ⟨t', rfl⟩ := ry
  exact in_str (fin_bl I q rfl)

theorem nomark (b : Expr) {op : CmpOp} (h : op ≠ .In := by decide) (h2 : op ≠ .NotIn := by decide) : behindInMarks op b = false := by
  have e1 : (op == CmpOp.In) = false := by cases op <;> first | rfl | exact absurd rfl h
  have e2 : (op == CmpOp.NotIn) = false := by cases op <;> first | rfl | exact absurd rfl h2
  cases b <;> simp [behindInMarks, e1, e2]
/-- a comparison as a value; hm: nomark b, or (for in, not in) by with_unfolding_all rfl -/
theorem pe_cmpR {op : CmpOp} {r : R2} (ho : OpR X (compareOp op) r) (ha : PE X a ta) (hb : PE X b tb) (hm : behindInMarks op b = false) : PE X (.Compare a [op] [b] pos) (tOp r ta tb) := by
  intro pins s σ H Q I h
  exact wpAny_Compare1 (binT ha hb I h fun v u s2 x y H2 I2 rx ry q => ho pins s2 σ H2 x y v u Q I2 rx ry q) hm
/-- a reading of a value as a test -/
def tTest (t : TE) : TT := fun σ H Q => t σ H fun x H' => ∃ k, x = .bl k ∧ Q k H'
theorem pt_cmpR {op : CmpOp} {r : R2} (ho : OpR X (compareOp op) r) (ha : PE X a ta) (hb : PE X b tb) (hm : behindInMarks op b = false) : PT X (.Compare a [op] [b] pos) (tTest (tOp r ta tb)) := by
  intro pins s σ H Q I h
  refine wpAny_isTrue_Compare1 (thn (ha pins s σ H _ I h) fun v s1 ⟨x, H1, I1, r1, q1⟩ => thn (hb pins s1 σ H1 _ I1 q1) fun u s2 ⟨y, H2, I2, r2, q2⟩ =>
    thn (ho pins s2 σ H2 x y v u _ I2 r1 r2 q2) fun c s3 ⟨z, H3, I3, r3, k, e, q3⟩ => ?_) hm
  subst e
  cases r3
  exact wpAny_truthy_bool ⟨H3, I3, q3⟩
/-- a op1 b op2 c -/
def tChain (r r' : R2) (ta tb tc : TE) : TE := fun σ H Q => ta σ H fun x H1 => tb σ H1 fun y H2 => r x y H2 fun z H3 => ∃ k, z = .bl k ∧
  (if k = true then tc σ H3 fun w' H4 => r' y w' H4 Q else Q (.bl false) H3)
theorem pe_chain {op op' : CmpOp} {r r' : R2} (ho : OpR X (compareOp op) r) (ho' : OpR X (compareOp op') r') (ha : PE X a ta) (hb : PE X b tb) (hc : PE X c tc)
    (hm : lastMarks [op, op'] [b, c] = false := by with_unfolding_all rfl) : PE X (.Compare a [op, op'] [b, c] pos) (tChain r r' ta tb tc) := by
  intro pins s σ H Q I h
  refine Compare_chain (thn (ha pins s σ H _ I h) fun v s1 ⟨x, H1, I1, r1, q1⟩ => chain_link (thn (hb pins s1 σ H1 _ I1 q1) fun u s2 ⟨y, H2, I2, r2, q2⟩ =>
    thn (ho pins s2 σ H2 x y v u _ I2 r1 r2 q2) fun d s3 ⟨z, H3, I3, r3, k, e, q3⟩ => ?_)) hm
  subst e
  cases r3
  refine wpAny_truthy_bool ?_
  cases k with
  | false => exact ite_ff ⟨.bl false, H3, I3, rfl, q3⟩
  | true => exact ite_tt (chain_last (thn (hc pins s3 σ H3 _ I3 q3) fun w' s4 ⟨z', H4, I4, r4, q4⟩ => ho' pins s4 σ H4 y z' u w' Q I4 r2 r4 q4))
/-- a value's truth by the abstract heap -/
def TruV (K : PySem.W.Frag) (x : V) (H : Hp) (k : Bool) : Prop :=
  match x with
  | .non => k = false
  | .bl b => k = b
  | .int i => k = (i != 0)
  | .str y => y.length ≤ sizeLine ∧ k = ((y.length : Int) != 0)
  | .byt y => y.size ≤ sizeLine ∧ k = ((y.size : Int) != 0)
  | .ref p => (∃ xs, SqL K H p xs ∧ k = !xs.isEmpty) ∨ (∃ xs, SqT K H p xs ∧ k = !xs.isEmpty) ∨ ∃ kvs, H p = some (.dK kvs) ∧ k = !kvs.isEmpty
  | _ => False
theorem isEmpty_kv {κ : Type} {kvs : List (κ × V)} {vs : List (κ × Value)} (r : KV kvs vs) : (!vs.isEmpty) = !kvs.isEmpty := by
  cases r <;> rfl
theorem isEmpty_of {xs : List V} {its : List Value} (r : Vals xs its) : (!its.toArray.isEmpty) = !xs.isEmpty := by
  cases r <;> simp
theorem line63 : (sizeLine : Nat) < 2 ^ 63 := by rw [sizeLine_eq]; decide
theorem tru_ok : TruR X (fun x H Q => ∃ k, TruV X.K x H k ∧ Q k H) := by
  intro pins s σ H x v Q I rx h
  obtain ⟨k, e, q⟩ := h
  have hl := line63
  have hs : sizeLine = 16777216 := sizeLine_eq
  cases x with
  | non =>
    cases rx
    have e' : k = false := e
    subst e'
    exact truthy_none ⟨H, I, q⟩
  | bl b =>
    cases rx
    have e' : k = b := e
    subst e'
    exact wpAny_truthy_bool ⟨H, I, q⟩
  | int i =>
    obtain ⟨t, rfl⟩ := rx
    have e' : k = (i != 0) := e
    subst e'
    exact PySem.P.truthy_int ⟨H, I, q⟩
  | str y =>
    obtain ⟨t, rfl⟩ := rx
    obtain ⟨hy, e'⟩ : y.length ≤ sizeLine ∧ k = ((y.length : Int) != 0) := e
    subst e'
    exact PySem.P.truthy_str (by omega) ⟨H, I.tok _, q⟩
  | byt y =>
    obtain ⟨t, rfl⟩ := rx
    obtain ⟨hy, e'⟩ : y.size ≤ sizeLine ∧ k = ((y.size : Int) != 0) := e
    subst e'
    exact PySem.W.truthy_bytes (by omega) ⟨H, I.tok _, q⟩
  | ref p =>
    cases rx
    have e' : (∃ xs, SqL X.K H p xs ∧ k = !xs.isEmpty) ∨ (∃ xs, SqT X.K H p xs ∧ k = !xs.isEmpty) ∨ ∃ kvs, H p = some (.dK kvs) ∧ k = !kvs.isEmpty := e
    rcases e' with ⟨xs, hx, e'⟩ | ⟨xs, hx, e'⟩ | ⟨kvs, hx, e'⟩
    · subst e'
      obtain ⟨its, r, pl, hz⟩ := I.list hx
      have hlen := r.length
      exact wpAny_truthy_list pl.isList (by simp only [List.size_toArray]; omega) ⟨H, I.tok _, by rw [isEmpty_of r]; exact q⟩
    · subst e'
      obtain ⟨its, r, pl, hz⟩ := I.tuple hx
      have hlen := r.length
      exact truthy_tuple pl (by simp only [List.size_toArray]; omega) ⟨H, I.tok _, by rw [isEmpty_of r]; exact q⟩
    · subst e'
      obtain ⟨hz, hS, vs, r, m⟩ : kvs.length ≤ sizeLine ∧ (p == sysModules) = false ∧ ∃ vs, KV kvs vs ∧ s.heap.DictOf (mixKind X.prog X.w) p vs := I.hok p _ hx
      have hlen : kvs.length = vs.length := Paired.length r
      exact wpAny_truthy_dict hS m (by omega) ⟨H, I.tok _, by rw [isEmpty_kv r]; exact q⟩
  | _ => exact (show False from e).elim
/-- any expression whose test is its value's truth (a name, a call, a subscript, a field ..: he by fun _ => rfl) -/
theorem pt_truth (ha : PE X a ta) (he : ∀ whole, isTrue a X.env whole = (do let v ← whole; standAt a.pos; holding [v] (truthy v))) :
    PT X a (fun σ H Q => ta σ H fun x H' => ∃ k, TruV X.K x H' k ∧ Q k H') := by
  intro pins s σ H Q I h
  exact isTrue_plain (thn (ha pins s σ H _ I h) fun v s1 ⟨x, H1, I1, r1, q1⟩ => tru_ok pins s1 σ H1 x v Q I1 r1 q1) (he _)

theorem op_add_str : OpR X (binaryOp .Add) (fun x y H Q => ∃ i j, x = .str i ∧ y = .str j ∧ i.length + j.length ≤ sizeLine ∧ Q (.str (i ++ j)) H) := by
  intro pins s σ H x y v u Q I rx ry h
  obtain ⟨i, j, rfl, rfl, hz, q⟩ := h
  obtain ⟨t, rfl⟩ := rx
  obtain ⟨t', rfl⟩ := ry
  exact add_str (fun t' tk => ⟨.str (i ++ j), H, I.tok _, ⟨_, rfl⟩, q⟩) hz
theorem vals1 {x : V} {us : List Value} (r : Vals [x] us) : ∃ u, us = [u] ∧ RelV x u := by
  cases r with
  | cons r1 r2 => cases r2; exact ⟨_, rfl, r1⟩
end
end L2

namespace L2
open PySem PySem.Spec PyProof.Rows

section
variable {prog : Program} {w : World} {A : Around} {E : Value → Shared → Prop} {s : Shared} {K : PySem.W.Frag} {x dx C f : Addr} {mA : Str → Option Value} {name : Str} {v : Value}

end

theorem RelO.some_of {v : V} {o : Option Value} (r : RelO (some v) o) : ∃ u, o = some u ∧ RelV v u := by
  cases o with
  | none => exact (show False from r).elim
  | some u => exact ⟨u, rfl, r⟩
section
variable {P : Program} {w : World} {H H' : Hp} {h h' : Heap} {a C dx : Addr} {fs fs' : List (Str × V)}
end

section
variable {X : Cx} {pins : List (Addr × Obj)} {σ : St} {H : Hp} {s : Shared} {a C dx : Addr} {fs : List (Str × V)} {f : Str} {v : V} {A : Around} {E : Value → Shared → Prop}

end

section
variable {X : Cx} {o e value : Expr} {f : Str} {pos pos' tpos : Pos} {ta tv : TE}
end

section
variable {X : Cx} {pins : List (Addr × Obj)} {σ : St} {H : Hp} {s : Shared} {A : Around} {E : Value → Shared → Prop} {Q : Value → Shared → Prop} {c : Value} {b : Bool}
end
end L2

namespace L2
open PySem PySem.Spec PyProof.Rows

structure Room (k : Nat) (A : Around) : Prop where
  hd : A.handled = none
  dp : A.depth + 3 * k + 5 < recursionLimit
  un : A.units + 16 * k + 200 < cLine
theorem Room.mono {j k : Nat} {A : Around} (r : Room k A) (h : j ≤ k) : Room j A := ⟨r.hd, by have := r.dp; omega, by have := r.un; omega⟩
theorem Room.deeper {k : Nat} {A : Around} (r : Room (k + 1) A) (env : Env) : Room k (A.deeper env) :=
  ⟨r.hd, by have := r.dp; show A.depth + 1 + 3 * k + 5 < _; omega, by have := r.un; show A.units + 3 + 16 * k + 200 < _; omega⟩
theorem Room.depth {k : Nat} {A : Around} (r : Room k A) : A.depth < recursionLimit := by have := r.dp; omega
theorem Room.units {k : Nat} {A : Around} (r : Room k A) : A.units + 64 < cLine := by have := r.un; omega
def tNil : TA := fun _ H Q => Q [] H
def tCons (ta : TE) (tr : TA) : TA := fun σ H Q => ta σ H fun x H1 => tr σ H1 fun xs H2 => Q (x :: xs) H2
section
variable {X : Cx} {e : Expr} {es : List Expr} {te : TE} {t : TA} {pos : Pos}
theorem pa_nil : PA X [] tNil := fun _ _ _ _ H Q I h => Calls.spliced_nil ⟨[], H, I, .nil, h⟩
theorem pa_cons (ha : PE X e te) (hr : PA X es t) (hs : starEach (e :: es) X.env = (false, eval e X.env) :: starEach es X.env := by rfl) : PA X (e :: es) (tCons te t) := by
  intro pos pins s σ H Q I h
  rw [hs]
  show wpAny _ _ (spliced ((false, eval e X.env) :: backTo pos (starEach es X.env))) _ _ s
  refine Calls.spliced_cons (thn (ha pins s σ H _ I h) fun u s1 ⟨x, H1, I1, r1, q1⟩ => ?_)
  exact thn (hr pos pins s1 σ H1 _ I1 q1) fun us s2 ⟨xs, H2, I2, r2, q2⟩ => ⟨x :: xs, H2, I2, .cons r1 r2, q2⟩

def tLst (t : TA) : TE := fun σ H Q => t σ H fun xs H1 => xs.length ≤ sizeLine ∧ ∀ p, H1 p = none → Q (.ref p) (upd H1 p (.lst xs))
theorem pe_lst (h : PA X es t) : PE X (.List es pos) (tLst t) := by
  intro pins s σ H Q I hq
  refine wpAny_List_spliced (thn (h pos pins s σ H _ I hq) fun us s1 ⟨xs, H1, I1, r, z, q⟩ => ⟨by rw [← r.length]; exact z, ?_⟩)
  have hf : H1 s1.heap.objs.size = none := I1.hok.fresh (Nat.le_refl _)
  refine ⟨.ref s1.heap.objs.size, upd H1 s1.heap.objs.size (.lst xs), I1.laid (t' := s1.toks) (fun b u e => Heap.get?_push_of_some _ e) (Nat.le_refl _) ?_, rfl, q _ hf⟩
  exact ⟨z, us, 0, r, Heap.get?_push_size _ rfl⟩
end

/-- a def's promise: the bound arguments in the parameters' order, the heap, the wanted end, the wanted exception -/
abbrev Sp := List V → Hp → VK → XK → Prop
/-- how an exception lies behind a call (file 08 gives it): the callers' frames, abstract heap and state ahead of the call, the wish, the exception, the state -/
abbrev CXT := List Env → Hp → Shared → XK → Value → Shared → Prop

/-- the state at a call -/
structure Env0 (P : Program) (w : World) (K : PySem.W.Frag) (mg : Str → Option Value) (base : Heap) (A : Around) (outer : List Env) (s : Shared) (H : Hp) : Prop where
  frames : A.frames = some outer
  mod : Mod K mg base
  bs : ∀ b o, base.get? b = some o → s.heap.get? b = some o ∧ H b = none
  bsz : base.objs.size ≤ s.heap.objs.size
  funs : s.heap.FunFrames base outer
  frf : ∀ b ∈ frs outer, H b = none
  hok : HOk P w H s.heap
  bare : AllBare s.gens
/-- a call's end -/
def CE (outer : List Env) (P : Program) (w : World) (H : Hp) (s : Shared) (Q : VK) (u : Value) (s' : Shared) : Prop :=
  ∃ v H', s'.os = s.os ∧ AllBare s'.gens ∧ Un (frs outer) [] H H' s.heap s'.heap ∧ HOk P w H' s'.heap ∧ RelV v u ∧ Q v H'
def CR (CX : CXT) (outer : List Env) (P : Program) (w : World) (H : Hp) (s : Shared) (Q : VK) (E : XK) (r : Result) (s' : Shared) : Prop :=
  match r with
  | .ok (.ret u) => CE outer P w H s Q u s'
  | .ok _ => False
  | .error e => CX outer H s E e s'
structure FnOk (P : Program) (w : World) (K : PySem.W.Frag) (mg : Str → Option Value) (base : Heap) (CX : CXT) (k : Nat) (f : Addr) (fd : FuncData) (ps : List Str) (sp : Sp) : Prop where
  len : ∀ vs H Q E, sp vs H Q E → vs.length = ps.length
  run : ∀ (A : Around) (outer : List Env) (s : Shared) (H : Hp) (args : Args) (us : List Value) (vs : List V) (Q : VK) (E : XK), Room k A → Env0 P w K mg base A outer s H → BindsTo s fd args (ps.zip us) → Vals vs us → sp vs H Q E →
    codeAny (model P w) A (.call (.ref f) args) (CR CX outer P w H s Q E) s
section
variable {X : Cx} {pins : List (Addr × Obj)} {σ : St} {H : Hp} {s s' : Shared}
/-- from a body: what a callee wants -/
theorem Inv.env0 (I : Inv X pins σ H s) : Env0 X.prog X.w X.K X.mg X.base X.A X.stack s H :=
  ⟨I.ok.frames, I.ok.mod, I.bs, Nat.le_trans I.ok.bsz I.sz, I.stack, I.stkFree, I.hok, I.bare⟩
/-- behind a call -/
theorem Inv.after {Q : VK} {u : Value} (I : Inv X pins σ H s) (h : CE X.stack X.prog X.w H s Q u s') : EP X pins σ Q u s' := by
  obtain ⟨v, H', os, bare, un, hok, r, q⟩ := h
  obtain ⟨hh, g, d, t, os'⟩ := s'
  obtain rfl : os' = s.os := os
  exact ⟨v, H', I.call (h' := hh) (g' := g) (d' := d) (t' := t) (ch := []) un hok bare (fun b z => absurd z (by simp)), r, q⟩
end

/-- f(..): the written arguments, then the defaults dvs; E: what is wanted of an exception -/
def tCall (sp : Sp) (dvs : List V) (E : XK) (t : TA) : TE := fun σ H Q => t σ H fun vs H1 => sp (vs ++ dvs) H1 Q E
/-- how the parameters are bound: us the positional arguments, kw the keywords' values by name, ds the defaults that fill up -/
def Binds (K : PySem.W.Frag) (fd : FuncData) (ps : List Str) (ds : List Value) : Prop :=
  ∀ (s : Shared) (us : List Value), K.In s.heap → (us ++ ds).length = ps.length → BindsTo s fd ⟨us, []⟩ (ps.zip (us ++ ds))
/-- every parameter is given -/
theorem Binds.all {K : PySem.W.Frag} {fd : FuncData} {ps : List Str} (h : ∀ us : List Value, us.length = ps.length → bindArgs fd ⟨us, []⟩ = pure (ps.zip us)) : Binds K fd ps [] := fun s us _ hl => by
  rw [List.append_nil] at hl ⊢
  exact .of_eq (h us hl)

/-- an exception of a callee reaches what this body wants of exceptions -/
def Passes (CX : CXT) (X : Cx) (E : XK) : Prop := ∀ (pins : List (Addr × Obj)) (σ : St) (H : Hp) (s : Shared) (e : Value) (s' : Shared), Inv X pins σ H s → CX X.stack H s E e s' → X.xe e s'

section
variable {X : Cx} {CX : CXT} {k : Nat} {f C : Addr} {fd : FuncData} {ps : List Str} {sp : Sp} {dvs : List V} {ds : List Value} {E : XK} {x m : Str} {p pos apos : Pos} {e o : Expr} {es : List Expr} {ta : TE} {t : TA}

/-- the callee runs -/
theorem run_fn {pins : List (Addr × Obj)} {σ : St} {H : Hp} {s : Shared} {Q : VK} {us : List Value} {vs : List V} (F : FnOk X.prog X.w X.K X.mg X.base CX k f fd ps sp) (hr : Room k X.A) (hb : Binds X.K fd ps ds) (hd : Vals dvs ds) (hx : Passes CX X E)
    (I : Inv X pins σ H s) (r : Vals vs us) (h : sp (vs ++ dvs) H Q E) : wpAny (model X.prog X.w) X.A (call (.ref f) us) (EP X pins σ Q) X.xe s := by
  have r2 : Vals (vs ++ dvs) (us ++ ds) := r.append hd
  have hl : (us ++ ds).length = ps.length := by rw [← r2.length]; exact F.len _ _ _ _ h
  refine wpAny_call (codeAny_mono (F.run X.A X.stack s H ⟨us, []⟩ (us ++ ds) (vs ++ dvs) Q E hr I.env0 (hb s us I.kIn hl) r2 h) fun r s' hq => ?_)
  cases r with
  | error e => exact hx pins σ H s e s' I hq
  | ok fl =>
    cases fl with
    | ret u => exact I.after hq
    | next => exact False.elim hq
    | brk => exact False.elim hq
    | cont => exact False.elim hq

theorem pe_call (F : FnOk X.prog X.w X.K X.mg X.base CX k f fd ps sp) (hr : Room k X.A) (hg : Gl X x) (hm : X.mg x = some (.ref f)) (hk : PySem.W.keepIn X.K (.ref f) = true) (hb : Binds X.K fd ps ds) (hd : Vals dvs ds) (hx : Passes CX X E)
    (ha : PA X (e :: es) t) (hdb : (x == ("__debug__" : Str)) = false := by decide) (he : starEach (e :: es) X.env = (false, eval e X.env) :: starEach es X.env := by rfl) (hpl : (backTo pos (starEach es X.env)).any (·.1) = false := by rfl) :
    PE X (.Call (.Name x p) (e :: es) [] pos) (tCall sp dvs E t) := by
  intro pins s σ H Q I h
  refine wpAny_Call_Name_kw (ld_glob I hg hm ?_ hdb)
  refine PySem.W.callWith_K (h₀ := X.base) I.ok.mod.kin hk (thn (ha pos pins s σ H _ I h) fun us s1 ⟨vs, H1, I1, r, q⟩ => ⟨I1.kIn, ?_⟩) he hpl
  exact run_fn F hr hb hd hx I1 r q
theorem pe_call0 (F : FnOk X.prog X.w X.K X.mg X.base CX k f fd ps sp) (hr : Room k X.A) (hg : Gl X x) (hm : X.mg x = some (.ref f)) (hk : PySem.W.keepIn X.K (.ref f) = true) (hb : Binds X.K fd ps ds) (hd : Vals dvs ds) (hx : Passes CX X E)
    (hdb : (x == ("__debug__" : Str)) = false := by decide) : PE X (.Call (.Name x p) [] [] pos) (tCall sp dvs E tNil) := by
  intro pins s σ H Q I h
  refine wpAny_Call_Name_kw (ld_glob I hg hm ?_ hdb)
  exact PySem.W.callWith_K0 I.kIn hk (run_fn (us := []) F hr hb hd hx I .nil h)

end

section
variable {X : Cx} {CX : CXT} {k : Nat} {f C : Addr} {fd : FuncData} {ps ks : List Str} {sp : Sp} {E : XK} {x m : Str} {p pos apos kpos : Pos} {e o : Expr} {es : List Expr} {kws : List Keyword} {te ta : TE} {t tk : TA} {nm : Option Str}
variable {g : List Value → List Value → List Value} {gV : List V → List V → List V}
end

/-- names: the parameters first -/
structure FnScope (N P : List Str) (sc : Scope) : Prop where
  kind : sc.kind = .function
  co : sc.isCoroutine = false
  gen : sc.isGenerator = false
  nd : N.Nodup
  pre : N.take P.length = P
  par : ∀ x ∈ P, sc.names.lookup x = some .local ∨ sc.names.lookup x = some .cell
  nofree : ∀ y ∈ sc.names, y.2 ≠ .free

theorem bindL_out {kindOf : Str → Option NameKind} {x : Str} : ∀ {binds : List (Str × Value)} {m : Str → Option Value}, (∀ v, (x, v) ∉ binds) → bindL kindOf binds m x = m x
  | [], _, _ => rfl
  | (n, v) :: r, m, h => by
    unfold bindL
    rw [bindL_out fun w hw => h w (List.mem_cons_of_mem _ hw)]
    split
    · have : x ≠ n := by rintro rfl; exact h v List.mem_cons_self
      simp [this]
    · rfl
theorem bindC_out {kindOf : Str → Option NameKind} {x : Str} : ∀ {binds : List (Str × Value)} {m : Str → Option Value}, (∀ v, (x, v) ∉ binds) → bindC kindOf binds m x = m x
  | [], _, _ => rfl
  | (n, v) :: r, m, h => by
    unfold bindC
    rw [bindC_out fun w hw => h w (List.mem_cons_of_mem _ hw)]
    split
    · rfl
    · have : x ≠ n := by rintro rfl; exact h v List.mem_cons_self
      simp [this]
theorem bindL_get {kindOf : Str → Option NameKind} {x : Str} {v : Value} : ∀ {P : List Str} {vs : List Value} {i : Nat} {m : Str → Option Value}, P.Nodup → P[i]? = some x → vs[i]? = some v → kindOf x = some .local →
    bindL kindOf (P.zip vs) m x = some v
  | [], _, _, _, _, h, _, _ => by simp at h
  | _ :: _, [], _, _, _, _, h, _ => by simp at h
  | p :: P, w :: vs, 0, m, nd, h1, h2, hk => by
    simp at h1 h2; subst h1; subst h2
    show bindL kindOf ((p, w) :: P.zip vs) m p = _
    unfold bindL
    rw [bindL_out fun v hv => (List.nodup_cons.mp nd).1 (List.of_mem_zip hv).1, if_pos hk]
    simp
  | p :: P, w :: vs, i + 1, m, nd, h1, h2, hk => by
    show bindL kindOf ((p, w) :: P.zip vs) m x = _
    unfold bindL
    exact bindL_get (i := i) (List.nodup_cons.mp nd).2 (by simpa using h1) (by simpa using h2) hk
theorem bindC_get {kindOf : Str → Option NameKind} {x : Str} {v : Value} : ∀ {P : List Str} {vs : List Value} {i : Nat} {m : Str → Option Value}, P.Nodup → P[i]? = some x → vs[i]? = some v → kindOf x ≠ some .local →
    bindC kindOf (P.zip vs) m x = some v
  | [], _, _, _, _, h, _, _ => by simp at h
  | _ :: _, [], _, _, _, _, h, _ => by simp at h
  | p :: P, w :: vs, 0, m, nd, h1, h2, hk => by
    simp at h1 h2; subst h1; subst h2
    show bindC kindOf ((p, w) :: P.zip vs) m p = _
    unfold bindC
    rw [bindC_out fun v hv => (List.nodup_cons.mp nd).1 (List.of_mem_zip hv).1, if_neg hk]
    simp
  | p :: P, w :: vs, i + 1, m, nd, h1, h2, hk => by
    show bindC kindOf ((p, w) :: P.zip vs) m x = _
    unfold bindC
    exact bindC_get (i := i) (List.nodup_cons.mp nd).2 (by simpa using h1) (by simpa using h2) hk

/-- the names' values at the entry -/
def start (N : List Str) (vs : List V) : St := vs.map some ++ List.replicate (N.length - vs.length) none

/-- the context of a def's body, at its entry; an exception leaves the frame, then lies as CX says -/
def cxOf (CX : CXT) (P : Program) (w : World) (K : PySem.W.Frag) (mg : Str → Option Value) (base : Heap) (N : List Str) (qual : Str) (scope : Scope) (f : Addr) (cd : Value) (A : Around) (outer : List Env) (s : Shared) (H : Hp) (E : XK) : Cx where
  prog := P
  w := w
  K := K
  mg := mg
  base := base
  A := A.deeper (envOfC qual scope s.heap.objs.size f cd)
  N := N
  s₀ := s
  H₀ := H
  env := envOfC qual scope s.heap.objs.size f cd
  outer := outer
  stack := envOfC qual scope s.heap.objs.size f cd :: outer
  ex := []
  calm := true
  fn := fun _ => true
  pn := []
  xe := fun e s' => wpAny (model P w) (A.deeper (envOfC qual scope s.heap.objs.size f cd)) (leaving (envOfC qual scope s.heap.objs.size f cd) e) (fun _ s'' => CX outer H s E e s'') (fun e' s'' => CX outer H s E e' s'') s'

theorem cell_has {sc : Scope} {n : Nat} {x : Str} (h : sc.names.lookup x = some .cell) : ∃ c, (cellsFrom n sc.names []).lookup x = some c := by
  have q := PySem.W.cellsFrom_some sc.names n [] (.inl h)
  exact Option.isSome_iff_exists.mp q

theorem inv_start {CX : CXT} {P : Program} {w : World} {K : PySem.W.Frag} {mg : Str → Option Value} {base : Heap} {N ps : List Str} {qual : Str} {scope : Scope} {f : Addr} {cd : Value} {A : Around} {outer : List Env} {s s1 : Shared} {H : Hp} {E : XK} {us : List Value} {vs : List V}
    (S : FnScope N ps scope) (hd : A.handled = none) (e0 : Env0 P w K mg base A outer s H) (hl : vs.length = ps.length) (r : Vals vs us)
    (x : InCallC s s.heap.objs.size (bindL (envOfC qual scope s.heap.objs.size f cd).kindOf (ps.zip us) fun _ => none) (cellsFrom (s.heap.objs.size + 1) scope.names []) (bindC (envOfC qual scope s.heap.objs.size f cd).kindOf (ps.zip us) fun _ => none) s1) :
    Inv (cxOf CX P w K mg base N qual scope f cd A outer s H E) [] (start N vs) H s1 := by
  have hpl : ps.length ≤ N.length := by have := congrArg List.length S.pre; rw [List.length_take] at this; omega
  obtain ⟨h1, tk, rfl, hk⟩ := x.done
  have noA : ∀ b : Addr, b ∉ (cxOf CX P w K mg base N qual scope f cd A outer s H E).ex := fun b z => absurd (show b ∈ ([] : List Addr) from z) (by simp)
  refine ⟨⟨e0.mod, S.kind, rfl, rfl, Nat.le_refl _, fun y z c h1 h2 => ?_, fun y hy => ?_, fun y c _ h => ?_, fun _ => hd, Around.frames_deeper e0.frames, .inr ⟨rfl, rfl⟩, fun b z => absurd z (noA b), e0.bs, e0.bsz, fun b _ _ => noA b, fun b z => absurd z (noA b), e0.funs, e0.frf⟩,
    rfl, e0.bare, Un.kept hk, ⟨_, x.toInCall.ns, fun i y v h1 h2 h3 => ?_⟩, fun y c h => ⟨_, x.cell y c h⟩, e0.hok.fresh (Nat.le_refl _), fun y c h => ?_, fun p hp => absurd (show p ∈ ([] : List (Addr × Obj)) from hp) (by simp), e0.hok.kept hk, ?_⟩
  · exact name_of_addr x.apart (PySem.mem_of_lookup h1) (PySem.mem_of_lookup h2)
  · have hy : scope.names.lookup y = some .cell ∨ scope.names.lookup y = some .free := hy
    rcases hy with hy | hy
    · exact cell_has hy
    · exact absurd rfl (S.nofree _ (PySem.mem_of_lookup hy))
  · exact Nat.le_of_lt (x.above y c (PySem.mem_of_lookup h))
  · have hi : i < vs.length := by
      unfold start at h2
      by_cases hi : i < vs.length
      · exact hi
      · rw [List.getElem?_append_right (by simpa using hi)] at h2
        rw [List.getElem?_replicate] at h2
        split at h2 <;> cases h2
    have ha : vs[i]? = some v := by
      unfold start at h2
      rw [List.getElem?_append_left (by simpa using hi), List.getElem?_map] at h2
      cases e : vs[i]? with
      | none => rw [e] at h2; cases h2
      | some a => rw [e] at h2; cases h2; rfl
    obtain ⟨u, hu, rv⟩ := r.get ha
    have hp : ps[i]? = some y := by
      rw [← S.pre, List.getElem?_take_of_lt (by omega)]; exact h1
    have ndP : ps.Nodup := by rw [← S.pre]; exact S.nd.sublist (List.take_sublist _ _)
    refine ⟨u, rv, ?_⟩
    rcases S.par y (List.mem_of_getElem? hp) with k | k
    · exact .inl ⟨k, bindL_get ndP hp hu k⟩
    · obtain ⟨c, e⟩ := cell_has (n := s.heap.objs.size + 1) k
      refine .inr ⟨.inl k, c, e, ?_⟩
      have q := x.cell y c e
      rw [bindC_get ndP hp hu (by show scope.names.lookup y ≠ _; rw [k]; decide)] at q
      exact q
  · exact e0.hok.fresh (Nat.le_of_lt (x.above y c (PySem.mem_of_lookup h)))
  · unfold start
    show _ = N.length
    rw [List.length_append, List.length_map, List.length_replicate]
    omega

/-- THE RULE: a def (or a method) of the text, by its body. The body's reading t is chosen for each entry; it is run at the parameters' values -/
theorem fn_of {CX : CXT} {P : Program} {w : World} {K : PySem.W.Frag} {mg : Str → Option Value} {base : Heap} {k : Nat} {f : Addr} {name qual : Str} {params : Arguments} {body : List Stmt} {scope : Scope} {dV kV doc pm cdv ct oc : Value} {an od : Option Addr}
    {osl : Array (Option Value)} {N ps : List Str} {sp : Sp} (lk : K.lookup f = some ⟨oc, od, .func (PySem.W.fnOf name qual params body scope dV kV doc pm an cdv ct), osl⟩) (hcd : PySem.W.codeIn K cdv qual = true) (S : FnScope N ps scope)
    (len : ∀ vs H Q E, sp vs H Q E → vs.length = ps.length)
    (hbody : ∀ (A : Around) (outer : List Env) (s : Shared) (H : Hp) (vs : List V) (Q : VK) (E : XK), Room k (A.deeper (envOfC qual scope s.heap.objs.size f cdv)) → sp vs H Q E →
      ∃ t, PSs (cxOf CX P w K mg base N qual scope f cdv A outer s H E) body t ∧ t { nx := fun _ H' => Q .non H', rt := Q } (start N vs) H) :
    FnOk P w K mg base CX (k + 1) f (PySem.W.fnOf name qual params body scope dV kV doc pm an cdv ct) ps sp := by
  refine ⟨len, fun A outer s H args us vs Q E hr e0 hb r hsp => ?_⟩
  have hl := len _ _ _ _ hsp
  have KX : K.In s.heap := e0.mod.kin.keeps fun b o e => (e0.bs b o e).1
  have lim : s.heap.NoLimit := e0.mod.nolimit.keeps fun b o e => (e0.bs b o e).1
  have hkind : ∀ y ∈ ps.zip us, scope.names.lookup y.1 = some .local ∨ (scope.names.lookup y.1 = some .cell ∧ ((cellsFrom (s.heap.objs.size + 1) scope.names []).lookup y.1).isSome = true) := fun ⟨n, v⟩ hy => by
    rcases S.par n (List.of_mem_zip hy).1 with q | q
    · exact .inl q
    · exact .inr ⟨q, PySem.W.cellsFrom_some _ _ _ (.inl q)⟩
  refine codeAny_call_function hr.depth (KX _ _ lk) rfl S.co S.gen rfl (PySem.W.codeRec_of KX hcd) (hb _ _ _ _ ?_)
  refine wpAny_newFunctionEnv_cells S.kind hkind fun env he s1 x => ?_
  subst he
  refine ⟨lim.keeps x.toInCall.keep, codeAny_func ?_⟩
  obtain ⟨t, ht, hq⟩ := hbody A outer s H vs Q E (hr.deeper _) hsp
  have I : Inv (cxOf CX P w K mg base N qual scope f cdv A outer s H E) [] (start N vs) H s1 := inv_start S hr.hd e0 hl r x
  refine wpAny_mono (ht [] s1 (start N vs) H _ I hq) (fun fl s' hs => ?_) fun e s' hs => hs
  have fin : ∀ {σ' : St} {H' : Hp} {v : V} {u : Value}, Inv (cxOf CX P w K mg base N qual scope f cdv A outer s H E) [] σ' H' s' → RelV v u → Q v H' → CE outer P w H s Q u s' :=
    fun {σ' H' v u} J rv q => ⟨v, H', J.os, J.bare, J.base, J.hok, rv, q⟩
  cases fl with
  | ret u =>
    obtain ⟨v, σ', H', J, rv, q⟩ := hs
    exact fin J rv q
  | next =>
    obtain ⟨σ', H', J, q⟩ := hs
    exact fin (v := V.non) (u := Value.none) J rfl q
  | brk =>
    obtain ⟨_, _, _, q⟩ := hs
    exact False.elim q
  | cont =>
    obtain ⟨_, _, _, q⟩ := hs
    exact False.elim q
end L2

namespace L2
open PySem PySem.Spec PyProof.Rows
section
variable {X : Cx} {x : Str} {p pos : Pos} {e : Expr} {es : List Expr} {t : TA} {id T : String} {r : List V → Hp → VK → Prop}

def tCB (r : List V → Hp → VK → Prop) (t : TA) : TE := fun σ H Q => t σ H fun vs H1 => r vs H1 Q
/-- f(e, ..), f a built-in function -/
theorem pe_callB (hc : CallR X (.builtin id) r) (hg : Gl X x) (hm : X.mg x = none) (hv : bootBuiltins x = some (.builtin id)) (ha : PA X (e :: es) t) (hn : x ≠ "__name__" := by decide) (hdb : (x == ("__debug__" : Str)) = false := by decide)
    (he : starEach (e :: es) X.env = (false, eval e X.env) :: starEach es X.env := by rfl) (hpl : (backTo pos (starEach es X.env)).any (·.1) = false := by rfl) : PE X (.Call (.Name x p) (e :: es) [] pos) (tCB r t) := by
  intro pins s σ H Q I h
  refine wpAny_Call_Name_kw (ld_blt I hg hm hv ?_ hn hdb)
  exact PyProof.Rows.callWith_builtin1 (thn (ha pos pins s σ H _ I h) fun us s1 ⟨vs, H1, I1, r1, q1⟩ => hc pins s1 σ H1 vs us Q I1 r1 q1) he hpl
end
end L2

namespace HT
open PySem PyProof.Rows

section
open PySem.SeqAt
open PySem.AutoSeq1 (wpAny_loadPart')
open PySem.MeetsSeq PySem.MeetsSeq2 PySem.MeetsSeq3

end

section
variable {prog : Program} {w : World} {A : Around} {E : Value → Shared → Prop} {s : Shared}

/-- a slice's bound as a place among n (d where it is left out) -/
def sIx (n d : Nat) : Option Int → Nat
  | none => d
  | some v => if v < 0 then (v + (n : Int)).toNat else min v.toNat n
theorem sIx_le (n d : Nat) (hd : d ≤ n) (o : Option Int) : sIx n d o ≤ n := by
  cases o with
  | none => exact hd
  | some v =>
    show (if v < 0 then (v + (n : Int)).toNat else min v.toNat n) ≤ n
    by_cases hv : v < 0
    · rw [if_pos hv]; omega
    · rw [if_neg hv]; exact Nat.min_le_right _ _
theorem clip_eq (v : Int) (n d : Nat) : (if v < 0 then max (v + (n : Int)) 0 else min v (n : Int)) = ((sIx n d (some v) : Nat) : Int) := by
  show (if v < 0 then max (v + (n : Int)) 0 else min v (n : Int)) = (((if v < 0 then (v + (n : Int)).toNat else min v.toNat n) : Nat) : Int)
  by_cases hv : v < 0
  · simp only [if_pos hv]; omega
  · simp only [if_neg hv]; omega
theorem adjust_gen (lo hi : Option Int) (n : Nat) : Builtin.Slice.sliceAdjust lo hi 1 (n : Int) = (((sIx n 0 lo : Nat) : Int), ((sIx n n hi : Nat) : Int)) := by
  have h1 : ¬ ((1 : Int) < 0) := by omega
  unfold Builtin.Slice.sliceAdjust
  simp only [h1, if_false]
  refine Prod.ext ?_ ?_
  · cases lo with
    | none => rfl
    | some v => exact clip_eq v n 0
  · cases hi with
    | none => rfl
    | some v => exact clip_eq v n n
theorem places_gen (i j : Nat) : Builtin.Slice.slicePlaces (i : Int) (j : Int) 1 = j - i := by
  unfold Builtin.Slice.slicePlaces
  have h1 : (1 : Int) > 0 := by omega
  simp only [h1, if_true, Int.ediv_one]
  split <;> omega
theorem slicePart_ {v : Value} {o : Option Int} {Q : Option Int → Shared → Prop} (p : IsPart v o) (h : Q o s) : wpAny (model prog w) A (Builtin.Slice.slicePartIndex v) Q E s := by
  cases p with
  | none => exact slicePart_none h
  | int i t => exact slicePart_int h
theorem sliceApplied_gen {sl : Addr} {vl vu : Value} {lo hi : Option Int} {n : Nat} {Q : Int × Int × Nat → Shared → Prop} (hs : s.heap.IsSliceOf sl vl vu .none) (pl : IsPart vl lo) (pu : IsPart vu hi)
    (h : Q (((sIx n 0 lo : Nat) : Int), 1, sIx n n hi - sIx n 0 lo) s) : wpAny (model prog w) A (Builtin.Slice.sliceApplied (.ref sl) (pure (n : Int))) Q E s := by
  obtain ⟨os, hos, hcs, hds⟩ := id hs
  unfold Builtin.Slice.sliceApplied Builtin.Slice.sliceFields
  refine wpAny_bind (wpAny_bind (wpAny_field hos hds (x := vl) rfl (wpAny_bind (wpAny_field hos hds (x := vu) rfl (wpAny_bind (wpAny_field hos hds (x := .none) rfl (wpAny_pure ?_)))))))
  refine wpAny_bind (slicePart_none ?_)
  show wpAny _ _ (if ((1 : Int) == 0) = true then _ else _) _ _ s
  rw [if_neg (by decide)]
  refine wpAny_bind (slicePart_ pl (wpAny_bind (slicePart_ pu (wpAny_bind (wpAny_pure ?_)))))
  show wpAny _ _ (match Builtin.Slice.sliceAdjust lo hi 1 (n : Int) with | (lo, hi) => pure (lo, (1 : Int), Builtin.Slice.slicePlaces lo hi 1)) _ _ s
  rw [adjust_gen lo hi n]
  show wpAny _ _ (pure (((sIx n 0 lo : Nat) : Int), (1 : Int), Builtin.Slice.slicePlaces ((sIx n 0 lo : Nat) : Int) ((sIx n n hi : Nat) : Int) 1)) _ _ s
  rw [places_gen]
  exact wpAny_pure h
theorem pick_gen (xs : Array Value) (i k : Nat) : ((List.range k).filterMap fun (m : Nat) => xs[((i : Int) + (m : Int) * 1).toNat]?).toArray = ((xs.toList.drop i).take k).toArray := by
  have e : (fun (m : Nat) => xs[((i : Int) + (m : Int) * 1).toNat]?) = fun m => xs[i + m]? := by
    funext m
    have : ((i : Int) + (m : Int) * 1).toNat = i + m := by omega
    rw [this]
  rw [e]
  have := pick_run xs i k
  rw [List.filterMap_map] at this
  have e2 : ((fun x => xs[x]?) ∘ fun x => i + x) = fun m => xs[i + m]? := rfl
  rw [e2] at this
  rw [this]

theorem getItem_tuple_cut {t sl : Addr} {items : Array Value} {vl vu : Value} {lo hi : Option Int} {Q : Value → Shared → Prop} (ht : IsTup s.heap t items) (hs : s.heap.IsSliceOf sl vl vu .none) (pl : IsPart vl lo) (pu : IsPart vu hi)
    (hw : ¬ (sIx items.size 0 lo = 0 ∧ sIx items.size items.size hi = items.size))
    (h : Q (.ref s.heap.objs.size) { s with heap := s.heap.push { cls := .type "tuple", data := .seq ((items.toList.drop (sIx items.size 0 lo)).take (sIx items.size items.size hi - sIx items.size 0 lo)).toArray } })
    (hsz : items.size ≤ sizeLine) : wpAny (model prog w) A (getItem (.ref t) (.ref sl)) Q E s := by
  have htake : sizeOk (.seq ((items.toList.drop (sIx items.size 0 lo)).take (sIx items.size items.size hi - sIx items.size 0 lo)).toArray) := by
    show ((items.toList.drop (sIx items.size 0 lo)).take (sIx items.size items.size hi - sIx items.size 0 lo)).toArray.size ≤ sizeLine
    rw [List.size_toArray, List.length_take, List.length_drop, Array.length_toList]
    omega
  have hj : sIx items.size items.size hi ≤ items.size := sIx_le _ _ (Nat.le_refl _) hi
  obtain ⟨os, hos, hcs, hds⟩ := id hs
  have hTs : s.TypeIs (.ref sl) "slice" := ⟨os, hos, hcs⟩
  unfold getItem
  try with_reducible refine wpAny_holding ?_
  first | refine wpAny_bind (wpAny_pure ?_) | skip
  refine wpAny_bind (wpAny_sequenceKey ht.typeIs (by decide) ?_)
  refine wpAny_bind (wpAny_callSpecial?_slot (name := Str.ofString "__getitem__") ht.typeIs PyProof.Rows.slot_tuple_getitem
    (wpAny_call_entry PyProof.Rows.slot_tuple_getitem ht.typeIs entry_tuple_getitem ?_ (args_tuple_getitem _ _)))
  show wpAny _ _ (Builtin.Tuple.tupleItemsOf (.ref t) >>= _) _ _ s
  refine wpAny_bind (tupleItemsOf_ ht ?_)
  refine wpAny_bind (wpAny_typeOf hTs ?_)
  rw [if_pos (by decide)]
  refine wpAny_bind (sliceApplied_gen hs pl pu ?_)
  have hno : ¬ ((((sIx items.size 0 lo : Nat) : Int) == 0 && (1 : Int) == 1 && (sIx items.size items.size hi - sIx items.size 0 lo) == items.size) = true) := by
    intro q
    rw [Bool.and_eq_true, Bool.and_eq_true] at q
    have q1 : ((sIx items.size 0 lo : Nat) : Int) = 0 := eq_of_beq q.1.1
    have q2 : sIx items.size items.size hi - sIx items.size 0 lo = items.size := eq_of_beq q.2
    exact hw ⟨by omega, by omega⟩
  show wpAny _ _ (if (((sIx items.size 0 lo : Nat) : Int) == 0 && (1 : Int) == 1 && (sIx items.size items.size hi - sIx items.size 0 lo) == items.size) = true then _ else _) _ _ s
  rw [if_neg hno, pick_gen]
  first
    | exact wpAny_bind (m := Builtin.Tuple.tupleExact _) (wpAny_newObj_type (wpAny_pure ⟨_, rfl, wpAny_pure h⟩) htake)
    | exact wpAny_bind (m := Builtin.Tuple.tupleExact _) (wpAny_newObj_type (wpAny_bind (wpAny_pure (wpAny_pure ⟨_, rfl, wpAny_pure h⟩))) htake)
    | exact wpAny_bind (wpAny_bind (m := Builtin.Tuple.tupleExact _) (wpAny_newObj_type (wpAny_pure (wpAny_pure ⟨_, rfl, wpAny_pure h⟩)) htake))
    | exact wpAny_bind (wpAny_bind (m := Builtin.Tuple.tupleExact _) (wpAny_newObj_type (wpAny_pure ⟨_, rfl, wpAny_pure h⟩) htake))
end
end HT

namespace L2
open PySem PySem.Spec PyProof.Rows

abbrev TO := St → Hp → (Option Int → Hp → Prop) → Prop
/-- a slice's part (left out, or an int) -/
def PO (X : Cx) (e : Option Expr) (t : TO) : Prop :=
  ∀ (pins : List (Addr × Obj)) (s : Shared) (σ : St) (H : Hp) (Q : Option Int → Hp → Prop), Inv X pins σ H s → t σ H Q →
    wpAny (model X.prog X.w) X.A (evalPart e X.env) (fun u s' => ∃ o H', Inv X pins σ H' s' ∧ IsPart u o ∧ Q o H') X.xe s
def tNoPart : TO := fun _ H Q => Q none H
def tPart (t : TE) : TO := fun σ H Q => t σ H fun x H1 => ∃ i, x = .int i ∧ Q (some i) H1

section
variable {X : Cx} {e : Expr} {te : TE} {lo hi : Option Expr} {tl th : TO} {pos p2 : Pos}

theorem po_none : PO X none tNoPart := by
  intro pins s σ H Q I h
  rw [evalPart_none]
  exact wpAny_pure ⟨none, H, I, .none, h⟩
theorem po_some (h : PE X e te) : PO X (some e) (tPart te) := by
  intro pins s σ H Q I hw
  rw [evalPart_some]
  refine thn (h pins s σ H _ I hw) fun u s1 ⟨x, H1, I1, r1, q1⟩ => ?_
  obtain ⟨i, rfl, q⟩ := q1
  obtain ⟨t, rfl⟩ := r1
  exact ⟨some i, H1, I1, .int i t, q⟩

/-- what a slice of a value is, by values: the slice object stands at sl -/
def SlR (X : Cx) (r : V → Option Int → Option Int → Hp → VK → Prop) : Prop :=
  ∀ (pins : List (Addr × Obj)) (s : Shared) (σ : St) (H : Hp) (x : V) (v vl vu : Value) (lo hi : Option Int) (sl : Addr) (Q : VK), Inv X pins σ H s → RelV x v → s.heap.IsSliceOf sl vl vu .none → IsPart vl lo → IsPart vu hi → r x lo hi H Q →
    ∃ T id, typeLookup (.type T) "__getitem__" = pure (some (.builtin id)) ∧ s.TypeIs v T ∧ wpAny (model X.prog X.w) X.A (getItem v (.ref sl)) (EP X pins σ Q) X.xe s
def tSl (r : V → Option Int → Option Int → Hp → VK → Prop) (te : TE) (tl th : TO) : TE := fun σ H Q => te σ H fun x H1 => tl σ H1 fun l H2 => th σ H2 fun u H3 => r x l u H3 Q
/-- a[lo:hi], any a -/
theorem pe_slice {r : V → Option Int → Option Int → Hp → VK → Prop} (hr : SlR X r) (he : PE X e te) (hl : PO X lo tl) (hu : PO X hi th) : PE X (.Subscript e (.Slice lo hi none p2) pos) (tSl r te tl th) := by
  intro pins s σ H Q I h
  refine Subscript_ (thn (he pins s σ H _ I h) fun v s1 ⟨x, H1, I1, r1, q1⟩ => ?_)
  refine wpAny_Slice (thn (hl pins s1 σ H1 _ I1 q1) fun vl s2 ⟨l, H2, I2, pl, q2⟩ => thn (hu pins s2 σ H2 _ I2 q2) fun vu s3 ⟨u, H3, I3, pu, q3⟩ => ?_)
  rw [evalPart_none]
  refine wpAny_pure ?_
  have I4 : Inv X pins σ H3 { s3 with heap := s3.heap.push { cls := .type "slice", data := .fields #[vl, vu, .none] } } := I3.kept (t' := s3.toks) fun b ob q => Heap.get?_push_of_some _ q
  obtain ⟨T, id, hT, ht, hg⟩ := hr pins { s3 with heap := s3.heap.push { cls := .type "slice", data := .fields #[vl, vu, .none] } } σ H3 x v vl vu l u s3.heap.objs.size Q I4 r1 (Heap.IsSliceOf.new ..) pl pu q3
  show wpAny (model X.prog X.w) X.A (subscriptTail e (.Slice lo hi none p2) v (.ref s3.heap.objs.size)) (EP X pins σ Q) X.xe { s3 with heap := s3.heap.push { cls := .type "slice", data := .fields #[vl, vu, .none] } }
  exact tail_any (ops := [.ref s3.heap.objs.size, v]) ht hT hg (by with_unfolding_all rfl)

/-- the items of xs[lo:hi] -/
def cutV (xs : List V) (lo hi : Option Int) : List V := (xs.drop (HT.sIx xs.length 0 lo)).take (HT.sIx xs.length xs.length hi - HT.sIx xs.length 0 lo)
theorem cutV_length (xs : List V) (lo hi : Option Int) : (cutV xs lo hi).length ≤ xs.length := by
  unfold cutV
  rw [List.length_take, List.length_drop]
  omega
/-- t[lo:hi], not the whole of it (the whole would be t itself) -/
def rSlT (K : PySem.W.Frag) : V → Option Int → Option Int → Hp → VK → Prop := fun x lo hi H Q => ∃ a xs, x = .ref a ∧ SqT K H a xs ∧
  ¬ (HT.sIx xs.length 0 lo = 0 ∧ HT.sIx xs.length xs.length hi = xs.length) ∧ ∀ p, H p = none → Q (.ref p) (upd H p (.tup (cutV xs lo hi)))
theorem sl_tup : SlR X (rSlT X.K) := by
  intro pins s σ H x v vl vu lo hi sl Q I rx hs pl pu h
  obtain ⟨a, xs, rfl, hx, hw, q⟩ := h
  cases rx
  obtain ⟨its, r, ht, hz⟩ := I.tuple hx
  have hlen : its.toArray.size = xs.length := by rw [List.size_toArray]; exact r.length.symm
  refine ⟨"tuple", _, PyProof.Rows.slot_tuple_getitem.lookup, ht.typeIs, ?_⟩
  refine HT.getItem_tuple_cut ht hs pl pu (by rw [hlen]; exact hw) ?_ (by rw [hlen]; exact hz)
  rw [hlen]
  refine ⟨.ref s.heap.objs.size, _, I.laid (t' := s.toks) (o := .tup (cutV xs lo hi)) (fun b ob q => Heap.get?_push_of_some _ q) (Nat.le_refl _) ?_, rfl, q _ (I.hok.fresh (Nat.le_refl _))⟩
  exact ⟨Nat.le_trans (cutV_length xs lo hi) hz, _, (r.drop (HT.sIx xs.length 0 lo)).take (HT.sIx xs.length xs.length hi - HT.sIx xs.length 0 lo), IsTup.new _ _⟩

end
end L2

namespace L2
open PySem PySem.Spec PyProof.Rows

/-- the place that an index of any sign means -/
def ixN (n : Nat) (i : Int) : Option Nat := if 0 ≤ i then (if i < n then some i.toNat else none) else if -(n : Int) ≤ i then some (i + n).toNat else none
def atI {α : Type} (xs : List α) (i : Int) : Option α := (ixN xs.length i).bind fun j => xs[j]?
theorem ixN_seq {n : Nat} {i : Int} {j : Nat} (h : ixN n i = some j) : seqIndex? i n = some j ∧ j < n ∧ -(n : Int) ≤ i ∧ i < n := by
  unfold ixN at h
  by_cases h0 : 0 ≤ i
  · rw [if_pos h0] at h
    by_cases h1 : i < n
    · rw [if_pos h1] at h
      have e : i.toNat = j := Option.some.inj h
      exact ⟨by rw [seqIndex_of h0 h1, e], by omega, by omega, h1⟩
    · rw [if_neg h1] at h; cases h
  · rw [if_neg h0] at h
    by_cases h1 : -(n : Int) ≤ i
    · rw [if_pos h1] at h
      have e : (i + n).toNat = j := Option.some.inj h
      exact ⟨by rw [seqIndex_neg (by omega) h1, e], by omega, h1, by omega⟩
    · rw [if_neg h1] at h; cases h
theorem atI_get {α : Type} {xs : List α} {i : Int} {v : α} (h : atI xs i = some v) : ∃ j, seqIndex? i xs.length = some j ∧ xs[j]? = some v ∧ j < xs.length ∧ -(xs.length : Int) ≤ i ∧ i < xs.length := by
  unfold atI at h
  cases e : ixN xs.length i with
  | none => rw [e] at h; cases h
  | some j =>
    rw [e] at h
    obtain ⟨h1, h2, h3, h4⟩ := ixN_seq e
    exact ⟨j, h1, h, h2, h3, h4⟩
/-- what stands as an index of a plain subscript -/
def PlainIx (b : Expr) : Prop := ∀ o i, subscripted b false o i = operate [o, i] (getItem o i)
/-- a subscript by values -/
def IxR (X : Cx) (r : R2) : Prop :=
  ∀ (value slice : Expr) (pins : List (Addr × Obj)) (s : Shared) (σ : St) (H : Hp) (x y : V) (v u : Value) (Q : VK), Inv X pins σ H s → RelV x v → RelV y u → r x y H Q →
    subscripted slice false v u = operate [v, u] (getItem v u) → wpAny (model X.prog X.w) X.A (subscriptTail value slice v u) (EP X pins σ Q) X.xe s
/-- a call of a builtin's method by values: the receiver, the arguments -/
def MtR (X : Cx) (id : String) (r : V → List V → Hp → VK → Prop) : Prop :=
  ∀ (pins : List (Addr × Obj)) (s : Shared) (σ : St) (H : Hp) (x : V) (xs : List V) (v : Value) (us : List Value) (Q : VK), Inv X pins σ H s → RelV x v → Vals xs us → r x xs H Q →
    wpAny (model X.prog X.w) X.A (call (.builtin id) (v :: us)) (EP X pins σ Q) X.xe s
section
variable {X : Cx} {a b : Expr} {ta tb : TE} {pos : Pos}
/-- a[b] -/
theorem pe_ix {r : R2} (hr : IxR X r) (ha : PE X a ta) (hb : PE X b tb) (hs : PlainIx b) : PE X (.Subscript a b pos) (tOp r ta tb) := by
  intro pins s σ H Q I h
  exact Subscript_ (binT ha hb I h fun v u s2 x y H2 I2 rx ry q => hr a b pins s2 σ H2 x y v u Q I2 rx ry q (hs _ _))

def rIxL (K : PySem.W.Frag) : R2 := fun x y H Q => ∃ p xs i v, x = .ref p ∧ y = .int i ∧ SqL K H p xs ∧ atI xs i = some v ∧ Q v H
def rIxT (K : PySem.W.Frag) : R2 := fun x y H Q => ∃ p xs i v, x = .ref p ∧ y = .int i ∧ SqT K H p xs ∧ atI xs i = some v ∧ Q v H
def rIxS : R2 := fun x y H Q => ∃ z i c, x = .str z ∧ y = .int i ∧ z.length ≤ sizeLine ∧ atI z.cps.toList i = some c ∧ Q (.str ⟨#[c]⟩) H
theorem ix_list : IxR X (rIxL X.K) := by
  intro value slice pins s σ H x y v u Q I rx ry h hs
  obtain ⟨p, xs, i, z, rfl, rfl, hq, he, q⟩ := h
  cases rx
  obtain ⟨t, rfl⟩ := ry
  obtain ⟨its, r, pl, hz⟩ := I.list hq
  obtain ⟨j, h1, h2, h3, h4, h5⟩ := atI_get he
  obtain ⟨w, ew, rw'⟩ := r.get h2
  have hl := r.length
  have hn := line63
  have fin : EP X pins σ Q w s := ⟨z, H, I, rw', q⟩
  by_cases h0 : 0 ≤ i
  · have hj : i.toNat = j := by
      rw [seqIndex_of h0 h5] at h1
      exact Option.some.inj h1
    exact item_listR pl.isList h0 (by omega) (by rw [hj]; simpa using ew) fin hs
  · have hj : (i + (its.toArray.size : Int)).toNat = j := by
      rw [seqIndex_neg (by omega) h4] at h1
      rw [List.size_toArray, ← hl]
      exact Option.some.inj h1
    exact subscriptTail_builtinR (x := w) pl.isList.typeIs slot_list_getitem.lookup
      (wpAny_getItem_list_neg (Q := fun r s' => r = w ∧ EP X pins σ Q r s') pl.isList (by omega) (by rw [List.size_toArray] <;> omega) (by omega) (by rw [hj]; simpa using ew) ⟨rfl, fin⟩) hs
theorem ix_tup : IxR X (rIxT X.K) := by
  intro value slice pins s σ H x y v u Q I rx ry h hs
  obtain ⟨p, xs, i, z, rfl, rfl, hq, he, q⟩ := h
  cases rx
  obtain ⟨t, rfl⟩ := ry
  obtain ⟨its, r, pl, hz⟩ := I.tuple hq
  obtain ⟨j, h1, h2, h3, h4, h5⟩ := atI_get he
  obtain ⟨w, ew, rw'⟩ := r.get h2
  have hl := r.length
  have hn := line63
  have fin : EP X pins σ Q w s := ⟨z, H, I, rw', q⟩
  exact subscriptTail_builtinR (x := w) pl.typeIs slot_tuple_getitem.lookup
    (getItem_tuple (j := j) (Q := fun r s' => r = w ∧ EP X pins σ Q r s') pl (by omega) (by omega) (by rw [List.size_toArray, ← hl]; exact h1) (by simpa using ew) ⟨rfl, fin⟩) hs
theorem ix_str : IxR X rIxS := by
  intro value slice pins s σ H x y v u Q I rx ry h hs
  obtain ⟨z, i, c, rfl, rfl, hz, he, q⟩ := h
  obtain ⟨t, rfl⟩ := rx
  obtain ⟨t', rfl⟩ := ry
  obtain ⟨j, h1, h2, h3, h4, h5⟩ := atI_get he
  have hl : z.cps.toList.length = z.length := by simp [Str.length]
  rw [hl] at h1 h4 h5
  have hn := line63
  exact tail_any (typeIs_str s z t) slot_str_getitem.lookup (getItem_str (c := c) (by
    have e1 : decide (i < -(2 ^ 63 : Int)) = false := decide_eq_false (by omega)
    have e2 : decide (i ≥ 2 ^ 63) = false := decide_eq_false (by omega)
    rw [e1, e2, Bool.or_false]) (by rw [h1]; simpa using h2) ⟨.str ⟨#[c]⟩, H, I.tok _, ⟨_, rfl⟩, q⟩) hs
theorem slice_bounds (lo hi : Option Int) (n : Nat) : (sliceBounds lo hi none n).1 = ((HT.sIx n 0 lo : Nat) : Int) ∧ (sliceBounds lo hi none n).2.1 = ((HT.sIx n n hi : Nat) : Int) ∧ (sliceBounds lo hi none n).2.2 = 1 := by
  refine ⟨?_, ?_, rfl⟩
  · cases lo with
    | none => simp [sliceBounds, HT.sIx]
    | some i =>
      simp only [sliceBounds, HT.sIx, Option.getD_none, show (1 : Int) > 0 by decide, if_true]
      by_cases h : i < 0
      · simp only [h, if_true] <;> omega
      · simp only [h, if_false] <;> omega
  · cases hi with
    | none => simp [sliceBounds, HT.sIx]
    | some i =>
      simp only [sliceBounds, HT.sIx, Option.getD_none, show (1 : Int) > 0 by decide, if_true]
      by_cases h : i < 0
      · simp only [h, if_true] <;> omega
      · simp only [h, if_false] <;> omega
theorem slicePick_cut (its : List Value) (lo hi : Option Int) : slicePick its.toArray lo hi none = ((its.drop (HT.sIx its.length 0 lo)).take (HT.sIx its.length its.length hi - HT.sIx its.length 0 lo)).toArray := by
  obtain ⟨h1, h2, h3⟩ := slice_bounds lo hi its.toArray.size
  unfold slicePick
  rw [h1, h2, h3]
  simp only [sliceRange_one, pick_run, List.size_toArray] <;> rfl
/-- xs[lo:hi] of a list: a new list -/
def rSlL (K : PySem.W.Frag) : V → Option Int → Option Int → Hp → VK → Prop := fun x lo hi H Q => ∃ a xs, x = .ref a ∧ SqL K H a xs ∧ ∀ p, H p = none → Q (.ref p) (upd H p (.lst (cutV xs lo hi)))
theorem sl_list : SlR X (rSlL X.K) := by
  intro pins s σ H x v vl vu lo hi sl Q I rx hs pl pu h
  obtain ⟨a, xs, rfl, hx, q⟩ := h
  cases rx
  obtain ⟨its, r, ht, hz⟩ := I.list hx
  have hlen := r.length
  refine ⟨"list", _, slot_list_getitem.lookup, ht.isList.typeIs, ?_⟩
  refine wpAny_getItem_list_slice ht.isList hs pl pu .none (by simp) ?_ (by rw [List.size_toArray] <;> omega)
  rw [slicePick_cut, ← hlen]
  refine ⟨.ref s.heap.objs.size, _, I.laid (t' := s.toks) (o := .lst (cutV xs lo hi)) (fun b ob q => Heap.get?_push_of_some _ q) (Nat.le_refl _) ?_, rfl, q _ (I.hok.fresh (Nat.le_refl _))⟩
  exact ⟨Nat.le_trans (cutV_length xs lo hi) hz, _, 0, (r.drop (HT.sIx xs.length 0 lo)).take (HT.sIx xs.length xs.length hi - HT.sIx xs.length 0 lo), Heap.get?_push_size _ rfl⟩

theorem call_len_seq : CallR X (.builtin "len") (fun xs H Q => ∃ p ys, xs = [.ref p] ∧ (SqL X.K H p ys ∨ SqT X.K H p ys) ∧ Q (.int ys.length) H) := by
  intro pins s σ H xs us Q I r h
  obtain ⟨p, ys, rfl, hq, q⟩ := h
  obtain ⟨u, rfl, rx⟩ := vals1 r
  cases rx
  have hn := line63
  rcases hq with hq | hq
  · obtain ⟨its, r', pl, hz⟩ := I.list hq
    have hlen := r'.length
    exact Calls.call_len_list pl.isList (by simp only [List.size_toArray] <;> omega) ⟨.int ys.length, H, I.tok _, ⟨s.toks + 1, by rw [List.size_toArray, hlen]⟩, q⟩
  · obtain ⟨its, r', pl, hz⟩ := I.tuple hq
    have hlen := r'.length
    exact len_tuple pl (by simp only [List.size_toArray] <;> omega) ⟨.int ys.length, H, I.tok _, ⟨s.toks + 1, by rw [List.size_toArray, hlen]⟩, q⟩
theorem call_len_str : CallR X (.builtin "len") (fun xs H Q => ∃ z, xs = [.str z] ∧ z.length ≤ sizeLine ∧ Q (.int z.length) H) := by
  intro pins s σ H xs us Q I r h
  obtain ⟨z, rfl, hz, q⟩ := h
  obtain ⟨u, rfl, t, rfl⟩ := vals1 r
  have hn := line63
  exact len_str (by omega) ⟨.int z.length, H, I.tok _, ⟨_, rfl⟩, q⟩
/-- the value is of that builtin type -/
def tyV (K : PySem.W.Frag) (T : String) (x : V) (H : Hp) : Prop := match x with
  | .str _ => T = "str"
  | .int _ => T = "int"
  | .ref p => (T = "list" ∧ ∃ xs, SqL K H p xs) ∨ (T = "tuple" ∧ ∃ o, K.lookup p = some o ∧ o.cls = .type "tuple" ∧ o.dict = none) ∨
      (T = "dict" ∧ ((∃ kvs, H p = some (.dK kvs)) ∨ ∃ kvs, H p = some (.dT kvs))) ∨ (T = "set" ∧ ∃ S n, H p = some (.set S n))
  | _ => False
theorem tyV_is {pins : List (Addr × Obj)} {σ : St} {H : Hp} {s : Shared} {T : String} {x : V} {v : Value} (I : Inv X pins σ H s) (r : RelV x v) (ty : tyV X.K T x H) :
    s.TypeIs v T ∧ ∀ a, v = .ref a → ∃ ob, s.heap.get? a = some ob ∧ ob.dict = none := by
  cases x with
  | str z =>
    obtain ⟨t, rfl⟩ := r
    cases (show T = "str" from ty)
    exact ⟨typeIs_str s z t, fun _ e => nomatch e⟩
  | int i =>
    obtain ⟨t, rfl⟩ := r
    cases (show T = "int" from ty)
    exact ⟨typeIs_int s i t, fun _ e => nomatch e⟩
  | ref p =>
    cases r
    rcases ty with ⟨rfl, xs, hq⟩ | ⟨rfl, o, hk, hc, hd⟩ | ⟨rfl, hk⟩ | ⟨rfl, S, n, hk⟩
    · obtain ⟨its, _, pl, _⟩ := I.list hq
      refine ⟨pl.isList.typeIs, fun a e => ?_⟩
      cases e
      obtain ⟨o, n, e, c, hd, _⟩ := pl
      exact ⟨o, e, hd⟩
    · refine ⟨⟨o, I.kIn p o hk, hc⟩, fun a e => ?_⟩
      cases e
      exact ⟨o, I.kIn _ o hk, hd⟩
    · have z : ∃ o, s.heap.get? p = some o ∧ o.ExactDict := by
        rcases hk with ⟨kvs, hk⟩ | ⟨kvs, hk⟩
        · obtain ⟨_, _, _, _, o, _, _, e, ex, _⟩ := I.hok p _ hk
          exact ⟨o, e, ex⟩
        · obtain ⟨_, _, _, _, o, _, _, e, ex, _⟩ := I.hok p _ hk
          exact ⟨o, e, ex⟩
      obtain ⟨o, e, ex⟩ := z
      refine ⟨⟨o, e, ex.1⟩, fun a e2 => ?_⟩
      cases e2
      exact ⟨o, e, ex.2.1⟩
    · obtain ⟨o, _, _, _, e, ex, _⟩ := I.hok p _ hk
      refine ⟨⟨o, e, ex.1⟩, fun a e2 => ?_⟩
      cases e2
      exact ⟨o, e, ex.2.1⟩
  | _ => exact False.elim ty
def tBM (K : PySem.W.Frag) (T : String) (r : V → List V → Hp → VK → Prop) (to : TE) (t : TA) : TE := fun σ H Q => to σ H fun x H1 => tyV K T x H1 ∧ t σ H1 fun xs H2 => r x xs H2 Q
variable {o e : Expr} {es : List Expr} {to : TE} {t : TA} {name : Str} {apos cpos : Pos} {T id : String} {r : V → List V → Hp → VK → Prop}
theorem pe_bm (pa : PlainAttrs T) (slot : Slot T name id) (hty : typeOf (.builtin id) = pure (.type "method_descriptor")) (hm : MtR X id r) (ho : PE X o to) (ha : PA X (e :: es) t)
    (hbase : attributeBase o name X.env (eval o X.env) = eval o X.env := by rfl)
    (hfew : ((backTo cpos (starEach (e :: es) X.env)).all (fun x => !x.1) && (backToKw cpos (keywordEach [] X.env)).all (fun x => x.1.isSome)
      && decide ((e :: es).length + ([] : List Keyword).length + (if ([] : List Keyword).isEmpty then 0 else 1) < 30)) = true := by rfl)
    (hline : (apos.endLine == cpos.line) = true := by rfl) (hs : starEach (e :: es) X.env = (false, eval e X.env) :: starEach es X.env := by rfl) (hplain : (backTo cpos (starEach es X.env)).any (·.1) = false := by rfl) :
    PE X (.Call (.Attribute o name apos) (e :: es) [] cpos) (tBM X.K T r to t) := by
  intro pins s σ H Q I h
  refine wpAny_Call_method_late hbase hfew hline rfl (thn (ho pins s σ H _ I h) fun v s1 ⟨x, H1, I1, r1, ty, q1⟩ => ?_)
  obtain ⟨h1, h2⟩ := tyV_is I1 r1 ty
  refine ⟨T, id, pa, slot, hty, h1, h2, ?_⟩
  have hA := ha cpos pins s1 σ H1 _ I1 q1
  rw [hs] at hA ⊢
  refine Calls.callWith_builtin (by show (false || (backTo cpos (starEach es X.env)).any (·.1)) = false; rw [hplain] <;> rfl) (Calls.evalArgs_plain ?_)
  exact thn hA fun us s2 ⟨vs, H2, I2, r2, q2⟩ => hm pins s2 σ H2 x vs v us Q I2 r1 r2 q2
end
end L2

namespace L2
open PySem PySem.Spec PyProof.Rows

def MtM (X : Cx) (id : String) (r : V → List V → Hp → VK → Prop) : Prop :=
  ∀ (pins : List (Addr × Obj)) (s : Shared) (σ : St) (H : Hp) (x : V) (xs : List V) (v : Value) (us : List Value) (Q : VK), Inv X pins σ H s → RelV x v → Vals xs us → r x xs H Q →
    wpAny (model X.prog X.w) X.A (call (.builtin id) (v :: us)) (EP X pins σ Q) X.xe s

theorem Vals.one : ∀ {x : V} {us : List Value}, Vals [x] us → ∃ u, us = [u] ∧ RelV x u
  | _, _, .cons r .nil => ⟨_, rfl, r⟩
section
variable {X : Cx} {pins : List (Addr × Obj)} {σ : St} {H : Hp} {s : Shared} {l b : Addr} {xs ys zs : List V}

theorem Inv.lset {its its' : List Value} {n : Nat} {f : Array Value → Array Value} {t' : Nat} (I : Inv X pins σ H s) (hH : H l = some (.lst xs))
    (e : s.heap.get? l = some { cls := .type "list", data := .seq its.toArray n }) (hf : f its.toArray = its'.toArray) (hv : Vals ys its') (hz : ys.length ≤ sizeLine) :
    Inv X pins σ (upd H l (.lst ys)) { s with heap := s.heap.update l (Obj.mapSeq f), toks := t' } := by
  have q := PySem.IsL.update e f
  rw [hf] at q
  refine I.write (x := l) (e := l) (by rw [hH]; exact trivial) (.inl rfl) (fun b' u hb hu => (Heap.get?_update_other s.heap (Obj.mapSeq f) (Ne.symm hb)).trans hu) ⟨_, q⟩ ?_
  exact ⟨hz, its', _, hv, q⟩
theorem Inv.lnew {its : List Value} {t' : Nat} (I : Inv X pins σ H s) (hv : Vals ys its) (hz : ys.length ≤ sizeLine) :
    Inv X pins σ (upd H s.heap.objs.size (.lst ys)) { s with heap := s.heap.push { cls := .type "list", data := .seq its.toArray }, toks := t' } :=
  I.laid (fun _ _ q => Heap.get?_push_of_some _ q) (Nat.le_refl _) ⟨hz, its, 0, hv, Heap.get?_push_size _ rfl⟩
theorem Inv.fresh (I : Inv X pins σ H s) : H s.heap.objs.size = none := I.hok.fresh (Nat.le_refl _)
theorem Inv.lstM (I : Inv X pins σ H s) (hH : H l = some (.lst xs)) : xs.length ≤ sizeLine ∧ ∃ (its : List Value) (n : Nat), Vals xs its ∧ xs.length = its.length ∧ s.heap.get? l = some { cls := .type "list", data := .seq its.toArray n } := by
  obtain ⟨z, its, n, r, e⟩ := I.hok l _ hH
  exact ⟨z, its, n, r, r.length, e⟩

end

section
variable {X : Cx}

def rAppend : V → List V → Hp → VK → Prop := fun x vs H Q => ∃ l xs y, x = .ref l ∧ vs = [y] ∧ H l = some (.lst xs) ∧ xs.length < sizeLine ∧ Q .non (upd H l (.lst (xs ++ [y])))
theorem mt_append : MtM X "list.append" rAppend := by
  intro pins s σ H x vs v us Q I rx rv h
  obtain ⟨l, xs, y, rfl, rfl, hH, hz, q⟩ := h
  cases rx
  obtain ⟨u, rfl, ru⟩ := rv.one
  obtain ⟨z, its, n, r, hl, e⟩ := I.lstM hH
  refine call_meets F.slot_list_append ⟨_, e, rfl⟩ F.entry_list_append (F.args_list_append_2 _ _) (PySem.list_append l its.toArray n u (by rw [List.size_toArray]; omega)) ⟨e, ?_⟩
  refine ⟨.non, _, I.lset (its' := its ++ [u]) hH e (by simp) (r.append (.cons ru .nil)) ?_, rfl, q⟩
  rw [List.length_append, List.length_singleton]
  omega

end

section
variable {prog : Program} {w : World} {A : Around} {E : Value → Shared → Prop} {s : Shared}
end

section
variable {X : Cx}
end
end L2

namespace L2
open PySem PySem.Spec PyProof.Rows

section
variable {κ : Type} [DecidableEq κ]
def valV (kvs : List (κ × V)) (k : κ) : Option V := (kvs.find? fun kv => decide (kv.1 = k)).map (·.2)
theorem valV_pos {p : κ × V} {r : List (κ × V)} {k : κ} (e : p.1 = k) : valV (p :: r) k = some p.2 := by simp [valV, List.find?_cons, e]
theorem valV_neg {p : κ × V} {r : List (κ × V)} {k : κ} (e : ¬ p.1 = k) : valV (p :: r) k = valV r k := by simp [valV, List.find?_cons, e]
theorem RelO.isSome_eq {o : Option V} {u : Option Value} (r : RelO o u) : o.isSome = u.isSome := by
  cases o with
  | none => cases u with
    | none => rfl
    | some _ => exact (show False from r).elim
  | some _ => cases u with
    | none => exact (show False from r).elim
    | some _ => rfl
/-- raw tables of the same keys -/
theorem KV.val {kvs : List (κ × V)} {vs : List (κ × Value)} (r : KV kvs vs) (k : κ) : RelO (valV kvs k) (valueAt vs k) := by
  unfold KV at r
  induction r with
  | nil => exact True.intro
  | @cons p q ps qs h t ih =>
    obtain ⟨h1, h2⟩ := h
    by_cases e : p.1 = k
    · have e' : q.1 = k := h1.symm.trans e
      have b : valueAt (q :: qs) k = some q.2 := by simp [valueAt, List.find?_cons, e']
      rw [valV_pos e, b]; exact h2
    · have e' : ¬ q.1 = k := fun z => e (h1.trans z)
      have b : valueAt (q :: qs) k = valueAt qs k := by simp [valueAt, List.find?_cons, e']
      rw [valV_neg e, b]; exact ih
end


theorem kV_is {P : Program} {w : World} {k : Key} {u : Value} (r : RelV (kV k) u) : (mixKind P w).is k u = true := by
  cases k with
  | inl i => obtain ⟨t, e⟩ := (show ∃ t, u = Value.int i t from r); subst e; exact mixKind_int P w i t
  | inr x => obtain ⟨t, e⟩ := (show ∃ t, u = Value.str x t from r); subst e; exact mixKind_str P w x t
theorem items_are {P : Program} {w : World} : ∀ {ks : List Key} {us : List Value}, Vals (ks.map kV) us → ItemsAre (mixKind P w) ks us
  | [], _, r => by rw [List.map_nil] at r; cases r; exact .nil
  | k :: ks, _, r => by
    rw [List.map_cons] at r
    cases r with
    | cons h t => exact .cons (kV_is h) (items_are t)

/-- raw entries of a dict with tuple keys -/
abbrev KT (H : Hp) : List (List Key × V) → List (List Key × Addr × Value) → Prop := Paired fun p q => p.1 = q.1 ∧ H q.2.1 = some (.tup (p.1.map kV)) ∧ RelV p.2 q.2.2
theorem KT.val {H : Hp} {kvs : List (List Key × V)} {xs : List (List Key × Addr × Value)} (r : KT H kvs xs) (k : List Key) : RelO (valV kvs k) ((atKey xs k).map (·.2)) := by
  induction r with
  | nil => exact True.intro
  | @cons p q ps qs h t ih =>
    obtain ⟨h1, _, h2⟩ := h
    by_cases e : p.1 = k
    · have e' : q.1 = k := h1.symm.trans e
      have b : atKey (q :: qs) k = some q.2 := by simp [atKey, List.find?_cons, e']
      rw [valV_pos e, b]; exact h2
    · have e' : ¬ q.1 = k := fun z => e (h1.trans z)
      have b : atKey (q :: qs) k = atKey qs k := by simp [atKey, List.find?_cons, e']
      rw [valV_neg e, b]; exact ih
section
variable {P : Program} {w : World} {H : Hp} {h : Heap} {a : Addr}
theorem rd_of {u : HO} (ok : HOk P w H h) (e : Rd H a u) : ObjOk P w H h a u := e.ok ok
theorem dk_rd {kvs : List (Key × V)} (ok : HOk P w H h) (e : Rd H a (.dK kvs)) : kvs.length ≤ sizeLine ∧ (a == sysModules) = false ∧ ∃ vs, KV kvs vs ∧ h.DictOf (mixKind P w) a vs :=
  show ObjOk P w H h a (.dK kvs) from rd_of ok e
theorem dk_of {kvs : List (Key × V)} (ok : HOk P w H h) (e : H a = some (.dK kvs)) : kvs.length ≤ sizeLine ∧ (a == sysModules) = false ∧ ∃ vs, KV kvs vs ∧ h.DictOf (mixKind P w) a vs := dk_rd ok (.inl e)
/-- a tracked tuple of ints and texts is a key -/
theorem key_of {ks : List Key} (ok : HOk P w H h) (e : H a = some (.tup (ks.map kV))) : (tupleKind (mixKind P w)).is h ks a := by
  obtain ⟨_, its, r, o, h1, h2, n, h3⟩ := (show ObjOk P w H h a (.tup (ks.map kV)) from ok a _ e)
  exact ⟨o, its.toArray, n, h1, h2, h3, by simpa using items_are r⟩
theorem dt_rd {kvs : List (List Key × V)} (ok : HOk P w H h) (e : Rd H a (.dT kvs)) : kvs.length ≤ sizeLine ∧ (a == sysModules) = false ∧
    ∃ xs, KT H kvs xs ∧ h.DictOfH (tupleKind (mixKind P w)) a xs := by
  obtain ⟨z, y, xs, r, o, es, ep, h1, h2, h3, h4, h5⟩ := (show ObjOk P w H h a (.dT kvs) from rd_of ok e)
  refine ⟨z, y, xs, r, o, es, ep, h1, h2, h3, h4, fun x hx => ?_, h5⟩
  have all : ∀ {l : List (List Key × V)} {m : List (List Key × Addr × Value)}, KT H l m → ∀ x ∈ m, (tupleKind (mixKind P w)).is h x.1 x.2.1 := by
    intro l m q
    induction q with
    | nil => intro x hx; exact nomatch hx
    | @cons p q ps qs hq t ih =>
      intro x hx
      rcases List.mem_cons.mp hx with e | hx
      · subst e
        exact key_of ok (by rw [← hq.1]; exact hq.2.1)
      · exact ih x hx
  exact all r x hx
theorem dt_of {kvs : List (List Key × V)} (ok : HOk P w H h) (e : H a = some (.dT kvs)) : kvs.length ≤ sizeLine ∧ (a == sysModules) = false ∧
    ∃ xs, KT H kvs xs ∧ h.DictOfH (tupleKind (mixKind P w)) a xs := dt_rd ok (.inl e)
end

/-- what the dict at a holds at the key y -/
def DGet (H : Hp) (a : Addr) (y : V) (r : Option V) : Prop :=
  (∃ kvs k, Rd H a (.dK kvs) ∧ y = kV k ∧ r = valV kvs k) ∨ ∃ kvs k b, Rd H a (.dT kvs) ∧ y = .ref b ∧ H b = some (.tup (k.map kV)) ∧ r = valV kvs k
theorem DGet.k {H : Hp} {a : Addr} {kvs : List (Key × V)} {k : Key} (e : H a = some (.dK kvs)) : DGet H a (kV k) (valV kvs k) := .inl ⟨kvs, k, .inl e, rfl, rfl⟩
theorem DGet.t {H : Hp} {a b : Addr} {kvs : List (List Key × V)} {k : List Key} (e : H a = some (.dT kvs)) (eb : H b = some (.tup (k.map kV))) : DGet H a (.ref b) (valV kvs k) := .inr ⟨kvs, k, b, .inl e, rfl, eb, rfl⟩
section
variable {X : Cx} {pins : List (Addr × Obj)} {σ : St} {H : Hp} {s : Shared} {a : Addr} {y v : V} {u r : Value} {o : Option V} {A : Around} {E : Value → Shared → Prop}

/-- d[y], there -/
theorem d_getItem {Q : Value → Shared → Prop} (hu : A.units + 1 < cLine) (I : Inv X pins σ H s) (g : DGet H a y (some v)) (ry : RelV y u) (h : ∀ w' s', Inv X pins σ H s' → RelV v w' → Q w' s') :
    wpAny (model X.prog X.w) A (getItem (.ref a) u) Q E s := by
  rcases g with ⟨kvs, k, e, ey, l⟩ | ⟨kvs, k, b, e, ey, eb, l⟩
  · subst ey
    obtain ⟨z, hd, vs, rel, dd⟩ := dk_rd I.hok e
    obtain ⟨w', hw, rw'⟩ := RelO.some_of (v := v) (o := valueAt vs k) (by rw [l]; exact rel.val k)
    exact wpAny_getItem_of (kV_is ry) dd.mapOf hw (h w' _ (I.tok _) rw')
  · subst ey
    cases (show u = Value.ref b from ry)
    obtain ⟨z, hd, xs, rel, dd⟩ := dt_rd I.hok e
    obtain ⟨w', hw, rw'⟩ := RelO.some_of (v := v) (o := (atKey xs k).map (·.2)) (by rw [l]; exact rel.val k)
    obtain ⟨p, hp, hp2⟩ := Option.map_eq_some_iff.mp hw
    refine wpAny_getItem_heap (tupleKind_room_in1 hu) (key_of I.hok eb) dd hp ?_
    rw [hp2]
    exact h w' _ (I.tok _) rw'
/-- y in d -/
theorem d_in {Q : Value → Shared → Prop} (hu : A.units + 1 < cLine) (I : Inv X pins σ H s) (g : DGet H a y o) (ry : RelV y u) (h : ∀ s', Inv X pins σ H s' → Q (.bool o.isSome) s') :
    wpAny (model X.prog X.w) A (compareOp .In u (.ref a)) Q E s := by
  rcases g with ⟨kvs, k, e, ey, l⟩ | ⟨kvs, k, b, e, ey, eb, l⟩
  · subst ey
    obtain ⟨z, hd, vs, rel, dd⟩ := dk_rd I.hok e
    refine wpAny_in_of (kV_is ry) hd dd.mapOf ?_
    rw [← (rel.val k).isSome_eq, ← l]
    exact h _ (I.tok _)
  · subst ey
    cases (show u = Value.ref b from ry)
    obtain ⟨z, hd, xs, rel, dd⟩ := dt_rd I.hok e
    refine wpAny_in_heap (tupleKind_room_in1 hu) (key_of I.hok eb) hd dd ?_
    have q := (rel.val k).isSome_eq
    rw [Option.isSome_map] at q
    rw [← q, ← l]
    exact h _ (I.tok _)
end

section
variable {X : Cx} {pins : List (Addr × Obj)} {σ : St} {H : Hp} {s : Shared} {a : Addr} {kvs : List (Key × V)} {k : Key} {u : Value} {A : Around} {E : Value → Shared → Prop}
end


theorem dict_typeIs {X : Cx} {pins : List (Addr × Obj)} {σ : St} {H : Hp} {s : Shared} {a : Addr} {y : V} {o : Option V} (I : Inv X pins σ H s) (g : DGet H a y o) : s.TypeIs (.ref a) "dict" := by
  rcases g with ⟨kvs, k, e, _, _⟩ | ⟨kvs, k, b, e, _, _, _⟩
  · obtain ⟨_, _, vs, _, dd⟩ := dk_rd I.hok e
    exact dd.typeIs
  · obtain ⟨_, _, xs, _, dd⟩ := dt_rd I.hok e
    exact dd.typeIs
section
variable {X : Cx} {o i e value : Expr} {pos pos' tpos : Pos} {td ty tv : TE}
end


section
variable {X : Cx} {pos : Pos}
end

section
variable {X : Cx} {pins : List (Addr × Obj)} {σ : St} {H : Hp} {s : Shared} {a : Addr} {y d : V} {u r : Value} {o : Option V} {A : Around} {E : Value → Shared → Prop}
end

section
variable {X : Cx} {o e f : Expr} {apos cpos : Pos} {td ty tx : TE}
end

section
variable {X : Cx} {pins : List (Addr × Obj)} {σ : St} {H : Hp} {s : Shared} {a : Addr} {kvs : List (Key × V)} {A : Around} {E : Value → Shared → Prop}
end


section
variable {X : Cx} {pins : List (Addr × Obj)} {σ : St} {H : Hp} {s : Shared} {a : Addr} {y : V} {u : Value} {A : Around} {E : Value → Shared → Prop}
end
end L2

namespace Att
open PySem PySem.W PySem.Calls PyProof.Rows

theorem ints_of_wellAll {P : Params} {h : Heap} : ∀ (ns : List Int) (vs : List Value), WellAll P h vs (ns.map WData.int) → IntsAre vs ns := by
  intro ns
  induction ns with
  | nil =>
    intro vs w
    rw [List.map_nil] at w
    cases w
    exact .nil
  | cons n ns ih =>
    intro vs w
    rw [List.map_cons] at w
    cases w with
    | cons a b =>
      cases a
      exact .cons _ _ (ih _ b)

theorem script_of {l : OpenLaw} {n : Nat} (hn : l.most = some n) {P : Params} {h : Heap} {args : List WData} {vals : List Value}
    (hpre : l.row.toRowW.claim.pre args = true) (hwl : WellAll P h vals args) :
    ∃ a vs ns, vals = [Value.ref a] ∧ args = [WData.list (ns.map WData.int)] ∧ h.get? a = some { cls := .type "list", data := .seq vs.toArray } ∧ IntsAre vs ns ∧ ns.length ≤ n := by
  have hsh : WShape.hasAll [] args [.list .int] = true := (pre_splitW hpre).1
  have hc : l.pre.holds [] { args := args } = true := (pre_splitW hpre).2
  obtain ⟨d, r, rfl, h1, h2⟩ := hasAllW_cons hsh
  obtain rfl := hasAllW_nil h2
  obtain ⟨xs, rfl, h3⟩ := hasW_list h1
  obtain ⟨ns, rfl⟩ := items_int h3
  have hlen : ns.length ≤ n := by
    unfold OpenLaw.pre at hc
    have h4 : (WTm.not (.lt (.lit (.int (n : Int))) (.len (.arg 0)))).holds [] { args := [.list (ns.map .int)] } = true := by
      have h4 := (holds_andW hc).1
      rw [hn] at h4
      exact h4
    have h5 := condW_of h4 (w_not (w_lt w_lit (w_len_list (w_arg rfl))))
    rw [List.length_map] at h5
    refine Nat.le_of_not_lt fun q => ?_
    have q' : (n : Int) < ((ns.length : Nat) : Int) := by omega
    first
      | (rw [decide_eq_true q'] at h5; exact absurd h5 (by decide))
      | (simp at h5; omega)
  cases hwl with
  | cons w1 w2 =>
    cases w2
    cases w1 with
    | list ho hall => exact ⟨_, _, ns, rfl, rfl, ho, ints_of_wellAll ns _ hall, hlen⟩

theorem post_true (l : OpenLaw) (args : List WData) : l.row.toRowW.claim.post args (.bool true) args = true :=
  postW_of (r := l.row.toRowW) (X := (true == true))
    (show WShape.has [] (.bool true) .bool = true by first | rfl | decide | simp [WShape.has, WShape.arms, WShape.armsAll])
    (show (WTm.eq .res (.lit (.bool true))).value [] { args := args, res := some (.bool true), after := args } = some (.bool (true == true)) from w_eq_bool (w_res rfl) w_lit) rfl

/-- the same from a codeAny of the CALL (for a layer whose function contracts speak of calls) -/
theorem attach_call {l : OpenLaw} {n : Nat} {q : Program} {loose : List Str} {XP : (Str → Option Value) → Heap → Prop} {YP : World → Heap → Prop} {d : DefRec}
    (hn : l.most = some n) (hdf : d.params.defaults = [])
    (call : ∀ (w : World) (s₀ s₁ : Shared) (mg mb : Str → Option Value) (fa : Addr) (o : Obj) (pm cd doc : Value) (a : Addr) (vs : List Value) (ns : List Int),
      Ground q loose [] XP w s₀ mg mb s₁.heap → YP w s₁.heap →
      s₁.heap.get? fa = some o → o.data = .func (docDef d.name d.params d.body d.scope pm cd doc) → s₁.heap.CodeRec cd d.name → mg d.name = some (.ref fa) →
      s₁.heap.get? a = some { cls := .type "list", data := .seq vs.toArray } → IntsAre vs ns → ns.length ≤ n → s₁.gens = #[] →
      codeAny (model l.prog w) callerA (.call (.ref fa) ⟨[.ref a], []⟩) (fun r s' => r = .ok (.ret (.bool true)) ∧ OldK s₁.heap s'.heap ∧ s'.os = s₁.os ∧ AllBare s'.gens) s₁) :
    WalkO q loose XP YP l.row.toRowW d [] (fun f vs => PySem.call f vs) := by
  intro w s₀ s₁ mg mb G Y fa o pm cd doc dV kV ho hd hcd hD hmg hg args vals as hpre hlay hrd hwl hlo
  obtain rfl : dV = .none := Dflts.none hD hdf
  obtain rfl : kV = .none := Dflts.noKw hD
  obtain ⟨a, vs, ns, rfl, rfl, hobj, hints, hlen⟩ := script_of hn hpre hwl
  refine enter_call (codeAny_mono (call w s₀ s₁ mg mb fa o pm cd doc a vs ns G Y ho (fd_plain hd) hcd hmg hobj hints hlen hg) fun r s' hq => ?_)
  obtain ⟨rfl, h2, h3, h4⟩ := hq
  exact ⟨.inl ⟨.bool true, .bool true, [], rfl, fun _ => rfl, .bool true, post_true l _, fun _ => ⟨List.Pairwise.nil, fun _ hm => (nomatch hm)⟩⟩, h2, h3, h4⟩

section
variable {prog : Program} {w : World} {A : Around} {E : Value → Shared → Prop} {s : Shared} {K : Frag}

end
end Att

namespace L2
open PySem PySem.Spec PyProof.Rows

theorem vals_ints : ∀ {vs : List Value} {ns : List Int}, IntsAre vs ns → Vals (ns.map V.int) vs
  | _, _, .nil => .nil
  | _, _, .cons n t h => .cons ⟨t, rfl⟩ (vals_ints h)

/-- nothing is tracked but the script, known to the object (or it is an object of the module) -/
def Only (H : Hp) : Prop := ∀ b, H b = none ∨ ∃ o xs, H b = some (.frz o (.lst xs))

/-- THE HEAD: the law's promise, at the heap behind the top. F, the promise of the law's def, may use that base is part of the heap (so K.In base, base.Ns mainGlobals mg stand in Mod) -/
theorem law_call {P : Program} {w : World} {K : PySem.W.Frag} {mg mb : Str → Option Value} {CX : CXT} {k : Nat} {fa a : Addr} {fd : FuncData} {x : Str} {sp : Sp} {s₁ : Shared} {vs : List Value} {ns : List Int}
    (KX : K.In s₁.heap) (hns : s₁.heap.Ns mainGlobals mg) (hb : s₁.heap.Ns builtinsNs mb) (hbb : ∀ x : Str, x ≠ "__name__" → mb x = bootBuiltins x) (hlim : s₁.heap.NoLimit) (hg : s₁.gens = #[])
    (ha : s₁.heap.get? a = some { cls := .type "list", data := .seq vs.toArray }) (hi : IntsAre vs ns) (hl : ns.length ≤ sizeLine) (hr : Room k callerA)
    (F : ∀ base : Heap, K.In base → base.Ns mainGlobals mg → FnOk P w K mg base CX k fa fd [x] sp) (hbind : ∀ (s : Shared) (u : Value), BindsTo s fd ⟨[u], []⟩ [(x, u)])
    (hsp : ∀ H : Hp, Only H → SqL K H a (ns.map V.int) → sp [.ref a] H (fun v _ => v = .bl true) fun _ _ _ => False)
    (hCX : ∀ H e s', CX [] H s₁ (fun _ _ _ => False) e s' → False) :
    codeAny (model P w) callerA (.call (.ref fa) ⟨[.ref a], []⟩) (fun r s' => r = .ok (.ret (.bool true)) ∧ OldK s₁.heap s'.heap ∧ s'.os = s₁.os ∧ AllBare s'.gens) s₁ := by
  have rv := vals_ints hi
  have lenV := hi.length
  -- from an abstract heap in which nothing but the script may be tracked
  have core : ∀ H : Hp, Only H → SqL K H a (ns.map V.int) → HOk P w H s₁.heap → (∀ b, H b ≠ none → b = a) → (H a ≠ none → K.lookup a = none) →
      codeAny (model P w) callerA (.call (.ref fa) ⟨[.ref a], []⟩) (fun r s' => r = .ok (.ret (.bool true)) ∧ OldK s₁.heap s'.heap ∧ s'.os = s₁.os ∧ AllBare s'.gens) s₁ := by
    intro H hO hS hok hA hK
    have base_of : ∀ {b : Addr} {o : Obj}, s₁.heap.get? b = some o → H b = none → (hidT s₁.heap H).get? b = some o := fun e n => hidT_get e n
    have noA : ∀ {b : Addr} {o : Obj} {es : Array DictEntry} {ep : Nat}, s₁.heap.get? b = some o → o.data = .dict es ep → H b = none := fun {b o es ep} e d => by
      cases q : H b with
      | none => rfl
      | some u =>
        have e' : b = a := hA b (by rw [q]; simp)
        subst e'
        rw [ha] at e; cases e
        have d' : Data.seq vs.toArray _ = Data.dict es ep := d
        cases d'
    have nsK : ∀ {b : Addr} {m : Str → Option Value}, s₁.heap.Ns b m → (hidT s₁.heap H).Ns b m := fun {b m} ⟨o, es, ep, e, d, r⟩ => ⟨o, es, ep, base_of e (noA e d), d, r⟩
    have hKb : K.In (hidT s₁.heap H) := fun b o e => base_of (KX b o e) (by
      cases q : H b with
      | none => rfl
      | some u =>
        have e' : b = a := hA b (by rw [q]; simp)
        subst e'
        rw [hK (by rw [q]; simp)] at e; cases e)
    have hM : Mod K mg (hidT s₁.heap H) := ⟨hKb, nsK hns, ⟨mb, nsK hb, hbb⟩, let ⟨mc, h1, h2⟩ := hlim; ⟨mc, nsK h1, h2⟩⟩
    have e0 : Env0 P w K mg (hidT s₁.heap H) callerA [] s₁ H := ⟨rfl, hM, fun b o e => of_hidT e, Nat.le_of_eq (hidT_size _ _), trivial, fun b hb => absurd (show b ∈ ([] : List Addr) from hb) (by simp), hok, .of_eq hg⟩
    refine codeAny_mono ((F _ hKb (nsK hns)).run callerA [] s₁ H ⟨[.ref a], []⟩ [.ref a] [.ref a] _ _ hr e0 (hbind s₁ (.ref a)) (.cons rfl .nil) (hsp H hO hS)) fun r s' h => ?_
    cases r with
    | error e => exact (hCX H e s' h).elim
    | ok fl =>
      cases fl with
      | next => exact False.elim h
      | brk => exact False.elim h
      | cont => exact False.elim h
      | ret u =>
        obtain ⟨v, H', os, bare, un, hok', r', q⟩ := h
        have q' : v = .bl true := q
        subst q'
        obtain rfl : u = Value.bool true := r'
        refine ⟨rfl, OldK.of_keep fun b o e => ?_, os, bare⟩
        cases q : H b with
        | none => exact un.keep b o e q (by intro z; exact absurd (show b ∈ ([] : List Addr) from z) (by simp)) (by simp)
        | some u =>
          rcases hO b with z | ⟨ob, xs, z⟩
          · rw [q] at z; cases z
          · have z2 := un.frzs b ob _ z
            obtain ⟨e1, _⟩ := hok b _ z
            obtain ⟨e2, _⟩ := hok' b _ z2
            rw [e] at e1; cases e1
            exact e2
  cases hk : K.lookup a with
  | some o =>
    -- the script is one of the module's own objects
    have e := KX a o hk
    rw [ha] at e
    cases e
    refine core (fun _ => none) (fun _ => .inl rfl) (.inr ⟨_, vs.toArray, _, hk, rfl, rfl, rfl, by rw [List.size_toArray, lenV]; exact hl, by simpa using rv⟩) (fun b u z => by have z' : (none : Option HO) = some u := z; cases z') (fun b z => absurd rfl z) fun z => absurd rfl z
  | none =>
    refine core (fun b => if b = a then some (.frz { cls := .type "list", data := .seq vs.toArray } (.lst (ns.map V.int))) else none) (fun b => ?_) (.inl (.inr ⟨{ cls := .type "list", data := .seq vs.toArray }, if_pos rfl⟩)) (fun b u z => ?_) (fun b z => ?_) fun _ => hk
    · by_cases hb : b = a
      · exact .inr ⟨_, _, if_pos hb⟩
      · exact .inl (if_neg hb)
    · by_cases hb : b = a
      · have z' := (if_pos hb).symm.trans z
        cases z'
        subst hb
        exact ⟨ha, by rw [List.length_map]; exact hl, vs, _, rv, ha⟩
      · have z' := (if_neg hb).symm.trans z
        cases z'
    · by_cases hb : b = a
      · exact hb
      · exact absurd (if_neg hb) z
end L2

namespace L2
open PySem PySem.Spec PyProof.Rows

/-- the goal that k_head leaves (case hc), from the law's promise. F gives the function object fd (K's own) once, then the promise over every base -/
theorem walk_of {l : PySem.W.OpenLaw} {n k : Nat} {q : Program} {loose : List Str} {XP : (Str → Option Value) → Heap → Prop} {YP : World → Heap → Prop} {d : DefRec} {K : Params → PySem.W.Frag} {CX : World → CXT} {sp : World → Sp} {x : Str}
    (hn : l.most = some n) (hn2 : n ≤ sizeLine) (hdf : d.params.defaults = []) (hr : Room k callerA)
    (hY : ∀ (w : World) (h : Heap), YP w h → (K w.params).In h)
    (F : ∀ (w : World) (mg : Str → Option Value) (fa : Addr) (h : Heap), (K w.params).In h → h.Ns mainGlobals mg → mg d.name = some (.ref fa) →
      ∃ fd : FuncData, (∀ (s : Shared) (u : Value), BindsTo s fd ⟨[u], []⟩ [(x, u)]) ∧
        ∀ base : Heap, (K w.params).In base → base.Ns mainGlobals mg → FnOk l.prog w (K w.params) mg base (CX w) k fa fd [x] (sp w))
    (hsp : ∀ (w : World) (H : Hp) (a : Addr) (ns : List Int), ns.length ≤ n → Only H → SqL (K w.params) H a (ns.map V.int) → sp w [.ref a] H (fun v _ => v = .bl true) fun _ _ _ => False)
    (hCX : ∀ (w : World) (H : Hp) (s : Shared) (e : Value) (s' : Shared), CX w [] H s (fun _ _ _ => False) e s' → False) :
    PySem.W.WalkO q loose XP YP l.row.toRowW d [] (fun f vs => PySem.call f vs) := by
  refine Att.attach_call hn hdf fun w s₀ s₁ mg mb fa o pm cd doc a vs ns G Y ho hd hcd hmg hobj hints hlen hg => ?_
  have KX := hY w _ Y
  obtain ⟨fd, hb, hF⟩ := F w mg fa _ KX G.T.g hmg
  exact law_call KX G.T.g G.T.b G.T.builtins G.T.nolimit hg hobj hints (Nat.le_trans hlen hn2) hr hF hb (fun H hO hS => hsp w H a ns hlen hO hS) fun H e s' => hCX w H s₁ e s'
end L2

namespace L2
open PySem PySem.Spec PyProof.Rows

def defArgs (s : Stmt) : Arguments := match s with
  | .FunctionDef _ a _ _ _ _ _ _ _ _ => a
  | _ => { posonlyargs := [], args := [], vararg := none, kwonlyargs := [], kw_defaults := [], kwarg := none, defaults := [] }
def defBody (s : Stmt) : List Stmt := match s with
  | .FunctionDef _ _ b _ _ _ _ _ _ _ => b
  | _ => []
def defScope (s : Stmt) : Scope := match s with
  | .FunctionDef _ _ _ _ _ _ sc _ _ _ => sc
  | _ => { kind := .function, names := [], isGenerator := false, isCoroutine := false }

abbrev CX0 : CXT := fun _ _ _ _ _ _ => False
abbrev E0 : XK := fun _ _ _ => False
theorem pass0 {X : Cx} : Passes CX0 X E0 := fun _ _ _ _ _ _ _ h => h.elim

structure Fun (K : PySem.W.Frag) (x qual : Str) (st : Stmt) (f : Addr) (fd : FuncData) : Prop where
  ex : ∃ (oc : Value) (od : Option Addr) (kV doc pm : Value) (an : Option Addr) (cdv ct : Value) (osl : Array (Option Value)),
    fd = PySem.W.fnOf x qual (defArgs st) (defBody st) (defScope st) .none kV doc pm an cdv ct ∧ K.lookup f = some ⟨oc, od, .func fd, osl⟩ ∧ PySem.W.codeIn K cdv qual = true
  kp : PySem.W.keepIn K (.ref f) = true
section
variable {P : Program} {w : World} {K : PySem.W.Frag} {mg : Str → Option Value} {base : Heap}
/-- THE RULE for a def: its body as a term of rules, and the reading of that term -/
theorem Fun.ok {x qual : Str} {st : Stmt} {f : Addr} {fd : FuncData} {N ps : List Str} {k : Nat} {sp : Sp} (F : Fun K x qual st f fd) (S : FnScope N ps (defScope st)) (len : ∀ vs H Q E, sp vs H Q E → vs.length = ps.length)
    (hbody : ∀ (cdv : Value) (A : Around) (outer : List Env) (s : Shared) (H : Hp) (vs : List V) (Q : VK) (E : XK), Room k (A.deeper (envOfC qual (defScope st) s.heap.objs.size f cdv)) → sp vs H Q E →
      ∃ t, PSs (cxOf CX0 P w K mg base N qual (defScope st) f cdv A outer s H E).nox (defBody st) t ∧ t { nx := fun _ H' => Q .non H', rt := Q } (start N vs) H) : FnOk P w K mg base CX0 (k + 1) f fd ps sp := by
  obtain ⟨oc, od, kV, doc, pm, an, cdv, ct, osl, rfl, lk, hcd⟩ := F.ex
  refine fn_of lk hcd S len fun A outer s H vs Q E hr hsp => ?_
  obtain ⟨t, h, q⟩ := hbody cdv A outer s H vs Q E hr hsp
  exact ⟨t, h.nox, q⟩
/-- how its arguments bind (no defaults): h is «fun _ _ _ _ _ _ us hl => match us, hl with | [_, _], _ => rfl», one _ a parameter -/
theorem Fun.binds {x qual : Str} {st : Stmt} {f : Addr} {fd : FuncData} {ps : List Str} (F : Fun K x qual st f fd)
    (h : ∀ (kV doc pm : Value) (an : Option Addr) (cdv ct : Value) (us : List Value), us.length = ps.length → bindArgs (PySem.W.fnOf x qual (defArgs st) (defBody st) (defScope st) .none kV doc pm an cdv ct) ⟨us, []⟩ = pure (ps.zip us)) : Binds K fd ps [] := by
  obtain ⟨oc, od, kV, doc, pm, an, cdv, ct, osl, rfl, lk, hcd⟩ := F.ex
  exact .all (h kV doc pm an cdv ct)
theorem fun_mk {x qual : Str} {st : Stmt} {f : Addr} {oc : Value} {od an : Option Addr} {osl : Array (Option Value)} {kV doc pm cdv ct : Value} (l : K.lookup f = some ⟨oc, od, .func (PySem.W.fnOf x qual (defArgs st) (defBody st) (defScope st) .none kV doc pm an cdv ct), osl⟩)
    (c : PySem.W.codeIn K cdv qual = true) (k : PySem.W.keepIn K (.ref f) = true) : Fun K x qual st f (PySem.W.fnOf x qual (defArgs st) (defBody st) (defScope st) .none kV doc pm an cdv ct) := ⟨⟨oc, od, kV, doc, pm, an, cdv, ct, osl, rfl, l, c⟩, k⟩
end
section
variable {X : Cx}
end

/-- all that was tracked is as it was -/
def Same (H H' : Hp) : Prop := ∀ b o, H b = some o → H' b = some o
theorem Same.refl (H : Hp) : Same H H := fun _ _ h => h
theorem Same.trans {H H1 H2 : Hp} (a : Same H H1) (b : Same H1 H2) : Same H H2 := fun c o h => b c o (a c o h)
theorem Same.free {H H' : Hp} (e : Same H H') {l : Addr} (h : H' l = Option.none) : H l = Option.none := by
  cases q : H l with
  | none => rfl
  | some o =>
    rw [e l o q] at h
    cases h
section
variable {X : Cx}
end
section
variable {κ : Type} [DecidableEq κ]
end
end L2
end

section
set_option autoImplicit false
set_option linter.all false
namespace TS
open PySem PyProof.Rows

end TS
end

section
set_option autoImplicit false
set_option linter.all false
namespace TS
open PySem PyProof.Rows
section
variable {prog : Program} {w : World} {A : Around} {E : Value → Shared → Prop} {s : Shared}

end
end TS
end

section
set_option autoImplicit false
set_option linter.all false
namespace TS
open PySem PyProof.Rows

section
variable {prog : Program} {w : World} {A : Around} {E : Value → Shared → Prop} {s : Shared} {kd : SortKind} {U : Keyed → Prop} {blt : Keyed → Keyed → Bool}
end

section
variable (blt : Keyed → Keyed → Bool)
variable {blt}
variable {a b out : Array Keyed} {ia ib : Nat}
end
end TS
end

section
set_option autoImplicit false
set_option linter.all false
set_option maxHeartbeats 1000000
namespace TS
open PySem PyProof.Rows
section
variable {prog : Program} {w : World} {A : Around} {E : Value → Shared → Prop} {s : Shared} {kd : SortKind} {U : Keyed → Prop} {blt : Keyed → Keyed → Bool}
end
end TS
end

section
set_option autoImplicit false
set_option linter.all false
set_option maxHeartbeats 1000000
namespace TS
open PySem PyProof.Rows
section
variable {blt : Keyed → Keyed → Bool}
variable {a b out : Array Keyed} {na nb : Nat}
variable {U : Keyed → Prop}
end
section
variable {prog : Program} {w : World} {A : Around} {E : Value → Shared → Prop} {s : Shared} {kd : SortKind} {U : Keyed → Prop} {blt : Keyed → Keyed → Bool}
end
end TS
end

section
set_option autoImplicit false
set_option linter.all false
set_option maxHeartbeats 1000000
namespace TS
open PySem PyProof.Rows
section
variable {blt : Keyed → Keyed → Bool} {U : Keyed → Prop}
end
section
variable {prog : Program} {w : World} {A : Around} {E : Value → Shared → Prop} {s : Shared} {kd : SortKind} {U : Keyed → Prop} {blt : Keyed → Keyed → Bool}
end
end TS
end

section
set_option autoImplicit false
set_option linter.all false
set_option maxHeartbeats 1000000
namespace TS
open PySem PyProof.Rows
section
variable {blt : Keyed → Keyed → Bool} {U : Keyed → Prop}
end
section
variable {prog : Program} {w : World} {A : Around} {E : Value → Shared → Prop} {s : Shared} {kd : SortKind} {U : Keyed → Prop} {blt : Keyed → Keyed → Bool}
end
end TS
end

section
set_option autoImplicit false
set_option linter.all false
set_option maxHeartbeats 1000000
namespace TS
open PySem PyProof.Rows
section
variable {blt : Keyed → Keyed → Bool} {U : Keyed → Prop}
end
section
variable {prog : Program} {w : World} {A : Around} {E : Value → Shared → Prop} {s : Shared} {kd : SortKind} {U : Keyed → Prop} {blt : Keyed → Keyed → Bool}
end

section
variable {blt : Keyed → Keyed → Bool} {U : Keyed → Prop}
end
end TS
end

section
set_option autoImplicit false
set_option linter.all false
set_option maxHeartbeats 1000000
namespace TS
open PySem PyProof.Rows
section
variable {prog : Program} {w : World} {A : Around} {E : Value → Shared → Prop} {s : Shared} {kd : SortKind} {U : Keyed → Prop} {blt : Keyed → Keyed → Bool}
end
end TS
end

section
set_option linter.all false
namespace Mi
open PySem

/-- data: what a Python value tells, without addresses -/
inductive D where
  | undef | non | bl (b : Bool) | int (i : Int) | str (x : Str)
  | tup (xs : List D) | lst (xs : List D) | dct (kvs : List (D × D)) | scr (xs : List D)
  deriving Inhabited

mutual
/-- nothing in it can be changed -/
def D.pure : D → Bool
  | .tup xs => D.pures xs
  | .lst _ => false
  | .dct _ => false
  | .undef => false
  | .scr _ => false
  | _ => true
def D.pures : List D → Bool
  | [] => true
  | x :: xs => x.pure && D.pures xs
end

mutual
/-- Python's == (no dicts) -/
def eqD : D → D → Bool
  | .non, .non => true
  | .bl a, .bl b => a == b
  | .int a, .int b => a == b
  | .bl a, .int b => (if a then (1 : Int) else 0) == b
  | .int a, .bl b => a == (if b then (1 : Int) else 0)
  | .str a, .str b => a == b
  | .tup xs, .tup ys => eqDs xs ys
  | .lst xs, .lst ys => eqDs xs ys
  | _, _ => false
def eqDs : List D → List D → Bool
  | [], [] => true
  | x :: xs, y :: ys => eqD x y && eqDs xs ys
  | _, _ => false
end

mutual
/-- == can be asked of it: no dict, no more than n deep -/
def D.eqok : Nat → D → Bool
  | n + 1, .tup xs => D.eqoks n xs
  | n + 1, .lst xs => D.eqoks n xs
  | 0, .tup _ => false
  | 0, .lst _ => false
  | _, .dct _ => false
  | _, .undef => false
  | _, .scr _ => false
  | _, _ => true
def D.eqoks : Nat → List D → Bool
  | _, [] => true
  | n, x :: xs => D.eqok n x && D.eqoks n xs
end

inductive Ordr where | lt | le | gt | ge
  deriving DecidableEq
def Ordr.int : Ordr → Int → Int → Bool
  | .lt, a, b => decide (a < b) | .le, a, b => decide (a ≤ b) | .gt, a, b => decide (b < a) | .ge, a, b => decide (b ≤ a)
def Ordr.nat : Ordr → Nat → Nat → Bool
  | .lt, a, b => decide (a < b) | .le, a, b => decide (a ≤ b) | .gt, a, b => decide (b < a) | .ge, a, b => decide (b ≤ a)

/-- texts in order, by their signs -/
def strLt (a b : Str) : Bool := decide (a.cps.toList < b.cps.toList)
def Ordr.str : Ordr → Str → Str → Bool
  | .lt, a, b => strLt a b | .le, a, b => !strLt b a | .gt, a, b => strLt b a | .ge, a, b => !strLt a b

mutual
/-- <, <=, >, >= of ints, texts and tuples of these -/
def ordD (o : Ordr) : D → D → Option Bool
  | .int a, .int b => some (o.int a b)
  | .str a, .str b => some (o.str a b)
  | .tup xs, .tup ys => ordDs o xs ys
  | _, _ => none
def ordDs (o : Ordr) : List D → List D → Option Bool
  | [], ys => some (o.nat 0 ys.length)
  | x :: xs, [] => some (o.nat (x :: xs).length 0)
  | x :: xs, y :: ys => if eqD x y then ordDs o xs ys else ordD o x y
end

/-- what a reckoning comes to: a value, an error (its class, what it was made of), or nothing that is told of -/
inductive Res (α : Type) where
  | ok (a : α) | err (c : Str) (as : List D) | bad

def Res.bind {α β : Type} : Res α → (α → Res β) → Res β
  | .ok a, f => f a
  | .err c as, _ => .err c as
  | .bad, _ => .bad
instance : Monad Res where
  pure := .ok
  bind := Res.bind
@[simp] theorem Res.ok_bind {α β : Type} (a : α) (f : α → Res β) : ((Res.ok a) >>= f) = f a := rfl
theorem Res.bind_ok {α β : Type} {m : Res α} {f : α → Res β} {b : β} (h : (m >>= f) = .ok b) : ∃ a, m = .ok a ∧ f a = .ok b := by
  cases m with
  | ok a => exact ⟨a, rfl, h⟩
  | err c as => cases h
  | bad => cases h
def Res.ofOpt {α : Type} : Option α → Res α
  | some a => .ok a
  | none => .bad
theorem Res.ofOpt_ok {α : Type} {o : Option α} {a : α} (h : Res.ofOpt o = .ok a) : o = some a := by
  cases o with
  | none => cases h
  | some b => cases h; rfl

/-- sizes stay below this -/
def lim : Nat := 1000000

inductive Bop where | add | sub | mul | fdiv | mod | pow
  deriving DecidableEq
inductive Cop where | eq | ne | ord (o : Ordr) | isin | notin | isN | notN
  deriving DecidableEq

def smallB (i : Int) : Bool := decide (-(2 ^ 64) < i) && decide (i < 2 ^ 64)

def binD : Bop → D → D → Res D
  | .add, .int a, .int b => .ok (.int (a + b))
  | .sub, .int a, .int b => .ok (.int (a - b))
  | .mul, .int a, .int b => if smallB a || smallB b then .ok (.int (a * b)) else .bad
  | .fdiv, .int a, .int b => if decide (0 < b) && decide (b < 1073741824) then .ok (.int (a / b)) else .bad
  | .mod, .int a, .int b => if decide (0 < b) then .ok (.int (a % b)) else .bad
  | .pow, .int a, .int b => if decide (0 ≤ b) && decide (b ≤ 1000000) && decide (a.natAbs < 2 ^ 64) then .ok (.int (a ^ b.toNat)) else .bad
  | .add, .str a, .str b => if decide (a.length + b.length ≤ lim) then .ok (.str (a ++ b)) else .bad
  | .add, .lst a, .lst b => if decide (a.length + b.length ≤ lim) && D.pures a && D.pures b then .ok (.lst (a ++ b)) else .bad
  | _, _, _ => .bad

def truD : D → Res Bool
  | .non => .ok false
  | .bl b => .ok b
  | .int i => .ok (i != 0)
  | .str x => if decide (x.length ≤ lim) then .ok ((x.length : Int) != 0) else .bad
  | .tup xs => .ok (!xs.isEmpty)
  | .lst xs => .ok (!xs.isEmpty)
  | .dct kvs => .ok (!kvs.isEmpty)
  | .undef => .bad
  | .scr xs => .ok (!xs.isEmpty)

/-- a dict's key: an int, a text, or a tuple of these -/
def flatKey : D → Bool
  | .int _ => true
  | .str _ => true
  | _ => false
def keyOk : D → Bool
  | .int _ => true
  | .str _ => true
  | .tup xs => xs.all flatKey
  | _ => false
/-- keys of one sort: all tuples, or none -/
def isTup : D → Bool
  | .tup _ => true
  | _ => false

def lookD : List (D × D) → D → Option D
  | [], _ => none
  | (k, v) :: r, q => if eqD k q then some v else lookD r q
/-- a key that may be asked for -/
def fitK (kvs : List (D × D)) (k : D) : Bool := keyOk k && kvs.all (fun p => isTup p.1 == isTup k)
def eqdepth : Nat := 12
def cmpD : Cop → D → D → Res D
  | .eq, a, b => if a.eqok eqdepth && b.eqok eqdepth then .ok (.bl (eqD a b)) else .bad
  | .ne, a, b => if a.eqok eqdepth && b.eqok eqdepth then .ok (.bl (!eqD a b)) else .bad
  | .ord o, a, b => if a.eqok eqdepth && b.eqok eqdepth then (match ordD o a b with | some k => .ok (.bl k) | none => .bad) else .bad
  | .isin, a, .tup ys => if a.eqok eqdepth && D.eqoks eqdepth ys then .ok (.bl (ys.any fun y => eqD y a)) else .bad
  | .isin, a, .lst ys => if a.eqok eqdepth && D.eqoks eqdepth ys then .ok (.bl (ys.any fun y => eqD y a)) else .bad
  | .isin, a, .dct kvs => if fitK kvs a then .ok (.bl (lookD kvs a).isSome) else .bad
  | .notin, a, .tup ys => if a.eqok eqdepth && D.eqoks eqdepth ys then .ok (.bl (!(ys.any fun y => eqD y a))) else .bad
  | .notin, a, .lst ys => if a.eqok eqdepth && D.eqoks eqdepth ys then .ok (.bl (!(ys.any fun y => eqD y a))) else .bad
  | .notin, a, .dct kvs => if fitK kvs a then .ok (.bl (!(lookD kvs a).isSome)) else .bad
  | .isN, .scr _, .non => .bad
  | .notN, .scr _, .non => .bad
  | .isN, .non, .non => .ok (.bl true)
  | .isN, a, .non => .ok (.bl false)
  | .notN, .non, .non => .ok (.bl false)
  | .notN, a, .non => .ok (.bl true)
  | _, _, _ => .bad

/-- the place that an index means -/
def ixD (n : Nat) (i : Int) : Option Nat := if 0 ≤ i then (if i < n then some i.toNat else none) else if -(n : Int) ≤ i then some (i + n).toNat else none
def getD (d i : D) : Res D :=
  match d, i with
  | .tup xs, .int i => Res.ofOpt ((ixD xs.length i).bind fun j => xs[j]?)
  | .lst xs, .int i => Res.ofOpt ((ixD xs.length i).bind fun j => xs[j]?)
  | .scr xs, .int i => Res.ofOpt ((ixD xs.length i).bind fun j => xs[j]?)
  | .str x, .int i => if decide (x.length ≤ lim) then Res.ofOpt (((ixD x.cps.toList.length i).bind fun j => x.cps.toList[j]?).map fun c => D.str ⟨#[c]⟩) else .bad
  | .dct kvs, k => if keyOk k then Res.ofOpt (lookD kvs k) else .bad
  | _, _ => .bad

def sIxD (n d : Nat) : Option Int → Nat
  | none => d
  | some v => if v < 0 then (max (v + (n : Int)) 0).toNat else (min v (n : Int)).toNat
def cutD {α : Type} (xs : List α) (lo hi : Option Int) : List α := (xs.drop (sIxD xs.length 0 lo)).take (sIxD xs.length xs.length hi - sIxD xs.length 0 lo)
inductive Ty where | int | str | bool | list | tuple | dict
  deriving DecidableEq
def isTy : Ty → D → Res Bool
  | _, .undef => .bad
  | _, .scr _ => .bad
  | .int, .int _ => .ok true
  | .int, .bl _ => .ok true
  | .bool, .bl _ => .ok true
  | .str, .str _ => .ok true
  | .tuple, .tup _ => .ok true
  | .list, .lst _ => .ok true
  | .dict, .dct _ => .ok true
  | _, _ => .ok false

def bound62 (i : Int) : Bool := decide (-(2 ^ 62) ≤ i) && decide (i < 2 ^ 62)


def asB : D → Res Bool
  | .bl b => .ok b
  | _ => .bad
def asI : D → Res Int
  | .int i => .ok i
  | _ => .bad


inductive Fl where
  | nx (ρ : List D) | rt (d : D) | bk (ρ : List D) | ct (ρ : List D)


def endD : Fl → Res D
  | .rt d => .ok d
  | .nx _ => .ok .non
  | _ => .bad
abbrev FE := List D → Res D
abbrev FT := List D → Res Bool
abbrev FA := List D → Res (List D)
def bVar (i : Nat) : FE := fun ρ => match ρ.getD i .undef with | .undef => .bad | d => .ok d
def bC (d : D) : FE := fun _ => .ok d
def b2 (f : D → D → Res D) (a b : FE) : FE := fun ρ => do let x ← a ρ; let y ← b ρ; f x y
def b1 (f : D → Res D) (a : FE) : FE := fun ρ => do let x ← a ρ; f x
def bTB (a : FE) : FT := fun ρ => do let x ← a ρ; asB x
def bNot (a : FT) : FT := fun ρ => do let x ← a ρ; pure (!x)
def bAnd (a b : FT) : FT := fun ρ => do let x ← a ρ; if x then b ρ else pure false
def bOr (a b : FT) : FT := fun ρ => do let x ← a ρ; if x then pure true else b ρ
def bAndV (a b : FE) : FE := fun ρ => do let x ← a ρ; let k ← asB x; if k then b ρ else pure (.bl false)
def bCh (f g : D → D → Res D) (a b c : FE) : FE := fun ρ => do let x ← a ρ; let y ← b ρ; let z ← f x y; let k ← asB z; if k then (do let u ← c ρ; g y u) else pure (.bl false)
def bNil : FA := fun _ => .ok []
def bCons (a : FE) (b : FA) : FA := fun ρ => do let x ← a ρ; let xs ← b ρ; pure (x :: xs)
def bLst (a : FA) : FE := fun ρ => do let xs ← a ρ; if decide (xs.length ≤ lim) then pure (.lst xs) else .bad
def bCall (f : List D → Res D) (a : FA) : FE := fun ρ => do let xs ← a ρ; f xs
def bM (f : D → List D → Res D) (o : FE) (a : FA) : FE := fun ρ => do let x ← o ρ; let xs ← a ρ; f x xs
def bSome (a : FE) : List D → Res (Option Int) := fun ρ => do let x ← a ρ; let i ← asI x; pure (some i)
def bNone : List D → Res (Option Int) := fun _ => .ok none
def truN : D → Res Bool
  | .dct _ => .bad
  | .scr _ => .bad
  | d => truD d
def bTr (a : FE) : FT := fun ρ => do let x ← a ρ; truN x
def slcD : D → Option Int → Option Int → Res D
  | .lst xs, lo, hi => if D.pures xs then .ok (.lst (cutD xs lo hi)) else .bad
  | .scr xs, lo, hi => if D.pures xs then .ok (.lst (cutD xs lo hi)) else .bad
  | .tup xs, lo, hi => if !D.pures xs || decide (sIxD xs.length 0 lo = 0 ∧ sIxD xs.length xs.length hi = xs.length) then .bad else .ok (.tup (cutD xs lo hi))
  | _, _, _ => .bad
def lenD : List D → Res D
  | [.tup xs] => .ok (.int xs.length)
  | [.lst xs] => .ok (.int xs.length)
  | [.scr xs] => .ok (.int xs.length)
  | [.str x] => if decide (x.length ≤ lim) then .ok (.int x.length) else .bad
  | _ => .bad
def Ty.nm : Ty → String
  | .int => "int" | .str => "str" | .bool => "bool" | .list => "list" | .tuple => "tuple" | .dict => "dict"
def isTyD (t : Ty) (d : D) : Res D := do let k ← isTy t d; pure (.bl k)
def argN (n : Nat) (f : List D → Res D) : List D → Res D := fun ds => if decide (ds.length = n) then f ds else .bad
abbrev FI := List D → Res (List D × Bool)
def itemsD : D → Res (List D)
  | .lst xs => .ok xs
  | .tup xs => .ok xs
  | _ => .bad
def rng1D : List D → Res (List D × Bool)
  | [.int n] => if bound62 n then .ok ((List.range n.toNat).map fun (k : Nat) => D.int (0 + (k : Int)), true) else .bad
  | _ => .bad
def bThen (f : FA) (g : List D → Res (List D × Bool)) : FI := fun ρ => do let xs ← f ρ; g xs
def padD (n : Nat) (ρ : List D) : List D := (List.range n).map fun i => ρ.getD i .undef
def oneT : D → Res (List D) := fun d => .ok [d]
def cstep (n : Nat) (t : D → Res (List D)) (c : FT) (f : FE) (k : Bool) (ρ : List D) (acc : List D) (x : D) : Res (List D) := do
  let bs ← t x
  let ok ← c (padD n ρ ++ bs)
  if ok then (do
    let y ← f (padD n ρ ++ bs)
    if k || y.pure then pure (acc ++ [y]) else .bad)
  else pure acc
def cfold (g : List D → D → Res (List D)) : List D → List D → Res (List D)
  | acc, [] => .ok acc
  | acc, x :: xs => do let a ← g acc x; cfold g a xs
def bComp (n : Nat) (it : FI) (t : D → Res (List D)) (c : FT) (f : FE) (k : Bool) : FE := fun ρ => do
  let xs ← it ρ
  if decide (xs.1.length ≤ lim) then (do
    let ys ← cfold (cstep n t c f k ρ) [] xs.1
    pure (.lst ys)) else .bad
def bTrue : FT := fun _ => .ok true
abbrev FS := List D → Res Fl
def inner : D → Bool
  | .lst xs => D.pures xs
  | .dct kvs => D.pures (kvs.map (·.2))
  | _ => false
def sNil : FS := fun ρ => .ok (.nx ρ)
def sSeq (f g : FS) : FS := fun ρ => do
  let r ← f ρ
  match r with
  | .nx ρ' => g ρ'
  | r => .ok r
def sSet (o : Bool) (i : Nat) (f : FE) (k : Bool) : FS := fun ρ => do
  let d ← f ρ
  if (if o then k && inner d else k || d.pure) then .ok (.nx (ρ.set i d)) else .bad
def sIf (c : FT) (f g : FS) : FS := fun ρ => do
  let k ← c ρ
  if k then f ρ else g ρ
def sRet (f : FE) (k : Bool) : FS := fun ρ => do
  let d ← f ρ
  if k || d.pure then .ok (.rt d) else .bad
def setsD : List Nat → List D → List D → List D
  | i :: is, d :: ds, ρ => setsD is ds (ρ.set i d)
  | _, _, ρ => ρ
def tgN (is : List Nat) : D → List D → Res (List D)
  | .tup ds, ρ => if decide (ds.length = is.length) then .ok (setsD is ds ρ) else .bad
  | _, _ => .bad
def forS (t : D → List D → Res (List D)) (body : FS) : List D → List D → Res Fl
  | [], ρ => .ok (.nx ρ)
  | x :: xs, ρ => do
    let ρ1 ← t x ρ
    let r ← body ρ1
    match r with
    | .nx ρ' => forS t body xs ρ'
    | .ct ρ' => forS t body xs ρ'
    | .bk ρ' => .ok (.nx ρ')
    | .rt d => .ok (.rt d)
def sFor (it : FI) (t : D → List D → Res (List D)) (body : FS) : FS := fun ρ => do
  let xs ← it ρ
  if xs.2 then forS t body xs.1 ρ else .bad
def fnS (n m : Nat) (f : FS) : List D → Res D := fun ds => do
  let r ← f (ds ++ List.replicate (m - n) .undef)
  endD r
end Mi
end

section
set_option autoImplicit false
set_option linter.all false
namespace Mi
open PySem
end Mi
end

section
set_option autoImplicit false
set_option linter.all false
set_option maxRecDepth 100000
namespace Mi
open PySem L2
/-- the module's own objects -/
class KFrag where
  K : PySem.W.Frag
variable [KFrag]
/-- the script: known to the object, or one of the module's own -/
def ScrAt (H : Hp) (a : Addr) (xs : List V) : Prop := (∃ o, H a = some (.frz o (.lst xs))) ∨
  ∃ (o : Obj) (its : Array Value) (n : Nat), KFrag.K.lookup a = some o ∧ o.cls = .type "list" ∧ o.dict = none ∧ o.data = .seq its n ∧ its.size ≤ sizeLine ∧ Vals xs its.toList
theorem ScrAt.sq {H : Hp} {a : Addr} {xs : List V} {K : PySem.W.Frag} (h : ScrAt H a xs) (hK : KFrag.K = K) : SqL K H a xs := by
  subst hK
  rcases h with ⟨o, h⟩ | h
  · exact .inl (.inr ⟨o, h⟩)
  · exact .inr h

def kD : Key → D
  | .inl i => .int i
  | .inr x => .str x

/-- what may change -/
def mutO : HO → Bool
  | .lst _ => true
  | .dK _ => true
  | .dT _ => true
  | _ => false

mutual
/-- v is the data d in the heap H; every list and dict of it stands where P holds -/
inductive Rep (P : Addr → Prop) (H : Hp) : V → D → Prop
  | non : Rep P H .non .non
  | bl (b : Bool) : Rep P H (.bl b) (.bl b)
  | int (i : Int) : Rep P H (.int i) (.int i)
  | str (x : Str) : Rep P H (.str x) (.str x)
  | tup {a : Addr} {xs : List V} {ds : List D} : H a = some (.tup xs) → Reps P H xs ds → Rep P H (.ref a) (.tup ds)
  | lst {a : Addr} {xs : List V} {ds : List D} : H a = some (.lst xs) → P a → Reps P H xs ds → Rep P H (.ref a) (.lst ds)
  | frz {a : Addr} {xs : List V} {ds : List D} : ScrAt H a xs → Reps P H xs ds → Rep P H (.ref a) (.scr ds)
  | dK {a : Addr} {kvs : List (Key × V)} {ds : List (D × D)} : H a = some (.dK kvs) → P a → RepK P H kvs ds → (kvs.map (·.1)).Nodup → Rep P H (.ref a) (.dct ds)
  | dT {a : Addr} {kvs : List (List Key × V)} {ds : List (D × D)} : H a = some (.dT kvs) → P a → RepT P H kvs ds → (kvs.map (·.1)).Nodup → Rep P H (.ref a) (.dct ds)
inductive Reps (P : Addr → Prop) (H : Hp) : List V → List D → Prop
  | nil : Reps P H [] []
  | cons {v : V} {d : D} {vs : List V} {ds : List D} : Rep P H v d → Reps P H vs ds → Reps P H (v :: vs) (d :: ds)
inductive RepK (P : Addr → Prop) (H : Hp) : List (Key × V) → List (D × D) → Prop
  | nil : RepK P H [] []
  | cons {k : Key} {v : V} {d : D} {r : List (Key × V)} {ds : List (D × D)} : Rep P H v d → RepK P H r ds → RepK P H ((k, v) :: r) ((kD k, d) :: ds)
inductive RepT (P : Addr → Prop) (H : Hp) : List (List Key × V) → List (D × D) → Prop
  | nil : RepT P H [] []
  | cons {k : List Key} {v : V} {d : D} {r : List (List Key × V)} {ds : List (D × D)} : Rep P H v d → RepT P H r ds → RepT P H ((k, v) :: r) ((.tup (k.map kD), d) :: ds)
end

/-- what stood where P holds, and what never changes, stands still -/
def Keep (P : Addr → Prop) (H H' : Hp) : Prop := ∀ a o, H a = some o → (P a ∨ mutO o = false) → H' a = some o
theorem Keep.same {P : Addr → Prop} {H H' : Hp} (h : Same H H') : Keep P H H' := fun a o e _ => h a o e

mutual
theorem Rep.keep {P P' : Addr → Prop} {H H' : Hp} (k : Keep P H H') (m : ∀ a, P a → P' a) : ∀ {v : V} {d : D}, Rep P H v d → Rep P' H' v d
  | _, _, .non => .non
  | _, _, .bl b => .bl b
  | _, _, .int i => .int i
  | _, _, .str x => .str x
  | _, _, .tup e r => .tup (k _ _ e (.inr rfl)) (Reps.keep k m r)
  | _, _, .lst e p r => .lst (k _ _ e (.inl p)) (m _ p) (Reps.keep k m r)
  | _, _, .frz e r => .frz (e.imp (fun ⟨o, e⟩ => ⟨o, k _ _ e (.inr rfl)⟩) id) (Reps.keep k m r)
  | _, _, .dK e p r n => .dK (k _ _ e (.inl p)) (m _ p) (RepK.keep k m r) n
  | _, _, .dT e p r n => .dT (k _ _ e (.inl p)) (m _ p) (RepT.keep k m r) n
theorem Reps.keep {P P' : Addr → Prop} {H H' : Hp} (k : Keep P H H') (m : ∀ a, P a → P' a) : ∀ {v : List V} {d : List D}, Reps P H v d → Reps P' H' v d
  | _, _, .nil => .nil
  | _, _, .cons r t => .cons (Rep.keep k m r) (Reps.keep k m t)
theorem RepK.keep {P P' : Addr → Prop} {H H' : Hp} (k : Keep P H H') (m : ∀ a, P a → P' a) : ∀ {v : List (Key × V)} {d : List (D × D)}, RepK P H v d → RepK P' H' v d
  | _, _, .nil => .nil
  | _, _, .cons r t => .cons (Rep.keep k m r) (RepK.keep k m t)
theorem RepT.keep {P P' : Addr → Prop} {H H' : Hp} (k : Keep P H H') (m : ∀ a, P a → P' a) : ∀ {v : List (List Key × V)} {d : List (D × D)}, RepT P H v d → RepT P' H' v d
  | _, _, .nil => .nil
  | _, _, .cons r t => .cons (Rep.keep k m r) (RepT.keep k m t)
end
theorem Rep.mono {P P' : Addr → Prop} {H : Hp} {v : V} {d : D} (r : Rep P H v d) (m : ∀ a, P a → P' a) : Rep P' H v d := r.keep (fun _ _ e _ => e) m
theorem Reps.mono {P P' : Addr → Prop} {H : Hp} {v : List V} {d : List D} (r : Reps P H v d) (m : ∀ a, P a → P' a) : Reps P' H v d := r.keep (fun _ _ e _ => e) m
theorem Rep.same {P : Addr → Prop} {H H' : Hp} {v : V} {d : D} (r : Rep P H v d) (s : Same H H') : Rep P H' v d := r.keep (.same s) fun _ h => h
theorem Reps.same {P : Addr → Prop} {H H' : Hp} {v : List V} {d : List D} (r : Reps P H v d) (s : Same H H') : Reps P H' v d := r.keep (.same s) fun _ h => h
mutual
/-- data that can't change stands anywhere -/
theorem Rep.ofPure {P P' : Addr → Prop} {H : Hp} : ∀ {v : V} {d : D}, Rep P H v d → d.pure = true → Rep P' H v d
  | _, _, .non, _ => .non
  | _, _, .bl b, _ => .bl b
  | _, _, .int i, _ => .int i
  | _, _, .str x, _ => .str x
  | _, _, .tup e r, h => .tup e (Reps.ofPure r (by rw [D.pure] at h; exact h))
  | _, _, .lst _ _ _, h => by rw [D.pure] at h; cases h
  | _, _, .frz _ _, h => by rw [D.pure] at h; cases h
  | _, _, .dK _ _ _ _, h => by rw [D.pure] at h; cases h
  | _, _, .dT _ _ _ _, h => by rw [D.pure] at h; cases h
theorem Reps.ofPure {P P' : Addr → Prop} {H : Hp} : ∀ {v : List V} {d : List D}, Reps P H v d → D.pures d = true → Reps P' H v d
  | _, _, .nil, _ => .nil
  | _, _, .cons r t, h => by
    rw [D.pures, Bool.and_eq_true] at h
    exact .cons (Rep.ofPure r h.1) (Reps.ofPure t h.2)
end
theorem Reps.length {P : Addr → Prop} {H : Hp} : ∀ {v : List V} {d : List D}, Reps P H v d → v.length = d.length
  | _, _, .nil => rfl
  | _, _, .cons _ t => by rw [List.length_cons, List.length_cons, Reps.length t]
theorem Reps.get {P : Addr → Prop} {H : Hp} : ∀ {vs : List V} {ds : List D} {i : Nat} {d : D}, Reps P H vs ds → ds[i]? = some d → ∃ v, vs[i]? = some v ∧ Rep P H v d
  | _, _, _, _, .nil, e => by simp at e
  | _, _, 0, _, .cons r _, e => by simp at e; subst e; exact ⟨_, rfl, r⟩
  | _, _, i + 1, d, .cons _ t, e => by
    obtain ⟨v, h1, h2⟩ := Reps.get (i := i) (d := d) t (by simpa using e)
    exact ⟨v, by simpa using h1, h2⟩
theorem Reps.append {P : Addr → Prop} {H : Hp} : ∀ {vs ws : List V} {ds es : List D}, Reps P H vs ds → Reps P H ws es → Reps P H (vs ++ ws) (ds ++ es)
  | _, _, _, _, .nil, s => s
  | _, _, _, _, .cons r t, s => .cons r (Reps.append t s)
theorem Reps.take {P : Addr → Prop} {H : Hp} : ∀ {vs : List V} {ds : List D} (n : Nat), Reps P H vs ds → Reps P H (vs.take n) (ds.take n)
  | _, _, 0, _ => .nil
  | _, _, _ + 1, .nil => .nil
  | _, _, n + 1, .cons r t => .cons r (Reps.take n t)
theorem Reps.drop {P : Addr → Prop} {H : Hp} : ∀ {vs : List V} {ds : List D} (n : Nat), Reps P H vs ds → Reps P H (vs.drop n) (ds.drop n)
  | _, _, 0, r => r
  | _, _, _ + 1, .nil => .nil
  | _, _, n + 1, .cons _ t => Reps.drop n t
theorem Reps.snoc {P : Addr → Prop} {H : Hp} {vs : List V} {ds : List D} {v : V} {d : D} (t : Reps P H vs ds) (r : Rep P H v d) : Reps P H (vs ++ [v]) (ds ++ [d]) := t.append (.cons r .nil)
theorem Rep.undef {P : Addr → Prop} {H : Hp} {v : V} : ¬ Rep P H v .undef := fun h => by cases h

/-- everything that stands -/
abbrev All : Addr → Prop := fun _ => True
/-- what is not there yet -/
abbrev New (H : Hp) : Addr → Prop := fun a => H a = none
theorem Rep.all {P : Addr → Prop} {H : Hp} {v : V} {d : D} (r : Rep P H v d) : Rep All H v d := r.mono fun _ _ => trivial
theorem Reps.all {P : Addr → Prop} {H : Hp} {v : List V} {d : List D} (r : Reps P H v d) : Reps All H v d := r.mono fun _ _ => trivial
theorem Same.new {H H' : Hp} (s : Same H H') : ∀ a, New H' a → New H a := fun a h => s.free h
theorem Same.upd {H : Hp} {a : Addr} {o : HO} (h : H a = none) : Same H (upd H a o) := fun b u e => by rw [upd_ne (ne_of_none e h)]; exact e

/-- the names' values -/
def ER (H : Hp) (σ : St) (ρ : List D) : Prop := ∀ i, ρ.getD i .undef ≠ .undef → ∃ v, σ[i]? = some (some v) ∧ Rep All H v (ρ.getD i .undef)
theorem ER.same {H H' : Hp} {σ : St} {ρ : List D} (e : ER H σ ρ) (s : Same H H') : ER H' σ ρ := fun i h => by
  obtain ⟨v, h1, h2⟩ := e i h
  exact ⟨v, h1, h2.same s⟩

section
variable (cf : Nat → List D → Res D) (ff : Nat → Bool)
end
theorem PE.imp {X : Cx} {e : PySem.Expr} {t t' : TE} (h : PE X e t) (i : ∀ σ H Q, t' σ H Q → t σ H Q) : PE X e t' := fun pins s σ H Q I q => h pins s σ H Q I (i σ H Q q)
theorem PT.imp {X : Cx} {e : PySem.Expr} {t t' : TT} (h : PT X e t) (i : ∀ σ H Q, t' σ H Q → t σ H Q) : PT X e t' := fun pins s σ H Q I q => h pins s σ H Q I (i σ H Q q)
theorem PA.imp {X : Cx} {e : List PySem.Expr} {t t' : TA} (h : PA X e t) (i : ∀ σ H Q, t' σ H Q → t σ H Q) : PA X e t' := fun pos pins s σ H Q I q => h pos pins s σ H Q I (i σ H Q q)
end Mi
end

section
set_option autoImplicit false
set_option linter.all false
set_option maxRecDepth 100000
namespace L2
open PySem PySem.Spec PyProof.Rows

def hideN (own : List Str) (x : Str) : Str := if own.contains x then x ++ (" " : Str) else x
/-- the cells that a comprehension draws from around it -/
def clF (env : Env) : List (Str × NameKind) → List (Str × Addr) → List (Str × Addr)
  | [], acc => acc
  | (n, k) :: r, acc => clF env r (if k == .free then (n, (env.cells.lookup n).getD 0) :: acc else acc)
theorem closure_eq {env : Env} : ∀ (names : List (Str × NameKind)) (acc : List (Str × Addr)), (∀ y ∈ names, y.2 = .free → ∃ c, env.cells.lookup y.1 = some c) →
    (forIn names acc fun x cs => (match x with
      | (name, kind) => if (kind == .free) = true then cellOf env name >>= fun c => pure (ForInStep.yield ((name, c) :: cs)) else pure (ForInStep.yield cs) : Sem (ForInStep (List (Str × Addr))))) = (pure (clF env names acc) : Sem _)
  | [], acc, _ => by rw [List.forIn_nil]; rfl
  | (n, k) :: r, acc, h => by
    rw [List.forIn_cons]
    by_cases hk : (k == .free) = true
    · have hk' : k = .free := by simpa using hk
      obtain ⟨c, e⟩ := h (n, k) (List.mem_cons_self ..) hk'
      have e' : cellOf env n = pure c := by
        unfold cellOf
        have e2 : env.cells.lookup n = some c := e
        rw [e2]
      dsimp only
      rw [if_pos hk, e', pure_bind, pure_bind]
      dsimp only
      rw [closure_eq r _ fun y hy => h y (List.mem_cons_of_mem _ hy)]
      have e2 : env.cells.lookup n = some c := e
      simp only [clF, hk, if_true, e2, Option.getD_some]
    · dsimp only
      rw [if_neg hk, pure_bind]
      dsimp only
      rw [closure_eq r _ fun y hy => h y (List.mem_cons_of_mem _ hy)]
      simp only [clF, hk, Bool.false_eq_true, if_false]
theorem closure_of {env : Env} {scope : Scope} (h : ∀ y ∈ scope.names, y.2 = .free → ∃ c, env.cells.lookup y.1 = some c) : closureFor scope env = pure (clF env scope.names []) := by
  unfold closureFor
  have := closure_eq (env := env) scope.names [] h
  simp only [bind_pure] at *
  exact this
theorem clF_sub {env : Env} : ∀ {names : List (Str × NameKind)} {acc : List (Str × Addr)} {x : Str} {c : Addr}, (∀ y ∈ names, y.2 = .free → ∃ c, env.cells.lookup y.1 = some c) → (∀ x c, acc.lookup x = some c → env.cells.lookup x = some c) →
    (clF env names acc).lookup x = some c → env.cells.lookup x = some c
  | [], acc, x, c, _, h, e => h x c e
  | (n, k) :: r, acc, x, c, q, h, e => by
    unfold clF at e
    refine clF_sub (fun y hy => q y (List.mem_cons_of_mem _ hy)) (fun y d hy => ?_) e
    by_cases hk : (k == .free) = true
    · rw [if_pos hk, List.lookup_cons] at hy
      obtain ⟨c', e'⟩ := q (n, k) (List.mem_cons_self ..) (by simpa using hk)
      have e2 : env.cells.lookup n = some c' := e'
      cases hyn : y == n with
      | true =>
        rw [hyn] at hy
        have : y = n := by simpa using hyn
        subst this
        rw [e2] at hy
        simp only [Option.getD_some] at hy
        rw [e2]; exact hy
      | false => rw [hyn] at hy; exact h y d hy
    · rw [if_neg hk] at hy
      exact h y d hy
theorem clF_acc {env : Env} : ∀ {names : List (Str × NameKind)} {acc : List (Str × Addr)} {x : Str}, (∃ c, acc.lookup x = some c) → ∃ c, (clF env names acc).lookup x = some c
  | [], _, _, h => h
  | (n, k) :: r, acc, x, ⟨c, h⟩ => by
    unfold clF
    refine clF_acc ?_
    by_cases hk : (k == .free) = true
    · rw [if_pos hk, List.lookup_cons]
      cases x == n with
      | true => exact ⟨_, rfl⟩
      | false => exact ⟨c, h⟩
    · rw [if_neg hk]; exact ⟨c, h⟩
theorem clF_has {env : Env} : ∀ {names : List (Str × NameKind)} {acc : List (Str × Addr)} {x : Str}, (x, NameKind.free) ∈ names → ∃ c, (clF env names acc).lookup x = some c
  | (n, k) :: r, acc, x, h => by
    unfold clF
    rcases List.mem_cons.mp h with e | h
    · cases e
      refine clF_acc ?_
      rw [if_pos (by decide), List.lookup_cons]
      simp
    · exact clF_has h

/-- what the text must show of a comprehension's scope within sc -/
structure CompSc (N : List Str) (sc scope : Scope) (own : List Str) : Prop where
  kind : scope.kind = .function
  nocell : ∀ y ∈ scope.names, y.2 ≠ .cell
  names : ∀ y ∈ scope.names, y.2 = .local → scope.names.lookup y.1 = some .local
  free : ∀ y ∈ scope.names, y.2 = .free → sc.names.lookup y.1 = some .cell ∨ sc.names.lookup y.1 = some .free
  ownl : ∀ x ∈ own, scope.names.lookup x = some .local
  hid : ∀ x ∈ own, scope.names.lookup (x ++ (" " : Str)) = none
  loc : ∀ y ∈ scope.names, y.2 = .local → y.1 ∈ own ∨ y.1 ∉ N

/-- the context of a comprehension's block, whatever the run has come to -/
structure CompCx (X X' : Cx) (scope : Scope) (own : List Str) : Prop where
  prog : X'.prog = X.prog
  w : X'.w = X.w
  K : X'.K = X.K
  mg : X'.mg = X.mg
  base : X'.base = X.base
  A : X'.A = X.A
  N : X'.N = X.N.map (hideN own) ++ own
  scope : X'.env.scope = relabel scope X.env
  calm : X'.calm = X.calm
  xe : X'.xe = fun _ _ => False

def cxComp (X : Cx) (scope : Scope) (cl : List (Str × Addr)) (C : Addr) (own : List Str) (s₂ : Shared) (H₂ : Hp) (fp : List Addr) : Cx :=
  { X with N := X.N.map (hideN own) ++ own, s₀ := s₂, H₀ := H₂, env := compEnvC scope cl C X.env, outer := X.stack, stack := X.stack, ex := fp, fn := fun _ => false, pn := [], xe := fun _ _ => False }
theorem cxComp_ok {X : Cx} {scope : Scope} {cl : List (Str × Addr)} {C : Addr} {own : List Str} {s₂ : Shared} {H₂ : Hp} {fp : List Addr} : CompCx X (cxComp X scope cl C own s₂ H₂ fp) scope own :=
  ⟨rfl, rfl, rfl, rfl, rfl, rfl, rfl, rfl, rfl, rfl⟩

/-- the outer names keep what they have -/
def Ext (σ σ2 : St) : Prop := σ2.length = σ.length ∧ ∀ (i : Nat) v, σ[i]? = some (some v) → σ2[i]? = some (some v)

def tComp (wi : TI) (g : TG) (tc : TT) (te : TE) (m : Nat) : TE := fun σ H Q => wi σ H fun J H1 => ∀ p, H1 p = none →
  ∃ W : Nat → Nat → List V → Hp → Prop, (∃ n, W 0 n [] (upd H1 p (.lst []))) ∧ ∀ i n ys H, W i n ys H → H p = some (.lst ys) ∧ ((J.stop i H ∧ Q (.ref p) H) ∨ (J.go i H ∧ ys.length < sizeLine ∧
    ∀ x H2, J.yld i H x H2 → g x (σ ++ List.replicate m none) H2 fun σ2 H3 => Ext (σ ++ List.replicate m none) σ2 ∧ tc σ2 H3 fun b H4 => if b = true then te σ2 H4 fun y H5 => H5 p = some (.lst ys) ∧ ∃ n', n' < n ∧ W (i + 1) n' (ys ++ [y]) (upd H5 p (.lst (ys ++ [y])))
      else ∃ n', n' < n ∧ W (i + 1) n' ys H4))

theorem Un.but {fs ex : List Addr} {H H1 : Hp} {h h1 h' : Heap} {C : Addr} (u : Un fs ex H H1 h h1) (sb : Heap.SameBut C h1 h') (hC : h.objs.size ≤ C) (hx : C ∉ ex) : Un fs ex H H1 h h' := by
  have ne : ∀ b o, h.get? b = some o → b ≠ C := fun b o e => Nat.ne_of_lt (Nat.lt_of_lt_of_le (Heap.lt_size e) hC)
  refine ⟨fun b o e n h1 h2 => sb.extBut b o (ne b o e) (u.keep b o e n h1 h2), fun b o e n h1 h2 => ?_, u.free, fun b o e h2 => ?_, u.tups, u.frzs, u.tbls⟩
  · obtain ⟨sl, q⟩ := u.slot b o e n h1 h2
    exact ⟨sl, sb.extBut b _ (ne b o e) q⟩
  · obtain ⟨o', q⟩ := u.there b o e h2
    exact ⟨o', sb.extBut b _ (ne b o e) q⟩
theorem HOk.but {P : Program} {w : World} {H : Hp} {h h' : Heap} {C : Addr} (ok : HOk P w H h) (sb : Heap.SameBut C h h') (hC : H C = none) : HOk P w H h' := fun a o e => by
  refine (ok a o e).stay (fun b u hb q => sb.extBut b u ?_ q) (fun _ q => q) fun _ _ q => q
  intro z
  subst z
  rcases hb with z | z
  · subst z; rw [hC] at e; cases e
  · rw [hC] at z; cases z

section
variable {X : Cx} {scope : Scope} {own : List Str}
/-- the block's state at its begin -/
theorem Inv.comp {pins : List (Addr × Obj)} {σ : St} {H2 : Hp} {s2 : Shared} {fp : List Addr} {h1 : Heap} {t1 : Nat} (I : Inv X pins σ H2 s2) (S : CompSc X.N X.env.scope scope own) (hf : ∀ b ∈ fp, FpOk X pins H2 b)
    (hfx : ∀ b ∈ fp, b < s2.heap.objs.size) (hns : h1.Ns (s2.heap.objs.size + 1) (fun _ => none))
    (hk : ∀ b o, s2.heap.get? b = some o → h1.get? b = some o) (hacc : h1.get? s2.heap.objs.size = some { cls := .type "list", data := .seq #[] }) :
    Inv (cxComp X scope (clF X.env scope.names []) (s2.heap.objs.size + 1) own s2 H2 fp) [] (σ ++ List.replicate own.length none) (upd H2 s2.heap.objs.size (.lst [])) { s2 with heap := h1, toks := t1 } := by
  have hD : H2 s2.heap.objs.size = none := I.hok.fresh (Nat.le_refl _)
  have hC : H2 (s2.heap.objs.size + 1) = none := I.hok.fresh (Nat.le_succ _)
  have cells : ∀ y ∈ scope.names, y.2 = .free → ∃ c, X.env.cells.lookup y.1 = some c := fun y hy hk => I.ok.has y.1 (S.free y hy hk)
  have sub : ∀ x c, (clF X.env scope.names []).lookup x = some c → X.env.cells.lookup x = some c := fun x c e => clF_sub cells (fun _ _ h => by simp at h) e
  have relk : ∀ x, (relabel scope X.env).names.lookup x = some .cell ∨ (relabel scope X.env).names.lookup x = some .free → (x, NameKind.free) ∈ scope.names := by
    intro x hx
    have go : ∀ (l : List (Str × NameKind)), (∀ y ∈ l, y.2 ≠ .cell) → ((l.map fun (n, k) => if (k == NameKind.free && X.env.scope.kind == .function && X.env.kindOf n == some .cell) then (n, NameKind.cell) else (n, k)).lookup x = some .cell ∨ (l.map fun (n, k) => if (k == NameKind.free && X.env.scope.kind == .function && X.env.kindOf n == some .cell) then (n, NameKind.cell) else (n, k)).lookup x = some .free) → (x, NameKind.free) ∈ l := by
      intro l
      induction l with
      | nil => intro _ h; rcases h with h | h <;> simp at h
      | cons p l ih =>
        obtain ⟨n, k⟩ := p
        intro nc h
        rw [List.map_cons] at h
        dsimp only at h
        by_cases hc : (k == NameKind.free && X.env.scope.kind == .function && X.env.kindOf n == some .cell) = true
        · rw [if_pos hc] at h
          rw [List.lookup_cons] at h
          cases e : x == n with
          | true =>
            have : x = n := by simpa using e
            subst this
            simp only [Bool.and_eq_true] at hc
            have : k = .free := by simpa using hc.1.1
            subst this
            exact List.mem_cons_self ..
          | false =>
            rw [e] at h
            exact List.mem_cons_of_mem _ (ih (fun y hy => nc y (List.mem_cons_of_mem _ hy)) h)
        · rw [if_neg hc] at h
          rw [List.lookup_cons] at h
          cases e : x == n with
          | true =>
            have : x = n := by simpa using e
            subst this
            rw [e] at h
            dsimp only at h
            rcases h with h | h
            · exact absurd (Option.some.inj h) (nc (x, k) (List.mem_cons_self ..))
            · have := Option.some.inj h
              subst this
              exact List.mem_cons_self ..
          | false =>
            rw [e] at h
            exact List.mem_cons_of_mem _ (ih (fun y hy => nc y (List.mem_cons_of_mem _ hy)) h)
    exact go scope.names S.nocell hx
  have hne : s2.heap.objs.size ≠ s2.heap.objs.size + 1 := Nat.ne_of_lt (Nat.lt_succ_self _)
  have hlt : ∀ b o, s2.heap.get? b = some o → b < s2.heap.objs.size := fun b o e => Heap.lt_size e
  have hstk : ∀ b ∈ frs X.stack, b < s2.heap.objs.size := fun b hb => by
    obtain ⟨_, o, ho, _⟩ := I.stack.mem hb
    exact hlt b o ho
  refine ⟨⟨I.mod, ?_, I.ok.glob, I.ok.blt, Nat.le_succ _, fun x y c e1 e2 => I.ok.inj x y c (sub x c e1) (sub y c e2), fun x hx => ?_, fun _ _ h => (by cases h), I.ok.hd, I.ok.frames, .inl rfl, fun b hb => ?_, fun b o e => I.bs b o e, ?_, fun b o e hb => ?_, fun b hb hz => ?_, I.stack, I.stkFree⟩,
    rfl, I.bare, Un.laid hk (Nat.le_refl _) hD, ?_, fun x c e => ?_, ?_, fun x c e => ?_, fun p hp => (by simp [cxComp] at hp), ?_, ?_⟩
  · exact S.kind
  · have hx' : (relabel scope X.env).names.lookup x = some .cell ∨ (relabel scope X.env).names.lookup x = some .free := hx
    exact clF_has (relk x hx')
  · refine ⟨Nat.ne_of_lt (Nat.lt_succ_of_lt (hfx b hb)), fun x c e z => ?_⟩
    exact (hf b hb).2.2.2.2.1 x c (sub x c e) z
  · exact Nat.le_trans I.ok.bsz I.sz
  · rcases (hf b hb).2.2.2.1 with z | z
    · exact I.ok.noex b o e z
    · exact absurd (Nat.lt_of_lt_of_le (Heap.lt_size e) (Nat.le_trans I.ok.bsz z)) (Nat.lt_irrefl _)
  · rcases List.mem_cons.mp (I.stkSub b hz) with z' | z'
    · exact (hf b hb).2.1 z'
    · exact (hf b hb).2.2.1 z'
  · refine ⟨_, hns, fun i x v e1 e2 e3 => ?_⟩
    have hi : i < σ.length := by
      rcases Nat.lt_or_ge i σ.length with h | h
      · exact h
      · rw [List.getElem?_append_right h, List.getElem?_replicate] at e2
        split at e2 <;> cases e2
    rw [List.getElem?_append_left hi] at e2
    have hiN : i < X.N.length := by rw [← I.len]; exact hi
    have e1' : (X.N.map (hideN own))[i]? = some x := by
      have : (X.N.map (hideN own) ++ own)[i]? = some x := e1
      rwa [List.getElem?_append_left (by rw [List.length_map]; exact hiN)] at this
    rw [List.getElem?_map] at e1'
    obtain ⟨y, hy, ey⟩ := Option.map_eq_some_iff.mp e1'
    have hyN : y ∈ X.N := List.mem_of_getElem? hy
    have e3' : (relabel scope X.env).names.lookup x = some .local ∨ (relabel scope X.env).names.lookup x = some .cell ∨ (relabel scope X.env).names.lookup x = some .free := e3
    have keys : ∀ z k, (relabel scope X.env).names.lookup z = some k → ∃ k', scope.names.lookup z = some k' ∧ (k = .local → k' = .local) := by
      intro z k
      show (scope.names.map fun (n, k) => if (k == NameKind.free && X.env.scope.kind == .function && X.env.kindOf n == some .cell) then (n, NameKind.cell) else (n, k)).lookup z = some k → _
      generalize scope.names = l
      induction l with
      | nil => intro h; simp at h
      | cons p l ih =>
        obtain ⟨n, k0⟩ := p
        intro h
        rw [List.map_cons] at h
        dsimp only at h
        by_cases hc : (k0 == NameKind.free && X.env.scope.kind == .function && X.env.kindOf n == some .cell) = true
        · rw [if_pos hc, List.lookup_cons] at h
          rw [List.lookup_cons]
          cases e : z == n with
          | true =>
            rw [e] at h
            dsimp only at h
            cases h
            exact ⟨k0, rfl, fun q => by cases q⟩
          | false => rw [e] at h; exact ih h
        · rw [if_neg hc, List.lookup_cons] at h
          rw [List.lookup_cons]
          cases e : z == n with
          | true =>
            rw [e] at h
            dsimp only at h
            cases h
            exact ⟨_, rfl, fun q => q⟩
          | false => rw [e] at h; exact ih h
    by_cases hown : own.contains y = true
    · exfalso
      have ex : x = y ++ (" " : Str) := by rw [← ey]; unfold hideN; rw [if_pos hown]
      have hn := S.hid y (by simpa using hown)
      rw [← ex] at hn
      rcases e3' with q | q | q
      all_goals
        obtain ⟨k', hk', _⟩ := keys _ _ q
        rw [hn] at hk'
        cases hk'
    · have ex : x = y := by rw [← ey]; unfold hideN; rw [if_neg hown]
      subst ex
      rcases e3' with q | q
      · exfalso
        obtain ⟨k', hk', hl⟩ := keys _ _ q
        have := hl rfl
        subst this
        rcases S.loc _ (PySem.mem_of_lookup hk') rfl with z | z
        · exact hown (by simpa using z)
        · exact z hyN
      · have hfr := relk x q
        have hv := S.free _ hfr rfl
        obtain ⟨m, _, hl⟩ := I.loc
        obtain ⟨u, ru, lk⟩ := hl i x v hy e2 (.inr hv)
        refine ⟨u, ru, .inr ⟨q, ?_⟩⟩
        rcases lk with ⟨z, _⟩ | ⟨_, c, hc, o, ho, hd⟩
        · have z' : X.env.scope.names.lookup x = some .local := z
          rcases hv with hv | hv <;> (rw [z'] at hv; cases hv)
        · obtain ⟨c', hc'⟩ := clF_has (env := X.env) (acc := []) hfr
          have := sub x c' hc'
          rw [hc] at this
          cases this
          exact ⟨c, hc', o, hk c o ho, hd⟩
  · obtain ⟨v, z⟩ := I.cell x c (sub x c e)
    obtain ⟨o, ho, hd⟩ := z
    exact ⟨v, o, hk c o ho, hd⟩
  · show upd H2 _ _ (s2.heap.objs.size + 1) = none
    rw [upd_ne (Ne.symm hne)]; exact hC
  · obtain ⟨v, o, ho, _⟩ := I.cell x c (sub x c e)
    show upd H2 _ _ c = none
    rw [upd_ne (Nat.ne_of_lt (hlt c o ho))]; exact I.freeC x c (sub x c e)
  · exact I.hok.laid hk (Nat.le_refl _) ⟨Nat.zero_le _, [], 0, .nil, hacc⟩
  · show (σ ++ List.replicate own.length none).length = (X.N.map (hideN own) ++ own).length
    rw [List.length_append, List.length_append, List.length_replicate, List.length_map, I.len]
end
section
variable {X : Cx} {scope : Scope} {own : List Str}

theorem pe_comp0 {elt iter tg : Expr} {wi : TI} {g : TG} {te : TE} {pos : Pos} (S : CompSc X.N X.env.scope scope own) (hcalm : X.calm = true) (hi : PI X tg iter wi)
    (hg : ∀ X', CompCx X X' scope own → PG X' tg g) (he : ∀ X', CompCx X X' scope own → PE X' elt te)
    (hs : ∀ x, foldedSetIterable iter X.env x = pure x) : PE X (.ListComp elt [⟨tg, iter, [], 0⟩] scope pos) (tComp wi g (fun _ H Q => Q true H) te own.length) := by
  intro pins s σ H Q I h
  rw [eval_ListComp]
  have cells : ∀ y ∈ scope.names, y.2 = .free → ∃ c, X.env.cells.lookup y.1 = some c := fun y hy hk => I.ok.has y.1 (S.free y hy hk)
  refine wpAny_comprehension_free (use := none) rfl hs (closure_of cells) S.kind S.names (thn (hi pins s σ H _ I h) fun xv s1 h1 => thn h1 fun itv s2 h2 => ?_)
  obtain ⟨it, fp, tn, J, H2, e, I2, T, st2, f2, hW⟩ := h2
  subst e
  have hD : H2 s2.heap.objs.size = none := I2.hok.fresh (Nat.le_refl _)
  obtain ⟨W, ⟨n0, w0⟩, turn⟩ := hW _ hD
  have hfx : ∀ b ∈ fp, b < s2.heap.objs.size := fun b hb => by
    obtain ⟨o, ho, _⟩ := T.obj 0 _ st2 b hb
    exact Heap.lt_size ho
  refine wpAny_newObj_type (wpAny_newFunctionEnv S.nocell (by intro y hy; simp at hy) (fun h₁ hns₁ hsb₁ => ?_) S.kind)
  dsimp only at hns₁ hsb₁ ⊢
  have hC : (s2.heap.push { cls := .type "list", dict := none, data := .seq ([] : List Value).toArray }).objs.size = s2.heap.objs.size + 1 := Heap.size_push ..
  have hne : s2.heap.objs.size ≠ s2.heap.objs.size + 1 := Nat.ne_of_lt (Nat.lt_succ_self _)
  rw [hC] at hns₁ hsb₁ ⊢
  have old : ∀ b o, s2.heap.get? b = some o → h₁.get? b = some o := fun b o e => hsb₁.extBut b o (Nat.ne_of_lt (Nat.lt_succ_of_lt (Heap.lt_size e))) (Heap.get?_push_of_some _ (Heap.get?_push_of_some _ e))
  have hacc : h₁.get? s2.heap.objs.size = some { cls := .type "list", data := .seq #[] } := hsb₁.extBut _ _ hne (Heap.get?_push_of_some _ (Heap.get?_push_size _ rfl))
  have I4 := Inv.comp (t1 := s2.toks + ([] : List (Str × Value)).length) I2 S f2 hfx hns₁ old hacc
  generalize hX' : cxComp X scope (clF X.env scope.names []) (s2.heap.objs.size + 1) own s2 H2 fp = X' at I4
  have cc : CompCx X X' scope own := by rw [← hX']; exact cxComp_ok
  have eenv : X'.env = compEnvC scope (clF X.env scope.names []) (s2.heap.objs.size + 1) X.env := by rw [← hX']; rfl
  have eA : X'.A = X.A := cc.A
  have ep : X'.prog = X.prog := cc.prog
  have ew : X'.w = X.w := cc.w
  have efs : X'.fs = frs X.stack := by rw [← hX']; rfl
  have eex : X'.ex = fp := by rw [← hX']; rfl
  have es0 : X'.s₀ = s2 := by rw [← hX']; rfl
  have eH0 : X'.H₀ = H2 := by rw [← hX']; rfl
  have epn : X'.pn = [] := by rw [← hX']; rfl
  have eK : X'.K = X.K := cc.K
  have exe := cc.xe
  have ecalm : X'.calm = true := cc.calm.trans hcalm
  -- the iterator's records within the block
  have fpok : ∀ {H' : Hp}, (∀ b ∈ fp, H' b = none) → ∀ b ∈ fp, FpOk X' [] H' b := fun {H'} hn b hb => by
    obtain ⟨_, f1, f3, _, f5, _⟩ := f2 b hb
    refine ⟨hn b hb, ?_, ?_, .inl (by rw [eex]; exact hb), fun x c e => ?_, fun p hp => by rw [epn] at hp; simp at hp⟩
    · rw [eenv]; exact Nat.ne_of_lt (Nat.lt_succ_of_lt (hfx b hb))
    · rw [efs]
      intro z
      rcases List.mem_cons.mp (I2.stkSub b z) with z | z
      · exact f1 z
      · exact f3 z
    · rw [eenv] at e
      exact f5 x c (clF_sub cells (fun _ _ h => by simp at h) e)
  have st4 : tn 0 h₁ := T.keep _ _ _ st2 fun b _ o e => old b o e
  have fr4 : ∀ b ∈ fp, (upd H2 s2.heap.objs.size (.lst [])) b = none := fun b hb => by rw [upd_ne (Nat.ne_of_lt (hfx b hb))]; exact (f2 b hb).1
  have loop : ∀ s4 : Shared, s4 = { s2 with heap := h₁, toks := s2.toks + ([] : List (Str × Value)).length } →
      codeAny (model X.prog X.w) X.A (.compLoop (.ListComp elt [⟨tg, iter, [], 0⟩] scope pos) 0 (.ref it) (.ref s2.heap.objs.size) X'.env)
        (compPost (model X.prog X.w) X.A X.xe none (EP X pins σ Q) (.ref s2.heap.objs.size) (s2.heap.objs.size + 1)) s4 := by
    rintro s4 rfl
    refine PySem.W.kcp_loop (fun n s' => ∃ i ys H', Inv X' [] (σ ++ List.replicate own.length none) H' s' ∧ tn i s'.heap ∧ (∀ b ∈ fp, H' b = none) ∧ W i n ys H') ?_ n0 ⟨0, [], _, I4, st4, fr4, w0⟩
    rintro n s5 ⟨i, ys, H5, I5, st5, fr5, w5⟩
    obtain ⟨hacc5, tr⟩ := turn i n ys H5 w5
    rcases tr with ⟨stop, q⟩ | ⟨go, hlen, step⟩
    · have done := T.done X' ep ew eK ecalm i [] s5 _ H5 (notedBy (model X.prog X.w) X.A X'.env fun e s' => compPost (model X.prog X.w) X.A X.xe none (EP X pins σ Q) (.ref s2.heap.objs.size) (s2.heap.objs.size + 1) (.error e) s') I5 (fpok fr5) st5 stop
      rw [eA] at done
      refine thn done fun r s6 ⟨hr, I6⟩ => ?_
      subst hr
      obtain ⟨m6, hn6, _⟩ := id I6.loc
      rw [eenv] at hn6
      refine ⟨m6, hn6, fun h' sb => ⟨.ref s2.heap.objs.size, H5, ?_, rfl, q⟩⟩
      have u6 : Un (frs X.stack) fp H2 H5 s2.heap s6.heap := by
        have := I6.base
        rw [efs, eex, eH0, es0] at this
        exact this
      have hCn : H5 (s2.heap.objs.size + 1) = none := by
        have := I6.free
        rw [eenv] at this
        exact this
      have u7 := u6.but sb (Nat.le_succ _) (fun z => absurd (hfx _ z) (Nat.not_lt.mpr (Nat.le_succ _)))
      have hok7 : HOk X.prog X.w H5 h' := by
        have := I6.hok
        rw [ep, ew] at this
        exact this.but sb hCn
      have hos : s6.os = s2.os := by have := I6.os; rw [es0] at this; exact this
      obtain ⟨hh, gg, dd, tt, oo⟩ := s6
      obtain rfl : oo = s2.os := hos
      have fin := Inv.call (h' := h') (g' := gg) (d' := dd) (t' := tt) (ch := fp) I2 u7 hok7 I6.bare fun b hb => ⟨(f2 b hb).2.2.2.1, (f2 b hb).2.1, (f2 b hb).2.2.2.2.1, (f2 b hb).2.2.2.2.2⟩
      exact fin
    · have item := T.item X' ep ew eK ecalm i [] s5 _ H5 (notedBy (model X.prog X.w) X.A X'.env fun e s' => compPost (model X.prog X.w) X.A X.xe none (EP X pins σ Q) (.ref s2.heap.objs.size) (s2.heap.objs.size + 1) (.error e) s') I5 (fpok fr5) st5 go
      rw [eA] at item
      refine thn item fun r s6 ⟨u, hr, h6⟩ => ?_
      subst hr
      refine thn h6 fun _ s7 ⟨x, H7, I7, r7, y7, st7, fr7⟩ => ?_
      have I7' := I7.pinned (fpok fr7) (T.obj _ _ st7)
      have hg' := hg X' cc _ s7 _ H7 x u _ I7' r7 (step x H7 y7)
      rw [ep, ew, eA, exe] at hg'
      refine wpAny_mono hg' (fun _ s8 ⟨σ8, H8, I8, ext8, q8⟩ => ?_) fun _ _ z => False.elim z
      have back : ∀ {ys' : List V} {H9 : Hp} {s9 : Shared} {σ9 : St}, Ext (σ ++ List.replicate own.length none) σ9 → Inv X' ([] ++ pinsAt fp s7.heap) σ9 H9 s9 → (∃ n', n' < n ∧ W (i + 1) n' ys' H9) → ∃ m, m < n ∧ ∃ i ys H', Inv X' [] (σ ++ List.replicate own.length none) H' s9 ∧ tn i s9.heap ∧ (∀ b ∈ fp, H' b = none) ∧ W i m ys H' := by
        rintro ys' H9 s9 σ9 ex9 I9 ⟨n', hn', w9⟩
        refine ⟨n', hn', i + 1, ys', H9, (I9.weak ex9.1.symm ex9.2).unpinned, T.keep _ _ _ st7 fun b hb o e => (I9.pin (b, o) (List.mem_append_right _ (List.mem_append_right _ (mem_pinsAt hb e)))).1, fun b hb => ?_, w9⟩
        obtain ⟨o, e, d⟩ := T.obj _ _ st7 b hb
        exact (I9.pin (b, o) (List.mem_append_right _ (List.mem_append_right _ (mem_pinsAt hb e)))).2.1
      simp only [if_true] at q8
      have he' := he X' cc _ s8 _ H8 _ I8 q8
      rw [ep, ew, eA, exe] at he'
      refine wpAny_mono he' (fun yv s10 ⟨y, H10, I10, r10, p10, q10⟩ => ?_) fun _ _ z => False.elim z
      have hm := mt_append (X := X') _ s10 σ8 H10 (.ref s2.heap.objs.size) [y] (.ref s2.heap.objs.size) [yv] (fun _ H11 => ∃ n', n' < n ∧ W (i + 1) n' (ys ++ [y]) H11) I10 rfl (.cons r10 .nil) ⟨s2.heap.objs.size, ys, y, rfl, rfl, p10, hlen, q10⟩
      rw [ep, ew, eA, exe] at hm
      exact wpAny_mono hm (fun _ s11 ⟨_, H11, I11, _, q11⟩ => back ext8 I11 q11) fun _ _ z => False.elim z
  have l4 := loop _ rfl
  rw [eenv] at l4
  exact codeAny_compStart_list l4 (T.self X.A 0 _ _ _ st4 l4)
end
end L2
end

section
set_option autoImplicit false
set_option linter.all false
set_option maxRecDepth 100000
namespace Mi
open PySem L2 PySem.SeqAt
variable [KFrag]

theorem fst_of {X : Cx} {pins : List (Addr × Obj)} {σ : St} {H : Hp} {s : Shared} {a : Addr} {xs : List V} (I : Inv X pins σ H s) (e : H a = some (.tup xs)) : ∃ its : List Value, Vals xs its ∧ s.heap.IsTuple a its.toArray := by
  obtain ⟨_, its, r, p⟩ : xs.length ≤ sizeLine ∧ ∃ its : List Value, Vals xs its ∧ PyProof.Rows.IsTup s.heap a its.toArray := I.hok a _ e
  exact ⟨its, r, p⟩
theorem lst_of {X : Cx} {pins : List (Addr × Obj)} {σ : St} {H : Hp} {s : Shared} {a : Addr} {xs : List V} (I : Inv X pins σ H s) (e : SqL X.K H a xs) : ∃ its : List Value, Vals xs its ∧ s.heap.IsList a its.toArray := by
  obtain ⟨its, r, p, _⟩ := I.list e
  exact ⟨its, r, p.isList⟩
theorem Rep.lstAt {P : Addr → Prop} {H : Hp} {K : PySem.W.Frag} {v : V} {ds : List D} (r : Rep P H v (.lst ds)) : ∃ a xs, v = .ref a ∧ SqL K H a xs ∧ Reps P H xs ds := by
  cases r with
  | lst e p r => exact ⟨_, _, rfl, .inl (.inl e), r⟩
theorem Rep.tupAt {P : Addr → Prop} {H : Hp} {v : V} {ds : List D} (r : Rep P H v (.tup ds)) : ∃ a xs, v = .ref a ∧ H a = some (.tup xs) ∧ Reps P H xs ds := by
  cases r with
  | tup e r => exact ⟨_, _, rfl, e, r⟩

mutual
theorem eqD_refl : ∀ (n : Nat) (d : D), d.eqok n = true → eqD d d = true
  | _, .non, _ => rfl
  | _, .bl b, _ => by simp [eqD]
  | _, .int i, _ => by simp [eqD]
  | _, .str x, _ => by simp [eqD]
  | n + 1, .tup xs, h => by rw [D.eqok] at h; rw [eqD]; exact eqDs_refl n xs h
  | n + 1, .lst xs, h => by rw [D.eqok] at h; rw [eqD]; exact eqDs_refl n xs h
  | 0, .tup xs, h => by simp [D.eqok] at h
  | 0, .lst xs, h => by simp [D.eqok] at h
  | n, .dct _, h => by cases n <;> simp [D.eqok] at h
  | n, .undef, h => by cases n <;> simp [D.eqok] at h
  | n, .scr _, h => by cases n <;> simp [D.eqok] at h
theorem eqDs_refl : ∀ (n : Nat) (ds : List D), D.eqoks n ds = true → eqDs ds ds = true
  | _, [], _ => rfl
  | n, d :: ds, h => by
    rw [D.eqoks, Bool.and_eq_true] at h
    rw [eqDs, eqD_refl n d h.1, eqDs_refl n ds h.2]
    rfl
end
mutual
theorem Rep.inj {P P' : Addr → Prop} {H : Hp} : ∀ (n : Nat) {v : V} {d e : D}, d.eqok n = true → e.eqok n = true → Rep P H v d → Rep P' H v e → d = e
  | _, _, _, _, _, _, .non, .non => rfl
  | _, _, _, _, _, _, .bl _, .bl _ => rfl
  | _, _, _, _, _, _, .int _, .int _ => rfl
  | _, _, _, _, _, _, .str _, .str _ => rfl
  | n + 1, _, .tup ds, _, h, h', .tup e1 r1, q => by
    cases q with
    | tup e2 r2 =>
      rw [e1] at e2; cases e2
      rw [D.eqok] at h h'
      rw [Reps.inj n h h' r1 r2]
    | lst e2 _ _ => rw [e1] at e2; cases e2
    | frz e2 _ => simp [D.eqok] at h'
    | dK e2 _ _ _ => rw [e1] at e2; cases e2
    | dT e2 _ _ _ => rw [e1] at e2; cases e2
  | n + 1, _, .lst ds, _, h, h', .lst e1 p r1, q => by
    cases q with
    | tup e2 r2 => rw [e1] at e2; cases e2
    | lst e2 _ r2 =>
      rw [e1] at e2; cases e2
      rw [D.eqok] at h h'
      rw [Reps.inj n h h' r1 r2]
    | frz e2 _ => simp [D.eqok] at h'
    | dK e2 _ _ _ => rw [e1] at e2; cases e2
    | dT e2 _ _ _ => rw [e1] at e2; cases e2
  | 0, _, .tup ds, _, h, _, _, _ => by simp [D.eqok] at h
  | 0, _, .lst ds, _, h, _, _, _ => by simp [D.eqok] at h
  | n, _, .dct _, _, h, _, _, _ => by cases n <;> simp [D.eqok] at h
  | n, _, .scr _, _, h, _, _, _ => by cases n <;> simp [D.eqok] at h
theorem Reps.inj {P P' : Addr → Prop} {H : Hp} : ∀ (n : Nat) {v : List V} {d e : List D}, D.eqoks n d = true → D.eqoks n e = true → Reps P H v d → Reps P' H v e → d = e
  | _, _, _, _, _, _, .nil, .nil => rfl
  | n, _, _, _, h, h', .cons r t, .cons r' t' => by
    rw [D.eqoks, Bool.and_eq_true] at h h'
    rw [Rep.inj n h.1 h'.1 r r', Reps.inj n h.2 h'.2 t t']
end

theorem eqDs_range : ∀ (xs ys : List D), eqDs xs ys = ((List.range (min xs.length ys.length)).all (fun j => eqD (xs.getD j .non) (ys.getD j .non)) && xs.length == ys.length)
  | [], [] => by simp [eqDs]
  | [], y :: ys => by simp [eqDs]
  | x :: xs, [] => by simp [eqDs]
  | x :: xs, y :: ys => by
    have e : min (x :: xs).length (y :: ys).length = min xs.length ys.length + 1 := by simp only [List.length_cons]; omega
    rw [eqDs, eqDs_range xs ys, e, List.range_succ_eq_map, List.all_cons, List.all_map, Bool.and_assoc]
    congr 1
    simp [Function.comp_def]
theorem eqoks_get {n : Nat} : ∀ {ds : List D} {j : Nat}, D.eqoks n ds = true → j < ds.length → (ds.getD j .non).eqok n = true
  | [], j, _, h => by simp at h
  | d :: ds, 0, h, _ => by rw [D.eqoks, Bool.and_eq_true] at h; exact h.1
  | d :: ds, j + 1, h, hj => by
    rw [D.eqoks, Bool.and_eq_true] at h
    simpa using eqoks_get (ds := ds) (j := j) h.2 (by simpa using hj)
theorem Reps.getD {P : Addr → Prop} {H : Hp} {vs : List V} {ds : List D} {j : Nat} (r : Reps P H vs ds) (hj : j < ds.length) : ∃ v, vs[j]? = some v ∧ Rep P H v (ds.getD j .non) := by
  obtain ⟨v, h1, h2⟩ := r.get (i := j) (d := ds.getD j .non) (by simp [hj])
  exact ⟨v, h1, h2⟩

section
variable {X : Cx} {pins : List (Addr × Obj)} {σ : St} {H : Hp} {s : Shared}
/-- == of what stands in two places, whatever its shape; n: how deep -/
theorem rep_eq (I : Inv X pins σ H s) : ∀ (n : Nat) (A : Around) {x y : V} {a b : D} {u v : Value}, A.units + n < cLine → a.eqok n = true → b.eqok n = true → Rep All H x a → Rep All H y b → RelV x u → RelV y v →
    RcAt A s u v (eqD a b) ∧ RcNeAt A s u v (!eqD a b) ∧ EqAt A s u v (eqD a b) := by
  intro n
  induction n with
  | zero =>
    intro A x y a b u v hu ha hb rx ry ru rv
    cases rx with
    | non =>
      cases ru
      cases ry with
      | non => cases rv; exact ⟨RcAt.none_none, RcNeAt.none_none, EqAt.same _⟩
      | bl _ => cases rv; exact ⟨RcAt.none_bool _, RcNeAt.none_bool _, EqAt.none_bool _⟩
      | int _ => obtain ⟨t, rfl⟩ := rv; exact ⟨RcAt.none_int _ _, RcNeAt.none_int _ _, EqAt.none_int _ _⟩
      | str _ => obtain ⟨t, rfl⟩ := rv; exact ⟨RcAt.none_str _ _, RcNeAt.none_str _ _, EqAt.none_str _ _⟩
      | _ => simp [D.eqok] at hb
    | bl _ =>
      cases ru
      cases ry with
      | non => cases rv; exact ⟨RcAt.bool_none _, RcNeAt.bool_none _, EqAt.bool_none _⟩
      | bl _ => cases rv; exact ⟨RcAt.bool_bool _ _, RcNeAt.bool_bool _ _, EqAt.bool_bool _ _⟩
      | int _ => obtain ⟨t, rfl⟩ := rv; exact ⟨RcAt.bool_int _ _ _, RcNeAt.bool_int _ _ _, EqAt.bool_int _ _ _⟩
      | str _ => obtain ⟨t, rfl⟩ := rv; exact ⟨RcAt.bool_str _ _ _, RcNeAt.bool_str _ _ _, EqAt.bool_str _ _ _⟩
      | _ => simp [D.eqok] at hb
    | int _ =>
      obtain ⟨t, rfl⟩ := ru
      cases ry with
      | non => cases rv; exact ⟨RcAt.int_none _ _, RcNeAt.int_none _ _, EqAt.int_none _ _⟩
      | bl _ => cases rv; exact ⟨RcAt.int_bool _ _ _, RcNeAt.int_bool _ _ _, EqAt.int_bool _ _ _⟩
      | int _ => obtain ⟨t', rfl⟩ := rv; exact ⟨RcAt.int_int _ _ _ _, RcNeAt.int_int _ _ _ _, EqAt.int_int _ _ _ _⟩
      | str _ => obtain ⟨t', rfl⟩ := rv; exact ⟨RcAt.int_str _ _ _ _, RcNeAt.int_str _ _ _ _, EqAt.int_str _ _ _ _⟩
      | _ => simp [D.eqok] at hb
    | str _ =>
      obtain ⟨t, rfl⟩ := ru
      cases ry with
      | non => cases rv; exact ⟨RcAt.str_none _ _, RcNeAt.str_none _ _, EqAt.str_none _ _⟩
      | bl _ => cases rv; exact ⟨RcAt.str_bool _ _ _, RcNeAt.str_bool _ _ _, EqAt.str_bool _ _ _⟩
      | int _ => obtain ⟨t', rfl⟩ := rv; exact ⟨RcAt.str_int _ _ _ _, RcNeAt.str_int _ _ _ _, EqAt.str_int _ _ _ _⟩
      | str _ => obtain ⟨t', rfl⟩ := rv; exact ⟨RcAt.str_str _ _ _ _, RcNeAt.str_str _ _ _ _, EqAt.str_str _ _ _ _⟩
      | _ => simp [D.eqok] at hb
    | _ => simp [D.eqok] at ha
  | succ n ih =>
    intro A x y a b u v hu ha hb rx ry ru rv
    have hu0 : A.units < cLine := by omega
    have hu1 : A.in1.units + n < cLine := by show A.units + 1 + n < cLine; omega
    cases a with
    | undef => exact absurd rx Rep.undef
    | dct _ => simp [D.eqok] at ha
    | scr _ => simp [D.eqok] at ha
    | non =>
      cases rx; cases ru
      cases b with
      | undef => exact absurd ry Rep.undef
      | dct _ => simp [D.eqok] at hb
      | scr _ => simp [D.eqok] at hb
      | non => cases ry; cases rv; exact ⟨RcAt.none_none, RcNeAt.none_none, EqAt.same _⟩
      | bl _ => cases ry; cases rv; exact ⟨RcAt.none_bool _, RcNeAt.none_bool _, EqAt.none_bool _⟩
      | int _ => cases ry; obtain ⟨t2, rfl⟩ := rv; exact ⟨RcAt.none_int _ _, RcNeAt.none_int _ _, EqAt.none_int _ _⟩
      | str _ => cases ry; obtain ⟨t2, rfl⟩ := rv; exact ⟨RcAt.none_str _ _, RcNeAt.none_str _ _, EqAt.none_str _ _⟩
      | tup es =>
        obtain ⟨q, ys, rfl, e2, r2⟩ := ry.tupAt
        cases rv
        obtain ⟨its2, vr2, h2⟩ := fst_of I e2
        exact ⟨RcAt.none_tuple h2 hu0, RcNeAt.none_tuple h2 hu0, EqAt.none_tuple h2 hu0⟩
      | lst es =>
        obtain ⟨q, ys, rfl, e2, r2⟩ := ry.lstAt (K := X.K)
        cases rv
        obtain ⟨its2, vr2, h2⟩ := lst_of I e2
        exact ⟨RcAt.none_list h2 hu0, RcNeAt.none_list h2 hu0, EqAt.none_list h2 hu0⟩
    | bl _ =>
      cases rx; cases ru
      cases b with
      | undef => exact absurd ry Rep.undef
      | dct _ => simp [D.eqok] at hb
      | scr _ => simp [D.eqok] at hb
      | non => cases ry; cases rv; exact ⟨RcAt.bool_none _, RcNeAt.bool_none _, EqAt.bool_none _⟩
      | bl _ => cases ry; cases rv; exact ⟨RcAt.bool_bool _ _, RcNeAt.bool_bool _ _, EqAt.bool_bool _ _⟩
      | int _ => cases ry; obtain ⟨t2, rfl⟩ := rv; exact ⟨RcAt.bool_int _ _ _, RcNeAt.bool_int _ _ _, EqAt.bool_int _ _ _⟩
      | str _ => cases ry; obtain ⟨t2, rfl⟩ := rv; exact ⟨RcAt.bool_str _ _ _, RcNeAt.bool_str _ _ _, EqAt.bool_str _ _ _⟩
      | tup es =>
        obtain ⟨q, ys, rfl, e2, r2⟩ := ry.tupAt
        cases rv
        obtain ⟨its2, vr2, h2⟩ := fst_of I e2
        exact ⟨RcAt.bool_tuple _ h2 hu0, RcNeAt.bool_tuple _ h2 hu0, EqAt.bool_tuple _ h2 hu0⟩
      | lst es =>
        obtain ⟨q, ys, rfl, e2, r2⟩ := ry.lstAt (K := X.K)
        cases rv
        obtain ⟨its2, vr2, h2⟩ := lst_of I e2
        exact ⟨RcAt.bool_list _ h2 hu0, RcNeAt.bool_list _ h2 hu0, EqAt.bool_list _ h2 hu0⟩
    | int _ =>
      cases rx; obtain ⟨t1, rfl⟩ := ru
      cases b with
      | undef => exact absurd ry Rep.undef
      | dct _ => simp [D.eqok] at hb
      | scr _ => simp [D.eqok] at hb
      | non => cases ry; cases rv; exact ⟨RcAt.int_none _ _, RcNeAt.int_none _ _, EqAt.int_none _ _⟩
      | bl _ => cases ry; cases rv; exact ⟨RcAt.int_bool _ _ _, RcNeAt.int_bool _ _ _, EqAt.int_bool _ _ _⟩
      | int _ => cases ry; obtain ⟨t2, rfl⟩ := rv; exact ⟨RcAt.int_int _ _ _ _, RcNeAt.int_int _ _ _ _, EqAt.int_int _ _ _ _⟩
      | str _ => cases ry; obtain ⟨t2, rfl⟩ := rv; exact ⟨RcAt.int_str _ _ _ _, RcNeAt.int_str _ _ _ _, EqAt.int_str _ _ _ _⟩
      | tup es =>
        obtain ⟨q, ys, rfl, e2, r2⟩ := ry.tupAt
        cases rv
        obtain ⟨its2, vr2, h2⟩ := fst_of I e2
        exact ⟨RcAt.int_tuple _ _ h2 hu0, RcNeAt.int_tuple _ _ h2 hu0, EqAt.int_tuple _ _ h2 hu0⟩
      | lst es =>
        obtain ⟨q, ys, rfl, e2, r2⟩ := ry.lstAt (K := X.K)
        cases rv
        obtain ⟨its2, vr2, h2⟩ := lst_of I e2
        exact ⟨RcAt.int_list _ _ h2 hu0, RcNeAt.int_list _ _ h2 hu0, EqAt.int_list _ _ h2 hu0⟩
    | str _ =>
      cases rx; obtain ⟨t1, rfl⟩ := ru
      cases b with
      | undef => exact absurd ry Rep.undef
      | dct _ => simp [D.eqok] at hb
      | scr _ => simp [D.eqok] at hb
      | non => cases ry; cases rv; exact ⟨RcAt.str_none _ _, RcNeAt.str_none _ _, EqAt.str_none _ _⟩
      | bl _ => cases ry; cases rv; exact ⟨RcAt.str_bool _ _ _, RcNeAt.str_bool _ _ _, EqAt.str_bool _ _ _⟩
      | int _ => cases ry; obtain ⟨t2, rfl⟩ := rv; exact ⟨RcAt.str_int _ _ _ _, RcNeAt.str_int _ _ _ _, EqAt.str_int _ _ _ _⟩
      | str _ => cases ry; obtain ⟨t2, rfl⟩ := rv; exact ⟨RcAt.str_str _ _ _ _, RcNeAt.str_str _ _ _ _, EqAt.str_str _ _ _ _⟩
      | tup es =>
        obtain ⟨q, ys, rfl, e2, r2⟩ := ry.tupAt
        cases rv
        obtain ⟨its2, vr2, h2⟩ := fst_of I e2
        exact ⟨RcAt.str_tuple _ _ h2 hu0, RcNeAt.str_tuple _ _ h2 hu0, EqAt.str_tuple _ _ h2 hu0⟩
      | lst es =>
        obtain ⟨q, ys, rfl, e2, r2⟩ := ry.lstAt (K := X.K)
        cases rv
        obtain ⟨its2, vr2, h2⟩ := lst_of I e2
        exact ⟨RcAt.str_list _ _ h2 hu0, RcNeAt.str_list _ _ h2 hu0, EqAt.str_list _ _ h2 hu0⟩
    | tup ds =>
      obtain ⟨p, xs, rfl, e1, r1⟩ := rx.tupAt
      cases ru
      obtain ⟨its1, vr1, h1⟩ := fst_of I e1
      rw [D.eqok] at ha
      cases b with
      | undef => exact absurd ry Rep.undef
      | dct _ => simp [D.eqok] at hb
      | scr _ => simp [D.eqok] at hb
      | non => cases ry; cases rv; exact ⟨RcAt.tuple_none h1 hu0, RcNeAt.tuple_none h1 hu0, EqAt.tuple_none h1 hu0⟩
      | bl _ => cases ry; cases rv; exact ⟨RcAt.tuple_bool _ h1 hu0, RcNeAt.tuple_bool _ h1 hu0, EqAt.tuple_bool _ h1 hu0⟩
      | int _ => cases ry; obtain ⟨t2, rfl⟩ := rv; exact ⟨RcAt.tuple_int _ _ h1 hu0, RcNeAt.tuple_int _ _ h1 hu0, EqAt.tuple_int _ _ h1 hu0⟩
      | str _ => cases ry; obtain ⟨t2, rfl⟩ := rv; exact ⟨RcAt.tuple_str _ _ h1 hu0, RcNeAt.tuple_str _ _ h1 hu0, EqAt.tuple_str _ _ h1 hu0⟩
      | tup es =>
        obtain ⟨q, ys, rfl, e2, r2⟩ := ry.tupAt
        cases rv
        obtain ⟨its2, vr2, h2⟩ := fst_of I e2
        rw [D.eqok] at hb
        have z1 : its1.toArray.size = ds.length := by rw [List.size_toArray, ← vr1.length, r1.length]
        have z2 : its2.toArray.size = es.length := by rw [List.size_toArray, ← vr2.length, r2.length]
        have he : ∀ j (g1 : j < its1.toArray.size) (g2 : j < its2.toArray.size), EqAt A.in1 s its1.toArray[j] its2.toArray[j] (eqD (ds.getD j .non) (es.getD j .non)) := fun j g1 g2 => by
          obtain ⟨v1, w1, rr1⟩ := r1.getD (j := j) (by omega)
          obtain ⟨v2, w2, rr2⟩ := r2.getD (j := j) (by omega)
          obtain ⟨u1, k1, l1⟩ := vr1.get w1
          obtain ⟨u2, k2, l2⟩ := vr2.get w2
          have m1 : its1.toArray[j] = u1 := by
            rw [List.getElem?_eq_getElem (by simpa using g1)] at k1
            simpa using Option.some.inj k1
          have m2 : its2.toArray[j] = u2 := by
            rw [List.getElem?_eq_getElem (by simpa using g2)] at k2
            simpa using Option.some.inj k2
          rw [m1, m2]
          exact (ih A.in1 hu1 (eqoks_get ha (by omega)) (eqoks_get hb (by omega)) rr1 rr2 l1 l2).2.2
        have ee : eqD (.tup ds) (.tup es) = ((List.range (min its1.toArray.size its2.toArray.size)).all (fun j => eqD (ds.getD j .non) (es.getD j .non)) && its1.toArray.size == its2.toArray.size) := by
          rw [eqD, eqDs_range, z1, z2]
        have r0 := RcAt.tuples h1 h2 hu0 he
        have r0' := RcNeAt.tuples h1 h2 hu0 he
        rw [← ee] at r0 r0'
        refine ⟨r0, r0', ?_⟩
        by_cases hpq : p = q
        · subst hpq
          have hab : (D.tup ds) = (.tup es) := Rep.inj (n + 1) (by rw [D.eqok]; exact ha) (by rw [D.eqok]; exact hb) rx ry
          rw [← hab, eqD_refl (n + 1) _ (by rw [D.eqok]; exact ha)]
          exact EqAt.same _
        · exact EqAt.of_refs hpq r0
      | lst es =>
        obtain ⟨q, ys, rfl, e2, r2⟩ := ry.lstAt (K := X.K)
        cases rv
        obtain ⟨its2, vr2, h2⟩ := lst_of I e2
        exact ⟨RcAt.tuple_list h1 h2 hu0, RcNeAt.tuple_list h1 h2 hu0, EqAt.tuple_list h1 h2 hu0⟩
    | lst ds =>
      obtain ⟨p, xs, rfl, e1, r1⟩ := rx.lstAt (K := X.K)
      cases ru
      obtain ⟨its1, vr1, h1⟩ := lst_of I e1
      rw [D.eqok] at ha
      cases b with
      | undef => exact absurd ry Rep.undef
      | dct _ => simp [D.eqok] at hb
      | scr _ => simp [D.eqok] at hb
      | non => cases ry; cases rv; exact ⟨RcAt.list_none h1 hu0, RcNeAt.list_none h1 hu0, EqAt.list_none h1 hu0⟩
      | bl _ => cases ry; cases rv; exact ⟨RcAt.list_bool _ h1 hu0, RcNeAt.list_bool _ h1 hu0, EqAt.list_bool _ h1 hu0⟩
      | int _ => cases ry; obtain ⟨t2, rfl⟩ := rv; exact ⟨RcAt.list_int _ _ h1 hu0, RcNeAt.list_int _ _ h1 hu0, EqAt.list_int _ _ h1 hu0⟩
      | str _ => cases ry; obtain ⟨t2, rfl⟩ := rv; exact ⟨RcAt.list_str _ _ h1 hu0, RcNeAt.list_str _ _ h1 hu0, EqAt.list_str _ _ h1 hu0⟩
      | tup es =>
        obtain ⟨q, ys, rfl, e2, r2⟩ := ry.tupAt
        cases rv
        obtain ⟨its2, vr2, h2⟩ := fst_of I e2
        exact ⟨RcAt.list_tuple h1 h2 hu0, RcNeAt.list_tuple h1 h2 hu0, EqAt.list_tuple h1 h2 hu0⟩
      | lst es =>
        obtain ⟨q, ys, rfl, e2, r2⟩ := ry.lstAt (K := X.K)
        cases rv
        obtain ⟨its2, vr2, h2⟩ := lst_of I e2
        rw [D.eqok] at hb
        have z1 : its1.toArray.size = ds.length := by rw [List.size_toArray, ← vr1.length, r1.length]
        have z2 : its2.toArray.size = es.length := by rw [List.size_toArray, ← vr2.length, r2.length]
        have he : ∀ j (g1 : j < its1.toArray.size) (g2 : j < its2.toArray.size), EqAt A.in1 s its1.toArray[j] its2.toArray[j] (eqD (ds.getD j .non) (es.getD j .non)) := fun j g1 g2 => by
          obtain ⟨v1, w1, rr1⟩ := r1.getD (j := j) (by omega)
          obtain ⟨v2, w2, rr2⟩ := r2.getD (j := j) (by omega)
          obtain ⟨u1, k1, l1⟩ := vr1.get w1
          obtain ⟨u2, k2, l2⟩ := vr2.get w2
          have m1 : its1.toArray[j] = u1 := by
            rw [List.getElem?_eq_getElem (by simpa using g1)] at k1
            simpa using Option.some.inj k1
          have m2 : its2.toArray[j] = u2 := by
            rw [List.getElem?_eq_getElem (by simpa using g2)] at k2
            simpa using Option.some.inj k2
          rw [m1, m2]
          exact (ih A.in1 hu1 (eqoks_get ha (by omega)) (eqoks_get hb (by omega)) rr1 rr2 l1 l2).2.2
        have r00 : RcAt A s (.ref p) (.ref q) (eqD (.lst ds) (.lst es)) ∧ RcNeAt A s (.ref p) (.ref q) (!eqD (.lst ds) (.lst es)) := by
          rw [eqD, eqDs_range]
          by_cases hz : ds.length = es.length
          · have r0 := RcAt.lists h1 h2 (by omega) hu0 he
            have r0' := RcNeAt.lists h1 h2 (by omega) hu0 he
            rw [z1] at r0 r0'
            rw [show min ds.length es.length = ds.length by omega, show (ds.length == es.length) = true by simpa using hz, Bool.and_true]
            exact ⟨r0, r0'⟩
          · have hz' : (its1.toArray.size != its2.toArray.size) = true := by rw [z1, z2]; simpa using hz
            rw [show (ds.length == es.length) = false by simpa using hz, Bool.and_false]
            exact ⟨RcAt.lists_lengths h1 h2 hz' hu0, RcNeAt.lists_lengths h1 h2 hz' hu0⟩
        obtain ⟨r0, r0'⟩ := r00
        refine ⟨r0, r0', ?_⟩
        by_cases hpq : p = q
        · subst hpq
          have hab : (D.lst ds) = (.lst es) := Rep.inj (n + 1) (by rw [D.eqok]; exact ha) (by rw [D.eqok]; exact hb) rx ry
          rw [← hab, eqD_refl (n + 1) _ (by rw [D.eqok]; exact ha)]
          exact EqAt.same _
        · exact EqAt.of_refs hpq r0
end
end Mi
end

section
set_option autoImplicit false
set_option linter.all false
set_option maxRecDepth 100000
set_option maxHeartbeats 1000000
namespace Mi
open PySem L2 PySem.SeqAt
open PySem.AutoSeq1 (wpAny_loadPart')
open PySem.MeetsSeq PySem.MeetsSeq2 PySem.MeetsSeq3
variable [KFrag]

def Ordr.op : Ordr → CmpOp
  | .lt => .Lt | .le => .LtE | .gt => .Gt | .ge => .GtE
def RoAt (op : CmpOp) (A : Around) (s : Shared) (u v : Value) (b : Bool) : Prop :=
  ∀ (prog : Program) (w : World) (E : Value → Shared → Prop) (Q : Value → Shared → Prop), Q (.bool b) s → wpAny (model prog w) A (richCompare op u v) Q E s
/-- two rows of values and their data, item by item -/
def C2 (o : Ordr) (A : Around) (s : Shared) (vs ws : List Value) (xs ys : List D) : Prop :=
  vs.length = xs.length ∧ ws.length = ys.length ∧ ∀ (j : Nat) (v w : Value) (x y : D), vs[j]? = some v → ws[j]? = some w → xs[j]? = some x → ys[j]? = some y →
    EqAt A s v w (eqD x y) ∧ (eqD x y = false → ∀ k, ordD o x y = some k → RoAt o.op A s v w k)
theorem C2.tail {o : Ordr} {A : Around} {s : Shared} {v w : Value} {vs ws : List Value} {x y : D} {xs ys : List D} (h : C2 o A s (v :: vs) (w :: ws) (x :: xs) (y :: ys)) : C2 o A s vs ws xs ys :=
  ⟨by simpa using h.1, by simpa using h.2.1, fun j a b c d e1 e2 e3 e4 => h.2.2 (j + 1) a b c d (by simpa using e1) (by simpa using e2) (by simpa using e3) (by simpa using e4)⟩

theorem tuple_ltAt (l b : Addr) (items items2 : Array Value) (n n2 : Nat) (dd dd2 : Option Addr) (sl sl2 : Array (Option Value)) (xs ys : List D) (res : Bool) (hr : ordDs .lt xs ys = some res) :
    Meets (Builtin.«tuple.__lt__» ⟨[.ref l, .ref b], []⟩)
      (fun A R s => s.heap.get? l = some { cls := .type "tuple", dict := dd, data := .seq items n, slots := sl } ∧ s.heap.get? b = some { cls := .type "tuple", dict := dd2, data := .seq items2 n2, slots := sl2 } ∧
        C2 .lt A.in1 s items.toList items2.toList xs ys ∧ R (.ok (.ret (.bool res))) s) :=
  .of_wp fun prog w A R s h => by
    obtain ⟨hp, g, d, tk, os⟩ := s; obtain ⟨hl, hb, hC, h⟩ := h
    have f2 := AutoSeq1.sub_tuple_tuple
    have z1 : items.size = xs.length := by rw [← hC.1]; simp
    have z2 : items2.size = ys.length := by rw [← hC.2.1]; simp
    wp_walk using wpAny_loadPart' hl, wpAny_loadPart' hb, wpAny_forIn_list _ (fun rest b s' => b.1 = none ∧ s' = ⟨hp, g, d, tk, os⟩ ∧ ∃ (vs ws : List Value) (xs' ys' : List D), rest = vs.zip ws ∧
      C2 .lt A.in1 ⟨hp, g, d, tk, os⟩ vs ws xs' ys' ∧ xs'.length + items2.size = ys'.length + items.size ∧ ordDs .lt xs' ys' = some res) _
    case turn =>
      rintro ⟨y, x⟩ rest b s' ⟨hb', rfl, vs, ws, xs', ys', hz, hC', hlen, hR⟩
      cases vs with
      | nil => rw [List.zip_nil_left] at hz; cases hz
      | cons v vs =>
        cases ws with
        | nil => rw [List.zip_nil_right] at hz; cases hz
        | cons w' ws =>
          rw [List.zip_cons_cons] at hz
          injection hz with hyx hrest
          injection hyx with hy hx
          subst hy hx
          cases xs' with
          | nil => exact absurd hC'.1 (by simp)
          | cons x0 xs' =>
            cases ys' with
            | nil => exact absurd hC'.2.1 (by simp)
            | cons y0 ys' =>
              rw [ordDs] at hR
              simp only [List.length_cons] at hlen
              obtain ⟨he, hlt⟩ := hC'.2.2 0 _ _ _ _ rfl rfl rfl rfl
              refine wpAny_bind (he prog w _ _ ?_)
              cases e : eqD x0 y0 with
              | true =>
                rw [e] at hR
                simp only [if_true] at hR
                wp_walk
                exact ⟨rfl, rfl, _, _, _, _, hrest, hC'.tail, by omega, hR⟩
              | false =>
                rw [e] at hR
                simp only [Bool.false_eq_true, if_false] at hR
                have hri : ∀ (E : Value → Shared → Prop) (Q : Value → Shared → Prop), Q (.bool res) ⟨hp, g, d, tk, os⟩ → wpAny (model prog w) A.in1 (richCompare .Lt _ _) Q E ⟨hp, g, d, tk, os⟩ := fun E Q q => hlt e res hR prog w E Q q
                wp_walk using hri
                exact ⟨_, rfl, by simpa using h⟩
    case fin =>
      rintro ⟨b1, b2⟩ s' ⟨hb', rfl, vs, ws, xs', ys', hz, hC', hlen, hR⟩
      simp only at hb'
      subst hb'
      have hv : res = decide (items.size < items2.size) := by
        cases xs' with
        | nil =>
          rw [ordDs] at hR
          have := Option.some.inj hR
          rw [← this]
          simp only [List.length_nil] at hlen
          simp only [Ordr.nat]
          congr 1
          simp only [eq_iff_iff]
          omega
        | cons x0 xs' =>
          cases ys' with
          | nil =>
            rw [ordDs] at hR
            have := Option.some.inj hR
            rw [← this]
            simp only [List.length_nil, List.length_cons] at hlen
            simp only [Ordr.nat, List.length_cons]
            congr 1
            simp only [eq_iff_iff]
            omega
          | cons y0 ys' =>
            exfalso
            cases vs with
            | nil => exact absurd hC'.1 (by simp)
            | cons v vs =>
              cases ws with
              | nil => exact absurd hC'.2.1 (by simp)
              | cons w' ws => rw [List.zip_cons_cons] at hz; cases hz
      rw [hv] at h
      wp_walk
      exact ⟨_, rfl, by simpa [Builtin.Tuple.tupleCompareSizes] using h⟩
    case h =>
      exact ⟨rfl, rfl, items.toList, items2.toList, xs, ys, rfl, hC, by omega, hr⟩
theorem RoAt.lt_tup {A : Around} {s : Shared} {l b : Addr} {items items2 : Array Value} {xs ys : List D} {res : Bool} (hl : s.heap.IsTuple l items) (hb : s.heap.IsTuple b items2) (hC : C2 .lt A.in1 s items.toList items2.toList xs ys) (hr : ordDs .lt xs ys = some res) (hu : A.units < cLine) :
    RoAt .Lt A s (.ref l) (.ref b) res := fun prog w E Q h => by
  obtain ⟨⟨cls, dd, data, sl⟩, ho, hc, n, hd⟩ := id hl
  obtain ⟨⟨cls2, dd2, data2, sl2⟩, ho2, hc2, n2, hd2⟩ := id hb
  simp only at hc hd hc2 hd2
  subst hc hd hc2 hd2
  exact richCompare_meets_room (op := .Lt) ⟨_, ho, rfl⟩ ⟨_, ho2, rfl⟩ PySem.F.slot_tuple_lt PySem.F.entry_tuple_lt (PySem.F.args_tuple_lt_2 _ _) (tuple_ltAt l b items items2 n n2 dd dd2 sl sl2 xs ys res hr)
    ⟨ho, ho2, hC, show Value.bool res ≠ Value.notImplemented ∧ Q (.bool res) s from ⟨(fun x => nomatch x), h⟩⟩ hu

theorem tuple_leAt (l b : Addr) (items items2 : Array Value) (n n2 : Nat) (dd dd2 : Option Addr) (sl sl2 : Array (Option Value)) (xs ys : List D) (res : Bool) (hr : ordDs .le xs ys = some res) :
    Meets (Builtin.«tuple.__le__» ⟨[.ref l, .ref b], []⟩)
      (fun A R s => s.heap.get? l = some { cls := .type "tuple", dict := dd, data := .seq items n, slots := sl } ∧ s.heap.get? b = some { cls := .type "tuple", dict := dd2, data := .seq items2 n2, slots := sl2 } ∧
        C2 .le A.in1 s items.toList items2.toList xs ys ∧ R (.ok (.ret (.bool res))) s) :=
  .of_wp fun prog w A R s h => by
    obtain ⟨hp, g, d, tk, os⟩ := s; obtain ⟨hl, hb, hC, h⟩ := h
    have f2 := AutoSeq1.sub_tuple_tuple
    have z1 : items.size = xs.length := by rw [← hC.1]; simp
    have z2 : items2.size = ys.length := by rw [← hC.2.1]; simp
    wp_walk using wpAny_loadPart' hl, wpAny_loadPart' hb, wpAny_forIn_list _ (fun rest b s' => b.1 = none ∧ s' = ⟨hp, g, d, tk, os⟩ ∧ ∃ (vs ws : List Value) (xs' ys' : List D), rest = vs.zip ws ∧
      C2 .le A.in1 ⟨hp, g, d, tk, os⟩ vs ws xs' ys' ∧ xs'.length + items2.size = ys'.length + items.size ∧ ordDs .le xs' ys' = some res) _
    case turn =>
      rintro ⟨y, x⟩ rest b s' ⟨hb', rfl, vs, ws, xs', ys', hz, hC', hlen, hR⟩
      cases vs with
      | nil => rw [List.zip_nil_left] at hz; cases hz
      | cons v vs =>
        cases ws with
        | nil => rw [List.zip_nil_right] at hz; cases hz
        | cons w' ws =>
          rw [List.zip_cons_cons] at hz
          injection hz with hyx hrest
          injection hyx with hy hx
          subst hy hx
          cases xs' with
          | nil => exact absurd hC'.1 (by simp)
          | cons x0 xs' =>
            cases ys' with
            | nil => exact absurd hC'.2.1 (by simp)
            | cons y0 ys' =>
              rw [ordDs] at hR
              simp only [List.length_cons] at hlen
              obtain ⟨he, hlt⟩ := hC'.2.2 0 _ _ _ _ rfl rfl rfl rfl
              refine wpAny_bind (he prog w _ _ ?_)
              cases e : eqD x0 y0 with
              | true =>
                rw [e] at hR
                simp only [if_true] at hR
                wp_walk
                exact ⟨rfl, rfl, _, _, _, _, hrest, hC'.tail, by omega, hR⟩
              | false =>
                rw [e] at hR
                simp only [Bool.false_eq_true, if_false] at hR
                have hri : ∀ (E : Value → Shared → Prop) (Q : Value → Shared → Prop), Q (.bool res) ⟨hp, g, d, tk, os⟩ → wpAny (model prog w) A.in1 (richCompare .LtE _ _) Q E ⟨hp, g, d, tk, os⟩ := fun E Q q => hlt e res hR prog w E Q q
                wp_walk using hri
                exact ⟨_, rfl, by simpa using h⟩
    case fin =>
      rintro ⟨b1, b2⟩ s' ⟨hb', rfl, vs, ws, xs', ys', hz, hC', hlen, hR⟩
      simp only at hb'
      subst hb'
      have hv : res = decide (items.size ≤ items2.size) := by
        cases xs' with
        | nil =>
          rw [ordDs] at hR
          have := Option.some.inj hR
          rw [← this]
          simp only [List.length_nil] at hlen
          simp only [Ordr.nat]
          congr 1
          simp only [eq_iff_iff]
          omega
        | cons x0 xs' =>
          cases ys' with
          | nil =>
            rw [ordDs] at hR
            have := Option.some.inj hR
            rw [← this]
            simp only [List.length_nil, List.length_cons] at hlen
            simp only [Ordr.nat, List.length_cons]
            congr 1
            simp only [eq_iff_iff]
            omega
          | cons y0 ys' =>
            exfalso
            cases vs with
            | nil => exact absurd hC'.1 (by simp)
            | cons v vs =>
              cases ws with
              | nil => exact absurd hC'.2.1 (by simp)
              | cons w' ws => rw [List.zip_cons_cons] at hz; cases hz
      rw [hv] at h
      wp_walk
      exact ⟨_, rfl, by simpa [Builtin.Tuple.tupleCompareSizes] using h⟩
    case h =>
      exact ⟨rfl, rfl, items.toList, items2.toList, xs, ys, rfl, hC, by omega, hr⟩
theorem RoAt.le_tup {A : Around} {s : Shared} {l b : Addr} {items items2 : Array Value} {xs ys : List D} {res : Bool} (hl : s.heap.IsTuple l items) (hb : s.heap.IsTuple b items2) (hC : C2 .le A.in1 s items.toList items2.toList xs ys) (hr : ordDs .le xs ys = some res) (hu : A.units < cLine) :
    RoAt .LtE A s (.ref l) (.ref b) res := fun prog w E Q h => by
  obtain ⟨⟨cls, dd, data, sl⟩, ho, hc, n, hd⟩ := id hl
  obtain ⟨⟨cls2, dd2, data2, sl2⟩, ho2, hc2, n2, hd2⟩ := id hb
  simp only at hc hd hc2 hd2
  subst hc hd hc2 hd2
  exact richCompare_meets_room (op := .LtE) ⟨_, ho, rfl⟩ ⟨_, ho2, rfl⟩ PySem.F.slot_tuple_le PySem.F.entry_tuple_le (PySem.F.args_tuple_le_2 _ _) (tuple_leAt l b items items2 n n2 dd dd2 sl sl2 xs ys res hr)
    ⟨ho, ho2, hC, show Value.bool res ≠ Value.notImplemented ∧ Q (.bool res) s from ⟨(fun x => nomatch x), h⟩⟩ hu

theorem tuple_gtAt (l b : Addr) (items items2 : Array Value) (n n2 : Nat) (dd dd2 : Option Addr) (sl sl2 : Array (Option Value)) (xs ys : List D) (res : Bool) (hr : ordDs .gt xs ys = some res) :
    Meets (Builtin.«tuple.__gt__» ⟨[.ref l, .ref b], []⟩)
      (fun A R s => s.heap.get? l = some { cls := .type "tuple", dict := dd, data := .seq items n, slots := sl } ∧ s.heap.get? b = some { cls := .type "tuple", dict := dd2, data := .seq items2 n2, slots := sl2 } ∧
        C2 .gt A.in1 s items.toList items2.toList xs ys ∧ R (.ok (.ret (.bool res))) s) :=
  .of_wp fun prog w A R s h => by
    obtain ⟨hp, g, d, tk, os⟩ := s; obtain ⟨hl, hb, hC, h⟩ := h
    have f2 := AutoSeq1.sub_tuple_tuple
    have z1 : items.size = xs.length := by rw [← hC.1]; simp
    have z2 : items2.size = ys.length := by rw [← hC.2.1]; simp
    wp_walk using wpAny_loadPart' hl, wpAny_loadPart' hb, wpAny_forIn_list _ (fun rest b s' => b.1 = none ∧ s' = ⟨hp, g, d, tk, os⟩ ∧ ∃ (vs ws : List Value) (xs' ys' : List D), rest = vs.zip ws ∧
      C2 .gt A.in1 ⟨hp, g, d, tk, os⟩ vs ws xs' ys' ∧ xs'.length + items2.size = ys'.length + items.size ∧ ordDs .gt xs' ys' = some res) _
    case turn =>
      rintro ⟨y, x⟩ rest b s' ⟨hb', rfl, vs, ws, xs', ys', hz, hC', hlen, hR⟩
      cases vs with
      | nil => rw [List.zip_nil_left] at hz; cases hz
      | cons v vs =>
        cases ws with
        | nil => rw [List.zip_nil_right] at hz; cases hz
        | cons w' ws =>
          rw [List.zip_cons_cons] at hz
          injection hz with hyx hrest
          injection hyx with hy hx
          subst hy hx
          cases xs' with
          | nil => exact absurd hC'.1 (by simp)
          | cons x0 xs' =>
            cases ys' with
            | nil => exact absurd hC'.2.1 (by simp)
            | cons y0 ys' =>
              rw [ordDs] at hR
              simp only [List.length_cons] at hlen
              obtain ⟨he, hlt⟩ := hC'.2.2 0 _ _ _ _ rfl rfl rfl rfl
              refine wpAny_bind (he prog w _ _ ?_)
              cases e : eqD x0 y0 with
              | true =>
                rw [e] at hR
                simp only [if_true] at hR
                wp_walk
                exact ⟨rfl, rfl, _, _, _, _, hrest, hC'.tail, by omega, hR⟩
              | false =>
                rw [e] at hR
                simp only [Bool.false_eq_true, if_false] at hR
                have hri : ∀ (E : Value → Shared → Prop) (Q : Value → Shared → Prop), Q (.bool res) ⟨hp, g, d, tk, os⟩ → wpAny (model prog w) A.in1 (richCompare .Gt _ _) Q E ⟨hp, g, d, tk, os⟩ := fun E Q q => hlt e res hR prog w E Q q
                wp_walk using hri
                exact ⟨_, rfl, by simpa using h⟩
    case fin =>
      rintro ⟨b1, b2⟩ s' ⟨hb', rfl, vs, ws, xs', ys', hz, hC', hlen, hR⟩
      simp only at hb'
      subst hb'
      have hv : res = decide (items2.size < items.size) := by
        cases xs' with
        | nil =>
          rw [ordDs] at hR
          have := Option.some.inj hR
          rw [← this]
          simp only [List.length_nil] at hlen
          simp only [Ordr.nat]
          congr 1
          simp only [eq_iff_iff]
          omega
        | cons x0 xs' =>
          cases ys' with
          | nil =>
            rw [ordDs] at hR
            have := Option.some.inj hR
            rw [← this]
            simp only [List.length_nil, List.length_cons] at hlen
            simp only [Ordr.nat, List.length_cons]
            congr 1
            simp only [eq_iff_iff]
            omega
          | cons y0 ys' =>
            exfalso
            cases vs with
            | nil => exact absurd hC'.1 (by simp)
            | cons v vs =>
              cases ws with
              | nil => exact absurd hC'.2.1 (by simp)
              | cons w' ws => rw [List.zip_cons_cons] at hz; cases hz
      rw [hv] at h
      wp_walk
      exact ⟨_, rfl, by simpa [Builtin.Tuple.tupleCompareSizes] using h⟩
    case h =>
      exact ⟨rfl, rfl, items.toList, items2.toList, xs, ys, rfl, hC, by omega, hr⟩
theorem RoAt.gt_tup {A : Around} {s : Shared} {l b : Addr} {items items2 : Array Value} {xs ys : List D} {res : Bool} (hl : s.heap.IsTuple l items) (hb : s.heap.IsTuple b items2) (hC : C2 .gt A.in1 s items.toList items2.toList xs ys) (hr : ordDs .gt xs ys = some res) (hu : A.units < cLine) :
    RoAt .Gt A s (.ref l) (.ref b) res := fun prog w E Q h => by
  obtain ⟨⟨cls, dd, data, sl⟩, ho, hc, n, hd⟩ := id hl
  obtain ⟨⟨cls2, dd2, data2, sl2⟩, ho2, hc2, n2, hd2⟩ := id hb
  simp only at hc hd hc2 hd2
  subst hc hd hc2 hd2
  exact richCompare_meets_room (op := .Gt) ⟨_, ho, rfl⟩ ⟨_, ho2, rfl⟩ PySem.F.slot_tuple_gt PySem.F.entry_tuple_gt (PySem.F.args_tuple_gt_2 _ _) (tuple_gtAt l b items items2 n n2 dd dd2 sl sl2 xs ys res hr)
    ⟨ho, ho2, hC, show Value.bool res ≠ Value.notImplemented ∧ Q (.bool res) s from ⟨(fun x => nomatch x), h⟩⟩ hu

theorem tuple_geAt (l b : Addr) (items items2 : Array Value) (n n2 : Nat) (dd dd2 : Option Addr) (sl sl2 : Array (Option Value)) (xs ys : List D) (res : Bool) (hr : ordDs .ge xs ys = some res) :
    Meets (Builtin.«tuple.__ge__» ⟨[.ref l, .ref b], []⟩)
      (fun A R s => s.heap.get? l = some { cls := .type "tuple", dict := dd, data := .seq items n, slots := sl } ∧ s.heap.get? b = some { cls := .type "tuple", dict := dd2, data := .seq items2 n2, slots := sl2 } ∧
        C2 .ge A.in1 s items.toList items2.toList xs ys ∧ R (.ok (.ret (.bool res))) s) :=
  .of_wp fun prog w A R s h => by
    obtain ⟨hp, g, d, tk, os⟩ := s; obtain ⟨hl, hb, hC, h⟩ := h
    have f2 := AutoSeq1.sub_tuple_tuple
    have z1 : items.size = xs.length := by rw [← hC.1]; simp
    have z2 : items2.size = ys.length := by rw [← hC.2.1]; simp
    wp_walk using wpAny_loadPart' hl, wpAny_loadPart' hb, wpAny_forIn_list _ (fun rest b s' => b.1 = none ∧ s' = ⟨hp, g, d, tk, os⟩ ∧ ∃ (vs ws : List Value) (xs' ys' : List D), rest = vs.zip ws ∧
      C2 .ge A.in1 ⟨hp, g, d, tk, os⟩ vs ws xs' ys' ∧ xs'.length + items2.size = ys'.length + items.size ∧ ordDs .ge xs' ys' = some res) _
    case turn =>
      rintro ⟨y, x⟩ rest b s' ⟨hb', rfl, vs, ws, xs', ys', hz, hC', hlen, hR⟩
      cases vs with
      | nil => rw [List.zip_nil_left] at hz; cases hz
      | cons v vs =>
        cases ws with
        | nil => rw [List.zip_nil_right] at hz; cases hz
        | cons w' ws =>
          rw [List.zip_cons_cons] at hz
          injection hz with hyx hrest
          injection hyx with hy hx
          subst hy hx
          cases xs' with
          | nil => exact absurd hC'.1 (by simp)
          | cons x0 xs' =>
            cases ys' with
            | nil => exact absurd hC'.2.1 (by simp)
            | cons y0 ys' =>
              rw [ordDs] at hR
              simp only [List.length_cons] at hlen
              obtain ⟨he, hlt⟩ := hC'.2.2 0 _ _ _ _ rfl rfl rfl rfl
              refine wpAny_bind (he prog w _ _ ?_)
              cases e : eqD x0 y0 with
              | true =>
                rw [e] at hR
                simp only [if_true] at hR
                wp_walk
                exact ⟨rfl, rfl, _, _, _, _, hrest, hC'.tail, by omega, hR⟩
              | false =>
                rw [e] at hR
                simp only [Bool.false_eq_true, if_false] at hR
                have hri : ∀ (E : Value → Shared → Prop) (Q : Value → Shared → Prop), Q (.bool res) ⟨hp, g, d, tk, os⟩ → wpAny (model prog w) A.in1 (richCompare .GtE _ _) Q E ⟨hp, g, d, tk, os⟩ := fun E Q q => hlt e res hR prog w E Q q
                wp_walk using hri
                exact ⟨_, rfl, by simpa using h⟩
    case fin =>
      rintro ⟨b1, b2⟩ s' ⟨hb', rfl, vs, ws, xs', ys', hz, hC', hlen, hR⟩
      simp only at hb'
      subst hb'
      have hv : res = decide (items2.size ≤ items.size) := by
        cases xs' with
        | nil =>
          rw [ordDs] at hR
          have := Option.some.inj hR
          rw [← this]
          simp only [List.length_nil] at hlen
          simp only [Ordr.nat]
          congr 1
          simp only [eq_iff_iff]
          omega
        | cons x0 xs' =>
          cases ys' with
          | nil =>
            rw [ordDs] at hR
            have := Option.some.inj hR
            rw [← this]
            simp only [List.length_nil, List.length_cons] at hlen
            simp only [Ordr.nat, List.length_cons]
            congr 1
            simp only [eq_iff_iff]
            omega
          | cons y0 ys' =>
            exfalso
            cases vs with
            | nil => exact absurd hC'.1 (by simp)
            | cons v vs =>
              cases ws with
              | nil => exact absurd hC'.2.1 (by simp)
              | cons w' ws => rw [List.zip_cons_cons] at hz; cases hz
      rw [hv] at h
      wp_walk
      exact ⟨_, rfl, by simpa [Builtin.Tuple.tupleCompareSizes] using h⟩
    case h =>
      exact ⟨rfl, rfl, items.toList, items2.toList, xs, ys, rfl, hC, by omega, hr⟩
theorem RoAt.ge_tup {A : Around} {s : Shared} {l b : Addr} {items items2 : Array Value} {xs ys : List D} {res : Bool} (hl : s.heap.IsTuple l items) (hb : s.heap.IsTuple b items2) (hC : C2 .ge A.in1 s items.toList items2.toList xs ys) (hr : ordDs .ge xs ys = some res) (hu : A.units < cLine) :
    RoAt .GtE A s (.ref l) (.ref b) res := fun prog w E Q h => by
  obtain ⟨⟨cls, dd, data, sl⟩, ho, hc, n, hd⟩ := id hl
  obtain ⟨⟨cls2, dd2, data2, sl2⟩, ho2, hc2, n2, hd2⟩ := id hb
  simp only at hc hd hc2 hd2
  subst hc hd hc2 hd2
  exact richCompare_meets_room (op := .GtE) ⟨_, ho, rfl⟩ ⟨_, ho2, rfl⟩ PySem.F.slot_tuple_ge PySem.F.entry_tuple_ge (PySem.F.args_tuple_ge_2 _ _) (tuple_geAt l b items items2 n n2 dd dd2 sl sl2 xs ys res hr)
    ⟨ho, ho2, hC, show Value.bool res ≠ Value.notImplemented ∧ Q (.bool res) s from ⟨(fun x => nomatch x), h⟩⟩ hu

section
variable {X : Cx} {pins : List (Addr × Obj)} {σ : St} {H : Hp} {s : Shared}
theorem rep_ord (I : Inv X pins σ H s) (o : Ordr) : ∀ (n : Nat) (A : Around) {x y : V} {a b : D} {u v : Value} {k : Bool}, A.units + n < cLine → a.eqok n = true → b.eqok n = true → Rep All H x a → Rep All H y b → RelV x u → RelV y v →
    ordD o a b = some k → RoAt o.op A s u v k := by
  intro n
  induction n with
  | zero =>
    intro A x y a b u v k hu ha hb rx ry ru rv hk
    cases a with
    | int i =>
      cases b with
      | int j =>
        cases rx; cases ry
        obtain ⟨t, rfl⟩ := ru
        obtain ⟨t', rfl⟩ := rv
        rw [ordD] at hk
        have := Option.some.inj hk
        subst this
        cases o with
        | lt => exact fun prog w E Q h => (PyProof.Rows.lt_int h : wpAny (model prog w) A (compareOp .Lt (.int i t) (.int j t')) Q E s)
        | le => exact fun prog w E Q h => (PyProof.Rows.le_int h : wpAny (model prog w) A (compareOp .LtE (.int i t) (.int j t')) Q E s)
        | gt => exact fun prog w E Q h => (PyProof.Rows.gt_int h : wpAny (model prog w) A (compareOp .Gt (.int i t) (.int j t')) Q E s)
        | ge => exact fun prog w E Q h => (PyProof.Rows.ge_int h : wpAny (model prog w) A (compareOp .GtE (.int i t) (.int j t')) Q E s)
      | _ => simp [ordD] at hk
    | str i =>
      cases b with
      | str j =>
        cases rx; cases ry
        obtain ⟨t, rfl⟩ := ru
        obtain ⟨t', rfl⟩ := rv
        rw [ordD] at hk
        have := Option.some.inj hk
        subst this
        cases o with
        | lt => exact fun prog w E Q h => (PyProof.Rows.lt_str h : wpAny (model prog w) A (compareOp .Lt (.str i t) (.str j t')) Q E s)
        | le => exact fun prog w E Q h => (PySem.P.le_str h : wpAny (model prog w) A (compareOp .LtE (.str i t) (.str j t')) Q E s)
        | gt => exact fun prog w E Q h => (PySem.P.gt_str h : wpAny (model prog w) A (compareOp .Gt (.str i t) (.str j t')) Q E s)
        | ge => exact fun prog w E Q h => (PySem.P.ge_str h : wpAny (model prog w) A (compareOp .GtE (.str i t) (.str j t')) Q E s)
      | _ => simp [ordD] at hk
    | tup _ => simp [D.eqok] at ha
    | _ => cases b <;> simp [ordD] at hk
  | succ n ih =>
    intro A x y a b u v k hu ha hb rx ry ru rv hk
    have hu0 : A.units < cLine := by omega
    have hu1 : A.in1.units + n < cLine := by show A.units + 1 + n < cLine; omega
    cases a with
    | int i =>
      cases b with
      | int j =>
        cases rx; cases ry
        obtain ⟨t, rfl⟩ := ru
        obtain ⟨t', rfl⟩ := rv
        rw [ordD] at hk
        have := Option.some.inj hk
        subst this
        cases o with
        | lt => exact fun prog w E Q h => (PyProof.Rows.lt_int h : wpAny (model prog w) A (compareOp .Lt (.int i t) (.int j t')) Q E s)
        | le => exact fun prog w E Q h => (PyProof.Rows.le_int h : wpAny (model prog w) A (compareOp .LtE (.int i t) (.int j t')) Q E s)
        | gt => exact fun prog w E Q h => (PyProof.Rows.gt_int h : wpAny (model prog w) A (compareOp .Gt (.int i t) (.int j t')) Q E s)
        | ge => exact fun prog w E Q h => (PyProof.Rows.ge_int h : wpAny (model prog w) A (compareOp .GtE (.int i t) (.int j t')) Q E s)
      | _ => simp [ordD] at hk
    | str i =>
      cases b with
      | str j =>
        cases rx; cases ry
        obtain ⟨t, rfl⟩ := ru
        obtain ⟨t', rfl⟩ := rv
        rw [ordD] at hk
        have := Option.some.inj hk
        subst this
        cases o with
        | lt => exact fun prog w E Q h => (PyProof.Rows.lt_str h : wpAny (model prog w) A (compareOp .Lt (.str i t) (.str j t')) Q E s)
        | le => exact fun prog w E Q h => (PySem.P.le_str h : wpAny (model prog w) A (compareOp .LtE (.str i t) (.str j t')) Q E s)
        | gt => exact fun prog w E Q h => (PySem.P.gt_str h : wpAny (model prog w) A (compareOp .Gt (.str i t) (.str j t')) Q E s)
        | ge => exact fun prog w E Q h => (PySem.P.ge_str h : wpAny (model prog w) A (compareOp .GtE (.str i t) (.str j t')) Q E s)
      | _ => simp [ordD] at hk
    | tup ds =>
      cases b with
      | tup es =>
        obtain ⟨p, xs, rfl, e1, r1⟩ := rx.tupAt
        cases ru
        obtain ⟨its1, vr1, h1⟩ := fst_of I e1
        obtain ⟨q, ys, rfl, e2, r2⟩ := ry.tupAt
        cases rv
        obtain ⟨its2, vr2, h2⟩ := fst_of I e2
        rw [D.eqok] at ha hb
        rw [ordD] at hk
        have hC : ∀ o', o' = o → C2 o' A.in1 s its1.toArray.toList its2.toArray.toList ds es := by
          rintro o' rfl
          refine ⟨by rw [List.toList_toArray, ← vr1.length, r1.length], by rw [List.toList_toArray, ← vr2.length, r2.length], fun j v w x y a1 a2 a3 a4 => ?_⟩
          rw [List.toList_toArray] at a1 a2
          obtain ⟨v1, w1, rr1⟩ := r1.get a3
          obtain ⟨v2, w2, rr2⟩ := r2.get a4
          obtain ⟨u1, k1, l1⟩ := vr1.get w1
          obtain ⟨u2, k2, l2⟩ := vr2.get w2
          rw [a1] at k1; cases k1
          rw [a2] at k2; cases k2
          have g1 : x.eqok n = true := by
            have := eqoks_get (j := j) ha (List.getElem?_eq_some_iff.mp a3).1
            rwa [List.getD_eq_getElem?_getD, a3] at this
          have g2 : y.eqok n = true := by
            have := eqoks_get (j := j) hb (List.getElem?_eq_some_iff.mp a4).1
            rwa [List.getD_eq_getElem?_getD, a4] at this
          exact ⟨(rep_eq I n A.in1 hu1 g1 g2 rr1 rr2 l1 l2).2.2, fun _ k hk => ih A.in1 hu1 g1 g2 rr1 rr2 l1 l2 hk⟩
        cases o with
        | lt => exact RoAt.lt_tup h1 h2 (hC .lt rfl) hk hu0
        | le => exact RoAt.le_tup h1 h2 (hC .le rfl) hk hu0
        | gt => exact RoAt.gt_tup h1 h2 (hC .gt rfl) hk hu0
        | ge => exact RoAt.ge_tup h1 h2 (hC .ge rfl) hk hu0
      | _ => simp [ordD] at hk
    | _ => cases b <;> simp [ordD] at hk
end
end Mi
end

section
set_option autoImplicit false
set_option linter.all false
set_option maxRecDepth 100000
set_option maxHeartbeats 1000000
namespace TS
open PySem PyProof.Rows
end TS
end

section
set_option autoImplicit false
set_option linter.all false
set_option maxRecDepth 100000
set_option maxHeartbeats 1000000
namespace Mi
open PySem L2 PySem.SeqAt
open PyProof.Rows (Keyed lt' keyLt' oneLt' SortKind SortSt kindOf tuples' oneType' pairsOf wpS wpS_bind wpS_pure wpS_get wpS_lift keyKind')
variable [KFrag]

section
variable {X : Cx} {pins : List (Addr × Obj)} {σ : L2.St} {H : Hp} {s : Shared}
end
end Mi
end

section
set_option autoImplicit false
set_option linter.all false
set_option maxRecDepth 100000
namespace Mi
open PySem L2 PySem.SeqAt PySem.Spec PyProof.Rows
variable [KFrag]


/-- what comes of data d, in a heap that has grown -/
def kR (H : Hp) (d : D) (fr : Bool) (Q : VK) : Prop := ∀ v H', Same H H' → Rep All H' v d → (fr = true → Rep (New H) H' v d) → Q v H'
def gE (f : FE) (fr : Bool) : TE := fun σ H Q => ∃ ρ d, ER H σ ρ ∧ f ρ = .ok d ∧ kR H d fr Q
def gT (f : FT) : TT := fun σ H Q => ∃ ρ b, ER H σ ρ ∧ f ρ = .ok b ∧ ∀ H', Same H H' → Q b H'
def gA (f : FA) (fr : Bool) : TA := fun σ H Q => ∃ ρ ds, ER H σ ρ ∧ f ρ = .ok ds ∧ ∀ vs H', Same H H' → Reps All H' vs ds → (fr = true → Reps (New H) H' vs ds) → Q vs H'

theorem kR.self {H : Hp} {d : D} {fr : Bool} {Q : VK} {v : V} (q : kR H d fr Q) (r : Rep All H v d) (r2 : fr = true → Rep (New H) H v d) : Q v H := q v H (Same.refl H) r r2
theorem kR.imp {H H' : Hp} {d : D} {fr fr' : Bool} {Q : VK} (q : kR H d fr Q) (s : Same H H') (h : fr = true → fr' = true) : kR H' d fr' Q := fun v H2 s2 r n => q v H2 (s.trans s2) r fun hf => (n (h hf)).mono (Same.new s)
theorem kR.int {H : Hp} {i : Int} {fr : Bool} {Q : VK} (q : kR H (.int i) fr Q) : Q (.int i) H := q.self (.int i) fun _ => .int i
theorem kR.bl {H : Hp} {i : Bool} {fr : Bool} {Q : VK} (q : kR H (.bl i) fr Q) : Q (.bl i) H := q.self (.bl i) fun _ => .bl i
theorem kR.str {H : Hp} {i : Str} {fr : Bool} {Q : VK} (q : kR H (.str i) fr Q) : Q (.str i) H := q.self (.str i) fun _ => .str i
def r2 (f : D → D → Res D) (fr : Bool) : R2 := fun x y H Q => ∃ a b d, Rep All H x a ∧ Rep All H y b ∧ f a b = .ok d ∧ kR H d fr Q
def rs (f : List D → Res D) (fr : Bool) : List V → Hp → VK → Prop := fun xs H Q => ∃ ds d, Reps All H xs ds ∧ f ds = .ok d ∧ kR H d fr Q
def rm (f : D → List D → Res D) (fr : Bool) : V → List V → Hp → VK → Prop := fun x xs H Q => ∃ a ds d, Rep All H x a ∧ Reps All H xs ds ∧ f a ds = .ok d ∧ kR H d fr Q

theorem bindE {α β : Type} {m : Res α} {f : α → Res β} {b : β} (h : (do let x ← m; f x) = .ok b) : ∃ a, m = .ok a ∧ f a = .ok b := Res.bind_ok h

section
variable {X : Cx} {a b c e : Expr} {pos : Pos} {fa fb fc fe : FE} {ra rb rc re : Bool} {ga gb gc : FT}

theorem ER.var {H : Hp} {σ : L2.St} {ρ : List D} {i : Nat} {d : D} (E : ER H σ ρ) (h : bVar i ρ = .ok d) : ∃ v, σ[i]? = some (some v) ∧ Rep All H v d ∧ ρ.getD i .undef = d := by
  have : ρ.getD i .undef = d ∧ d ≠ .undef := by
    unfold bVar at h
    split at h
    · cases h
    · cases h
      refine ⟨rfl, fun z => ?_⟩
      rename_i q
      exact q z
  obtain ⟨e1, e2⟩ := this
  obtain ⟨v, h1, h2⟩ := E i (by rw [e1]; exact e2)
  exact ⟨v, h1, by rw [e1] at h2; exact h2, e1⟩
theorem me_var {i : Nat} {x : Str} (hN : X.N[i]? = some x) (hv : Vis X.env.scope x) (hd : (x == ("__debug__" : Str)) = false := by decide) (hcd : (x == ("__classdict__" : Str)) = false := by decide) : PE X (.Name x pos) (gE (bVar i) false) :=
  PE.imp (pe_var hN hv hd hcd) fun σ H Q ⟨ρ, d, E, h, q⟩ => by
    obtain ⟨v, h1, h2, _⟩ := E.var h
    exact ⟨v, h1, q.self h2 (fun z => by cases z)⟩
theorem me_int {i j} : PE X (.Constant (.int i) j pos) (gE (bC (.int i)) true) := PE.imp pe_int fun σ H Q ⟨ρ, d, E, h, q⟩ => by cases h; exact q.int
theorem me_bl {i j} : PE X (.Constant (.bool i) j pos) (gE (bC (.bl i)) true) := PE.imp pe_bl fun σ H Q ⟨ρ, d, E, h, q⟩ => by cases h; exact q.bl
theorem me_str {i j} : PE X (.Constant (.str i) j pos) (gE (bC (.str i)) true) := PE.imp pe_str fun σ H Q ⟨ρ, d, E, h, q⟩ => by cases h; exact q.str
theorem two {f : D → D → Res D} {fr : Bool} {σ : L2.St} {H : Hp} {Q : VK} (h : gE (b2 f fa fb) fr σ H Q) : tOp (r2 f fr) (gE fa ra) (gE fb rb) σ H Q := by
  obtain ⟨ρ, d, E, h, q⟩ := h
  obtain ⟨x, h1, h⟩ := bindE h
  obtain ⟨y, h2, h⟩ := bindE h
  refine ⟨ρ, x, E, h1, fun v H1 s1 rp1 _ => ⟨ρ, y, E.same s1, h2, fun u H2 s2 rp2 _ => ⟨x, y, d, rp1.same s2, rp2, h, q.imp (s1.trans s2) id⟩⟩⟩
theorem me_op {o : Operator} {f : D → D → Res D} {fr : Bool} (ho : OpR X (binaryOp o) (r2 f fr)) (ha : PE X a (gE fa ra)) (hb : PE X b (gE fb rb)) : PE X (.BinOp a o b pos) (gE (b2 f fa fb) fr) := PE.imp (pe_op ho ha hb) fun _ _ _ => two
theorem me_cmp {o : CmpOp} {f : D → D → Res D} {fr : Bool} (ho : OpR X (compareOp o) (r2 f fr)) (ha : PE X a (gE fa ra)) (hb : PE X b (gE fb rb)) (hm : behindInMarks o b = false) : PE X (.Compare a [o] [b] pos) (gE (b2 f fa fb) fr) := PE.imp (pe_cmpR ho ha hb hm) fun _ _ _ => two
theorem mt_cmp {o : CmpOp} {f : D → D → Res D} {fr : Bool} (ho : OpR X (compareOp o) (r2 f fr)) (ha : PE X a (gE fa ra)) (hb : PE X b (gE fb rb)) (hm : behindInMarks o b = false) : PT X (.Compare a [o] [b] pos) (gT (bTB (b2 f fa fb))) :=
  PT.imp (pt_cmpR ho ha hb hm) fun σ H Q ⟨ρ, k, E, h, q⟩ => by
    obtain ⟨d, h1, h2⟩ := bindE h
    refine two ⟨ρ, d, E, h1, fun v H' s r _ => ?_⟩
    cases d <;> simp only [asB] at h2 <;> cases h2
    cases r
    exact ⟨_, rfl, q H' s⟩
theorem me_ix {f : D → D → Res D} {fr : Bool} (ho : IxR X (r2 f fr)) (ha : PE X a (gE fa ra)) (hb : PE X b (gE fb rb)) (hs : PlainIx b) : PE X (.Subscript a b pos) (gE (b2 f fa fb) fr) := PE.imp (pe_ix ho ha hb hs) fun _ _ _ => two

theorem truV {H : Hp} {v : V} {d : D} {k : Bool} (r : Rep All H v d) (h : truD d = .ok k) (hd : ∀ kvs, d ≠ .dct kvs) (hs : ∀ xs, d ≠ .scr xs) : TruV X.K v H k := by
  cases r with
  | non => cases h; rfl
  | bl b => cases h; rfl
  | int i => cases h; rfl
  | str x =>
    simp only [truD] at h
    split at h
    · rename_i hl
      cases h
      exact ⟨Nat.le_trans (of_decide_eq_true hl) (by rw [sizeLine_eq]; decide), rfl⟩
    · cases h
  | tup e rr => cases h; exact .inr (.inl ⟨_, .of e, by cases rr <;> rfl⟩)
  | lst e p rr => cases h; exact .inl ⟨_, .of e, by cases rr <;> rfl⟩
  | frz e rr => exact absurd rfl (hs _)
  | dK e p rr n => exact absurd rfl (hd _)
  | dT e p rr n => exact absurd rfl (hd _)
theorem mt_val (ha : PE X a (gE fa ra)) (he : ∀ whole, isTrue a X.env whole = (do let v ← whole; standAt a.pos; holding [v] (truthy v)) := by intro _; rfl) : PT X a (gT (bTr fa)) :=
  PT.imp (pt_truth ha he) fun σ H Q ⟨ρ, k, E, h, q⟩ => by
    obtain ⟨d, h1, h2⟩ := bindE h
    refine ⟨ρ, d, E, h1, fun v H' s r _ => ⟨k, truV r ?_ ?_ ?_, q H' s⟩⟩
    · cases d <;> first | exact h2 | cases h2
    · rintro kvs rfl; cases h2
    · rintro kvs rfl; cases h2
theorem mt_not (ha : PT X a (gT ga)) : PT X (.UnaryOp .Not a pos) (gT (bNot ga)) := PT.imp (pt_not ha) fun σ H Q ⟨ρ, k, E, h, q⟩ => by
    obtain ⟨d, h1, h2⟩ := bindE h
    cases h2
    exact ⟨ρ, d, E, h1, fun H' s => q H' s⟩
theorem me_one {op} (ha : PE X a (gE fa ra)) : PE X (.BoolOp op [a] pos) (gE fa ra) := pe_one ha
theorem asB_ok {d : D} {k : Bool} (h : asB d = .ok k) : d = .bl k := by cases d <;> simp only [asB] at h <;> cases h; rfl
theorem asI_ok {d : D} {k : Int} (h : asI d = .ok k) : d = .int k := by cases d <;> simp only [asI] at h <;> cases h; rfl
theorem me_and {rest : List Expr} (ha : PE X a (gE fa ra)) (hb : PE X (.BoolOp .And (b :: rest) pos) (gE fb rb)) : PE X (.BoolOp .And (a :: b :: rest) pos) (gE (bAndV fa fb) rb) := PE.imp (pe_and ha hb) fun σ H Q ⟨ρ, k, E, h, q⟩ => by
    obtain ⟨d, h1, h⟩ := bindE h
    obtain ⟨z, h2, h3⟩ := bindE h
    cases asB_ok h2
    refine ⟨ρ, _, E, h1, fun v H' s r _ => ?_⟩
    cases r
    refine ⟨_, rfl, ?_⟩
    cases z with
    | true => rw [if_pos rfl]; rw [if_pos rfl] at h3; exact ⟨ρ, k, E.same s, h3, q.imp s id⟩
    | false => rw [if_neg (by simp)]; rw [if_neg (by simp)] at h3; cases h3; exact (q.imp s id).bl
theorem ma_nil : PA X [] (gA bNil true) := PA.imp pa_nil fun σ H Q ⟨ρ, ds, E, h, q⟩ => by cases h; exact q [] H (Same.refl H) .nil fun _ => .nil
theorem ma_cons {es : List Expr} {f : FA} {r : Bool} (he : PE X e (gE fe re)) (hes : PA X es (gA f r)) (hs : starEach (e :: es) X.env = (false, eval e X.env) :: starEach es X.env := by rfl) : PA X (e :: es) (gA (bCons fe f) (re && r)) := PA.imp (pa_cons he hes hs) fun σ H Q ⟨ρ, ds, E, h, q⟩ => by
    obtain ⟨x, h1, h⟩ := bindE h
    obtain ⟨xs, h2, h⟩ := bindE h
    cases h
    refine ⟨ρ, x, E, h1, fun v H1 s1 r1 n1 => ⟨ρ, xs, E.same s1, h2, fun vs H2 s2 r2 n2 => q _ _ (s1.trans s2) (.cons (r1.same s2) r2) fun hf => ?_⟩⟩
    obtain ⟨f1, f2⟩ := (Bool.and_eq_true _ _ ▸ hf : re = true ∧ r = true)
    exact .cons ((n1 f1).same s2) ((n2 f2).mono (Same.new s1))
theorem me_lst {es : List Expr} {f : FA} {r : Bool} (h : PA X es (gA f r)) : PE X (.List es pos) (gE (bLst f) r) := PE.imp (pe_lst h) fun σ H Q ⟨ρ, d, E, h, q⟩ => by
    obtain ⟨xs, h1, h⟩ := bindE h
    split at h
    · rename_i hl
      cases h
      refine ⟨ρ, xs, E, h1, fun vs H1 s1 r1 n1 => ⟨?_, fun p hp => ?_⟩⟩
      · rw [r1.length]; exact Nat.le_trans (of_decide_eq_true hl) (by rw [sizeLine_eq]; decide)
      · have sp : Same H1 (upd H1 p (.lst vs)) := Same.upd hp
        exact q _ _ (s1.trans sp) (.lst upd_same trivial (r1.same sp)) fun hf => .lst upd_same (s1.free hp) ((n1 hf).same sp)
    · cases h
end
end Mi
end

section
set_option autoImplicit false
set_option linter.all false
set_option maxRecDepth 100000
namespace Mi
open PySem L2 PySem.SeqAt PySem.Spec PyProof.Rows
variable [KFrag]

section
variable {X : Cx} {a b c e : Expr} {pos : Pos} {fa fb fc fe : FE} {ra rb rc re : Bool} {ga gb gc : FT}

theorem lim_line {n : Nat} (h : decide (n ≤ lim) = true) : n ≤ sizeLine := Nat.le_trans (of_decide_eq_true h) (by rw [sizeLine_eq]; decide)
theorem Rep.lstRd {P : Addr → Prop} {H : Hp} {v : V} {ds : List D} (r : Rep P H v (.lst ds)) : ∃ a xs, v = .ref a ∧ Rd H a (.lst xs) ∧ Reps P H xs ds := by
  cases r with
  | lst e p rr => exact ⟨_, _, rfl, .inl e, rr⟩

theorem PW.imp {X : Cx} {e : PySem.Expr} {t t' : TT} (h : PW X e t) (i : ∀ σ H Q, t' σ H Q → t σ H Q) : PW X e t' := fun wh pins s σ H Q I q => h wh pins s σ H Q I (i σ H Q q)
theorem mw_and1 (ha : PT X a (gT ga)) : PW X (.BoolOp .And [a] pos) (gT ga) := pw_and1 ha
theorem mw_or1 (ha : PT X a (gT ga)) : PW X (.BoolOp .Or [a] pos) (gT ga) := pw_or1 ha
theorem mw_and {rest : List Expr} (ha : PT X a (gT ga)) (hb : PW X (.BoolOp .And (b :: rest) pos) (gT gb)) : PW X (.BoolOp .And (a :: b :: rest) pos) (gT (bAnd ga gb)) := PW.imp (pw_and ha hb) fun σ H Q ⟨ρ, k, E, h, q⟩ => by
  obtain ⟨z, h1, h3⟩ := bindE h
  refine ⟨ρ, z, E, h1, fun H' s => ?_⟩
  cases z with
  | true => rw [if_pos rfl]; rw [if_pos rfl] at h3; exact ⟨ρ, k, E.same s, h3, fun H2 s2 => q H2 (s.trans s2)⟩
  | false => rw [if_neg (by simp)]; rw [if_neg (by simp)] at h3; cases h3; exact q H' s
theorem mw_or {rest : List Expr} (ha : PT X a (gT ga)) (hb : PW X (.BoolOp .Or (b :: rest) pos) (gT gb)) : PW X (.BoolOp .Or (a :: b :: rest) pos) (gT (bOr ga gb)) := PW.imp (pw_or ha hb) fun σ H Q ⟨ρ, k, E, h, q⟩ => by
  obtain ⟨z, h1, h3⟩ := bindE h
  refine ⟨ρ, z, E, h1, fun H' s => ?_⟩
  cases z with
  | true => rw [if_pos rfl]; rw [if_pos rfl] at h3; cases h3; exact q H' s
  | false => rw [if_neg (by simp)]; rw [if_neg (by simp)] at h3; exact ⟨ρ, k, E.same s, h3, fun H2 s2 => q H2 (s.trans s2)⟩

theorem chain3 {f g : D → D → Res D} {r r' : Bool} {σ : L2.St} {H : Hp} {Q : VK} (h : gE (bCh f g fa fb fc) r' σ H Q) : tChain (r2 f r) (r2 g r') (gE fa ra) (gE fb rb) (gE fc rc) σ H Q := by
  obtain ⟨ρ, d, E, h, q⟩ := h
  obtain ⟨x, h1, h⟩ := bindE h
  obtain ⟨y, h2, h⟩ := bindE h
  obtain ⟨z, h3, h⟩ := bindE h
  obtain ⟨k, h4, h7⟩ := bindE h
  refine ⟨ρ, x, E, h1, fun v H1 s1 rp1 _ => ⟨ρ, y, E.same s1, h2, fun u H2 s2 rp2 _ => ⟨x, y, z, rp1.same s2, rp2, h3, fun t H3 s3 rp3 _ => ?_⟩⟩⟩
  have e := asB_ok h4
  subst e
  cases rp3
  refine ⟨k, rfl, ?_⟩
  have s13 := (s1.trans s2).trans s3
  cases k with
  | true =>
    rw [if_pos rfl]
    rw [if_pos rfl] at h7
    obtain ⟨w, h5, h6⟩ := bindE h7
    exact ⟨ρ, w, E.same s13, h5, fun t H4 s4 rp4 _ => ⟨y, w, d, (rp2.same s3).same s4, rp4, h6, q.imp (s13.trans s4) id⟩⟩
  | false =>
    rw [if_neg (by simp)]
    rw [if_neg (by simp)] at h7
    cases h7
    exact (q.imp s13 id).bl
theorem me_chain {o o' : CmpOp} {f g : D → D → Res D} {r r' : Bool} (ho : OpR X (compareOp o) (r2 f r)) (ho' : OpR X (compareOp o') (r2 g r')) (ha : PE X a (gE fa ra)) (hb : PE X b (gE fb rb)) (hc : PE X c (gE fc rc))
    (hm : lastMarks [o, o'] [b, c] = false := by with_unfolding_all rfl) : PE X (.Compare a [o, o'] [b, c] pos) (gE (bCh f g fa fb fc) r') := PE.imp (pe_chain ho ho' ha hb hc hm) fun _ _ _ => chain3
theorem om_add : OpR X (binaryOp .Add) (r2 (binD .add) true) := by
  intro pins s σ H x y v u Q I rx ry h
  obtain ⟨a, b, d, p, q, e, k⟩ := h
  cases p with
  | int i =>
    cases q with
    | int j => cases e; exact op_add pins s σ H _ _ v u Q I rx ry ⟨i, j, rfl, rfl, k.int⟩
    | _ => simp [binD] at e
  | str i =>
    cases q with
    | str j =>
      simp only [binD] at e
      split at e
      · rename_i hl; cases e; exact op_add_str pins s σ H _ _ v u Q I rx ry ⟨i, j, rfl, rfl, lim_line hl, k.str⟩
      · cases e
    | _ => simp [binD] at e
  | non => simp [binD] at e
  | bl _ => simp [binD] at e
  | tup _ _ => simp [binD] at e
  | dK _ _ _ _ => simp [binD] at e
  | dT _ _ _ _ => simp [binD] at e
  | @lst a1 xs ds e1 p1 r1 =>
    have hR : Rep All H (.ref a1) (.lst ds) := .lst e1 p1 r1
    cases b with
    | lst es =>
      simp only [binD] at e
      split at e
      · rename_i hl
        cases e
        rw [Bool.and_eq_true, Bool.and_eq_true] at hl
        obtain ⟨⟨hl, hp1⟩, hp2⟩ := hl
        obtain ⟨l1, xs1, e1', rd1, rr1⟩ := hR.lstRd
        obtain ⟨l2, xs2, rfl, rd2, rr2⟩ := q.lstRd
        cases e1'
        cases rx
        cases ry
        obtain ⟨z, its, n, vr1, ee1⟩ := rd1.ok I.hok
        obtain ⟨z2, its2, n2, vr2, ee2⟩ := rd2.ok I.hok
        have hz : xs1.length + xs2.length ≤ sizeLine := by rw [rr1.length, rr2.length]; exact lim_line hl
        have t1 := vr1.length
        have t2 := vr2.length
        refine PySem.P.add_list ee1 ee2 ?_ (by rw [List.size_toArray, List.size_toArray]; omega)
        have ea : its.toArray ++ its2.toArray = (its ++ its2).toArray := by simp
        rw [ea]
        refine ⟨.ref _, _, I.lnew (t' := s.toks) (vr1.append vr2) (by rw [List.length_append]; omega), rfl, ?_⟩
        have sp : Same H (upd H s.heap.objs.size (.lst (xs1 ++ xs2))) := Same.upd I.fresh
        exact k _ _ sp (.lst upd_same trivial ((rr1.append rr2).same sp)) fun _ => .lst upd_same I.fresh (((rr1.ofPure hp1).append (rr2.ofPure hp2)).same sp)
      · cases e
    | _ => simp [binD] at e
  | frz _ _ => simp [binD] at e
/-- an operation of ints alone -/
theorem om_ints {f : Value → Value → Sem Value} {C : Int → Int → Prop} {g : Int → Int → V} {op : D → D → Res D} (h : OpR X f (rI C g))
    (hi : ∀ i j d, op (.int i) (.int j) = .ok d → C i j ∧ ∃ k, d = .int k ∧ g i j = .int k) (hn : ∀ a b d, op a b = .ok d → (∃ i, a = .int i) ∧ ∃ j, b = .int j) : OpR X f (r2 op true) := by
  intro pins s σ H x y v u Q I rx ry ⟨a, b, d, p, q, e, k⟩
  obtain ⟨⟨i, rfl⟩, ⟨j, rfl⟩⟩ := hn a b d e
  cases p
  cases q
  obtain ⟨hc, m, rfl, hm⟩ := hi i j d e
  exact h pins s σ H _ _ v u Q I rx ry ⟨i, j, rfl, rfl, hc, by rw [hm]; exact k.int⟩
theorem om_mul : OpR X (binaryOp .Mult) (r2 (binD .mul) true) := by
  refine om_ints op_mul (fun i j d e => ?_) fun a b d e => ?_
  · simp only [binD] at e
    split at e
    · rename_i hl
      cases e
      refine ⟨?_, _, rfl, rfl⟩
      simp only [smallB, Bool.or_eq_true, Bool.and_eq_true, decide_eq_true_eq] at hl
      exact hl
    · cases e
  · cases a <;> cases b <;> first | exact ⟨⟨_, rfl⟩, _, rfl⟩ | simp [binD] at e
theorem om_fdiv : OpR X (binaryOp .FloorDiv) (r2 (binD .fdiv) true) := by
  refine om_ints op_fdiv (fun i j d e => ?_) fun a b d e => ?_
  · simp only [binD] at e
    split at e
    · rename_i hl
      cases e
      refine ⟨?_, _, rfl, rfl⟩
      simp only [Bool.and_eq_true, decide_eq_true_eq] at hl
      exact hl
    · cases e
  · cases a <;> cases b <;> first | exact ⟨⟨_, rfl⟩, _, rfl⟩ | simp [binD] at e
theorem om_mod : OpR X (binaryOp .Mod) (r2 (binD .mod) true) := by
  refine om_ints op_mod (fun i j d e => ?_) fun a b d e => ?_
  · simp only [binD] at e
    split at e
    · rename_i hl
      cases e
      refine ⟨?_, _, rfl, rfl⟩
      simp only [Bool.and_eq_true, decide_eq_true_eq] at hl
      exact hl
    · cases e
  · cases a <;> cases b <;> first | exact ⟨⟨_, rfl⟩, _, rfl⟩ | simp [binD] at e
theorem om_eq (hu : X.A.units + 20 < cLine) : OpR X (compareOp .Eq) (r2 (cmpD .eq) true) := by
  intro pins s σ H x y v u Q I rx ry ⟨a, b, d, p, q, e, k⟩
  simp only [cmpD] at e
  split at e
  · rename_i hl
    cases e
    rw [Bool.and_eq_true] at hl
    exact (rep_eq I eqdepth X.A (by have : eqdepth = 12 := rfl; omega) hl.1 hl.2 p q rx ry).1 X.prog X.w X.xe _ ⟨.bl _, H, I, rfl, k.bl⟩
  · cases e
theorem om_ord (o : Ordr) (hu : X.A.units + 20 < cLine) : OpR X (compareOp o.op) (r2 (cmpD (.ord o)) true) := by
  intro pins s σ H x y v u Q I rx ry ⟨a, b, d, p, q, e, k⟩
  simp only [cmpD] at e
  split at e
  · rename_i hl
    rw [Bool.and_eq_true] at hl
    split at e
    · rename_i m hm
      cases e
      have := rep_ord I o eqdepth X.A (by have : eqdepth = 12 := rfl; omega) hl.1 hl.2 p q rx ry hm X.prog X.w X.xe _ (show EP X pins σ Q (.bool m) s from ⟨.bl _, H, I, rfl, k.bl⟩)
      cases o <;> exact this
    · cases e
  · cases e
theorem om_lt (hu : X.A.units + 20 < cLine) : OpR X (compareOp .Lt) (r2 (cmpD (.ord .lt)) true) := om_ord .lt hu
theorem om_le (hu : X.A.units + 20 < cLine) : OpR X (compareOp .LtE) (r2 (cmpD (.ord .le)) true) := om_ord .le hu
theorem om_gt (hu : X.A.units + 20 < cLine) : OpR X (compareOp .Gt) (r2 (cmpD (.ord .gt)) true) := om_ord .gt hu
end
end Mi
end

section
set_option autoImplicit false
set_option linter.all false
set_option maxRecDepth 100000
namespace Mi
open PySem L2 PySem.SeqAt PySem.Spec PyProof.Rows
variable [KFrag]

theorem kD_eq (k q : Key) : eqD (kD k) (kD q) = decide (k = q) := by
  cases k <;> cases q <;> simp [kD, eqD, Bool.beq_eq_decide_eq]
theorem kDs_eq : ∀ (k q : List Key), eqDs (k.map kD) (q.map kD) = decide (k = q)
  | [], [] => by simp [eqDs]
  | [], _ :: _ => by simp [eqDs]
  | _ :: _, [] => by simp [eqDs]
  | a :: k, b :: q => by
    rw [List.map_cons, List.map_cons, eqDs, kD_eq, kDs_eq k q]
    by_cases h : a = b <;> by_cases h' : k = q <;> simp [h, h']
theorem kT_eq (k q : List Key) : eqD (.tup (k.map kD)) (.tup (q.map kD)) = decide (k = q) := by rw [eqD, kDs_eq]
theorem lookK {P : Addr → Prop} {H : Hp} {k : Key} : ∀ {kvs : List (Key × V)} {ds : List (D × D)}, RepK P H kvs ds → (∃ v d, valV kvs k = some v ∧ lookD ds (kD k) = some d ∧ Rep P H v d) ∨ (valV kvs k = none ∧ lookD ds (kD k) = none)
  | _, _, .nil => .inr ⟨rfl, rfl⟩
  | _, _, .cons (k := k') r t => by
    by_cases h : k' = k
    · subst h
      exact .inl ⟨_, _, valV_pos rfl, by rw [lookD, kD_eq, if_pos (by simp)], r⟩
    · rw [lookD, kD_eq, if_neg (by simpa using h), valV_neg (p := (k', _)) h]
      exact lookK t
theorem lookT {P : Addr → Prop} {H : Hp} {k : List Key} : ∀ {kvs : List (List Key × V)} {ds : List (D × D)}, RepT P H kvs ds → (∃ v d, valV kvs k = some v ∧ lookD ds (.tup (k.map kD)) = some d ∧ Rep P H v d) ∨ (valV kvs k = none ∧ lookD ds (.tup (k.map kD)) = none)
  | _, _, .nil => .inr ⟨rfl, rfl⟩
  | _, _, .cons (k := k') r t => by
    by_cases h : k' = k
    · subst h
      exact .inl ⟨_, _, valV_pos rfl, by rw [lookD, kT_eq, if_pos (by simp)], r⟩
    · rw [lookD, kT_eq, if_neg (by simpa using h), valV_neg (p := (k', _)) h]
      exact lookT t
theorem flat_key {H : Hp} {v : V} {d : D} (h : flatKey d = true) (r : Rep All H v d) : ∃ k, v = kV k ∧ d = kD k := by
  cases r <;> simp [flatKey] at h
  · exact ⟨.inl _, rfl, rfl⟩
  · exact ⟨.inr _, rfl, rfl⟩
theorem flat_keys {H : Hp} : ∀ {vs : List V} {ds : List D}, ds.all flatKey = true → Reps All H vs ds → ∃ ks : List Key, vs = ks.map kV ∧ ds = ks.map kD
  | _, _, _, .nil => ⟨[], rfl, rfl⟩
  | _, _, h, .cons r t => by
    rw [List.all_cons, Bool.and_eq_true] at h
    obtain ⟨k, rfl, rfl⟩ := flat_key h.1 r
    obtain ⟨ks, rfl, rfl⟩ := flat_keys h.2 t
    exact ⟨k :: ks, rfl, rfl⟩
theorem key_cases {H : Hp} {y : V} {k : D} (h : keyOk k = true) (r : Rep All H y k) : (∃ q, y = kV q ∧ k = kD q) ∨ ∃ (b : Addr) (ks : List Key), y = .ref b ∧ H b = some (.tup (ks.map kV)) ∧ k = .tup (ks.map kD) := by
  cases k <;> simp [keyOk] at h
  · exact .inl (flat_key rfl r)
  · exact .inl (flat_key rfl r)
  · obtain ⟨a, xs, rfl, e, rr⟩ := r.tupAt
    obtain ⟨ks, rfl, rfl⟩ := flat_keys (List.all_eq_true.mpr h) rr
    exact .inr ⟨a, ks, rfl, e, rfl⟩
theorem isTup_kD (k : Key) : isTup (kD k) = false := by cases k <;> rfl

section
variable {X : Cx} {pins : List (Addr × Obj)} {σ : L2.St} {H : Hp} {s : Shared} {a : Addr}
theorem upd_back {o o' : HO} (e : H a = some o) : upd (upd H a o') a o = H := by
  rw [upd_upd]
  funext b
  by_cases h : b = a
  · subst h; rw [upd_same, e]
  · rw [upd_ne h]
/-- the empty dict is of either kind -/
theorem Inv_emptyT (I : Inv X pins σ H s) (e : H a = some (.dK [])) : Inv X pins σ (upd H a (.dT [])) s := by
  obtain ⟨z, hd, vs, rel, o, es, ep, h1, h2, h3, h4, h5, h6⟩ := dk_of I.hok e
  cases rel
  refine I.write (t' := s.toks) (x := a) (e := a) (h' := s.heap) (by rw [e]; trivial) (.inl rfl) (fun _ _ _ q => q) ⟨o, h1⟩ ?_
  refine ⟨Nat.zero_le _, hd, [], .nil, o, es, ep, h1, h2, h3, ?_, List.nodup_nil⟩
  cases h5' : es.toList with
  | nil => rfl
  | cons _ _ => rw [h5'] at h5; cases h5
theorem Inv_emptyK (I : Inv X pins σ H s) (e : H a = some (.dT [])) : Inv X pins σ (upd H a (.dK [])) s := by
  obtain ⟨z, hd, vs, rel, o, es, ep, h1, h2, h3, h4, h5, h6⟩ := dt_of I.hok e
  cases rel
  refine I.write (t' := s.toks) (x := a) (e := a) (h' := s.heap) (by rw [e]; trivial) (.inl rfl) (fun _ _ _ q => q) ⟨o, h1⟩ ?_
  have h0 : es.toList = [] := h4
  refine ⟨Nat.zero_le _, hd, [], .nil, o, es, ep, h1, h2, h3, ?_, ?_, List.nodup_nil⟩
  · intro x hx
    have : x ∈ es.toList := by simpa using hx
    rw [h0] at this
    cases this
  · rw [h0]; exact .nil
theorem all_kD {P : Addr → Prop} : ∀ {kvs : List (Key × V)} {ds : List (D × D)}, RepK P H kvs ds → ∀ p ∈ ds, isTup p.1 = false
  | _, _, .nil, _, h => by cases h
  | _, _, .cons r t, p, h => by
    rcases List.mem_cons.mp h with rfl | h
    · exact isTup_kD _
    · exact all_kD t p h
theorem all_kT {P : Addr → Prop} : ∀ {kvs : List (List Key × V)} {ds : List (D × D)}, RepT P H kvs ds → ∀ p ∈ ds, isTup p.1 = true
  | _, _, .nil, _, h => by cases h
  | _, _, .cons r t, p, h => by
    rcases List.mem_cons.mp h with rfl | h
    · rfl
    · exact all_kT t p h
/-- the dict asked for a key -/
theorem dgetD {x y : V} {ds : List (D × D)} {k : D} (I : Inv X pins σ H s) (rd : Rep All H x (.dct ds)) (rk : Rep All H y k) (hk : fitK ds k = true) :
    ∃ H1 a o, x = .ref a ∧ Inv X pins σ H1 s ∧ (∀ s', Inv X pins σ H1 s' → Inv X pins σ H s') ∧ DGet H1 a y o ∧ ((o = none ∧ lookD ds k = none) ∨ ∃ v d, o = some v ∧ lookD ds k = some d ∧ Rep All H v d) := by
  unfold fitK at hk
  rw [Bool.and_eq_true] at hk
  obtain ⟨h1, h2⟩ := hk
  cases rd with
  | @dK a kvs ds e _ r n =>
    rcases key_cases h1 rk with ⟨q, rfl, rfl⟩ | ⟨b, ks, rfl, eb, rfl⟩
    · refine ⟨H, a, _, rfl, I, fun _ h => h, .k e, ?_⟩
      rcases lookK (k := q) r with ⟨v, d, g1, g2, g3⟩ | ⟨g1, g2⟩
      · exact .inr ⟨v, d, g1, g2, g3⟩
      · exact .inl ⟨g1, g2⟩
    · cases r with
      | nil =>
        have e2 := upd_back (o' := .dT []) e
        refine ⟨upd H a (.dT []), a, none, rfl, Inv_emptyT I e, fun s' I' => ?_, .t (k := ks) upd_same (by rw [upd_ne (ne_of eb e (by intro z; cases z))]; exact eb), .inl ⟨rfl, rfl⟩⟩
        have := Inv_emptyK I' upd_same
        rwa [e2] at this
      | cons r t =>
        rw [List.all_cons, isTup_kD] at h2
        simp [isTup] at h2
  | @dT a kvs ds e _ r n =>
    rcases key_cases h1 rk with ⟨q, rfl, rfl⟩ | ⟨b, ks, rfl, eb, rfl⟩
    · cases r with
      | nil =>
        have e2 := upd_back (o' := .dK []) e
        refine ⟨upd H a (.dK []), a, none, rfl, Inv_emptyK I e, fun s' I' => ?_, .k (k := q) upd_same, .inl ⟨rfl, rfl⟩⟩
        have := Inv_emptyT I' upd_same
        rwa [e2] at this
      | cons r t =>
        rw [List.all_cons, isTup_kD] at h2
        simp [isTup] at h2
    · refine ⟨H, a, _, rfl, I, fun _ h => h, .t e eb, ?_⟩
      rcases lookT (k := ks) r with ⟨v, d, g1, g2, g3⟩ | ⟨g1, g2⟩
      · exact .inr ⟨v, d, g1, g2, g3⟩
      · exact .inl ⟨g1, g2⟩
theorem look_fit {x : V} {ds : List (D × D)} {k d : D} (rd : Rep All H x (.dct ds)) (hk : keyOk k = true) (h : lookD ds k = some d) : fitK ds k = true := by
  have one : ∀ {ds : List (D × D)}, lookD ds k = some d → ∃ p ∈ ds, eqD p.1 k = true := by
    intro ds
    induction ds with
    | nil => intro h; cases h
    | cons p ds ih =>
      intro h
      obtain ⟨p1, p2⟩ := p
      rw [lookD] at h
      by_cases hq : eqD p1 k = true
      · exact ⟨_, List.mem_cons_self .., hq⟩
      · rw [if_neg hq] at h
        obtain ⟨p, hp, e⟩ := ih h
        exact ⟨p, List.mem_cons_of_mem _ hp, e⟩
  obtain ⟨p, hp, he⟩ := one h
  unfold fitK
  rw [hk, Bool.true_and, List.all_eq_true]
  intro q hq
  have same : isTup p.1 = isTup k := by
    obtain ⟨p1, p2⟩ := p
    cases p1 <;> cases k <;> simp [eqD, keyOk, isTup] at he hk ⊢
  cases rd with
  | dK e _ r n => rw [all_kD r q hq, ← same, all_kD r p hp]; rfl
  | dT e _ r n => rw [all_kT r q hq, ← same, all_kT r p hp]; rfl
end

section
variable {X : Cx} {a b c e : Expr} {pos : Pos} {fa fb fc fe : FE} {ra rb rc re : Bool} {ga gb gc : FT}

noncomputable def datQ (H : Hp) (u : Value) : D := by
  classical
  exact if h : ∃ d, d.eqok eqdepth = true ∧ ∃ v, RelV v u ∧ Rep All H v d then Classical.choose h else .non
theorem datQ_eq {H : Hp} {u : Value} {v : V} {d : D} (hq : d.eqok eqdepth = true) (rv : RelV v u) (r : Rep All H v d) : datQ H u = d := by
  unfold datQ
  have h : ∃ d, d.eqok eqdepth = true ∧ ∃ v, RelV v u ∧ Rep All H v d := ⟨d, hq, v, rv, r⟩
  rw [dif_pos h]
  obtain ⟨h2, v', rv', r'⟩ := Classical.choose_spec h
  have := rv'.inj rv
  subst this
  exact Rep.inj eqdepth h2 hq r' r
theorem any_dat {H : Hp} {a : D} : ∀ {xs : List V} {ds : List D} {its : List Value}, D.eqoks eqdepth ds = true → Reps All H xs ds → Vals xs its → (its.any fun u => eqD (datQ H u) a) = ds.any fun y => eqD y a
  | _, _, _, _, .nil, .nil => rfl
  | _, _, _, h, .cons r t, .cons v vt => by
    rw [D.eqoks, Bool.and_eq_true] at h
    rw [List.any_cons, List.any_cons, datQ_eq h.1 v r, any_dat h.2 t vt]
theorem mem_dat {pins : List (Addr × Obj)} {σ : L2.St} {H : Hp} {s : Shared} (I : Inv X pins σ H s) (hu : X.A.units + 20 < cLine) {a : D} {x : V} {v : Value} (ha : a.eqok eqdepth = true) (rx : Rep All H x a) (rv : RelV x v)
    {xs : List V} {ds : List D} {its : List Value} (h : D.eqoks eqdepth ds = true) (r : Reps All H xs ds) (vr : Vals xs its) (u : Value) (hm : u ∈ its) : EqAt X.A.in1 s u v (eqD (datQ H u) a) := by
  obtain ⟨j, hj, e⟩ := List.getElem_of_mem hm
  have hj' : j < ds.length := by rw [← r.length, vr.length]; exact hj
  obtain ⟨w, h1, h2⟩ := r.get (i := j) (d := ds[j]) (by simp [hj'])
  obtain ⟨u', h3, h4⟩ := vr.get h1
  rw [List.getElem?_eq_getElem hj, e] at h3
  cases h3
  have hd : ds[j].eqok eqdepth = true := by
    have := eqoks_get (j := j) h hj'
    rwa [List.getD_eq_getElem?_getD, List.getElem?_eq_getElem hj'] at this
  rw [datQ_eq hd h4 h2]
  exact (rep_eq I eqdepth X.A.in1 (by show X.A.units + 1 + 12 < cLine; omega) hd ha h2 rx h4 rv).2.2
theorem om_in (hu : X.A.units + 20 < cLine) : OpR X (compareOp .In) (r2 (cmpD .isin) true) := by
  intro pins s σ H x y v u Q I rx ry ⟨a, b, d, p, q, e, k⟩
  cases b with
  | tup ys =>
    simp only [cmpD] at e
    split at e
    · rename_i hl
      cases e
      rw [Bool.and_eq_true] at hl
      obtain ⟨l, xs, rfl, ee, rr⟩ := q.tupAt
      cases ry
      obtain ⟨its, vr, pl⟩ := fst_of I ee
      refine in_tupleAt (fun u => eqD (datQ H u) a) pl (fun w hw => mem_dat I hu hl.1 p rx hl.2 rr vr w (by simpa using hw)) ⟨.bl _, H, I, rfl, ?_⟩
      rw [show its.toArray.any (fun u => eqD (datQ H u) a) = its.any (fun u => eqD (datQ H u) a) by simp, any_dat hl.2 rr vr]
      exact k.bl
    · cases e
  | lst ys =>
    simp only [cmpD] at e
    split at e
    · rename_i hl
      cases e
      rw [Bool.and_eq_true] at hl
      obtain ⟨l, xs, rfl, ee, rr⟩ := q.lstAt (K := X.K)
      cases ry
      obtain ⟨its, vr, pl⟩ := lst_of I ee
      refine in_listAt (fun u => eqD (datQ H u) a) pl (fun w hw => mem_dat I hu hl.1 p rx hl.2 rr vr w (by simpa using hw)) ⟨.bl _, H, I, rfl, ?_⟩
      rw [show its.toArray.any (fun u => eqD (datQ H u) a) = its.any (fun u => eqD (datQ H u) a) by simp, any_dat hl.2 rr vr]
      exact k.bl
    · cases e
  | dct kvs =>
    simp only [cmpD] at e
    split at e
    · rename_i hl
      cases e
      obtain ⟨H1, a1, o, rfl, I1, bk, g, hc⟩ := dgetD I q p hl
      cases ry
      refine d_in (by omega) I1 g rx fun s' I' => ⟨.bl _, H, bk s' I', rfl, ?_⟩
      rcases hc with ⟨rfl, h2⟩ | ⟨w, dd, rfl, h2, _⟩
      · rw [h2] at k; exact k.bl
      · rw [h2] at k; exact k.bl
    · cases e
  | _ => simp [cmpD] at e
theorem atI_of {α : Type} (xs : List α) (i : Int) : L2.atI xs i = (ixD xs.length i).bind fun j => xs[j]? := rfl
theorem Reps.atI {P : Addr → Prop} {H : Hp} {xs : List V} {ds : List D} {i : Int} {d : D} (r : Reps P H xs ds) (h : ((ixD ds.length i).bind fun j => ds[j]?) = some d) : ∃ v, L2.atI xs i = some v ∧ Rep P H v d := by
  rw [atI_of, r.length]
  cases hi : ixD ds.length i with
  | none => rw [hi] at h; cases h
  | some j =>
    rw [hi] at h
    obtain ⟨v, h1, h2⟩ := r.get h
    exact ⟨v, h1, h2⟩
theorem tail_dict {X : Cx} {value slice : Expr} {pins : List (Addr × Obj)} {s : Shared} {σ : L2.St} {H : Hp} {a : Addr} {y v' : V} {u : Value} {Q : VK} (hu : X.A.units + 20 < cLine) (I : Inv X pins σ H s) (g : DGet H a y (some v')) (ry : RelV y u) {H' : Hp}
    (hs : subscripted slice false (.ref a) u = operate [.ref a, u] (getItem (.ref a) u)) (bk : ∀ s', Inv X pins σ H s' → Inv X pins σ H' s') (q : Q v' H') :
    wpAny (model X.prog X.w) X.A (subscriptTail value slice (.ref a) u) (EP X pins σ Q) X.xe s := by
  have hT := dict_typeIs I g
  unfold subscriptTail
  refine wpAny_bind ?_
  rw [getitemInPython_of_ne hT.not_modules]
  refine wpAny_bind (wpAny_specialOf hT PySem.F.slot_dict_getitem.lookup ?_)
  have fin : wpAny (model X.prog X.w) X.A (subscripted slice false (.ref a) u) (fun r s₃ => wpAny (model X.prog X.w) X.A (letTemporaryGo value (.ref a) r >>= fun _ => pure r) (EP X pins σ Q) X.xe s₃) X.xe s := by
    rw [hs]
    exact wpAny_operating (d_getItem (by omega) I g ry fun w' s3 I3 rw' => wpAny_bind (wpAny_letTemporaryGo (wpAny_pure ⟨v', H', bk s3 I3, rw', q⟩)))
  first
    | exact wpAny_pure (wpAny_bind fin)
    | exact wpAny_bind (wpAny_pure (wpAny_bind fin))
    | exact wpAny_bind fin
theorem om_ix (hK : KFrag.K = X.K) (hu : X.A.units + 20 < cLine) : IxR X (r2 getD false) := by
  intro value slice pins s σ H x y v u Q I rx ry ⟨a, b, d, p, q, e, k⟩ hs
  cases a with
  | tup ys =>
    cases b <;> simp only [getD] at e <;> (try (cases e; done))
    have e' := Res.ofOpt_ok e
    obtain ⟨l, xs, rfl, ee, rr⟩ := p.tupAt
    cases q
    obtain ⟨w, h1, h2⟩ := rr.atI e'
    exact ix_tup value slice pins s σ H _ _ v u Q I rx ry ⟨l, xs, _, w, rfl, rfl, .of ee, h1, k.self h2 fun z => by cases z⟩ hs
  | lst ys =>
    cases b <;> simp only [getD] at e <;> (try (cases e; done))
    have e' := Res.ofOpt_ok e
    obtain ⟨l, xs, rfl, ee, rr⟩ := p.lstAt (K := X.K)
    cases q
    obtain ⟨w, h1, h2⟩ := rr.atI e'
    exact ix_list value slice pins s σ H _ _ v u Q I rx ry ⟨l, xs, _, w, rfl, rfl, ee, h1, k.self h2 fun z => by cases z⟩ hs
  | scr ys =>
    cases b <;> simp only [getD] at e <;> (try (cases e; done))
    have e' := Res.ofOpt_ok e
    cases p with
    | frz ee rr =>
      cases q
      obtain ⟨w, h1, h2⟩ := rr.atI e'
      exact ix_list value slice pins s σ H _ _ v u Q I rx ry ⟨_, _, _, w, rfl, rfl, ee.sq hK, h1, k.self h2 fun z => by cases z⟩ hs
  | str z =>
    cases b <;> simp only [getD] at e <;> (try (cases e; done))
    split at e
    · rename_i hl
      have e' := Res.ofOpt_ok e
      obtain ⟨cc, h1, h2⟩ := Option.map_eq_some_iff.mp e'
      subst h2
      cases p
      cases q
      exact ix_str value slice pins s σ H _ _ v u Q I rx ry ⟨z, _, cc, rfl, rfl, lim_line hl, h1, k.str⟩ hs
    · cases e
  | dct kvs =>
    have e' : keyOk b = true ∧ lookD kvs b = some d := by
      cases b <;> simp only [getD] at e <;> (split at e <;> first | (rename_i hl; exact ⟨hl, Res.ofOpt_ok e⟩) | cases e)
    obtain ⟨H1, a1, o, rfl, I1, bk, g, hc⟩ := dgetD I p q (look_fit p e'.1 e'.2)
    cases rx
    rcases hc with ⟨rfl, h2⟩ | ⟨w, dd, rfl, h2, h3⟩
    · rw [h2] at e'; cases e'.2
    · rw [h2] at e'
      cases e'.2
      exact tail_dict hu I1 g ry hs bk (k.self h3 fun z => by cases z)
  | _ => cases b <;> simp [getD] at e

def gO (f : List D → Res (Option Int)) : TO := fun σ H Q => ∃ ρ i, ER H σ ρ ∧ f ρ = .ok i ∧ ∀ H', Same H H' → Q i H'
theorem PO.imp {X : Cx} {e : Option PySem.Expr} {t t' : TO} (h : PO X e t) (i : ∀ σ H Q, t' σ H Q → t σ H Q) : PO X e t' := fun pins s σ H Q I q => h pins s σ H Q I (i σ H Q q)
theorem mo_none : PO X none (gO bNone) := PO.imp po_none fun σ H Q ⟨ρ, i, E, h, q⟩ => by cases h; exact q H (Same.refl H)
theorem mo_some (ha : PE X a (gE fa ra)) : PO X (some a) (gO (bSome fa)) := PO.imp (po_some ha) fun σ H Q ⟨ρ, i, E, h, q⟩ => by
  obtain ⟨x, h1, h⟩ := bindE h
  obtain ⟨j, h2, h⟩ := bindE h
  cases h
  have e := asI_ok h2
  subst e
  exact ⟨ρ, _, E, h1, fun v H' s r _ => by cases r; exact ⟨j, rfl, q H' s⟩⟩
theorem sIx_eq (n d : Nat) (o : Option Int) : HT.sIx n d o = sIxD n d o := by
  cases o with
  | none => rfl
  | some v =>
    show (if v < 0 then (v + (n : Int)).toNat else min v.toNat n) = (if v < 0 then (max (v + (n : Int)) 0).toNat else (min v (n : Int)).toNat)
    split <;> omega
theorem Reps.cut {P : Addr → Prop} {H : Hp} {xs : List V} {ds : List D} (r : Reps P H xs ds) (lo hi : Option Int) : Reps P H (cutV xs lo hi) (cutD ds lo hi) := by
  unfold cutV cutD
  rw [r.length]
  simp only [sIx_eq]
  exact (r.drop _).take _
def rSl : V → Option Int → Option Int → Hp → VK → Prop := fun x lo hi H Q => ∃ a d, Rep All H x a ∧ slcD a lo hi = .ok d ∧ kR H d true Q
theorem om_sl (hK : KFrag.K = X.K) : SlR X rSl := by
  intro pins s σ H x v vl vu lo hi sl Q I rx hs pl pu ⟨a, d, p, e, k⟩
  cases a <;> simp only [slcD] at e <;> (try (cases e; done))
  · split at e
    · cases e
    · rename_i hw
      cases e
      obtain ⟨l, xs, rfl, ee, rr⟩ := p.tupAt
      refine sl_tup pins s σ H _ v vl vu lo hi sl Q I rx hs pl pu ⟨l, xs, rfl, .of ee, ?_, fun p hp => ?_⟩
      · simp only [sIx_eq, rr.length]
        simp only [Bool.not_eq_true', Bool.or_eq_true, not_or, Bool.not_eq_false', decide_eq_true_eq] at hw
        exact hw.2
      · have sp : Same H (upd H p (.tup (cutV xs lo hi))) := Same.upd hp
        have hp2 : D.pures ‹List D› = true := by
          simp only [Bool.or_eq_true, not_or, Bool.not_eq_true'] at hw
          simpa using hw.1
        exact k _ _ sp (.tup upd_same ((rr.cut lo hi).same sp)) fun z => .tup upd_same (((rr.ofPure hp2).cut lo hi).same sp)
  · split at e
    · rename_i hl
      cases e
      obtain ⟨l, xs, rfl, ee, rr⟩ := p.lstAt (K := X.K)
      refine sl_list pins s σ H _ v vl vu lo hi sl Q I rx hs pl pu ⟨l, xs, rfl, ee, fun p hp => ?_⟩
      have sp : Same H (upd H p (.lst (cutV xs lo hi))) := Same.upd hp
      exact k _ _ sp (.lst upd_same trivial ((rr.cut lo hi).same sp)) fun z => .lst upd_same hp (((rr.ofPure hl).cut lo hi).same sp)
    · cases e
  · split at e
    · rename_i hl
      cases e
      cases p with
      | @frz l xs ds ee rr =>
        refine sl_list pins s σ H _ v vl vu lo hi sl Q I rx hs pl pu ⟨l, xs, rfl, ee.sq hK, fun p hp => ?_⟩
        have sp : Same H (upd H p (.lst (cutV xs lo hi))) := Same.upd hp
        exact k _ _ sp (.lst upd_same trivial ((rr.cut lo hi).same sp)) fun z => .lst upd_same hp (((rr.ofPure hl).cut lo hi).same sp)
    · cases e
end
end Mi
end

section
set_option autoImplicit false
set_option linter.all false
set_option maxRecDepth 100000
namespace PySem.Mm
open PySem

section
variable {prog : Program} {w : World} {A : Around} {R : Result → Shared → Prop} {I S : Addr} {fp wr : List Addr} {n : Nat} {P : Nat → Value → Prop} {St : Nat → Heap → Prop} {bt : Nat → Nat → Bool} {Gd : Shared → Prop} {op : CmpOp}

end

section
variable {prog : Program} {w : World} {A : Around} {E : Value → Shared → Prop} {s : Shared} {Q : Value → Shared → Prop}
end
end PySem.Mm
end

section
set_option autoImplicit false
set_option linter.all false
set_option maxRecDepth 100000
namespace Mi
open PySem L2 PySem.SeqAt PySem.Spec PyProof.Rows
variable [KFrag]


section
variable {X : Cx} {pins : List (Addr × Obj)} {σ : L2.St} {H : Hp} {s : Shared}
end

section
variable {X : Cx}
end
end Mi
end

section
set_option autoImplicit false
set_option linter.all false
namespace PySem.Mm
open PySem PyProof.Rows PySem.W
end PySem.Mm
end

section
set_option autoImplicit false
set_option linter.all false
set_option maxRecDepth 100000
namespace Mi
open PySem L2 PySem.SeqAt PySem.Spec PyProof.Rows
variable [KFrag]

section
variable {X : Cx} {a b c e : Expr} {es : List Expr} {pos p : Pos} {fa fb fc fe : FE} {ra rb rc re : Bool} {fs : FA} {rr : Bool} {x : Str} {id T : String}

theorem one_of {P : Addr → Prop} {H : Hp} {xs : List V} {us : List Value} {d : D} (r : Reps P H xs [d]) (vr : Vals xs us) : ∃ v u, xs = [v] ∧ us = [u] ∧ Rep P H v d ∧ RelV v u := by
  cases r with
  | cons r t =>
    cases t
    cases vr with
    | cons v vt =>
      cases vt
      exact ⟨_, _, rfl, rfl, r, v⟩
theorem call_imp {f : List D → Res D} {fr : Bool} {σ : L2.St} {H : Hp} {Q : VK} (h : gE (bCall f fs) fr σ H Q) : tCB (rs f fr) (gA fs rr) σ H Q := by
  obtain ⟨ρ, d, E, h, q⟩ := h
  obtain ⟨ds, h1, h2⟩ := bindE h
  exact ⟨ρ, ds, E, h1, fun vs H1 s1 r1 _ => ⟨ds, d, r1, h2, q.imp s1 id⟩⟩
theorem me_callB {f : List D → Res D} {fr : Bool} (hc : CallR X (.builtin id) (rs f fr)) (hg : Gl X x) (hm : X.mg x = none) (hv : bootBuiltins x = some (.builtin id)) (ha : PA X (e :: es) (gA fs rr)) (hn : x ≠ "__name__" := by decide) (hdb : (x == ("__debug__" : Str)) = false := by decide)
    (he : starEach (e :: es) X.env = (false, eval e X.env) :: starEach es X.env := by rfl) (hpl : (backTo pos (starEach es X.env)).any (·.1) = false := by rfl) : PE X (.Call (.Name x p) (e :: es) [] pos) (gE (bCall f fs) fr) :=
  PE.imp (pe_callB hc hg hm hv ha hn hdb he hpl) fun _ _ _ => call_imp
theorem cl_len (hK : KFrag.K = X.K) : CallR X (.builtin "len") (rs lenD true) := by
  intro pins s σ H xs us Q I vr ⟨ds, d, r, e, k⟩
  unfold lenD at e
  split at e
  · cases e
    obtain ⟨vv, uu, rfl, rfl, r, v⟩ := one_of r vr
    obtain ⟨l, ys, rfl, hl, rr⟩ := r.tupAt
    cases v
    exact call_len_seq pins s σ H [.ref l] [.ref l] Q I (.cons rfl .nil) ⟨l, ys, rfl, .inr (.of hl), by rw [rr.length]; exact k.int⟩
  · cases e
    obtain ⟨vv, uu, rfl, rfl, r, v⟩ := one_of r vr
    obtain ⟨l, ys, rfl, hl, rr⟩ := r.lstAt (K := X.K)
    cases v
    exact call_len_seq pins s σ H [.ref l] [.ref l] Q I (.cons rfl .nil) ⟨l, ys, rfl, .inl hl, by rw [rr.length]; exact k.int⟩
  · cases e
    obtain ⟨vv, uu, rfl, rfl, r, v⟩ := one_of r vr
    cases r with
    | @frz l xs ds ee rr =>
      cases v
      exact call_len_seq pins s σ H [.ref l] [.ref l] Q I (.cons rfl .nil) ⟨l, xs, rfl, .inl (ee.sq hK), by rw [rr.length]; exact k.int⟩
  · split at e
    · rename_i hl
      cases e
      obtain ⟨vv, uu, rfl, rfl, r, v⟩ := one_of r vr
      cases r
      exact call_len_str pins s σ H _ _ Q I (.cons v .nil) ⟨_, rfl, lim_line hl, k.int⟩
    · cases e
  · cases e

theorem isi {pins : List (Addr × Obj)} {s : Shared} {σ : L2.St} {H : Hp} {v : V} {u : Value} {d : D} {t : Ty} {k : Bool} (I : Inv X pins σ H s) (r : Rep All H v d) (ru : RelV v u) (h : isTy t d = .ok k) {Q : Value → Shared → Prop}
    (q : ∀ tk, Q (.bool k) { s with toks := tk }) : wpAny (model X.prog X.w) X.A (call (.builtin "isinstance") [u, .type t.nm]) Q X.xe s := by
  have q0 : Q (.bool k) s := q s.toks
  cases r with
  | non => cases ru; cases t <;> simp only [isTy] at h <;> cases h <;> first | exact IsiPair.NoneType_int (q _) | exact IsiPair.NoneType_str (q _) | exact IsiPair.NoneType_bool (q _) | exact IsiPair.NoneType_list (q _) | exact IsiPair.NoneType_tuple (q _) | exact IsiPair.NoneType_dict (q _)
  | bl b => cases ru; cases t <;> simp only [isTy] at h <;> cases h <;> first | exact IsiPair.bool_int q0 | exact IsiPair.bool_str (q _) | exact IsiPair.bool_bool q0 | exact IsiPair.bool_list (q _) | exact IsiPair.bool_tuple (q _) | exact IsiPair.bool_dict (q _)
  | int b => obtain ⟨tt, rfl⟩ := ru; cases t <;> simp only [isTy] at h <;> cases h <;> first | exact IsiPair.int_int q0 | exact IsiPair.int_str (q _) | exact IsiPair.int_bool (q _) | exact IsiPair.int_list (q _) | exact IsiPair.int_tuple (q _) | exact IsiPair.int_dict (q _)
  | str b => obtain ⟨tt, rfl⟩ := ru; cases t <;> simp only [isTy] at h <;> cases h <;> first | exact IsiPair.str_int (q _) | exact IsiPair.str_str q0 | exact IsiPair.str_bool (q _) | exact IsiPair.str_list (q _) | exact IsiPair.str_tuple (q _) | exact IsiPair.str_dict (q _)
  | tup e rr =>
    cases ru
    obtain ⟨its, vr, o, ho, hc, _⟩ := fst_of I e
    cases t <;> simp only [isTy] at h <;> cases h <;> first | exact IsiPair.tuple_int ho hc (q _) | exact IsiPair.tuple_str ho hc (q _) | exact IsiPair.tuple_bool ho hc (q _) | exact IsiPair.tuple_list ho hc (q _) | exact IsiPair.tuple_tuple ho hc q0 | exact IsiPair.tuple_dict ho hc (q _)
  | lst e p rr =>
    cases ru
    obtain ⟨its, vr, o, ho, hc, _⟩ := lst_of I (.of e)
    cases t <;> simp only [isTy] at h <;> cases h <;> first | exact IsiPair.list_int ho hc (q _) | exact IsiPair.list_str ho hc (q _) | exact IsiPair.list_bool ho hc (q _) | exact IsiPair.list_list ho hc q0 | exact IsiPair.list_tuple ho hc (q _) | exact IsiPair.list_dict ho hc (q _)
  | frz e rr => cases t <;> cases h
  | dK e p rr n =>
    cases ru
    obtain ⟨_, _, _, _, o, _, _, ho, hx, _⟩ := dk_of I.hok e
    have hc := hx.1
    cases t <;> simp only [isTy] at h <;> cases h <;> first | exact IsiPair.dict_int ho hc (q _) | exact IsiPair.dict_str ho hc (q _) | exact IsiPair.dict_bool ho hc (q _) | exact IsiPair.dict_list ho hc (q _) | exact IsiPair.dict_tuple ho hc (q _) | exact IsiPair.dict_dict ho hc q0
  | dT e p rr n =>
    cases ru
    obtain ⟨_, _, _, _, o, _, _, ho, hx, _⟩ := dt_of I.hok e
    have hc := hx.1
    cases t <;> simp only [isTy] at h <;> cases h <;> first | exact IsiPair.dict_int ho hc (q _) | exact IsiPair.dict_str ho hc (q _) | exact IsiPair.dict_bool ho hc (q _) | exact IsiPair.dict_list ho hc (q _) | exact IsiPair.dict_tuple ho hc (q _) | exact IsiPair.dict_dict ho hc q0
def rIsi (t : Ty) : List V → Hp → VK → Prop := fun xs H Q => ∃ v d k, xs = [v, .ty t.nm] ∧ Rep All H v d ∧ isTy t d = .ok k ∧ Q (.bl k) H
theorem cl_isi (t : Ty) : CallR X (.builtin "isinstance") (rIsi t) := by
  intro pins s σ H xs us Q I vr ⟨v, d, k, e, r, h, q⟩
  subst e
  cases vr with
  | cons rv vt =>
    cases vt with
    | cons rt vt =>
      cases vt
      cases rt
      exact isi I r rv h fun tk => ⟨.bl k, H, I.tok tk, rfl, q⟩
/-- isinstance(a, T), T a type's own name -/
theorem me_isi (t : Ty) {y : Str} {p2 : Pos} (ha : PE X a (gE fa ra)) (hg : Gl X "isinstance") (hm : X.mg "isinstance" = none) (hv : bootBuiltins "isinstance" = some (.builtin "isinstance")) (gy : Gl X y) (my : X.mg y = none) (vy : bootBuiltins y = some (.type t.nm))
    (hy : y ≠ "__name__" := by decide) (hyd : (y == ("__debug__" : Str)) = false := by decide)
    (he : starEach [a, .Name y p2] X.env = (false, eval a X.env) :: starEach [.Name y p2] X.env := by rfl) (he2 : starEach [.Name y p2] X.env = (false, eval (.Name y p2) X.env) :: starEach [] X.env := by rfl)
    (hpl : (backTo pos (starEach [.Name y p2] X.env)).any (·.1) = false := by rfl) : PE X (.Call (.Name "isinstance" p) [a, .Name y p2] [] pos) (gE (b1 (isTyD t) fa) true) :=
  PE.imp (pe_callB (cl_isi t) hg hm hv (pa_cons ha (pa_cons (pe_bltn gy my vy (v := .ty t.nm) rfl hy hyd) pa_nil he2) he) (by decide) (by decide) he hpl) fun σ H Q ⟨ρ, d, E, h, q⟩ => by
    obtain ⟨x, h1, h⟩ := bindE h
    obtain ⟨k, h2, h⟩ := bindE h
    cases h
    exact ⟨ρ, x, E, h1, fun v H1 s1 r1 _ => ⟨v, x, k, rfl, r1, h2, (q.imp s1 id).bl⟩⟩

theorem me_bm {o : Expr} {fo : FE} {ro fr : Bool} {name : Str} {apos cpos : Pos} {f : D → List D → Res D} (pa : PlainAttrs T) (slot : Slot T name id) (hty : typeOf (.builtin id) = pure (.type "method_descriptor")) (hm : MtR X id (rm f fr)) (ho : PE X o (gE fo ro)) (ha : PA X (e :: es) (gA fs rr))
    (hT : ∀ (d : D) (ds : List D) (r : D) (v : V) (H : Hp), f d ds = .ok r → Rep All H v d → tyV X.K T v H)
    (hbase : attributeBase o name X.env (eval o X.env) = eval o X.env := by rfl)
    (hfew : ((backTo cpos (starEach (e :: es) X.env)).all (fun x => !x.1) && (backToKw cpos (keywordEach [] X.env)).all (fun x => x.1.isSome)
      && decide ((e :: es).length + ([] : List Keyword).length + (if ([] : List Keyword).isEmpty then 0 else 1) < 30)) = true := by rfl)
    (hline : (apos.endLine == cpos.line) = true := by rfl) (hs : starEach (e :: es) X.env = (false, eval e X.env) :: starEach es X.env := by rfl) (hplain : (backTo cpos (starEach es X.env)).any (·.1) = false := by rfl) :
    PE X (.Call (.Attribute o name apos) (e :: es) [] cpos) (gE (bM f fo fs) fr) :=
  PE.imp (pe_bm pa slot hty hm ho ha hbase hfew hline hs hplain) fun σ H Q ⟨ρ, d, E, h, q⟩ => by
    obtain ⟨x, h1, h⟩ := bindE h
    obtain ⟨ds, h2, h⟩ := bindE h
    exact ⟨ρ, x, E, h1, fun v H1 s1 r1 _ => ⟨hT x ds d v H1 h r1, ρ, ds, E.same s1, h2, fun vs H2 s2 r2 _ => ⟨x, ds, d, r1.same s2, r2, h, q.imp (s1.trans s2) fun z => z⟩⟩⟩
def spD (f : List D → Res D) (n : Nat) : Sp := fun vs H Q _ => ∃ ds d, ds.length = n ∧ Reps All H vs ds ∧ f ds = .ok d ∧ kR H d true Q
theorem spD_len {f : List D → Res D} {n : Nat} {vs : List V} {H : Hp} {Q : VK} {E : XK} (h : spD f n vs H Q E) : vs.length = n := by
  obtain ⟨ds, d, h1, r, _⟩ := h
  rw [r.length, h1]
theorem me_call {k : Nat} {fad : Addr} {fd : FuncData} {ps : List Str} {f : List D → Res D} {n : Nat} (F : FnOk X.prog X.w X.K X.mg X.base CX0 k fad fd ps (spD f n)) (hr : Room k X.A) (hg : Gl X x) (hm : X.mg x = some (.ref fad)) (hk : PySem.W.keepIn X.K (.ref fad) = true) (hb : Binds X.K fd ps [])
    (ha : PA X (e :: es) (gA fs rr)) (hdb : (x == ("__debug__" : Str)) = false := by decide) (he : starEach (e :: es) X.env = (false, eval e X.env) :: starEach es X.env := by rfl) (hpl : (backTo pos (starEach es X.env)).any (·.1) = false := by rfl) :
    PE X (.Call (.Name x p) (e :: es) [] pos) (gE (bCall (argN n f) fs) true) :=
  PE.imp (pe_call F hr hg hm hk hb .nil pass0 ha hdb he hpl) fun σ H Q ⟨ρ, d, E, h, q⟩ => by
    obtain ⟨ds, h1, h⟩ := bindE h
    unfold argN at h
    split at h
    · rename_i hl
      exact ⟨ρ, ds, E, h1, fun vs H1 s1 r1 _ => ⟨ds, d, of_decide_eq_true hl, by rw [List.append_nil]; exact r1, h, q.imp s1 id⟩⟩
    · cases h
end
end Mi
end

section
set_option autoImplicit false
set_option linter.all false
set_option maxRecDepth 100000
namespace Mi
open PySem L2 PySem.SeqAt PySem.Spec PyProof.Rows
/-- the signs of a text, one by one -/
def charsD (x : Str) : List D := x.cps.toList.map fun c => D.str ⟨#[c]⟩
def enumL (xs : List D) : List D := xs.zipIdx.map fun p => .tup [.int p.2, p.1]
variable [KFrag]

def Itss (x : Str) : It := ⟨fun i _ => i < x.cps.size, fun i H v H' => H' = H ∧ ∃ c, x.cps[i]? = some c ∧ v = .str ⟨#[c]⟩, fun i _ => x.cps.size ≤ i⟩
/-- a list's items with their places, each pair a new tuple -/
def Ite (K : PySem.W.Frag) (a : Addr) : It :=
  ⟨fun i H => ∃ xs x, SqL K H a xs ∧ xs[i]? = some x, fun i H v H' => ∃ t x, (∀ xs, SqL K H a xs → xs[i]? = some x) ∧ v = .ref t ∧ H t = none ∧ H' = upd H t (.tup [.int i, x]), fun i H => ∃ xs, SqL K H a xs ∧ xs.length ≤ i⟩
theorem enumL_at {xs : List D} {i : Nat} : (enumL xs)[i]? = (xs[i]?).map fun d => .tup [.int i, d] := by
  unfold enumL
  rw [List.getElem?_map, List.getElem?_zipIdx, Nat.zero_add]
  cases xs[i]? <;> rfl
theorem enumL_len (xs : List D) : (enumL xs).length = xs.length := by simp [enumL]
/-- a walk over data -/
inductive ItQ (K : PySem.W.Frag) (P : Addr → Prop) (J : It) (H : Hp) (items : List D) : Prop
  | lst (a : Addr) (e : J = Itl K a) (r : Rep P H (.ref a) (.lst items))
  | tup (a : Addr) (e : J = Itt K a) (r : Rep P H (.ref a) (.tup items))
  | rng (lo : Int) (n : Nat) (e : J = Itr lo n) (r : items = (List.range n).map fun (k : Nat) => D.int (lo + k))
  | chs (x : Str) (e : J = Itss x) (r : items = charsD x)
  | enm (a : Addr) (ds : List D) (e : J = Ite K a) (r : Rep P H (.ref a) (.lst ds)) (h : items = enumL ds)
theorem ItQ.keep {K : PySem.W.Frag} {P P' : Addr → Prop} {J : It} {H H' : Hp} {items : List D} (h : ItQ K P J H items) (k : Keep P H H') (m : ∀ a, P a → P' a) : ItQ K P' J H' items := by
  cases h with
  | lst a e r => exact .lst a e (r.keep k m)
  | tup a e r => exact .tup a e (r.keep k m)
  | rng lo n e r => exact .rng lo n e r
  | chs x e r => exact .chs x e r
  | enm a ds e r h => exact .enm a ds e (r.keep k m) h
theorem ItQ.stop {K : PySem.W.Frag} {P : Addr → Prop} {J : It} {H : Hp} {items : List D} {i : Nat} (h : ItQ K P J H items) (hi : items.length ≤ i) : J.stop i H := by
  cases h with
  | lst a e r =>
    subst e
    obtain ⟨a', xs, e, hq, rr⟩ := r.lstAt (K := K)
    cases e
    exact ⟨xs, hq, by rw [rr.length]; exact hi⟩
  | tup a e r =>
    subst e
    obtain ⟨a', xs, e, hq, rr⟩ := r.tupAt
    cases e
    exact ⟨xs, .of hq, by rw [rr.length]; exact hi⟩
  | rng lo n e r =>
    subst e r
    show n ≤ i
    simpa using hi
  | chs x e r =>
    subst e r
    show x.cps.size ≤ i
    simpa [charsD] using hi
  | enm a ds e r h =>
    subst e h
    obtain ⟨a', xs, e, hq, rr⟩ := r.lstAt (K := K)
    cases e
    exact ⟨xs, hq, by rw [rr.length, ← enumL_len]; exact hi⟩
theorem ItQ.go {K : PySem.W.Frag} {P : Addr → Prop} {J : It} {H : Hp} {items : List D} {i : Nat} {d : D} (h : ItQ K P J H items) (hi : items[i]? = some d) : J.go i H ∧ ∀ x H', J.yld i H x H' → Same H H' ∧ Rep P H' x d := by
  cases h with
  | lst a e r =>
    subst e
    obtain ⟨a', xs, e, hq, rr⟩ := r.lstAt (K := K)
    cases e
    obtain ⟨v, h1, h2⟩ := rr.get hi
    refine ⟨⟨xs, v, hq, h1⟩, fun x H' ⟨e, hy⟩ => ?_⟩
    subst e
    refine ⟨Same.refl _, ?_⟩
    have := hy xs hq
    rw [h1] at this
    cases this
    exact h2
  | tup a e r =>
    subst e
    obtain ⟨a', xs, e, hq, rr⟩ := r.tupAt
    cases e
    obtain ⟨v, h1, h2⟩ := rr.get hi
    refine ⟨⟨xs, v, .of hq, h1⟩, fun x H' ⟨e, hy⟩ => ?_⟩
    subst e
    refine ⟨Same.refl _, ?_⟩
    have := hy xs (.of hq)
    rw [h1] at this
    cases this
    exact h2
  | rng lo n e r =>
    subst e r
    have hlt : i < n := by
      have := (List.getElem?_eq_some_iff.mp hi).1
      simpa using this
    refine ⟨hlt, fun x H' ⟨e, hy⟩ => ?_⟩
    subst e
    have e2 : D.int (lo + (i : Int)) = d := by simpa [hlt] using hi
    rw [hy, ← e2]
    exact ⟨Same.refl _, .int _⟩
  | chs z e r =>
    subst e r
    have hlt : i < z.cps.size := by
      have := (List.getElem?_eq_some_iff.mp hi).1
      simpa [charsD] using this
    refine ⟨hlt, fun x H' ⟨e, c, hc, hv⟩ => ?_⟩
    subst e hv
    refine ⟨Same.refl _, ?_⟩
    have e2 : D.str ⟨#[c]⟩ = d := by
      unfold charsD at hi
      rw [List.getElem?_map, Array.getElem?_toList, hc] at hi
      simpa using hi
    rw [← e2]
    exact .str _
  | enm a ds e r h =>
    subst e h
    obtain ⟨a', xs, e, hq, rr⟩ := r.lstAt (K := K)
    cases e
    rw [enumL_at] at hi
    cases hd : ds[i]? with
    | none => rw [hd] at hi; cases hi
    | some y =>
      rw [hd] at hi
      cases hi
      obtain ⟨v, h1, h2⟩ := rr.get hd
      refine ⟨⟨xs, v, hq, h1⟩, fun x H' ⟨t, u, hy, e1, e2, e3⟩ => ?_⟩
      subst e1 e3
      have := hy xs hq
      rw [h1] at this
      cases this
      have sp : Same H (upd H t (.tup [.int i, v])) := Same.upd e2
      exact ⟨sp, .tup upd_same (.cons (.int _) (.cons (h2.same sp) .nil))⟩

def gI (K : PySem.W.Frag) (f : FI) : TI := fun σ H R => ∃ ρ items k, ER H σ ρ ∧ f ρ = .ok (items, k) ∧ ∀ J H1, Same H H1 → ItQ K All J H1 items → (k = true → ItQ K (New H) J H1 items) → R J H1
section
variable {X : Cx} {tg l a b : Expr} {fl fa : FE} {rl ra rr : Bool} {fs : FA} {p pos : Pos}
theorem iter_rep {pins : List (Addr × Obj)} {s1 : Shared} {σ : L2.St} {H1 : Hp} {R : It → Hp → Prop} {v : V} {u : Value} {d : D} {items : List D} (I1 : Inv X pins σ H1 s1) (r : Rep All H1 v d) (ru : RelV v u) (hi : itemsD d = .ok items)
    (q : ∀ J, (∀ P : Addr → Prop, Rep P H1 v d → ItQ X.K P J H1 items) → R J H1) : wpAny (model X.prog X.w) X.A (pyIter u) (PIE X pins σ tg R) X.xe s1 := by
  cases d <;> simp only [itemsD] at hi <;> cases hi
  · obtain ⟨a, xs, rfl, e, rr⟩ := r.tupAt
    cases ru
    obtain ⟨its, rv, p, hz⟩ := I1.tuple (.of e)
    refine wpAny_pyIter_tuple (show s1.heap.IsTuple a its.toArray from p) ?_
    refine ⟨s1.heap.objs.size, [s1.heap.objs.size], _, _, H1, rfl, I1.kept (t' := s1.toks) fun b o e => Heap.get?_push_of_some _ e, turn_tuple a _, ⟨_, Heap.get?_push_size _ rfl, rfl, rfl⟩, fun b hb => ?_, q _ fun P r => .tup a rfl r⟩
    have e : b = s1.heap.objs.size := by simpa using hb
    subst e
    exact I1.fpOk (Nat.le_refl _) (I1.hok.fresh (Nat.le_refl _))
  · obtain ⟨a, xs, rfl, e, rr⟩ := r.lstAt (K := X.K)
    cases ru
    obtain ⟨its, rv, p, hz⟩ := I1.list e
    refine wpAny_pyIter_list p.isList ?_
    refine ⟨s1.heap.objs.size, [s1.heap.objs.size], _, _, H1, rfl, I1.kept (t' := s1.toks) fun b o e => Heap.get?_push_of_some _ e, turn_list a _, ⟨_, Heap.get?_push_size _ rfl, rfl, rfl⟩, fun b hb => ?_, q _ fun P r => .lst a rfl r⟩
    have e : b = s1.heap.objs.size := by simpa using hb
    subst e
    exact I1.fpOk (Nat.le_refl _) (I1.hok.fresh (Nat.le_refl _))
theorem bound62_ok {i : Int} (h : bound62 i = true) : -(2 ^ 62) ≤ i ∧ i < 2 ^ 62 := by
  simp only [bound62, Bool.and_eq_true, decide_eq_true_eq] at h
  exact h
theorem PI.imp {w w' : TI} (h : PI X tg l w) (i : ∀ σ H R, w' σ H R → w σ H R) : PI X tg l w' := fun pins s σ H R I q => h pins s σ H R I (i σ H R q)
theorem mi_rng1 (hg : Gl X "range") (hm : X.mg "range" = none) (ha : PA X [a] (gA fs rr)) (hs : starEach [a] X.env = [(false, eval a X.env)] := by rfl) : PI X tg (.Call (.Name "range" p) [a] [] pos) (gI X.K (bThen fs rng1D)) :=
  PI.imp (pi_range1 hg hm ha hs) fun σ H R ⟨ρ, items, k, E, h, q⟩ => by
    obtain ⟨xs, h1, h⟩ := bindE h
    unfold rng1D at h
    split at h
    · split at h
      · rename_i hb
        cases h
        obtain ⟨b1, b2⟩ := bound62_ok hb
        refine ⟨ρ, _, E, h1, fun vs H1 s1 r1 _ => ?_⟩
        cases r1 with
        | cons r t =>
          cases t
          cases r
          exact ⟨_, rfl, b1, b2, q _ H1 s1 (.rng 0 _ rfl rfl) fun _ => .rng 0 _ rfl rfl⟩
      · cases h
    · cases h
end

theorem padD_get (n : Nat) (ρ bs : List D) (i : Nat) (h : i < n) : (padD n ρ ++ bs).getD i .undef = ρ.getD i .undef := by
  rw [List.getD_eq_getElem?_getD, List.getElem?_append_left (by simp [padD]; exact h)]
  simp [padD, h]
theorem padD_len (n : Nat) (ρ : List D) : (padD n ρ).length = n := by simp [padD]
/-- what the target does -/
def TgC (g : TG) (t : D → Res (List D)) (n m : Nat) : Prop := ∀ (v : V) (d : D) (bs : List D) (σ : L2.St) (H : Hp) (Q : L2.St → Hp → Prop), σ.length = n → Rep All H v d → t d = .ok bs →
  (∀ σ2, Ext (σ ++ List.replicate m none) σ2 → (∀ j b, bs[j]? = some b → ∃ w, σ2[n + j]? = some (some w) ∧ Rep All H w b) → Q σ2 H) → g v (σ ++ List.replicate m none) H Q
theorem ER.ext {H : Hp} {σ σ2 : L2.St} {ρ bs : List D} {n m : Nat} (E : ER H σ ρ) (hn : σ.length = n) (x : Ext (σ ++ List.replicate m none) σ2) (hb : ∀ j b, bs[j]? = some b → ∃ w, σ2[n + j]? = some (some w) ∧ Rep All H w b) : ER H σ2 (padD n ρ ++ bs) := by
  intro i hi
  by_cases h : i < n
  · rw [padD_get n ρ bs i h] at hi ⊢
    obtain ⟨v, h1, h2⟩ := E i hi
    exact ⟨v, x.2 i v (by rw [List.getElem?_append_left (by rw [hn]; exact h)]; exact h1), h2⟩
  · have e : (padD n ρ ++ bs).getD i .undef = bs.getD (i - n) .undef := by
      rw [List.getD_eq_getElem?_getD, List.getElem?_append_right (by rw [padD_len]; omega), padD_len, ← List.getD_eq_getElem?_getD]
    rw [e] at hi ⊢
    cases hq : bs[i - n]? with
    | none => rw [List.getD_eq_getElem?_getD, hq] at hi; exact absurd rfl hi
    | some b =>
      obtain ⟨w, h1, h2⟩ := hb (i - n) b hq
      rw [List.getD_eq_getElem?_getD, hq]
      exact ⟨w, by rw [← h1]; congr 1; omega, h2⟩
theorem comp_core {K : PySem.W.Frag} {it : FI} {t : D → Res (List D)} {c : FT} {f : FE} {k : Bool} {n m : Nat} {g : TG} {tc : TT} (tg : TgC g t n m) (hc : ∀ σ H Q, gT c σ H Q → tc σ H Q) {σ : L2.St} {H : Hp} {Q : VK} (hn : σ.length = n) (h : gE (bComp n it t c f k) true σ H Q) :
    tComp (gI K it) g tc (gE f k) m σ H Q := by
  obtain ⟨ρ, d, E, h, q⟩ := h
  obtain ⟨⟨items, kk⟩, h1, h⟩ := bindE h
  split at h
  · rename_i hlim
    obtain ⟨ys, h2, h⟩ := bindE h
    cases h
    refine ⟨ρ, items, kk, E, h1, fun J H1 s1 hJ _ p hp => ?_⟩
    have hp0 : H p = none := s1.free hp
    refine ⟨fun i n' vs H' => n' = items.length - i ∧ i ≤ items.length ∧ H' p = some (.lst vs) ∧ Same H1 H' ∧ ∃ acc, acc.length ≤ i ∧ Reps (fun a => H a = none ∧ a ≠ p) H' vs acc ∧ cfold (cstep n t c f k ρ) acc (items.drop i) = .ok ys, ⟨items.length, ?_⟩, ?_⟩
    · exact ⟨rfl, Nat.zero_le _, upd_same, Same.upd hp, [], Nat.zero_le _, .nil, h2⟩
    · rintro i n' vs H' ⟨rfl, hi, hH, sm, acc, hal, racc, hf⟩
      refine ⟨hH, ?_⟩
      have hJ' : ItQ K All J H' items := hJ.keep (.same sm) fun _ z => z
      rcases Nat.lt_or_ge i items.length with hlt | hge
      · refine .inr ?_
        have e : items[i]? = some items[i] := List.getElem?_eq_getElem hlt
        obtain ⟨g1, g2⟩ := hJ'.go e
        have hl1 : items.length ≤ lim := of_decide_eq_true hlim
        refine ⟨g1, ?_, fun x H2 hy => ?_⟩
        · rw [racc.length]
          exact Nat.lt_of_le_of_lt hal (Nat.lt_of_lt_of_le hlt (Nat.le_trans hl1 (by rw [sizeLine_eq]; decide)))
        · obtain ⟨sH, rx⟩ := g2 x H2 hy
          have hH := sH p _ hH
          have sm := sm.trans sH
          have racc := racc.same sH
          rw [List.drop_eq_getElem_cons hlt] at hf
          obtain ⟨acc2, hs, hf⟩ := bindE hf
          obtain ⟨bs, hb, hs⟩ := bindE hs
          obtain ⟨ok, hok, hs⟩ := bindE hs
          refine tg x items[i] bs σ H2 _ hn rx hb fun σ2 hx hbs => ⟨hx, hc _ _ _ ?_⟩
          have E2 : ER H2 σ2 (padD n ρ ++ bs) := (E.same (s1.trans sm)).ext hn hx hbs
          refine ⟨_, ok, E2, hok, fun H4 s4 => ?_⟩
          cases ok with
          | true =>
            rw [if_pos rfl]
            rw [if_pos rfl] at hs
            obtain ⟨y, hy2, hs⟩ := bindE hs
            split at hs
            · rename_i hk
              cases hs
              refine ⟨_, y, E2.same s4, hy2, fun w H5 s5 r5 n5 => ⟨s5 p _ (s4 p _ hH), items.length - (i + 1), by omega, rfl, hlt, upd_same, ?_, acc ++ [y], ?_, ?_, hf⟩⟩
              · exact fun b o e => by
                  rw [upd_ne (ne_of_none e hp)]
                  exact s5 b o (s4 b o (sm b o e))
              · rw [List.length_append, List.length_singleton]; omega
              · have hp5 : H5 p = some (.lst vs) := s5 p _ (s4 p _ hH)
                have ry : Rep (fun a => H a = none ∧ a ≠ p) H5 w y := by
                  rw [Bool.or_eq_true] at hk
                  rcases hk with hk | hk
                  · exact (n5 hk).mono fun a ha => ⟨((s1.trans sm).trans s4).free ha, fun z => by subst z; have h0 := s4 _ _ hH; rw [show H4 _ = none from ha] at h0; cases h0⟩
                  · exact r5.ofPure hk
                have all : Reps (fun a => H a = none ∧ a ≠ p) H5 (vs ++ [w]) (acc ++ [y]) := (racc.same (s4.trans s5)).snoc ry
                refine all.keep (fun b o e hb => ?_) fun _ z => z
                rw [upd_ne]
                · exact e
                · rcases hb with hb | hb
                  · exact hb.2
                  · intro z; subst z; rw [hp5] at e; cases e; cases hb
            · cases hs
          | false =>
            rw [if_neg (by simp)]
            rw [if_neg (by simp)] at hs
            cases hs
            exact ⟨items.length - (i + 1), by omega, rfl, hlt, s4 p _ hH, sm.trans s4, acc, by omega, racc.same s4, hf⟩
      · refine .inl ⟨hJ'.stop hge, ?_⟩
        rw [List.drop_eq_nil_of_le hge] at hf
        cases hf
        exact q _ _ (s1.trans sm) (.lst hH trivial racc.all) fun _ => .lst hH hp0 (racc.mono fun a z => z.1)
  · cases h

def gIx : List Nat → TGs
  | [] => gNil
  | i :: is => gCons (gName i) (gIx is)
def setsV : List Nat → List V → L2.St → L2.St
  | i :: is, v :: vs, σ => setsV is vs (σ.set i (some v))
  | _, _, σ => σ
theorem gIx_run {H : Hp} {Q : L2.St → Hp → Prop} : ∀ (is : List Nat) (vs : List V) (σ : L2.St), vs.length = is.length → Q (setsV is vs σ) H → gIx is vs σ H Q
  | [], [], σ, _, q => ⟨rfl, q⟩
  | i :: is, v :: vs, σ, h, q => ⟨v, vs, rfl, gIx_run is vs (σ.set i (some v)) (by simpa using h) q⟩
  | [], _ :: _, _, h, _ => by simp at h
  | _ :: _, [], _, h, _ => by simp at h
theorem tgc_one (n : Nat) : TgC (gName n) oneT n 1 := by
  intro v d bs σ H Q hn r h q
  cases h
  have hl : (σ ++ List.replicate 1 (none : Option V)).length = n + 1 := by simp [hn]
  refine q _ ⟨by simp, fun i w hi => ?_⟩ fun j b hj => ?_
  · have : i ≠ n := fun z => by
      subst z
      rw [List.getElem?_append_right (by omega)] at hi
      simp [hn] at hi
    rw [List.getElem?_set_ne (Ne.symm this)]
    exact hi
  · have e : j = 0 := by
      have := (List.getElem?_eq_some_iff.mp hj).1
      simp at this
      exact this
    subst e
    have e : d = b := by simpa using hj
    subst e
    exact ⟨v, by rw [Nat.add_zero, List.getElem?_set_self (by omega)], r⟩
section
variable {X : Cx} {scope : Scope} {ownN : List Str} {elt iter tg c : Expr} {it : FI} {t : D → Res (List D)} {g : TG} {gc : FT} {fe : FE} {re : Bool} {pos : Pos}
theorem me_comp {n m : Nat} (S : CompSc X.N X.env.scope scope ownN) (hn : X.N.length = n) (hm : ownN.length = m) (hcalm : X.calm = true) (hi : PI X tg iter (gI X.K it)) (ht : TgC g t n m) (hg : ∀ X', CompCx X X' scope ownN → PG X' tg g) (he : ∀ X', CompCx X X' scope ownN → PE X' elt (gE fe re))
    (hs : ∀ x, foldedSetIterable iter X.env x = pure x) : PE X (.ListComp elt [⟨tg, iter, [], 0⟩] scope pos) (gE (bComp n it t bTrue fe re) true) := by
  intro pins s σ H Q I h
  subst hm
  exact pe_comp0 S hcalm hi hg he hs pins s σ H Q I (comp_core ht (fun σ H Q h => by obtain ⟨ρ, b, E, h, q⟩ := h; cases h; exact q H (Same.refl H)) (I.len.trans hn) h)
end
end Mi
end

section
set_option autoImplicit false
set_option linter.all false
set_option maxRecDepth 100000
namespace Mi
open PySem L2 PySem.SeqAt PySem.Spec PyProof.Rows
variable [KFrag]

mutual
theorem Rep.dom {P : Addr → Prop} {H : Hp} : ∀ {v : V} {d : D}, Rep P H v d → Rep (fun a => P a ∧ H a ≠ none) H v d
  | _, _, .non => .non
  | _, _, .bl b => .bl b
  | _, _, .int i => .int i
  | _, _, .str x => .str x
  | _, _, .tup e r => .tup e (Reps.dom r)
  | _, _, .lst e p r => .lst e ⟨p, by rw [e]; simp⟩ (Reps.dom r)
  | _, _, .frz e r => .frz e (Reps.dom r)
  | _, _, .dK e p r n => .dK e ⟨p, by rw [e]; simp⟩ (RepK.dom r) n
  | _, _, .dT e p r n => .dT e ⟨p, by rw [e]; simp⟩ (RepT.dom r) n
theorem Reps.dom {P : Addr → Prop} {H : Hp} : ∀ {v : List V} {d : List D}, Reps P H v d → Reps (fun a => P a ∧ H a ≠ none) H v d
  | _, _, .nil => .nil
  | _, _, .cons r t => .cons (Rep.dom r) (Reps.dom t)
theorem RepK.dom {P : Addr → Prop} {H : Hp} : ∀ {v : List (Key × V)} {d : List (D × D)}, RepK P H v d → RepK (fun a => P a ∧ H a ≠ none) H v d
  | _, _, .nil => .nil
  | _, _, .cons r t => .cons (Rep.dom r) (RepK.dom t)
theorem RepT.dom {P : Addr → Prop} {H : Hp} : ∀ {v : List (List Key × V)} {d : List (D × D)}, RepT P H v d → RepT (fun a => P a ∧ H a ≠ none) H v d
  | _, _, .nil => .nil
  | _, _, .cons r t => .cons (Rep.dom r) (RepT.dom t)
end
def Own (own : Nat → Bool) (σ : L2.St) (a : Addr) : Prop := ∃ i, own i = true ∧ σ[i]? = some (some (.ref a))
/-- the names and their data; own: the names whose lists and dicts are changed here -/
structure ES (own : Nat → Bool) (H : Hp) (σ : L2.St) (ρ : List D) : Prop where
  len : σ.length = ρ.length
  at_ : ∀ i, ρ.getD i .undef ≠ .undef → ∃ v, σ[i]? = some (some v) ∧ (own i = false → Rep (fun a => ¬ Own own σ a) H v (ρ.getD i .undef))
  own : ∀ i v, own i = true → σ[i]? = some (some v) → ∃ a o, v = .ref a ∧ Rep All H v (ρ.getD i .undef) ∧ inner (ρ.getD i .undef) = true ∧ H a = some o ∧ mutO o = true ∧ ∀ j, own j = true → σ[j]? = some (some (.ref a)) → j = i
variable {own : Nat → Bool}
theorem ES.er {H : Hp} {σ : L2.St} {ρ : List D} (e : ES own H σ ρ) : ER H σ ρ := fun i hi => by
  obtain ⟨v, h1, h2⟩ := e.at_ i hi
  cases ho : own i with
  | false => exact ⟨v, h1, (h2 ho).all⟩
  | true =>
    obtain ⟨a, o, _, h3, _⟩ := e.own i v ho h1
    exact ⟨v, h1, h3⟩
theorem ES.live {H : Hp} {σ : L2.St} {ρ : List D} (e : ES own H σ ρ) {a : Addr} (h : Own own σ a) : ∃ o, H a = some o ∧ mutO o = true := by
  obtain ⟨i, hi, hs⟩ := h
  obtain ⟨b, o, eb, _, _, h3, h4, _⟩ := e.own i _ hi hs
  cases eb
  exact ⟨o, h3, h4⟩
theorem ES.same {H H' : Hp} {σ : L2.St} {ρ : List D} (e : ES own H σ ρ) (s : Same H H') : ES own H' σ ρ := by
  refine ⟨e.len, fun i hi => ?_, fun i v hi hv => ?_⟩
  · obtain ⟨v, h1, h2⟩ := e.at_ i hi
    exact ⟨v, h1, fun ho => (h2 ho).same s⟩
  · obtain ⟨a, o, h1, h2, h3, h4, h5, h6⟩ := e.own i v hi hv
    exact ⟨a, o, h1, h2.same s, h3, s _ _ h4, h5, h6⟩
def KU (own : Nat → Bool) (σ : L2.St) (H : Hp) (σ' : L2.St) (H' : Hp) : Prop := ∀ a o, H a = some o → ¬ Own own σ a → H' a = some o ∧ ¬ Own own σ' a
theorem KU.trans {σ σ1 σ2 : L2.St} {H H1 H2 : Hp} (a : KU own σ H σ1 H1) (b : KU own σ1 H1 σ2 H2) : KU own σ H σ2 H2 := fun c o e n => let ⟨e1, n1⟩ := a c o e n; b c o e1 n1
theorem KU.same {σ : L2.St} {H H' : Hp} (s : Same H H') : KU own σ H σ H' := fun a o e n => ⟨s a o e, n⟩
theorem KU.keep {σ σ' : L2.St} {H H' : Hp} {ρ : List D} (k : KU own σ H σ' H') (e : ES own H σ ρ) : Keep (fun a => ¬ Own own σ a) H H' := fun a o h hp => by
  by_cases ho : Own own σ a
  · obtain ⟨o', h1, h2⟩ := e.live ho
    rw [h] at h1
    cases h1
    rcases hp with hp | hp
    · exact absurd ho hp
    · rw [h2] at hp; cases hp
  · exact (k a o h ho).1
/-- what stands apart from what is changed stays -/
theorem KU.rep {σ σ' : L2.St} {H H' : Hp} {ρ : List D} (k : KU own σ H σ' H') (e : ES own H σ ρ) {v : V} {d : D} (r : Rep (fun a => ¬ Own own σ a) H v d) : Rep (fun a => ¬ Own own σ' a) H' v d := by
  refine r.dom.keep (P' := fun a => ¬ Own own σ' a) (fun a o h hp => ?_) fun a ⟨h1, h2⟩ => ?_
  · refine k.keep e a o h (hp.imp (fun z => z.1) id)
  · cases q : H a with
    | none => exact absurd q h2
    | some o => exact (k a o q h1).2

def kS (own : Nat → Bool) (D : Ends) (σ : L2.St) (H : Hp) : Fl → Prop
  | .nx ρ => ∀ σ' H', KU own σ H σ' H' → ES own H' σ' ρ → D.nx σ' H'
  | .bk ρ => ∀ σ' H', KU own σ H σ' H' → ES own H' σ' ρ → D.bk σ' H'
  | .ct ρ => ∀ σ' H', KU own σ H σ' H' → ES own H' σ' ρ → D.ct σ' H'
  | .rt d => ∀ v H', (∀ a o, H a = some o → ¬ Own own σ a → H' a = some o) → Rep (fun a => Own own σ a ∨ H a = none) H' v d → D.rt v H'
theorem kS.step {D : Ends} {σ σ' : L2.St} {H H' : Hp} {fl : Fl} (k : KU own σ H σ' H') (h : kS own D σ H fl) : kS own D σ' H' fl := by
  cases fl with
  | nx ρ => exact fun σ2 H2 k2 e => h σ2 H2 (k.trans k2) e
  | bk ρ => exact fun σ2 H2 k2 e => h σ2 H2 (k.trans k2) e
  | ct ρ => exact fun σ2 H2 k2 e => h σ2 H2 (k.trans k2) e
  | rt d =>
    refine fun v H2 hk r => h v H2 (fun a o e n => let ⟨e1, n1⟩ := k a o e n; hk a o e1 n1) (r.mono fun a ha => ?_)
    cases q : H a with
    | none => exact .inr rfl
    | some o =>
      refine .inl (Classical.byContradiction fun n => ?_)
      obtain ⟨e1, n1⟩ := k a o q n
      rcases ha with ha | ha
      · exact n1 ha
      · rw [e1] at ha; cases ha
def tS (own : Nat → Bool) (f : FS) : TS := fun D σ H => ∃ ρ fl, ES own H σ ρ ∧ f ρ = .ok fl ∧ kS own D σ H fl
theorem PS.imp {X : Cx} {st : Stmt} {t t' : TS} (h : PS X st t) (i : ∀ D σ H, t' D σ H → t D σ H) : PS X st t' := fun pins s σ H D I q => h pins s σ H D I (i D σ H q)
theorem PSs.imp {X : Cx} {st : List Stmt} {t t' : TS} (h : PSs X st t) (i : ∀ D σ H, t' D σ H → t D σ H) : PSs X st t' := fun pins s σ H D I q => h pins s σ H D I (i D σ H q)

section
variable {X : Cx} {a b c e : Expr} {pos pos' : Pos} {fa fb fc fe : FE} {ra rb rc re : Bool} {ga gb gc : FT} {f g : FS} {st : Stmt} {rest s1 s2 : List Stmt}

theorem mss_nil : PSs X [] (tS own sNil) := PSs.imp pss_nil fun D σ H ⟨ρ, fl, E, h, q⟩ => by
  cases h
  exact q σ H (fun a o e n => ⟨e, n⟩) E
theorem seq_imp {D : Ends} {σ : L2.St} {H : Hp} (h : tS own (sSeq f g) D σ H) : tSeq (tS own f) (tS own g) D σ H := by
  obtain ⟨ρ, fl, E, h, q⟩ := h
  obtain ⟨r, h1, h2⟩ := bindE h
  refine ⟨ρ, r, E, h1, ?_⟩
  cases r with
  | nx ρ' => exact fun σ' H' k E' => ⟨ρ', fl, E', h2, q.step k⟩
  | bk ρ' => cases h2; exact q
  | ct ρ' => cases h2; exact q
  | rt d => cases h2; exact q
theorem mss_cons (h1 : PS X st (tS own f)) (h2 : PSs X rest (tS own g)) : PSs X (st :: rest) (tS own (sSeq f g)) := PSs.imp (pss_cons h1 h2) fun _ _ _ => seq_imp
theorem mss_one (h1 : PS X st (tS own f)) : PSs X [st] (tS own f) := pss_one h1
theorem ms_if (hc : PT X c (gT gc)) (ha : PSs X s1 (tS own f)) (hb : PSs X s2 (tS own g)) : PS X (.If c s1 s2 pos) (tS own (sIf gc f g)) := PS.imp (ps_if hc ha hb) fun D σ H ⟨ρ, fl, E, h, q⟩ => by
  obtain ⟨k, h1, h2⟩ := bindE h
  refine ⟨ρ, k, E.er, h1, fun H' s => ?_⟩
  cases k with
  | true => rw [if_pos rfl]; rw [if_pos rfl] at h2; exact ⟨ρ, fl, E.same s, h2, q.step (.same s)⟩
  | false => rw [if_neg (by simp)]; rw [if_neg (by simp)] at h2; exact ⟨ρ, fl, E.same s, h2, q.step (.same s)⟩
theorem ms_ret (he : PE X e (gE fe re)) : PS X (.Return (some e) pos) (tS own (sRet fe re)) := PS.imp (ps_ret he) fun D σ H ⟨ρ, fl, E, h, q⟩ => by
  obtain ⟨d, h1, h2⟩ := bindE h
  split at h2
  · rename_i hk
    cases h2
    refine ⟨ρ, d, E.er, h1, fun v H' s r n => q v H' (fun a o e _ => s a o e) ?_⟩
    rw [Bool.or_eq_true] at hk
    rcases hk with hk | hk
    · exact (n hk).mono fun a ha => .inr ha
    · exact r.ofPure hk
  · cases h2
theorem own_set {σ : L2.St} {i : Nat} {v : V} (ho : own i = false) (a : Addr) : Own own (σ.set i (some v)) a ↔ Own own σ a := by
  constructor
  · rintro ⟨j, hj, e⟩
    have : i ≠ j := fun z => by subst z; rw [ho] at hj; cases hj
    rw [List.getElem?_set_ne this] at e
    exact ⟨j, hj, e⟩
  · rintro ⟨j, hj, e⟩
    have : i ≠ j := fun z => by subst z; rw [ho] at hj; cases hj
    exact ⟨j, hj, by rw [List.getElem?_set_ne this]; exact e⟩
theorem getD_set {ρ : List D} {i j : Nat} {d : D} : (ρ.set i d).getD j .undef = if i = j ∧ i < ρ.length then d else ρ.getD j .undef := by
  rw [List.getD_eq_getElem?_getD, List.getD_eq_getElem?_getD, List.getElem?_set]
  by_cases h : i = j
  · subst h
    by_cases h2 : i < ρ.length
    · simp [h2]
    · simp [h2]
  · simp [h]
/-- a name that is not changed gets a value that stands apart -/
theorem ES.set {H : Hp} {σ : L2.St} {ρ : List D} {i : Nat} {v : V} {d : D} (E : ES own H σ ρ) (ho : own i = false) (r : Rep (fun a => ¬ Own own σ a) H v d) : ES own H (σ.set i (some v)) (ρ.set i d) := by
  have hO : (fun a => ¬ Own own (σ.set i (some v)) a) = fun a => ¬ Own own σ a := funext fun a => by rw [own_set ho]
  refine ⟨by simp [E.len], fun j hj => ?_, fun j w hj hw => ?_⟩
  · rw [getD_set] at hj ⊢
    rw [hO]
    by_cases h : i = j ∧ i < ρ.length
    · rw [if_pos h]
      obtain ⟨rfl, hl⟩ := h
      exact ⟨v, by rw [List.getElem?_set_self (by rw [E.len]; exact hl)], fun _ => r⟩
    · rw [if_neg h] at hj ⊢
      obtain ⟨w, h1, h2⟩ := E.at_ j hj
      by_cases hij : i = j
      · subst hij
        have : i < σ.length := (List.getElem?_eq_some_iff.mp h1).1
        rw [E.len] at this
        exact absurd ⟨rfl, this⟩ h
      · exact ⟨w, by rw [List.getElem?_set_ne hij]; exact h1, h2⟩
  · have hij : i ≠ j := fun z => by subst z; rw [ho] at hj; cases hj
    rw [List.getElem?_set_ne hij] at hw
    rw [getD_set, if_neg fun z => hij z.1]
    obtain ⟨a, o, h1, h2, h3, h4, h5, h6⟩ := E.own j w hj hw
    refine ⟨a, o, h1, h2, h3, h4, h5, fun k hk hs => h6 k hk ?_⟩
    have hik : i ≠ k := fun z => by subst z; rw [ho] at hk; cases hk
    rwa [List.getElem?_set_ne hik] at hs
/-- a name that is changed here gets a new thing -/
theorem ES.setO {H H' : Hp} {σ : L2.St} {ρ : List D} {i : Nat} {a : Addr} {o : HO} {d : D} (E : ES own H σ ρ) (s : Same H H') (ho : own i = true) (hn : H a = none) (r : Rep All H' (.ref a) d) (hin : inner d = true) (ha : H' a = some o) (hm : mutO o = true) :
    ES own H' (σ.set i (some (.ref a))) (ρ.set i d) ∧ KU own σ H (σ.set i (some (.ref a))) H' := by
  have hO : ∀ b, H b ≠ none → ¬ Own own σ b → ¬ Own own (σ.set i (some (.ref a))) b := fun b hb n ⟨j, hj, e⟩ => by
    by_cases hij : i = j
    · subst hij
      by_cases hl : i < σ.length
      · rw [List.getElem?_set_self hl] at e
        cases e
        exact hb hn
      · rw [List.getElem?_set, if_pos rfl, if_neg hl] at e
        cases e
    · rw [List.getElem?_set_ne hij] at e
      exact n ⟨j, hj, e⟩
  refine ⟨⟨by simp [E.len], fun j hj => ?_, fun j w hj hw => ?_⟩, fun b ob e n => ⟨s b ob e, hO b (by rw [e]; simp) n⟩⟩
  · rw [getD_set] at hj ⊢
    by_cases h : i = j ∧ i < ρ.length
    · rw [if_pos h]
      obtain ⟨rfl, hl⟩ := h
      exact ⟨.ref a, by rw [List.getElem?_set_self (by rw [E.len]; exact hl)], fun z => by rw [ho] at z; cases z⟩
    · rw [if_neg h] at hj ⊢
      obtain ⟨w, h1, h2⟩ := E.at_ j hj
      by_cases hij : i = j
      · subst hij
        have : i < σ.length := (List.getElem?_eq_some_iff.mp h1).1
        rw [E.len] at this
        exact absurd ⟨rfl, this⟩ h
      · exact ⟨w, by rw [List.getElem?_set_ne hij]; exact h1, fun hj => ((h2 hj).dom.same s).mono fun b ⟨n, hb⟩ => hO b hb n⟩
  · by_cases hij : i = j
    · subst hij
      have hl : i < σ.length := by
        have := (List.getElem?_eq_some_iff.mp hw).1
        simpa using this
      rw [List.getElem?_set_self hl] at hw
      cases hw
      rw [getD_set, if_pos ⟨rfl, by rw [← E.len]; exact hl⟩]
      refine ⟨a, o, rfl, r, hin, ha, hm, fun k hk hs => ?_⟩
      by_cases hik : i = k
      · exact hik.symm
      · rw [List.getElem?_set_ne hik] at hs
        obtain ⟨o', h1, _⟩ := E.live ⟨k, hk, hs⟩
        rw [hn] at h1; cases h1
    · rw [List.getElem?_set_ne hij] at hw
      rw [getD_set, if_neg fun z => hij z.1]
      obtain ⟨b, ob, h1, h2, h3, h4, h5, h6⟩ := E.own j w hj hw
      refine ⟨b, ob, h1, h2.same s, h3, s _ _ h4, h5, fun k hk hs => ?_⟩
      by_cases hik : i = k
      · subst hik
        by_cases hl : i < σ.length
        · rw [List.getElem?_set_self hl] at hs
          cases hs
          rw [hn] at h4; cases h4
        · rw [List.getElem?_set, if_pos rfl, if_neg hl] at hs
          cases hs
      · rw [List.getElem?_set_ne hik] at hs
        exact h6 k hk hs
theorem mut_of {P : Addr → Prop} {H : Hp} {v : V} {d : D} (r : Rep P H v d) (hin : inner d = true) : ∃ a o, v = .ref a ∧ P a ∧ H a = some o ∧ mutO o = true := by
  cases r with
  | lst e p r => exact ⟨_, _, rfl, p, e, rfl⟩
  | dK e p r n => exact ⟨_, _, rfl, p, e, rfl⟩
  | dT e p r n => exact ⟨_, _, rfl, p, e, rfl⟩
  | _ => cases hin
theorem new_own {H H' : Hp} {σ : L2.St} {ρ : List D} (E : ES own H σ ρ) {v : V} {d : D} (r : Rep (New H) H' v d) : Rep (fun a => ¬ Own own σ a) H' v d := r.mono fun a ha ho => by
  obtain ⟨o, h1, _⟩ := E.live ho
  rw [show H a = none from ha] at h1
  cases h1
theorem set_imp {o : Bool} {i : Nat} {D' : Ends} {σ : L2.St} {H : Hp} (ho : own i = o) (h : tS own (sSet o i fe re) D' σ H) : tAsg (gE fe re) (gName i) D' σ H := by
  obtain ⟨ρ, fl, E, h, q⟩ := h
  obtain ⟨d, h1, h2⟩ := bindE h
  cases o with
  | true =>
    simp only [if_true] at h2
    split at h2
    · rename_i hk
      cases h2
      refine ⟨ρ, d, E.er, h1, fun v H' s r n => ?_⟩
      rw [Bool.and_eq_true] at hk
      obtain ⟨a, ob, rfl, hn, ha, hm⟩ := mut_of (n hk.1) hk.2
      obtain ⟨E2, k⟩ := E.setO s ho hn r hk.2 ha hm
      exact q _ H' k E2
    · cases h2
  | false =>
    simp only [Bool.false_eq_true, if_false] at h2
    split at h2
    · rename_i hk
      cases h2
      refine ⟨ρ, d, E.er, h1, fun v H' s r n => ?_⟩
      rw [Bool.or_eq_true] at hk
      have r2 : Rep (fun a => ¬ Own own σ a) H' v d := by
        rcases hk with hk | hk
        · exact new_own E (n hk)
        · exact r.ofPure hk
      exact q _ H' (fun a ob e hn => ⟨s a ob e, by rw [own_set ho]; exact hn⟩) ((E.same s).set ho r2)
    · cases h2
/-- name = value -/
theorem ms_set {i : Nat} {x : Str} {o : Bool} (ho : own i = o) (hN : X.N.Nodup) (hi : X.N[i]? = some x) (hx : Loc X.env.scope x) (he : PE X e (gE fe re)) (hs : swapsWith e (some (.Name x pos')) pos.line X.env = pure false := by rfl) (hf : X.fn x = true ∨ X.env.scope.names.lookup x = some .local := by first | exact .inl rfl | exact .inr rfl | assumption) :
    PS X (.Assign [.Name x pos'] e pos) (tS own (sSet o i fe re)) := PS.imp (ps_set hN hi hx he hs hf) fun _ _ _ => set_imp ho
end
end Mi
end

section
set_option autoImplicit false
set_option linter.all false
set_option maxRecDepth 100000
namespace L2
open PySem PySem.Spec PyProof.Rows
section
variable {X : Cx} {scope : Scope} {own : List Str}

end
end L2
end

section
set_option autoImplicit false
set_option linter.all false
set_option maxRecDepth 100000
namespace Mi
open PySem L2 PySem.SeqAt PySem.Spec PyProof.Rows
variable [KFrag]
variable {own : Nat → Bool}
section
variable {X : Cx} {a b c e : Expr} {pos pos' : Pos} {fa fb fc fe : FE} {ra rb rc re : Bool} {ga gb gc : FT} {f g : FS} {st : Stmt} {rest s1 s2 : List Stmt}
variable {scope : Scope} {ownN : List Str} {elt iter tg : Expr} {it : FI} {t : D → Res (List D)} {gt : TG}

/-- what a target does with a value that stands apart -/
def TgS (own : Nat → Bool) (g : TG) (t : D → List D → Res (List D)) : Prop := ∀ (v : V) (d : D) (ρ ρ' : List D) (σ : L2.St) (H : Hp) (Q : L2.St → Hp → Prop), ES own H σ ρ → Rep (fun a => ¬ Own own σ a) H v d → t d ρ = .ok ρ' →
  (∀ σ', ES own H σ' ρ' → (∀ a, Own own σ' a ↔ Own own σ a) → Q σ' H) → g v σ H Q
theorem ES.sets {H : Hp} : ∀ {is : List Nat} {vs : List V} {ds : List D} {σ : L2.St} {ρ : List D}, (∀ i ∈ is, own i = false) → ES own H σ ρ → Reps (fun a => ¬ Own own σ a) H vs ds → ES own H (setsV is vs σ) (setsD is ds ρ) ∧ ∀ a, Own own (setsV is vs σ) a ↔ Own own σ a
  | [], _, _, _, _, _, E, _ => by simp only [setsV, setsD]; exact ⟨E, fun _ => trivial⟩
  | i :: is, _, _, σ, ρ, h, E, .nil => by simp only [setsV, setsD]; exact ⟨E, fun _ => trivial⟩
  | i :: is, _, _, σ, ρ, h, E, .cons (v := v) r t => by
    have ho := h i (List.mem_cons_self ..)
    have hO : (fun a => ¬ Own own (σ.set i (some v)) a) = fun a => ¬ Own own σ a := funext fun a => by rw [own_set ho]
    obtain ⟨h1, h2⟩ := ES.sets (is := is) (fun j hj => h j (List.mem_cons_of_mem _ hj)) (E.set ho r) (by rw [hO]; exact t)
    exact ⟨h1, fun a => (h2 a).trans (own_set ho a)⟩
theorem tgs_tup (K : PySem.W.Frag) {is : List Nat} (ho : ∀ i ∈ is, own i = false) : TgS own (gTup K is.length (gIx is)) (tgN is) := fun v d ρ ρ' σ H Q E r h q => by
  cases d <;> simp only [tgN] at h <;> (try (cases h; done))
  split at h
  · rename_i hl
    cases h
    have hl' := of_decide_eq_true hl
    obtain ⟨a, xs, rfl, e, rr⟩ := r.tupAt
    obtain ⟨h1, h2⟩ := E.sets ho rr
    exact ⟨a, xs, rfl, .of e, by rw [rr.length]; exact hl', gIx_run _ _ _ (by rw [rr.length]; exact hl') (q _ h1 h2)⟩
  · cases h
theorem ItQ.ku {K : PySem.W.Frag} {J : It} {items : List D} {σ σ' : L2.St} {H H' : Hp} {ρ : List D} (h : ItQ K (fun a => ¬ Own own σ a) J H items) (k : KU own σ H σ' H') (E : ES own H σ ρ) : ItQ K (fun a => ¬ Own own σ' a) J H' items := by
  cases h with
  | lst a e r => exact .lst a e (k.rep E r)
  | tup a e r => exact .tup a e (k.rep E r)
  | rng lo n e r => exact .rng lo n e r
  | chs x e r => exact .chs x e r
  | enm a ds e r h => exact .enm a ds e (k.rep E r) h
theorem for_core {K : PySem.W.Frag} {g : TG} {t : D → List D → Res (List D)} {body : FS} {D' : Ends} {J : It} {items : List D} {σ : L2.St} {H1 : Hp} {ρ : List D} {fl : Fl} (tg : TgS own g t) (E : ES own H1 σ ρ) (hJ : ItQ K (fun a => ¬ Own own σ a) J H1 items) (hf : forS t body items ρ = .ok fl) (q : kS own D' σ H1 fl) :
    ∃ W : Nat → Nat → L2.St → Hp → Prop, (∃ m, W 0 m σ H1) ∧ ∀ i m σ H, W i m σ H →
      (J.stop i H ∧ D'.nx σ H) ∨ (J.go i H ∧ ∃ N : L2.St → Hp → Prop, (∀ σ' H', N σ' H' → ∃ m', m' < m ∧ W (i + 1) m' σ' H') ∧ ∀ x H', J.yld i H x H' → g x σ H' fun σ2 H2 => tS own body { D' with nx := N, ct := N, bk := D'.nx } σ2 H2) := by
  refine ⟨fun i m σ' H' => m = items.length - i ∧ i ≤ items.length ∧ ItQ K (fun a => ¬ Own own σ' a) J H' items ∧ ∃ ρ', ES own H' σ' ρ' ∧ forS t body (items.drop i) ρ' = .ok fl ∧ kS own D' σ' H' fl, ⟨items.length, rfl, Nat.zero_le _, hJ, ρ, E, hf, q⟩, ?_⟩
  rintro i m σ' H' ⟨rfl, hi, hJ', ρ', E', hf', q'⟩
  rcases Nat.lt_or_ge i items.length with hlt | hge
  · refine .inr ?_
    have e : items[i]? = some items[i] := List.getElem?_eq_getElem hlt
    obtain ⟨g1, g2⟩ := hJ'.go e
    rw [List.drop_eq_getElem_cons hlt] at hf'
    obtain ⟨ρ1, h1, hf2⟩ := bindE hf'
    obtain ⟨r, h2, hf3⟩ := bindE hf2
    refine ⟨g1, fun σ2 H2 => ItQ K (fun a => ¬ Own own σ2 a) J H2 items ∧ ∃ ρ', ES own H2 σ2 ρ' ∧ forS t body (items.drop (i + 1)) ρ' = .ok fl ∧ kS own D' σ2 H2 fl, fun σ2 H2 ⟨n1, n2⟩ => ⟨items.length - (i + 1), by omega, rfl, hlt, n1, n2⟩, fun x H2 hy => ?_⟩
    obtain ⟨sH, rx⟩ := g2 x H2 hy
    have ks : KU own σ' H' σ' H2 := fun a o e n => ⟨sH a o e, n⟩
    have hJ' := hJ'.ku ks E'
    have q' := q'.step ks
    have E' := E'.same sH
    refine tg x items[i] ρ' ρ1 σ' H2 _ E' rx h1 fun σ2 E2 hO => ?_
    have k0 : KU own σ' H2 σ2 H2 := fun a o e n => ⟨e, by rw [hO]; exact n⟩
    have hJ2 := hJ'.ku k0 E'
    have q2 := q'.step k0
    refine ⟨ρ1, r, E2, h2, ?_⟩
    cases r with
    | nx ρ2 => exact fun σ3 H3 k3 E3 => ⟨hJ2.ku k3 E2, ρ2, E3, hf3, q2.step k3⟩
    | ct ρ2 => exact fun σ3 H3 k3 E3 => ⟨hJ2.ku k3 E2, ρ2, E3, hf3, q2.step k3⟩
    | bk ρ2 => cases hf3; exact fun σ3 H3 k3 E3 => q2 σ3 H3 k3 E3
    | rt d => cases hf3; exact q2
  · refine .inl ⟨hJ'.stop hge, ?_⟩
    rw [List.drop_eq_nil_of_le hge] at hf'
    cases hf'
    exact q' σ' H' (fun a o e n => ⟨e, n⟩) E'
theorem ms_for {tg iter : Expr} {body : List Stmt} {g : TG} {t : D → List D → Res (List D)} {it : FI} {fb : FS} (hp : PassesOwn (model X.prog X.w) X.A X.env X.xe) (hc : X.calm = true) (hi : PI X tg iter (gI X.K it)) (ht : TgS own g t) (hg : PG X tg g) (hb : PSs X body (tS own fb))
    (hs : ∀ x, foldedSetIterable iter X.env x = pure x := by intro _; rfl) : PS X (.For tg iter body [] pos) (tS own (sFor it t fb)) := PS.imp (ps_for hp hc hi hg hb hs) fun D' σ H ⟨ρ, fl, E, h, q⟩ => by
  obtain ⟨⟨items, k⟩, h1, h2⟩ := bindE h
  split at h2
  · rename_i hk
    exact ⟨ρ, items, k, E.er, h1, fun J H1 s1 _ hJ => for_core ht (E.same s1) ((hJ hk).keep (fun _ _ e _ => e) fun a ha ho => by
      obtain ⟨o, e1, _⟩ := E.live ho
      rw [show H a = none from ha] at e1
      cases e1) h2 (q.step (.same s1))⟩
  · cases h2
theorem fn_ok {P : Program} {w : World} {K : PySem.W.Frag} {mg : Str → Option Value} {base : Heap} {x qual : Str} {st : Stmt} {fad : Addr} {fd : FuncData} {N ps : List Str} {k : Nat} {f : FS} (F : Fun K x qual st fad fd) (S : FnScope N ps (defScope st)) (own : Nat → Bool) (hown : ∀ i, i < ps.length → own i = false) (hNl : ps.length ≤ N.length)
    (hbody : ∀ (cdv : Value) (A : Around) (outer : List Env) (s : Shared) (H : Hp) (E : XK), Room k (A.deeper (envOfC qual (defScope st) s.heap.objs.size fad cdv)) → PSs (cxOf CX0 P w K mg base N qual (defScope st) fad cdv A outer s H E).nox (defBody st) (tS own f)) : FnOk P w K mg base CX0 (k + 1) fad fd ps (spD (fnS ps.length N.length f) ps.length) := by
  refine F.ok S (fun vs H Q E h => spD_len h) fun cdv A outer s H vs Q E hr ⟨ds, d, hl, r, h, q⟩ => ?_
  refine ⟨_, hbody cdv A outer s H E hr, ?_⟩
  · obtain ⟨fl, h1, h2⟩ := bindE h
    have hst : start N vs = vs.map some ++ List.replicate (N.length - ps.length) none := by
      show vs.map some ++ List.replicate (N.length - vs.length) none = _
      rw [r.length, hl]
    have noown : ∀ a, ¬ Own own (start N vs) a := fun a ⟨i, hi, e⟩ => by
      rw [hst] at e
      by_cases h : i < ps.length
      · rw [hown i h] at hi; cases hi
      · rw [List.getElem?_append_right (by simp [r.length, hl]; omega)] at e
        rw [List.getElem?_replicate] at e
        split at e <;> cases e
    have E0 : ES own H (start N vs) (ds ++ List.replicate (N.length - ps.length) .undef) := by
      refine ⟨by rw [hst]; simp [r.length], fun i hi => ?_, fun i v hi hv => ?_⟩
      · have hlt : i < ds.length := Nat.lt_of_not_le fun hge => hi (by
          rw [List.getD_eq_getElem?_getD, List.getElem?_append_right hge, List.getElem?_replicate]
          split <;> rfl)
        have e : (ds ++ List.replicate (N.length - ps.length) D.undef).getD i .undef = ds[i] := by
          rw [List.getD_eq_getElem?_getD, List.getElem?_append_left hlt, List.getElem?_eq_getElem hlt]
          rfl
        obtain ⟨v, g1, g2⟩ := r.get (i := i) (d := ds[i]) (by simp [hlt])
        refine ⟨v, by rw [hst, List.getElem?_append_left (by simp [r.length, hlt])]; simp [g1], fun _ => ?_⟩
        rw [e]
        exact g2.mono fun a _ => noown a
      · exfalso
        rw [hst] at hv
        by_cases h : i < ps.length
        · rw [hown i h] at hi; cases hi
        · rw [List.getElem?_append_right (by simp [r.length, hl]; omega)] at hv
          rw [List.getElem?_replicate] at hv
          split at hv <;> cases hv
    refine ⟨_, fl, E0, h1, ?_⟩
    have sm : ∀ {σ' : L2.St} {H' : Hp}, KU own (start N vs) H σ' H' → Same H H' := fun k a o e => (k a o e (noown a)).1
    cases fl with
    | nx ρ' => cases h2; exact fun σ' H' k E' => q .non H' (sm k) .non fun _ => .non
    | rt d' =>
      cases h2
      refine fun v H' hk rp => q v H' (fun a o e => hk a o e (noown a)) rp.all fun _ => rp.mono fun a ha => ?_
      rcases ha with ha | ha
      · exact absurd ha (noown a)
      · exact ha
    | bk ρ' => cases h2
    | ct ρ' => cases h2
end
end Mi
end

section
set_option autoImplicit false
set_option linter.all false
set_option maxRecDepth 100000
namespace Mi
open PySem L2 PySem.SeqAt PySem.Spec PyProof.Rows
variable [KFrag]

structure CRest where
  s₀ : Shared
  H₀ : Hp
  env : Env
  outer : List Env
  stack : List Env
  ex : List Addr
  fn : Str → Bool
  pn : List (Addr × Obj)
abbrev mkC (X : Cx) (scope : Scope) (ownN : List Str) (y : CRest) : Cx :=
  { X with N := X.N.map (hideN ownN) ++ ownN, s₀ := y.s₀, H₀ := y.H₀, env := { y.env with scope := relabel scope X.env }, outer := y.outer, stack := y.stack, ex := y.ex, fn := y.fn, pn := y.pn, xe := fun _ _ => False }
theorem mkC_of {X X' : Cx} {scope : Scope} {ownN : List Str} (cc : CompCx X X' scope ownN) : ∃ y, X' = mkC X scope ownN y := by
  refine ⟨⟨X'.s₀, X'.H₀, X'.env, X'.outer, X'.stack, X'.ex, X'.fn, X'.pn⟩, ?_⟩
  obtain ⟨h1, h2, h3, h4, h5, h6, h7, h8, h9, h10⟩ := cc
  cases X' with
  | mk a b c d e f g h i j k l m n o p q =>
    cases j
    dsimp only at *
    subst h1 h2 h3 h4 h5 h6 h7 h8 h9 h10
    rfl
section
variable {own : Nat → Bool} {X : Cx} {scope : Scope} {ownN : List Str} {elt iter tg c : Expr} {it : FI} {t : D → Res (List D)} {g : TG} {gc : FT} {fe : FE} {re : Bool} {pos : Pos} {n m : Nat}
theorem me_comp' (S : CompSc X.N X.env.scope scope ownN) (hn : X.N.length = n) (hm : ownN.length = m) (hcalm : X.calm = true) (hi : PI X tg iter (gI X.K it)) (ht : TgC g t n m) (hg : ∀ y, PG (mkC X scope ownN y) tg g) (he : ∀ y, PE (mkC X scope ownN y) elt (gE fe re))
    (hs : ∀ x, foldedSetIterable iter X.env x = pure x) : PE X (.ListComp elt [⟨tg, iter, [], 0⟩] scope pos) (gE (bComp n it t bTrue fe re) true) :=
  me_comp S hn hm hcalm hi ht (fun X' cc => by obtain ⟨y, rfl⟩ := mkC_of cc; exact hg y) (fun X' cc => by obtain ⟨y, rfl⟩ := mkC_of cc; exact he y) hs
end

/-- a function of the text that may be called -/
def CalOk (P : Program) (w : World) (K : PySem.W.Frag) (mg : Str → Option Value) (base : Heap) (k : Nat) (x : Str) (n : Nat) (f : List D → Res D) : Prop :=
  ∃ (fad : Addr) (fd : FuncData) (ps : List Str), FnOk P w K mg base CX0 k fad fd ps (spD f n) ∧ mg x = some (.ref fad) ∧ PySem.W.keepIn K (.ref fad) = true ∧ Binds K fd ps []
section
variable {X : Cx} {e : Expr} {es : List Expr} {pos p : Pos} {fs : FA} {rr : Bool} {x : Str} {k n : Nat} {f : List D → Res D}
theorem me_callC {k' : Nat} (C : CalOk X.prog X.w X.K X.mg X.base k x n f) (hr : Room k' X.A) (hkk : k ≤ k') (hg : Gl X x) (ha : PA X (e :: es) (gA fs rr)) (hdb : (x == ("__debug__" : Str)) = false := by decide) (he : starEach (e :: es) X.env = (false, eval e X.env) :: starEach es X.env := by rfl) (hpl : (backTo pos (starEach es X.env)).any (·.1) = false := by rfl) :
    PE X (.Call (.Name x p) (e :: es) [] pos) (gE (bCall (argN n f) fs) true) := by
  obtain ⟨fad, fd, ps, F, hm, hk, hb⟩ := C
  exact me_call F (hr.mono hkk) hg hm hk hb ha hdb he hpl
theorem cal_mk {P : Program} {w : World} {K : PySem.W.Frag} {mg : Str → Option Value} {base : Heap} {st : Stmt} {fad : Addr} {fd : FuncData} {N ps : List Str} {fs : FS} (F : Fun K x x st fad fd) (hm : mg x = some (.ref fad)) (hb : Binds K fd ps []) (S : FnScope N ps (defScope st)) (own : Nat → Bool) (hown : ∀ i, i < ps.length → own i = false) (hNl : ps.length ≤ N.length)
    (hbody : ∀ (cdv : Value) (A : Around) (outer : List Env) (s : Shared) (H : Hp) (E : XK), Room k (A.deeper (envOfC x (defScope st) s.heap.objs.size fad cdv)) → PSs (cxOf CX0 P w K mg base N x (defScope st) fad cdv A outer s H E).nox (defBody st) (tS own fs)) : CalOk P w K mg base (k + 1) x ps.length (fnS ps.length N.length fs) :=
  ⟨fad, fd, ps, fn_ok F S own hown hNl hbody, hm, F.kp, hb⟩
end
theorem hu20 {A : Around} {k : Nat} (hr : Room k A) : A.units + 20 < cLine := Nat.lt_of_le_of_lt (Nat.add_le_add_left (by decide : 20 ≤ 64) _) hr.units
/-- names of the machine that the text leaves alone -/
structure Bt (mg : Str → Option Value) : Prop where
  len : mg "len" = none
  min : mg "min" = none
  max : mg "max" = none
  list : mg "list" = none
  tuple : mg "tuple" = none
  sorted : mg "sorted" = none
  range : mg "range" = none
  isi : mg "isinstance" = none
  int : mg "int" = none
  bool : mg "bool" = none
  str : mg "str" = none
  dict : mg "dict" = none
  all : mg "all" = none
  enum : mg "enumerate" = none
  sum : mg "sum" = none
  zip : mg "zip" = none
  abs : mg "abs" = none
  reversed : mg "reversed" = none
theorem vb_len : bootBuiltins "len" = some (.builtin "len") := by decide +kernel
theorem vb_isinstance : bootBuiltins "isinstance" = some (.builtin "isinstance") := by decide +kernel
theorem vb_bool : bootBuiltins "bool" = some (.type "bool") := by decide +kernel
theorem ints_rep {P : Addr → Prop} {H : Hp} : ∀ ns : List Int, Reps P H (ns.map V.int) (ns.map D.int)
  | [] => .nil
  | n :: ns => .cons (.int n) (ints_rep ns)
end Mi
namespace Mi
open PySem L2
theorem script_sp {K : PySem.W.Frag} {f : List D → Res D} {H : Hp} {a : Addr} {ns : List Int} {E : XK} (main : ∀ ns : List Int, ns.length ≤ 63 → f [.scr (ns.map D.int)] = .ok (.bl true)) (hl : ns.length ≤ 63) (hO : Only H) (hS : SqL K H a (ns.map V.int)) : @spD ⟨K⟩ f 1 [.ref a] H (fun v _ => v = .bl true) E := by
  letI : KFrag := ⟨K⟩
  refine ⟨[.scr (ns.map D.int)], .bl true, rfl, .cons (.frz ?_ (ints_rep ns)) .nil, main ns hl, fun v H' s r n => by cases r; rfl⟩
  rcases hS with (h | ⟨o, h⟩) | h
  · rcases hO a with z | ⟨o, xs, z⟩
    · rw [h] at z; cases z
    · rw [h] at z; cases z
  · exact .inl ⟨o, h⟩
  · exact .inr h
end Mi
end

section
set_option autoImplicit false
set_option linter.all false
set_option maxRecDepth 100000
namespace Mi
open PySem L2 PySem.SeqAt PySem.Spec PyProof.Rows

def mulX : D → D → Res D
  | .str x, .int n => if decide (0 ≤ n) && decide (n ≤ 100000) && decide (x.length * n.toNat ≤ lim) then .ok (.str (Txt.mul x n)) else .bad
  | a, b => binD .mul a b
def inX : D → D → Res D
  | .str c, .str x => .ok (.bl (!(Builtin.Str.occurrences x c 0 x.length 1).isEmpty))
  | a, b => cmpD .isin a b
def slcX : D → Option Int → Option Int → Res D
  | .str x, lo, hi => if decide (x.length ≤ lim) then .ok (.str (Txt.slice x lo hi)) else .bad
  | d, lo, hi => slcD d lo hi
def bSlX (a : FE) (lo hi : List D → Res (Option Int)) : FE := fun ρ => do let x ← a ρ; let l ← lo ρ; let h ← hi ρ; slcX x l h
def itemsX : D → Res (List D)
  | .str x => if decide (x.length ≤ lim) then .ok (charsD x) else .bad
  | d => itemsD d
def bItemsX (a : FE) (fr : Bool) : FI := fun ρ => do let x ← a ρ; let xs ← itemsX x; pure (xs, fr || x.pure)
def enumI : D → Res (List D)
  | .lst xs => .ok xs
  | _ => .bad
def bEnum (a : FE) (fr : Bool) : FI := fun ρ => do let x ← a ρ; let xs ← enumI x; pure (enumL xs, fr || x.pure)
def textsD : List D → Option (List Str)
  | [] => some []
  | .str x :: r => (textsD r).map (x :: ·)
  | _ :: _ => none
def joinM : D → List D → Res D
  | .str sep, [.lst ds] => match textsD ds with
    | some ts => if JoinOk sep ts then .ok (.str (Txt.join sep ts)) else .bad
    | none => .bad
  | _, _ => .bad
def boolsD : List D → Option (List Bool)
  | [] => some []
  | .bl x :: r => (boolsD r).map (x :: ·)
  | _ :: _ => none
def allD : List D → Res D
  | [.lst ds] => match boolsD ds with
    | some bs => .ok (.bl (bs.all id))
    | none => .bad
  | _ => .bad

variable [KFrag]
section
variable {X : Cx}
theorem om_mulX : OpR X (binaryOp .Mult) (r2 mulX true) := by
  intro pins s σ H x y v u Q I rx ry ⟨a, b, d, p, q, e, k⟩
  by_cases hs : ∃ z n, a = .str z ∧ b = .int n
  · obtain ⟨z, n, rfl, rfl⟩ := hs
    simp only [mulX] at e
    split at e
    · rename_i hl
      cases e
      simp only [Bool.and_eq_true, decide_eq_true_eq] at hl
      obtain ⟨⟨h0, h1⟩, h2⟩ := hl
      cases p
      cases q
      obtain ⟨t, rfl⟩ := rx
      obtain ⟨t', rfl⟩ := ry
      have hz : z.length * n.toNat ≤ sizeLine := Nat.le_trans h2 (by rw [sizeLine_eq]; decide)
      refine SB.mul ⟨?_, fun h3 _ => ?_, fun _ _ => ?_⟩ fun t2 k2 => ⟨.str _, H, I.tok k2, ⟨t2, rfl⟩, k.str⟩
      · rw [decide_eq_false (by omega), decide_eq_false (by omega)]
        rfl
      · have hn : 0 < n := by omega
        have h4 : (z.length : Int) * n ≤ 2 ^ 63 - 1 := by
          have h5 : ((z.length * n.toNat : Nat) : Int) ≤ 1000000 := by
            have : lim = 1000000 := by unfold lim; exact Eq.refl _
            omega
          rw [Int.natCast_mul, Int.toNat_of_nonneg h0] at h5
          omega
        have h6 := (Int.le_ediv_iff_mul_le hn).mpr h4
        omega
      · unfold Builtin.Str.tooLong
        exact decide_eq_false (by omega)
    · cases e
  · have he : mulX a b = binD .mul a b := by
      unfold mulX
      split
      · exact absurd ⟨_, _, rfl, rfl⟩ hs
      · rfl
    rw [he] at e
    exact om_mul pins s σ H x y v u Q I rx ry ⟨a, b, d, p, q, e, k⟩
theorem om_inX (hu : X.A.units + 20 < cLine) : OpR X (compareOp .In) (r2 inX true) := by
  intro pins s σ H x y v u Q I rx ry ⟨a, b, d, p, q, e, k⟩
  by_cases hs : ∃ z n, a = .str z ∧ b = .str n
  · obtain ⟨z, n, rfl, rfl⟩ := hs
    cases e
    cases p
    cases q
    exact op_in_str pins s σ H _ _ v u Q I rx ry ⟨_, _, rfl, rfl, k.bl⟩
  · have he : inX a b = cmpD .isin a b := by
      unfold inX
      split
      · exact absurd ⟨_, _, rfl, rfl⟩ hs
      · rfl
    rw [he] at e
    exact om_in hu pins s σ H x y v u Q I rx ry ⟨a, b, d, p, q, e, k⟩
theorem part_of {v : Value} {o : Option Int} (h : IsPart v o) : ∃ l : Option (Int × Tok), partValue l = v ∧ l.map (·.1) = o := by
  cases h with
  | none => exact ⟨none, rfl, rfl⟩
  | int i t => exact ⟨some (i, t), rfl, rfl⟩
theorem om_slX (hK : KFrag.K = X.K) : SlR X (fun x lo hi H Q => ∃ a d, Rep All H x a ∧ slcX a lo hi = .ok d ∧ kR H d true Q) := by
  intro pins s σ H x v vl vu lo hi sl Q I rx hs pl pu ⟨a, d, p, e, k⟩
  by_cases hz : ∃ z, a = .str z
  · obtain ⟨z, rfl⟩ := hz
    simp only [slcX] at e
    split at e
    · rename_i hl
      cases e
      cases p
      obtain ⟨t, rfl⟩ := rx
      obtain ⟨l, e1, e2⟩ := part_of pl
      obtain ⟨m, e3, e4⟩ := part_of pu
      subst e1 e2 e3 e4
      refine ⟨"str", _, F.slot_str_getitem.lookup, typeIs_str _ _ _, ?_⟩
      obtain ⟨o, ho, hc, hd⟩ := hs
      refine wpAny_getItem_str_slice (l := l) (u := m) (st := none) ⟨o, ho, hc, hd⟩ rfl ?_
      have hle : (Txt.slice z (l.map (·.1)) (m.map (·.1))).length ≤ sizeLine := Nat.le_trans (Txt.slice_le ..) (lim_line hl)
      have q : ∀ (t' : Tok) (k2 : Nat), EP X pins σ Q (.str (Txt.slice z (l.map (·.1)) (m.map (·.1))) t') { s with toks := k2 } := fun t' k2 => ⟨.str _, H, I.tok k2, ⟨t', rfl⟩, k.str⟩
      show Made.post (if ((1 : Int) == 1 && (Builtin.Str.strSliceIndices (l.map (·.1)) (m.map (·.1)) 1 z.length).length == z.length) = true then .val (.str z t) else .str ⟨((Builtin.Str.strSliceIndices (l.map (·.1)) (m.map (·.1)) 1 z.length).filterMap (z.cps[·]?)).toArray⟩) _ s
      unfold Txt.slice at hle q
      split
      · rename_i hh
        have := q t s.toks
        rw [if_pos hh] at this
        exact this
      · rename_i hh
        rw [if_neg hh] at hle
        have := q s.toks (s.toks + 1)
        rw [if_neg hh] at this
        exact ⟨hle, this⟩
    · cases e
  · have he : slcX a lo hi = slcD a lo hi := by
      unfold slcX
      split
      · exact absurd ⟨_, rfl⟩ hz
      · rfl
    rw [he] at e
    exact om_sl hK pins s σ H x v vl vu lo hi sl Q I rx hs pl pu ⟨a, d, p, e, k⟩
theorem me_slX {e : Expr} {fe : FE} {re : Bool} {pos : Pos} {lo hi : Option Expr} {p2 : Pos} {fl fh : List D → Res (Option Int)} (hK : KFrag.K = X.K) (he : PE X e (gE fe re)) (hl : PO X lo (gO fl)) (hh : PO X hi (gO fh)) : PE X (.Subscript e (.Slice lo hi none p2) pos) (gE (bSlX fe fl fh) true) :=
  PE.imp (pe_slice (om_slX hK) he hl hh) fun σ H Q ⟨ρ, d, E, h, q⟩ => by
    obtain ⟨x, h1, h⟩ := bindE h
    obtain ⟨l, h2, h⟩ := bindE h
    obtain ⟨u, h3, h⟩ := bindE h
    exact ⟨ρ, x, E, h1, fun v H1 s1 r1 _ => ⟨ρ, l, E.same s1, h2, fun H2 s2 => ⟨ρ, u, E.same (s1.trans s2), h3, fun H3 s3 => ⟨x, d, r1.same (s2.trans s3), h, q.imp ((s1.trans s2).trans s3) id⟩⟩⟩⟩

theorem texts_of {P : Addr → Prop} {H : Hp} : ∀ {xs : List V} {ds : List D} {its : List Value} {ts : List Str}, Reps P H xs ds → Vals xs its → textsD ds = some ts → ∃ l : List (Str × Tok), its = strValues l ∧ l.map (·.1) = ts
  | [], [], [], _, _, _, h => by cases h; exact ⟨[], rfl, rfl⟩
  | _, _, _, _, .cons (d := d) r t, .cons rv tv, h => by
    cases d with
    | str z =>
      obtain ⟨ts, h1, h2⟩ := Option.map_eq_some_iff.mp h
      cases r
      obtain ⟨tk, rfl⟩ := rv
      obtain ⟨l, e1, e2⟩ := texts_of t tv h1
      refine ⟨(z, tk) :: l, ?_, ?_⟩
      · rw [e1]; rfl
      · rw [← h2, ← e2]; rfl
    | _ => simp only [textsD] at h; cases h
theorem mt_join : MtR X "str.join" (rm joinM true) := by
  intro pins s σ H x xs v us Q I rv vr ⟨a, ds, d, ra, rs, h, k⟩
  unfold joinM at h
  split at h
  · split at h
    · rename_i ts hts
      split at h
      · rename_i hok
        cases h
        obtain ⟨vv, uu, rfl, rfl, r, rk⟩ := one_of rs vr
        obtain ⟨l, ys, rfl, hl, rr⟩ := r.lstAt (K := X.K)
        cases rk
        cases ra
        obtain ⟨t, rfl⟩ := rv
        obtain ⟨its, vr', pl⟩ := lst_of I hl
        obtain ⟨l2, e1, e2⟩ := texts_of rr vr' hts
        subst e1
        exact SC.join pl e2 hok fun t' k2 => ⟨.str _, H, I.tok k2, ⟨t', rfl⟩, k.str⟩
      · cases h
    · cases h
  · cases h
theorem joinM_ty {d : D} {ds : List D} {r : D} {v : V} {H : Hp} (h : joinM d ds = .ok r) (rp : Rep All H v d) : tyV X.K "str" v H := by
  have : ∃ z, d = .str z := by
    unfold joinM at h
    split at h
    · exact ⟨_, rfl⟩
    · cases h
  obtain ⟨z, rfl⟩ := this
  cases rp
  rfl
theorem bools_of {P : Addr → Prop} {H : Hp} : ∀ {xs : List V} {ds : List D} {its : List Value} {bs : List Bool}, Reps P H xs ds → Vals xs its → boolsD ds = some bs → its = bs.map Value.bool
  | [], [], [], _, _, _, h => by cases h; rfl
  | _, _, _, _, .cons (d := d) r t, .cons rv tv, h => by
    cases d <;> simp only [boolsD] at h <;> (try (cases h; done))
    obtain ⟨ts, h1, h2⟩ := Option.map_eq_some_iff.mp h
    cases r
    cases rv
    rw [bools_of t tv h1, ← h2]
    rfl
theorem cl_all (hc : X.calm = true) : CallR X (.builtin "all") (rs allD true) := by
  intro pins s σ H xs us Q I vr ⟨ds, d, r, e, k⟩
  unfold allD at e
  split at e
  · split at e
    · rename_i bs hbs
      cases e
      obtain ⟨vv, uu, rfl, rfl, r, v⟩ := one_of r vr
      obtain ⟨l, ys, rfl, hl, rr⟩ := r.lstAt (K := X.K)
      cases v
      obtain ⟨its, vr', pl⟩ := lst_of I hl
      have hb := bools_of rr vr' hbs
      subst hb
      have hlt : l < s.heap.objs.size := by obtain ⟨_, e, _⟩ := pl; exact Heap.lt_size e
      refine call_all_walk (wpAny_pyIter_list pl ?_)
      refine ⟨_, _, _, _, _, _, fun i => bs.getD i true, rfl, Walks.list (A := X.A.in1) (I.ok.hd hc) _ l (Nat.ne_of_lt hlt) _, ⟨⟨_, Heap.get?_push_size _ rfl, rfl, rfl⟩, pl.push _⟩, fun i v s' Q' E' hP hQ => ?_, fun h' tk hk => ?_⟩
      · have hv : (bs.map Value.bool)[i]? = some v := by simpa using hP
        rw [List.getElem?_map] at hv
        cases hb : bs[i]? with
        | none => rw [hb] at hv; cases hv
        | some b =>
          rw [hb] at hv
          cases hv
          have hQ : Q' (bs.getD i true) s' := hQ
          rw [List.getD_eq_getElem?_getD, hb] at hQ
          exact wpAny_truthy_bool hQ
      · have e : (List.range (bs.map Value.bool).toArray.size).all (fun i => bs.getD i true) = bs.all id := by
          rw [List.size_toArray, List.length_map]
          have : bs = (List.range bs.length).map fun i => bs.getD i true := by
            apply List.ext_getElem
            · simp
            · intro i h1 h2
              simp [h1]
          conv => rhs; rw [this]
          rw [List.all_map]
          rfl
        rw [e]
        refine ⟨.bl _, H, I.kept fun b o e => hk b o (fun hb => ?_) (Heap.get?_push_of_some _ e), rfl, k.bl⟩
        rcases List.mem_cons.mp hb with rfl | hb
        · exact absurd (Heap.lt_size e) (Nat.lt_irrefl _)
        · cases hb
    · cases e
  · cases e

theorem turn_str {P : Program} {w : World} {K : PySem.W.Frag} {tg : Expr} (x : Str) (t : Tok) (it : Addr) : Turn P w K tg (Itss x) [it] it (fun i h => h.IsStrIter it (strIterType x) x t i) where
  mem := by simp
  obj := fun i h st b hb => by
    have e : b = it := by simpa using hb
    subst e
    obtain ⟨o, e, c, d⟩ := st
    exact ⟨o, e, fun v z => by rw [d] at z; cases z⟩
  keep := fun i h h' st k => by
    obtain ⟨o, e, r⟩ := st
    exact ⟨o, k it (by simp) o e, r⟩
  item := by
    intro Y hP hw hK hc i pins s σ H E I hf st hg
    subst hP hw hK
    obtain ⟨f0, f1, f2, f3, f4, f5⟩ := hf it (by simp)
    have hx : x.cps[i]? = some x.cps[i] := Array.getElem?_eq_getElem hg
    have fin : ∀ (h' : Heap) (ty : String), (["enumerate", "zip", "dict_itemiterator", "dict_reverseitemiterator", "odict_iterator", "itertools.zip_longest", "itertools.pairwise"].contains ty = false) → strIterType x = ty → h'.IsStrIter it ty x t (i + 1) → Heap.SameBut it s.heap h' →
        ∃ u, some (Value.str ⟨#[x.cps[i]]⟩ s.toks) = some u ∧ wpAny (model Y.prog Y.w) Y.A (letOwnedTupleGo tg (.ref it) u) (fun _ s2 => ∃ v H', Inv Y pins σ H' s2 ∧ RelV v u ∧ (Itss x).yld i H v H' ∧ s2.heap.IsStrIter it (strIterType x) x t (i + 1) ∧ ∀ b ∈ [it], H' b = none) E { s with heap := h', toks := s.toks + 1 } := by
      intro h' ty hn hty st' sb
      have I1 : Inv Y pins σ H { s with heap := h', toks := s.toks + 1 } := I.turned (fun b o hb e => (sb.2 b hb).trans e) f0 f1 f3 f4 f5
      obtain ⟨o, e, c, d⟩ := id st'
      exact ⟨_, rfl, go_of (s := { s with heap := h', toks := s.toks + 1 }) e c d hn ⟨.str ⟨#[x.cps[i]]⟩, H, I1, ⟨_, rfl⟩, ⟨rfl, _, hx, rfl⟩, by rw [hty]; exact st', fun b hb => (hf b hb).1⟩⟩
    cases ha : x.cps.all (· < 128)
    · have hty : strIterType x = "str_iterator" := by simp [strIterType, ha]
      rw [hty] at st
      exact wpAny_pyNext_wide_item st hx fun h' st' sb => fin h' _ (by decide) hty st' sb
    · have hty : strIterType x = "str_ascii_iterator" := by simp [strIterType, ha]
      rw [hty] at st
      exact wpAny_pyNext_ascii_item st hx fun h' st' sb => fin h' _ (by decide) hty st' sb
  done := by
    intro Y hP hw hK hc i pins s σ H E I hf st hg
    subst hP hw hK
    obtain ⟨f0, f1, f2, f3, f4, f5⟩ := hf it (by simp)
    have hx : x.cps[i]? = none := Array.getElem?_eq_none hg
    cases ha : x.cps.all (· < 128)
    · have hty : strIterType x = "str_iterator" := by simp [strIterType, ha]
      rw [hty] at st
      exact wpAny_pyNext_wide_end (I.ok.hd hc) st hx fun h' eb => ⟨rfl, I.turned (t' := s.toks) (fun b o hb e => eb b o hb e) f0 f1 f3 f4 f5⟩
    · have hty : strIterType x = "str_ascii_iterator" := by simp [strIterType, ha]
      rw [hty] at st
      exact wpAny_pyNext_ascii_end (I.ok.hd hc) st hx fun h' eb => ⟨rfl, I.turned (t' := s.toks) (fun b o hb e => eb b o hb e) f0 f1 f3 f4 f5⟩
  self := fun _ _ _ _ _ st h => by
    cases ha : x.cps.all (· < 128)
    · have hty : strIterType x = "str_iterator" := by simp [strIterType, ha]
      rw [hty] at st
      exact wpAny_pyIter_striter_wide st h
    · have hty : strIterType x = "str_ascii_iterator" := by simp [strIterType, ha]
      rw [hty] at st
      exact wpAny_pyIter_striter_ascii st h
section
variable {tg l a : Expr} {fl fa : FE} {rl ra : Bool} {p pos : Pos}
theorem iter_repX {pins : List (Addr × Obj)} {s1 : Shared} {σ : L2.St} {H1 : Hp} {R : It → Hp → Prop} {v : V} {u : Value} {d : D} {items : List D} (I1 : Inv X pins σ H1 s1) (r : Rep All H1 v d) (ru : RelV v u) (hi : itemsX d = .ok items)
    (q : ∀ J, (∀ P : Addr → Prop, Rep P H1 v d → ItQ X.K P J H1 items) → R J H1) : wpAny (model X.prog X.w) X.A (pyIter u) (PIE X pins σ tg R) X.xe s1 := by
  by_cases hz : ∃ z, d = .str z
  · obtain ⟨z, rfl⟩ := hz
    simp only [itemsX] at hi
    split at hi
    · cases hi
      cases r
      obtain ⟨t, rfl⟩ := ru
      refine wpAny_pyIter_strU ?_
      refine ⟨s1.heap.objs.size, [s1.heap.objs.size], _, _, H1, rfl, I1.kept (t' := s1.toks) fun b o e => Heap.get?_push_of_some _ e, turn_str z t _, ⟨_, Heap.get?_push_size _ rfl, rfl, rfl⟩, fun b hb => ?_, q _ fun P r => .chs z rfl rfl⟩
      have e : b = s1.heap.objs.size := by simpa using hb
      subst e
      exact I1.fpOk (Nat.le_refl _) (I1.hok.fresh (Nat.le_refl _))
    · cases hi
  · have he : itemsX d = itemsD d := by
      unfold itemsX
      split
      · exact absurd ⟨_, rfl⟩ hz
      · rfl
    rw [he] at hi
    exact iter_rep I1 r ru hi q
theorem mi_valX (hl : PE X l (gE fl rl)) : PI X tg l (gI X.K (bItemsX fl rl)) := by
  intro pins s σ H R I ⟨ρ, items, k, E, h, q⟩
  obtain ⟨d, h1, h⟩ := bindE h
  obtain ⟨its, h2, h⟩ := bindE h
  cases h
  refine thn (hl pins s σ H _ I ⟨ρ, d, E, h1, fun v H1 s1 r1 n1 => (show (∃ d', Rep All H1 v d ∧ d' = d ∧ ∀ J, (∀ P : Addr → Prop, Rep P H1 v d → ItQ X.K P J H1 items) → R J H1) from ⟨d, r1, rfl, fun J hJ => q J H1 s1 (hJ _ r1) fun hk => hJ _ ?_⟩)⟩) fun u s1 ⟨v, H1, I1, ru, d', r1, e, q1⟩ => iter_repX I1 r1 ru h2 q1
  rw [Bool.or_eq_true] at hk
  rcases hk with hk | hk
  · exact n1 hk
  · exact r1.ofPure hk

/-- some untracked records of ours have turned, and a new tuple is laid -/
theorem inv_turnNew {pins : List (Addr × Obj)} {s : Shared} {σ : L2.St} {H : Hp} {h' : Heap} {t' : Nat} {ch : List Addr} {a : Addr} {o : HO} (I : Inv X pins σ H s) (k : ∀ b u, b ∉ ch → s.heap.get? b = some u → h'.get? b = some u) (hf : ∀ b ∈ ch, FpOk X pins H b) (hp : s.heap.objs.size ≤ a)
    (new : ObjOk X.prog X.w (upd H a o) h' a o) : Inv X pins σ (upd H a o) { s with heap := h', toks := t' } := by
  have hn : H a = none := I.hok.fresh hp
  have nch : ∀ b u, H b = some u → b ∉ ch := fun b u e z => by rw [(hf b z).1] at e; cases e
  have kU : ∀ b u, H b = some u → upd H a o b = some u := fun b u e => by rw [upd_ne (ne_of_none e hn)]; exact e
  refine I.step (g' := s.gens) (d' := s.drawn) (ch := ch) (fun b hb => ?_) (fun b u _ _ hc e _ => k b u hc e) (fun b u _ _ hc e _ => ⟨u.slots, k b u hc e⟩) (fun b u _ e n => ?_)
    (fun b u hc e => ⟨u, k b u hc e⟩) (fun b xs e => kU b _ e) (fun b u v e => kU b _ e) (fun b ps e => ⟨#[], by rw [kU b _ e]; simp⟩) (fun m hm => ?_) (fun b u e => ?_) I.bare
  · obtain ⟨_, f1, _, f3, f4, f5⟩ := hf b hb
    exact ⟨f3, f1, f4, f5⟩
  · rw [upd_ne (fun z => absurd (Nat.lt_of_lt_of_le (Heap.lt_size e) hp) (by rw [z]; exact Nat.lt_irrefl _))]
    exact n
  · obtain ⟨u, es, ep, hu, r⟩ := hm
    exact ⟨u, es, ep, k _ u (fun z => (hf _ z).2.1 rfl) hu, r⟩
  · by_cases hb : b = a
    · subst hb
      rw [upd_same] at e
      cases e
      exact new
    · rw [upd_ne hb] at e
      refine (I.hok b u e).stay (fun c v hc q => k c v ?_ q) (fun c q => kU c _ q) fun c xs q => kU c _ q
      rcases hc with z | z
      · rw [z]; exact nch b u e
      · exact nch c _ z
theorem turn_enum {P : Program} {w : World} {K : PySem.W.Frag} {elts : List Expr} {x1} {tp : Pos} (a e it : Addr) (hne : e ≠ it) : Turn P w K (.Tuple elts x1 tp) (Ite K a) [e, it] e (fun i h => (∃ old, IsEnum h e it i old) ∧ h.IsListIter it a i) where
  mem := by simp
  obj := fun i h st b hb => by
    obtain ⟨⟨old, h1⟩, h2⟩ := st
    rcases List.mem_cons.mp hb with rfl | hb
    · exact ⟨_, h1, fun v z => by
        have z' : Data.fields _ = Data.cell v := z
        cases z'⟩
    · have e : b = it := by simpa using hb
      subst e
      obtain ⟨o, e, c, d⟩ := h2
      exact ⟨o, e, fun v z => by rw [d] at z; cases z⟩
  keep := fun i h h' st k => by
    obtain ⟨⟨old, h1⟩, h2⟩ := st
    exact ⟨⟨old, k e (by simp) _ h1⟩, h2.at fun o e => k it (by simp) o e⟩
  item := by
    intro Y hP hw hK hc i pins s σ H E I hf st hg
    subst hP hw hK
    obtain ⟨⟨old, h1⟩, h2⟩ := st
    obtain ⟨xs, x, hq, hx⟩ := hg
    obtain ⟨its, rv, p, hz⟩ := I.list hq
    obtain ⟨u, hu, ru⟩ := rv.get hx
    have hlt : e < s.heap.objs.size := Heap.lt_size h1
    refine wpAny_pyNext_enum_item h1 h2 p.isList (x := u) (by simpa using hu) hne fun h' o1 o2 o3 o4 o5 => ?_
    refine ⟨_, rfl, wpAny_letOwnedTupleGo_enum o1 fun h'' g1 g2 => ?_⟩
    have g2' : Heap.SameBut e h' h'' := g2
    have kk : ∀ b o, b ∉ [e, it] → s.heap.get? b = some o → h''.get? b = some o := fun b o hb eb => by
      rw [List.mem_cons, List.mem_singleton, not_or] at hb
      exact (g2'.2 b hb.1).trans (o5 b o hb.1 hb.2 eb)
    have o3' : h''.get? s.heap.objs.size = some { cls := .type "tuple", data := .seq #[.int i s.toks, u] } := (g2'.2 _ (Nat.ne_of_gt hlt)).trans o3
    refine ⟨.ref s.heap.objs.size, upd H s.heap.objs.size (.tup [.int i, x]), inv_turnNew (s := s) (h' := h'') (t' := s.toks + 1) (ch := [e, it]) I kk (fun b hb => hf b hb) (Nat.le_refl _) ?_, rfl, ⟨_, x, fun ys hy => by rw [I.list_inj hy hq]; exact hx, rfl, I.hok.fresh (Nat.le_refl _), rfl⟩, ⟨⟨_, g1⟩, ?_⟩, fun b hb => ?_⟩
    · exact ⟨by show 2 ≤ sizeLine; rw [sizeLine_eq]; decide, [.int i s.toks, u], .cons ⟨_, rfl⟩ (.cons ru .nil), ⟨_, o3', rfl, 0, rfl⟩⟩
    · obtain ⟨o, ho, r⟩ := o2
      exact ⟨o, (g2'.2 it (Ne.symm hne)).trans ho, r⟩
    · have hb' := (hf b hb).1
      rw [upd_ne]
      · exact hb'
      · intro z
        subst z
        rcases List.mem_cons.mp hb with h | h
        · rw [← h] at hlt; exact Nat.lt_irrefl _ hlt
        · have h' : s.heap.objs.size = it := by simpa using h
          obtain ⟨o, ho, _⟩ := h2
          have := Heap.lt_size ho
          rw [← h'] at this
          exact Nat.lt_irrefl _ this
  done := by
    intro Y hP hw hK hc i pins s σ H E I hf st hg
    subst hP hw hK
    obtain ⟨⟨old, h1⟩, h2⟩ := st
    obtain ⟨xs, hq, hx⟩ := hg
    obtain ⟨its, rv, p, hz⟩ := I.list hq
    obtain ⟨f0, f1, f2, f3, f4, f5⟩ := hf it (by simp)
    have hl := rv.length
    exact wpAny_pyNext_enum_end (I.ok.hd hc) h1 h2 p.isList (by simp; omega) fun h' eb => ⟨rfl, I.turned (t' := s.toks) (fun b o hb e => eb b o hb e) f0 f1 f3 f4 f5⟩
  self := fun _ _ _ _ _ st h => by
    obtain ⟨⟨old, h1⟩, h2⟩ := st
    exact wpAny_pyIter_enum h1 h
theorem mi_enum {elts : List Expr} {x1} {tp : Pos} (hg : Gl X "enumerate") (hm : X.mg "enumerate" = none) (ha : PA X [a] (gA (bCons fa bNil) ra)) (hs : starEach [a] X.env = [(false, eval a X.env)] := by rfl) :
    PI X (.Tuple elts x1 tp) (.Call (.Name "enumerate" p) [a] [] pos) (gI X.K (bEnum fa ra)) := by
  intro pins s σ H R I ⟨ρ, items, k, E, h, q⟩
  obtain ⟨d, h1, h⟩ := bindE h
  obtain ⟨its, h2, h⟩ := bindE h
  cases h
  have hd : d = .lst its := by
    unfold enumI at h2
    split at h2
    · cases h2; rfl
    · cases h2
  subst hd
  have hb : bCons fa bNil ρ = .ok [D.lst its] := by
    unfold bCons
    rw [h1]
    rfl
  refine Call_ (ld_blt I hg hm PyProof.Rows.boot_enumerate (PyProof.Rows.callWith_type1 (thn (ha pos pins s σ H (fun vs H1 => ∃ v, vs = [v] ∧ Same H H1 ∧ Rep All H1 v (.lst its) ∧ (ra = true → Rep (New H) H1 v (.lst its))) I ⟨ρ, _, E, hb, fun vs H1 s1 r1 n1 => ?_⟩) fun us s1 ⟨vs, H1, I1, r1, q1⟩ => ?_) hs rfl))
  · cases r1 with
    | cons r t =>
      cases t
      refine ⟨_, rfl, s1, r, fun z => ?_⟩
      cases n1 z with
      | cons r' _ => exact r'
  · obtain ⟨v, rfl, s1', r, n⟩ := q1
    cases r1 with
    | cons rv rr =>
      cases rr
      obtain ⟨l, ys, rfl, hl, rr⟩ := r.lstAt (K := X.K)
      cases rv
      obtain ⟨vs, rvs, pl, hz⟩ := I1.list hl
      refine call_enumerate_list pl.isList fun h' e1 e2 e3 e4 => ?_
      refine wpAny_pyIter_enum e1 ?_
      refine ⟨s1.heap.objs.size + 1, [s1.heap.objs.size + 1, s1.heap.objs.size], _, _, H1, rfl, I1.kept (t' := s1.toks) fun b o e => e4 b o e, turn_enum l (s1.heap.objs.size + 1) s1.heap.objs.size (Nat.succ_ne_self _), ⟨⟨_, e1⟩, e2⟩, fun b hb => ?_, q _ H1 s1' (.enm l its rfl r rfl) fun hk => .enm l its rfl ?_ rfl⟩
      · rcases List.mem_cons.mp hb with rfl | hb
        · exact I1.fpOk (Nat.le_succ _) (I1.hok.fresh (Nat.le_succ _))
        · have e : b = s1.heap.objs.size := by simpa using hb
          subst e
          exact I1.fpOk (Nat.le_refl _) (I1.hok.fresh (Nat.le_refl _))
      · rw [Bool.or_eq_true] at hk
        rcases hk with hk | hk
        · exact n hk
        · cases hk
end
end
section
variable {X : Cx} {pos p : Pos} {x : Str} {k : Nat} {f : List D → Res D}
theorem me_callC0 {k' : Nat} (C : CalOk X.prog X.w X.K X.mg X.base k x 0 f) (hr : Room k' X.A) (hkk : k ≤ k') (hg : Gl X x) (hdb : (x == ("__debug__" : Str)) = false := by decide) : PE X (.Call (.Name x p) [] [] pos) (gE (bCall (argN 0 f) bNil) true) := by
  obtain ⟨fad, fd, ps, F, hm, hk, hb⟩ := C
  refine PE.imp (pe_call0 F (hr.mono hkk) hg hm hk hb .nil pass0 hdb) fun σ H Q ⟨ρ, d, E, h, q⟩ => ?_
  obtain ⟨ds, h1, h⟩ := bindE h
  cases h1
  exact ⟨[], d, rfl, .nil, h, q⟩
end
theorem vb_all : bootBuiltins "all" = some (.builtin "all") := by decide +kernel
end Mi
end

section
set_option autoImplicit false
set_option linter.all false
set_option maxRecDepth 100000
namespace Mi
open PySem L2
theorem asB_bl (b : Bool) : asB (.bl b) = .ok b := rfl
theorem lim_eq : lim = 1000000 := by unfold lim; exact Eq.refl _
theorem padD_self {n : Nat} {ρ : List D} (h : ρ.length = n) : padD n ρ = ρ := by
  subst h
  apply List.ext_getElem
  · simp [padD]
  · intro i h1 h2
    simp [padD, h2]
theorem argN_ok {n : Nat} {f : List D → Res D} {ds : List D} (h : ds.length = n) : argN n f ds = f ds := by
  unfold argN
  rw [if_pos (by simp [h])]
theorem b2_ok {f : D → D → Res D} {a b : FE} {ρ : List D} {x y z : D} (h1 : a ρ = .ok x) (h2 : b ρ = .ok y) (h3 : f x y = .ok z) : b2 f a b ρ = .ok z := by
  unfold b2
  rw [h1, Res.ok_bind, h2, Res.ok_bind, h3]
theorem set_ok {i : Nat} {f : FE} {ρ : List D} {d : D} (h : f ρ = .ok d) : sSet false i f true ρ = .ok (.nx (ρ.set i d)) := by
  unfold sSet
  rw [h, Res.ok_bind]
  rfl
theorem setP_ok {i : Nat} {f : FE} {ρ : List D} {d : D} (h : f ρ = .ok d) (hp : d.pure = true) : sSet false i f false ρ = .ok (.nx (ρ.set i d)) := by
  unfold sSet
  rw [h, Res.ok_bind]
  simp only [hp, Bool.false_or, Bool.false_eq_true, if_false, if_true]
theorem seq_ok {f g : FS} {ρ ρ' : List D} {r : Res Fl} (h1 : f ρ = .ok (.nx ρ')) (h2 : g ρ' = r) : sSeq f g ρ = r := by
  unfold sSeq
  rw [h1, Res.ok_bind]
  exact h2
theorem if_ok {c : FT} {f g : FS} {ρ : List D} {k : Bool} {r : Res Fl} (h1 : c ρ = .ok k) (h2 : (if k then f ρ else g ρ) = r) : sIf c f g ρ = r := by
  unfold sIf
  rw [h1, Res.ok_bind]
  exact h2
theorem if_t {c : FT} {f g : FS} {ρ : List D} {r : Res Fl} (h1 : c ρ = .ok true) (h2 : f ρ = r) : sIf c f g ρ = r := if_ok h1 (by rw [if_pos rfl]; exact h2)
theorem if_f {c : FT} {f g : FS} {ρ : List D} {r : Res Fl} (h1 : c ρ = .ok false) (h2 : g ρ = r) : sIf c f g ρ = r := if_ok h1 (by rw [if_neg (by simp)]; exact h2)
theorem tb_ok {f : FE} {ρ : List D} {k : Bool} (h1 : f ρ = .ok (.bl k)) : bTB f ρ = .ok k := by
  unfold bTB
  rw [h1, Res.ok_bind]
  rfl
theorem and_t {a b : FT} {ρ : List D} {r : Res Bool} (h1 : a ρ = .ok true) (h2 : b ρ = r) : bAnd a b ρ = r := by
  unfold bAnd
  rw [h1, Res.ok_bind, if_pos rfl, h2]
theorem and_f {a b : FT} {ρ : List D} (h1 : a ρ = .ok false) : bAnd a b ρ = .ok false := by
  unfold bAnd
  rw [h1, Res.ok_bind, if_neg (by simp)]
  rfl
theorem ch_t {f g : D → D → Res D} {a b c : FE} {ρ : List D} {x y z : D} {r : Res D} (h1 : a ρ = .ok x) (h2 : b ρ = .ok y) (h3 : f x y = .ok (.bl true)) (h4 : c ρ = .ok z) (h5 : g y z = r) : bCh f g a b c ρ = r := by
  unfold bCh
  rw [h1, Res.ok_bind, h2, Res.ok_bind, h3, Res.ok_bind, asB_bl, Res.ok_bind, if_pos rfl, h4, Res.ok_bind, h5]
theorem ch_f {f g : D → D → Res D} {a b c : FE} {ρ : List D} {x y : D} (h1 : a ρ = .ok x) (h2 : b ρ = .ok y) (h3 : f x y = .ok (.bl false)) : bCh f g a b c ρ = .ok (.bl false) := by
  unfold bCh
  rw [h1, Res.ok_bind, h2, Res.ok_bind, h3, Res.ok_bind, asB_bl, Res.ok_bind, if_neg (by simp)]
  rfl
theorem cons_ok {a : FE} {b : FA} {ρ : List D} {x : D} {xs : List D} (h1 : a ρ = .ok x) (h2 : b ρ = .ok xs) : bCons a b ρ = .ok (x :: xs) := by
  unfold bCons
  rw [h1, Res.ok_bind, h2, Res.ok_bind]
  rfl
theorem call_ok {f : List D → Res D} {a : FA} {ρ : List D} {xs : List D} {d : D} (h1 : a ρ = .ok xs) (h2 : f xs = .ok d) : bCall f a ρ = .ok d := by
  unfold bCall
  rw [h1, Res.ok_bind, h2]
theorem ret_ok {f : FE} {ρ : List D} {d : D} {k : Bool} (h : f ρ = .ok d) (hp : (k || d.pure) = true) : sRet f k ρ = .ok (.rt d) := by
  unfold sRet
  rw [h, Res.ok_bind, if_pos hp]
theorem for_ok {it : FI} {t : D → List D → Res (List D)} {body : FS} {ρ : List D} {xs : List D} {r : Res Fl} (h1 : it ρ = .ok (xs, true)) (h2 : forS t body xs ρ = r) : sFor it t body ρ = r := by
  unfold sFor
  rw [h1, Res.ok_bind]
  exact h2
theorem rng_ok {f : FA} {ρ : List D} {n : Int} (h : f ρ = .ok [.int n]) (h1 : 0 ≤ n) (h2 : n ≤ 1000000) : bThen f rng1D ρ = .ok ((List.range n.toNat).map fun (k : Nat) => D.int (0 + (k : Int)), true) := by
  unfold bThen
  rw [h, Res.ok_bind]
  have : bound62 n = true := by
    simp only [bound62, Bool.and_eq_true, decide_eq_true_eq]
    omega
  simp only [rng1D, this, if_true]
theorem fors_cons {t : D → List D → Res (List D)} {body : FS} {x : D} {xs : List D} {ρ ρ1 ρ2 : List D} {r : Res Fl} (h1 : t x ρ = .ok ρ1) (h2 : body ρ1 = .ok (.nx ρ2)) (h3 : forS t body xs ρ2 = r) : forS t body (x :: xs) ρ = r := by
  rw [forS, h1, Res.ok_bind, h2, Res.ok_bind]
  exact h3
theorem lst_get (L : List D) (i : Int) (h0 : 0 ≤ i) (h1 : i < L.length) : ∃ (h : i.toNat < L.length), getD (.lst L) (.int i) = .ok L[i.toNat] := by
  have hlt : i.toNat < L.length := by omega
  refine ⟨hlt, ?_⟩
  show Res.ofOpt ((ixD L.length i).bind fun j => L[j]?) = _
  unfold ixD
  rw [if_pos h0, if_pos h1]
  simp only [Option.bind_some]
  rw [List.getElem?_eq_getElem hlt]
  rfl
theorem comp_ok {n : Nat} {it : FI} {t : D → Res (List D)} {c : FT} {f : FE} {k kk : Bool} {ρ : List D} {xs ys : List D} (h1 : it ρ = .ok (xs, kk)) (h2 : xs.length ≤ lim) (h3 : cfold (cstep n t c f k ρ) [] xs = .ok ys) : bComp n it t c f k ρ = .ok (.lst ys) := by
  unfold bComp
  rw [h1, Res.ok_bind]
  simp only [decide_eq_true h2, if_true]
  rw [h3]
  rfl
theorem cstep_one {n : Nat} {c : FT} {f : FE} {k : Bool} {ρ acc : List D} {x y : D} {b : Bool} (hρ : ρ.length = n) (h1 : c (ρ ++ [x]) = .ok b) (h2 : b = true → f (ρ ++ [x]) = .ok y ∧ (k || y.pure) = true) : cstep n oneT c f k ρ acc x = .ok (if b then acc ++ [y] else acc) := by
  unfold cstep
  show (do let ok ← c (padD n ρ ++ [x]); _) = _
  rw [padD_self hρ, h1, Res.ok_bind]
  cases b with
  | true =>
    obtain ⟨e1, e2⟩ := h2 rfl
    rw [if_pos rfl, e1, Res.ok_bind, if_pos e2, if_pos rfl]
    rfl
  | false =>
    rw [if_neg (by simp), if_neg (by simp)]
    rfl
theorem cfold_map {α : Type} (g : List D → D → Res (List D)) (d : α → D) (p : α → Bool) (y : α → D) (h : ∀ acc a, g acc (d a) = .ok (if p a then acc ++ [y a] else acc)) : ∀ (xs : List α) (acc : List D), cfold g acc (xs.map d) = .ok (acc ++ (xs.filter p).map y)
  | [], acc => by simp [cfold]
  | x :: xs, acc => by
    rw [List.map_cons, cfold, h]
    show cfold g _ _ = _
    rw [cfold_map g d p y h xs]
    by_cases hp : p x
    · simp [hp]
    · simp [hp]
theorem add_ok (a b : Int) : binD .add (.int a) (.int b) = .ok (.int (a + b)) := rfl
theorem mul_ok (a b : Int) (h : smallB b = true) : binD .mul (.int a) (.int b) = .ok (.int (a * b)) := by
  simp only [binD, h, Bool.or_true, if_true]
theorem fdiv_ok (a b : Int) (h1 : 0 < b) (h2 : b < 1073741824) : binD .fdiv (.int a) (.int b) = .ok (.int (a / b)) := by
  simp only [binD, decide_eq_true h1, decide_eq_true h2, Bool.and_self, if_true]
theorem mod_ok (a b : Int) (h1 : 0 < b) : binD .mod (.int a) (.int b) = .ok (.int (a % b)) := by
  simp only [binD, decide_eq_true h1, if_true]
theorem small_ok (a : Int) (h1 : -1000000 ≤ a) (h2 : a ≤ 1000000) : smallB a = true := by
  simp only [smallB, Bool.and_eq_true, decide_eq_true_eq]
  omega
theorem str_add (a b : Str) (h : a.length + b.length ≤ lim) : binD .add (.str a) (.str b) = .ok (.str (a ++ b)) := by
  simp only [binD, decide_eq_true h, if_true]
theorem cmp_ord {o : Ordr} {a b : D} {k : Bool} (h1 : a.eqok eqdepth = true) (h2 : b.eqok eqdepth = true) (h : ordD o a b = some k) : cmpD (.ord o) a b = .ok (.bl k) := by
  simp only [cmpD, h1, h2, h, Bool.and_self, if_true]
theorem pures_ints (S : List Int) : D.pures (S.map D.int) = true := by
  induction S with
  | nil => rfl
  | cons q Q ih => rw [List.map_cons, D.pures, ih]; rfl
theorem cut_map (ns : List Int) (lo hi : Option Int) : cutD (ns.map D.int) lo hi = (cutD ns lo hi).map D.int := by
  unfold cutD
  rw [List.length_map, List.map_take, List.map_drop]
theorem cut_len (ns : List Int) (lo hi : Option Int) : (cutD ns lo hi).length ≤ ns.length := by
  unfold cutD
  exact Nat.le_trans (List.length_take_le' ..) (by rw [List.length_drop]; omega)
end Mi
end

section
local macro_rules | `(tactic| trivial) => `(tactic| first | exact Or.inl rfl | exact Or.inr rfl | exact Or.inr (Or.inl rfl) | exact Or.inr (Or.inr rfl))
set_option autoImplicit false
set_option linter.all false
set_option maxRecDepth 100000
namespace Lk41
open PySem L2 Mi
def top (i : Nat) : Stmt := PySem.Challenge.pw_hookmill_k41_names.main.body.getD i (.Pass ⟨0, 0, 0, 0⟩)
abbrev s__law_signs : Stmt := top 5
def o__law_signs : Nat → Bool := fun i => false
def b__law_signs : FS := sSeq (sSet false 0 (bC (.str " !\"#$&'()*+,-./0123456789:;<=>?@ABCDEFGHIJKLMNOPQRSTUVWXYZ[\\]^_`")) true) (sRet (b2 (binD .add) (bVar 0) (bC (.str "abcdefghijklmnopqrstuvwxyz{|}~\n"))) true)
def v__law_signs : List D → Res D := fnS 0 1 b__law_signs
abbrev s_are_small_letters : Stmt := top 2
def o_are_small_letters : Nat → Bool := fun i => false
def b_are_small_letters : FS := sRet (bCall allD (bCons (bComp 1 (bItemsX (bVar 0) false) oneT (bTrue) (bCh (cmpD (.ord .le)) (cmpD (.ord .le)) (bC (.str "a")) (bVar 1) (bC (.str "z"))) true) (bNil))) true
def v_are_small_letters : List D → Res D := fnS 1 1 b_are_small_letters
abbrev s_is_name : Stmt := top 1
def o_is_name : Nat → Bool := fun i => false
def b_is_name : FS := sRet (bAndV (bCh (cmpD (.ord .le)) (cmpD (.ord .le)) (bC (.int 1)) (bCall lenD (bCons (bVar 0) (bNil))) (bC (.int 8))) (bCall (argN 1 v_are_small_letters) (bCons (bVar 0) (bNil)))) true
def v_is_name : List D → Res D := fnS 1 1 b_is_name
abbrev s__law_told : Stmt := top 6
def o__law_told : Nat → Bool := fun i => false
def b__law_told : FS := sSeq (sSet false 2 (bCall (argN 1 v_is_name) (bCons (bVar 0) (bNil))) true) (sRet (bAndV (b1 (isTyD .bool) (bVar 2)) (b2 (cmpD .eq) (bVar 2) (bVar 1))) true)
def v__law_told : List D → Res D := fnS 2 3 b__law_told
abbrev s__law_mixed : Stmt := top 4
def o__law_mixed : Nat → Bool := fun i => false
def b__law_mixed : FS := sSeq (sSet false 2 (b2 (binD .mod) (b2 (binD .add) (b2 (binD .add) (b2 mulX (bVar 0) (bC (.int 40503))) (b2 mulX (b2 mulX (b2 (binD .add) (bVar 1) (bC (.int 5))) (b2 (binD .add) (bVar 1) (bC (.int 2)))) (bC (.int 265443)))) (bC (.int 11))) (bC (.int 999999937))) true) (sRet (b2 (binD .mod) (b2 (binD .add) (b2 mulX (bVar 2) (bVar 2)) (b2 mulX (bC (.int 97)) (bVar 2))) (bC (.int 998244353))) true)
def v__law_mixed : List D → Res D := fnS 2 3 b__law_mixed
abbrev s_law : Stmt := top 7
def o_law : Nat → Bool := fun i => false
def b_law : FS := sSeq (sSet false 1 (bC (.str "abcdefghijklmnopqrstuvwxyz")) true) (sSeq (sSet false 2 (bCall (argN 0 v__law_signs) (bNil)) true) (sSeq (sSet false 3 (bLst (bCons (bC (.str "copy")) (bCons (bC (.str "drop")) (bCons (bC (.str "kind")) (bCons (bC (.str "maker")) (bCons (bC (.str "taker")) (bCons (bC (.str "rule")) (bCons (bC (.str "z")) (bNil))))))))) true) (sSeq (sFor (bEnum (bSlX (bVar 0) (bNone) (bSome (bC (.int 120)))) true) (tgN [4, 5]) (sSeq (sSet false 6 (bCall (argN 2 v__law_mixed) (bCons (bVar 5) (bCons (bVar 4) (bNil)))) true) (sSeq (sSet false 7 (b2 (binD .mod) (bVar 6) (bC (.int 11))) true) (sSeq (sSet false 6 (b2 (binD .fdiv) (bVar 6) (bC (.int 11))) true) (sSeq (sSet false 8 (bM joinM (bC (.str "")) (bCons (bComp 12 (bThen (bCons (bVar 7) (bNil)) rng1D) oneT (bTrue) (b2 getD (bVar 1) (b2 (binD .mod) (b2 (binD .add) (b2 (binD .fdiv) (bVar 6) (bC (.int 26))) (b2 mulX (bVar 12) (b2 (binD .mod) (bVar 6) (bC (.int 26))))) (bC (.int 26)))) false) (bNil))) true) (sSeq (sSet false 9 (bAndV (b2 (cmpD (.ord .gt)) (bVar 7) (bC (.int 0))) (b2 (cmpD (.ord .lt)) (bVar 7) (bC (.int 9)))) true) (sSeq (sSet false 6 (b2 (binD .fdiv) (bVar 6) (bC (.int 676))) true) (sSeq (sIf (bAnd (bTB (b2 (cmpD (.ord .gt)) (bVar 7) (bC (.int 0)))) (bTB (b2 (cmpD .eq) (b2 (binD .mod) (bVar 6) (bC (.int 2))) (bC (.int 1))))) (sSeq (sSet false 10 (b2 (binD .mod) (b2 (binD .fdiv) (bVar 6) (bC (.int 2))) (bVar 7)) true) (sSeq (sSet false 11 (b2 getD (bVar 2) (b2 (binD .mod) (b2 (binD .fdiv) (b2 (binD .fdiv) (bVar 6) (bC (.int 2))) (bVar 7)) (bC (.int 95)))) false) (sSeq (sSet false 8 (b2 (binD .add) (b2 (binD .add) (bSlX (bVar 8) (bNone) (bSome (bVar 10))) (bVar 11)) (bSlX (bVar 8) (bSome (b2 (binD .add) (bVar 10) (bC (.int 1)))) (bNone))) true) (sSet false 9 (bAndV (bVar 9) (b2 inX (bVar 11) (bVar 1))) true)))) (sNil)) (sSeq (sIf (bOr (bNot (bTr (bCall (argN 2 v__law_told) (bCons (bVar 8) (bCons (bVar 9) (bNil)))))) (bNot (bTr (bCall (argN 2 v__law_told) (bCons (b2 getD (bVar 3) (b2 (binD .mod) (bVar 6) (bC (.int 7)))) (bCons (bC (.bl true)) (bNil))))))) (sRet (bC (.bl false)) true) (sNil)) (sIf (bAnd (bTB (b2 (cmpD .eq) (b2 (binD .mod) (bVar 6) (bC (.int 8))) (bC (.int 1)))) (bNot (bTr (bCall (argN 2 v__law_told) (bCons (b2 mulX (b2 getD (bVar 1) (b2 (binD .mod) (b2 (binD .fdiv) (bVar 6) (bC (.int 8))) (bC (.int 26)))) (b2 (binD .add) (bC (.int 9)) (b2 (binD .mod) (b2 (binD .fdiv) (bVar 6) (bC (.int 208))) (bC (.int 400))))) (bCons (bC (.bl false)) (bNil))))))) (sRet (bC (.bl false)) true) (sNil))))))))))) (sRet (bCall (argN 2 v__law_told) (bCons (bC (.str "")) (bCons (bC (.bl false)) (bNil)))) true))))
def v_law : List D → Res D := fnS 1 12 b_law
theorem sc__law_signs : FnScope (["some"] : List Str) [] (defScope s__law_signs) := ⟨rfl, rfl, rfl, by decide +kernel, rfl, by decide +kernel, by decide +kernel⟩
set_option maxHeartbeats 4000000 in
theorem cal__law_signs [KFrag] {P : Program} {w : World} {K : PySem.W.Frag} {mg : Str → Option Value} {base : Heap} {fad : Addr} {fd : FuncData} (hK : KFrag.K = K) (B : Bt mg)  (F : Fun K "_law_signs" "_law_signs" s__law_signs fad fd) (hm : mg "_law_signs" = some (.ref fad)) : CalOk P w K mg base 1 "_law_signs" 0 v__law_signs := by
  have sc := sc__law_signs
  refine cal_mk (ps := []) (N := (["some"] : List Str)) (k := 0) F hm (F.binds fun _ _ _ _ _ _ us hl => match us, hl with | [], _ => rfl) sc o__law_signs (by decide) (by decide) fun cdv A outer s H E hr => ?_
  have hu := hu20 hr
  exact mss_cons (ms_set (i := 0) (o := false) rfl sc.nd rfl (by trivial) (me_str)) (mss_one (ms_ret (me_op om_add (me_var (i := 0) rfl (by trivial)) (me_str))))
theorem sc_are_small_letters : FnScope (["word"] : List Str) ["word"] (defScope s_are_small_letters) := ⟨rfl, rfl, rfl, by decide +kernel, rfl, by decide +kernel, by decide +kernel⟩
set_option maxHeartbeats 4000000 in
theorem cal_are_small_letters [KFrag] {P : Program} {w : World} {K : PySem.W.Frag} {mg : Str → Option Value} {base : Heap} {fad : Addr} {fd : FuncData} (hK : KFrag.K = K) (B : Bt mg)  (F : Fun K "are_small_letters" "are_small_letters" s_are_small_letters fad fd) (hm : mg "are_small_letters" = some (.ref fad)) : CalOk P w K mg base 1 "are_small_letters" 1 v_are_small_letters := by
  have sc := sc_are_small_letters
  refine cal_mk (ps := ["word"]) (N := (["word"] : List Str)) (k := 0) F hm (F.binds fun _ _ _ _ _ _ us hl => match us, hl with | [_], _ => rfl) sc o_are_small_letters (by decide) (by decide) fun cdv A outer s H E hr => ?_
  have hu := hu20 hr
  exact mss_one (ms_ret (me_callB (cl_all (by rfl)) (by rfl) B.all vb_all (ma_cons (me_comp' (ownN := (["sign"] : List Str)) (show CompSc (["word"] : List Str) (defScope s_are_small_letters) _ (["sign"] : List Str) from ⟨rfl, by decide +kernel, by decide +kernel, by decide +kernel, by decide +kernel, by decide +kernel, by decide +kernel⟩) (n := 1) (m := 1) rfl rfl rfl (mi_valX (me_var (i := 0) rfl (by trivial))) (tgc_one 1) (fun _ => pg_name (i := 1) (show ((List.map (hideN (["sign"] : List Str)) (["word"] : List Str) ++ (["sign"] : List Str)) : List Str).Nodup from by decide +kernel) rfl (by trivial)) (fun _ => me_chain (om_le hu) (om_le hu) (me_str) (me_var (i := 1) rfl (by trivial)) (me_str)) (fun _ => rfl)) (ma_nil))))
theorem sc_is_name : FnScope (["word"] : List Str) ["word"] (defScope s_is_name) := ⟨rfl, rfl, rfl, by decide +kernel, rfl, by decide +kernel, by decide +kernel⟩
set_option maxHeartbeats 4000000 in
theorem cal_is_name [KFrag] {P : Program} {w : World} {K : PySem.W.Frag} {mg : Str → Option Value} {base : Heap} {fad : Addr} {fd : FuncData} (hK : KFrag.K = K) (B : Bt mg) (c_are_small_letters : CalOk P w K mg base 1 "are_small_letters" 1 v_are_small_letters) (F : Fun K "is_name" "is_name" s_is_name fad fd) (hm : mg "is_name" = some (.ref fad)) : CalOk P w K mg base 2 "is_name" 1 v_is_name := by
  have sc := sc_is_name
  refine cal_mk (ps := ["word"]) (N := (["word"] : List Str)) (k := 1) F hm (F.binds fun _ _ _ _ _ _ us hl => match us, hl with | [_], _ => rfl) sc o_is_name (by decide) (by decide) fun cdv A outer s H E hr => ?_
  have hu := hu20 hr
  exact mss_one (ms_ret (me_and (me_chain (om_le hu) (om_le hu) (me_int) (me_callB (cl_len hK) (by rfl) B.len vb_len (ma_cons (me_var (i := 0) rfl (by trivial)) (ma_nil))) (me_int)) (me_one (me_callC c_are_small_letters hr (by decide) (by rfl) (ma_cons (me_var (i := 0) rfl (by trivial)) (ma_nil))))))
theorem sc__law_told : FnScope (["text", "due", "found"] : List Str) ["text", "due"] (defScope s__law_told) := ⟨rfl, rfl, rfl, by decide +kernel, rfl, by decide +kernel, by decide +kernel⟩
set_option maxHeartbeats 4000000 in
theorem cal__law_told [KFrag] {P : Program} {w : World} {K : PySem.W.Frag} {mg : Str → Option Value} {base : Heap} {fad : Addr} {fd : FuncData} (hK : KFrag.K = K) (B : Bt mg) (c_is_name : CalOk P w K mg base 2 "is_name" 1 v_is_name) (F : Fun K "_law_told" "_law_told" s__law_told fad fd) (hm : mg "_law_told" = some (.ref fad)) : CalOk P w K mg base 3 "_law_told" 2 v__law_told := by
  have sc := sc__law_told
  refine cal_mk (ps := ["text", "due"]) (N := (["text", "due", "found"] : List Str)) (k := 2) F hm (F.binds fun _ _ _ _ _ _ us hl => match us, hl with | [_, _], _ => rfl) sc o__law_told (by decide) (by decide) fun cdv A outer s H E hr => ?_
  have hu := hu20 hr
  exact mss_cons (ms_set (i := 2) (o := false) rfl sc.nd rfl (by trivial) (me_callC c_is_name hr (by decide) (by rfl) (ma_cons (me_var (i := 0) rfl (by trivial)) (ma_nil)))) (mss_one (ms_ret (me_and (me_isi .bool (me_var (i := 2) rfl (by trivial)) (by rfl) B.isi vb_isinstance (by rfl) B.bool vb_bool) (me_one (me_cmp (om_eq hu) (me_var (i := 2) rfl (by trivial)) (me_var (i := 1) rfl (by trivial)) (nomark _))))))
theorem sc__law_mixed : FnScope (["cell", "k", "number"] : List Str) ["cell", "k"] (defScope s__law_mixed) := ⟨rfl, rfl, rfl, by decide +kernel, rfl, by decide +kernel, by decide +kernel⟩
set_option maxHeartbeats 4000000 in
theorem cal__law_mixed [KFrag] {P : Program} {w : World} {K : PySem.W.Frag} {mg : Str → Option Value} {base : Heap} {fad : Addr} {fd : FuncData} (hK : KFrag.K = K) (B : Bt mg)  (F : Fun K "_law_mixed" "_law_mixed" s__law_mixed fad fd) (hm : mg "_law_mixed" = some (.ref fad)) : CalOk P w K mg base 1 "_law_mixed" 2 v__law_mixed := by
  have sc := sc__law_mixed
  refine cal_mk (ps := ["cell", "k"]) (N := (["cell", "k", "number"] : List Str)) (k := 0) F hm (F.binds fun _ _ _ _ _ _ us hl => match us, hl with | [_, _], _ => rfl) sc o__law_mixed (by decide) (by decide) fun cdv A outer s H E hr => ?_
  have hu := hu20 hr
  exact mss_cons (ms_set (i := 2) (o := false) rfl sc.nd rfl (by trivial) (me_op om_mod (me_op om_add (me_op om_add (me_op om_mulX (me_var (i := 0) rfl (by trivial)) (me_int)) (me_op om_mulX (me_op om_mulX (me_op om_add (me_var (i := 1) rfl (by trivial)) (me_int)) (me_op om_add (me_var (i := 1) rfl (by trivial)) (me_int))) (me_int))) (me_int)) (me_int))) (mss_one (ms_ret (me_op om_mod (me_op om_add (me_op om_mulX (me_var (i := 2) rfl (by trivial)) (me_var (i := 2) rfl (by trivial))) (me_op om_mulX (me_int) (me_var (i := 2) rfl (by trivial)))) (me_int))))
theorem sc_law : FnScope (["script", "letters", "signs", "own", "k", "cell", "number", "size", "text", "good", "at", "sign"] : List Str) ["script"] (defScope s_law) := ⟨rfl, rfl, rfl, by decide +kernel, rfl, by decide +kernel, by decide +kernel⟩
set_option maxHeartbeats 4000000 in
theorem ok_law [KFrag] {P : Program} {w : World} {K : PySem.W.Frag} {mg : Str → Option Value} {base : Heap} {fad : Addr} {fd : FuncData} (hK : KFrag.K = K) (B : Bt mg) (c__law_signs : CalOk P w K mg base 1 "_law_signs" 0 v__law_signs) (c__law_mixed : CalOk P w K mg base 1 "_law_mixed" 2 v__law_mixed) (c__law_told : CalOk P w K mg base 3 "_law_told" 2 v__law_told) (F : Fun K "law" "law" s_law fad fd) : FnOk P w K mg base CX0 4 fad fd ["script"] (spD v_law 1) := by
  have sc := sc_law
  refine fn_ok (ps := ["script"]) (N := (["script", "letters", "signs", "own", "k", "cell", "number", "size", "text", "good", "at", "sign"] : List Str)) (k := 3) F sc o_law (by decide) (by decide) fun cdv A outer s H E hr => ?_
  have hu := hu20 hr
  exact mss_cons (ms_set (i := 1) (o := false) rfl sc.nd rfl (by trivial) (me_str)) (mss_cons (ms_set (i := 2) (o := false) rfl sc.nd rfl (by trivial) (me_callC0 c__law_signs hr (by decide) (by rfl))) (mss_cons (ms_set (i := 3) (o := false) rfl sc.nd rfl (by trivial) (me_lst (ma_cons (me_str) (ma_cons (me_str) (ma_cons (me_str) (ma_cons (me_str) (ma_cons (me_str) (ma_cons (me_str) (ma_cons (me_str) (ma_nil)))))))))) (mss_cons (ms_for PassesOwn.never rfl (mi_enum (by rfl) B.enum (ma_cons (me_slX hK (me_var (i := 0) rfl (by trivial)) (mo_none) (mo_some (me_int))) (ma_nil))) (tgs_tup _ (is := [4, 5]) (by decide)) (pg_tup rfl (pgs_cons (pg_name (i := 4) sc.nd rfl (by trivial)) (pgs_cons (pg_name (i := 5) sc.nd rfl (by trivial)) (pgs_nil)))) (mss_cons (ms_set (i := 6) (o := false) rfl sc.nd rfl (by trivial) (me_callC c__law_mixed hr (by decide) (by rfl) (ma_cons (me_var (i := 5) rfl (by trivial)) (ma_cons (me_var (i := 4) rfl (by trivial)) (ma_nil))))) (mss_cons (ms_set (i := 7) (o := false) rfl sc.nd rfl (by trivial) (me_op om_mod (me_var (i := 6) rfl (by trivial)) (me_int))) (mss_cons (ms_set (i := 6) (o := false) rfl sc.nd rfl (by trivial) (me_op om_fdiv (me_var (i := 6) rfl (by trivial)) (me_int))) (mss_cons (ms_set (i := 8) (o := false) rfl sc.nd rfl (by trivial) (me_bm PySem.F.plainAttrs_str PySem.F.slot_str_join PySem.F.type_str_join mt_join (me_str) (ma_cons (me_comp' (ownN := (["j"] : List Str)) (show CompSc (["script", "letters", "signs", "own", "k", "cell", "number", "size", "text", "good", "at", "sign"] : List Str) (defScope s_law) _ (["j"] : List Str) from ⟨rfl, by decide +kernel, by decide +kernel, by decide +kernel, by decide +kernel, by decide +kernel, by decide +kernel⟩) (n := 12) (m := 1) rfl rfl rfl (mi_rng1 (by rfl) B.range (ma_cons (me_var (i := 7) rfl (by trivial)) (ma_nil))) (tgc_one 12) (fun _ => pg_name (i := 12) (show ((List.map (hideN (["j"] : List Str)) (["script", "letters", "signs", "own", "k", "cell", "number", "size", "text", "good", "at", "sign"] : List Str) ++ (["j"] : List Str)) : List Str).Nodup from by decide +kernel) rfl (by trivial)) (fun _ => me_ix (om_ix hK hu) (me_var (i := 1) rfl (by trivial)) (me_op om_mod (me_op om_add (me_op om_fdiv (me_var (i := 6) rfl (by trivial)) (me_int)) (me_op om_mulX (me_var (i := 12) rfl (by trivial)) (me_op om_mod (me_var (i := 6) rfl (by trivial)) (me_int)))) (me_int)) (fun _ _ => rfl)) (fun _ => rfl)) (ma_nil)) (fun _ _ _ _ _ h r => joinM_ty h r))) (mss_cons (ms_set (i := 9) (o := false) rfl sc.nd rfl (by trivial) (me_and (me_cmp (om_gt hu) (me_var (i := 7) rfl (by trivial)) (me_int) (nomark _)) (me_one (me_cmp (om_lt hu) (me_var (i := 7) rfl (by trivial)) (me_int) (nomark _))))) (mss_cons (ms_set (i := 6) (o := false) rfl sc.nd rfl (by trivial) (me_op om_fdiv (me_var (i := 6) rfl (by trivial)) (me_int))) (mss_cons (ms_if (PW.pt (mw_and (mt_cmp (om_gt hu) (me_var (i := 7) rfl (by trivial)) (me_int) (nomark _)) (mw_and1 (mt_cmp (om_eq hu) (me_op om_mod (me_var (i := 6) rfl (by trivial)) (me_int)) (me_int) (nomark _))))) (mss_cons (ms_set (i := 10) (o := false) rfl sc.nd rfl (by trivial) (me_op om_mod (me_op om_fdiv (me_var (i := 6) rfl (by trivial)) (me_int)) (me_var (i := 7) rfl (by trivial)))) (mss_cons (ms_set (i := 11) (o := false) rfl sc.nd rfl (by trivial) (me_ix (om_ix hK hu) (me_var (i := 2) rfl (by trivial)) (me_op om_mod (me_op om_fdiv (me_op om_fdiv (me_var (i := 6) rfl (by trivial)) (me_int)) (me_var (i := 7) rfl (by trivial))) (me_int)) (fun _ _ => rfl))) (mss_cons (ms_set (i := 8) (o := false) rfl sc.nd rfl (by trivial) (me_op om_add (me_op om_add (me_slX hK (me_var (i := 8) rfl (by trivial)) (mo_none) (mo_some (me_var (i := 10) rfl (by trivial)))) (me_var (i := 11) rfl (by trivial))) (me_slX hK (me_var (i := 8) rfl (by trivial)) (mo_some (me_op om_add (me_var (i := 10) rfl (by trivial)) (me_int))) (mo_none)))) (mss_one (ms_set (i := 9) (o := false) rfl sc.nd rfl (by trivial) (me_and (me_var (i := 9) rfl (by trivial)) (me_one (me_cmp (om_inX hu) (me_var (i := 11) rfl (by trivial)) (me_var (i := 1) rfl (by trivial)) (by with_unfolding_all rfl))))))))) (mss_nil)) (mss_cons (ms_if (PW.pt (mw_or (mt_not (mt_val (me_callC c__law_told hr (by decide) (by rfl) (ma_cons (me_var (i := 8) rfl (by trivial)) (ma_cons (me_var (i := 9) rfl (by trivial)) (ma_nil)))))) (mw_or1 (mt_not (mt_val (me_callC c__law_told hr (by decide) (by rfl) (ma_cons (me_ix (om_ix hK hu) (me_var (i := 3) rfl (by trivial)) (me_op om_mod (me_var (i := 6) rfl (by trivial)) (me_int)) (fun _ _ => rfl)) (ma_cons (me_bl) (ma_nil))))))))) (mss_one (ms_ret (me_bl))) (mss_nil)) (mss_one (ms_if (PW.pt (mw_and (mt_cmp (om_eq hu) (me_op om_mod (me_var (i := 6) rfl (by trivial)) (me_int)) (me_int) (nomark _)) (mw_and1 (mt_not (mt_val (me_callC c__law_told hr (by decide) (by rfl) (ma_cons (me_op om_mulX (me_ix (om_ix hK hu) (me_var (i := 1) rfl (by trivial)) (me_op om_mod (me_op om_fdiv (me_var (i := 6) rfl (by trivial)) (me_int)) (me_int)) (fun _ _ => rfl)) (me_op om_add (me_int) (me_op om_mod (me_op om_fdiv (me_var (i := 6) rfl (by trivial)) (me_int)) (me_int)))) (ma_cons (me_bl) (ma_nil))))))))) (mss_one (ms_ret (me_bl))) (mss_nil)))))))))))) (mss_one (ms_ret (me_callC c__law_told hr (by decide) (by rfl) (ma_cons (me_str) (ma_cons (me_bl) (ma_nil)))))))))
theorem all_mk {l : PySem.W.OpenLaw} {w : World} {K : PySem.W.Frag} {h : Heap} {mg : Str → Option Value} {fa : Addr} (X : K.In h) (G : h.Ns mainGlobals mg) (hfa : mg "law" = some (.ref fa))
    {f0 : Addr} {oc0 kV0 dc0 pm0 cd0 ct0 : Value} {od0 an0 : Option Addr} {sl0 : Array (Option Value)} (a0 : PySem.W.nsIn K mainGlobals "_law_signs" = some (some (.ref f0))) (l0 : K.lookup f0 = some ⟨oc0, od0, .func (PySem.W.fnOf "_law_signs" "_law_signs" (defArgs s__law_signs) (defBody s__law_signs) (defScope s__law_signs) .none kV0 dc0 pm0 an0 cd0 ct0), sl0⟩) (c0 : PySem.W.codeIn K cd0 "_law_signs" = true) (k0 : PySem.W.keepIn K (.ref f0) = true)
    {f1 : Addr} {oc1 kV1 dc1 pm1 cd1 ct1 : Value} {od1 an1 : Option Addr} {sl1 : Array (Option Value)} (a1 : PySem.W.nsIn K mainGlobals "are_small_letters" = some (some (.ref f1))) (l1 : K.lookup f1 = some ⟨oc1, od1, .func (PySem.W.fnOf "are_small_letters" "are_small_letters" (defArgs s_are_small_letters) (defBody s_are_small_letters) (defScope s_are_small_letters) .none kV1 dc1 pm1 an1 cd1 ct1), sl1⟩) (c1 : PySem.W.codeIn K cd1 "are_small_letters" = true) (k1 : PySem.W.keepIn K (.ref f1) = true)
    {f2 : Addr} {oc2 kV2 dc2 pm2 cd2 ct2 : Value} {od2 an2 : Option Addr} {sl2 : Array (Option Value)} (a2 : PySem.W.nsIn K mainGlobals "is_name" = some (some (.ref f2))) (l2 : K.lookup f2 = some ⟨oc2, od2, .func (PySem.W.fnOf "is_name" "is_name" (defArgs s_is_name) (defBody s_is_name) (defScope s_is_name) .none kV2 dc2 pm2 an2 cd2 ct2), sl2⟩) (c2 : PySem.W.codeIn K cd2 "is_name" = true) (k2 : PySem.W.keepIn K (.ref f2) = true)
    {f3 : Addr} {oc3 kV3 dc3 pm3 cd3 ct3 : Value} {od3 an3 : Option Addr} {sl3 : Array (Option Value)} (a3 : PySem.W.nsIn K mainGlobals "_law_told" = some (some (.ref f3))) (l3 : K.lookup f3 = some ⟨oc3, od3, .func (PySem.W.fnOf "_law_told" "_law_told" (defArgs s__law_told) (defBody s__law_told) (defScope s__law_told) .none kV3 dc3 pm3 an3 cd3 ct3), sl3⟩) (c3 : PySem.W.codeIn K cd3 "_law_told" = true) (k3 : PySem.W.keepIn K (.ref f3) = true)
    {f4 : Addr} {oc4 kV4 dc4 pm4 cd4 ct4 : Value} {od4 an4 : Option Addr} {sl4 : Array (Option Value)} (a4 : PySem.W.nsIn K mainGlobals "_law_mixed" = some (some (.ref f4))) (l4 : K.lookup f4 = some ⟨oc4, od4, .func (PySem.W.fnOf "_law_mixed" "_law_mixed" (defArgs s__law_mixed) (defBody s__law_mixed) (defScope s__law_mixed) .none kV4 dc4 pm4 an4 cd4 ct4), sl4⟩) (c4 : PySem.W.codeIn K cd4 "_law_mixed" = true) (k4 : PySem.W.keepIn K (.ref f4) = true)
    {f5 : Addr} {oc5 kV5 dc5 pm5 cd5 ct5 : Value} {od5 an5 : Option Addr} {sl5 : Array (Option Value)} (a5 : PySem.W.nsIn K mainGlobals "law" = some (some (.ref f5))) (l5 : K.lookup f5 = some ⟨oc5, od5, .func (PySem.W.fnOf "law" "law" (defArgs s_law) (defBody s_law) (defScope s_law) .none kV5 dc5 pm5 an5 cd5 ct5), sl5⟩) (c5 : PySem.W.codeIn K cd5 "law" = true) (k5 : PySem.W.keepIn K (.ref f5) = true) (z_len : PySem.W.nsIn K mainGlobals "len" = some none) (z_min : PySem.W.nsIn K mainGlobals "min" = some none) (z_max : PySem.W.nsIn K mainGlobals "max" = some none) (z_list : PySem.W.nsIn K mainGlobals "list" = some none) (z_tuple : PySem.W.nsIn K mainGlobals "tuple" = some none) (z_sorted : PySem.W.nsIn K mainGlobals "sorted" = some none) (z_range : PySem.W.nsIn K mainGlobals "range" = some none) (z_isinstance : PySem.W.nsIn K mainGlobals "isinstance" = some none) (z_int : PySem.W.nsIn K mainGlobals "int" = some none) (z_bool : PySem.W.nsIn K mainGlobals "bool" = some none) (z_str : PySem.W.nsIn K mainGlobals "str" = some none) (z_dict : PySem.W.nsIn K mainGlobals "dict" = some none) (z_all : PySem.W.nsIn K mainGlobals "all" = some none) (z_enumerate : PySem.W.nsIn K mainGlobals "enumerate" = some none) (z_sum : PySem.W.nsIn K mainGlobals "sum" = some none) (z_zip : PySem.W.nsIn K mainGlobals "zip" = some none) (z_abs : PySem.W.nsIn K mainGlobals "abs" = some none) (z_reversed : PySem.W.nsIn K mainGlobals "reversed" = some none) :
    ∃ fd : FuncData, (∀ (s : Shared) (v : Value), BindsTo s fd ⟨[v], []⟩ [("script", v)]) ∧ ∀ base : Heap, K.In base → base.Ns mainGlobals mg → FnOk l.prog w K mg base CX0 4 fa fd ["script"] (@spD ⟨K⟩ v_law 1) := by
  have e := hfa.symm.trans (PySem.W.mg_of X G a5)
  cases e
  letI : KFrag := ⟨K⟩
  have B : Bt mg := ⟨PySem.W.mg_none_of X G z_len, PySem.W.mg_none_of X G z_min, PySem.W.mg_none_of X G z_max, PySem.W.mg_none_of X G z_list, PySem.W.mg_none_of X G z_tuple, PySem.W.mg_none_of X G z_sorted, PySem.W.mg_none_of X G z_range, PySem.W.mg_none_of X G z_isinstance, PySem.W.mg_none_of X G z_int, PySem.W.mg_none_of X G z_bool, PySem.W.mg_none_of X G z_str, PySem.W.mg_none_of X G z_dict, PySem.W.mg_none_of X G z_all, PySem.W.mg_none_of X G z_enumerate, PySem.W.mg_none_of X G z_sum, PySem.W.mg_none_of X G z_zip, PySem.W.mg_none_of X G z_abs, PySem.W.mg_none_of X G z_reversed⟩
  refine ⟨PySem.W.fnOf "law" "law" (defArgs s_law) (defBody s_law) (defScope s_law) .none kV5 dc5 pm5 an5 cd5 ct5, fun s v => .of_eq rfl, fun base _ _ => ?_⟩
  have h__law_signs := cal__law_signs (P := l.prog) (w := w) (base := base) rfl B  (fun_mk (st := s__law_signs) l0 c0 k0) (PySem.W.mg_of X G a0)
  have h_are_small_letters := cal_are_small_letters (P := l.prog) (w := w) (base := base) rfl B  (fun_mk (st := s_are_small_letters) l1 c1 k1) (PySem.W.mg_of X G a1)
  have h_is_name := cal_is_name (P := l.prog) (w := w) (base := base) rfl B h_are_small_letters (fun_mk (st := s_is_name) l2 c2 k2) (PySem.W.mg_of X G a2)
  have h__law_told := cal__law_told (P := l.prog) (w := w) (base := base) rfl B h_is_name (fun_mk (st := s__law_told) l3 c3 k3) (PySem.W.mg_of X G a3)
  have h__law_mixed := cal__law_mixed (P := l.prog) (w := w) (base := base) rfl B  (fun_mk (st := s__law_mixed) l4 c4 k4) (PySem.W.mg_of X G a4)
  exact ok_law rfl B h__law_signs h__law_mixed h__law_told (fun_mk (st := s_law) l5 c5 k5)
theorem walk {l : PySem.W.OpenLaw} {q : Program} {loose : List Str} {XP : (Str → Option Value) → Heap → Prop} {YP : World → Heap → Prop} {d : DefRec} {K : Params → PySem.W.Frag} (main : ∀ ns : List Int, ns.length ≤ 63 → v_law [.scr (ns.map D.int)] = .ok (.bl true)) (hn : l.most = some 63) (hdf : d.params.defaults = [])
    (hY : ∀ (w : World) (h : Heap), YP w h → (K w.params).In h)
    (F : ∀ (w : World) (mg : Str → Option Value) (fa : Addr) (h : Heap), (K w.params).In h → h.Ns mainGlobals mg → mg d.name = some (.ref fa) →
      ∃ fd : FuncData, (∀ (s : Shared) (u : Value), BindsTo s fd ⟨[u], []⟩ [("script", u)]) ∧ ∀ base : Heap, (K w.params).In base → base.Ns mainGlobals mg → FnOk l.prog w (K w.params) mg base CX0 4 fa fd ["script"] (@spD ⟨K w.params⟩ v_law 1)) :
    PySem.W.WalkO q loose XP YP l.row.toRowW d [] (fun f vs => PySem.call f vs) :=
  L2.walk_of (n := 63) (k := 4) (x := "script") (CX := fun _ => CX0) (sp := fun w => @spD ⟨K w.params⟩ v_law 1) hn (by decide) hdf ⟨rfl, by decide, by decide⟩ hY F (fun w H a ns hl hO hS => script_sp main hl hO hS) fun _ _ _ _ _ z => z
end Lk41
end

section
set_option autoImplicit false
set_option linter.all false
set_option maxRecDepth 100000
namespace Lk41
open PySem L2 Mi
def codeOk (c : Nat) : Bool := decide (97 ≤ c) && decide (c ≤ 122)
def nameOk (x : Str) : Bool := decide (1 ≤ x.length) && decide (x.length ≤ 8) && x.cps.toList.all codeOk
def one (c : Nat) : Str := ⟨#[c]⟩
theorem lt_one (a b : Nat) : ([a] < [b]) ↔ a < b := by
  rw [List.cons_lt_cons_iff]
  simp
theorem le_a (c : Nat) : cmpD (.ord .le) (.str "a") (.str (one c)) = .ok (.bl (decide (97 ≤ c))) := by
  refine cmp_ord rfl rfl ?_
  show some (!decide ((one c).cps.toList < ("a" : Str).cps.toList)) = _
  rw [show ("a" : Str).cps.toList = [97] from rfl, show (one c).cps.toList = [c] from rfl]
  congr 1
  by_cases h : c < 97
  · rw [decide_eq_true ((lt_one c 97).mpr h), decide_eq_false (by omega)]
    rfl
  · rw [decide_eq_false (fun z => h ((lt_one c 97).mp z)), decide_eq_true (by omega)]
    rfl
theorem le_z (c : Nat) : cmpD (.ord .le) (.str (one c)) (.str "z") = .ok (.bl (decide (c ≤ 122))) := by
  refine cmp_ord rfl rfl ?_
  show some (!decide (("z" : Str).cps.toList < (one c).cps.toList)) = _
  rw [show ("z" : Str).cps.toList = [122] from rfl, show (one c).cps.toList = [c] from rfl]
  congr 1
  by_cases h : 122 < c
  · rw [decide_eq_true ((lt_one 122 c).mpr h), decide_eq_false (by omega)]
    rfl
  · rw [decide_eq_false (fun z => h ((lt_one 122 c).mp z)), decide_eq_true (by omega)]
    rfl
theorem bools_map {α : Type} (f : α → Bool) : ∀ xs : List α, boolsD (xs.map fun x => D.bl (f x)) = some (xs.map f)
  | [] => rfl
  | x :: xs => by
    show (boolsD (xs.map fun x => D.bl (f x))).map (f x :: ·) = _
    rw [bools_map f xs]
    rfl
theorem call_v {n m : Nat} {f : FS} {ds : List D} {d : D} (h : f (ds ++ List.replicate (m - n) D.undef) = .ok (.rt d)) : fnS n m f ds = .ok d := by
  show (do let r ← f (ds ++ List.replicate (m - n) D.undef); endD r) = _
  rw [h]
  rfl
theorem small_eq (x : Str) (hx : x.length ≤ lim) : argN 1 v_are_small_letters [.str x] = .ok (.bl (x.cps.toList.all codeOk)) := by
  refine (argN_ok rfl).trans (call_v ?_)
  have hi : bItemsX (bVar 0) false [D.str x] = .ok (charsD x, true) := by
    show (do let d ← bVar 0 [D.str x]; let xs ← itemsX d; pure (xs, false || d.pure)) = _
    show (do let xs ← (if decide (x.length ≤ lim) then Res.ok (charsD x) else .bad); (pure (xs, true) : Res (List D × Bool))) = _
    rw [if_pos (decide_eq_true hx)]
    rfl
  have hl : (charsD x).length ≤ lim := by
    unfold charsD
    rw [List.length_map]
    exact hx
  have hf : cfold (cstep 1 oneT bTrue (bCh (cmpD (.ord .le)) (cmpD (.ord .le)) (bC (.str "a")) (bVar 1) (bC (.str "z"))) true [D.str x]) [] (charsD x) = .ok (x.cps.toList.map fun c => D.bl (codeOk c)) := by
    show cfold _ [] (x.cps.toList.map fun c => D.str (one c)) = _
    rw [cfold_map _ (fun c => D.str (one c)) (fun _ => true) (fun c => D.bl (codeOk c))]
    · rw [List.filter_eq_self.mpr (fun _ _ => rfl)]
      rfl
    · intro acc c
      refine (cstep_one (b := true) (y := .bl (codeOk c)) rfl rfl fun _ => ⟨?_, rfl⟩)
      show bCh (cmpD (.ord .le)) (cmpD (.ord .le)) (bC (.str "a")) (bVar 1) (bC (.str "z")) [D.str x, .str (one c)] = _
      by_cases h : 97 ≤ c
      · refine ch_t (x := .str "a") (y := .str (one c)) (z := .str "z") rfl rfl ((le_a c).trans (by rw [decide_eq_true h])) rfl ((le_z c).trans ?_)
        unfold codeOk
        rw [decide_eq_true h, Bool.true_and]
      · refine (ch_f (x := .str "a") (y := .str (one c)) rfl rfl ((le_a c).trans (by rw [decide_eq_false h]))).trans ?_
        unfold codeOk
        rw [decide_eq_false h, Bool.false_and]
  refine ret_ok (d := .bl (x.cps.toList.all codeOk)) (call_ok (xs := [.lst (x.cps.toList.map fun c => D.bl (codeOk c))]) (cons_ok (comp_ok hi hl hf) rfl) ?_) rfl
  show (match boolsD (x.cps.toList.map fun c => D.bl (codeOk c)) with | some bs => Res.ok (D.bl (bs.all id)) | none => .bad) = _
  rw [bools_map]
  show Res.ok (D.bl ((x.cps.toList.map codeOk).all id)) = _
  rw [List.all_map]
  rfl
theorem andV_t {a b : FE} {ρ : List D} {r : Res D} (h1 : a ρ = .ok (.bl true)) (h2 : b ρ = r) : bAndV a b ρ = r := by
  unfold bAndV
  rw [h1]
  exact h2
theorem andV_f {a b : FE} {ρ : List D} (h1 : a ρ = .ok (.bl false)) : bAndV a b ρ = .ok (.bl false) := by
  unfold bAndV
  rw [h1]
  rfl
theorem len_str (x : Str) (hx : x.length ≤ lim) : lenD [.str x] = .ok (.int x.length) := by
  show (if decide (x.length ≤ lim) then Res.ok (D.int x.length) else .bad) = _
  rw [if_pos (decide_eq_true hx)]
theorem cmp_int (o : Ordr) (a b : Int) : cmpD (.ord o) (.int a) (.int b) = .ok (.bl (o.int a b)) := cmp_ord rfl rfl rfl
theorem name_eq (x : Str) (hx : x.length ≤ lim) : argN 1 v_is_name [.str x] = .ok (.bl (nameOk x)) := by
  refine (argN_ok rfl).trans (call_v ?_)
  have hlen : bCall lenD (bCons (bVar 0) (bNil)) [D.str x] = .ok (.int x.length) := call_ok (cons_ok rfl rfl) (len_str x hx)
  refine ret_ok (d := .bl (nameOk x)) ?_ rfl
  unfold nameOk
  by_cases h1 : 1 ≤ x.length
  · by_cases h2 : x.length ≤ 8
    · refine andV_t (ch_t (x := .int 1) (z := .int 8) rfl hlen ((cmp_int .le 1 x.length).trans ?_) rfl ((cmp_int .le x.length 8).trans ?_)) (call_ok (cons_ok rfl rfl) ((small_eq x hx).trans ?_))
      · rw [show Ordr.le.int 1 x.length = true from decide_eq_true (by omega)]
      · rw [show Ordr.le.int x.length 8 = true from decide_eq_true (by omega)]
      · rw [decide_eq_true h1, decide_eq_true h2]
        rfl
    · refine (andV_f (ch_t (x := .int 1) (z := .int 8) rfl hlen ((cmp_int .le 1 x.length).trans ?_) rfl ((cmp_int .le x.length 8).trans ?_))).trans ?_
      · rw [show Ordr.le.int 1 x.length = true from decide_eq_true (by omega)]
      · rw [show Ordr.le.int x.length 8 = false from decide_eq_false (by omega)]
      · rw [decide_eq_false h2, Bool.and_false, Bool.false_and]
  · refine (andV_f (ch_f (x := .int 1) rfl hlen ((cmp_int .le 1 x.length).trans ?_))).trans ?_
    · rw [show Ordr.le.int 1 x.length = false from decide_eq_false (by omega)]
    · rw [decide_eq_false h1, Bool.false_and, Bool.false_and]
theorem told_eq (x : Str) (due : Bool) (hx : x.length ≤ lim) : argN 2 v__law_told [.str x, .bl due] = .ok (.bl (nameOk x == due)) := by
  refine (argN_ok rfl).trans (call_v ?_)
  refine seq_ok (ρ' := [.str x, .bl due, .bl (nameOk x)]) (set_ok (i := 2) (call_ok (xs := [.str x]) (cons_ok rfl rfl) (name_eq x hx))) ?_
  exact ret_ok (d := .bl (nameOk x == due)) (andV_t rfl rfl) rfl
theorem mul_i (a b : Int) : mulX (.int a) (.int b) = binD .mul (.int a) (.int b) := rfl
theorem mixed_eq (c k : Int) (h0 : 0 ≤ k) (h1 : k ≤ 1000) : ∃ n : Int, 0 ≤ n ∧ n < 998244353 ∧ argN 2 v__law_mixed [.int c, .int k] = .ok (.int n) := by
  have hm1 := (mul_i c 40503).trans (mul_ok c 40503 (small_ok _ (by omega) (by omega)))
  have hm2 := (mul_i (k + 5) (k + 2)).trans (mul_ok (k + 5) (k + 2) (small_ok _ (by omega) (by omega)))
  have hm3 := (mul_i ((k + 5) * (k + 2)) 265443).trans (mul_ok ((k + 5) * (k + 2)) 265443 (small_ok _ (by omega) (by omega)))
  have hd1 := mod_ok (c * 40503 + (k + 5) * (k + 2) * 265443 + 11) 999999937 (by omega)
  have b0 := Int.emod_nonneg (c * 40503 + (k + 5) * (k + 2) * 265443 + 11) (show (999999937 : Int) ≠ 0 by omega)
  have b1 := Int.emod_lt_of_pos (c * 40503 + (k + 5) * (k + 2) * 265443 + 11) (show (0 : Int) < 999999937 by omega)
  generalize (c * 40503 + (k + 5) * (k + 2) * 265443 + 11) % 999999937 = m at hd1 b0 b1
  have sm : smallB m = true := by
    simp only [smallB, Bool.and_eq_true, decide_eq_true_eq]
    omega
  have hm4 := (mul_i m m).trans (mul_ok m m sm)
  have hm5 := (mul_i 97 m).trans (mul_ok 97 m sm)
  have hd2 := mod_ok (m * m + 97 * m) 998244353 (by omega)
  refine ⟨(m * m + 97 * m) % 998244353, Int.emod_nonneg _ (by omega), Int.emod_lt_of_pos _ (by omega), (argN_ok rfl).trans (call_v ?_)⟩
  refine seq_ok (ρ' := [.int c, .int k, .int m]) (set_ok (i := 2) (b2_ok (b2_ok (b2_ok (b2_ok rfl rfl hm1) (b2_ok (b2_ok (b2_ok rfl rfl (add_ok k 5)) (b2_ok rfl rfl (add_ok k 2)) hm2) rfl hm3) (add_ok _ _)) rfl (add_ok _ _)) rfl hd1)) ?_
  exact ret_ok (d := .int ((m * m + 97 * m) % 998244353)) (b2_ok (b2_ok (b2_ok rfl rfl hm4) (b2_ok rfl rfl hm5) (add_ok _ _)) rfl hd2) rfl
end Lk41
end

section
set_option autoImplicit false
set_option linter.all false
set_option maxRecDepth 100000
namespace Lk41
open PySem L2 Mi
def abc : Str := "abcdefghijklmnopqrstuvwxyz"
def sgs : Str := (" !\"#$&'()*+,-./0123456789:;<=>?@ABCDEFGHIJKLMNOPQRSTUVWXYZ[\\]^_`" : Str) ++ ("abcdefghijklmnopqrstuvwxyz{|}~\n" : Str)
def sg (j : Nat) : Nat := sgs.cps.toList.getD j 0
theorem abc_at : ∀ j, j < 26 → abc.cps.toList[j]? = some (97 + j) := by decide +kernel
theorem sgs_len : sgs.cps.toList.length = 95 := by decide +kernel
theorem sg_in : ∀ j, j < 95 → (!(Builtin.Str.occurrences abc (one (sg j)) 0 abc.length 1).isEmpty) = codeOk (sg j) := by decide +kernel
theorem str_at (x : Str) (c : Nat) (i : Int) (hx : x.length ≤ lim) (h0 : 0 ≤ i) (hc : x.cps.toList[i.toNat]? = some c) : getD (.str x) (.int i) = .ok (.str (one c)) := by
  show (if decide (x.length ≤ lim) then Res.ofOpt (((ixD x.cps.toList.length i).bind fun j => x.cps.toList[j]?).map fun c => D.str ⟨#[c]⟩) else .bad) = _
  have hl : i.toNat < x.cps.toList.length := (List.getElem?_eq_some_iff.mp hc).1
  rw [if_pos (decide_eq_true hx), show ixD x.cps.toList.length i = some i.toNat by unfold ixD; rw [if_pos h0, if_pos (by omega)]]
  show Res.ofOpt ((x.cps.toList[i.toNat]?).map fun c => D.str ⟨#[c]⟩) = _
  rw [hc]
  rfl
theorem abc_get (i : Int) (h0 : 0 ≤ i) (h1 : i < 26) : getD (.str abc) (.int i) = .ok (.str (one (97 + i.toNat))) := str_at abc _ i (by rw [lim_eq]; decide) h0 (abc_at _ (by omega))
theorem sgs_get (i : Int) (h0 : 0 ≤ i) (h1 : i < 95) : getD (.str sgs) (.int i) = .ok (.str (one (sg i.toNat))) := by
  refine str_at sgs _ i (by rw [lim_eq]; decide +kernel) h0 ?_
  unfold sg
  rw [List.getD_eq_getElem?_getD, List.getElem?_eq_getElem (by rw [sgs_len]; omega)]
  rfl
theorem signs_eq : argN 0 v__law_signs [] = .ok (.str sgs) := by
  refine (argN_ok rfl).trans (call_v ?_)
  refine seq_ok (ρ' := [.str (" !\"#$&'()*+,-./0123456789:;<=>?@ABCDEFGHIJKLMNOPQRSTUVWXYZ[\\]^_`" : Str)]) (set_ok (i := 0) rfl) ?_
  exact ret_ok (d := .str sgs) (b2_ok rfl rfl (str_add _ _ (by rw [lim_eq]; decide +kernel))) rfl

def tx (cs : List Nat) : Str := ⟨cs.toArray⟩
theorem tx_len (cs : List Nat) : (tx cs).length = cs.length := by
  show cs.toArray.size = _
  rw [List.size_toArray]
theorem tx_cps (cs : List Nat) : (tx cs).cps.toList = cs := rfl
theorem glue_fold : ∀ (cs : List Nat) (a : Array Nat), ((cs.map one).foldl (fun acc p => acc ++ ("" : Str).cps ++ p.cps) a) = a ++ cs.toArray
  | [], a => by simp
  | c :: cs, a => by
    rw [List.map_cons, List.foldl_cons, glue_fold cs]
    apply Array.ext'
    simp [one, show (("" : Str).cps) = #[] from rfl]
theorem join_one (cs : List Nat) : Txt.join ("" : Str) (cs.map one) = tx cs := by
  unfold Txt.join Builtin.Str.glued tx
  cases cs with
  | nil => rfl
  | cons c cs =>
    rw [List.map_cons, List.drop_succ_cons, List.drop_zero, List.headD_cons, glue_fold]
    congr 1
    apply Array.ext'
    simp [one]
theorem texts_one : ∀ cs : List Nat, textsD (cs.map fun c => D.str (one c)) = some (cs.map one)
  | [] => rfl
  | c :: cs => by
    show (textsD (cs.map fun c => D.str (one c))).map (one c :: ·) = _
    rw [texts_one cs]
    rfl
theorem join_eq (cs : List Nat) (h : cs.length ≤ 100) : joinM (.str "") [.lst (cs.map fun c => D.str (one c))] = .ok (.str (tx cs)) := by
  show (match textsD (cs.map fun c => D.str (one c)) with | some ts => if JoinOk "" ts then Res.ok (D.str (Txt.join "" ts)) else .bad | none => .bad) = _
  rw [texts_one]
  show (if JoinOk "" (cs.map one) then Res.ok (D.str (Txt.join "" (cs.map one))) else .bad) = _
  have hok : JoinOk "" (cs.map one) = true := by
    unfold JoinOk
    rw [StrLaws.joinFits (B := 1) (fun y hy => by obtain ⟨c, _, rfl⟩ := List.mem_map.mp hy; exact Nat.le_refl _) (by rw [List.length_map, show (("" : Str).length) = 0 from rfl]; omega)]
    rfl
  rw [if_pos hok, join_one]
theorem slice_lo (cs : List Nat) (a : Nat) (h : a < cs.length) : Txt.slice (tx cs) none (some (a : Int)) = tx (cs.take a) := by
  have e : Builtin.Str.strSliceIndices none (some (a : Int)) 1 (tx cs).length = Builtin.Str.strSliceIndices (some ((0 : Nat) : Int)) (some (a : Int)) 1 (tx cs).length := by
    simp only [Builtin.Str.strSliceIndices]
    have e0 : max (0 : Int) (min (if ((0 : Nat) : Int) < 0 then ((0 : Nat) : Int) + ((tx cs).length : Int) else ((0 : Nat) : Int)) ((tx cs).length : Int)) = 0 := by
      rw [if_neg (by omega)]
      omega
    simp only [show (1 : Int) > 0 from by decide, if_true, e0]
  unfold Txt.slice
  rw [e, if_neg, StrLaws.sliced_plain (tx cs) (by omega) (by rw [tx_len]; omega)]
  · unfold tx
    congr 1
  · rw [StrLaws.strSliceIndices_plain (by omega) (by rw [tx_len]; omega), tx_len]
    simp
    omega
theorem slice_hi (cs : List Nat) (a : Nat) (h : a < cs.length) : Txt.slice (tx cs) (some ((a : Int) + 1)) none = tx (cs.drop (a + 1)) := by
  have e : Builtin.Str.strSliceIndices (some ((a : Int) + 1)) none 1 (tx cs).length = Builtin.Str.strSliceIndices (some ((a + 1 : Nat) : Int)) (some ((cs.length : Nat) : Int)) 1 (tx cs).length := by
    rw [tx_len]
    simp only [Builtin.Str.strSliceIndices]
    have e0 : max (0 : Int) (min (if ((cs.length : Nat) : Int) < 0 then ((cs.length : Nat) : Int) + (cs.length : Int) else ((cs.length : Nat) : Int)) (cs.length : Int)) = cs.length := by
      rw [if_neg (by omega)]
      omega
    simp only [show (1 : Int) > 0 from by decide, if_true, e0, Int.natCast_add, Int.natCast_one]
  unfold Txt.slice
  rw [e, if_neg, StrLaws.sliced_plain (tx cs) (by omega) (by rw [tx_len]; omega)]
  · unfold tx
    congr 1
    show ((cs.drop (a + 1)).take (cs.length - (a + 1))).toArray = _
    rw [List.take_of_length_le (by rw [List.length_drop]; omega)]
  · rw [StrLaws.strSliceIndices_plain (by omega) (by rw [tx_len]; omega), tx_len]
    simp
    omega
end Lk41
end

section
set_option autoImplicit false
set_option linter.all false
set_option maxRecDepth 100000
namespace Lk41
open PySem L2 Mi
def y1 : FS := (sSet false 6 (bCall (argN 2 v__law_mixed) (bCons (bVar 5) (bCons (bVar 4) (bNil)))) true)
def y2 : FS := (sSet false 7 (b2 (binD .mod) (bVar 6) (bC (.int 11))) true)
def y3 : FS := (sSet false 6 (b2 (binD .fdiv) (bVar 6) (bC (.int 11))) true)
def y4 : FS := (sSet false 8 (bM joinM (bC (.str "")) (bCons (bComp 12 (bThen (bCons (bVar 7) (bNil)) rng1D) oneT (bTrue) (b2 getD (bVar 1) (b2 (binD .mod) (b2 (binD .add) (b2 (binD .fdiv) (bVar 6) (bC (.int 26))) (b2 mulX (bVar 12) (b2 (binD .mod) (bVar 6) (bC (.int 26))))) (bC (.int 26)))) false) (bNil))) true)
def y5 : FS := (sSet false 9 (bAndV (b2 (cmpD (.ord .gt)) (bVar 7) (bC (.int 0))) (b2 (cmpD (.ord .lt)) (bVar 7) (bC (.int 9)))) true)
def y6 : FS := (sSet false 6 (b2 (binD .fdiv) (bVar 6) (bC (.int 676))) true)
def y7 : FS := (sIf (bAnd (bTB (b2 (cmpD (.ord .gt)) (bVar 7) (bC (.int 0)))) (bTB (b2 (cmpD .eq) (b2 (binD .mod) (bVar 6) (bC (.int 2))) (bC (.int 1))))) (sSeq (sSet false 10 (b2 (binD .mod) (b2 (binD .fdiv) (bVar 6) (bC (.int 2))) (bVar 7)) true) (sSeq (sSet false 11 (b2 getD (bVar 2) (b2 (binD .mod) (b2 (binD .fdiv) (b2 (binD .fdiv) (bVar 6) (bC (.int 2))) (bVar 7)) (bC (.int 95)))) false) (sSeq (sSet false 8 (b2 (binD .add) (b2 (binD .add) (bSlX (bVar 8) (bNone) (bSome (bVar 10))) (bVar 11)) (bSlX (bVar 8) (bSome (b2 (binD .add) (bVar 10) (bC (.int 1)))) (bNone))) true) (sSet false 9 (bAndV (bVar 9) (b2 inX (bVar 11) (bVar 1))) true)))) (sNil))
def y8 : FS := (sIf (bOr (bNot (bTr (bCall (argN 2 v__law_told) (bCons (bVar 8) (bCons (bVar 9) (bNil)))))) (bNot (bTr (bCall (argN 2 v__law_told) (bCons (b2 getD (bVar 3) (b2 (binD .mod) (bVar 6) (bC (.int 7)))) (bCons (bC (.bl true)) (bNil))))))) (sRet (bC (.bl false)) true) (sNil))
def y9 : FS := (sIf (bAnd (bTB (b2 (cmpD .eq) (b2 (binD .mod) (bVar 6) (bC (.int 8))) (bC (.int 1)))) (bNot (bTr (bCall (argN 2 v__law_told) (bCons (b2 mulX (b2 getD (bVar 1) (b2 (binD .mod) (b2 (binD .fdiv) (bVar 6) (bC (.int 8))) (bC (.int 26)))) (b2 (binD .add) (bC (.int 9)) (b2 (binD .mod) (b2 (binD .fdiv) (bVar 6) (bC (.int 208))) (bC (.int 400))))) (bCons (bC (.bl false)) (bNil))))))) (sRet (bC (.bl false)) true) (sNil))
def ybody : FS := sSeq y1 (sSeq y2 (sSeq y3 (sSeq y4 (sSeq y5 (sSeq y6 (sSeq y7 (sSeq y8 (y9))))))))
def ownL : List D := [.str "copy", .str "drop", .str "kind", .str "maker", .str "taker", .str "rule", .str "z"]
/-- the names of the loop -/
@[reducible] def Sx (A k c n z t g a s : D) : List D := [A, .str abc, .str sgs, .lst ownL, k, c, n, z, t, g, a, s]
section
variable {A k c a s : D}
def cd (n : Int) (j : Nat) : Nat := 97 + ((n / 26 + (0 + (j : Int)) * (n % 26)) % 26).toNat
def cds (n : Int) (z : Nat) : List Nat := (List.range z).map (cd n)
theorem cd_ok (n : Int) (j : Nat) : codeOk (cd n j) = true := by
  have h0 := Int.emod_nonneg (n / 26 + (0 + (j : Int)) * (n % 26)) (show (26 : Int) ≠ 0 by omega)
  have h1 := Int.emod_lt_of_pos (n / 26 + (0 + (j : Int)) * (n % 26)) (show (0 : Int) < 26 by omega)
  unfold codeOk cd
  rw [decide_eq_true (by omega), decide_eq_true (by omega)]
  rfl
theorem y4_ok {n : Int} {z : Nat} {t g : D} (hz : z ≤ 10) : y4 (Sx A k c (.int n) (.int z) t g a s) = .ok (.nx (Sx A k c (.int n) (.int z) (.str (tx (cds n z))) g a s)) := by
  have f26 := fdiv_ok n 26 (by omega) (by omega)
  have m26 := mod_ok n 26 (by omega)
  have hm : smallB (n % 26) = true := by
    have := Int.emod_nonneg n (show (26 : Int) ≠ 0 by omega)
    have := Int.emod_lt_of_pos n (show (0 : Int) < 26 by omega)
    exact small_ok _ (by omega) (by omega)
  have hf : cfold (cstep 12 oneT bTrue (b2 getD (bVar 1) (b2 (binD .mod) (b2 (binD .add) (b2 (binD .fdiv) (bVar 6) (bC (.int 26))) (b2 mulX (bVar 12) (b2 (binD .mod) (bVar 6) (bC (.int 26))))) (bC (.int 26)))) false (Sx A k c (.int n) (.int z) t g a s)) [] ((List.range z).map fun (j : Nat) => D.int (0 + (j : Int))) = .ok ((cds n z).map fun c => D.str (one c)) := by
    rw [cfold_map _ (fun (j : Nat) => D.int (0 + (j : Int))) (fun _ => true) (fun j => D.str (one (cd n j)))]
    · unfold cds
      rw [List.map_map, List.filter_eq_self.mpr (fun _ _ => rfl)]
      rfl
    · intro acc j
      refine cstep_one (b := true) (y := .str (one (cd n j))) rfl rfl fun _ => ⟨?_, rfl⟩
      have hj := (mul_i (0 + (j : Int)) (n % 26)).trans (mul_ok (0 + (j : Int)) (n % 26) hm)
      have mm := mod_ok (n / 26 + (0 + (j : Int)) * (n % 26)) 26 (by omega)
      have h0 := Int.emod_nonneg (n / 26 + (0 + (j : Int)) * (n % 26)) (show (26 : Int) ≠ 0 by omega)
      have h1 := Int.emod_lt_of_pos (n / 26 + (0 + (j : Int)) * (n % 26)) (show (0 : Int) < 26 by omega)
      exact b2_ok (x := .str abc) (y := .int ((n / 26 + (0 + (j : Int)) * (n % 26)) % 26)) rfl (b2_ok (b2_ok (b2_ok (x := .int n) rfl rfl f26) (b2_ok (x := .int (0 + (j : Int))) rfl (b2_ok (x := .int n) rfl rfl m26) hj) (add_ok _ _)) rfl mm) (abc_get _ h0 h1)
  have hl : (cds n z).length = z := by simp [cds]
  refine set_ok (i := 8) (d := .str (tx (cds n z))) ?_
  have hcomp : bComp 12 (bThen (bCons (bVar 7) (bNil)) rng1D) oneT (bTrue) (b2 getD (bVar 1) (b2 (binD .mod) (b2 (binD .add) (b2 (binD .fdiv) (bVar 6) (bC (.int 26))) (b2 mulX (bVar 12) (b2 (binD .mod) (bVar 6) (bC (.int 26))))) (bC (.int 26)))) false (Sx A k c (.int n) (.int z) t g a s) = .ok (.lst ((cds n z).map fun c => D.str (one c))) :=
    comp_ok (rng_ok (n := (z : Int)) (cons_ok rfl rfl) (by omega) (by omega)) (by rw [List.length_map, List.length_range, lim_eq]; omega) hf
  show (do let x ← bC (.str "") _; let xs ← bCons _ bNil _; joinM x xs) = _
  rw [cons_ok hcomp (show bNil _ = .ok [] from rfl)]
  exact join_eq _ (by rw [hl]; omega)
theorem cds_all (n : Int) (z : Nat) : (cds n z).all codeOk = true := List.all_eq_true.mpr fun x hx => by
  obtain ⟨j, _, rfl⟩ := List.mem_map.mp hx
  exact cd_ok n j
theorem y5_ok {n : D} {z : Nat} {t g : D} : y5 (Sx A k c n (.int z) t g a s) = .ok (.nx (Sx A k c n (.int z) t (.bl (decide (1 ≤ z) && decide (z ≤ 8))) a s)) := by
  refine set_ok (i := 9) ?_
  by_cases h : 1 ≤ z
  · refine andV_t (b2_ok (x := .int z) (y := .int 0) rfl rfl ((cmp_int .gt z 0).trans ?_)) (b2_ok (x := .int z) (y := .int 9) rfl rfl ((cmp_int .lt z 9).trans ?_))
    · rw [show Ordr.gt.int z 0 = true from decide_eq_true (by omega)]
    · rw [decide_eq_true h, Bool.true_and]
      show Res.ok (D.bl (decide ((z : Int) < 9))) = _
      congr 2
      exact decide_eq_decide.mpr (by omega)
  · refine (andV_f (b2_ok (x := .int z) (y := .int 0) rfl rfl ((cmp_int .gt z 0).trans ?_))).trans ?_
    · rw [show Ordr.gt.int z 0 = false from decide_eq_false (by omega)]
    · rw [decide_eq_false h, Bool.false_and]
theorem y7_ok {n : Int} {z : Nat} {cs : List Nat} (hn : 0 ≤ n) (hl : cs.length = z) (hz : z ≤ 10) (hc : cs.all codeOk = true) : ∃ (cs' : List Nat) (g' : Bool) (a' s' : D), cs'.length ≤ 10 ∧ nameOk (tx cs') = g' ∧
    y7 (Sx A k c (.int n) (.int z) (.str (tx cs)) (.bl (decide (1 ≤ z) && decide (z ≤ 8))) a s) = .ok (.nx (Sx A k c (.int n) (.int z) (.str (tx cs')) (.bl g') a' s')) := by
  have m2 := mod_ok n 2 (by omega)
  have nm : nameOk (tx cs) = (decide (1 ≤ z) && decide (z ≤ 8)) := by
    unfold nameOk
    rw [tx_len, tx_cps, hc, hl, Bool.and_true]
  by_cases h1 : 1 ≤ z
  · by_cases h2 : n % 2 = 1
    · have f2 := fdiv_ok n 2 (by omega) (by omega)
      have mz := mod_ok (n / 2) z (by omega)
      have fz := fdiv_ok (n / 2) z (by omega) (by omega)
      have m95 := mod_ok (n / 2 / z) 95 (by omega)
      have a0 := Int.emod_nonneg (n / 2) (show (z : Int) ≠ 0 by omega)
      have a1 := Int.emod_lt_of_pos (n / 2) (show (0 : Int) < z by omega)
      have s0 := Int.emod_nonneg (n / 2 / z) (show (95 : Int) ≠ 0 by omega)
      have s1 := Int.emod_lt_of_pos (n / 2 / z) (show (0 : Int) < 95 by omega)
      have sget := sgs_get (n / 2 / z % 95) s0 s1
      obtain ⟨at_, ha⟩ : ∃ m : Nat, n / 2 % z = (m : Int) := ⟨(n / 2 % z).toNat, by omega⟩
      rw [ha] at mz a0 a1
      have hs1 : (n / 2 / z % 95).toNat < 95 := by omega
      generalize hsg : sg (n / 2 / z % 95).toNat = ch at sget
      have hin := sg_in _ hs1
      rw [hsg] at hin
      have hat : at_ < cs.length := by omega
      have hlen : (cs.take at_ ++ ch :: cs.drop (at_ + 1)).length = z := by
        rw [List.length_append, List.length_take, List.length_cons, List.length_drop]
        omega
      refine ⟨cs.take at_ ++ ch :: cs.drop (at_ + 1), decide (1 ≤ z) && decide (z ≤ 8) && codeOk ch, .int at_, .str (one ch), by rw [hlen]; exact hz, ?_, ?_⟩
      · unfold nameOk
        rw [tx_len, tx_cps, hlen, List.all_append, List.all_cons]
        have t1 : (cs.take at_).all codeOk = true := List.all_eq_true.mpr fun x hx => List.all_eq_true.mp hc x (List.mem_of_mem_take hx)
        have t2 : (cs.drop (at_ + 1)).all codeOk = true := List.all_eq_true.mpr fun x hx => List.all_eq_true.mp hc x (List.mem_of_mem_drop hx)
        rw [t1, t2, Bool.true_and, Bool.and_true]
      · refine if_t (and_t (tb_ok (b2_ok (x := .int z) (y := .int 0) rfl rfl ((cmp_int .gt z 0).trans ?_))) (tb_ok (k := true) (b2_ok (b2_ok (x := .int n) rfl rfl m2) rfl ?_))) ?_
        · rw [show Ordr.gt.int z 0 = true from decide_eq_true (by omega)]
        · show Res.ok (D.bl (n % 2 == 1)) = _
          rw [h2]
          rfl
        · refine seq_ok (ρ' := Sx A k c (.int n) (.int z) (.str (tx cs)) (.bl (decide (1 ≤ z) && decide (z ≤ 8))) (.int at_) s) (set_ok (i := 10) (b2_ok (b2_ok (x := .int n) rfl rfl f2) rfl mz)) ?_
          refine seq_ok (ρ' := Sx A k c (.int n) (.int z) (.str (tx cs)) (.bl (decide (1 ≤ z) && decide (z ≤ 8))) (.int at_) (.str (one ch))) (setP_ok (i := 11) (b2_ok (x := .str sgs) rfl (b2_ok (b2_ok (b2_ok (x := .int n) rfl rfl f2) rfl fz) rfl m95) sget) rfl) ?_
          have hlm : (tx cs).length ≤ lim := by rw [tx_len, lim_eq]; omega
          have e1 : slcX (.str (tx cs)) none (some (at_ : Int)) = .ok (.str (tx (cs.take at_))) := by
            show (if decide ((tx cs).length ≤ lim) then Res.ok (D.str (Txt.slice (tx cs) none (some (at_ : Int)))) else .bad) = _
            rw [if_pos (decide_eq_true hlm), slice_lo cs at_ hat]
          have e2 : slcX (.str (tx cs)) (some ((at_ : Int) + 1)) none = .ok (.str (tx (cs.drop (at_ + 1)))) := by
            show (if decide ((tx cs).length ≤ lim) then Res.ok (D.str (Txt.slice (tx cs) (some ((at_ : Int) + 1)) none)) else .bad) = _
            rw [if_pos (decide_eq_true hlm), slice_hi cs at_ hat]
          have app : ∀ xs ys : List Nat, tx xs ++ tx ys = tx (xs ++ ys) := fun xs ys => Str.ext' (by
            rw [Str.cps_append]
            unfold tx
            simp)
          have e3 : binD .add (.str (tx (cs.take at_))) (.str (one ch)) = .ok (.str (tx (cs.take at_ ++ [ch]))) := by
            rw [str_add _ _ (by rw [tx_len, List.length_take, lim_eq]; show _ + 1 ≤ _; omega), show one ch = tx [ch] from rfl, app]
          have e4 : binD .add (.str (tx (cs.take at_ ++ [ch]))) (.str (tx (cs.drop (at_ + 1)))) = .ok (.str (tx (cs.take at_ ++ ch :: cs.drop (at_ + 1)))) := by
            rw [str_add _ _ (by rw [tx_len, tx_len, List.length_append, List.length_take, List.length_drop, lim_eq]; simp only [List.length_singleton]; omega), app, List.append_assoc]
            rfl
          refine seq_ok (ρ' := Sx A k c (.int n) (.int z) (.str (tx (cs.take at_ ++ ch :: cs.drop (at_ + 1)))) (.bl (decide (1 ≤ z) && decide (z ≤ 8))) (.int at_) (.str (one ch))) (set_ok (i := 8) (b2_ok (b2_ok (x := .str (tx (cs.take at_))) (y := .str (one ch)) e1 rfl e3) (y := .str (tx (cs.drop (at_ + 1)))) ?_ e4)) ?_
          · exact e2
          · refine set_ok (i := 9) (d := .bl (decide (1 ≤ z) && decide (z ≤ 8) && codeOk ch)) ?_
            have e5 : inX (.str (one ch)) (.str abc) = .ok (.bl (codeOk ch)) := by
              show Res.ok (D.bl (!(Builtin.Str.occurrences abc (one ch) 0 abc.length 1).isEmpty)) = _
              rw [hin]
            cases hg : (decide (1 ≤ z) && decide (z ≤ 8)) with
            | true => exact andV_t rfl (b2_ok (x := .str (one ch)) (y := .str abc) rfl rfl e5)
            | false => exact andV_f rfl
    · refine ⟨cs, _, a, s, by omega, nm, if_f (and_t (tb_ok (b2_ok (x := .int z) (y := .int 0) rfl rfl ((cmp_int .gt z 0).trans ?_))) (tb_ok (k := false) (b2_ok (b2_ok (x := .int n) rfl rfl m2) rfl ?_))) rfl⟩
      · rw [show Ordr.gt.int z 0 = true from decide_eq_true (by omega)]
      · show Res.ok (D.bl (n % 2 == 1)) = _
        rw [show (n % 2 == 1) = false from by simpa using h2]
  · refine ⟨cs, _, a, s, by omega, nm, if_f (and_f (tb_ok (b2_ok (x := .int z) (y := .int 0) rfl rfl ((cmp_int .gt z 0).trans ?_)))) rfl⟩
    rw [show Ordr.gt.int z 0 = false from decide_eq_false (by omega)]
theorem tr_t {f : FE} {ρ : List D} {b : Bool} (h : f ρ = .ok (.bl b)) : bTr f ρ = .ok b := by
  unfold bTr
  rw [h]
  rfl
theorem not_ok {f : FT} {ρ : List D} {b : Bool} (h : f ρ = .ok b) : bNot f ρ = .ok (!b) := by
  unfold bNot
  rw [h]
  rfl
theorem or_f {x y : FT} {ρ : List D} {r : Res Bool} (h1 : x ρ = .ok false) (h2 : y ρ = r) : bOr x y ρ = r := by
  unfold bOr
  rw [h1]
  exact h2
theorem own_ok : ∀ j, j < 7 → ∃ x : Str, ownL[j]? = some (.str x) ∧ nameOk x = true ∧ x.length ≤ 10 := by
  intro j hj
  have : j = 0 ∨ j = 1 ∨ j = 2 ∨ j = 3 ∨ j = 4 ∨ j = 5 ∨ j = 6 := by omega
  rcases this with rfl | rfl | rfl | rfl | rfl | rfl | rfl
  · exact ⟨_, rfl, by decide +kernel, by decide +kernel⟩
  · exact ⟨_, rfl, by decide +kernel, by decide +kernel⟩
  · exact ⟨_, rfl, by decide +kernel, by decide +kernel⟩
  · exact ⟨_, rfl, by decide +kernel, by decide +kernel⟩
  · exact ⟨_, rfl, by decide +kernel, by decide +kernel⟩
  · exact ⟨_, rfl, by decide +kernel, by decide +kernel⟩
  · exact ⟨_, rfl, by decide +kernel, by decide +kernel⟩
theorem y8_ok {n : Int} {z : D} {cs : List Nat} {g : Bool} (hl : cs.length ≤ 10) (hg : nameOk (tx cs) = g) : y8 (Sx A k c (.int n) z (.str (tx cs)) (.bl g) a s) = .ok (.nx (Sx A k c (.int n) z (.str (tx cs)) (.bl g) a s)) := by
  have m7 := mod_ok n 7 (by omega)
  have b0 := Int.emod_nonneg n (show (7 : Int) ≠ 0 by omega)
  have b1 := Int.emod_lt_of_pos n (show (0 : Int) < 7 by omega)
  obtain ⟨x, hx, hok, hxl⟩ := own_ok (n % 7).toNat (by omega)
  have hget : getD (.lst ownL) (.int (n % 7)) = .ok (.str x) := by
    obtain ⟨h, e⟩ := lst_get ownL (n % 7) b0 (by show n % 7 < 7; omega)
    rw [e]
    rw [List.getElem?_eq_getElem h] at hx
    rw [Option.some.inj hx]
  have t1 := told_eq (tx cs) g (by rw [tx_len, lim_eq]; omega)
  have t2 := told_eq x true (by rw [lim_eq]; omega)
  rw [hg] at t1
  rw [hok] at t2
  have t1' : argN 2 v__law_told [.str (tx cs), .bl g] = .ok (.bl true) := by rw [t1]; cases g <;> rfl
  exact if_f (or_f (not_ok (b := true) (tr_t (call_ok (xs := [.str (tx cs), .bl g]) (cons_ok rfl (cons_ok rfl rfl)) t1'))) (not_ok (b := true) (tr_t (call_ok (xs := [.str x, .bl true]) (cons_ok (b2_ok (x := .lst ownL) rfl (b2_ok (x := .int n) rfl rfl m7) hget) (cons_ok rfl rfl)) t2)))) rfl
theorem mul_len (ch : Nat) (m : Int) (h9 : 9 ≤ m) : 9 ≤ (Txt.mul (one ch) m).length := by
  unfold Txt.mul
  rw [if_neg (by omega), if_neg (by simp [show (one ch).length = 1 from rfl]; omega)]
  have fold : ∀ (q : Nat) (b : Array Nat), ((List.replicate q (one ch).cps).foldl (· ++ ·) b).size = b.size + q := by
    intro q
    induction q with
    | zero => intro b; simp
    | succ q ih =>
      intro b
      rw [List.replicate_succ, List.foldl_cons, ih]
      rw [Array.size_append]
      show b.size + 1 + q = _
      omega
  show 9 ≤ ((List.replicate m.toNat (one ch).cps).foldl (· ++ ·) #[]).size
  rw [fold]
  simp
  omega
theorem mul_len2 (ch : Nat) (m : Int) (h9 : 9 ≤ m) (h8 : m ≤ 1000) : (Txt.mul (one ch) m).length ≤ 1000 := by
  unfold Txt.mul
  rw [if_neg (by omega), if_neg (by simp [show (one ch).length = 1 from rfl]; omega)]
  have fold : ∀ (q : Nat) (b : Array Nat), ((List.replicate q (one ch).cps).foldl (· ++ ·) b).size = b.size + q := by
    intro q
    induction q with
    | zero => intro b; simp
    | succ q ih =>
      intro b
      rw [List.replicate_succ, List.foldl_cons, ih]
      rw [Array.size_append]
      show b.size + 1 + q = _
      omega
  show ((List.replicate m.toNat (one ch).cps).foldl (· ++ ·) #[]).size ≤ 1000
  rw [fold]
  simp
  omega
theorem y9_ok {n : Int} {z t g : D} : y9 (Sx A k c (.int n) z t g a s) = .ok (.nx (Sx A k c (.int n) z t g a s)) := by
  have m8 := mod_ok n 8 (by omega)
  have hc : bTB (b2 (cmpD .eq) (b2 (binD .mod) (bVar 6) (bC (.int 8))) (bC (.int 1))) (Sx A k c (.int n) z t g a s) = .ok (n % 8 == 1) := tb_ok (b2_ok (b2_ok (x := .int n) rfl rfl m8) rfl rfl)
  cases hb : (n % 8 == 1) with
  | false =>
    rw [hb] at hc
    exact if_f (and_f hc) rfl
  | true =>
    rw [hb] at hc
    have f8 := fdiv_ok n 8 (by omega) (by omega)
    have m26 := mod_ok (n / 8) 26 (by omega)
    have f208 := fdiv_ok n 208 (by omega) (by omega)
    have m400 := mod_ok (n / 208) 400 (by omega)
    have b0 := Int.emod_nonneg (n / 8) (show (26 : Int) ≠ 0 by omega)
    have b1 := Int.emod_lt_of_pos (n / 8) (show (0 : Int) < 26 by omega)
    have d0 := Int.emod_nonneg (n / 208) (show (400 : Int) ≠ 0 by omega)
    have d1 := Int.emod_lt_of_pos (n / 208) (show (0 : Int) < 400 by omega)
    have ga := abc_get _ b0 b1
    generalize 97 + (n / 8 % 26).toNat = ch at ga
    generalize hq : n / 208 % 400 = q at m400 d0 d1
    have hm : mulX (.str (one ch)) (.int (9 + q)) = .ok (.str (Txt.mul (one ch) (9 + q))) := by
      show (if decide (0 ≤ 9 + q) && decide (9 + q ≤ 100000) && decide ((one ch).length * (9 + q).toNat ≤ lim) then Res.ok (D.str (Txt.mul (one ch) (9 + q))) else .bad) = _
      rw [if_pos]
      rw [decide_eq_true (by omega), decide_eq_true (by omega), decide_eq_true (by rw [show (one ch).length = 1 from rfl, lim_eq]; omega)]
      rfl
    have l1 := mul_len ch (9 + q) (by omega)
    have l2 := mul_len2 ch (9 + q) (by omega) (by omega)
    generalize Txt.mul (one ch) (9 + q) = w at hm l1 l2
    have tt := told_eq w false (by rw [lim_eq]; omega)
    have nn : nameOk w = false := by
      unfold nameOk
      rw [decide_eq_false (show ¬ w.length ≤ 8 by omega), Bool.and_false, Bool.false_and]
    rw [nn] at tt
    exact if_f (and_t hc (not_ok (b := true) (tr_t (call_ok (xs := [.str w, .bl false]) (cons_ok (b2_ok (b2_ok (x := .str abc) rfl (b2_ok (b2_ok (x := .int n) rfl rfl f8) rfl m26) ga) (b2_ok rfl (b2_ok (b2_ok (x := .int n) rfl rfl f208) rfl m400) (add_ok 9 q)) hm) (cons_ok rfl rfl)) tt)))) rfl
theorem body_ok {ki ci : Int} {n z t g : D} (h0 : 0 ≤ ki) (h1 : ki ≤ 1000) : ∃ n' z' t' g' a' s', ybody (Sx A (.int ki) (.int ci) n z t g a s) = .ok (.nx (Sx A (.int ki) (.int ci) n' z' t' g' a' s')) := by
  obtain ⟨n0, p0, p1, e0⟩ := mixed_eq ci ki h0 h1
  have m11 := mod_ok n0 11 (by omega)
  have b0 := Int.emod_nonneg n0 (show (11 : Int) ≠ 0 by omega)
  have b1 := Int.emod_lt_of_pos n0 (show (0 : Int) < 11 by omega)
  obtain ⟨zz, hz⟩ : ∃ m : Nat, n0 % 11 = (m : Int) := ⟨(n0 % 11).toNat, by omega⟩
  rw [hz] at m11 b1
  have f11 := fdiv_ok n0 11 (by omega) (by omega)
  have f676 := fdiv_ok (n0 / 11) 676 (by omega) (by omega)
  have q0 : 0 ≤ n0 / 11 / 676 := Int.ediv_nonneg (Int.ediv_nonneg p0 (by omega)) (by omega)
  obtain ⟨cs', g', a', s', l', ng, e7⟩ := y7_ok (A := A) (k := .int ki) (c := .int ci) (a := a) (s := s) (n := n0 / 11 / 676) (z := zz) (cs := cds (n0 / 11) zz) q0 (by simp [cds]) (by omega) (cds_all _ _)
  refine ⟨.int (n0 / 11 / 676), .int zz, .str (tx cs'), .bl g', a', s', ?_⟩
  refine seq_ok (ρ' := Sx A (.int ki) (.int ci) (.int n0) z t g a s) (set_ok (i := 6) (call_ok (xs := [.int ci, .int ki]) (cons_ok rfl (cons_ok rfl rfl)) e0)) ?_
  refine seq_ok (ρ' := Sx A (.int ki) (.int ci) (.int n0) (.int zz) t g a s) (set_ok (i := 7) (b2_ok (x := .int n0) rfl rfl m11)) ?_
  refine seq_ok (ρ' := Sx A (.int ki) (.int ci) (.int (n0 / 11)) (.int zz) t g a s) (set_ok (i := 6) (b2_ok (x := .int n0) rfl rfl f11)) ?_
  refine seq_ok (y4_ok (by omega)) ?_
  refine seq_ok y5_ok ?_
  refine seq_ok (ρ' := Sx A (.int ki) (.int ci) (.int (n0 / 11 / 676)) (.int zz) (.str (tx (cds (n0 / 11) zz))) (.bl (decide (1 ≤ zz) && decide (zz ≤ 8))) a s) (set_ok (i := 6) (b2_ok (x := .int (n0 / 11)) rfl rfl f676)) ?_
  refine seq_ok e7 ?_
  exact seq_ok (y8_ok l' ng) y9_ok
end
theorem loop_ok {A : D} : ∀ (items : List (Int × Int)) (k c n z t g a s : D), (∀ p ∈ items, 0 ≤ p.1 ∧ p.1 ≤ 1000) → ∃ k' c' n' z' t' g' a' s', forS (tgN [4, 5]) ybody (items.map fun p => D.tup [.int p.1, .int p.2]) (Sx A k c n z t g a s) = .ok (.nx (Sx A k' c' n' z' t' g' a' s'))
  | [], k, c, n, z, t, g, a, s, _ => ⟨k, c, n, z, t, g, a, s, rfl⟩
  | p :: items, k, c, n, z, t, g, a, s, h => by
    have hp := h p (List.mem_cons_self ..)
    obtain ⟨n1, z1, t1, g1, a1, s1, e1⟩ := body_ok (A := A) (ki := p.1) (ci := p.2) (n := n) (z := z) (t := t) (g := g) (a := a) (s := s) hp.1 hp.2
    obtain ⟨k2, c2, n2, z2, t2, g2, a2, s2, e2⟩ := loop_ok items (.int p.1) (.int p.2) n1 z1 t1 g1 a1 s1 fun q hq => h q (List.mem_cons_of_mem _ hq)
    exact ⟨k2, c2, n2, z2, t2, g2, a2, s2, fors_cons (ρ1 := Sx A (.int p.1) (.int p.2) n z t g a s) rfl e1 e2⟩
theorem enum_ints (cs : List Int) : enumL (cs.map D.int) = (cs.zipIdx.map fun p => ((p.2 : Int), p.1)).map fun p => D.tup [.int p.1, .int p.2] := by
  unfold enumL
  rw [List.zipIdx_map, List.map_map, List.map_map]
  rfl
theorem main : ∀ ns : List Int, ns.length ≤ 63 → v_law [.scr (ns.map D.int)] = .ok (.bl true) := by
  intro ns hn
  have hcl := cut_len ns none (some 120)
  have hs : slcX (.scr (ns.map D.int)) none (some 120) = .ok (.lst ((cutD ns none (some 120)).map D.int)) := by
    show (if D.pures (ns.map D.int) then Res.ok (D.lst (cutD (ns.map D.int) none (some 120))) else .bad) = _
    rw [pures_ints, if_pos rfl, cut_map]
  generalize cutD ns none (some 120) = cs at hs hcl
  obtain ⟨k', c', n', z', t', g', a', s', e⟩ := loop_ok (A := .scr (ns.map D.int)) (cs.zipIdx.map fun p => ((p.2 : Int), p.1)) .undef .undef .undef .undef .undef .undef .undef .undef fun p hp => by
    obtain ⟨q, hq, rfl⟩ := List.mem_map.mp hp
    have := (List.mem_zipIdx hq).2.1
    have h2 : q.2 < cs.length := by omega
    show (0 : Int) ≤ (q.2 : Int) ∧ (q.2 : Int) ≤ 1000
    omega
  rw [← enum_ints] at e
  have he : bEnum (bSlX (bVar 0) (bNone) (bSome (bC (.int 120)))) true (Sx (.scr (ns.map D.int)) .undef .undef .undef .undef .undef .undef .undef .undef) = .ok (enumL (cs.map D.int), true) := by
    have h1 : bSlX (bVar 0) (bNone) (bSome (bC (.int 120))) (Sx (.scr (ns.map D.int)) .undef .undef .undef .undef .undef .undef .undef .undef) = .ok (.lst (cs.map D.int)) := hs
    unfold bEnum
    rw [h1]
    rfl
  have last := told_eq ("" : Str) false (by rw [lim_eq]; decide)
  refine call_v ?_
  refine seq_ok (ρ' := [.scr (ns.map D.int), .str abc, .undef, .undef, .undef, .undef, .undef, .undef, .undef, .undef, .undef, .undef]) (set_ok (i := 1) rfl) ?_
  refine seq_ok (ρ' := [.scr (ns.map D.int), .str abc, .str sgs, .undef, .undef, .undef, .undef, .undef, .undef, .undef, .undef, .undef]) (set_ok (i := 2) (call_ok (xs := []) rfl signs_eq)) ?_
  refine seq_ok (ρ' := Sx (.scr (ns.map D.int)) .undef .undef .undef .undef .undef .undef .undef .undef) (set_ok (i := 3) rfl) ?_
  refine seq_ok (for_ok he e) ?_
  refine ret_ok (d := .bl true) (call_ok (xs := [.str "", .bl false]) (cons_ok rfl (cons_ok rfl rfl)) (last.trans ?_)) rfl
  rfl
end Lk41
end

section
open PySem PySem.W PyProof.Rows
set_option maxRecDepth 100000 in
set_option maxHeartbeats 0 in
theorem PySem.Challenge.cw_hookmill_k41_names_holds : PySem.Challenge.rw_hookmill_k41_names.Holds := by
  w_on; o_law; k_head; (case hw => w_witness2)
  k_fill
  refine Lk41.walk (l := PySem.Challenge.rw_hookmill_k41_names) Lk41.main rfl rfl (fun w h Y => PySem.W.kIn_of Y) ?F
  case F =>
    intro w mg fa h KX G hmg
    refine' Lk41.all_mk KX G hmg ?a0 ?l0 ?c0 ?k0 ?a1 ?l1 ?c1 ?k1 ?a2 ?l2 ?c2 ?k2 ?a3 ?l3 ?c3 ?k3 ?a4 ?l4 ?c4 ?k4 ?a5 ?l5 ?c5 ?k5 ?z_len ?z_min ?z_max ?z_list ?z_tuple ?z_sorted ?z_range ?z_isinstance ?z_int ?z_bool ?z_str ?z_dict ?z_all ?z_enumerate ?z_sum ?z_zip ?z_abs ?z_reversed
    (case a0 => k_is)
    (case l0 => k_is)
    (case c0 => k_is)
    (case k0 => k_is)
    (case a1 => k_is)
    (case l1 => k_is)
    (case c1 => k_is)
    (case k1 => k_is)
    (case a2 => k_is)
    (case l2 => k_is)
    (case c2 => k_is)
    (case k2 => k_is)
    (case a3 => k_is)
    (case l3 => k_is)
    (case c3 => k_is)
    (case k3 => k_is)
    (case a4 => k_is)
    (case l4 => k_is)
    (case c4 => k_is)
    (case k4 => k_is)
    (case a5 => k_is)
    (case l5 => k_is)
    (case c5 => k_is)
    (case k5 => k_is)
    (case z_len => k_is)
    (case z_min => k_is)
    (case z_max => k_is)
    (case z_list => k_is)
    (case z_tuple => k_is)
    (case z_sorted => k_is)
    (case z_range => k_is)
    (case z_isinstance => k_is)
    (case z_int => k_is)
    (case z_bool => k_is)
    (case z_str => k_is)
    (case z_dict => k_is)
    (case z_all => k_is)
    (case z_enumerate => k_is)
    (case z_sum => k_is)
    (case z_zip => k_is)
    (case z_abs => k_is)
    (case z_reversed => k_is)
end
