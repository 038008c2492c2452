import PyProof.Rows.All
import Wide.All
import OpenK.AllK
import Wide.FinOn
import Lean
import PyProof.EqAt
import PyProof.EqKinds
import PyProof.TupleCall
import KE.KDictOf
import PyProof.AttrMissHeap
import KE.KRevIter
import PySem.Challenge.RW_errands_k06_whole_asked
set_option Elab.async false
set_option linter.all false
set_option maxRecDepth 100000
set_option maxHeartbeats 0
section
namespace L2
open PySem PySem.Spec PyProof.Rows
abbrev Key:=Sum Int Str
def w5k:Key->Value->Bool
 | .inl k,v=>Value.isInt k v
 | .inr x,v=>Value.isStrOf x v
def y1q (w:World):Key->Int
 | .inl k=>hashInt k
 | .inr x=>hashStr w x
theorem q17:∀ {k:Key}{v:Value},w5k k v=true->(∃ i t,k=Sum.inl i/\v=Value.int i t)\/(∃ x t,k=Sum.inr x/\v=Value.str x t)
 | .inl i,v,h=>by
  obtain ⟨t,e⟩:=Value.isInt_shape (k:=i) (v:=v) h
  exact .inl ⟨i,t,rfl,e⟩
 | .inr x,v,h=>by
  obtain ⟨t,e⟩:=Value.isStrOf_shape (x:=x) (v:=v) h
  exact .inr ⟨x,t,rfl,e⟩
theorem x0K (i:Int) (t:Tok):w5k (.inl i) (.int i t)=true:=by simp [w5k,Value.isInt]
theorem x0L (x:Str) (t:Tok):w5k (.inr x) (.str x t)=true:=by simp [w5k,Value.isStrOf]
theorem x7v (a b:Int):decide ((Sum.inl a:Key)=Sum.inl b)=(a == b):=by
 by_cases e:a=b
 ·subst e;simp
 ·have h:¬ (Sum.inl a:Key)=Sum.inl b:=fun q=>e (Sum.inl.inj q)
  rw [decide_eq_false h]
  exact (beq_eq_false_iff_ne.mpr e).symm
theorem x7w (a b:Str):decide ((Sum.inr a:Key)=Sum.inr b)=decide (a=b):=by
 by_cases e:a=b
 ·subst e;simp
 ·have h:¬ (Sum.inr a:Key)=Sum.inr b:=fun q=>e (Sum.inr.inj q)
  rw [decide_eq_false h,decide_eq_false e]
theorem x7x (a:Int) (b:Str):decide ((Sum.inl a:Key)=Sum.inr b)=false:=decide_eq_false (fun q=>nomatch q)
theorem x7y (a:Str) (b:Int):decide ((Sum.inr a:Key)=Sum.inl b)=false:=decide_eq_false (fun q=>nomatch q)
def q0T (prog:Program) (w:World):PySem.KeyKind prog w Key where
 is:=w5k
 hash:=y1q w
 inj:=fun v a b ha hb=>by
  rcases q17 ha with ⟨i,t,rfl,rfl⟩ | ⟨x,t,rfl,rfl⟩
  ·rcases q17 hb with ⟨j,u,rfl,e⟩ | ⟨y,u,rfl,e⟩
   ·injection e with e1 _;rw [e1]
   ·exact nomatch e
  ·rcases q17 hb with ⟨j,u,rfl,e⟩ | ⟨y,u,rfl,e⟩
   ·exact nomatch e
   ·injection e with e1 _;rw [e1]
 byValue:=fun k v h=>by
  rcases q17 h with ⟨i,t,rfl,rfl⟩ | ⟨x,t,rfl,rfl⟩<;>rfl
 pyHash:=fun hv h=>by
  rcases q17 hv with ⟨i,t,rfl,rfl⟩ | ⟨x,t,rfl,rfl⟩
  ·exact wpAny_pyHash_int h
  ·exact wpAny_pyHash_str h
 eqBool:=fun hu hv h=>by
  rcases q17 hu with ⟨i,t,rfl,rfl⟩ | ⟨x,t,rfl,rfl⟩
  ·rcases q17 hv with ⟨j,u,rfl,rfl⟩ | ⟨y,u,rfl,rfl⟩
   ·rw [x7v] at h;exact wpAny_eqBool_int h
   ·rw [x7x] at h;exact SeqAt.EqAt.int_str i t y u _ _ _ _ h
  ·rcases q17 hv with ⟨j,u,rfl,rfl⟩ | ⟨y,u,rfl,rfl⟩
   ·rw [x7y] at h;exact SeqAt.EqAt.str_int x t j u _ _ _ _ h
   ·rw [x7w] at h;exact wpAny_eqBool_str h
 «strs»:=fun k x t v h=>by
  rcases q17 h with ⟨i,u,rfl,e⟩ | ⟨y,u,rfl,e⟩
  ·exact nomatch e
  ·injection e with e1 _
   subst e1
   cases v<;>rfl
theorem w5l (prog:Program) (w:World) (i:Int) (t:Tok):(q0T prog w).is (.inl i) (.int i t)=true:=x0K i t
theorem w5m (prog:Program) (w:World) (x:Str) (t:Tok):(q0T prog w).is (.inr x) (.str x t)=true:=x0L x t
end L2
namespace L2
open PySem PySem.Spec PyProof.Rows
inductive V where
 | non | bl (b:Bool) | int (i:Int) | str (x:Str) | byt (b:Array UInt8) | flt (b:UInt64) | ref (a:Addr) | ty (n:String)
 deriving DecidableEq
def q1Z:V->Value->Prop
 | .non,u=>u=Value.none
 | .bl b,u=>u=Value.bool b
 | .int i,u=>∃ t,u=Value.int i t
 | .str x,u=>∃ t,u=Value.str x t
 | .byt b,u=>∃ t,u=Value.bytes b t
 | .flt b,u=>∃ t,u=Value.float b t
 | .ref a,u=>u=Value.ref a
 | .ty n,u=>u=Value.type n
abbrev q28:List V->List Value->Prop:=Paired q1Z
theorem q28.length {xs:List V}{us:List Value} (r:q28 xs us):xs.length=us.length:=Paired.length r
theorem q28.get {xs:List V}{us:List Value} (h:q28 xs us):∀ {i:Nat}{x:V},xs[i]?=some x->∃ u,us[i]?=some u/\q1Z x u:=by
 induction h with
 | nil=>intro i x e;cases e
 | cons r t ih =>
  intro i x e
  cases i with
  | zero=>cases e;exact ⟨_,rfl,r⟩
  | succ i=>have q:=ih (i:=i) e;exact q
theorem q28.append {xs ys:List V}{us ws:List Value} (h:q28 xs us) (s:q28 ys ws):q28 (xs++ys) (us++ws):=by
 induction h with
 | nil=>exact s
 | cons r t ih=>exact .cons r ih
theorem q28.take:∀ {xs:List V}{us:List Value} (n:Nat),q28 xs us->q28 (xs.take n) (us.take n)
 | _,_,0,_=>.nil
 | _,_,_ + 1,.nil=>.nil
 | _,_,n + 1,.cons r t=>.cons r (q28.take n t)
theorem q28.drop:∀ {xs:List V}{us:List Value} (n:Nat),q28 xs us->q28 (xs.drop n) (us.drop n)
 | _,_,0,r=>r
 | _,_,_ + 1,.nil=>.nil
 | _,_,n + 1,.cons _ t=>q28.drop n t
def x0M:Option V->Option Value->Prop
 | some v,some u=>q1Z v u
 | none,none=>True
 | _,_=>False
def KV {κ:Type}:List (κ×V)->List (κ×Value)->Prop:=Paired fun (p:κ×V) (q:κ×Value)=>p.1=q.1/\q1Z p.2 q.2
def kV:Key->V
 | .inl i=>.int i
 | .inr x=>.str x
inductive HO where
 /-- a list -/
 | lst (xs:List V)
 /-- a tuple (never changes) -/
 | tup (xs:List V)
 /-- a dict whose keys are ints and texts;one whose keys are tuples of ints and texts (the empty one is both) -/
 | dK (kvs:List (Key×V)) | dT (kvs:List (List Key×V))
 /-- a set of ints: its members,its size -/
 | set (S:Int->Bool) (n:Nat)
 /-- an instance of the class at C,its dict at dx,its attributes -/
 | ins (C dx:Addr) (fs:List (Str×V))
 /-- the dict of the instance at x -/
 | own (x:Addr)
 /-- the dict of an exception -/
 | xd (fs:List (Str×V))
 /-- a bound method,f of x -/
 | met (f x:Addr)
 /-- a range object lo,lo + 1,.. below hi -/
 | rng (lo hi:Int)
 /-- a thing that is known to the object (the script;a dict while a loop walks it): read,never written while it is so -/
 | frz (o:Obj) (u:HO)
 /-- a code object's table -/
 | tbl (ps:Array Value)
 /-- any other thing,by what is true of its one object (a def of one's own: SetO a S n:=HO.ext fun h=>..) -/
 | ext (φ:Heap->Prop)
abbrev Hp:=Addr->Option HO
def upd (H:Hp) (a:Addr) (o:HO):Hp:=fun b=>if b=a then some o else H b
theorem q0g {H:Hp}{a:Addr}{o:HO}:upd H a o a=some o:=by unfold upd;rw [if_pos rfl]
theorem q0j {H:Hp}{a b:Addr}{o:HO} (h:b≠a):upd H a o b=H b:=by unfold upd;rw [if_neg h]
theorem x9K {H:Hp}{a b:Addr}{o u:HO} (h:H a=some o) (h':H b=some u) (d:o≠u):a≠b:=by
 intro e;subst e;rw [h] at h';exact d (Option.some.inj h')
theorem q0o {H:Hp}{a b:Addr}{o:HO} (h:H a=some o) (h':H b=none):a≠b:=by
 intro e;subst e;rw [h] at h';cases h'
section
variable (P:Program) (w:World)
def q1d (H:Hp) (h:Heap) (a:Addr):HO->Prop
 | .lst xs=>xs.length<=sizeLine/\∃ (its:List Value) (n:Nat),q28 xs its/\h.get? a=some { cls:=.type "list",data:=.seq its.toArray n }
 | .tup xs=>xs.length<=sizeLine/\∃ its:List Value,q28 xs its/\IsTup h a its.toArray
 | .dK kvs=>kvs.length<=sizeLine/\(a == sysModules)=false/\∃ vs,KV kvs vs/\h.DictOf (q0T P w) a vs
 | .dT kvs=>kvs.length<=sizeLine/\(a == sysModules)=false/\∃ xs:List (List Key×Addr×Value),
   Paired (fun (p:List Key×V) (q:List Key×Addr×Value)=>p.1=q.1/\H q.2.1=some (.tup (p.1.map kV))/\q1Z p.2 q.2.2) kvs xs /\
   ∃ o es ep,h.get? a=some o/\o.ExactDict/\o.data=.dict es ep/\es.toList=xs.map (entryOfKey (tupleKind (q0T P w)))/\(xs.map (·.1)).Nodup
 | .set S n=>h.SetOf (intKind P w) a S n
 | .ins C dx fs=>H dx=some (.own a)/\fs.length<=1000/\dx≠a/\h.get? a=some (PySem.W.instObj C dx) /\
   ∃ mA,h.Ns1 dx mA/\(∀ f,x0M (fs.lookup f) (mA f))/\PySem.Within mA (fs.map (·.1))
 | .own _=>∃ o,h.get? a=some o
 | .xd fs=>∃ mA,h.Ns1 a mA/\∀ f,x0M (fs.lookup f) (mA f)
 | .rng lo hi=>∃ t u v,h.get? a=some { cls:=.type "range",data:=.fields #[.int lo t,.int hi u,.int 1 v] }
 | .frz o u=>h.get? a=some o/\q1d H h a u
 | .tbl ps=>h.get? a=some { cls:=.none,data:=.fields ps }
 | .met f x=>h.get? a=some (PySem.W.methodObj (.ref f) (.ref x))
 | .ext φ=>φ h/\(∃ o,h.get? a=some o)/\∀ h1 h2:Heap,φ h1->(∀ o,h1.get? a=some o->h2.get? a=some o)->φ h2
def HOk (H:Hp) (h:Heap):Prop:=∀ a o,H a=some o->q1d P w H h a o
end
section
variable {P:Program}{w:World}{H H':Hp}{h h':Heap}{a:Addr}{o:HO}
theorem q1d.lt (x:q1d P w H h a o):a<h.objs.size:=by
 cases o with
 | lst xs=>obtain ⟨_,_,_,_,e⟩:=x;exact Heap.lt_size e
 | tup xs=>obtain ⟨_,_,_,p⟩:=x;exact p.lt
 | dK kvs=>obtain ⟨_,_,_,_,o,_,_,e,_⟩:=x;exact Heap.lt_size e
 | dT kvs=>obtain ⟨_,_,_,_,o,_,_,e,_⟩:=x;exact Heap.lt_size e
 | set S n=>obtain ⟨o,_,_,_,e,_⟩:=x;exact Heap.lt_size e
 | ins C dx fs=>obtain ⟨_,_,_,e,_⟩:=x;exact Heap.lt_size e
 | own y=>obtain ⟨_,e⟩:=x;exact Heap.lt_size e
 | xd fs=>obtain ⟨_,⟨_,_,_,e,_⟩,_⟩:=x;exact Heap.lt_size e
 | rng lo hi=>obtain ⟨_,_,_,e⟩:=x;exact Heap.lt_size e
 | frz ob u=>obtain ⟨e,_⟩:=x;exact Heap.lt_size e
 | tbl ps=>exact Heap.lt_size (show h.get? a=some _ from x)
 | met f y=>exact Heap.lt_size (show h.get? a=some _ from x)
 | ext φ=>obtain ⟨_,⟨_,e⟩,_⟩:=x;exact Heap.lt_size e
theorem Paired.mapP {α β:Type}{F G:α->β->Prop}{l₁:List α}{l₂:List β} (h:Paired F l₁ l₂) (f:∀ a b,F a b->G a b):Paired G l₁ l₂:=by
 induction h with
 | nil=>exact .nil
 | cons r t ih=>exact .cons (f _ _ r) ih
theorem q1d.stay (x:q1d P w H h a o) (k:∀ b u,(b=a\/H b=some (.own a))->h.get? b=some u->h'.get? b=some u)
  (ho:∀ b,H b=some (.own a)->H' b=some (.own a)) (ht:∀ b xs,H b=some (.tup xs)->H' b=some (.tup xs)):q1d P w H' h' a o:=by
 induction o with
 | lst xs=>obtain ⟨z,its,n,r,e⟩:=x;exact ⟨z,its,n,r,k _ _ (.inl rfl) e⟩
 | tup xs=>obtain ⟨z,its,r,ob,e,c⟩:=x;exact ⟨z,its,r,ob,k _ _ (.inl rfl) e,c⟩
 | dK kvs=>obtain ⟨z,y,vs,r,ob,es,ep,e,c⟩:=x;exact ⟨z,y,vs,r,ob,es,ep,k _ _ (.inl rfl) e,c⟩
 | dT kvs =>
  obtain ⟨z,y,xs,r,ob,es,ep,e,c⟩:=x
  exact ⟨z,y,xs,Paired.mapP r fun p q z=>⟨z.1,ht _ _ z.2.1,z.2.2⟩,ob,es,ep,k _ _ (.inl rfl) e,c⟩
 | set S n=>obtain ⟨ob,es,ep,t,e,c⟩:=x;exact ⟨ob,es,ep,t,k _ _ (.inl rfl) e,c⟩
 | ins C dx fs =>
  obtain ⟨d,z,ne,e,mA,⟨od,es,ep,e2,c⟩,r⟩:=x
  exact ⟨ho _ d,z,ne,k _ _ (.inl rfl) e,mA,⟨od,es,ep,k _ _ (.inr d) e2,c⟩,r⟩
 | own y=>obtain ⟨ob,e⟩:=x;exact ⟨ob,k _ _ (.inl rfl) e⟩
 | xd fs=>obtain ⟨mA,⟨od,es,ep,e,c⟩,r⟩:=x;exact ⟨mA,⟨od,es,ep,k _ _ (.inl rfl) e,c⟩,r⟩
 | rng lo hi=>obtain ⟨t,u,v,e⟩:=x;exact ⟨t,u,v,k _ _ (.inl rfl) e⟩
 | frz ob u ih=>obtain ⟨e,q⟩:=x;exact ⟨k _ _ (.inl rfl) e,ih q⟩
 | tbl ps =>
  have e:h.get? a=some { cls:=.none,data:=.fields ps }:=x
  show h'.get? a=some { cls:=.none,data:=.fields ps }
  exact k a _ (.inl rfl) e
 | met f y =>
  have e:h.get? a=some (PySem.W.methodObj (.ref f) (.ref y)):=x
  show h'.get? a=some (PySem.W.methodObj (.ref f) (.ref y))
  exact k a _ (.inl rfl) e
 | ext φ=>obtain ⟨p,⟨o,e⟩,st⟩:=x;exact ⟨st _ _ p fun o q=>k _ _ (.inl rfl) q,⟨o,k _ _ (.inl rfl) e⟩,st⟩
theorem HOk.lt (x:HOk P w H h) (e:H a=some o):a<h.objs.size:=(x a o e).lt
theorem HOk.fresh (x:HOk P w H h) (e:h.objs.size<=a):H a=none:=by
 cases q:H a with
 | none=>rfl
 | some u=>exact absurd (Nat.lt_of_lt_of_le (x.lt q) e) (Nat.lt_irrefl _)
theorem HOk.kept (x:HOk P w H h) (k:∀ b u,h.get? b=some u->h'.get? b=some u):HOk P w H h':=fun a o e =>
 (x a o e).stay (fun b u _ q=>k b u q) (fun _ q=>q) fun _ _ q=>q
theorem HOk.laid (x:HOk P w H h) (k:∀ b u,h.get? b=some u->h'.get? b=some u) (hp:h.objs.size<=a) (new:q1d P w (upd H a o) h' a o):HOk P w (upd H a o) h':=fun b u e=>by
 have hn:=x.fresh hp
 by_cases hb:b=a
 ·subst hb;rw [q0g] at e;cases e;exact new
 ·rw [q0j hb] at e
  exact (x b u e).stay (fun c v _ q=>k c v q) (fun c q=>by rw [q0j (q0o q hn)];exact q) fun c xs q=>by rw [q0j (q0o q hn)];exact q
end
def Rd (H:Hp) (a:Addr) (u:HO):Prop:=H a=some u\/∃ o,H a=some (.frz o u)
theorem Rd.ok {P:Program}{w:World}{H:Hp}{h:Heap}{a:Addr}{u:HO} (r:Rd H a u) (x:HOk P w H h):q1d P w H h a u:=by
 rcases r with r | ⟨o,r⟩
 ·exact x a u r
 ·obtain ⟨_,q⟩:=x a _ r
  exact q
def Mut:Option HO->Prop
 | some (.lst _)=>True
 | some (.dK _)=>True
 | some (.dT _)=>True
 | some (.set _ _)=>True
 | some (.ins _ _ _)=>True
 | some (.ext _)=>True
 | _=>False
section
variable {P:Program}{w:World}{H:Hp}{h h':Heap}{x e:Addr}{o':HO}
theorem HOk.write (ok:HOk P w H h) (mu:Mut (H x)) (he:e=x\/H e=some (.own x)) (k:∀ b u,b≠e->h.get? b=some u->h'.get? b=some u) (heo:∃ u,h'.get? e=some u)
  (new:q1d P w (upd H x o') h' x o'):HOk P w (upd H x o') h':=fun b u q=>by
 have nown:∀ c y,H c=some (.own y)->c≠x:=fun c y r z=>by subst z;rw [r] at mu;exact mu
 have ntup:∀ c xs,H c=some (.tup xs)->c≠x:=fun c xs r z=>by subst z;rw [r] at mu;exact mu
 by_cases hb:b=x
 ·subst hb;rw [q0g] at q;cases q;exact new
 ·rw [q0j hb] at q
  by_cases hbe:b=e
  ·have q':H b=some (.own x):=by
    rcases he with z | z
    ·exact absurd (hbe.trans z) hb
    ·rw [hbe];exact z
   rw [q] at q';cases q'
   obtain ⟨v,hv⟩:=heo
   exact ⟨v,by rw [hbe];exact hv⟩
  ·refine (ok b u q).stay (fun c v hc r=>k c v ?_ r) (fun c r=>by rw [q0j (nown c b r)];exact r) fun c xs r=>by rw [q0j (ntup c xs r)];exact r
   rcases hc with rfl | hc
   ·exact hbe
   ·rintro rfl
    rcases he with z | z
    ·exact nown c b hc z
    ·rw [hc] at z;cases z;exact hb rfl
end
structure Un (fs ex:List Addr) (H H':Hp) (h h':Heap):Prop where
 keep:∀ b o,h.get? b=some o->H b=none->b∉fs->b∉ex->h'.get? b=some o
 slot:∀ b o,h.get? b=some o->H b=none->b∈fs->b∉ex->∃ sl,h'.get? b=some { o with slots:=sl }
 free:∀ b o,h.get? b=some o->H b=none->b∉ex->H' b=none
 there:∀ b o,h.get? b=some o->b∉ex->∃ o',h'.get? b=some o'
 tups:∀ b xs,H b=some (.tup xs)->H' b=some (.tup xs)
 frzs:∀ b o u,H b=some (.frz o u)->H' b=some (.frz o u)
 tbls:∀ b ps,H b=some (.tbl ps)->∃ more,H' b=some (.tbl (ps++more))
section
variable {fs fs' ex ex':List Addr}{H H1 H2:Hp}{h h1 h2 h':Heap}{a x e:Addr}{o:HO}
theorem Un.any (u:Un fs ex H H1 h h1) {b:Addr}{ob:Obj} (q:h.get? b=some ob) (n:H b=none) (hx:b∉ex):∃ sl,h1.get? b=some { ob with slots:=sl }:=by
 by_cases hb:b∈fs
 ·exact u.slot b ob q n hb hx
 ·exact ⟨ob.slots,u.keep b ob q n hb hx⟩
theorem Un.kept (k:∀ b u,h.get? b=some u->h'.get? b=some u):Un fs ex H H h h' :=
 ⟨fun b ob q _ _ _=>k b ob q,fun b ob q _ _ _=>⟨ob.slots,k b ob q⟩,fun _ _ _ n _=>n,fun b ob q _=>⟨ob,k b ob q⟩,fun _ _ q=>q,fun _ _ _ q=>q,fun _ ps q=>⟨#[],by rw [q];simp⟩⟩
theorem Un.refl:Un fs ex H H h h:=Un.kept fun _ _ q=>q
theorem Un.laid (k:∀ b u,h.get? b=some u->h'.get? b=some u) (hp:h.objs.size<=a) (hn:H a=none):Un fs ex H (upd H a o) h h' where
 keep:=fun b u q _ _ _=>k b u q
 slot:=fun b u q _ _ _=>⟨u.slots,k b u q⟩
 free:=fun b u q n _=>by rw [q0j (Nat.ne_of_lt (Nat.lt_of_lt_of_le (Heap.lt_size q) hp))];exact n
 there:=fun b u q _=>⟨u,k b u q⟩
 tups:=fun b xs q=>by rw [q0j (q0o q hn)];exact q
 frzs:=fun b u xs q=>by rw [q0j (q0o q hn)];exact q
 tbls:=fun b ps q=>⟨#[],by rw [q0j (q0o q hn),q];simp⟩
theorem Un.write (mu:Mut (H x)) (he:e=x\/H e=some (.own x)) (k:∀ b u,b≠e->h.get? b=some u->h'.get? b=some u) (heo:∃ u,h'.get? e=some u):Un fs ex H (upd H x o) h h':=by
 have hx:∀ b,H b=none->b≠x:=fun b n z=>by subst z;rw [n] at mu;exact mu
 have hb:∀ b,H b=none->b≠e:=fun b n z=>by
  subst z
  rcases he with r | r
  ·exact hx b n r
  ·rw [n] at r;cases r
 have hm:∀ b u,H b=some u->¬ Mut (some u)->b≠x:=fun b u q nm z=>by subst z;rw [q] at mu;exact nm mu
 refine ⟨fun b u q n _ _=>k b u (hb b n) q,fun b u q n _ _=>⟨u.slots,k b u (hb b n) q⟩,fun b u q n _=>by rw [q0j (hx b n)];exact n,fun b u q _=>?_,
  fun b xs q=>by rw [q0j (hm b _ q fun z=>z)];exact q,fun b u xs q=>by rw [q0j (hm b _ q fun z=>z)];exact q,fun b ps q=>⟨#[],by rw [q0j (hm b _ q fun z=>z),q];simp⟩⟩
 by_cases hbe:b=e
 ·subst hbe;exact heo
 ·exact ⟨u,k b u hbe q⟩
end
def trk (h:Heap) (H:Hp):List Addr:=(List.range h.objs.size).filter fun a=>(H a).isSome
def x3i (h:Heap) (H:Hp):Heap:=PySem.W.hideAll h (trk h H)
theorem x0N (h:Heap) (H:Hp):(x3i h H).objs.size=h.objs.size:=PySem.W.hideAll_size _ _
theorem x3j {h:Heap}{H:Hp}{b:Addr}{o:Obj} (e:h.get? b=some o) (n:H b=none):(x3i h H).get? b=some o :=
 PySem.W.hideAll_get _ e fun hm=>by
  have q:(H b).isSome=true:=(List.mem_filter.mp hm).2
  rw [n] at q;simp at q
theorem x5Z {h:Heap}{H:Hp}{b:Addr}{o:Obj} (e:(x3i h H).get? b=some o):h.get? b=some o/\H b=none:=by
 have e':h.get? b=some o:=PySem.W.of_hideAll (trk h H) e
 refine ⟨e',?_⟩
 cases q:H b with
 | none=>rfl
 | some x =>
  have hm:b∈trk h H:=List.mem_filter.mpr ⟨List.mem_range.mpr (Heap.lt_size e'),by simp [q]⟩
  have z:(x3i h H).get? b=none:=PySem.W.hideAll_none (trk h H) hm
  rw [z] at e;cases e
def x60 (g h:Heap) (L:Addr):List (Addr×Obj):=(List.range h.objs.size).filterMap fun a=>if a=L\/(g.get? a).isSome=true then none else (h.get? a).map fun o=>(a,o)
def q0I (g h:Heap) (L d:Addr):List (Addr×Obj):=(x60 g h L).filter fun p=>decide (p.1≠d)
end L2
namespace L2
open PySem PySem.Spec PyProof.Rows
structure Mod (K:PySem.W.Frag) (mg:Str->Option Value) (base:Heap):Prop where
 kin:K.In base
 glob:base.Ns mainGlobals mg
 blt:∃ mb,base.Ns builtinsNs mb/\∀ x:Str,x≠"__name__"->mb x=bootBuiltins x
 nolimit:base.NoLimit
/-- the context: a def's body (or a comprehension's block) running. base: fixed through the whole law;s₀,H₀: the entry;outer: the frames whose slots others may change (a def's callers);stack: all frames that run;
  ex: iterators that were made ahead of the entry and are walked here (a comprehension's);fn: the names whose cells were made at the entry (a def: all;a comprehension's block: its own);calm: not within an except suite;pn: pins that every state bears;xe: what is wanted of an exception that leaves the code -/
structure Cx where
 prog:Program
 w:World
 K:PySem.W.Frag
 mg:Str->Option Value
 base:Heap
 A:Around
 N:List Str
 s₀:Shared
 H₀:Hp
 env:Env
 outer:List Env
 stack:List Env
 ex:List Addr
 fn:Str->Bool
 calm:Bool
 pn:List (Addr×Obj)
 xe:Value->Shared->Prop
def frs (l:List Env):List Addr:=l.filterMap (·.frame)
abbrev Cx.fs (X:Cx):List Addr:=frs X.outer
def Vis (sc:Scope) (x:Str):Prop:=sc.names.lookup x=some .local\/sc.names.lookup x=some .cell\/sc.names.lookup x=some .free
def Loc (sc:Scope) (x:Str):Prop:=sc.names.lookup x=some .local\/sc.names.lookup x=some .cell
def y1r (env:Env) (h:Heap) (m:Str->Option Value) (x:Str) (u:Value):Prop :=
 (env.kindOf x=some .local/\m x=some u)\/((env.kindOf x=some .cell\/env.kindOf x=some .free)/\∃ c,env.cells.lookup x=some c/\h.IsCell c (some u))
structure Cx.Ok (X:Cx):Prop where
 mod:Mod X.K X.mg X.base
 kind:X.env.scope.kind=.function
 glob:X.env.globals=mainGlobals
 blt:X.env.builtins=builtinsNs
 above:X.s₀.heap.objs.size<=X.env.locals
 inj:∀ x y c,X.env.cells.lookup x=some c->X.env.cells.lookup y=some c->x=y
 has:∀ x,(X.env.kindOf x=some .cell\/X.env.kindOf x=some .free)->∃ c,X.env.cells.lookup x=some c
 cab:∀ x c,X.fn x=true->X.env.cells.lookup x=some c->X.s₀.heap.objs.size<=c
 hd:X.calm=true->X.A.handled=none
 frames:X.A.frames=some X.stack
 stk:X.stack=X.outer\/(X.stack=X.env::X.outer/\X.env.frame=some X.env.locals)
 exf:∀ b∈X.ex,b≠X.env.locals/\∀ x c,X.env.cells.lookup x=some c->c≠b
 bs:∀ b o,X.base.get? b=some o->X.s₀.heap.get? b=some o/\X.H₀ b=none
 bsz:X.base.objs.size<=X.s₀.heap.objs.size
 noex:∀ b o,X.base.get? b=some o->b∉X.ex
 exfs:∀ b∈X.ex,b∉X.fs
 funs:X.s₀.heap.FunFrames X.base X.outer
 frf:∀ b∈X.fs,X.H₀ b=none
structure Inv (X:Cx) (pins:List (Addr×Obj)) (σ:List (Option V)) (H:Hp) (s:Shared):Prop where
 ok:X.Ok
 os:s.os=X.s₀.os
 bare:AllBare s.gens
 base:Un X.fs X.ex X.H₀ H X.s₀.heap s.heap
 loc:∃ m,s.heap.Ns X.env.locals m/\∀ (i:Nat) (x:Str) (v:V),X.N[i]?=some x->σ[i]?=some (some v)->Vis X.env.scope x->∃ u,q1Z v u/\y1r X.env s.heap m x u
 cell:∀ x c,X.env.cells.lookup x=some c->∃ v,s.heap.IsCell c v
 free:H X.env.locals=none
 freeC:∀ x c,X.env.cells.lookup x=some c->H c=none
 pin:∀ p∈X.pn++pins,s.heap.get? p.1=some p.2/\H p.1=none/\p.1≠X.env.locals/\p.1∉X.fs/\∀ v,p.2.data≠.cell v
 hok:HOk X.prog X.w H s.heap
 len:σ.length=X.N.length
section
variable {X:Cx}{pins:List (Addr×Obj)}{σ:List (Option V)}{H H':Hp}{s:Shared}{h':Heap}
theorem Cx.Ok.nofr (ok:X.Ok) {b:Addr}{o:Obj} (e:X.base.get? b=some o):b∉X.fs:=fun hb=>by
 have:=(ok.funs.mem hb).1
 rw [e] at this;cases this
theorem Inv.bs (I:Inv X pins σ H s):∀ b o,X.base.get? b=some o->s.heap.get? b=some o/\H b=none:=fun b o e =>
 ⟨I.base.keep b o (I.ok.bs b o e).1 (I.ok.bs b o e).2 (I.ok.nofr e) (I.ok.noex b o e),I.base.free b o (I.ok.bs b o e).1 (I.ok.bs b o e).2 (I.ok.noex b o e)⟩
theorem Inv.bk (I:Inv X pins σ H s):∀ b o,X.base.get? b=some o->s.heap.get? b=some o:=fun b o e=>(I.bs b o e).1
theorem Inv.mod (I:Inv X pins σ H s):Mod X.K X.mg X.base:=I.ok.mod
theorem Inv.kIn (I:Inv X pins σ H s):X.K.In s.heap:=I.ok.mod.kin.keeps I.bk
theorem Inv.fr (I:Inv X pins σ H s):∃ m,Fr X.base X.env.locals s.heap m :=
 let ⟨m,hn,_⟩:=I.loc
 ⟨m,hn,I.bk,Nat.le_trans I.ok.bsz I.ok.above⟩
theorem Inv.lt (I:Inv X pins σ H s):X.env.locals<s.heap.objs.size:=let ⟨_,hn,_⟩:=I.loc;hn.lt
theorem Inv.sz (I:Inv X pins σ H s):X.s₀.heap.objs.size<=s.heap.objs.size:=Nat.le_trans I.ok.above (Nat.le_of_lt I.lt)
theorem Inv.nofs (I:Inv X pins σ H s) {a:Addr} (h:s.heap.objs.size<=a):a∉X.fs:=fun hb=>by
 obtain ⟨_,o,ho,_⟩:=I.ok.funs.mem hb
 exact absurd (Nat.lt_of_lt_of_le (Heap.lt_size ho) (Nat.le_trans I.sz h)) (Nat.lt_irrefl _)
theorem Inv.cne (I:Inv X pins σ H s):∀ x c,X.env.cells.lookup x=some c->c≠X.env.locals:=fun x c e z=>by
 obtain ⟨v,o,ho,hd⟩:=I.cell x c e
 obtain ⟨m,⟨o',es,ep,ho',hd',_⟩,_⟩:=I.loc
 rw [z,ho'] at ho;cases ho;rw [hd'] at hd;cases hd
theorem Inv.funs (I:Inv X pins σ H s):s.heap.FunFrames X.base X.outer:=by
 have all:∀ (l:List Env),(∀ b∈frs l,b∈X.fs)->X.s₀.heap.FunFrames X.base l->s.heap.FunFrames X.base l:=by
  intro l
  induction l with
  | nil=>intro _ _;trivial
  | cons env r ih =>
   intro hs hl
   obtain ⟨hk,⟨L,o,hf,hn,ho,hd⟩,hr⟩:=hl
   have hL:L∈X.fs:=hs L (by unfold frs;rw [List.filterMap_cons,hf];exact List.mem_cons_self)
   obtain ⟨sl,e⟩:=I.base.slot L o ho (I.ok.frf L hL) hL fun z=>I.ok.exfs L z hL
   exact ⟨hk,⟨L,_,hf,hn,e,hd⟩,ih (fun b hb=>hs b (by unfold frs;rw [List.filterMap_cons,hf];exact List.mem_cons_of_mem _ hb)) hr⟩
 exact all X.outer (fun _ hb=>hb) I.ok.funs
theorem Inv.stack (I:Inv X pins σ H s):s.heap.FunFrames X.base X.stack:=by
 rcases I.ok.stk with e | ⟨e,hf⟩
 ·rw [e];exact I.funs
 ·rw [e]
  obtain ⟨m,hn,_⟩:=I.loc
  refine .cons (by rw [I.ok.kind];decide) hf hn ?_ I.funs
  exact Heap.get?_none_of_le (Nat.le_trans I.ok.bsz I.ok.above)
theorem Inv.stkSub (I:Inv X pins σ H s):∀ b∈frs X.stack,b∈X.env.locals::X.fs:=fun b hb=>by
 rcases I.ok.stk with e | ⟨e,hf⟩
 ·rw [e] at hb;exact List.mem_cons_of_mem _ hb
 ·rw [e] at hb
  unfold frs at hb
  rw [List.filterMap_cons,hf] at hb
  exact hb
theorem Inv.stkFree (I:Inv X pins σ H s):∀ b∈frs X.stack,H b=none:=fun b hb=>by
 rcases List.mem_cons.mp (I.stkSub b hb) with e | hb
 ·rw [e];exact I.free
 ·obtain ⟨_,o,ho,_⟩:=I.ok.funs.mem hb
  exact I.base.free b o ho (I.ok.frf b hb) fun z=>I.ok.exfs b z hb
theorem Inv.step {g':Array GenState}{t':Nat}{d':Drawn}{ch:List Addr} (I:Inv X pins σ H s)
  (hch:∀ b∈ch,(b∈X.ex\/X.s₀.heap.objs.size<=b)/\b≠X.env.locals/\(∀ x c,X.env.cells.lookup x=some c->c≠b)/\∀ p∈X.pn++pins,p.1≠b)
  (keep:∀ b o,b≠X.env.locals->b∉X.fs->b∉ch->s.heap.get? b=some o->H b=none->h'.get? b=some o)
  (slot:∀ b o,b≠X.env.locals->b∈X.fs->b∉ch->s.heap.get? b=some o->H b=none->∃ sl,h'.get? b=some { o with slots:=sl }) (free:∀ b o,b∉ch->s.heap.get? b=some o->H b=none->H' b=none)
  (there:∀ b o,b∉ch->s.heap.get? b=some o->∃ o',h'.get? b=some o')
  (tups:∀ b xs,H b=some (.tup xs)->H' b=some (.tup xs)) (frzs:∀ b o u,H b=some (.frz o u)->H' b=some (.frz o u)) (tbls:∀ b ps,H b=some (.tbl ps)->∃ more,H' b=some (.tbl (ps++more)))
  (ns:∀ m,s.heap.Ns X.env.locals m->h'.Ns X.env.locals m) (hok:HOk X.prog X.w H' h') (hg:AllBare g') :
  Inv X pins σ H' { s with heap:=h',gens:=g',drawn:=d',toks:=t' }:=by
 have neL:∀ b o,X.s₀.heap.get? b=some o->b≠X.env.locals:=fun b o e=>Nat.ne_of_lt (Nat.lt_of_lt_of_le (Heap.lt_size e) I.ok.above)
 have neC:∀ b o,X.s₀.heap.get? b=some o->b∉X.ex->b∉ch:=fun b o e hx hb=>by
  rcases (hch b hb).1 with z | z
  ·exact hx z
  ·exact absurd (Nat.lt_of_lt_of_le (Heap.lt_size e) z) (Nat.lt_irrefl _)
 have cellK:∀ x c,X.env.cells.lookup x=some c->∀ v,s.heap.IsCell c v->h'.IsCell c v:=fun x c e v h_0=>by
  obtain ⟨o,ho,hd⟩:=h_0
  have nch:c∉ch:=fun z=>(hch c z).2.2.1 x c e rfl
  by_cases hc:c∈X.fs
  ·obtain ⟨sl,q⟩:=slot c o (I.cne x c e) hc nch ho (I.freeC x c e)
   exact ⟨_,q,hd⟩
  ·exact ⟨o,keep c o (I.cne x c e) hc nch ho (I.freeC x c e),hd⟩
 refine ⟨I.ok,I.os,hg,⟨fun b o e n hb hx=>?_,fun b o e n hb hx=>?_,fun b o e n hx=>?_,fun b o e hx=>?_,fun b xs e=>tups b xs (I.base.tups b xs e),fun b o xs e=>frzs b o xs (I.base.frzs b o xs e),fun b ps e=>?_⟩,?_,fun x c e=>?_,?_,fun x c e=>?_,fun p hp=>?_,hok,I.len⟩
 ·exact keep b o (neL b o e) hb (neC b o e hx) (I.base.keep b o e n hb hx) (I.base.free b o e n hx)
 ·obtain ⟨sl,e1⟩:=I.base.slot b o e n hb hx
  obtain ⟨sl',e2⟩:=slot b _ (neL b o e) hb (neC b o e hx) e1 (I.base.free b o e n hx)
  exact ⟨sl',e2⟩
 ·obtain ⟨o',e1⟩:=I.base.there b o e hx
  exact free b o' (neC b o e hx) e1 (I.base.free b o e n hx)
 ·obtain ⟨o',e1⟩:=I.base.there b o e hx
  exact there b o' (neC b o e hx) e1
 ·obtain ⟨m1,e1⟩:=I.base.tbls b ps e
  obtain ⟨m2,e2⟩:=tbls b _ e1
  exact ⟨m1++m2,by rw [e2,Array.append_assoc]⟩
 ·obtain ⟨m,hn,hl⟩:=I.loc
  refine ⟨m,ns m hn,fun i x v e1 e2 e3=>?_⟩
  obtain ⟨u,r,l⟩:=hl i x v e1 e2 e3
  refine ⟨u,r,?_⟩
  rcases l with l | ⟨k,c,e,z⟩
  ·exact .inl l
  ·exact .inr ⟨k,c,e,cellK x c e _ z⟩
 ·obtain ⟨v,z⟩:=I.cell x c e
  exact ⟨v,cellK x c e v z⟩
 ·obtain ⟨m,⟨o,_,_,ho,_⟩,_⟩:=I.loc
  exact free _ o (fun z=>(hch _ z).2.1 rfl) ho I.free
 ·obtain ⟨v,o,ho,hd⟩:=I.cell x c e
  exact free c o (fun z=>(hch c z).2.2.1 x c e rfl) ho (I.freeC x c e)
 ·obtain ⟨e,n,ne,nf,d⟩:=I.pin p hp
  have nch:p.1∉ch:=fun z=>(hch p.1 z).2.2.2 p hp rfl
  exact ⟨keep p.1 p.2 ne nf nch e n,free p.1 p.2 nch e n,ne,nf,d⟩
theorem Inv.un {t':Nat} (I:Inv X pins σ H s) (u:Un X.fs [] H H' s.heap h') (hok:HOk X.prog X.w H' h'):Inv X pins σ H' { s with heap:=h',toks:=t' }:=by
 obtain ⟨m,⟨o,es,ep,ho,r⟩,_⟩:=id I.loc
 obtain ⟨sl,hL⟩:=u.any ho I.free (by simp)
 exact I.step (g':=s.gens) (d':=s.drawn) (ch:=[]) (fun _ z=>nomatch z) (fun b o _ hb _ e n=>u.keep b o e n hb (by simp)) (fun b o _ hb _ e n=>u.slot b o e n hb (by simp)) (fun b o _ e n=>u.free b o e n (by simp)) (fun b o _ e=>u.there b o e (by simp)) u.tups u.frzs u.tbls (fun m' hm=>by
  obtain ⟨o',es',ep',ho',r'⟩:=hm
  rw [ho] at ho';cases ho'
  exact ⟨_,es',ep',hL,r'⟩) hok I.bare
theorem Inv.call {g':Array GenState}{t':Nat}{d':Drawn}{ch:List Addr} (I:Inv X pins σ H s) (u:Un (frs X.stack) ch H H' s.heap h') (hok:HOk X.prog X.w H' h') (hg:AllBare g')
  (hch:∀ b∈ch,(b∈X.ex\/X.s₀.heap.objs.size<=b)/\b≠X.env.locals/\(∀ x c,X.env.cells.lookup x=some c->c≠b)/\∀ p∈X.pn++pins,p.1≠b) :
  Inv X pins σ H' { s with heap:=h',gens:=g',drawn:=d',toks:=t' }:=by
 obtain ⟨m,⟨o,es,ep,ho,r⟩,_⟩:=id I.loc
 obtain ⟨sl,hL⟩:=u.any ho I.free fun z=>(hch _ z).2.1 rfl
 exact I.step (ch:=ch) hch (fun b o hL hb hc e n=>u.keep b o e n (fun z=>(List.mem_cons.mp (I.stkSub b z)).elim hL hb) hc) (fun b o _ _ hc e n=>u.any e n hc) (fun b o hc e n=>u.free b o e n hc) (fun b o hc e=>u.there b o e hc) u.tups u.frzs u.tbls (fun m' hm=>by
  obtain ⟨o',es',ep',ho',r'⟩:=hm
  rw [ho] at ho';cases ho'
  exact ⟨_,es',ep',hL,r'⟩) hok hg
theorem Inv.turned {t':Nat}{it:Addr} (I:Inv X pins σ H s) (k:∀ b o,b≠it->s.heap.get? b=some o->h'.get? b=some o) (hn:H it=none) (hL:it≠X.env.locals)
  (h1:it∈X.ex\/X.s₀.heap.objs.size<=it) (h2:∀ x c,X.env.cells.lookup x=some c->c≠it) (h3:∀ p∈X.pn++pins,p.1≠it):Inv X pins σ H { s with heap:=h',toks:=t' }:=by
 have nit:∀ b u,H b=some u->b≠it:=fun b u e z=>by rw [z,hn] at e;cases e
 refine I.step (g':=s.gens) (d':=s.drawn) (ch:=[it]) (fun b hb=>?_) (fun b o _ _ hc e _=>k b o (fun z=>hc (by simp [z])) e) (fun b o _ _ hc e _=>⟨o.slots,k b o (fun z=>hc (by simp [z])) e⟩) (fun _ _ _ _ n=>n)
  (fun b o hc e=>⟨o,k b o (fun z=>hc (by simp [z])) e⟩) (fun _ _ e=>e) (fun _ _ _ e=>e) (fun b ps e=>⟨#[],by rw [e];simp⟩) (fun m hm=>?_) (fun b u e=>?_) I.bare
 ·have e:b=it:=by simpa using hb
  subst e
  exact ⟨h1,hL,h2,h3⟩
 ·obtain ⟨o,es,ep,ho,r⟩:=hm
  exact ⟨o,es,ep,k _ o (Ne.symm hL) ho,r⟩
 ·refine (I.hok b u e).stay (fun c v hc q=>k c v ?_ q) (fun _ q=>q) fun _ _ q=>q
  rcases hc with z | z
  ·rw [z];exact nit b u e
  ·exact nit c _ z
theorem Inv.tok (I:Inv X pins σ H s) (t:Nat):Inv X pins σ H { s with toks:=t }:=I.un (h':=s.heap) (t':=t) Un.refl I.hok
theorem Inv.kept {t':Nat} (I:Inv X pins σ H s) (k:∀ b u,s.heap.get? b=some u->h'.get? b=some u):Inv X pins σ H { s with heap:=h',toks:=t' }:=I.un (Un.kept k) (I.hok.kept k)
theorem Inv.laid {a:Addr}{o:HO}{t':Nat} (I:Inv X pins σ H s) (k:∀ b u,s.heap.get? b=some u->h'.get? b=some u) (hp:s.heap.objs.size<=a) (new:q1d X.prog X.w (upd H a o) h' a o) :
  Inv X pins σ (upd H a o) { s with heap:=h',toks:=t' }:=I.un (Un.laid k hp (I.hok.fresh hp)) (I.hok.laid k hp new)
theorem Inv.write {x e:Addr}{o:HO}{t':Nat} (I:Inv X pins σ H s) (mu:Mut (H x)) (he:e=x\/H e=some (.own x)) (k:∀ b u,b≠e->s.heap.get? b=some u->h'.get? b=some u) (heo:∃ u,h'.get? e=some u)
  (new:q1d X.prog X.w (upd H x o) h' x o):Inv X pins σ (upd H x o) { s with heap:=h',toks:=t' }:=I.un (Un.write mu he k heo) (I.hok.write mu he k heo new)
theorem Inv.weak {σ':List (Option V)} (I:Inv X pins σ H s) (hl:σ'.length=σ.length) (w:∀ (i:Nat) v,σ'[i]?=some (some v)->σ[i]?=some (some v)):Inv X pins σ' H s :=
 ⟨I.ok,I.os,I.bare,I.base,let ⟨m,hn,hl'⟩:=I.loc;⟨m,hn,fun i x v e1 e2 e3=>hl' i x v e1 (w i v e2) e3⟩,I.cell,I.free,I.freeC,I.pin,I.hok,hl.trans I.len⟩
theorem Inv.pins_of {pins':List (Addr×Obj)} (I:Inv X pins σ H s) (h:∀ p∈pins',s.heap.get? p.1=some p.2/\H p.1=none/\p.1≠X.env.locals/\p.1∉X.fs/\∀ v,p.2.data≠.cell v):Inv X pins' σ H s :=
 ⟨I.ok,I.os,I.bare,I.base,I.loc,I.cell,I.free,I.freeC,fun p hp=>(List.mem_append.mp hp).elim (fun z=>I.pin p (List.mem_append_left _ z)) (h p),I.hok,I.len⟩
theorem w7Q {N:List Str} (hN:N.Nodup) {i j:Nat}{x:Str} (a:N[i]?=some x) (b:N[j]?=some x):i=j:=by
 obtain ⟨h1,e1⟩:=List.getElem?_eq_some_iff.mp a
 obtain ⟨h2,e2⟩:=List.getElem?_eq_some_iff.mp b
 exact (List.getElem_inj hN).mp (e1.trans e2.symm)
theorem w3a {M:Model}{A:Around}{E:Value->Shared->Prop}{i:Nat}{x:Str}{v:V}{u:Value}{Q:Unit->Shared->Prop} (I:Inv X pins σ H s) (hN:X.N.Nodup) (hi:X.N[i]?=some x) (hx:Loc X.env.scope x) (r:q1Z v u)
  (h:∀ s',Inv X pins (σ.set i (some v)) H s'->(∃ a,Heap.SameBut a s.heap s'.heap/\(a=X.env.locals\/X.env.cells.lookup x=some a))->Q () s') (hf:X.fn x=true\/X.env.scope.names.lookup x=some .local:=by first | exact .inl rfl | exact .inr rfl | assumption):wpAny M A (storeName X.env x u) Q E s:=by
 obtain ⟨m,hn,hl⟩:=id I.loc
 have hcls:(X.env.scope.kind == .class || (X.env.scope.kind == .module && X.env.locals != X.env.globals))=false:=by rw [I.ok.kind];rfl
 have hiσ:i<σ.length:=by rw [I.len];exact (List.getElem?_eq_some_iff.mp hi).1
 have cne:=I.cne
 have tracked:∀ {a:Addr}{h':Heap},(∃ o,s.heap.get? a=some o/\H a=none)->Heap.SameBut a s.heap h'->HOk X.prog X.w H h':=fun {a h'} ha hs b ob e=>by
  obtain ⟨_,_,hfree⟩:=ha
  refine (I.hok b ob e).stay (fun c w' hc q=>(hs.2 c ?_).trans q) (fun _ q=>q) fun _ _ q=>q
  rintro rfl
  rcases hc with rfl | hc
  ·rw [hfree] at e;cases e
  ·rw [hfree] at hc;cases hc
 rcases hx with hk | hk
 ·refine wpAny_storeName_local hk hn (fun h' hn' hs=>?_) hcls
  obtain ⟨oL,_,_,hoL,_⟩:=id hn
  refine h _ ⟨I.ok,I.os,I.bare,⟨fun b o e n hb hx=>?_,fun b o e n hb hx=>?_,I.base.free,fun b o e hx=>?_,I.base.tups,I.base.frzs,I.base.tbls⟩,⟨_,hn',fun j y v' e1 e2 e3=>?_⟩,fun y c e=>?_,I.free,I.freeC,fun p hp=>?_,tracked ⟨oL,hoL,I.free⟩ hs,by simpa using I.len⟩ ⟨_,hs,.inl rfl⟩
  ·exact (hs.2 b (Nat.ne_of_lt (Nat.lt_of_lt_of_le (Heap.lt_size e) I.ok.above))).trans (I.base.keep b o e n hb hx)
  ·obtain ⟨sl,e1⟩:=I.base.slot b o e n hb hx
   exact ⟨sl,(hs.2 b (Nat.ne_of_lt (Nat.lt_of_lt_of_le (Heap.lt_size e) I.ok.above))).trans e1⟩
  ·obtain ⟨o',e1⟩:=I.base.there b o e hx
   exact ⟨o',(hs.2 b (Nat.ne_of_lt (Nat.lt_of_lt_of_le (Heap.lt_size e) I.ok.above))).trans e1⟩
  ·by_cases hj:j=i
   ·subst hj
    rw [hi] at e1;cases e1
    rw [List.getElem?_set_self hiσ] at e2
    cases e2
    exact ⟨u,r,.inl ⟨hk,by simp⟩⟩
   ·rw [List.getElem?_set_ne (Ne.symm hj)] at e2
    obtain ⟨u',r',q⟩:=hl j y v' e1 e2 e3
    refine ⟨u',r',?_⟩
    rcases q with ⟨k,e⟩ | ⟨k,c,e,z⟩
    ·refine .inl ⟨k,?_⟩
     have:y≠x:=fun e=>hj (w7Q hN e1 (e ▸ hi))
     simp [this,e]
    ·exact .inr ⟨k,c,e,z.sameBut hs (cne y c e)⟩
  ·obtain ⟨w',z⟩:=I.cell y c e
   exact ⟨w',z.sameBut hs (cne y c e)⟩
  ·obtain ⟨e,n,ne,nf,d⟩:=I.pin p hp
   exact ⟨(hs.2 p.1 ne).trans e,n,ne,nf,d⟩
 ·have hfn:X.fn x=true:=by
   rcases hf with z | z
   ·exact z
   ·rw [z] at hk;cases hk
  obtain ⟨c,hc⟩:=I.ok.has x (.inl hk)
  obtain ⟨w',z⟩:=I.cell x c hc
  refine wpAny_storeName_cell I.ok.kind hk hc z (fun h' hc' hs=>?_)
  obtain ⟨oc,hoc,hocd⟩:=id z
  refine h { s with heap:=h' } ⟨I.ok,I.os,I.bare,⟨fun b o e n hb hx=>?_,fun b o e n hb hx=>?_,I.base.free,fun b o e hx=>?_,I.base.tups,I.base.frzs,I.base.tbls⟩,⟨m,hn.sameBut hs (Ne.symm (cne x c hc)),fun j y v' e1 e2 e3=>?_⟩,fun y c' e=>?_,I.free,I.freeC,fun p hp=>?_,tracked ⟨oc,hoc,I.freeC x c hc⟩ hs,by simpa using I.len⟩ ⟨c,hs,.inr hc⟩
  ·exact (hs.2 b (Nat.ne_of_lt (Nat.lt_of_lt_of_le (Heap.lt_size e) (I.ok.cab x c hfn hc)))).trans (I.base.keep b o e n hb hx)
  ·obtain ⟨sl,e1⟩:=I.base.slot b o e n hb hx
   exact ⟨sl,(hs.2 b (Nat.ne_of_lt (Nat.lt_of_lt_of_le (Heap.lt_size e) (I.ok.cab x c hfn hc)))).trans e1⟩
  ·obtain ⟨o',e1⟩:=I.base.there b o e hx
   exact ⟨o',(hs.2 b (Nat.ne_of_lt (Nat.lt_of_lt_of_le (Heap.lt_size e) (I.ok.cab x c hfn hc)))).trans e1⟩
  ·by_cases hj:j=i
   ·subst hj
    rw [hi] at e1;cases e1
    rw [List.getElem?_set_self hiσ] at e2
    cases e2
    exact ⟨u,r,.inr ⟨.inl hk,c,hc,hc'⟩⟩
   ·rw [List.getElem?_set_ne (Ne.symm hj)] at e2
    obtain ⟨u',r',q⟩:=hl j y v' e1 e2 e3
    refine ⟨u',r',?_⟩
    rcases q with q | ⟨k,c',e,z'⟩
    ·exact .inl q
    ·refine .inr ⟨k,c',e,z'.sameBut hs ?_⟩
     rintro rfl
     exact hj (w7Q hN e1 (I.ok.inj _ _ _ e hc ▸ hi))
  ·by_cases hcc:c'=c
   ·subst hcc;exact ⟨_,hc'⟩
   ·obtain ⟨w2,z2⟩:=I.cell y c' e
    exact ⟨w2,z2.sameBut hs hcc⟩
  ·obtain ⟨e,n,ne,nf,d⟩:=I.pin p hp
   refine ⟨(hs.2 p.1 ?_).trans e,n,ne,nf,d⟩
   intro q
   rw [q,hoc] at e
   have q':oc=p.2:=Option.some.inj e
   exact d w' (by rw [<- q'];exact hocd)
theorem q8i {M:Model}{A:Around}{E:Value->Shared->Prop}{i:Nat}{x:Str}{v:V}{u:Value}{Q:Unit->Shared->Prop} (I:Inv X pins σ H s) (hN:X.N.Nodup) (hi:X.N[i]?=some x) (hx:Loc X.env.scope x) (r:q1Z v u)
  (h:∀ s',Inv X pins (σ.set i (some v)) H s'->Q () s') (hf:X.fn x=true\/X.env.scope.names.lookup x=some .local:=by first | exact .inl rfl | exact .inr rfl | assumption):wpAny M A (storeName X.env x u) Q E s :=
 w3a I hN hi hx r (fun s' I' _=>h s' I') hf
theorem Inv.call' {s':Shared}{ch:List Addr} (I:Inv X pins σ H s) (ho:s'.os=s.os) (u:Un (frs X.stack) ch H H' s.heap s'.heap) (hok:HOk X.prog X.w H' s'.heap) (hg:AllBare s'.gens)
  (hch:∀ b∈ch,(b∈X.ex\/X.s₀.heap.objs.size<=b)/\b≠X.env.locals/\(∀ x c,X.env.cells.lookup x=some c->c≠b)/\∀ p∈X.pn++pins,p.1≠b):Inv X pins σ H' s':=by
 obtain ⟨h',g',d',t',o'⟩:=s'
 have e:o'=s.os:=ho
 subst e
 exact I.call (g':=g') (t':=t') (d':=d') u hok hg hch
end
abbrev XK:=Value->Option Addr->Hp->Prop
abbrev St:=List (Option V)
abbrev VK:=V->Hp->Prop
abbrev TE:=St->Hp->VK->Prop
abbrev TT:=St->Hp->(Bool->Hp->Prop)->Prop
abbrev TA:=St->Hp->(List V->Hp->Prop)->Prop
structure w7R where
 nx:St->Hp->Prop
 rt:VK
 bk:St->Hp->Prop:=fun _ _=>False
 ct:St->Hp->Prop:=fun _ _=>False
abbrev TS:=w7R->St->Hp->Prop
inductive EP (X:Cx) (pins:List (Addr×Obj)) (σ:St) (Q:VK) (u:Value) (s':Shared):Prop
 | mk (v H':_) (h0:Inv X pins σ H' s') (h1:q1Z v u) (h2:Q v H'):EP X pins σ Q u s'
inductive TP (X:Cx) (pins:List (Addr×Obj)) (σ:St) (Q:Bool->Hp->Prop) (b:Bool) (s':Shared):Prop
 | mk (H':_) (h0:Inv X pins σ H' s') (h1:Q b H'):TP X pins σ Q b s'
inductive AP (X:Cx) (pins:List (Addr×Obj)) (σ:St) (Q:List V->Hp->Prop) (us:List Value) (s':Shared):Prop
 | mk (vs H':_) (h0:Inv X pins σ H' s') (h1:q28 vs us) (h2:Q vs H'):AP X pins σ Q us s'
inductive SN (X:Cx) (pins:List (Addr×Obj)) (k:St->Hp->Prop) (s':Shared):Prop
 | mk (σ':St) (H':Hp) (I:Inv X pins σ' H' s') (q:k σ' H'):SN X pins k s'
inductive SV (X:Cx) (pins:List (Addr×Obj)) (k:V->Hp->Prop) (u:Value) (s':Shared):Prop
 | mk (v:V) (σ':St) (H':Hp) (I:Inv X pins σ' H' s') (r:q1Z v u) (q:k v H'):SV X pins k u s'
def SP (X:Cx) (pins:List (Addr×Obj)) (D:w7R) (f:Flow) (s':Shared):Prop :=
 match f with
 | .next=>SN X pins D.nx s'
 | .brk=>SN X pins D.bk s'
 | .cont=>SN X pins D.ct s'
 | .ret u=>SV X pins D.rt u s'
def PE (X:Cx) (e:Expr) (t:TE):Prop :=
 ∀ (pins:List (Addr×Obj)) (s:Shared) (σ:St) (H:Hp) (Q:VK),Inv X pins σ H s->t σ H Q->wpAny (model X.prog X.w) X.A (eval e X.env) (EP X pins σ Q) X.xe s
def PT (X:Cx) (e:Expr) (t:TT):Prop :=
 ∀ (pins:List (Addr×Obj)) (s:Shared) (σ:St) (H:Hp) (Q:Bool->Hp->Prop),Inv X pins σ H s->t σ H Q->wpAny (model X.prog X.w) X.A (isTrue e X.env (eval e X.env)) (TP X pins σ Q) X.xe s
def PW (X:Cx) (e:Expr) (t:TT):Prop :=
 ∀ (whole:Sem Value) (pins:List (Addr×Obj)) (s:Shared) (σ:St) (H:Hp) (Q:Bool->Hp->Prop),Inv X pins σ H s->t σ H Q->wpAny (model X.prog X.w) X.A (isTrue e X.env whole) (TP X pins σ Q) X.xe s
theorem PW.pt {X:Cx}{e:Expr}{t:TT} (h:PW X e t):PT X e t:=h _
def PA (X:Cx) (es:List Expr) (t:TA):Prop :=
 ∀ (pos:Pos) (pins:List (Addr×Obj)) (s:Shared) (σ:St) (H:Hp) (Q:List V->Hp->Prop),Inv X pins σ H s->t σ H Q->wpAny (model X.prog X.w) X.A (spliced (backTo pos (starEach es X.env))) (AP X pins σ Q) X.xe s
def PS (X:Cx) (st:Stmt) (t:TS):Prop :=
 ∀ (pins:List (Addr×Obj)) (s:Shared) (σ:St) (H:Hp) (D:w7R),Inv X pins σ H s->t D σ H->wpAny (model X.prog X.w) X.A (exec st X.env) (SP X pins D) X.xe s
def PSs (X:Cx) (st:List Stmt) (t:TS):Prop :=
 ∀ (pins:List (Addr×Obj)) (s:Shared) (σ:St) (H:Hp) (D:w7R),Inv X pins σ H s->t D σ H->wpAny (model X.prog X.w) X.A (execs st X.env) (SP X pins D) X.xe s
theorem thn {α:Type}{t:Sem α}{Q Q':α->Shared->Prop}{M:Model}{A:Around}{E:Value->Shared->Prop}{s:Shared} (h:wpAny M A t Q E s) (hQ:∀ a s,Q a s->Q' a s):wpAny M A t Q' E s:=wpAny_mono h hQ fun _ _ x=>x
end L2
namespace L2
open PySem PySem.Spec PyProof.Rows
section
variable {X:Cx}
inductive x7z (i:Nat) (σ:St) (H:Hp) (Q:VK):Prop
 | mk (v:_) (h0:σ[i]?=some (some v)) (h1:Q v H):x7z i σ H Q
def y0K (i:Nat):TE:=x7z i
def tC (v:V):TE:=fun _ H Q=>Q v H
theorem w0E {i:Nat}{x:Str}{pos:Pos} (hN:X.N[i]?=some x) (hv:Vis X.env.scope x) (hd:(x == ("__debug__" : Str))=false:=by decide) (hcd:(x == ("__classdict__" : Str))=false:=by decide):PE X (.Name x pos) (y0K i):=by
 intro pins s σ H Q I h
 obtain ⟨v,e,h⟩:=h
 obtain ⟨m,hn,hl⟩:=I.loc
 obtain ⟨u,r,l⟩:=hl i x v hN e hv
 have fin:EP X pins σ Q u s:=⟨v,H,I,r,h⟩
 rcases l with ⟨hk,hm⟩ | ⟨hk,c,hc,hcell⟩
 ·exact wpAny_Name (wpAny_loadName_local I.ok.kind hk hn hm fin) hd
 ·rcases hk with hk | hk
  ·exact wpAny_Name (wpAny_loadName_cell I.ok.kind hk hc hcell fin) hd
  ·exact wpAny_Name (wpAny_loadName_free I.ok.kind hk hc hcell fin hcd) hd
theorem x7A {i j pos}:PE X (.Constant (.int i) j pos) (tC (.int i)):=fun _ _ _ H _ I h=>wpAny_Constant_int ⟨.int i,H,I.tok _,⟨_,rfl⟩,h⟩
theorem x9L {b j pos}:PE X (.Constant (.bool b) j pos) (tC (.bl b)):=fun _ _ _ H _ I h=>Constant_bool ⟨.bl b,H,I,rfl,h⟩
theorem x7B {j pos}:PE X (.Constant .none j pos) (tC .non):=fun _ _ _ H _ I h=>Constant_none ⟨.non,H,I,rfl,h⟩
theorem x7C {x j pos}:PE X (.Constant (.str x) j pos) (tC (.str x)):=fun _ _ _ H _ I h=>Calls.Constant_str ⟨.str x,H,I.tok _,⟨_,rfl⟩,h⟩
def Gl (X:Cx) (x:Str):Prop:=X.env.kindOf x=some .globalImplicit
theorem w5n {E:Value->Shared->Prop}{pins:List (Addr×Obj)}{s:Shared}{σ:St}{H:Hp}{x:Str}{u:Value}{pos:Pos}{Q:Value->Shared->Prop} (I:Inv X pins σ H s) (hg:Gl X x) (hm:X.mg x=some u) (h:Q u s)
  (hd:(x == ("__debug__" : Str))=false:=by decide):wpAny (model X.prog X.w) X.A (eval (.Name x pos) X.env) Q E s :=
 Calls.Name_function_global I.ok.kind hg (Calls.loadGlobal_global (by rw [I.ok.glob];exact I.mod.glob.keeps I.bk) hm h) hd
theorem q7A {E:Value->Shared->Prop}{pins:List (Addr×Obj)}{s:Shared}{σ:St}{H:Hp}{x:Str}{u:Value}{pos:Pos}{Q:Value->Shared->Prop} (I:Inv X pins σ H s) (hg:Gl X x) (hm:X.mg x=none) (hv:bootBuiltins x=some u) (h:Q u s)
  (hn:x≠"__name__":=by decide) (hd:(x == ("__debug__" : Str))=false:=by decide):wpAny (model X.prog X.w) X.A (eval (.Name x pos) X.env) Q E s:=by
 obtain ⟨mb,h1,h2⟩:=I.mod.blt
 exact Calls.Name_function_global I.ok.kind hg (Calls.loadGlobal_builtin (by rw [I.ok.glob];exact I.mod.glob.keeps I.bk) hm (by rw [I.ok.blt];exact h1.keeps I.bk) ((h2 x hn).trans hv) h) hd
theorem x61 {x:Str}{v:V}{u:Value}{pos:Pos} (hg:Gl X x) (hm:X.mg x=some u) (r:q1Z v u) (hd:(x == ("__debug__" : Str))=false:=by decide):PE X (.Name x pos) (tC v) :=
 fun _ _ _ H _ I h=>w5n I hg hm ⟨v,H,I,r,h⟩ hd
theorem x62 {x:Str}{v:V}{u:Value}{pos:Pos} (hg:Gl X x) (hm:X.mg x=none) (hv:bootBuiltins x=some u) (r:q1Z v u) (hn:x≠"__name__":=by decide) (hd:(x == ("__debug__" : Str))=false:=by decide):PE X (.Name x pos) (tC v) :=
 fun _ _ _ H _ I h=>q7A I hg hm hv ⟨v,H,I,r,h⟩ hn hd
variable {a b:Expr}{ta tb:TE}{pos:Pos}
def PC (X:Cx) (op:CmpOp) (a b:Expr) (t:TE):Prop :=
 ∀ (pins:List (Addr×Obj)) (s:Shared) (σ:St) (H:Hp) (Q:VK),Inv X pins σ H s->t σ H Q ->
  wpAny (model X.prog X.w) X.A (eval a X.env) (fun v s₁=>wpAny (model X.prog X.w) X.A (eval b X.env) (fun u s₂=>wpAny (model X.prog X.w) X.A (compareOp op v u) (EP X pins σ Q) X.xe s₂) X.xe s₁) X.xe s
theorem x3k (b:Expr) {op:CmpOp} (h:op≠.In) (h2:op≠.NotIn):behindInMarks op b=false:=by
 have e1:(op == CmpOp.In)=false:=by cases op<;>first | rfl | exact absurd rfl h
 have e2:(op == CmpOp.NotIn)=false:=by cases op<;>first | rfl | exact absurd rfl h2
 cases b<;>simp [behindInMarks,e1,e2]
def tB (t:TE):TT:=fun σ H Q=>t σ H fun x H1=>∃ c,x=.bl c/\Q c H1
theorem y0L {op:CmpOp}{t:TE} (h:PC X op a b t) (h1:behindInMarks op b=false:=by first | exact x3k _ (by decide) (by decide) | rfl):PT X (.Compare a [op] [b] pos) (tB t):=by
 intro pins s σ H Q I hw
 refine wpAny_isTrue_Compare1 (thn (h pins s σ H _ I hw) fun v s1 h1=>thn h1 fun u s2 h2=>thn h2 fun c s3 ⟨x,H1,I1,r1,q1⟩=>?_) h1
 obtain ⟨d,rfl,q⟩:=q1
 cases r1
 exact wpAny_truthy_bool ⟨H1,I1,q⟩
theorem x7D {e:Expr}{t:TE} (h:PE X e t) (he:∀ whole,isTrue e X.env whole=(do let v <- whole;standAt e.pos;holding [v] (truthy v)):=by intro _;rfl):PT X e (tB t):=by
 intro pins s σ H Q I hw
 refine isTrue_plain (thn (h pins s σ H _ I hw) fun v s1 ⟨x,H1,I1,r1,q1⟩=>?_) (he _)
 obtain ⟨d,rfl,q⟩:=q1
 cases r1
 exact wpAny_truthy_bool ⟨H1,I1,q⟩
variable {tA tB':TT}{q0I:List Expr}
def y1s (t u:TT):TT:=fun σ H Q=>t σ H fun c H1=>if c=true then u σ H1 Q else Q false H1
def tOr (t u:TT):TT:=fun σ H Q=>t σ H fun c H1=>if c=true then Q true H1 else u σ H1 Q
def y1t (t:TT):TT:=fun σ H Q=>t σ H fun c H1=>Q (!c) H1
theorem x63 (ha:PT X a tA):PW X (.BoolOp .And [a] pos) tA:=by
 intro wh pins s σ H Q I h
 refine isTrue_and (thn (ha pins s σ H Q I h) fun c s1 e=>?_)
 cases c with
 | true=>exact isTrue_and_nil e
 | false=>exact e
theorem x7E (ha:PT X a tA):PW X (.BoolOp .Or [a] pos) tA:=by
 intro wh pins s σ H Q I h
 refine isTrue_or (thn (ha pins s σ H Q I h) fun c s1 e=>?_)
 cases c with
 | false=>exact isTrue_or_nil e
 | true=>exact e
theorem x7F (ha:PT X a tA) (hb:PW X (.BoolOp .And (b::q0I) pos) tB'):PW X (.BoolOp .And (a::b::q0I) pos) (y1s tA tB'):=by
 intro wh pins s σ H Q I h
 refine isTrue_and (thn (ha pins s σ H _ I h) fun c s1 ⟨H1,I1,q1⟩=>?_)
 cases c with
 | true=>exact hb wh pins s1 σ H1 Q I1 q1
 | false=>exact ⟨H1,I1,q1⟩
theorem x9M (ha:PT X a tA) (hb:PW X (.BoolOp .Or (b::q0I) pos) tB'):PW X (.BoolOp .Or (a::b::q0I) pos) (tOr tA tB'):=by
 intro wh pins s σ H Q I h
 refine isTrue_or (thn (ha pins s σ H _ I h) fun c s1 ⟨H1,I1,q1⟩=>?_)
 cases c with
 | true=>exact ⟨H1,I1,q1⟩
 | false=>exact hb wh pins s1 σ H1 Q I1 q1
theorem x7G (ha:PT X a tA):PT X (.UnaryOp .Not a pos) (y1t tA):=by
 intro pins s σ H Q I h
 exact isTrue_not (thn (ha pins s σ H (fun c H1=>Q (!c) H1) I h) fun _ _ x=>by obtain ⟨a,b,c⟩:=x;exact ⟨a,b,c⟩)
def x9N (ta tb:TE):TE:=fun σ H Q=>ta σ H fun x H1=>∃ c,x=.bl c/\if c=true then tb σ H1 Q else Q (.bl false) H1
def y1u (ta tb:TE):TE:=fun σ H Q=>ta σ H fun x H1=>∃ c,x=.bl c/\if c=true then Q (.bl true) H1 else tb σ H1 Q
def x9O (ta:TE):TE:=fun σ H Q=>ta σ H fun x H1=>∃ c,x=.bl c/\Q (.bl (!c)) H1
theorem x7H {op}{t:TE} (h:PE X a t):PE X (.BoolOp op [a] pos) t:=fun pins s σ H Q I hw=>BoolOp_one (h pins s σ H Q I hw)
theorem x7I (ha:PE X a ta) (hb:PE X (.BoolOp .And (b::q0I) pos) tb):PE X (.BoolOp .And (a::b::q0I) pos) (x9N ta tb):=by
 intro pins s σ H Q I h
 refine BoolOp_and (thn (ha pins s σ H _ I h) fun v s1 ⟨x,H1,I1,r1,q1⟩=>?_)
 obtain ⟨c,rfl,q1⟩:=q1
 cases r1
 refine wpAny_truthy_bool ?_
 cases c with
 | true=>exact hb pins s1 σ H1 Q I1 q1
 | false=>exact ⟨.bl false,H1,I1,rfl,q1⟩
theorem x9P (ha:PE X a ta) (hb:PE X (.BoolOp .Or (b::q0I) pos) tb):PE X (.BoolOp .Or (a::b::q0I) pos) (y1u ta tb):=by
 intro pins s σ H Q I h
 refine BoolOp_or (thn (ha pins s σ H _ I h) fun v s1 ⟨x,H1,I1,r1,q1⟩=>?_)
 obtain ⟨c,rfl,q1⟩:=q1
 cases r1
 refine wpAny_truthy_bool ?_
 cases c with
 | false=>exact hb pins s1 σ H1 Q I1 q1
 | true=>exact ⟨.bl true,H1,I1,rfl,q1⟩
theorem x7J (ha:PE X a ta):PE X (.UnaryOp .Not a pos) (x9O ta):=by
 intro pins s σ H Q I h
 refine UnaryOp_ (thn (ha pins s σ H _ I h) fun v s1 ⟨x,H1,I1,r1,q1⟩=>?_)
 obtain ⟨c,rfl,q1⟩:=q1
 cases r1
 exact not_of (wpAny_truthy_bool ⟨.bl (!c),H1,I1,rfl,q1⟩)
end
end L2
namespace L2
open PySem PySem.Spec PyProof.Rows
inductive KqL (K:PySem.W.Frag) (a:Addr) (xs:List V):Prop
 | mk (o:Obj) (its:Array Value) (n:Nat) (h0:K.lookup a=some o) (h1:o.cls=.type "list") (h2:o.dict=none) (h3:o.data=.seq its n) (h4:its.size<=sizeLine) (h5:q28 xs its.toList):KqL K a xs
def SqL (K:PySem.W.Frag) (H:Hp) (a:Addr) (xs:List V):Prop :=
 Rd H a (.lst xs)\/KqL K a xs
inductive KqT (K:PySem.W.Frag) (a:Addr) (xs:List V):Prop
 | mk (o:Obj) (its:Array Value) (n:Nat) (h0:K.lookup a=some o) (h1:o.cls=.type "tuple") (h3:o.data=.seq its n) (h4:its.size<=sizeLine) (h5:q28 xs its.toList):KqT K a xs
def SqT (K:PySem.W.Frag) (H:Hp) (a:Addr) (xs:List V):Prop :=
 Rd H a (.tup xs)\/KqT K a xs
def y1v:Value->Option V
 | .none=>some .non
 | .bool b=>some (.bl b)
 | .int i _=>some (.int i)
 | .str x _=>some (.str x)
 | .bytes b _=>some (.byt b)
 | .float b _=>some (.flt b)
 | .ref a=>some (.ref a)
 | .type n=>some (.ty n)
 | _=>none
theorem q1Z.abs {x:V}{u:Value} (r:q1Z x u):y1v u=some x:=by
 cases x with
 | non=>cases r;rfl
 | bl _=>cases r;rfl
 | int _=>obtain ⟨t,rfl⟩:=r;rfl
 | str _=>obtain ⟨t,rfl⟩:=r;rfl
 | byt _=>obtain ⟨t,rfl⟩:=r;rfl
 | flt _=>obtain ⟨t,rfl⟩:=r;rfl
 | ref _=>cases r;rfl
 | ty _=>cases r;rfl
theorem q1Z.inj {x y:V}{u:Value} (r:q1Z x u) (q:q1Z y u):x=y:=Option.some.inj (r.abs.symm.trans q.abs)
theorem q28.inj {xs:List V}{us:List Value} (h:q28 xs us):∀ {ys:List V},q28 ys us->xs=ys:=by
 induction h with
 | nil=>intro ys k;cases k;rfl
 | cons r t ih=>intro ys k;cases k with | cons r' t'=>rw [r.inj r',ih t']
section
variable {X:Cx}{pins:List (Addr×Obj)}{σ:St}{H:Hp}{s:Shared}{a:Addr}{xs ys:List V}
theorem SqL.of {K:PySem.W.Frag} (h:H a=some (.lst xs)):SqL K H a xs:=.inl (.inl h)
theorem SqT.of {K:PySem.W.Frag} (h:H a=some (.tup xs)):SqT K H a xs:=.inl (.inl h)
inductive InL (h:Heap) (a:Addr) (xs:List V):Prop
 | mk (its:List Value) (r:q28 xs its) (p:PlainL h a its.toArray) (z:xs.length<=sizeLine):InL h a xs
inductive InT (h:Heap) (a:Addr) (xs:List V):Prop
 | mk (its:List Value) (r:q28 xs its) (p:IsTup h a its.toArray) (z:xs.length<=sizeLine):InT h a xs
inductive InM (h:Heap) (l:Addr) (xs:List V):Prop
 | mk (z:xs.length<=sizeLine) (its:List Value) (n:Nat) (r:q28 xs its) (hl:xs.length=its.length) (e:h.get? l=some { cls:=.type "list",data:=.seq its.toArray n }):InM h l xs
theorem Inv.list (I:Inv X pins σ H s) (h:SqL X.K H a xs):InL s.heap a xs:=by
 rcases h with h | ⟨o,its,n,hk,hc,hd,hs,hz,r⟩
 ·obtain ⟨z,its,n,r,e⟩:=h.ok I.hok
  exact ⟨its,r,⟨_,n,e,rfl,rfl,rfl⟩,z⟩
 ·refine ⟨its.toList,r,⟨o,n,I.kIn a o hk,hc,hd,by simpa using hs⟩,?_⟩
  have e:=r.length
  simp only [Array.length_toList] at e
  omega
theorem Inv.tuple (I:Inv X pins σ H s) (h:SqT X.K H a xs):InT s.heap a xs:=by
 rcases h with h | ⟨o,its,n,hk,hc,hs,hz,r⟩
 ·obtain ⟨z,its,r,p⟩:=h.ok I.hok
  exact ⟨its,r,p,z⟩
 ·refine ⟨its.toList,r,⟨o,I.kIn a o hk,hc,n,by simpa using hs⟩,?_⟩
  have e:=r.length
  simp only [Array.length_toList] at e
  omega
theorem Inv.list_inj (I:Inv X pins σ H s) (h:SqL X.K H a xs) (h':SqL X.K H a ys):xs=ys:=by
 obtain ⟨its,r,⟨o,n,e,_,_,d⟩,_⟩:=I.list h
 obtain ⟨its',r',⟨o',n',e',_,_,d'⟩,_⟩:=I.list h'
 rw [e] at e';cases e'
 rw [d] at d'
 injection d' with d1 _
 have:its=its':=by simpa using congrArg Array.toList d1
 subst this
 exact r.inj r'
theorem Inv.tuple_inj (I:Inv X pins σ H s) (h:SqT X.K H a xs) (h':SqT X.K H a ys):xs=ys:=by
 obtain ⟨its,r,⟨o,e,_,n,d⟩,_⟩:=I.tuple h
 obtain ⟨its',r',⟨o',e',_,n',d'⟩,_⟩:=I.tuple h'
 rw [e] at e';cases e'
 rw [d] at d'
 injection d' with d1 _
 have:its=its':=by simpa using congrArg Array.toList d1
 subst this
 exact r.inj r'
end
abbrev Cx.wish (X:Cx) (E:Value->Shared->Prop):Cx:={ X with xe:=E }
abbrev Cx.nox (X:Cx):Cx:=X.wish fun _ _=>False
theorem Cx.Ok.wish {X:Cx} (ok:X.Ok) (E:Value->Shared->Prop):(X.wish E).Ok :=
 ⟨ok.mod,ok.kind,ok.glob,ok.blt,ok.above,ok.inj,ok.has,ok.cab,ok.hd,ok.frames,ok.stk,ok.exf,ok.bs,ok.bsz,ok.noex,ok.exfs,ok.funs,ok.frf⟩
theorem Cx.Ok.unwish {X:Cx}{E:Value->Shared->Prop} (ok:(X.wish E).Ok):X.Ok :=
 ⟨ok.mod,ok.kind,ok.glob,ok.blt,ok.above,ok.inj,ok.has,ok.cab,ok.hd,ok.frames,ok.stk,ok.exf,ok.bs,ok.bsz,ok.noex,ok.exfs,ok.funs,ok.frf⟩
section
variable {X:Cx}{pins:List (Addr×Obj)}{σ:St}{H:Hp}{s:Shared}{E:Value->Shared->Prop}
theorem Inv.wish (I:Inv X pins σ H s) (E:Value->Shared->Prop):Inv (X.wish E) pins σ H s:=⟨I.ok.wish E,I.os,I.bare,I.base,I.loc,I.cell,I.free,I.freeC,I.pin,I.hok,I.len⟩
theorem Inv.unwish (I:Inv (X.wish E) pins σ H s):Inv X pins σ H s:=⟨I.ok.unwish,I.os,I.bare,I.base,I.loc,I.cell,I.free,I.freeC,I.pin,I.hok,I.len⟩
theorem SP.unwish {D:w7R}{f:Flow}{s':Shared} (h:SP (X.wish E) pins D f s'):SP X pins D f s':=by
 cases f with
 | next=>obtain ⟨σ',H',I,q⟩:=h;exact ⟨σ',H',I.unwish,q⟩
 | brk=>obtain ⟨σ',H',I,q⟩:=h;exact ⟨σ',H',I.unwish,q⟩
 | cont=>obtain ⟨σ',H',I,q⟩:=h;exact ⟨σ',H',I.unwish,q⟩
 | ret u=>obtain ⟨v,σ',H',I,r,q⟩:=h;exact ⟨v,σ',H',I.unwish,r,q⟩
end
section
variable {X:Cx}{st:Stmt}{q0I:List Stmt}{t u:TS}{e:Expr}{te:TE}{pos:Pos}
def x9Q:TS:=fun D σ H=>D.nx σ H
def y1w (t u:TS):TS:=fun D σ H=>t { D with nx:=u D } σ H
theorem x64:PSs X [] x9Q:=fun _ _ σ H _ I h=>wpAny_execs_nil ⟨σ,H,I,h⟩
theorem q5Y (h1:PS X st t) (h2:PSs X q0I u):PSs X (st::q0I) (y1w t u):=by
 intro pins s σ H D I h
 refine wpAny_execs_cons (thn (h1 pins s σ H { D with nx:=u D } I h) fun f s1 q=>?_)
 cases f with
 | next =>
  obtain ⟨σ',H',I',q⟩:=q
  exact h2 pins s1 σ' H' D I' q
 | ret v=>exact q
 | brk=>exact q
 | cont=>exact q
theorem x65 (h1:PS X st t):PSs X [st] t:=by
 intro pins s σ H D I h
 refine wpAny_execs_cons (thn (h1 pins s σ H D I h) fun f s1 q=>?_)
 cases f with
 | next=>exact wpAny_execs_nil q
 | ret v=>exact q
 | brk=>exact q
 | cont=>exact q
theorem Inv.quiet {pins:List (Addr×Obj)}{σ:St}{H:Hp}{s:Shared} (I:Inv X pins σ H s):interactive X.env=false:=by simp [interactive,I.ok.kind]
def x9R (te:TE):TS:=fun D σ H=>te σ H fun _ H1=>D.nx σ H1
theorem w5o (he:PE X e te) (hs:swapsWith e none pos.line X.env=pure false:=by rfl):PS X (.Expr e pos) (x9R te):=by
 intro pins s σ H D I h
 exact wpAny_Expr_any (thn (he pins s σ H _ I h) fun v s1 h_7=>by obtain ⟨x,H1,I1,r1,q1⟩:=h_7;exact ⟨σ,H1,I1,q1⟩) I.quiet hs
def y1x (te:TE):TS:=fun D σ H=>te σ H D.rt
theorem x7K (he:PE X e te):PS X (.Return (some e) pos) (y1x te):=by
 intro pins s σ H D I h
 exact wpAny_Return_some (thn (he pins s σ H _ I h) fun v s1 h_8=>by obtain ⟨x,H1,I1,r1,q1⟩:=h_8;exact ⟨x,σ,H1,I1,r1,q1⟩)
def y1y (c:TT) (t u:TS):TS:=fun D σ H=>c σ H fun b H1=>if b=true then t D σ H1 else u D σ H1
theorem x9S {c:Expr}{a b:List Stmt}{tc:TT} (hc:PT X c tc) (ha:PSs X a t) (hb:PSs X b u):PS X (.If c a b pos) (y1y tc t u):=by
 intro pins s σ H D I h
 refine wpAny_If (thn (hc pins s σ H _ I h) fun d s1 ⟨H1,I1,q1⟩=>?_)
 cases d with
 | true=>exact ha pins s1 σ H1 D I1 q1
 | false=>exact hb pins s1 σ H1 D I1 q1
def x7L:TS:=fun _ _ _=>False
theorem q5Z {sts:List Stmt}:PSs X sts x7L:=fun _ _ _ _ _ _ h=>h.elim
end
abbrev TG:=V->St->Hp->(St->Hp->Prop)->Prop
abbrev TGs:=List V->St->Hp->(St->Hp->Prop)->Prop
def PG (X:Cx) (target:Expr) (t:TG):Prop :=
 ∀ (pins:List (Addr×Obj)) (s:Shared) (σ:St) (H:Hp) (v:V) (u:Value) (Q:St->Hp->Prop),Inv X pins σ H s->q1Z v u->t v σ H Q ->
  wpAny (model X.prog X.w) X.A (assign target X.env u) (fun _ s'=>SN X pins Q s') X.xe s
def PGs (X:Cx) (ts:List Expr) (t:TGs):Prop :=
 ∀ (pins:List (Addr×Obj)) (s:Shared) (σ:St) (H:Hp) (vs:List V) (us:List Value) (Q:St->Hp->Prop),Inv X pins σ H s->q28 vs us->t vs σ H Q ->
  wpAny (model X.prog X.w) X.A (assignInOrder ((assignEach ts X.env).map (·.2)) us) (fun _ s'=>SN X pins Q s') X.xe s
section
variable {X:Cx}{pos:Pos}
def w3b (i:Nat):TG:=fun v σ H Q=>Q (σ.set i (some v)) H
theorem q0G {i:Nat}{x:Str} (hN:X.N.Nodup) (hi:X.N[i]?=some x) (hx:Loc X.env.scope x) (hf:X.fn x=true\/X.env.scope.names.lookup x=some .local:=by first | exact .inl rfl | exact .inr rfl | assumption):PG X (.Name x pos) (w3b i):=by
 intro pins s σ H v u Q I r h
 exact wpAny_assign_Name (q8i I hN hi hx r (fun s' I'=>⟨_,H,I',h⟩) hf)
def q0e:TGs:=fun vs σ H Q=>vs=[]/\Q σ H
inductive x4K (t:TG) (u:TGs) (vs:List V) (σ:St) (H:Hp) (Q:St->Hp->Prop):Prop
 | mk (v r:_) (h0:vs=v::r) (h1:t v σ H fun σ' H'=>u r σ' H' Q):x4K t u vs σ H Q
def q01 (t:TG) (u:TGs):TGs:=x4K t u
theorem w5p:PGs X [] q0e:=by
 intro pins s σ H vs us Q I r h
 obtain ⟨e,h⟩:=h
 subst e
 cases r
 exact assignInOrder_nil ⟨σ,H,I,h⟩
theorem q60 {e:Expr}{es:List Expr}{t:TG}{u:TGs} (h1:PG X e t) (h2:PGs X es u)
  (hs:(assignEach (e::es) X.env).map (·.2)=assign e X.env::(assignEach es X.env).map (·.2):=by rfl):PGs X (e::es) (q01 t u):=by
 intro pins s σ H vs us Q I r h
 obtain ⟨v,vr,e1,h⟩:=h
 subst e1
 cases r with
 | cons r rr =>
  rw [hs]
  refine assignInOrder_cons (thn (h1 pins s σ H _ _ _ I r h) fun _ s1 ⟨σ1,H1,I1,q1⟩=>?_)
  exact h2 pins s1 σ1 H1 _ _ Q I1 rr q1
inductive x7M (K:PySem.W.Frag) (n:Nat) (t:TGs) (v:V) (σ:St) (H:Hp) (Q:St->Hp->Prop):Prop
 | mk (a xs:_) (h0:v=.ref a) (h1:SqT K H a xs) (h2:xs.length=n) (h3:t xs σ H Q):x7M K n t v σ H Q
def x9T (K:PySem.W.Frag) (n:Nat) (t:TGs):TG:=x7M K n t
theorem x0O {es:List Expr}{k:Nat}{t:TGs}{n:Nat} (hc:X.calm=true) (h:PGs X es t)
  (hn:(assignEach es X.env).length=n:=by rfl) (hst:(assignEach es X.env).findIdx? (·.1)=none:=by rfl):PG X (.Tuple es k pos) (x9T X.K n t):=by
 intro pins s σ H v u Q I r hw
 obtain ⟨a,xs,e1,hq,hl,hw⟩:=hw
 subst e1
 cases r
 obtain ⟨its,rv,ht,hz⟩:=I.tuple hq
 refine assign_Tuple_tuple (I.ok.hd hc) ht (by simp [hn,<- hl,rv.length]) hst fun h' hx=>?_
 have I1:Inv X pins σ H { s with heap:=h' }:=I.kept (t':=s.toks) fun b o e=>hx b o (Nat.ne_of_lt (Heap.lt_size e)) e
 exact h pins _ σ H xs _ Q I1 (by simpa using rv) hw
def y0M (te:TE) (g:TG):TS:=fun D σ H=>te σ H fun x H1=>g x σ H1 D.nx
theorem x4L {tg e:Expr}{te:TE}{g:TG} (he:PE X e te) (hg:PG X tg g) (hs:swapsWithSole [tg] e pos.line X.env=pure false:=by rfl) (hw:swappedStores [tg] e X.env=pure none:=by rfl)
  (h1:(assignEach [tg] X.env).map (·.2)=[assign tg X.env]:=by rfl):PS X (.Assign [tg] e pos) (y0M te g):=by
 intro pins s σ H D I h
 refine wpAny_Assign_stores (thn (he pins s σ H _ I h) fun v s1 ⟨x,H1,I1,r1,q1⟩=>?_) hs hw
 rw [h1]
 exact thn (hg pins s1 σ H1 x v _ I1 r1 q1) fun _ s2 q=>q
theorem x0P {i:Nat}{x:Str}{e:Expr}{te:TE}{pos':Pos} (hN:X.N.Nodup) (hi:X.N[i]?=some x) (hx:Loc X.env.scope x) (he:PE X e te) (hs:swapsWith e (some (.Name x pos')) pos.line X.env=pure false:=by rfl) (hf:X.fn x=true\/X.env.scope.names.lookup x=some .local:=by first | exact .inl rfl | exact .inr rfl | assumption) :
  PS X (.Assign [.Name x pos'] e pos) (y0M te (w3b i)):=by
 intro pins s σ H D I h
 refine wpAny_Assign_Name (thn (he pins s σ H _ I h) fun v s1 ⟨y,H1,I1,r1,q1⟩=>?_) hs
 exact q8i I1 hN hi hx r1 (fun s2 I2=>⟨_,H1,I2,q1⟩) hf
def y1z (i j:Nat) (ta:TA):TS:=fun D σ H=>ta σ H fun vs H1=>∃ v w,vs=[v,w]/\D.nx ((σ.set i (some v)).set j (some w)) H1
theorem x7N {i j:Nat}{x y:Str}{a b:Expr}{ta:TA}{px py pt:Pos}{kt k2 pt2} (hc:X.calm=true) (hN:X.N.Nodup) (hi:X.N[i]?=some x) (hj:X.N[j]?=some y) (hij:i≠j)
  (hx:X.env.scope.names.lookup x=some .local) (hy:X.env.scope.names.lookup y=some .local) (ha:PA X [a,b] ta)
  (hw:swappedStores [.Tuple [.Name x px,.Name y py] kt pt] (.Tuple [a,b] k2 pt2) X.env=pure (some [x,y]))
  (hs:swapsWithSole [.Tuple [.Name x px,.Name y py] kt pt] (.Tuple [a,b] k2 pt2) pos.line X.env=pure false:=by rfl) :
  PS X (.Assign [.Tuple [.Name x px,.Name y py] kt pt] (.Tuple [a,b] k2 pt2) pos) (y1z i j ta):=by
 intro pins s σ H D I h
 rw [exec_Assign_arm]
 refine wpAny_bind (wpAny_standAt ?_)
 rw [hs]
 refine wpAny_bind (wpAny_pure ?_)
 rw [if_neg (by decide)]
 refine wpAny_bind (Tuple_ (thn (ha _ pins s σ H _ I h) fun us s1 ⟨vs,H1,I1,r1,q1⟩=>?_))
 obtain ⟨v,w,e1,q1⟩:=q1
 subst e1
 obtain ⟨u1,u2,rfl,rv,rw'⟩:∃ u1 u2,us=[u1,u2]/\q1Z v u1/\q1Z w u2:=by
  cases r1 with
  | cons p q =>
   cases q with
   | cons p' q' =>
    cases q'
    exact ⟨_,_,rfl,p,p'⟩
 refine wpAny_newObj_type ?_ (by show 2<=sizeLine;decide)
 have I2:Inv X pins σ H1 { s1 with heap:=s1.heap.push { cls:=.type "tuple",data:=.seq [u1,u2].toArray } }:=I1.kept (t':=s1.toks) fun b o e=>Heap.get?_push_of_some _ e
 rw [hw]
 refine wpAny_bind (wpAny_pure ?_)
 show wpAny (model X.prog X.w) X.A (do rule "assign.swapped-stores";let items <- unpackItems (.ref s1.heap.objs.size) 2 none;assignInOrder [fun v=>bindName X.env y v,fun v=>bindName X.env x v] items.reverse;pure Flow.next) _ _ _
 refine wpAny_bind (wpAny_rule (wpAny_bind (unpackItems_tuple (items:=#[u1,u2]) (I.ok.hd hc) (IsTup.new s1.heap _) fun h' hx'=>?_)))
 have I3:=I2.kept (h':=h') (t':=s1.toks) fun b o e=>hx' b o (Nat.ne_of_lt (Heap.lt_size e)) e
 show wpAny _ _ (assignInOrder [fun v=>bindName X.env y v,fun v=>bindName X.env x v] [u2,u1] >>= fun _=>pure Flow.next) _ _ _
 refine wpAny_bind (assignInOrder_cons (wpAny_bindName (q8i I3 hN hj (.inl hy) rw' (fun s2 I4=>?_) (.inr hy))))
 refine assignInOrder_cons (wpAny_bindName (q8i I4 hN hi (.inl hx) rv (fun s3 I5=>assignInOrder_nil (wpAny_pure ?_)) (.inr hx)))
 rw [List.set_comm _ _ (Ne.symm hij)] at I5
 exact ⟨_,H1,I5,q1⟩
end
section
variable {X:Cx}{pos:Pos}
end
structure It where
 go:Nat->Hp->Prop
 yld:Nat->Hp->V->Hp->Prop
 stop:Nat->Hp->Prop
structure w3c (X:Cx) (pins:List (Addr×Obj)) (H:Hp) (b:Addr):Prop where
 f0:H b=none
 f1:b≠X.env.locals
 f2:b∉X.fs
 f3:b∈X.ex\/X.s₀.heap.objs.size<=b
 f4:∀ x c,X.env.cells.lookup x=some c->c≠b
 f5:∀ p∈X.pn++pins,p.1≠b
theorem Inv.fpOk {X:Cx}{pins:List (Addr×Obj)}{σ:St}{H H':Hp}{s:Shared}{b:Addr} (I:Inv X pins σ H s) (hb:s.heap.objs.size<=b) (hn:H' b=none):w3c X pins H' b:=by
 refine ⟨hn,Nat.ne_of_gt (Nat.lt_of_lt_of_le I.lt hb),I.nofs hb,.inr (Nat.le_trans I.sz hb),fun x c e z=>?_,fun p hp z=>?_⟩
 ·obtain ⟨v,q⟩:=I.cell x c e
  exact absurd (Nat.lt_of_lt_of_le q.lt (by rw [z];exact hb)) (Nat.lt_irrefl _)
 ·exact absurd (Nat.lt_of_lt_of_le (Heap.lt_size (I.pin p hp).1) (by rw [z];exact hb)) (Nat.lt_irrefl _)
structure x0Q (P:Program) (w:World) (K:PySem.W.Frag) (tg:Expr) (J:It) (fp:List Addr) (it:Addr) (tn:Nat->Heap->Prop):Prop where
 mem:it∈fp
 obj:∀ i h,tn i h->∀ b∈fp,∃ o,h.get? b=some o/\∀ v,o.data≠.cell v
 keep:∀ i h h',tn i h->(∀ b∈fp,∀ o,h.get? b=some o->h'.get? b=some o)->tn i h'
 item:∀ (X:Cx),X.prog=P->X.w=w->X.K=K->X.calm=true->∀ (i:Nat) (pins:List (Addr×Obj)) (s:Shared) (σ:St) (H:Hp) (E:Value->Shared->Prop),Inv X pins σ H s->(∀ b∈fp,w3c X pins H b)->tn i s.heap->J.go i H ->
  wpAny (model P w) X.A (pyNext (.ref it)) (fun r s1=>∃ u,r=some u /\
   wpAny (model P w) X.A (letOwnedTupleGo tg (.ref it) u) (fun _ s2=>∃ x H',Inv X pins σ H' s2/\q1Z x u/\J.yld i H x H'/\tn (i + 1) s2.heap/\∀ b∈fp,H' b=none) E s1) E s
 done:∀ (X:Cx),X.prog=P->X.w=w->X.K=K->X.calm=true->∀ (i:Nat) (pins:List (Addr×Obj)) (s:Shared) (σ:St) (H:Hp) (E:Value->Shared->Prop),Inv X pins σ H s->(∀ b∈fp,w3c X pins H b)->tn i s.heap->J.stop i H ->
  wpAny (model P w) X.A (pyNext (.ref it)) (fun r s1=>r=none/\Inv X pins σ H s1) E s
 self:∀ (A:Around) (i:Nat) (s:Shared) (Q:Value->Shared->Prop) (E:Value->Shared->Prop),tn i s.heap->Q (.ref it) s->wpAny (model P w) A (pyIter (.ref it)) Q E s
abbrev TI:=St->Hp->(It->Hp->Prop)->Prop
inductive PIE (X:Cx) (pins:List (Addr×Obj)) (σ:St) (tg:Expr) (R:It->Hp->Prop) (itv:Value) (s2:Shared):Prop
 | mk (it:Addr) (fp:List Addr) (tn:Nat->Heap->Prop) (J:It) (H':Hp) (h0:itv=.ref it) (I:Inv X pins σ H' s2) (T:x0Q X.prog X.w X.K tg J fp it tn) (t0:tn 0 s2.heap) (f:∀ b∈fp,w3c X pins H' b) (q:R J H'):PIE X pins σ tg R itv s2
inductive FLI (X:Cx) (pins:List (Addr×Obj)) (tn:Nat->Heap->Prop) (fp:List Addr) (W:Nat->Nat->St->Hp->Prop) (n:Nat) (s':Shared):Prop
 | mk (i:Nat) (σ':St) (H':Hp) (I:Inv X pins σ' H' s') (t:tn i s'.heap) (f:∀ b∈fp,H' b=none) (q:W i n σ' H'):FLI X pins tn fp W n s'
def PI (X:Cx) (tg iter:Expr) (wi:TI):Prop :=
 ∀ (pins:List (Addr×Obj)) (s:Shared) (σ:St) (H:Hp) (R:It->Hp->Prop),Inv X pins σ H s->wi σ H R ->
  wpAny (model X.prog X.w) X.A (eval iter X.env) (fun v s1=>wpAny (model X.prog X.w) X.A (pyIter v) (PIE X pins σ tg R) X.xe s1) X.xe s
theorem x3l {M : Model} {A : Around} {E : Value -> Shared -> Prop} {s : Shared} {tg : Expr} {it : Addr} {u : Value} {o : Obj} {n : String} {vs : Array Value} {Q : Unit -> Shared -> Prop} (ho : s.heap.get? it = some o) (hc : o.cls = .type n) (hd : o.data = .fields vs)
    (hn : ["enumerate", "zip", "dict_itemiterator", "dict_reverseitemiterator", "odict_iterator", "itertools.zip_longest", "itertools.pairwise"].contains n = false) (hQ : Q () s) : wpAny M A (letOwnedTupleGo tg (.ref it) u) Q E s := by
  unfold letOwnedTupleGo
  cases tg <;> first
    | exact wpAny_pure hQ
    | (cases u <;> first
        | exact wpAny_pure hQ
        | (refine wpAny_bind (wpAny_load ho ?_)
           rw [hc, hd]
           show wpAny M A (if (["enumerate", "zip", "dict_itemiterator", "dict_reverseitemiterator", "odict_iterator", "itertools.zip_longest", "itertools.pairwise"].contains n && vs[0]? == some (rawInt _)) = true then _ else _) Q E s
           rw [if_neg (by intro h; rw [hn, Bool.false_and] at h; cases h)]
           exact wpAny_pure hQ))
def Itl (K:PySem.W.Frag) (a:Addr):It :=
 ⟨fun i H=>∃ xs x,SqL K H a xs/\xs[i]?=some x,fun i H x H'=>H'=H/\∀ xs,SqL K H a xs->xs[i]?=some x,fun i H=>∃ xs,SqL K H a xs/\xs.length<=i⟩
def Itt (K:PySem.W.Frag) (a:Addr):It :=
 ⟨fun i H=>∃ xs x,SqT K H a xs/\xs[i]?=some x,fun i H x H'=>H'=H/\∀ xs,SqT K H a xs->xs[i]?=some x,fun i H=>∃ xs,SqT K H a xs/\xs.length<=i⟩
def Itr (lo:Int) (n:Nat):It:=⟨fun i _=>i<n,fun i H x H'=>H'=H/\x=.int (lo + i),fun i _=>n<=i⟩
theorem x0R {P:Program}{w:World}{K:PySem.W.Frag}{tg:Expr} (a it:Addr):x0Q P w K tg (Itl K a) [it] it (fun i h=>h.IsListIter it a i) where
 mem:=by simp
 obj:=fun i h st b hb=>by
  have e:b=it:=by simpa using hb
  subst e
  obtain ⟨o,e,c,d⟩:=st
  exact ⟨o,e,fun v z=>by rw [d] at z;cases z⟩
 keep:=fun i h h' st k=>st.at fun o e=>k it (by simp) o e
 item:=by
  intro X hP hw hK hc i pins s σ H E I hf st hg
  subst hP hw hK
  obtain ⟨xs,x,hq,hx⟩:=hg
  obtain ⟨its,rv,p,hz⟩:=I.list hq
  obtain ⟨u,hu,ru⟩:=rv.get hx
  obtain ⟨f0,f1,f2,f3,f4,f5⟩:=hf it (by simp)
  refine wpAny_pyNext_list_item st p.isList (x:=u) (by simpa using hu) fun h' st' sb=>?_
  have I1:Inv X pins σ H { s with heap:=h' }:=I.turned (t':=s.toks) (fun b o hb e=>(sb.2 b hb).trans e) f0 f1 f3 f4 f5
  obtain ⟨o,e,c,d⟩:=id st'
  exact ⟨u,rfl,x3l (s:={ s with heap:=h' }) e c d (by decide) ⟨x,H,I1,ru,⟨rfl,fun ys hy=>by rw [I.list_inj hy hq];exact hx⟩,st',fun b hb=>(hf b hb).1⟩⟩
 done:=by
  intro X hP hw hK hc i pins s σ H E I hf st hg
  subst hP hw hK
  obtain ⟨xs,hq,hx⟩:=hg
  obtain ⟨its,rv,p,hz⟩:=I.list hq
  obtain ⟨f0,f1,f2,f3,f4,f5⟩:=hf it (by simp)
  have hl:=rv.length
  exact wpAny_pyNext_list_end (I.ok.hd hc) st p.isList (by simp;omega) fun h' eb=>⟨rfl,I.turned (t':=s.toks) (fun b o hb e=>eb b o hb e) f0 f1 f3 f4 f5⟩
 self:=fun _ _ _ _ _ st h=>wpAny_pyIter_listiter st h
theorem w8X {P:Program}{w:World}{K:PySem.W.Frag}{tg:Expr} (a it:Addr):x0Q P w K tg (Itt K a) [it] it (fun i h=>h.IsTupleIter it a i) where
 mem:=by simp
 obj:=fun i h st b hb=>by
  have e:b=it:=by simpa using hb
  subst e
  obtain ⟨o,e,c,d⟩:=st
  exact ⟨o,e,fun v z=>by rw [d] at z;cases z⟩
 keep:=fun i h h' st k=>st.at fun o e=>k it (by simp) o e
 item:=by
  intro X hP hw hK hc i pins s σ H E I hf st hg
  subst hP hw hK
  obtain ⟨xs,x,hq,hx⟩:=hg
  obtain ⟨its,rv,p,hz⟩:=I.tuple hq
  obtain ⟨u,hu,ru⟩:=rv.get hx
  obtain ⟨f0,f1,f2,f3,f4,f5⟩:=hf it (by simp)
  refine wpAny_pyNext_tuple_item st (show s.heap.IsTuple a its.toArray from p) (x:=u) (by simpa using hu) fun h' st' sb=>?_
  have I1:Inv X pins σ H { s with heap:=h' }:=I.turned (t':=s.toks) (fun b o hb e=>(sb.2 b hb).trans e) f0 f1 f3 f4 f5
  obtain ⟨o,e,c,d⟩:=id st'
  exact ⟨u,rfl,x3l (s:={ s with heap:=h' }) e c d (by decide) ⟨x,H,I1,ru,⟨rfl,fun ys hy=>by rw [I.tuple_inj hy hq];exact hx⟩,st',fun b hb=>(hf b hb).1⟩⟩
 done:=by
  intro X hP hw hK hc i pins s σ H E I hf st hg
  subst hP hw hK
  obtain ⟨xs,hq,hx⟩:=hg
  obtain ⟨its,rv,p,hz⟩:=I.tuple hq
  obtain ⟨f0,f1,f2,f3,f4,f5⟩:=hf it (by simp)
  have hl:=rv.length
  exact wpAny_pyNext_tuple_end (I.ok.hd hc) st (show s.heap.IsTuple a its.toArray from p) (by simp;omega) fun h' eb=>⟨rfl,I.turned (t':=s.toks) (fun b o hb e=>eb b o hb e) f0 f1 f3 f4 f5⟩
 self:=fun _ _ _ _ _ st h=>wpAny_pyIter_tupleiter st h
theorem w8Y {P:Program}{w:World}{K:PySem.W.Frag}{tg:Expr} (it:Addr) (lo:Int) (n:Nat):x0Q P w K tg (Itr lo n) [it] it (fun i h=>IsRangeIter h it (lo + (i:Nat) * 1) ((n:Int) - (i:Nat)) 1) where
 mem:=by simp
 obj:=fun i h st b hb=>by
  have e:b=it:=by simpa using hb
  subst e
  exact ⟨_,st,fun v z=>by
   have z':Data.fields _=Data.cell v:=z
   cases z'⟩
 keep:=fun i h h' st k=>k it (by simp) _ st
 item:=by
  intro X hP hw hK hc i pins s σ H E I hf st hg
  subst hP hw hK
  obtain ⟨f0,f1,f2,f3,f4,f5⟩:=hf it (by simp)
  have W:=Walks.range (prog:=X.prog) (w:=X.w) (I.ok.hd hc) it lo 1 n
  refine W.item i s _ _ hg st fun v h' tk hv st' kk=>?_
  obtain ⟨t,rfl⟩:=hv
  have I1:Inv X pins σ H { s with heap:=h',toks:=tk }:=I.turned (fun b o hb e=>kk b o (by simpa using hb) e) f0 f1 f3 f4 f5
  refine ⟨_,rfl,x3l (s:={ s with heap:=h',toks:=tk }) (n:="range_iterator") st' rfl rfl (by decide) ⟨.int (lo + i),H,I1,⟨t,?_⟩,⟨rfl,rfl⟩,st',fun b hb=>(hf b hb).1⟩⟩
  rw [Int.mul_one]
 done:=by
  intro X hP hw hK hc i pins s σ H E I hf st hg
  subst hP hw hK
  obtain ⟨f0,f1,f2,f3,f4,f5⟩:=hf it (by simp)
  exact wpAny_pyNext_range_end (I.ok.hd hc) st (by have:n<=i:=hg;omega) fun h' eb=>⟨rfl,I.turned (t':=s.toks) (fun b o hb e=>eb b o hb e) f0 f1 f3 f4 f5⟩
 self:=fun _ _ _ _ _ st h=>wpAny_pyIter_rangeiter st h
end L2
namespace L2
open PySem PySem.Spec PyProof.Rows
section
variable {X:Cx}{tg:Expr}
def x9U (K:PySem.W.Frag) (tl:TE):TI:=fun σ H R=>tl σ H fun x H1=>∃ a,x=.ref a/\(∃ xs,SqL K H1 a xs)/\R (Itl K a) H1
def y1A (K:PySem.W.Frag) (tl:TE):TI:=fun σ H R=>tl σ H fun x H1=>∃ a,x=.ref a/\(∃ xs,SqT K H1 a xs)/\R (Itt K a) H1
theorem q8y {l:Expr}{tl:TE} (hl:PE X l tl):PI X tg l (x9U X.K tl):=by
 intro pins s σ H R I h
 refine thn (hl pins s σ H _ I h) fun v s1 h_16=>?_
 obtain ⟨x,H1,I1,r1,q1⟩:=h_16
 obtain ⟨a,e,⟨xs,hq⟩,q⟩:=q1
 subst e
 cases r1
 obtain ⟨its,rv,p,hz⟩:=I1.list hq
 refine wpAny_pyIter_list p.isList ?_
 refine ⟨s1.heap.objs.size,[s1.heap.objs.size],_,_,H1,rfl,I1.kept (t':=s1.toks) fun b o e=>Heap.get?_push_of_some _ e,x0R a _,⟨_,Heap.get?_push_size _ rfl,rfl,rfl⟩,fun b hb=>?_,q⟩
 have e:b=s1.heap.objs.size:=by simpa using hb
 subst e
 exact I1.fpOk (Nat.le_refl _) (I1.hok.fresh (Nat.le_refl _))
theorem x4M {l:Expr}{tl:TE} (hl:PE X l tl):PI X tg l (y1A X.K tl):=by
 intro pins s σ H R I h
 refine thn (hl pins s σ H _ I h) fun v s1 h_17=>?_
 obtain ⟨x,H1,I1,r1,q1⟩:=h_17
 obtain ⟨a,e,⟨xs,hq⟩,q⟩:=q1
 subst e
 cases r1
 obtain ⟨its,rv,p,hz⟩:=I1.tuple hq
 refine wpAny_pyIter_tuple (show s1.heap.IsTuple a its.toArray from p) ?_
 refine ⟨s1.heap.objs.size,[s1.heap.objs.size],_,_,H1,rfl,I1.kept (t':=s1.toks) fun b o e=>Heap.get?_push_of_some _ e,w8X a _,⟨_,Heap.get?_push_size _ rfl,rfl,rfl⟩,fun b hb=>?_,q⟩
 have e:b=s1.heap.objs.size:=by simpa using hb
 subst e
 exact I1.fpOk (Nat.le_refl _) (I1.hok.fresh (Nat.le_refl _))
theorem x3m {pins:List (Addr×Obj)}{σ:St}{H:Hp}{s:Shared}{R:It->Hp->Prop}{E:Value->Shared->Prop}{lo hi:Int}{t u v:Tok}{tk:Nat} (I:Inv X pins σ H s) (h1:-(2 ^ 62)<=lo) (h2:lo<2 ^ 62) (h3:-(2 ^ 62)<=hi) (h4:hi<2 ^ 62)
  (q:R (Itr lo (hi - lo).toNat) H):wpAny (model X.prog X.w) X.A (pyIter (.ref s.heap.objs.size)) (PIE X pins σ tg R) E { s with heap:=s.heap.push { cls:=.type "range",data:=.fields #[.int lo t,.int hi u,.int 1 v] },toks:=tk }:=by
 refine wpAny_pyIter_range (IsRange.new ..) (small_one h1 h2 h3 h4) ?_
 have I1:Inv X pins σ H { s with heap:=s.heap.push { cls:=.type "range",data:=.fields #[.int lo t,.int hi u,.int 1 v] },toks:=tk }:=I.kept fun b o e=>Heap.get?_push_of_some _ e
 refine ⟨(s.heap.push { cls:=.type "range",data:=.fields #[.int lo t,.int hi u,.int 1 v] }).objs.size,[(s.heap.push { cls:=.type "range",data:=.fields #[.int lo t,.int hi u,.int 1 v] }).objs.size],_,_,H,rfl,
  I1.kept (t':=tk) fun b o e=>Heap.get?_push_of_some _ e,w8Y _ lo (hi - lo).toNat,?_,fun b hb=>?_,q⟩
 ·have e1:lo + ((0:Nat):Int) * 1=lo:=by simp
  have e2:(((hi - lo).toNat:Nat):Int) - ((0:Nat):Int)=Builtin.Range.rangeSize lo hi 1:=by rw [rangeSize_one];split<;>omega
  show IsRangeIter _ _ (lo + ((0:Nat):Int) * 1) ((((hi - lo).toNat:Nat):Int) - ((0:Nat):Int)) 1
  rw [e1,e2]
  exact Heap.get?_push_size _ rfl
 ·have e:b=(s.heap.push { cls:=.type "range",data:=.fields #[.int lo t,.int hi u,.int 1 v] }).objs.size:=by simpa using hb
  subst e
  exact I1.fpOk (Nat.le_refl _) (I1.hok.fresh (Nat.le_refl _))
def x9V (ta:TA):TI:=fun σ H R=>ta σ H fun vs H1=>∃ j:Int,vs=[.int j]/\-(2 ^ 62)<=j/\j<2 ^ 62/\R (Itr 0 j.toNat) H1
theorem x0S {a:Expr}{ta:TA}{p pos:Pos} (hg:Gl X "range") (hm:X.mg "range"=none) (ha:PA X [a] ta) (hs:starEach [a] X.env=[(false,eval a X.env)]:=by rfl):PI X tg (.Call (.Name "range" p) [a] [] pos) (x9V ta):=by
 intro pins s σ H R I h
 refine Call_ (q7A I hg hm boot_range (PyProof.Rows.callWith_type1 (thn (ha pos pins s σ H _ I h) fun us s1 ⟨vs,H1,I1,r1,q1⟩=>?_) hs rfl))
 obtain ⟨j,e,q1,q2,q⟩:=q1
 subst e
 cases r1 with
 | cons r rr =>
  cases rr
  obtain ⟨t,rfl⟩:=r
  exact call_range_1 (x3m I1 (by omega) (by omega) q1 q2 (by simpa using q))
inductive TFI (g:TG) (tb:TS) (D:w7R) (σ:St) (J:It) (H1:Hp):Prop
 | mk (W:Nat->Nat->St->Hp->Prop) (w0:∃ m,W 0 m σ H1) (turn:∀ i m σ H,W i m σ H ->
 (J.stop i H/\D.nx σ H)\/(J.go i H/\∃ N:St->Hp->Prop,(∀ σ' H',N σ' H'->∃ m',m'<m/\W (i + 1) m' σ' H')/\∀ x H',J.yld i H x H'->g x σ H' fun σ2 H2=>tb { D with nx:=N,ct:=N,bk:=D.nx } σ2 H2)):TFI g tb D σ J H1
def y1B (wi:TI) (g:TG) (tb:TS):TS:=fun D σ H=>wi σ H (TFI g tb D σ)
def w0F (fp:List Addr) (h:Heap):List (Addr×Obj):=fp.filterMap fun b=>(h.get? b).map fun o=>(b,o)
theorem q38 {fp:List Addr}{h:Heap}{b:Addr}{o:Obj} (hb:b∈fp) (e:h.get? b=some o):(b,o)∈w0F fp h:=List.mem_filterMap.mpr ⟨b,hb,by rw [e];rfl⟩
theorem x0T {fp:List Addr}{h:Heap}{p:Addr×Obj} (hp:p∈w0F fp h):p.1∈fp/\h.get? p.1=some p.2:=by
 obtain ⟨b,hb,e⟩:=List.mem_filterMap.mp hp
 cases q:h.get? b with
 | none=>rw [q] at e;cases e
 | some o =>
  rw [q] at e
  have e':(b,o)=p:=Option.some.inj e
  subst e'
  exact ⟨hb,q⟩
theorem Inv.pinned {pins:List (Addr×Obj)}{σ:St}{H:Hp}{s:Shared}{fp:List Addr} (I:Inv X pins σ H s) (hf:∀ b∈fp,w3c X pins H b) (ho:∀ b∈fp,∃ o,s.heap.get? b=some o/\∀ v,o.data≠.cell v):Inv X (pins++w0F fp s.heap) σ H s :=
 I.pins_of fun p hp=>(List.mem_append.mp hp).elim (fun z=>I.pin p (List.mem_append_right _ z)) fun z=>by
  obtain ⟨hb,e⟩:=x0T z
  obtain ⟨f0,f1,f2,_⟩:=hf p.1 hb
  obtain ⟨o,e',d⟩:=ho p.1 hb
  rw [e] at e';cases e'
  exact ⟨e,f0,f1,f2,d⟩
theorem Inv.unpinned {pins pl:List (Addr×Obj)}{σ:St}{H:Hp}{s:Shared} (I:Inv X (pins++pl) σ H s):Inv X pins σ H s:=I.pins_of fun p hp=>I.pin p (List.mem_append_right _ (List.mem_append_left _ hp))
theorem x4N {iter:Expr}{body:List Stmt}{wi:TI}{g:TG}{tb:TS}{pos:Pos} (hp:PassesOwn (model X.prog X.w) X.A X.env X.xe) (hc:X.calm=true) (hi:PI X tg iter wi) (hg:PG X tg g) (hb:PSs X body tb)
  (hs:∀ x,foldedSetIterable iter X.env x=pure x:=by intro _;rfl):PS X (.For tg iter body [] pos) (y1B wi g tb):=by
 intro pins s σ H D I h
 refine wpAny_For (thn (hi pins s σ H _ I h) fun v s1 h1=>thn h1 fun itv s2 h2=>?_) hs
 obtain ⟨it,fp,tn,J,H2,e,I2,T,st2,f2,W,⟨m0,w0⟩,turn⟩:=h2
 subst e
 have stat:∀ {H':Hp},(∀ b∈fp,H' b=none)->∀ b∈fp,w3c X pins H' b:=fun hn b hb=>⟨hn b hb,(f2 b hb).f1,(f2 b hb).f2,(f2 b hb).f3,(f2 b hb).f4,(f2 b hb).f5⟩
 refine codeAny_forLoop_any (FLI X pins tn fp W) ?_ m0 ⟨0,σ,H2,I2,st2,fun b hb=>(f2 b hb).1,w0⟩
 rintro n s3 ⟨i,σ3,H3,I3,st3,fr3,w3⟩
 rcases turn i n σ3 H3 w3 with ⟨stop,qn⟩ | ⟨go,N,hN,step⟩
 ·refine wpAny_passesOwn hp (thn (T.done X rfl rfl rfl hc i pins s3 σ3 H3 X.xe I3 (stat fr3) st3 stop) fun r s4 ⟨hr,I4⟩=>?_)
  subst hr
  exact wpAny_execs_nil ⟨σ3,H3,I4,qn⟩
 ·refine wpAny_passesOwn hp (thn (T.item X rfl rfl rfl hc i pins s3 σ3 H3 X.xe I3 (stat fr3) st3 go) fun r s4 ⟨u,hr,h4⟩=>?_)
  subst hr
  refine wpAny_passesOwn hp (thn h4 fun _ s5 ⟨x,H5,I5,r5,y5,st5,fr5⟩=>?_)
  have I5':=I5.pinned (stat fr5) (T.obj _ _ st5)
  refine wpAny_passesOwn hp (thn (hg _ s5 σ3 H5 x u _ I5' r5 (step x H5 y5)) fun _ s6 ⟨σ6,H6,I6,q6⟩=>?_)
  refine wpAny_passesOwn hp (thn (hb _ s6 σ6 H6 _ I6 q6) fun f s7 q7=>?_)
  have again:∀ {σ7:St}{H7:Hp},Inv X (pins++w0F fp s5.heap) σ7 H7 s7->N σ7 H7->∃ m,m<n/\FLI X pins tn fp W m s7:=fun {σ7 H7} I7 n7=>by
   obtain ⟨m',hm,w7⟩:=hN σ7 H7 n7
   refine ⟨m',hm,i + 1,σ7,H7,I7.unpinned,T.keep _ _ _ st5 fun b hb o e=>(I7.pin (b,o) (List.mem_append_right _ (List.mem_append_right _ (q38 hb e)))).1,fun b hb=>?_,w7⟩
   obtain ⟨o,e,d⟩:=T.obj _ _ st5 b hb
   exact (I7.pin (b,o) (List.mem_append_right _ (List.mem_append_right _ (q38 hb e)))).2.1
  cases f with
  | next=>obtain ⟨σ7,H7,I7,n7⟩:=q7;exact again I7 n7
  | cont=>obtain ⟨σ7,H7,I7,n7⟩:=q7;exact again I7 n7
  | brk=>obtain ⟨σ7,H7,I7,q7⟩:=q7;exact ⟨σ7,H7,I7.unpinned,q7⟩
  | ret v=>obtain ⟨x7,σ7,H7,I7,r7,q7⟩:=q7;exact ⟨x7,σ7,H7,I7.unpinned,r7,q7⟩
end
end L2
namespace L2
open PySem PySem.Spec PyProof.Rows
abbrev R2:=V->V->Hp->VK->Prop
def OpR (X:Cx) (f:Value->Value->Sem Value) (r:R2):Prop :=
 ∀ (pins:List (Addr×Obj)) (s:Shared) (σ:St) (H:Hp) (x y:V) (v u:Value) (Q:VK),Inv X pins σ H s->q1Z x v->q1Z y u->r x y H Q ->
  wpAny (model X.prog X.w) X.A (f v u) (EP X pins σ Q) X.xe s
def UnR (X:Cx) (f:Value->Sem Value) (r:V->Hp->VK->Prop):Prop :=
 ∀ (pins:List (Addr×Obj)) (s:Shared) (σ:St) (H:Hp) (x:V) (v:Value) (Q:VK),Inv X pins σ H s->q1Z x v->r x H Q ->
  wpAny (model X.prog X.w) X.A (f v) (EP X pins σ Q) X.xe s
def q4y (X:Cx) (f:Value) (r:List V->Hp->VK->Prop):Prop :=
 ∀ (pins:List (Addr×Obj)) (s:Shared) (σ:St) (H:Hp) (xs:List V) (us:List Value) (Q:VK),Inv X pins σ H s->q28 xs us->r xs H Q ->
  wpAny (model X.prog X.w) X.A (call f us) (EP X pins σ Q) X.xe s
def tOp (r:R2) (ta tb:TE):TE:=fun σ H Q=>ta σ H fun x H1=>tb σ H1 fun y H2=>r x y H2 Q
def tUn (r:V->Hp->VK->Prop) (ta:TE):TE:=fun σ H Q=>ta σ H fun x H1=>r x H1 Q
inductive rII (C:Int->Int->Prop) (g:Int->Int->V) (x:V) (y:V) (H:Hp) (Q:VK):Prop
 | mk (i j:_) (h0:x=.int i) (h1:y=.int j) (h2:C i j) (h3:Q (g i j) H):rII C g x y H Q
def rI (C:Int->Int->Prop) (g:Int->Int->V):R2:=rII C g
inductive y0N (g:Int->Int->V) (x:V) (y:V) (H:Hp) (Q:VK):Prop
 | mk (i j:_) (h0:x=.int i) (h1:y=.int j) (h2:Q (g i j) H):y0N g x y H Q
def rI0 (g:Int->Int->V):R2:=y0N g
inductive rUI (g:Int->V) (x:V) (H:Hp) (Q:VK):Prop
 | mk (i:_) (h0:x=.int i) (h1:Q (g i) H):rUI g x H Q
def rU (g:Int->V):V->Hp->VK->Prop:=rUI g
section
variable {X:Cx}{a b c:Expr}{ta tb tc:TE}{pos:Pos}
theorem x9W (ha:PE X a ta) (hb:PE X b tb) {pins:List (Addr×Obj)}{s:Shared}{σ:St}{H:Hp}{R:V->V->Hp->Prop} (I:Inv X pins σ H s)
  (h:ta σ H fun x H1=>tb σ H1 fun y H2=>R x y H2) {Q:Value->Shared->Prop}{f:Value->Value->Sem Value}
  (hf:∀ v u s2 x y H2,Inv X pins σ H2 s2->q1Z x v->q1Z y u->R x y H2->wpAny (model X.prog X.w) X.A (f v u) Q X.xe s2) :
  wpAny (model X.prog X.w) X.A (eval a X.env) (fun v s₁=>wpAny (model X.prog X.w) X.A (eval b X.env) (fun u s₂=>wpAny (model X.prog X.w) X.A (f v u) Q X.xe s₂) X.xe s₁) X.xe s:=by
 refine thn (ha pins s σ H _ I h) fun v s1 h_19=>?_
 obtain ⟨x,H1,I1,r1,q1⟩:=h_19
 refine thn (hb pins s1 σ H1 _ I1 q1) fun u s2 h_20=>?_
 obtain ⟨y,H2,I2,r2,q2⟩:=h_20
 exact hf v u s2 x y H2 I2 r1 r2 q2
theorem x7O {op:Operator}{r:R2} (ho:OpR X (binaryOp op) r) (ha:PE X a ta) (hb:PE X b tb):PE X (.BinOp a op b pos) (tOp r ta tb):=by
 intro pins s σ H Q I h
 exact wpAny_BinOp (x9W ha hb I h fun v u s2 x y H2 I2 rx ry q=>ho pins s2 σ H2 x y v u Q I2 rx ry q)
theorem x9X {op:UnaryOp}{r:V->Hp->VK->Prop} (ho:UnR X (unaryOp op) r) (ha:PE X a ta):PE X (.UnaryOp op a pos) (tUn r ta):=by
 intro pins s σ H Q I h
 exact UnaryOp_ (thn (ha pins s σ H _ I h) fun v s1 h_21=>by obtain ⟨x,H1,I1,r1,q1⟩:=h_21;exact ho pins s1 σ H1 x v Q I1 r1 q1)
theorem opI {f:Value->Value->Sem Value}{C:Int->Int->Prop}{g:Int->Int->Int}
  (rule:∀ (i j:Int) (t u:Tok) (s:Shared) (Q:Value->Shared->Prop) (E:Value->Shared->Prop),C i j->Q (.int (g i j) s.toks) { s with toks:=s.toks + 1 }->wpAny (model X.prog X.w) X.A (f (.int i t) (.int j u)) Q E s) :
  OpR X f (rI C fun i j=>.int (g i j)):=by
 intro pins s σ H x y v u Q I rx ry h
 obtain ⟨i,j,rfl,rfl,hc,q⟩:=h
 obtain ⟨t,rfl⟩:=rx
 obtain ⟨t',rfl⟩:=ry
 exact rule i j t t' s _ _ hc ⟨.int (g i j),H,I.tok _,⟨_,rfl⟩,q⟩
theorem y1C {f:Value->Value->Sem Value}{g:Int->Int->Int}
  (rule:∀ (i j:Int) (t u:Tok) (s:Shared) (Q:Value->Shared->Prop) (E:Value->Shared->Prop),Q (.int (g i j) s.toks) { s with toks:=s.toks + 1 }->wpAny (model X.prog X.w) X.A (f (.int i t) (.int j u)) Q E s) :
  OpR X f (rI0 fun i j=>.int (g i j)):=by
 intro pins s σ H x y v u Q I rx ry h
 obtain ⟨i,j,rfl,rfl,q⟩:=h
 obtain ⟨t,rfl⟩:=rx
 obtain ⟨t',rfl⟩:=ry
 exact rule i j t t' s _ _ ⟨.int (g i j),H,I.tok _,⟨_,rfl⟩,q⟩
theorem x9Y {f:Value->Value->Sem Value}{g:Int->Int->Bool}
  (rule:∀ (i j:Int) (t u:Tok) (s:Shared) (Q:Value->Shared->Prop) (E:Value->Shared->Prop),Q (.bool (g i j)) s->wpAny (model X.prog X.w) X.A (f (.int i t) (.int j u)) Q E s) :
  OpR X f (rI0 fun i j=>.bl (g i j)):=by
 intro pins s σ H x y v u Q I rx ry h
 obtain ⟨i,j,rfl,rfl,q⟩:=h
 obtain ⟨t,rfl⟩:=rx
 obtain ⟨t',rfl⟩:=ry
 exact rule i j t t' s _ _ ⟨.bl (g i j),H,I,rfl,q⟩
def y1D (i j:Int):Prop:=0<j/\j<1073741824
def x9Z (i j:Int):Prop:=(-(2 ^ 64)<i/\i<2 ^ 64)\/(-(2 ^ 64)<j/\j<2 ^ 64)
theorem x9Z.ok {i j:Int} (h:x9Z i j):IntMulOk i j:=by
 rcases h with ⟨h1,h2⟩ | ⟨h1,h2⟩
 ·exact .of_left (intBits_le_64 h1 h2)
 ·exact .of_right (intBits_le_64 h1 h2)
theorem x7P:OpR X (binaryOp .Add) (rI0 fun i j=>.int (i + j)):=y1C fun _ _ _ _ _ _ _ q=>add_int q
theorem x7Q:OpR X (binaryOp .Mult) (rI x9Z fun i j=>.int (i * j)):=opI fun _ _ _ _ _ _ _ hc q=>mul_int q hc.ok
theorem x66:OpR X (binaryOp .FloorDiv) (rI y1D fun i j=>.int (i / j)):=opI fun i j _ _ _ _ _ hc q=>by
 have h1:(0:Int)<j:=hc.1
 have h2:j<1073741824:=hc.2
 exact floordiv_int (by omega) (by rw [Int.fdiv_eq_ediv_of_nonneg i (by omega)];exact q) (.inl (PyProof.noPylong_small (by omega)))
theorem x7R:OpR X (binaryOp .Mod) (rI (fun _ j=>0<j) fun i j=>.int (i % j)):=opI fun i j _ _ _ _ _ hc q=>by
 have h1:(0:Int)<j:=hc
 exact mod_int' (by omega) (by rw [Int.fmod_eq_emod_of_nonneg i (by omega)];exact q)
theorem unI {f:Value->Sem Value}{g:Int->Int}
  (rule:∀ (i:Int) (t:Tok) (s:Shared) (Q:Value->Shared->Prop) (E:Value->Shared->Prop),Q (.int (g i) s.toks) { s with toks:=s.toks + 1 }->wpAny (model X.prog X.w) X.A (f (.int i t)) Q E s) :
  UnR X f (rU fun i=>.int (g i)):=by
 intro pins s σ H x v Q I rx h
 obtain ⟨i,rfl,q⟩:=h
 obtain ⟨t,rfl⟩:=rx
 exact rule i t s _ _ ⟨.int (g i),H,I.tok _,⟨_,rfl⟩,q⟩
theorem x7S:UnR X (unaryOp .USub) (rU fun i=>.int (-i)):=unI fun _ _ _ _ _ q=>neg_int q
end
section
variable {X:Cx}{a b c:Expr}{ta tb tc:TE}{pos:Pos}
theorem w7S {pins:List (Addr×Obj)}{σ:St}{H:Hp}{s:Shared}{Q:VK}{k k':Bool} (I:Inv X pins σ H s) (q:Q (.bl k) H) (e:k=k'):EP X pins σ Q (.bool k') s:=by
 subst e
 exact ⟨.bl k,H,I,rfl,q⟩
theorem y00:OpR X (compareOp .Lt) (rI0 fun i j=>.bl (decide (i<j))):=x9Y fun _ _ _ _ _ _ _ q=>lt_int q
theorem y01:OpR X (compareOp .LtE) (rI0 fun i j=>.bl (decide (i<=j))):=x9Y fun _ _ _ _ _ _ _ q=>le_int q
theorem y02:OpR X (compareOp .Gt) (rI0 fun i j=>.bl (decide (j<i))):=x9Y fun _ _ _ _ _ _ _ q=>gt_int q
theorem x0U:OpR X (compareOp .Lt) (fun x y H Q=>∃ i j,x=.str i/\y=.str j/\Q (.bl (decide (i.cps.toList<j.cps.toList))) H):=by
 intro pins s σ H x y v u Q I rx ry h
 obtain ⟨i,j,rfl,rfl,q⟩:=h
 obtain ⟨t,rfl⟩:=rx
 obtain ⟨t',rfl⟩:=ry
 exact lt_str (w7S I q rfl)
theorem x7T:OpR X (compareOp .Is) (fun x y H Q=>y=.non/\Q (.bl (decide (x=.non))) H):=by
 intro pins s σ H x y v u Q I rx ry h
 obtain ⟨rfl,q⟩:=h
 cases ry
 refine is_none_gen (w7S I q ?_)
 cases x<;>first
  | (cases rx;rfl)
  | (obtain ⟨t,rfl⟩:=rx;rfl)
theorem x67:OpR X (compareOp .IsNot) (fun x y H Q=>y=.non/\Q (.bl (!decide (x=.non))) H):=by
 intro pins s σ H x y v u Q I rx ry h
 obtain ⟨rfl,q⟩:=h
 cases ry
 refine isnot_none_gen (w7S I q ?_)
 cases x<;>first
  | (cases rx;rfl)
  | (obtain ⟨t,rfl⟩:=rx;rfl)
theorem x4O (b:Expr) {op:CmpOp} (h:op≠.In:=by decide) (h2:op≠.NotIn:=by decide):behindInMarks op b=false:=by
 have e1:(op == CmpOp.In)=false:=by cases op<;>first | rfl | exact absurd rfl h
 have e2:(op == CmpOp.NotIn)=false:=by cases op<;>first | rfl | exact absurd rfl h2
 cases b<;>simp [behindInMarks,e1,e2]
theorem x68 {op:CmpOp}{r:R2} (ho:OpR X (compareOp op) r) (ha:PE X a ta) (hb:PE X b tb) (hm:behindInMarks op b=false):PE X (.Compare a [op] [b] pos) (tOp r ta tb):=by
 intro pins s σ H Q I h
 exact wpAny_Compare1 (x9W ha hb I h fun v u s2 x y H2 I2 rx ry q=>ho pins s2 σ H2 x y v u Q I2 rx ry q) hm
def x7U (t:TE):TT:=fun σ H Q=>t σ H fun x H'=>∃ k,x=.bl k/\Q k H'
theorem x69 {op:CmpOp}{r:R2} (ho:OpR X (compareOp op) r) (ha:PE X a ta) (hb:PE X b tb) (hm:behindInMarks op b=false):PT X (.Compare a [op] [b] pos) (x7U (tOp r ta tb)):=by
 intro pins s σ H Q I h
 refine wpAny_isTrue_Compare1 (thn (ha pins s σ H _ I h) fun v s1 ⟨x,H1,I1,r1,q1⟩=>thn (hb pins s1 σ H1 _ I1 q1) fun u s2 ⟨y,H2,I2,r2,q2⟩ =>
  thn (ho pins s2 σ H2 x y v u _ I2 r1 r2 q2) fun c s3 ⟨z,H3,I3,r3,k,e,q3⟩=>?_) hm
 subst e
 cases r3
 exact wpAny_truthy_bool ⟨H3,I3,q3⟩
def x0V (r r':R2) (ta tb tc:TE):TE:=fun σ H Q=>ta σ H fun x H1=>tb σ H1 fun y H2=>r x y H2 fun z H3=>∃ k,z=.bl k /\
 (if k=true then tc σ H3 fun w' H4=>r' y w' H4 Q else Q (.bl false) H3)
theorem x3n {op op':CmpOp}{r r':R2} (ho:OpR X (compareOp op) r) (ho':OpR X (compareOp op') r') (ha:PE X a ta) (hb:PE X b tb) (hc:PE X c tc)
  (hm:lastMarks [op,op'] [b,c]=false:=by with_unfolding_all rfl):PE X (.Compare a [op,op'] [b,c] pos) (x0V r r' ta tb tc):=by
 intro pins s σ H Q I h
 refine Compare_chain (thn (ha pins s σ H _ I h) fun v s1 ⟨x,H1,I1,r1,q1⟩=>chain_link (thn (hb pins s1 σ H1 _ I1 q1) fun u s2 ⟨y,H2,I2,r2,q2⟩ =>
  thn (ho pins s2 σ H2 x y v u _ I2 r1 r2 q2) fun d s3 ⟨z,H3,I3,r3,k,e,q3⟩=>?_)) hm
 subst e
 cases r3
 refine wpAny_truthy_bool ?_
 cases k with
 | false=>exact ite_ff ⟨.bl false,H3,I3,rfl,q3⟩
 | true=>exact ite_tt (chain_last (thn (hc pins s3 σ H3 _ I3 q3) fun w' s4 h_22=>by obtain ⟨z',H4,I4,r4,q4⟩:=h_22;exact ho' pins s4 σ H4 y z' u w' Q I4 r2 r4 q4))
theorem x3o {op op':CmpOp}{r r':R2} (ho:OpR X (compareOp op) r) (ho':OpR X (compareOp op') r') (ha:PE X a ta) (hb:PE X b tb) (hc:PE X c tc)
  (hm:lastMarks [op,op'] [b,c]=false:=by with_unfolding_all rfl):PT X (.Compare a [op,op'] [b,c] pos) (x7U (x0V r r' ta tb tc)):=by
 intro pins s σ H Q I h
 refine isTrue_chain (thn (ha pins s σ H _ I h) fun v s1 ⟨x,H1,I1,r1,q1⟩=>test_link (thn (hb pins s1 σ H1 _ I1 q1) fun u s2 ⟨y,H2,I2,r2,q2⟩ =>
  thn (ho pins s2 σ H2 x y v u _ I2 r1 r2 q2) fun d s3 ⟨z,H3,I3,r3,k,e,q3⟩=>?_)) hm
 subst e
 cases r3
 refine wpAny_truthy_bool ?_
 cases k with
 | false =>
  obtain ⟨k',e',q'⟩:=q3
  cases e'
  exact ite_ff ⟨H3,I3,q'⟩
 | true =>
  refine ite_tt (test_last (thn (hc pins s3 σ H3 _ I3 q3) fun w' s4 ⟨z',H4,I4,r4,q4⟩=>thn (ho' pins s4 σ H4 y z' u w' _ I4 r2 r4 q4) fun d' s5 ⟨z2,H5,I5,r5,k2,e2,q5⟩=>?_))
  subst e2
  cases r5
  exact wpAny_truthy_bool ⟨H5,I5,q5⟩
theorem w3d:(sizeLine:Nat)<2 ^ 63:=by rw [sizeLine_eq];decide
theorem w8Z:OpR X (binaryOp .Add) (fun x y H Q=>∃ i j,x=.str i/\y=.str j/\i.length + j.length<=sizeLine/\Q (.str (i++j)) H):=by
 intro pins s σ H x y v u Q I rx ry h
 obtain ⟨i,j,rfl,rfl,hz,q⟩:=h
 obtain ⟨t,rfl⟩:=rx
 obtain ⟨t',rfl⟩:=ry
 exact add_str (fun t' tk=>⟨.str (i++j),H,I.tok _,⟨_,rfl⟩,q⟩) hz
theorem q4A {x:V}{us:List Value} (r:q28 [x] us):∃ u,us=[u]/\q1Z x u:=by
 cases r with
 | cons r1 r2=>cases r2;exact ⟨_,rfl,r1⟩
theorem x7V {x y:V}{us:List Value} (r:q28 [x,y] us):∃ u w',us=[u,w']/\q1Z x u/\q1Z y w':=by
 cases r with
 | cons r1 r2 =>
  cases r2 with
  | cons r3 r4=>cases r4;exact ⟨_,_,rfl,r1,r3⟩
end
end L2
namespace L2
open PySem PySem.Spec PyProof.Rows
structure y03 (h:Heap) (x dx C:Addr) (mA:Str->Option Value):Prop where
 obj:h.get? x=some (PySem.W.instObj C dx)
 ns:h.Ns1 dx mA
 ne:dx≠x
theorem x0W {h:Heap}{dx:Addr}{mA:Str->Option Value} (n:h.Ns1 dx mA):∃ od,h.get? dx=some od/\∀ name,PySem.W.lookIn name od=some (mA name):=by
 obtain ⟨o,es,ep,ho,hd,hk,_,hm⟩:=n
 refine ⟨o,ho,fun name=>?_⟩
 have e:=hm name
 unfold nsFind findBy at e
 rw [<- Array.find?_toList] at e
 unfold PySem.W.lookIn
 rw [hd]
 dsimp only
 split
 ·rename_i y q
  rw [q] at e
  exact congrArg some e
 ·rename_i q
  rw [q] at e
  have a:es.toList.any (·.refKey)=false:=by
   rw [List.any_eq_false]
   intro y hy
   obtain ⟨z,t,hkey⟩:=hk y (Array.mem_toList_iff.mp hy)
   simp [DictEntry.refKey,hkey]
  have a':¬ es.toList.any (·.refKey)=true:=by rw [a];exact Bool.false_ne_true
  rw [if_neg a']
  exact congrArg some e
theorem y03.look {h:Heap}{x dx C:Addr}{mA:Str->Option Value} (I:y03 h x dx C mA):∃ od,PySem.W.InstAt h x (PySem.W.instObj C dx) C (some od)/\∀ name,PySem.W.lookIn name od=some (mA name) :=
 let ⟨od,ho,hl⟩:=x0W I.ns
 ⟨od,⟨I.obj,rfl,rfl,ho⟩,hl⟩
section
variable {prog:Program}{w:World}{A:Around}{E:Value->Shared->Prop}{s:Shared}{K:PySem.W.Frag}{x dx C f:Addr}{mA:Str->Option Value}{name:Str}{v:Value}
end
theorem x0M.some_of {v:V}{o:Option Value} (r:x0M (some v) o):∃ u,o=some u/\q1Z v u:=by
 cases o with
 | none=>exact (show False from r).elim
 | some u=>exact ⟨u,rfl,r⟩
section
variable {P:Program}{w:World}{H H':Hp}{h h':Heap}{a C dx:Addr}{fs fs':List (Str×V)}
theorem x6a (hok:HOk P w H h) (e:H a=some (.ins C dx fs)):∃ mA,y03 h a dx C mA/\(∀ f,x0M (fs.lookup f) (mA f))/\PySem.Within mA (fs.map (·.1))/\fs.length<=1000/\H dx=some (.own a):=by
 obtain ⟨d,z,ne,ob,mA,n,r,q⟩:=(show q1d P w H h a (.ins C dx fs) from hok a _ e)
 exact ⟨mA,⟨ob,n,ne⟩,r,q,z,d⟩
end
structure Cls (K:PySem.W.Frag) (C:Addr):Prop where
 pg:PySem.W.plainGet K C Str.empty=true
 hd:PySem.W.hasDictIn K C=true
 po:PySem.W.plainOver K C=true
 sa:PySem.W.findIn K (.ref C) "__setattr__"=some (some (.builtin "object.__setattr__"))
theorem Cls.get {K:PySem.W.Frag}{C:Addr} (c:Cls K C) (f:Str):PySem.W.plainGet K C f=true:=c.pg
section
variable {X:Cx}{pins:List (Addr×Obj)}{σ:St}{H:Hp}{s:Shared}{a C dx:Addr}{fs:List (Str×V)}{f:Str}{v:V}{A:Around}{E:Value->Shared->Prop}
end
section
variable {X:Cx}{o e value:Expr}{f:Str}{pos pos' tpos:Pos}{ta tv:TE}
end
section
variable {X:Cx}{pins:List (Addr×Obj)}{σ:St}{H:Hp}{s:Shared}{A:Around}{E:Value->Shared->Prop}{Q:Value->Shared->Prop}{c:Value}{b:Bool}
inductive x0H (K:PySem.W.Frag) (H:Hp):V->Value->Prop where
 | non:x0H K H .non (.type "NoneType")
 | bl (x:Bool):x0H K H (.bl x) (.type "bool")
 | int (i:Int):x0H K H (.int i) (.type "int")
 | str (x:Str):x0H K H (.str x) (.type "str")
 | flt (x:UInt64):x0H K H (.flt x) (.type "float")
 | lst {a:Addr}{xs:List V} (e:H a=some (.lst xs)):x0H K H (.ref a) (.type "list")
 | frz {a:Addr}{o:Obj}{xs:List V} (e:H a=some (.frz o (.lst xs))):x0H K H (.ref a) (.type "list")
 | tup {a:Addr}{xs:List V} (e:H a=some (.tup xs)):x0H K H (.ref a) (.type "tuple")
 | dK {a:Addr}{kvs:List (Key×V)} (e:H a=some (.dK kvs)):x0H K H (.ref a) (.type "dict")
 | dT {a:Addr}{kvs:List (List Key×V)} (e:H a=some (.dT kvs)):x0H K H (.ref a) (.type "dict")
 | ins {a C dx:Addr}{fs:List (Str×V)} (e:H a=some (.ins C dx fs)) (cl:Cls K C) (ha:PySem.W.findIn K (.ref C) "__class__"=some (some (.builtin "object.__class__")))
   (hn:PySem.W.specialIn K (.builtin "object.__class__") "__get__"=some (some (.builtin "getset_descriptor.__get__"))) (htk:PySem.W.takesIn K (.builtin "object.__class__")=some true)
   (hm:PySem.W.mroIn K C (.type "object")=some true):x0H K H (.ref a) (.ref C)
theorem q61 {x:V}{u t:Value} (I:Inv X pins σ H s) (rx:q1Z x u) (ty:x0H X.K H x t) (e:PySem.W.kitOne X.K t c=some b) (h:∀ tk,Q (.bool b) { s with toks:=tk }) :
  wpAny (model X.prog X.w) A (call (.builtin "isinstance") [u,c]) Q E s:=by
 cases ty with
 | non=>cases (show u=Value.none from rx);exact PySem.W.kia_one PySem.W.kitx_none I.kIn True.intro e (fun z=>nomatch z) h
 | bl y=>cases (show u=Value.bool y from rx);exact PySem.W.kia_one PySem.W.kitx_bool I.kIn True.intro e (fun z=>nomatch z) h
 | int i=>obtain ⟨t,q⟩:=(show ∃ t,u=Value.int i t from rx);cases q;exact PySem.W.kia_one PySem.W.kitx_int I.kIn True.intro e (fun z=>nomatch z) h
 | str y=>obtain ⟨t,q⟩:=(show ∃ t,u=Value.str y t from rx);cases q;exact PySem.W.kia_one PySem.W.kitx_str I.kIn True.intro e (fun z=>nomatch z) h
 | flt y=>obtain ⟨t,q⟩:=(show ∃ t,u=Value.float y t from rx);cases q;exact PySem.W.kia_one PySem.W.kitx_float I.kIn True.intro e (fun z=>nomatch z) h
 | @lst a xs ea =>
  cases (show u=Value.ref a from rx)
  obtain ⟨_,_,n,_,h1⟩:=(show q1d X.prog X.w H s.heap a (.lst xs) from I.hok a _ ea)
  exact PySem.W.kia_one PySem.W.kitx_list I.kIn ⟨_,h1,rfl⟩ e (fun z=>nomatch z) h
 | @frz a ob xs ea =>
  cases (show u=Value.ref a from rx)
  obtain ⟨_,_,_,n,_,h1⟩:=(show q1d X.prog X.w H s.heap a (.frz ob (.lst xs)) from I.hok a _ ea)
  exact PySem.W.kia_one PySem.W.kitx_list I.kIn ⟨_,h1,rfl⟩ e (fun z=>nomatch z) h
 | @tup a xs ea =>
  cases (show u=Value.ref a from rx)
  obtain ⟨_,_,_,p⟩:=(show q1d X.prog X.w H s.heap a (.tup xs) from I.hok a _ ea)
  obtain ⟨o,h1,h2,_⟩:=p
  exact PySem.W.kia_one PySem.W.kitx_tuple I.kIn ⟨o,h1,h2⟩ e (fun z=>nomatch z) h
 | @dK a kvs ea =>
  cases (show u=Value.ref a from rx)
  obtain ⟨_,_,vs,_,p⟩:=(show q1d X.prog X.w H s.heap a (.dK kvs) from I.hok a _ ea)
  obtain ⟨o,es,ep,h1,h2,_⟩:=p
  exact PySem.W.kia_one PySem.W.kitx_dict I.kIn ⟨o,h1,h2.1⟩ e (fun z=>nomatch z) h
 | @dT a kvs ea =>
  cases (show u=Value.ref a from rx)
  obtain ⟨_,_,xs,_,o,es,ep,h1,h2,_⟩:=(show q1d X.prog X.w H s.heap a (.dT kvs) from I.hok a _ ea)
  exact PySem.W.kia_one PySem.W.kitx_dict I.kIn ⟨o,h1,h2.1⟩ e (fun z=>nomatch z) h
 | @ins a C dx fs ea cl ha hn htk hm =>
  cases (show u=Value.ref a from rx)
  obtain ⟨mA,O,_⟩:=x6a I.hok ea
  obtain ⟨od,J,_⟩:=O.look
  exact PySem.W.kia_one (PySem.W.kitx_own (cl.get _) cl.hd ha hn htk hm) I.kIn J e (fun z=>nomatch z) h
end
end L2
namespace L2
open PySem PySem.Spec PyProof.Rows
structure q9Y (k:Nat) (A:Around):Prop where
 hd:A.handled=none
 dp:A.depth + 3 * k + 5<recursionLimit
 un:A.units + 16 * k + 200<cLine
theorem q9Y.mono {j k:Nat}{A:Around} (r:q9Y k A) (h:j<=k):q9Y j A:=⟨r.hd,by have:=r.dp;omega,by have:=r.un;omega⟩
theorem q9Y.deeper {k:Nat}{A:Around} (r:q9Y (k + 1) A) (env:Env):q9Y k (A.deeper env) :=
 ⟨r.hd,by have:=r.dp;show A.depth + 1 + 3 * k + 5<_;omega,by have:=r.un;show A.units + 3 + 16 * k + 200<_;omega⟩
theorem q9Y.depth {k:Nat}{A:Around} (r:q9Y k A):A.depth<recursionLimit:=by have:=r.dp;omega
theorem q9Y.units {k:Nat}{A:Around} (r:q9Y k A):A.units + 64<cLine:=by have:=r.un;omega
def x9A:TA:=fun _ H Q=>Q [] H
def x3p (ta:TE) (tr:TA):TA:=fun σ H Q=>ta σ H fun x H1=>tr σ H1 fun xs H2=>Q (x::xs) H2
section
variable {X:Cx}{e:Expr}{es:List Expr}{te:TE}{t:TA}{pos:Pos}
theorem q3u:PA X [] x9A:=fun _ _ _ _ H Q I h=>Calls.spliced_nil ⟨[],H,I,.nil,h⟩
theorem q2i (ha:PE X e te) (hr:PA X es t) (hs:starEach (e::es) X.env=(false,eval e X.env)::starEach es X.env:=by rfl):PA X (e::es) (x3p te t):=by
 intro pos pins s σ H Q I h
 rw [hs]
 show wpAny _ _ (spliced ((false,eval e X.env)::backTo pos (starEach es X.env))) _ _ s
 refine Calls.spliced_cons (thn (ha pins s σ H _ I h) fun u s1 ⟨x,H1,I1,r1,q1⟩=>?_)
 exact thn (hr pos pins s1 σ H1 _ I1 q1) fun us s2 h_25=>by obtain ⟨xs,H2,I2,r2,q2⟩:=h_25;exact ⟨x::xs,H2,I2,.cons r1 r2,q2⟩
def y1E (t:TA):TE:=fun σ H Q=>t σ H fun xs H1=>xs.length<=sizeLine/\∀ p,H1 p=none->Q (.ref p) (upd H1 p (.tup xs))
def y1F (t:TA):TE:=fun σ H Q=>t σ H fun xs H1=>xs.length<=sizeLine/\∀ p,H1 p=none->Q (.ref p) (upd H1 p (.lst xs))
theorem x7W {x1} (h:PA X es t):PE X (.Tuple es x1 pos) (y1E t):=by
 intro pins s σ H Q I hq
 refine wpAny_Tuple_spliced (thn (h pos pins s σ H _ I hq) fun us s1 ⟨xs,H1,I1,r,z,q⟩=>⟨by rw [<- r.length];exact z,?_⟩)
 have hf:H1 s1.heap.objs.size=none:=I1.hok.fresh (Nat.le_refl _)
 refine ⟨.ref s1.heap.objs.size,upd H1 s1.heap.objs.size (.tup xs),I1.laid (t':=s1.toks) (fun b u e=>Heap.get?_push_of_some _ e) (Nat.le_refl _) ?_,rfl,q _ hf⟩
 exact ⟨z,us,r,⟨_,Heap.get?_push_size _ rfl,rfl,_,rfl⟩⟩
theorem q8z (h:PA X es t):PE X (.List es pos) (y1F t):=by
 intro pins s σ H Q I hq
 refine wpAny_List_spliced (thn (h pos pins s σ H _ I hq) fun us s1 ⟨xs,H1,I1,r,z,q⟩=>⟨by rw [<- r.length];exact z,?_⟩)
 have hf:H1 s1.heap.objs.size=none:=I1.hok.fresh (Nat.le_refl _)
 refine ⟨.ref s1.heap.objs.size,upd H1 s1.heap.objs.size (.lst xs),I1.laid (t':=s1.toks) (fun b u e=>Heap.get?_push_of_some _ e) (Nat.le_refl _) ?_,rfl,q _ hf⟩
 exact ⟨z,us,0,r,Heap.get?_push_size _ rfl⟩
end
abbrev Sp:=List V->Hp->VK->XK->Prop
abbrev CXT:=List Env->Hp->Shared->XK->Value->Shared->Prop
structure x9B (P:Program) (w:World) (K:PySem.W.Frag) (mg:Str->Option Value) (base:Heap) (A:Around) (outer:List Env) (s:Shared) (H:Hp):Prop where
 frames:A.frames=some outer
 mod:Mod K mg base
 bs:∀ b o,base.get? b=some o->s.heap.get? b=some o/\H b=none
 bsz:base.objs.size<=s.heap.objs.size
 funs:s.heap.FunFrames base outer
 frf:∀ b∈frs outer,H b=none
 hok:HOk P w H s.heap
 bare:AllBare s.gens
inductive CE (outer:List Env) (P:Program) (w:World) (H:Hp) (s:Shared) (Q:VK) (u:Value) (s':Shared):Prop
 | mk (v H':_) (h0:s'.os=s.os) (h1:AllBare s'.gens) (h2:Un (frs outer) [] H H' s.heap s'.heap) (h3:HOk P w H' s'.heap) (h4:q1Z v u) (h5:Q v H'):CE outer P w H s Q u s'
def CR (CX:CXT) (outer:List Env) (P:Program) (w:World) (H:Hp) (s:Shared) (Q:VK) (E:XK) (r:Result) (s':Shared):Prop :=
 match r with
 | .ok (.ret u)=>CE outer P w H s Q u s'
 | .ok _=>False
 | .error e=>CX outer H s E e s'
structure w90 (P:Program) (w:World) (K:PySem.W.Frag) (mg:Str->Option Value) (base:Heap) (CX:CXT) (k:Nat) (f:Addr) (fd:FuncData) (ps:List Str) (sp:Sp):Prop where
 len:∀ vs H Q E,sp vs H Q E->vs.length=ps.length
 run:∀ (A:Around) (outer:List Env) (s:Shared) (H:Hp) (args:Args) (us:List Value) (vs:List V) (Q:VK) (E:XK),q9Y k A->x9B P w K mg base A outer s H->BindsTo s fd args (ps.zip us)->q28 vs us->sp vs H Q E ->
  codeAny (model P w) A (.call (.ref f) args) (CR CX outer P w H s Q E) s
theorem w90.imp {P:Program}{w:World}{K:PySem.W.Frag}{mg:Str->Option Value}{base:Heap}{CX:CXT}{k:Nat}{f:Addr}{fd:FuncData}{ps:List Str}{sp sp':Sp} (F:w90 P w K mg base CX k f fd ps sp)
  (h:∀ vs H Q E,sp' vs H Q E->sp vs H Q E):w90 P w K mg base CX k f fd ps sp' :=
 ⟨fun vs H Q E q=>F.len vs H Q E (h _ _ _ _ q),fun A outer s H args us vs Q E hr he hb hv hs=>F.run A outer s H args us vs Q E hr he hb hv (h _ _ _ _ hs)⟩
section
variable {X:Cx}{pins:List (Addr×Obj)}{σ:St}{H:Hp}{s s':Shared}
theorem Inv.env0 (I:Inv X pins σ H s):x9B X.prog X.w X.K X.mg X.base X.A X.stack s H :=
 ⟨I.ok.frames,I.ok.mod,I.bs,Nat.le_trans I.ok.bsz I.sz,I.stack,I.stkFree,I.hok,I.bare⟩
theorem Inv.after {Q:VK}{u:Value} (I:Inv X pins σ H s) (h:CE X.stack X.prog X.w H s Q u s'):EP X pins σ Q u s':=by
 obtain ⟨v,H',os,bare,un,hok,r,q⟩:=h
 obtain ⟨hh,g,d,t,os'⟩:=s'
 obtain rfl:os'=s.os:=os
 exact ⟨v,H',I.call (h':=hh) (g':=g) (d':=d) (t':=t) (ch:=[]) un hok bare (fun b z=>absurd z (by simp)),r,q⟩
end
def y04 (sp:Sp) (dvs:List V) (E:XK) (t:TA):TE:=fun σ H Q=>t σ H fun vs H1=>sp (vs++dvs) H1 Q E
def q0Y (K:PySem.W.Frag) (fd:FuncData) (ps:List Str) (ds:List Value):Prop :=
 ∀ (s:Shared) (us:List Value),K.In s.heap->(us++ds).length=ps.length->BindsTo s fd ⟨us,[]⟩ (ps.zip (us++ds))
theorem q0Y.all {K:PySem.W.Frag}{fd:FuncData}{ps:List Str} (h:∀ us:List Value,us.length=ps.length->bindArgs fd ⟨us,[]⟩=pure (ps.zip us)):q0Y K fd ps []:=fun s us _ hl=>by
 rw [List.append_nil] at hl ⊢
 exact .of_eq (h us hl)
def q0z (CX:CXT) (X:Cx) (E:XK):Prop:=∀ (pins:List (Addr×Obj)) (σ:St) (H:Hp) (s:Shared) (e:Value) (s':Shared),Inv X pins σ H s->CX X.stack H s E e s'->X.xe e s'
section
variable {X:Cx}{CX:CXT}{k:Nat}{f C:Addr}{fd:FuncData}{ps:List Str}{sp:Sp}{dvs:List V}{ds:List Value}{E:XK}{x m:Str}{p pos apos:Pos}{e o:Expr}{es:List Expr}{ta:TE}{t:TA}
theorem x7X {pins:List (Addr×Obj)}{σ:St}{H:Hp}{s:Shared}{Q:VK}{us:List Value}{vs:List V} (F:w90 X.prog X.w X.K X.mg X.base CX k f fd ps sp) (hr:q9Y k X.A) (hb:q0Y X.K fd ps ds) (hd:q28 dvs ds) (hx:q0z CX X E)
  (I:Inv X pins σ H s) (r:q28 vs us) (h:sp (vs++dvs) H Q E):wpAny (model X.prog X.w) X.A (call (.ref f) us) (EP X pins σ Q) X.xe s:=by
 have r2:q28 (vs++dvs) (us++ds):=r.append hd
 have hl:(us++ds).length=ps.length:=by rw [<- r2.length];exact F.len _ _ _ _ h
 refine wpAny_call (codeAny_mono (F.run X.A X.stack s H ⟨us,[]⟩ (us++ds) (vs++dvs) Q E hr I.env0 (hb s us I.kIn hl) r2 h) fun r s' hq=>?_)
 cases r with
 | error e=>exact hx pins σ H s e s' I hq
 | ok fl =>
  cases fl with
  | ret u=>exact I.after hq
  | next=>exact False.elim hq
  | brk=>exact False.elim hq
  | cont=>exact False.elim hq
theorem x6b (F:w90 X.prog X.w X.K X.mg X.base CX k f fd ps sp) (hr:q9Y k X.A) (hg:Gl X x) (hm:X.mg x=some (.ref f)) (hk:PySem.W.keepIn X.K (.ref f)=true) (hb:q0Y X.K fd ps ds) (hd:q28 dvs ds) (hx:q0z CX X E)
  (ha:PA X (e::es) t) (hdb:(x == ("__debug__" : Str))=false:=by decide) (he:starEach (e::es) X.env=(false,eval e X.env)::starEach es X.env:=by rfl) (hpl:(backTo pos (starEach es X.env)).any (·.1)=false:=by rfl) :
  PE X (.Call (.Name x p) (e::es) [] pos) (y04 sp dvs E t):=by
 intro pins s σ H Q I h
 refine wpAny_Call_Name_kw (w5n I hg hm ?_ hdb)
 refine PySem.W.callWith_K (h₀:=X.base) I.ok.mod.kin hk (thn (ha pos pins s σ H _ I h) fun us s1 ⟨vs,H1,I1,r,q⟩=>⟨I1.kIn,?_⟩) he hpl
 exact x7X F hr hb hd hx I1 r q
end
section
variable {X:Cx}{CX:CXT}{k:Nat}{f C:Addr}{fd:FuncData}{ps ks:List Str}{sp:Sp}{E:XK}{x m:Str}{p pos apos kpos:Pos}{e o:Expr}{es:List Expr}{kws:List Keyword}{te ta:TE}{t tk:TA}{nm:Option Str}
variable {g:List Value->List Value->List Value}{gV:List V->List V->List V}
end
structure q0n (N P:List Str) (sc:Scope):Prop where
 kind:sc.kind=.function
 co:sc.isCoroutine=false
 gen:sc.isGenerator=false
 nd:N.Nodup
 pre:N.take P.length=P
 par:∀ x∈P,sc.names.lookup x=some .local\/sc.names.lookup x=some .cell
 nofree:∀ y∈sc.names,y.2≠.free
theorem w3e {kindOf:Str->Option NameKind}{x:Str}:∀ {binds:List (Str×Value)}{m:Str->Option Value},(∀ v,(x,v)∉binds)->bindL kindOf binds m x=m x
 | [],_,_=>rfl
 | (n,v)::r,m,h=>by
  unfold bindL
  rw [w3e fun w hw=>h w (List.mem_cons_of_mem _ hw)]
  split
  ·have:x≠n:=by rintro rfl;exact h v List.mem_cons_self
   simp [this]
  ·rfl
theorem w3f {kindOf:Str->Option NameKind}{x:Str}:∀ {binds:List (Str×Value)}{m:Str->Option Value},(∀ v,(x,v)∉binds)->bindC kindOf binds m x=m x
 | [],_,_=>rfl
 | (n,v)::r,m,h=>by
  unfold bindC
  rw [w3f fun w hw=>h w (List.mem_cons_of_mem _ hw)]
  split
  ·rfl
  ·have:x≠n:=by rintro rfl;exact h v List.mem_cons_self
   simp [this]
theorem w3g {kindOf:Str->Option NameKind}{x:Str}{v:Value}:∀ {P:List Str}{vs:List Value}{i:Nat}{m:Str->Option Value},P.Nodup->P[i]?=some x->vs[i]?=some v->kindOf x=some .local ->
  bindL kindOf (P.zip vs) m x=some v
 | [],_,_,_,_,h,_,_=>by simp at h
 | _::_,[],_,_,_,_,h,_=>by simp at h
 | p::P,w::vs,0,m,nd,h1,h2,hk=>by
  simp at h1 h2;subst h1;subst h2
  show bindL kindOf ((p,w)::P.zip vs) m p=_
  unfold bindL
  rw [w3e fun v hv=>(List.nodup_cons.mp nd).1 (List.of_mem_zip hv).1,if_pos hk]
  simp
 | p::P,w::vs,i + 1,m,nd,h1,h2,hk=>by
  show bindL kindOf ((p,w)::P.zip vs) m x=_
  unfold bindL
  exact w3g (i:=i) (List.nodup_cons.mp nd).2 (by simpa using h1) (by simpa using h2) hk
theorem w3h {kindOf:Str->Option NameKind}{x:Str}{v:Value}:∀ {P:List Str}{vs:List Value}{i:Nat}{m:Str->Option Value},P.Nodup->P[i]?=some x->vs[i]?=some v->kindOf x≠some .local ->
  bindC kindOf (P.zip vs) m x=some v
 | [],_,_,_,_,h,_,_=>by simp at h
 | _::_,[],_,_,_,_,h,_=>by simp at h
 | p::P,w::vs,0,m,nd,h1,h2,hk=>by
  simp at h1 h2;subst h1;subst h2
  show bindC kindOf ((p,w)::P.zip vs) m p=_
  unfold bindC
  rw [w3f fun v hv=>(List.nodup_cons.mp nd).1 (List.of_mem_zip hv).1,if_neg hk]
  simp
 | p::P,w::vs,i + 1,m,nd,h1,h2,hk=>by
  show bindC kindOf ((p,w)::P.zip vs) m x=_
  unfold bindC
  exact w3h (i:=i) (List.nodup_cons.mp nd).2 (by simpa using h1) (by simpa using h2) hk
def start (N:List Str) (vs:List V):St:=vs.map some++List.replicate (N.length - vs.length) none
def q1X (CX:CXT) (P:Program) (w:World) (K:PySem.W.Frag) (mg:Str->Option Value) (base:Heap) (N:List Str) (qual:Str) (scope:Scope) (f:Addr) (cd:Value) (A:Around) (outer:List Env) (s:Shared) (H:Hp) (E:XK):Cx where
 prog:=P
 w:=w
 K:=K
 mg:=mg
 base:=base
 A:=A.deeper (envOfC qual scope s.heap.objs.size f cd)
 N:=N
 s₀:=s
 H₀:=H
 env:=envOfC qual scope s.heap.objs.size f cd
 outer:=outer
 stack:=envOfC qual scope s.heap.objs.size f cd::outer
 ex:=[]
 calm:=true
 fn:=fun _=>true
 pn:=[]
 xe:=fun e s'=>wpAny (model P w) (A.deeper (envOfC qual scope s.heap.objs.size f cd)) (leaving (envOfC qual scope s.heap.objs.size f cd) e) (fun _ s''=>CX outer H s E e s'') (fun e' s''=>CX outer H s E e' s'') s'
theorem w7T {sc:Scope}{n:Nat}{x:Str} (h:sc.names.lookup x=some .cell):∃ c,(cellsFrom n sc.names []).lookup x=some c:=by
 have q:=PySem.W.cellsFrom_some sc.names n [] (.inl h)
 exact Option.isSome_iff_exists.mp q
theorem x0X {CX:CXT}{P:Program}{w:World}{K:PySem.W.Frag}{mg:Str->Option Value}{base:Heap}{N ps:List Str}{qual:Str}{scope:Scope}{f:Addr}{cd:Value}{A:Around}{outer:List Env}{s s1:Shared}{H:Hp}{E:XK}{us:List Value}{vs:List V}
  (S:q0n N ps scope) (hd:A.handled=none) (e0:x9B P w K mg base A outer s H) (hl:vs.length=ps.length) (r:q28 vs us)
  (x:InCallC s s.heap.objs.size (bindL (envOfC qual scope s.heap.objs.size f cd).kindOf (ps.zip us) fun _=>none) (cellsFrom (s.heap.objs.size + 1) scope.names []) (bindC (envOfC qual scope s.heap.objs.size f cd).kindOf (ps.zip us) fun _=>none) s1) :
  Inv (q1X CX P w K mg base N qual scope f cd A outer s H E) [] (start N vs) H s1:=by
 have hpl:ps.length<=N.length:=by have:=congrArg List.length S.pre;rw [List.length_take] at this;omega
 obtain ⟨h1,tk,rfl,hk⟩:=x.done
 have noA:∀ b:Addr,b∉(q1X CX P w K mg base N qual scope f cd A outer s H E).ex:=fun b z=>absurd (show b∈([] : List Addr) from z) (by simp)
 refine ⟨⟨e0.mod,S.kind,rfl,rfl,Nat.le_refl _,fun y z c h1 h2=>?_,fun y hy=>?_,fun y c _ h=>?_,fun _=>hd,Around.frames_deeper e0.frames,.inr ⟨rfl,rfl⟩,fun b z=>absurd z (noA b),e0.bs,e0.bsz,fun b _ _=>noA b,fun b z=>absurd z (noA b),e0.funs,e0.frf⟩,
  rfl,e0.bare,Un.kept hk,⟨_,x.toInCall.ns,fun i y v h1 h2 h3=>?_⟩,fun y c h=>⟨_,x.cell y c h⟩,e0.hok.fresh (Nat.le_refl _),fun y c h=>?_,fun p hp=>absurd (show p∈([] : List (Addr×Obj)) from hp) (by simp),e0.hok.kept hk,?_⟩
 ·exact name_of_addr x.apart (PySem.mem_of_lookup h1) (PySem.mem_of_lookup h2)
 ·have hy:scope.names.lookup y=some .cell\/scope.names.lookup y=some .free:=hy
  rcases hy with hy | hy
  ·exact w7T hy
  ·exact absurd rfl (S.nofree _ (PySem.mem_of_lookup hy))
 ·exact Nat.le_of_lt (x.above y c (PySem.mem_of_lookup h))
 ·have hi:i<vs.length:=by
   unfold start at h2
   by_cases hi:i<vs.length
   ·exact hi
   ·rw [List.getElem?_append_right (by simpa using hi)] at h2
    rw [List.getElem?_replicate] at h2
    split at h2<;>cases h2
  have ha:vs[i]?=some v:=by
   unfold start at h2
   rw [List.getElem?_append_left (by simpa using hi),List.getElem?_map] at h2
   cases e:vs[i]? with
   | none=>rw [e] at h2;cases h2
   | some a=>rw [e] at h2;cases h2;rfl
  obtain ⟨u,hu,rv⟩:=r.get ha
  have hp:ps[i]?=some y:=by
   rw [<- S.pre,List.getElem?_take_of_lt (by omega)];exact h1
  have ndP:ps.Nodup:=by rw [<- S.pre];exact S.nd.sublist (List.take_sublist _ _)
  refine ⟨u,rv,?_⟩
  rcases S.par y (List.mem_of_getElem? hp) with k | k
  ·exact .inl ⟨k,w3g ndP hp hu k⟩
  ·obtain ⟨c,e⟩:=w7T (n:=s.heap.objs.size + 1) k
   refine .inr ⟨.inl k,c,e,?_⟩
   have q:=x.cell y c e
   rw [w3h ndP hp hu (by show scope.names.lookup y≠_;rw [k];decide)] at q
   exact q
 ·exact e0.hok.fresh (Nat.le_of_lt (x.above y c (PySem.mem_of_lookup h)))
 ·unfold start
  show _=N.length
  rw [List.length_append,List.length_map,List.length_replicate]
  omega
theorem y05 {CX:CXT}{P:Program}{w:World}{K:PySem.W.Frag}{mg:Str->Option Value}{base:Heap}{k:Nat}{f:Addr}{name qual:Str}{params:Arguments}{body:List Stmt}{scope:Scope}{dV kV doc pm cdv ct oc:Value}{an od:Option Addr}
  {osl:Array (Option Value)}{N ps:List Str}{sp:Sp} (lk:K.lookup f=some ⟨oc,od,.func (PySem.W.fnOf name qual params body scope dV kV doc pm an cdv ct),osl⟩) (hcd:PySem.W.codeIn K cdv qual=true) (S:q0n N ps scope)
  (len:∀ vs H Q E,sp vs H Q E->vs.length=ps.length)
  (hbody:∀ (A:Around) (outer:List Env) (s:Shared) (H:Hp) (vs:List V) (Q:VK) (E:XK),q9Y k (A.deeper (envOfC qual scope s.heap.objs.size f cdv))->sp vs H Q E ->
   ∃ t,PSs (q1X CX P w K mg base N qual scope f cdv A outer s H E) body t/\t { nx:=fun _ H'=>Q .non H',rt:=Q } (start N vs) H) :
  w90 P w K mg base CX (k + 1) f (PySem.W.fnOf name qual params body scope dV kV doc pm an cdv ct) ps sp:=by
 refine ⟨len,fun A outer s H args us vs Q E hr e0 hb r hsp=>?_⟩
 have hl:=len _ _ _ _ hsp
 have KX:K.In s.heap:=e0.mod.kin.keeps fun b o e=>(e0.bs b o e).1
 have lim:s.heap.NoLimit:=e0.mod.nolimit.keeps fun b o e=>(e0.bs b o e).1
 have hkind:∀ y∈ps.zip us,scope.names.lookup y.1=some .local\/(scope.names.lookup y.1=some .cell/\((cellsFrom (s.heap.objs.size + 1) scope.names []).lookup y.1).isSome=true):=fun ⟨n,v⟩ hy=>by
  rcases S.par n (List.of_mem_zip hy).1 with q | q
  ·exact .inl q
  ·exact .inr ⟨q,PySem.W.cellsFrom_some _ _ _ (.inl q)⟩
 refine codeAny_call_function hr.depth (KX _ _ lk) rfl S.co S.gen rfl (PySem.W.codeRec_of KX hcd) (hb _ _ _ _ ?_)
 refine wpAny_newFunctionEnv_cells S.kind hkind fun env he s1 x=>?_
 subst he
 refine ⟨lim.keeps x.toInCall.keep,codeAny_func ?_⟩
 obtain ⟨t,ht,hq⟩:=hbody A outer s H vs Q E (hr.deeper _) hsp
 have I:Inv (q1X CX P w K mg base N qual scope f cdv A outer s H E) [] (start N vs) H s1:=x0X S hr.hd e0 hl r x
 refine wpAny_mono (ht [] s1 (start N vs) H _ I hq) (fun fl s' hs=>?_) fun e s' hs=>hs
 have fin:∀ {σ':St}{H':Hp}{v:V}{u:Value},Inv (q1X CX P w K mg base N qual scope f cdv A outer s H E) [] σ' H' s'->q1Z v u->Q v H'->CE outer P w H s Q u s' :=
  fun {σ' H' v u} J rv q=>⟨v,H',J.os,J.bare,J.base,J.hok,rv,q⟩
 cases fl with
 | ret u =>
  obtain ⟨v,σ',H',J,rv,q⟩:=hs
  exact fin J rv q
 | next =>
  obtain ⟨σ',H',J,q⟩:=hs
  exact fin (v:=V.non) (u:=Value.none) J rfl q
 | brk =>
  obtain ⟨_,_,_,q⟩:=hs
  exact False.elim q
 | cont =>
  obtain ⟨_,_,_,q⟩:=hs
  exact False.elim q
end L2
namespace L2
open PySem PySem.Spec PyProof.Rows
section
variable {X:Cx}{x:Str}{p pos:Pos}{e:Expr}{es:List Expr}{t:TA}{id T:String}{r:List V->Hp->VK->Prop}
def tCB (r:List V->Hp->VK->Prop) (t:TA):TE:=fun σ H Q=>t σ H fun vs H1=>r vs H1 Q
theorem q8j (hc:q4y X (.builtin id) r) (hg:Gl X x) (hm:X.mg x=none) (hv:bootBuiltins x=some (.builtin id)) (ha:PA X (e::es) t) (hn:x≠"__name__":=by decide) (hdb:(x == ("__debug__" : Str))=false:=by decide)
  (he:starEach (e::es) X.env=(false,eval e X.env)::starEach es X.env:=by rfl) (hpl:(backTo pos (starEach es X.env)).any (·.1)=false:=by rfl):PE X (.Call (.Name x p) (e::es) [] pos) (tCB r t):=by
 intro pins s σ H Q I h
 refine wpAny_Call_Name_kw (q7A I hg hm hv ?_ hn hdb)
 exact PyProof.Rows.callWith_builtin1 (thn (ha pos pins s σ H _ I h) fun us s1 h_27=>by obtain ⟨vs,H1,I1,r1,q1⟩:=h_27;exact hc pins s1 σ H1 vs us Q I1 r1 q1) he hpl
theorem q8A (hc:q4y X (.type T) r) (hg:Gl X x) (hm:X.mg x=none) (hv:bootBuiltins x=some (.type T)) (ha:PA X (e::es) t) (hn:x≠"__name__":=by decide) (hdb:(x == ("__debug__" : Str))=false:=by decide)
  (he:starEach (e::es) X.env=(false,eval e X.env)::starEach es X.env:=by rfl) (hpl:(backTo pos (starEach es X.env)).any (·.1)=false:=by rfl):PE X (.Call (.Name x p) (e::es) [] pos) (tCB r t):=by
 intro pins s σ H Q I h
 refine wpAny_Call_Name_kw (q7A I hg hm hv ?_ hn hdb)
 exact PyProof.Rows.callWith_type1 (thn (ha pos pins s σ H _ I h) fun us s1 h_28=>by obtain ⟨vs,H1,I1,r1,q1⟩:=h_28;exact hc pins s1 σ H1 vs us Q I1 r1 q1) he hpl
end
end L2
namespace HT
open PySem PyProof.Rows
section
open PySem.SeqAt
open PySem.AutoSeq1 (wpAny_loadPart')
open PySem.MeetsSeq PySem.MeetsSeq2 PySem.MeetsSeq3
end
section
variable {prog:Program}{w:World}{A:Around}{E:Value->Shared->Prop}{s:Shared}
theorem x6c {t b:Addr}{vs ws:List Value}{Q:Value->Shared->Prop} (ht:IsTup s.heap t vs.toArray) (hb:IsTup s.heap b ws.toArray) (hv:vs≠[])
  (h1:ws=[]->Q (.ref t) s) (h2:ws≠[]->Q (.ref s.heap.objs.size) { s with heap:=s.heap.push { cls:=.type "tuple",data:=.seq (vs++ws).toArray } })
  (hsz:vs.length + ws.length<=sizeLine):wpAny (model prog w) A (binaryOp .Add (.ref t) (.ref b)) Q E s:=by
 obtain ⟨⟨cls,dd,data,sl⟩,ho,hc,n,hd⟩:=id ht
 obtain ⟨⟨cls2,dd2,data2,sl2⟩,ho2,hc2,n2,hd2⟩:=id hb
 simp only at hc hd hc2 hd2
 subst hc hd hc2 hd2
 have e:vs.toArray++ws.toArray=(vs++ws).toArray:=by simp
 by_cases hw:ws=[]
 ·exact concat_meets ⟨_,ho,rfl⟩ ⟨_,ho2,rfl⟩ noFill_tuple_add seq_tuple_add PySem.F.slot_tuple_add PySem.F.entry_tuple_add (PySem.F.args_tuple_add_2 _ _)
   (tuple_addW1 t b vs.toArray ws.toArray n n2 dd dd2 sl sl2 (by simpa using hv) (by simp [hw])) ⟨ho,ho2,h1 hw⟩
 ·refine concat_meets ⟨_,ho,rfl⟩ ⟨_,ho2,rfl⟩ noFill_tuple_add seq_tuple_add PySem.F.slot_tuple_add PySem.F.entry_tuple_add (PySem.F.args_tuple_add_2 _ _)
   (tuple_addW2 t b vs.toArray ws.toArray n n2 dd dd2 sl sl2 (by simpa using hv) (by simpa using hw) (by rw [List.size_toArray,List.size_toArray];exact hsz)) ⟨ho,ho2,?_⟩
  rw [e]
  exact h2 hw
def sIx (n d:Nat):Option Int->Nat
 | none=>d
 | some v=>if v<0 then (v + (n:Int)).toNat else min v.toNat n
theorem w7U (n d:Nat):sIx n d none=d:=rfl
theorem x0Y (n d k:Nat):sIx n d (some (k:Int))=min k n:=by
 show (if (k:Int)<0 then ((k:Int) + (n:Int)).toNat else min (k:Int).toNat n)=min k n
 rw [if_neg (by omega),Int.toNat_natCast]
theorem x7Y (n d:Nat) (hd:d<=n) (o:Option Int):sIx n d o<=n:=by
 cases o with
 | none=>exact hd
 | some v =>
  show (if v<0 then (v + (n:Int)).toNat else min v.toNat n)<=n
  by_cases hv:v<0
  ·rw [if_pos hv];omega
  ·rw [if_neg hv];exact Nat.min_le_right _ _
theorem x0Z (v:Int) (n d:Nat):(if v<0 then max (v + (n:Int)) 0 else min v (n:Int))=((sIx n d (some v):Nat):Int):=by
 show (if v<0 then max (v + (n:Int)) 0 else min v (n:Int))=(((if v<0 then (v + (n:Int)).toNat else min v.toNat n):Nat):Int)
 by_cases hv:v<0
 ·simp only [if_pos hv];omega
 ·simp only [if_neg hv];omega
theorem w91 (lo hi:Option Int) (n:Nat):Builtin.Slice.sliceAdjust lo hi 1 (n:Int)=(((sIx n 0 lo:Nat):Int),((sIx n n hi:Nat):Int)):=by
 have h1:¬ ((1:Int)<0):=by omega
 unfold Builtin.Slice.sliceAdjust
 simp only [h1,if_false]
 refine Prod.ext ?_ ?_
 ·cases lo with
  | none=>rfl
  | some v=>exact x0Z v n 0
 ·cases hi with
  | none=>rfl
  | some v=>exact x0Z v n n
theorem w92 (i j:Nat):Builtin.Slice.slicePlaces (i:Int) (j:Int) 1=j - i:=by
 unfold Builtin.Slice.slicePlaces
 have h1:(1:Int) > 0:=by omega
 simp only [h1,if_true,Int.ediv_one]
 split<;>omega
theorem w0G {v:Value}{o:Option Int}{Q:Option Int->Shared->Prop} (p:IsPart v o) (h:Q o s):wpAny (model prog w) A (Builtin.Slice.slicePartIndex v) Q E s:=by
 cases p with
 | none=>exact slicePart_none h
 | int i t=>exact slicePart_int h
theorem q4p {sl:Addr}{vl vu:Value}{lo hi:Option Int}{n:Nat}{Q:Int×Int×Nat->Shared->Prop} (hs:s.heap.IsSliceOf sl vl vu .none) (pl:IsPart vl lo) (pu:IsPart vu hi)
  (h:Q (((sIx n 0 lo:Nat):Int),1,sIx n n hi - sIx n 0 lo) s):wpAny (model prog w) A (Builtin.Slice.sliceApplied (.ref sl) (pure (n:Int))) Q E s:=by
 obtain ⟨os,hos,hcs,hds⟩:=id hs
 unfold Builtin.Slice.sliceApplied Builtin.Slice.sliceFields
 refine wpAny_bind (wpAny_bind (wpAny_field hos hds (x:=vl) rfl (wpAny_bind (wpAny_field hos hds (x:=vu) rfl (wpAny_bind (wpAny_field hos hds (x:=.none) rfl (wpAny_pure ?_)))))))
 refine wpAny_bind (slicePart_none ?_)
 show wpAny _ _ (if ((1:Int) == 0)=true then _ else _) _ _ s
 rw [if_neg (by decide)]
 refine wpAny_bind (w0G pl (wpAny_bind (w0G pu (wpAny_bind (wpAny_pure ?_)))))
 show wpAny _ _ (match Builtin.Slice.sliceAdjust lo hi 1 (n:Int) with | (lo,hi)=>pure (lo,(1:Int),Builtin.Slice.slicePlaces lo hi 1)) _ _ s
 rw [w91 lo hi n]
 show wpAny _ _ (pure (((sIx n 0 lo:Nat):Int),(1:Int),Builtin.Slice.slicePlaces ((sIx n 0 lo:Nat):Int) ((sIx n n hi:Nat):Int) 1)) _ _ s
 rw [w92]
 exact wpAny_pure h
theorem x3q (xs:Array Value) (i k:Nat):((List.range k).filterMap fun (m:Nat)=>xs[((i:Int) + (m:Int) * 1).toNat]?).toArray=((xs.toList.drop i).take k).toArray:=by
 have e:(fun (m:Nat)=>xs[((i:Int) + (m:Int) * 1).toNat]?)=fun m=>xs[i + m]?:=by
  funext m
  have:((i:Int) + (m:Int) * 1).toNat=i + m:=by omega
  rw [this]
 rw [e]
 have:=pick_run xs i k
 rw [List.filterMap_map] at this
 have e2:((fun x=>xs[x]?)∘fun x=>i + x)=fun m=>xs[i + m]?:=rfl
 rw [e2] at this
 rw [this]
theorem q6G {t sl:Addr}{items:Array Value}{vl vu:Value}{lo hi:Option Int}{Q:Value->Shared->Prop} (ht:IsTup s.heap t items) (hs:s.heap.IsSliceOf sl vl vu .none) (pl:IsPart vl lo) (pu:IsPart vu hi)
  (hw:¬ (sIx items.size 0 lo=0/\sIx items.size items.size hi=items.size))
  (h:Q (.ref s.heap.objs.size) { s with heap:=s.heap.push { cls:=.type "tuple",data:=.seq ((items.toList.drop (sIx items.size 0 lo)).take (sIx items.size items.size hi - sIx items.size 0 lo)).toArray } })
  (hsz:items.size<=sizeLine):wpAny (model prog w) A (getItem (.ref t) (.ref sl)) Q E s:=by
 have htake:sizeOk (.seq ((items.toList.drop (sIx items.size 0 lo)).take (sIx items.size items.size hi - sIx items.size 0 lo)).toArray):=by
  show ((items.toList.drop (sIx items.size 0 lo)).take (sIx items.size items.size hi - sIx items.size 0 lo)).toArray.size<=sizeLine
  rw [List.size_toArray,List.length_take,List.length_drop,Array.length_toList]
  omega
 have hj:sIx items.size items.size hi<=items.size:=x7Y _ _ (Nat.le_refl _) hi
 obtain ⟨os,hos,hcs,hds⟩:=id hs
 have hTs:s.TypeIs (.ref sl) "slice":=⟨os,hos,hcs⟩
 unfold getItem
 try with_reducible refine wpAny_holding ?_
 first | refine wpAny_bind (wpAny_pure ?_) | skip
 refine wpAny_bind (wpAny_sequenceKey ht.typeIs (by decide) ?_)
 refine wpAny_bind (wpAny_callSpecial?_slot (name:=Str.ofString "__getitem__") ht.typeIs PyProof.Rows.slot_tuple_getitem
  (wpAny_call_entry PyProof.Rows.slot_tuple_getitem ht.typeIs entry_tuple_getitem ?_ (args_tuple_getitem _ _)))
 show wpAny _ _ (Builtin.Tuple.tupleItemsOf (.ref t) >>= _) _ _ s
 refine wpAny_bind (tupleItemsOf_ ht ?_)
 refine wpAny_bind (wpAny_typeOf hTs ?_)
 rw [if_pos (by decide)]
 refine wpAny_bind (q4p hs pl pu ?_)
 have hno:¬ ((((sIx items.size 0 lo:Nat):Int) == 0 && (1:Int) == 1 && (sIx items.size items.size hi - sIx items.size 0 lo) == items.size)=true):=by
  intro q
  rw [Bool.and_eq_true,Bool.and_eq_true] at q
  have q1:((sIx items.size 0 lo:Nat):Int)=0:=eq_of_beq q.1.1
  have q2:sIx items.size items.size hi - sIx items.size 0 lo=items.size:=eq_of_beq q.2
  exact hw ⟨by omega,by omega⟩
 show wpAny _ _ (if (((sIx items.size 0 lo:Nat):Int) == 0 && (1:Int) == 1 && (sIx items.size items.size hi - sIx items.size 0 lo) == items.size)=true then _ else _) _ _ s
 rw [if_neg hno,x3q]
 first
  | exact wpAny_bind (m:=Builtin.Tuple.tupleExact _) (wpAny_newObj_type (wpAny_pure ⟨_,rfl,wpAny_pure h⟩) htake)
  | exact wpAny_bind (m:=Builtin.Tuple.tupleExact _) (wpAny_newObj_type (wpAny_bind (wpAny_pure (wpAny_pure ⟨_,rfl,wpAny_pure h⟩))) htake)
  | exact wpAny_bind (wpAny_bind (m:=Builtin.Tuple.tupleExact _) (wpAny_newObj_type (wpAny_pure (wpAny_pure ⟨_,rfl,wpAny_pure h⟩)) htake))
  | exact wpAny_bind (wpAny_bind (m:=Builtin.Tuple.tupleExact _) (wpAny_newObj_type (wpAny_pure ⟨_,rfl,wpAny_pure h⟩) htake))
end
end HT
namespace L2
open PySem PySem.Spec PyProof.Rows
abbrev TO:=St->Hp->(Option Int->Hp->Prop)->Prop
def PO (X:Cx) (e:Option Expr) (t:TO):Prop :=
 ∀ (pins:List (Addr×Obj)) (s:Shared) (σ:St) (H:Hp) (Q:Option Int->Hp->Prop),Inv X pins σ H s->t σ H Q ->
  wpAny (model X.prog X.w) X.A (evalPart e X.env) (fun u s'=>∃ o H',Inv X pins σ H' s'/\IsPart u o/\Q o H') X.xe s
def x6d:TO:=fun _ H Q=>Q none H
def y06 (t:TE):TO:=fun σ H Q=>t σ H fun x H1=>∃ i,x=.int i/\Q (some i) H1
section
variable {X:Cx}{e:Expr}{te:TE}{lo hi:Option Expr}{tl th:TO}{pos p2:Pos}
theorem x6e:PO X none x6d:=by
 intro pins s σ H Q I h
 rw [evalPart_none]
 exact wpAny_pure ⟨none,H,I,.none,h⟩
theorem x6f (h:PE X e te):PO X (some e) (y06 te):=by
 intro pins s σ H Q I hw
 rw [evalPart_some]
 refine thn (h pins s σ H _ I hw) fun u s1 h_29=>?_
 obtain ⟨x,H1,I1,r1,q1⟩:=h_29
 obtain ⟨i,rfl,q⟩:=q1
 obtain ⟨t,rfl⟩:=r1
 exact ⟨some i,H1,I1,.int i t,q⟩
def SlR (X:Cx) (r:V->Option Int->Option Int->Hp->VK->Prop):Prop :=
 ∀ (pins:List (Addr×Obj)) (s:Shared) (σ:St) (H:Hp) (x:V) (v vl vu:Value) (lo hi:Option Int) (sl:Addr) (Q:VK),Inv X pins σ H s->q1Z x v->s.heap.IsSliceOf sl vl vu .none->IsPart vl lo->IsPart vu hi->r x lo hi H Q ->
  ∃ T id,typeLookup (.type T) "__getitem__"=pure (some (.builtin id))/\s.TypeIs v T/\wpAny (model X.prog X.w) X.A (getItem v (.ref sl)) (EP X pins σ Q) X.xe s
def tSl (r:V->Option Int->Option Int->Hp->VK->Prop) (te:TE) (tl th:TO):TE:=fun σ H Q=>te σ H fun x H1=>tl σ H1 fun l H2=>th σ H2 fun u H3=>r x l u H3 Q
theorem x3r {r:V->Option Int->Option Int->Hp->VK->Prop} (hr:SlR X r) (he:PE X e te) (hl:PO X lo tl) (hu:PO X hi th):PE X (.Subscript e (.Slice lo hi none p2) pos) (tSl r te tl th):=by
 intro pins s σ H Q I h
 refine Subscript_ (thn (he pins s σ H _ I h) fun v s1 ⟨x,H1,I1,r1,q1⟩=>?_)
 refine wpAny_Slice (thn (hl pins s1 σ H1 _ I1 q1) fun vl s2 ⟨l,H2,I2,pl,q2⟩=>thn (hu pins s2 σ H2 _ I2 q2) fun vu s3 ⟨u,H3,I3,pu,q3⟩=>?_)
 rw [evalPart_none]
 refine wpAny_pure ?_
 have I4:Inv X pins σ H3 { s3 with heap:=s3.heap.push { cls:=.type "slice",data:=.fields #[vl,vu,.none] } }:=I3.kept (t':=s3.toks) fun b ob q=>Heap.get?_push_of_some _ q
 obtain ⟨T,id,hT,ht,hg⟩:=hr pins { s3 with heap:=s3.heap.push { cls:=.type "slice",data:=.fields #[vl,vu,.none] } } σ H3 x v vl vu l u s3.heap.objs.size Q I4 r1 (Heap.IsSliceOf.new ..) pl pu q3
 show wpAny (model X.prog X.w) X.A (subscriptTail e (.Slice lo hi none p2) v (.ref s3.heap.objs.size)) (EP X pins σ Q) X.xe { s3 with heap:=s3.heap.push { cls:=.type "slice",data:=.fields #[vl,vu,.none] } }
 exact tail_any (ops:=[.ref s3.heap.objs.size,v]) ht hT hg (by with_unfolding_all rfl)
def x4P (xs:List V) (lo hi:Option Int):List V:=(xs.drop (HT.sIx xs.length 0 lo)).take (HT.sIx xs.length xs.length hi - HT.sIx xs.length 0 lo)
theorem q8B (xs:List V) (lo hi:Option Int):(x4P xs lo hi).length<=xs.length:=by
 unfold x4P
 rw [List.length_take,List.length_drop]
 omega
def y1G (K:PySem.W.Frag):V->Option Int->Option Int->Hp->VK->Prop:=fun x lo hi H Q=>∃ a xs,x=.ref a/\SqT K H a xs /\
 ¬ (HT.sIx xs.length 0 lo=0/\HT.sIx xs.length xs.length hi=xs.length)/\∀ p,H p=none->Q (.ref p) (upd H p (.tup (x4P xs lo hi)))
theorem x7Z:SlR X (y1G X.K):=by
 intro pins s σ H x v vl vu lo hi sl Q I rx hs pl pu h
 obtain ⟨a,xs,rfl,hx,hw,q⟩:=h
 cases rx
 obtain ⟨its,r,ht,hz⟩:=I.tuple hx
 have hlen:its.toArray.size=xs.length:=by rw [List.size_toArray];exact r.length.symm
 refine ⟨"tuple",_,PyProof.Rows.slot_tuple_getitem.lookup,ht.typeIs,?_⟩
 refine HT.q6G ht hs pl pu (by rw [hlen];exact hw) ?_ (by rw [hlen];exact hz)
 rw [hlen]
 refine ⟨.ref s.heap.objs.size,_,I.laid (t':=s.toks) (o:=.tup (x4P xs lo hi)) (fun b ob q=>Heap.get?_push_of_some _ q) (Nat.le_refl _) ?_,rfl,q _ (I.hok.fresh (Nat.le_refl _))⟩
 exact ⟨Nat.le_trans (q8B xs lo hi) hz,_,(r.drop (HT.sIx xs.length 0 lo)).take (HT.sIx xs.length xs.length hi - HT.sIx xs.length 0 lo),IsTup.new _ _⟩
inductive x4Q (K:PySem.W.Frag) (x:V) (y:V) (H:Hp) (Q:VK):Prop
 | mk (a b xs ys:_) (h0:x=.ref a) (h1:y=.ref b) (h2:SqT K H a xs) (h3:SqT K H b ys) (h4:xs≠[]) (h5:xs.length + ys.length<=sizeLine) (h6:(ys=[]->Q (.ref a) H)) (h7:(ys≠[]->∀ p,H p=none->Q (.ref p) (upd H p (.tup (xs++ys))))):x4Q K x y H Q
def y07 (K:PySem.W.Frag):R2:=x4Q K
theorem q28.nil_iff {xs:List V}{us:List Value} (r:q28 xs us):us=[]↔xs=[]:=by
 cases r with
 | nil=>simp
 | cons _ _=>simp
theorem x6g:OpR X (binaryOp .Add) (y07 X.K):=by
 intro pins s σ H x y v u Q I rx ry h
 obtain ⟨a,b,xs,ys,rfl,rfl,ha,hb,hx,hz,q1,q2⟩:=h
 cases rx
 cases ry
 obtain ⟨its,r1,p1,_⟩:=I.tuple ha
 obtain ⟨its2,r2,p2,_⟩:=I.tuple hb
 refine HT.x6c p1 p2 (fun z=>hx (r1.nil_iff.mp z)) (fun z=>⟨.ref a,H,I,rfl,q1 (r2.nil_iff.mp z)⟩) (fun z=>?_) (by rw [<- r1.length,<- r2.length];exact hz)
 refine ⟨.ref s.heap.objs.size,_,I.laid (t':=s.toks) (o:=.tup (xs++ys)) (fun b ob q=>Heap.get?_push_of_some _ q) (Nat.le_refl _) ?_,rfl,q2 (fun w=>z (r2.nil_iff.mpr w)) _ (I.hok.fresh (Nat.le_refl _))⟩
 exact ⟨by rw [List.length_append];exact hz,_,r1.append r2,IsTup.new _ _⟩
end
end L2
namespace L2
open PySem PySem.Spec PyProof.Rows
def ixN (n:Nat) (i:Int):Option Nat:=if 0<=i then (if i<n then some i.toNat else none) else if -(n:Int)<=i then some (i + n).toNat else none
def atI {α:Type} (xs:List α) (i:Int):Option α:=(ixN xs.length i).bind fun j=>xs[j]?
theorem x6h {n:Nat}{i:Int}{j:Nat} (h:ixN n i=some j):seqIndex? i n=some j/\j<n/\-(n:Int)<=i/\i<n:=by
 unfold ixN at h
 by_cases h0:0<=i
 ·rw [if_pos h0] at h
  by_cases h1:i<n
  ·rw [if_pos h1] at h
   have e:i.toNat=j:=Option.some.inj h
   exact ⟨by rw [seqIndex_of h0 h1,e],by omega,by omega,h1⟩
  ·rw [if_neg h1] at h;cases h
 ·rw [if_neg h0] at h
  by_cases h1:-(n:Int)<=i
  ·rw [if_pos h1] at h
   have e:(i + n).toNat=j:=Option.some.inj h
   exact ⟨by rw [seqIndex_neg (by omega) h1,e],by omega,h1,by omega⟩
  ·rw [if_neg h1] at h;cases h
theorem w5q {α:Type}{xs:List α}{i:Int}{v:α} (h:atI xs i=some v):∃ j,seqIndex? i xs.length=some j/\xs[j]?=some v/\j<xs.length/\-(xs.length:Int)<=i/\i<xs.length:=by
 unfold atI at h
 cases e:ixN xs.length i with
 | none=>rw [e] at h;cases h
 | some j =>
  rw [e] at h
  obtain ⟨h1,h2,h3,h4⟩:=x6h e
  exact ⟨j,h1,h,h2,h3,h4⟩
theorem q8C {α:Type}{xs:List α}{j:Nat}{v:α} (h:xs[j]?=some v):atI xs (j:Int)=some v:=by
 have hj:j<xs.length:=(List.getElem?_eq_some_iff.mp h).1
 have e:ixN xs.length (j:Int)=some j:=by
  unfold ixN
  rw [if_pos (by omega),if_pos (by omega)];simp
 unfold atI;rw [e];exact h
def w1n (b:Expr):Prop:=∀ o i,subscripted b false o i=operate [o,i] (getItem o i)
def IxR (X:Cx) (r:R2):Prop :=
 ∀ (value slice:Expr) (pins:List (Addr×Obj)) (s:Shared) (σ:St) (H:Hp) (x y:V) (v u:Value) (Q:VK),Inv X pins σ H s->q1Z x v->q1Z y u->r x y H Q ->
  subscripted slice false v u=operate [v,u] (getItem v u)->wpAny (model X.prog X.w) X.A (subscriptTail value slice v u) (EP X pins σ Q) X.xe s
def MtR (X:Cx) (id:String) (r:V->List V->Hp->VK->Prop):Prop :=
 ∀ (pins:List (Addr×Obj)) (s:Shared) (σ:St) (H:Hp) (x:V) (xs:List V) (v:Value) (us:List Value) (Q:VK),Inv X pins σ H s->q1Z x v->q28 xs us->r x xs H Q ->
  wpAny (model X.prog X.w) X.A (call (.builtin id) (v::us)) (EP X pins σ Q) X.xe s
section
variable {X:Cx}{a b:Expr}{ta tb:TE}{pos:Pos}
theorem x80 {r:R2} (hr:IxR X r) (ha:PE X a ta) (hb:PE X b tb) (hs:w1n b):PE X (.Subscript a b pos) (tOp r ta tb):=by
 intro pins s σ H Q I h
 exact Subscript_ (x9W ha hb I h fun v u s2 x y H2 I2 rx ry q=>hr a b pins s2 σ H2 x y v u Q I2 rx ry q (hs _ _))
inductive x81 (K:PySem.W.Frag) (x:V) (y:V) (H:Hp) (Q:VK):Prop
 | mk (p xs i v:_) (h0:x=.ref p) (h1:y=.int i) (h2:SqL K H p xs) (h3:atI xs i=some v) (h4:Q v H):x81 K x y H Q
def y1H (K:PySem.W.Frag):R2:=x81 K
inductive x82 (K:PySem.W.Frag) (x:V) (y:V) (H:Hp) (Q:VK):Prop
 | mk (p xs i v:_) (h0:x=.ref p) (h1:y=.int i) (h2:SqT K H p xs) (h3:atI xs i=some v) (h4:Q v H):x82 K x y H Q
def y1I (K:PySem.W.Frag):R2:=x82 K
inductive x83 (x:V) (y:V) (H:Hp) (Q:VK):Prop
 | mk (z i c:_) (h0:x=.str z) (h1:y=.int i) (h2:z.length<=sizeLine) (h3:atI z.cps.toList i=some c) (h4:Q (.str ⟨#[c]⟩) H):x83  x y H Q
def y1J:R2:=x83
theorem q8D:IxR X (y1H X.K):=by
 intro value slice pins s σ H x y v u Q I rx ry h hs
 obtain ⟨p,xs,i,z,rfl,rfl,hq,he,q⟩:=h
 cases rx
 obtain ⟨t,rfl⟩:=ry
 obtain ⟨its,r,pl,hz⟩:=I.list hq
 obtain ⟨j,h1,h2,h3,h4,h5⟩:=w5q he
 obtain ⟨w,ew,rw'⟩:=r.get h2
 have hl:=r.length
 have hn:=w3d
 have fin:EP X pins σ Q w s:=⟨z,H,I,rw',q⟩
 by_cases h0:0<=i
 ·have hj:i.toNat=j:=by
   rw [seqIndex_of h0 h5] at h1
   exact Option.some.inj h1
  exact item_listR pl.isList h0 (by omega) (by rw [hj];simpa using ew) fin hs
 ·have hj:(i + (its.toArray.size:Int)).toNat=j:=by
   rw [seqIndex_neg (by omega) h4] at h1
   rw [List.size_toArray,<- hl]
   exact Option.some.inj h1
  exact subscriptTail_builtinR (x:=w) pl.isList.typeIs slot_list_getitem.lookup
   (wpAny_getItem_list_neg (Q:=fun r s'=>r=w/\EP X pins σ Q r s') pl.isList (by omega) (by rw [List.size_toArray]<;>omega) (by omega) (by rw [hj];simpa using ew) ⟨rfl,fin⟩) hs
theorem x84:IxR X (y1I X.K):=by
 intro value slice pins s σ H x y v u Q I rx ry h hs
 obtain ⟨p,xs,i,z,rfl,rfl,hq,he,q⟩:=h
 cases rx
 obtain ⟨t,rfl⟩:=ry
 obtain ⟨its,r,pl,hz⟩:=I.tuple hq
 obtain ⟨j,h1,h2,h3,h4,h5⟩:=w5q he
 obtain ⟨w,ew,rw'⟩:=r.get h2
 have hl:=r.length
 have hn:=w3d
 have fin:EP X pins σ Q w s:=⟨z,H,I,rw',q⟩
 exact subscriptTail_builtinR (x:=w) pl.typeIs slot_tuple_getitem.lookup
  (getItem_tuple (j:=j) (Q:=fun r s'=>r=w/\EP X pins σ Q r s') pl (by omega) (by omega) (by rw [List.size_toArray,<- hl];exact h1) (by simpa using ew) ⟨rfl,fin⟩) hs
theorem x85:IxR X y1J:=by
 intro value slice pins s σ H x y v u Q I rx ry h hs
 obtain ⟨z,i,c,rfl,rfl,hz,he,q⟩:=h
 obtain ⟨t,rfl⟩:=rx
 obtain ⟨t',rfl⟩:=ry
 obtain ⟨j,h1,h2,h3,h4,h5⟩:=w5q he
 have hl:z.cps.toList.length=z.length:=by simp [Str.length]
 rw [hl] at h1 h4 h5
 have hn:=w3d
 exact tail_any (typeIs_str s z t) slot_str_getitem.lookup (getItem_str (c:=c) (by
  have e1:decide (i < -(2 ^ 63:Int))=false:=decide_eq_false (by omega)
  have e2:decide (i ≥ 2 ^ 63)=false:=decide_eq_false (by omega)
  rw [e1,e2,Bool.or_false]) (by rw [h1];simpa using h2) ⟨.str ⟨#[c]⟩,H,I.tok _,⟨_,rfl⟩,q⟩) hs
theorem w3i (lo hi:Option Int) (n:Nat):(sliceBounds lo hi none n).1=((HT.sIx n 0 lo:Nat):Int)/\(sliceBounds lo hi none n).2.1=((HT.sIx n n hi:Nat):Int)/\(sliceBounds lo hi none n).2.2=1:=by
 refine ⟨?_,?_,rfl⟩
 ·cases lo with
  | none=>simp [sliceBounds,HT.sIx]
  | some i =>
   simp only [sliceBounds,HT.sIx,Option.getD_none,show (1:Int) > 0 by decide,if_true]
   by_cases h:i<0
   ·simp only [h,if_true]<;>omega
   ·simp only [h,if_false]<;>omega
 ·cases hi with
  | none=>simp [sliceBounds,HT.sIx]
  | some i =>
   simp only [sliceBounds,HT.sIx,Option.getD_none,show (1:Int) > 0 by decide,if_true]
   by_cases h:i<0
   ·simp only [h,if_true]<;>omega
   ·simp only [h,if_false]<;>omega
theorem w1o (its:List Value) (lo hi:Option Int):slicePick its.toArray lo hi none=((its.drop (HT.sIx its.length 0 lo)).take (HT.sIx its.length its.length hi - HT.sIx its.length 0 lo)).toArray:=by
 obtain ⟨h1,h2,h3⟩:=w3i lo hi its.toArray.size
 unfold slicePick
 rw [h1,h2,h3]
 simp only [sliceRange_one,pick_run,List.size_toArray]<;>rfl
def y1K (K:PySem.W.Frag):V->Option Int->Option Int->Hp->VK->Prop:=fun x lo hi H Q=>∃ a xs,x=.ref a/\SqL K H a xs/\∀ p,H p=none->Q (.ref p) (upd H p (.lst (x4P xs lo hi)))
theorem x6i:SlR X (y1K X.K):=by
 intro pins s σ H x v vl vu lo hi sl Q I rx hs pl pu h
 obtain ⟨a,xs,rfl,hx,q⟩:=h
 cases rx
 obtain ⟨its,r,ht,hz⟩:=I.list hx
 have hlen:=r.length
 refine ⟨"list",_,slot_list_getitem.lookup,ht.isList.typeIs,?_⟩
 refine wpAny_getItem_list_slice ht.isList hs pl pu .none (by simp) ?_ (by rw [List.size_toArray]<;>omega)
 rw [w1o,<- hlen]
 refine ⟨.ref s.heap.objs.size,_,I.laid (t':=s.toks) (o:=.lst (x4P xs lo hi)) (fun b ob q=>Heap.get?_push_of_some _ q) (Nat.le_refl _) ?_,rfl,q _ (I.hok.fresh (Nat.le_refl _))⟩
 exact ⟨Nat.le_trans (q8B xs lo hi) hz,_,0,(r.drop (HT.sIx xs.length 0 lo)).take (HT.sIx xs.length xs.length hi - HT.sIx xs.length 0 lo),Heap.get?_push_size _ rfl⟩
def q8E:V->Bool
 | .non=>true
 | .bl _=>true
 | .int _=>true
 | .str _=>true
 | _=>false
def eqV:V->V->Bool
 | .non,.non=>true
 | .bl a,.bl b=>a == b
 | .bl a,.int b=>(if a then 1 else 0) == b
 | .int a,.bl b=>a == (if b then 1 else 0)
 | .int a,.int b=>a == b
 | .str a,.str b=>a == b
 | _,_=>false
theorem x86 {A:Around}{s:Shared}{y x:V}{u v:Value} (ry:q1Z y u) (rx:q1Z x v) (fy:q8E y=true) (fx:q8E x=true):SeqAt.EqAt A s u v (eqV y x):=by
 cases y with
 | non =>
  cases ry
  cases x with
  | non=>cases rx;exact SeqAt.EqAt.same _
  | bl b=>cases rx;exact SeqAt.EqAt.none_bool b
  | int b=>obtain ⟨t,rfl⟩:=rx;exact SeqAt.EqAt.none_int b t
  | str b=>obtain ⟨t,rfl⟩:=rx;exact SeqAt.EqAt.none_str b t
  | _=>exact absurd (show false=true from fx) Bool.false_ne_true
 | bl a =>
  cases ry
  cases x with
  | non=>cases rx;exact SeqAt.EqAt.bool_none a
  | bl b=>cases rx;exact SeqAt.EqAt.bool_bool a b
  | int b=>obtain ⟨t,rfl⟩:=rx;exact SeqAt.EqAt.bool_int a b t
  | str b=>obtain ⟨t,rfl⟩:=rx;exact SeqAt.EqAt.bool_str a b t
  | _=>exact absurd (show false=true from fx) Bool.false_ne_true
 | int a =>
  obtain ⟨t',rfl⟩:=ry
  cases x with
  | non=>cases rx;exact SeqAt.EqAt.int_none a t'
  | bl b=>cases rx;exact SeqAt.EqAt.int_bool a t' b
  | int b=>obtain ⟨t,rfl⟩:=rx;exact SeqAt.EqAt.int_int a t' b t
  | str b=>obtain ⟨t,rfl⟩:=rx;exact SeqAt.EqAt.int_str a t' b t
  | _=>exact absurd (show false=true from fx) Bool.false_ne_true
 | str a =>
  obtain ⟨t',rfl⟩:=ry
  cases x with
  | non=>cases rx;exact SeqAt.EqAt.str_none a t'
  | bl b=>cases rx;exact SeqAt.EqAt.str_bool a t' b
  | int b=>obtain ⟨t,rfl⟩:=rx;exact SeqAt.EqAt.str_int a t' b t
  | str b=>obtain ⟨t,rfl⟩:=rx;exact SeqAt.EqAt.str_str a t' b t
  | _=>exact absurd (show false=true from fx) Bool.false_ne_true
 | _=>exact absurd (show false=true from fy) Bool.false_ne_true
def eqU (x:V) (u:Value):Bool:=match u with
 | .none=>eqV .non x
 | .bool b=>eqV (.bl b) x
 | .int i _=>eqV (.int i) x
 | .str z _=>eqV (.str z) x
 | _=>false
theorem x4R {x y:V}{u:Value} (r:q1Z y u) (f:q8E y=true):eqU x u=eqV y x:=by
 cases y with
 | non=>cases r;rfl
 | bl b=>cases r;rfl
 | int i=>obtain ⟨t,rfl⟩:=r;rfl
 | str z=>obtain ⟨t,rfl⟩:=r;rfl
 | _=>exact absurd (show false=true from f) Bool.false_ne_true
theorem q8F {x:V}:∀ {xs:List V}{us:List Value},q28 xs us->xs.all q8E=true->us.any (eqU x)=xs.any fun y=>eqV y x
 | _,_,.nil,_=>rfl
 | y::xs,u::us,.cons r t,f=>by
  rw [List.all_cons,Bool.and_eq_true] at f
  rw [List.any_cons,List.any_cons,x4R r f.1,q8F t f.2]
theorem q62 {A:Around}{s:Shared}{x:V}{v:Value} (rx:q1Z x v) (fx:q8E x=true):∀ {xs:List V}{us:List Value},q28 xs us->xs.all q8E=true->∀ u∈us,SeqAt.EqAt A s u v (eqU x u)
 | _,_,.nil,_=>fun u hu=>by cases hu
 | y::xs,u::us,.cons r t,f=>fun u' hu=>by
  rw [List.all_cons,Bool.and_eq_true] at f
  rcases List.mem_cons.mp hu with rfl | hu
  ·rw [x4R r f.1];exact x86 r rx f.1 fx
  ·exact q62 rx fx t f.2 u' hu
def inV (x:V) (xs:List V):Bool:=xs.any fun y=>eqV y x
inductive y0O (K:PySem.W.Frag) (neg:Bool) (x:V) (y:V) (H:Hp) (Q:VK):Prop
 | mk (p xs:_) (h0:y=.ref p) (h1:(SqL K H p xs\/SqT K H p xs)) (h2:q8E x=true) (h3:xs.all q8E=true) (h4:Q (.bl (if neg then !inV x xs else inV x xs)) H):y0O K neg x y H Q
def rIn (K:PySem.W.Frag) (neg:Bool):R2:=y0O K neg
theorem x10:OpR X (compareOp .In) (rIn X.K false):=by
 intro pins s σ H x y v u Q I rx ry h
 obtain ⟨p,xs,rfl,hq,fx,fs,q⟩:=h
 cases ry
 rcases hq with hq | hq
 ·obtain ⟨its,r,pl,hz⟩:=I.list hq
  refine SeqAt.in_listAt (eqU x) pl.isList (fun w hw=>q62 rx fx r fs w (by simpa using hw)) ⟨.bl _,H,I,rfl,?_⟩
  rw [show its.toArray.any (eqU x)=its.any (eqU x) by simp,q8F r fs]
  exact q
 ·obtain ⟨its,r,pl,hz⟩:=I.tuple hq
  refine SeqAt.in_tupleAt (eqU x) pl (fun w hw=>q62 rx fx r fs w (by simpa using hw)) ⟨.bl _,H,I,rfl,?_⟩
  rw [show its.toArray.any (eqU x)=its.any (eqU x) by simp,q8F r fs]
  exact q
theorem w3j:OpR X (compareOp .NotIn) (rIn X.K true):=by
 intro pins s σ H x y v u Q I rx ry h
 obtain ⟨p,xs,rfl,hq,fx,fs,q⟩:=h
 cases ry
 rcases hq with hq | hq
 ·obtain ⟨its,r,pl,hz⟩:=I.list hq
  refine SeqAt.notIn_listAt (eqU x) pl.isList (fun w hw=>q62 rx fx r fs w (by simpa using hw)) ⟨.bl _,H,I,rfl,?_⟩
  rw [show its.toArray.any (eqU x)=its.any (eqU x) by simp,q8F r fs]
  exact q
 ·obtain ⟨its,r,pl,hz⟩:=I.tuple hq
  refine SeqAt.notIn_tupleAt (eqU x) pl (fun w hw=>q62 rx fx r fs w (by simpa using hw)) ⟨.bl _,H,I,rfl,?_⟩
  rw [show its.toArray.any (eqU x)=its.any (eqU x) by simp,q8F r fs]
  exact q
theorem q7B:q4y X (.builtin "len") (fun xs H Q=>∃ p ys,xs=[.ref p]/\(SqL X.K H p ys\/SqT X.K H p ys)/\Q (.int ys.length) H):=by
 intro pins s σ H xs us Q I r h
 obtain ⟨p,ys,rfl,hq,q⟩:=h
 obtain ⟨u,rfl,rx⟩:=q4A r
 cases rx
 have hn:=w3d
 rcases hq with hq | hq
 ·obtain ⟨its,r',pl,hz⟩:=I.list hq
  have hlen:=r'.length
  exact Calls.call_len_list pl.isList (by simp only [List.size_toArray]<;>omega) ⟨.int ys.length,H,I.tok _,⟨s.toks + 1,by rw [List.size_toArray,hlen]⟩,q⟩
 ·obtain ⟨its,r',pl,hz⟩:=I.tuple hq
  have hlen:=r'.length
  exact len_tuple pl (by simp only [List.size_toArray]<;>omega) ⟨.int ys.length,H,I.tok _,⟨s.toks + 1,by rw [List.size_toArray,hlen]⟩,q⟩
theorem w3k:q4y X (.builtin "len") (fun xs H Q=>∃ z,xs=[.str z]/\z.length<=sizeLine/\Q (.int z.length) H):=by
 intro pins s σ H xs us Q I r h
 obtain ⟨z,rfl,hz,q⟩:=h
 obtain ⟨u,rfl,t,rfl⟩:=q4A r
 have hn:=w3d
 exact len_str (by omega) ⟨.int z.length,H,I.tok _,⟨_,rfl⟩,q⟩
theorem q7C:q4y X (.type "list") (fun xs H Q=>∃ p ys,xs=[.ref p]/\(SqL X.K H p ys\/SqT X.K H p ys)/\∀ l,H l=none->Q (.ref l) (upd H l (.lst ys))):=by
 intro pins s σ H xs us Q I r h
 obtain ⟨p,ys,rfl,hq,q⟩:=h
 obtain ⟨u,rfl,rx⟩:=q4A r
 cases rx
 have fin:∀ (its:List Value),q28 ys its->ys.length<=sizeLine->∀ (h':Heap) (c':Nat),(∀ b o',s.heap.get? b=some o'->h'.get? b=some o') ->
   h'.get? s.heap.objs.size=some { cls:=.type "list",dict:=none,data:=.seq its.toArray c',slots:=#[] }->EP X pins σ Q (.ref s.heap.objs.size) { s with heap:=h' }:=fun its r' hz h' c' kp e =>
  ⟨.ref s.heap.objs.size,_,I.laid (t':=s.toks) kp (Nat.le_refl _) (show q1d X.prog X.w _ h' _ (.lst ys) from ⟨hz,its,c',r',e⟩),rfl,q _ (I.hok.fresh (Nat.le_refl _))⟩
 rcases hq with hq | hq
 ·obtain ⟨its,r',pl,hz⟩:=I.list hq
  have hlen:=r'.length
  obtain ⟨o,ho,hc,n,hd⟩:=pl.isList
  exact call_list_seq p (.inl rfl) ho hc hd (fun h' c' kp e=>fin its r' hz h' c' kp e) (by simp only [List.size_toArray]<;>omega)
 ·obtain ⟨its,r',pl,hz⟩:=I.tuple hq
  have hlen:=r'.length
  obtain ⟨o,ho,hc,n,hd⟩:=pl
  exact call_list_seq p (.inr rfl) ho hc hd (fun h' c' kp e=>fin its r' hz h' c' kp e) (by simp only [List.size_toArray]<;>omega)
theorem q63:q4y X (.type "tuple") (fun xs H Q=>∃ p ys,xs=[.ref p]/\((SqL X.K H p ys/\∀ l,H l=none->Q (.ref l) (upd H l (.tup ys)))\/(SqT X.K H p ys/\Q (.ref p) H))):=by
 intro pins s σ H xs us Q I r h
 obtain ⟨p,ys,rfl,h⟩:=h
 obtain ⟨u,rfl,rx⟩:=q4A r
 cases rx
 rcases h with ⟨hq,q⟩ | ⟨hq,q⟩
 ·obtain ⟨its,r',pl,hz⟩:=I.list hq
  have hlen:=r'.length
  refine call_tuple_list pl.isList (fun h' kp=>?_) (by simp only [List.size_toArray]<;>omega)
  have I1:Inv X pins σ H { s with heap:=h' }:=I.kept (t':=s.toks) kp
  have I2:Inv X pins σ (upd H h'.objs.size (.tup ys)) { s with heap:=h'.push { cls:=.type "tuple",data:=.seq its.toArray } } :=
   I1.laid (t':=s.toks) (fun b o e=>Heap.get?_push_of_some _ e) (Nat.le_refl _) (show q1d X.prog X.w _ _ _ (.tup ys) from ⟨hz,its,r',IsTup.new _ _⟩)
  exact ⟨.ref h'.objs.size,_,I2,rfl,q _ (I1.hok.fresh (Nat.le_refl _))⟩
 ·obtain ⟨its,r',pl,hz⟩:=I.tuple hq
  exact call_tuple_same pl ⟨.ref p,H,I,rfl,q⟩
def tyV (K:PySem.W.Frag) (T:String) (x:V) (H:Hp):Prop:=match x with
 | .str _=>T="str"
 | .int _=>T="int"
 | .ref p=>(T="list"/\∃ xs,SqL K H p xs)\/(T="tuple"/\∃ o,K.lookup p=some o/\o.cls=.type "tuple"/\o.dict=none) \/
   (T="dict"/\((∃ kvs,H p=some (.dK kvs))\/∃ kvs,H p=some (.dT kvs)))\/(T="set"/\∃ S n,H p=some (.set S n))
 | _=>False
theorem x87 {pins:List (Addr×Obj)}{σ:St}{H:Hp}{s:Shared}{T:String}{x:V}{v:Value} (I:Inv X pins σ H s) (r:q1Z x v) (ty:tyV X.K T x H) :
  s.TypeIs v T/\∀ a,v=.ref a->∃ ob,s.heap.get? a=some ob/\ob.dict=none:=by
 cases x with
 | str z =>
  obtain ⟨t,rfl⟩:=r
  cases (show T="str" from ty)
  exact ⟨typeIs_str s z t,fun _ e=>nomatch e⟩
 | int i =>
  obtain ⟨t,rfl⟩:=r
  cases (show T="int" from ty)
  exact ⟨typeIs_int s i t,fun _ e=>nomatch e⟩
 | ref p =>
  cases r
  rcases ty with ⟨rfl,xs,hq⟩ | ⟨rfl,o,hk,hc,hd⟩ | ⟨rfl,hk⟩ | ⟨rfl,S,n,hk⟩
  ·obtain ⟨its,_,pl,_⟩:=I.list hq
   refine ⟨pl.isList.typeIs,fun a e=>?_⟩
   cases e
   obtain ⟨o,n,e,c,hd,_⟩:=pl
   exact ⟨o,e,hd⟩
  ·refine ⟨⟨o,I.kIn p o hk,hc⟩,fun a e=>?_⟩
   cases e
   exact ⟨o,I.kIn _ o hk,hd⟩
  ·have z:∃ o,s.heap.get? p=some o/\o.ExactDict:=by
    rcases hk with ⟨kvs,hk⟩ | ⟨kvs,hk⟩
    ·obtain ⟨_,_,_,_,o,_,_,e,ex,_⟩:=I.hok p _ hk
     exact ⟨o,e,ex⟩
    ·obtain ⟨_,_,_,_,o,_,_,e,ex,_⟩:=I.hok p _ hk
     exact ⟨o,e,ex⟩
   obtain ⟨o,e,ex⟩:=z
   refine ⟨⟨o,e,ex.1⟩,fun a e2=>?_⟩
   cases e2
   exact ⟨o,e,ex.2.1⟩
  ·obtain ⟨o,_,_,_,e,ex,_⟩:=I.hok p _ hk
   refine ⟨⟨o,e,ex.1⟩,fun a e2=>?_⟩
   cases e2
   exact ⟨o,e,ex.2.1⟩
 | _=>exact False.elim ty
def tBM (K:PySem.W.Frag) (T:String) (r:V->List V->Hp->VK->Prop) (to:TE) (t:TA):TE:=fun σ H Q=>to σ H fun x H1=>tyV K T x H1/\t σ H1 fun xs H2=>r x xs H2 Q
variable {o e:Expr}{es:List Expr}{to:TE}{t:TA}{name:Str}{apos cpos:Pos}{T id:String}{r:V->List V->Hp->VK->Prop}
theorem x88 (pa:PlainAttrs T) (slot:Slot T name id) (hty:typeOf (.builtin id)=pure (.type "method_descriptor")) (hm:MtR X id r) (ho:PE X o to) (ha:PA X (e::es) t)
  (hbase:attributeBase o name X.env (eval o X.env)=eval o X.env:=by rfl)
  (hfew:((backTo cpos (starEach (e::es) X.env)).all (fun x=>!x.1) && (backToKw cpos (keywordEach [] X.env)).all (fun x=>x.1.isSome)
   && decide ((e::es).length + ([] : List Keyword).length + (if ([] : List Keyword).isEmpty then 0 else 1)<30))=true:=by rfl)
  (hline:(apos.endLine == cpos.line)=true:=by rfl) (hs:starEach (e::es) X.env=(false,eval e X.env)::starEach es X.env:=by rfl) (hplain:(backTo cpos (starEach es X.env)).any (·.1)=false:=by rfl) :
  PE X (.Call (.Attribute o name apos) (e::es) [] cpos) (tBM X.K T r to t):=by
 intro pins s σ H Q I h
 refine wpAny_Call_method_late hbase hfew hline rfl (thn (ho pins s σ H _ I h) fun v s1 ⟨x,H1,I1,r1,ty,q1⟩=>?_)
 obtain ⟨h1,h2⟩:=x87 I1 r1 ty
 refine ⟨T,id,pa,slot,hty,h1,h2,?_⟩
 have hA:=ha cpos pins s1 σ H1 _ I1 q1
 rw [hs] at hA ⊢
 refine Calls.callWith_builtin (by show (false || (backTo cpos (starEach es X.env)).any (·.1))=false;rw [hplain]<;>rfl) (Calls.evalArgs_plain ?_)
 exact thn hA fun us s2 h_30=>by obtain ⟨vs,H2,I2,r2,q2⟩:=h_30;exact hm pins s2 σ H2 x vs v us Q I2 r1 r2 q2
/- xs.append(e),list.index on a module's tuple .. are MtR facts of 06m -/
end
end L2
namespace L2
open PySem PySem.Spec PyProof.Rows
def MtM (X:Cx) (id:String) (r:V->List V->Hp->VK->Prop):Prop :=
 ∀ (pins:List (Addr×Obj)) (s:Shared) (σ:St) (H:Hp) (x:V) (xs:List V) (v:Value) (us:List Value) (Q:VK),Inv X pins σ H s->q1Z x v->q28 xs us->r x xs H Q ->
  wpAny (model X.prog X.w) X.A (call (.builtin id) (v::us)) (EP X pins σ Q) X.xe s
theorem q28.one {x:V}{us:List Value} (h:q28 [x] us):∃ u,us=[u]/\q1Z x u:=by
 cases h with | cons r t=>cases t;exact ⟨_,rfl,r⟩
section
variable {X:Cx}{pins:List (Addr×Obj)}{σ:St}{H:Hp}{s:Shared}{l b:Addr}{xs ys zs:List V}
theorem Inv.lset {its its':List Value}{n:Nat}{f:Array Value->Array Value}{t':Nat} (I:Inv X pins σ H s) (hH:H l=some (.lst xs))
  (e:s.heap.get? l=some { cls:=.type "list",data:=.seq its.toArray n }) (hf:f its.toArray=its'.toArray) (hv:q28 ys its') (hz:ys.length<=sizeLine) :
  Inv X pins σ (upd H l (.lst ys)) { s with heap:=s.heap.update l (Obj.mapSeq f),toks:=t' }:=by
 have q:=PySem.IsL.update e f
 rw [hf] at q
 refine I.write (x:=l) (e:=l) (by rw [hH];exact trivial) (.inl rfl) (fun b' u hb hu=>(Heap.get?_update_other s.heap (Obj.mapSeq f) (Ne.symm hb)).trans hu) ⟨_,q⟩ ?_
 exact ⟨hz,its',_,hv,q⟩
theorem Inv.lnew {its:List Value}{t':Nat} (I:Inv X pins σ H s) (hv:q28 ys its) (hz:ys.length<=sizeLine) :
  Inv X pins σ (upd H s.heap.objs.size (.lst ys)) { s with heap:=s.heap.push { cls:=.type "list",data:=.seq its.toArray },toks:=t' } :=
 I.laid (fun _ _ q=>Heap.get?_push_of_some _ q) (Nat.le_refl _) ⟨hz,its,0,hv,Heap.get?_push_size _ rfl⟩
theorem Inv.fresh (I:Inv X pins σ H s):H s.heap.objs.size=none:=I.hok.fresh (Nat.le_refl _)
theorem Inv.lstM (I:Inv X pins σ H s) (hH:H l=some (.lst xs)):InM s.heap l xs:=by
 obtain ⟨z,its,n,r,e⟩:=I.hok l _ hH
 exact ⟨z,its,n,r,r.length,e⟩
end
section
variable {X:Cx}
inductive w7V (x:V) (vs:List V) (H:Hp) (Q:VK):Prop
 | mk (l xs y:_) (h0:x=.ref l) (h1:vs=[y]) (h2:H l=some (.lst xs)) (h3:xs.length<sizeLine) (h4:Q .non (upd H l (.lst (xs++[y])))):w7V  x vs H Q
def x6j:V->List V->Hp->VK->Prop:=w7V
theorem w3l:MtM X "list.append" x6j:=by
 intro pins s σ H x vs v us Q I rx rv h
 obtain ⟨l,xs,y,rfl,rfl,hH,hz,q⟩:=h
 cases rx
 obtain ⟨u,rfl,ru⟩:=rv.one
 obtain ⟨z,its,n,r,hl,e⟩:=I.lstM hH
 refine call_meets F.slot_list_append ⟨_,e,rfl⟩ F.entry_list_append (F.args_list_append_2 _ _) (PySem.list_append l its.toArray n u (by rw [List.size_toArray];omega)) ⟨e,?_⟩
 refine ⟨.non,_,I.lset (its':=its++[u]) hH e (by simp) (r.append (.cons ru .nil)) ?_,rfl,q⟩
 rw [List.length_append,List.length_singleton]
 omega
end
section
variable {prog:Program}{w:World}{A:Around}{E:Value->Shared->Prop}{s:Shared}
end
section
variable {X:Cx}
end
end L2
namespace Att
open PySem PySem.W PySem.Calls PyProof.Rows
theorem q8G {P:Params}{h:Heap}:∀ (ns:List Int) (vs:List Value),WellAll P h vs (ns.map WData.int)->IntsAre vs ns:=by
 intro ns
 induction ns with
 | nil =>
  intro vs w
  rw [List.map_nil] at w
  cases w
  exact .nil
 | cons n ns ih =>
  intro vs w
  rw [List.map_cons] at w
  cases w with
  | cons a b =>
   cases a
   exact .cons _ _ (ih _ b)
theorem x11 {l:OpenLaw}{n:Nat} (hn:l.most=some n) {P:Params}{h:Heap}{args:List WData}{vals:List Value}
  (hpre:l.row.toRowW.claim.pre args=true) (hwl:WellAll P h vals args) :
  ∃ a vs ns,vals=[Value.ref a]/\args=[WData.list (ns.map WData.int)]/\h.get? a=some { cls:=.type "list",data:=.seq vs.toArray }/\IntsAre vs ns/\ns.length<=n:=by
 have hsh:WShape.hasAll [] args [.list .int]=true:=(pre_splitW hpre).1
 have hc:l.pre.holds [] { args:=args }=true:=(pre_splitW hpre).2
 obtain ⟨d,r,rfl,h1,h2⟩:=hasAllW_cons hsh
 obtain rfl:=hasAllW_nil h2
 obtain ⟨xs,rfl,h3⟩:=hasW_list h1
 obtain ⟨ns,rfl⟩:=items_int h3
 have hlen:ns.length<=n:=by
  unfold OpenLaw.pre at hc
  have h4:(WTm.not (.lt (.lit (.int (n:Int))) (.len (.arg 0)))).holds [] { args:=[.list (ns.map .int)] }=true:=by
   have h4:=(holds_andW hc).1
   rw [hn] at h4
   exact h4
  have h5:=condW_of h4 (w_not (w_lt w_lit (w_len_list (w_arg rfl))))
  rw [List.length_map] at h5
  refine Nat.le_of_not_lt fun q=>?_
  have q':(n:Int)<((ns.length:Nat):Int):=by omega
  first
   | (rw [decide_eq_true q'] at h5;exact absurd h5 (by decide))
   | (simp at h5;omega)
 cases hwl with
 | cons w1 w2 =>
  cases w2
  cases w1 with
  | list ho hall=>exact ⟨_,_,ns,rfl,rfl,ho,q8G ns _ hall,hlen⟩
theorem x12 (l:OpenLaw) (args:List WData):l.row.toRowW.claim.post args (.bool true) args=true :=
 postW_of (r:=l.row.toRowW) (X:=(true == true))
  (show WShape.has [] (.bool true) .bool=true by first | rfl | decide | simp [WShape.has,WShape.arms,WShape.armsAll])
  (show (WTm.eq .res (.lit (.bool true))).value [] { args:=args,res:=some (.bool true),after:=args }=some (.bool (true == true)) from w_eq_bool (w_res rfl) w_lit) rfl
theorem attach_call {l:OpenLaw}{n:Nat}{q:Program}{loose:List Str}{XP:(Str->Option Value)->Heap->Prop}{YP:World->Heap->Prop}{d:DefRec}
  (hn:l.most=some n) (hdf:d.params.defaults=[])
  (call:∀ (w:World) (s₀ s₁:Shared) (mg mb:Str->Option Value) (fa:Addr) (o:Obj) (pm cd doc:Value) (a:Addr) (vs:List Value) (ns:List Int),
   Ground q loose [] XP w s₀ mg mb s₁.heap->YP w s₁.heap ->
   s₁.heap.get? fa=some o->o.data=.func (docDef d.name d.params d.body d.scope pm cd doc)->s₁.heap.CodeRec cd d.name->mg d.name=some (.ref fa) ->
   s₁.heap.get? a=some { cls:=.type "list",data:=.seq vs.toArray }->IntsAre vs ns->ns.length<=n->s₁.gens=#[] ->
   codeAny (model l.prog w) callerA (.call (.ref fa) ⟨[.ref a],[]⟩) (fun r s'=>r=.ok (.ret (.bool true))/\OldK s₁.heap s'.heap/\s'.os=s₁.os/\AllBare s'.gens) s₁) :
  WalkO q loose XP YP l.row.toRowW d [] (fun f vs=>PySem.call f vs):=by
 intro w s₀ s₁ mg mb G Y fa o pm cd doc dV kV ho hd hcd hD hmg hg args vals as hpre hlay hrd hwl hlo
 obtain rfl:dV=.none:=Dflts.none hD hdf
 obtain rfl:kV=.none:=Dflts.noKw hD
 obtain ⟨a,vs,ns,rfl,rfl,hobj,hints,hlen⟩:=x11 hn hpre hwl
 refine enter_call (codeAny_mono (call w s₀ s₁ mg mb fa o pm cd doc a vs ns G Y ho (fd_plain hd) hcd hmg hobj hints hlen hg) fun r s' hq=>?_)
 obtain ⟨rfl,h2,h3,h4⟩:=hq
 exact ⟨.inl ⟨.bool true,.bool true,[],rfl,fun _=>rfl,.bool true,x12 l _,fun _=>⟨List.Pairwise.nil,fun _ hm=>(nomatch hm)⟩⟩,h2,h3,h4⟩
section
variable {prog:Program}{w:World}{A:Around}{E:Value->Shared->Prop}{s:Shared}{K:Frag}
def y0P (h:Heap) (L d:Addr):List (Addr×Obj):=(List.range h.objs.size).filterMap fun a=>if a=L\/a=d then none else (h.get? a).map fun o=>(a,o)
end
end Att
namespace L2
open PySem PySem.Spec PyProof.Rows
theorem x13 {vs:List Value}{ns:List Int} (h:IntsAre vs ns):q28 (ns.map V.int) vs:=by
 induction h with
 | nil=>exact .nil
 | cons n t h ih=>exact .cons ⟨t,rfl⟩ ih
def y08 (H:Hp):Prop:=∀ b,H b=none\/∃ o xs,H b=some (.frz o (.lst xs))
theorem x3s {P:Program}{w:World}{K:PySem.W.Frag}{mg mb:Str->Option Value}{CX:CXT}{k:Nat}{fa a:Addr}{fd:FuncData}{x:Str}{sp:Sp}{s₁:Shared}{vs:List Value}{ns:List Int}
  (KX:K.In s₁.heap) (hns:s₁.heap.Ns mainGlobals mg) (hb:s₁.heap.Ns builtinsNs mb) (hbb:∀ x:Str,x≠"__name__"->mb x=bootBuiltins x) (hlim:s₁.heap.NoLimit) (hg:s₁.gens=#[])
  (ha:s₁.heap.get? a=some { cls:=.type "list",data:=.seq vs.toArray }) (hi:IntsAre vs ns) (hl:ns.length<=sizeLine) (hr:q9Y k callerA)
  (F:∀ base:Heap,K.In base->base.Ns mainGlobals mg->w90 P w K mg base CX k fa fd [x] sp) (hbind:∀ (s:Shared) (u:Value),BindsTo s fd ⟨[u],[]⟩ [(x,u)])
  (hsp:∀ H:Hp,y08 H->SqL K H a (ns.map V.int)->sp [.ref a] H (fun v _=>v=.bl true) fun _ _ _=>False)
  (hCX:∀ H e s',CX [] H s₁ (fun _ _ _=>False) e s'->False) :
  codeAny (model P w) callerA (.call (.ref fa) ⟨[.ref a],[]⟩) (fun r s'=>r=.ok (.ret (.bool true))/\OldK s₁.heap s'.heap/\s'.os=s₁.os/\AllBare s'.gens) s₁:=by
 have rv:=x13 hi
 have lenV:=hi.length
 have core:∀ H:Hp,y08 H->SqL K H a (ns.map V.int)->HOk P w H s₁.heap->(∀ b,H b≠none->b=a)->(H a≠none->K.lookup a=none) ->
   codeAny (model P w) callerA (.call (.ref fa) ⟨[.ref a],[]⟩) (fun r s'=>r=.ok (.ret (.bool true))/\OldK s₁.heap s'.heap/\s'.os=s₁.os/\AllBare s'.gens) s₁:=by
  intro H hO hS hok hA hK
  have base_of:∀ {b:Addr}{o:Obj},s₁.heap.get? b=some o->H b=none->(x3i s₁.heap H).get? b=some o:=fun e n=>x3j e n
  have noA:∀ {b:Addr}{o:Obj}{es:Array DictEntry}{ep:Nat},s₁.heap.get? b=some o->o.data=.dict es ep->H b=none:=fun {b o es ep} e d=>by
   cases q:H b with
   | none=>rfl
   | some u =>
    have e':b=a:=hA b (by rw [q];simp)
    subst e'
    rw [ha] at e;cases e
    have d':Data.seq vs.toArray _=Data.dict es ep:=d
    cases d'
  have nsK:∀ {b:Addr}{m:Str->Option Value},s₁.heap.Ns b m->(x3i s₁.heap H).Ns b m:=fun {b m} ⟨o,es,ep,e,d,r⟩=>⟨o,es,ep,base_of e (noA e d),d,r⟩
  have hKb:K.In (x3i s₁.heap H):=fun b o e=>base_of (KX b o e) (by
   cases q:H b with
   | none=>rfl
   | some u =>
    have e':b=a:=hA b (by rw [q];simp)
    subst e'
    rw [hK (by rw [q];simp)] at e;cases e)
  have hM:Mod K mg (x3i s₁.heap H):=⟨hKb,nsK hns,⟨mb,nsK hb,hbb⟩,let ⟨mc,h1,h2⟩:=hlim;⟨mc,nsK h1,h2⟩⟩
  have e0:x9B P w K mg (x3i s₁.heap H) callerA [] s₁ H:=⟨rfl,hM,fun b o e=>x5Z e,Nat.le_of_eq (x0N _ _),trivial,fun b hb=>absurd (show b∈([] : List Addr) from hb) (by simp),hok,.of_eq hg⟩
  refine codeAny_mono ((F _ hKb (nsK hns)).run callerA [] s₁ H ⟨[.ref a],[]⟩ [.ref a] [.ref a] _ _ hr e0 (hbind s₁ (.ref a)) (.cons rfl .nil) (hsp H hO hS)) fun r s' h=>?_
  cases r with
  | error e=>exact (hCX H e s' h).elim
  | ok fl =>
   cases fl with
   | next=>exact False.elim h
   | brk=>exact False.elim h
   | cont=>exact False.elim h
   | ret u =>
    obtain ⟨v,H',os,bare,un,hok',r',q⟩:=h
    have q':v=.bl true:=q
    subst q'
    obtain rfl:u=Value.bool true:=r'
    refine ⟨rfl,OldK.of_keep fun b o e=>?_,os,bare⟩
    cases q:H b with
    | none=>exact un.keep b o e q (by intro z;exact absurd (show b∈([] : List Addr) from z) (by simp)) (by simp)
    | some u =>
     rcases hO b with z | ⟨ob,xs,z⟩
     ·rw [q] at z;cases z
     ·have z2:=un.frzs b ob _ z
      obtain ⟨e1,_⟩:=hok b _ z
      obtain ⟨e2,_⟩:=hok' b _ z2
      rw [e] at e1;cases e1
      exact e2
 cases hk:K.lookup a with
 | some o =>
  have e:=KX a o hk
  rw [ha] at e
  cases e
  refine core (fun _=>none) (fun _=>.inl rfl) (.inr ⟨_,vs.toArray,_,hk,rfl,rfl,rfl,by rw [List.size_toArray,lenV];exact hl,by simpa using rv⟩) (fun b u z=>by have z':(none:Option HO)=some u:=z;cases z') (fun b z=>absurd rfl z) fun z=>absurd rfl z
 | none =>
  refine core (fun b=>if b=a then some (.frz { cls:=.type "list",data:=.seq vs.toArray } (.lst (ns.map V.int))) else none) (fun b=>?_) (.inl (.inr ⟨{ cls:=.type "list",data:=.seq vs.toArray },if_pos rfl⟩)) (fun b u z=>?_) (fun b z=>?_) fun _=>hk
  ·by_cases hb:b=a
   ·exact .inr ⟨_,_,if_pos hb⟩
   ·exact .inl (if_neg hb)
  ·by_cases hb:b=a
   ·have z':=(if_pos hb).symm.trans z
    cases z'
    subst hb
    exact ⟨ha,by rw [List.length_map];exact hl,vs,_,rv,ha⟩
   ·have z':=(if_neg hb).symm.trans z
    cases z'
  ·by_cases hb:b=a
   ·exact hb
   ·exact absurd (if_neg hb) z
end L2
namespace L2
open PySem PySem.Spec PyProof.Rows
abbrev KOf {K:PySem.W.Frag}{h:Heap} (_:K.In h):PySem.W.Frag:=K
theorem x14 {l:PySem.W.OpenLaw}{n k:Nat}{q:Program}{loose:List Str}{XP:(Str->Option Value)->Heap->Prop}{YP:World->Heap->Prop}{d:DefRec}{K:Params->PySem.W.Frag}{CX:World->CXT}{sp:World->Sp}{x:Str}
  (hn:l.most=some n) (hn2:n<=sizeLine) (hdf:d.params.defaults=[]) (hr:q9Y k callerA)
  (hY:∀ (w:World) (h:Heap),YP w h->(K w.params).In h)
  (F:∀ (w:World) (mg:Str->Option Value) (fa:Addr) (h:Heap),(K w.params).In h->h.Ns mainGlobals mg->mg d.name=some (.ref fa) ->
   ∃ fd:FuncData,(∀ (s:Shared) (u:Value),BindsTo s fd ⟨[u],[]⟩ [(x,u)]) /\
    ∀ base:Heap,(K w.params).In base->base.Ns mainGlobals mg->w90 l.prog w (K w.params) mg base (CX w) k fa fd [x] (sp w))
  (hsp:∀ (w:World) (H:Hp) (a:Addr) (ns:List Int),ns.length<=n->y08 H->SqL (K w.params) H a (ns.map V.int)->sp w [.ref a] H (fun v _=>v=.bl true) fun _ _ _=>False)
  (hCX:∀ (w:World) (H:Hp) (s:Shared) (e:Value) (s':Shared),CX w [] H s (fun _ _ _=>False) e s'->False) :
  PySem.W.WalkO q loose XP YP l.row.toRowW d [] (fun f vs=>PySem.call f vs):=by
 refine Att.attach_call hn hdf fun w s₀ s₁ mg mb fa o pm cd doc a vs ns G Y ho hd hcd hmg hobj hints hlen hg=>?_
 have KX:=hY w _ Y
 obtain ⟨fd,hb,hF⟩:=F w mg fa _ KX G.T.g hmg
 exact x3s KX G.T.g G.T.b G.T.builtins G.T.nolimit hg hobj hints (Nat.le_trans hlen hn2) hr hF hb (fun H hO hS=>hsp w H a ns hlen hO hS) fun H e s'=>hCX w H s₁ e s'
end L2
/- THE LAST THEOREM (shape;LID,My.* are yours):
  My.Adr: a structure of the addresses that your layer names (classes,functions);My.Txt K t: a structure (Prop) of the equations over K;
  My.txt_mk:{K}{implicit addresses ..} (e1:nsIn K mainGlobals "law"=some (some (.ref f))) (e2:K.lookup f=some ⟨oc,od,.func (fnOf "law" "law" params body scope dV kV doc pm an cdv ct),sl⟩) (e3:codeIn K cdv "law"=true) .. : ∃ t,My.Txt K t
theorem PySem.Challenge.cw_LID_holds : PySem.Challenge.rw_LID.Holds := by
 w_on;o_law;k_head;(case hw=>w_witness2)
 k_fill
 refine L2.x14 (l:=PySem.Challenge.rw_LID) (n:=63) (k:=40) (x:="script") (CX:=fun w=>..) (sp:=fun _=>My.sp_law) rfl (by decide) rfl ⟨rfl,by decide,by decide⟩ (fun w h Y=>PySem.W.kIn_of Y) ?F ?S ?C
 case F =>
  intro w mg fa h KX G hmg
  have T:∃ t,My.Txt (L2.KOf KX) t:=by
   dsimp only [L2.KOf]                          -- K must stand as «<heap const> w.params» for k_is
   refine' My.txt_mk ?e1 ?e2 ?e3 ..
   (case e1=>PySem.W.k_is)                    -- in the order: a name->its address->its object->its parts
   (case e2=>PySem.W.k_is)
   ..
  obtain ⟨t,T⟩:=T
  have e0:=hmg.symm.trans (PySem.W.mg_of KX G T.law)
  cases e0                                       -- fa is the law's own address
  exact ⟨_,fun s u=>.of_eq rfl,fun base kb nb=>My.law_fn T kb nb⟩     -- if «.of_eq rfl» comes too early: refine' ⟨_,?b,fun base kb nb=>My.law_fn T kb nb⟩;exact fun s u=>.of_eq rfl
 case S=>exact fun w H a ns hl hO hS=>..
 case C=>exact ..
(the tactic k_is has no namespace: write k_is) -/
namespace L2
open PySem PySem.Spec PyProof.Rows
def q0m (s:Stmt):Arguments:=match s with
 | .FunctionDef _ a _ _ _ _ _ _ _ _=>a
 | _=>{ posonlyargs:=[],args:=[],vararg:=none,kwonlyargs:=[],kw_defaults:=[],kwarg:=none,defaults:=[] }
def q0h (s:Stmt):List Stmt:=match s with
 | .FunctionDef _ _ b _ _ _ _ _ _ _=>b
 | _=>[]
def q02 (s:Stmt):Scope:=match s with
 | .FunctionDef _ _ _ _ _ _ sc _ _ _=>sc
 | _=>{ kind:=.function,names:=[],isGenerator:=false,isCoroutine:=false }
abbrev E0:XK:=fun _ _ _=>False
structure Fun (K:PySem.W.Frag) (x qual:Str) (st:Stmt) (f:Addr) (fd:FuncData):Prop where
 ex:∃ (oc:Value) (od:Option Addr) (kV doc pm:Value) (an:Option Addr) (cdv ct:Value) (osl:Array (Option Value)),
  fd=PySem.W.fnOf x qual (q0m st) (q0h st) (q02 st) .none kV doc pm an cdv ct/\K.lookup f=some ⟨oc,od,.func fd,osl⟩/\PySem.W.codeIn K cdv qual=true
 kp:PySem.W.keepIn K (.ref f)=true
section
variable {P:Program}{w:World}{K:PySem.W.Frag}{mg:Str->Option Value}{base:Heap}
theorem Fun.binds {x qual:Str}{st:Stmt}{f:Addr}{fd:FuncData}{ps:List Str} (F:Fun K x qual st f fd)
  (h:∀ (kV doc pm:Value) (an:Option Addr) (cdv ct:Value) (us:List Value),us.length=ps.length->bindArgs (PySem.W.fnOf x qual (q0m st) (q0h st) (q02 st) .none kV doc pm an cdv ct) ⟨us,[]⟩=pure (ps.zip us)):q0Y K fd ps []:=by
 obtain ⟨oc,od,kV,doc,pm,an,cdv,ct,osl,rfl,lk,hcd⟩:=F.ex
 exact .all (h kV doc pm an cdv ct)
theorem q0E {x qual:Str}{st:Stmt}{f:Addr}{oc:Value}{od an:Option Addr}{osl:Array (Option Value)}{kV doc pm cdv ct:Value} (l:K.lookup f=some ⟨oc,od,.func (PySem.W.fnOf x qual (q0m st) (q0h st) (q02 st) .none kV doc pm an cdv ct),osl⟩)
  (c:PySem.W.codeIn K cdv qual=true) (k:PySem.W.keepIn K (.ref f)=true):Fun K x qual st f (PySem.W.fnOf x qual (q0m st) (q0h st) (q02 st) .none kV doc pm an cdv ct):=⟨⟨oc,od,kV,doc,pm,an,cdv,ct,osl,rfl,l,c⟩,k⟩
end
theorem q1c {A:Around}{k:Nat} (hr:q9Y k A):A.units + 1<cLine:=Nat.lt_of_le_of_lt (Nat.add_le_add_left (by decide:1<=64) _) hr.units
theorem q0P {n:Nat} (h:n<=1000):n<sizeLine:=Nat.lt_of_le_of_lt h (by decide)
section
variable {X:Cx}
end
theorem x4S {A B:Prop} (h:B):if false=true then A else B:=by
 rw [if_neg Bool.false_ne_true]
 exact h
theorem x4T {A B:Prop} (h:A):if true=true then A else B:=by
 rw [if_pos rfl]
 exact h
def q29 (H H':Hp):Prop:=∀ b o,H b=some o->H' b=some o
theorem q29.refl (H:Hp):q29 H H:=fun _ _ h=>h
theorem q29.trans {H H1 H2:Hp} (a:q29 H H1) (b:q29 H1 H2):q29 H H2:=fun c o h=>b c o (a c o h)
theorem q29.free {H H':Hp} (e:q29 H H') {l:Addr} (h:H' l=Option.none):H l=Option.none:=by
 cases q:H l with
 | none=>rfl
 | some o =>
  rw [e l o q] at h
  cases h
theorem q29.seq {K:PySem.W.Frag}{H H':Hp}{a:Addr}{xs:List V} (e:q29 H H') (h:SqL K H a xs):SqL K H' a xs:=by
 rcases h with (h | ⟨o,h⟩) | h
 ·exact .inl (.inl (e _ _ h))
 ·exact .inl (.inr ⟨o,e _ _ h⟩)
 ·exact .inr h
end L2
end
section
namespace L2
open PySem PySem.Spec PyProof.Rows
section
variable {κ:Type} [DecidableEq κ]
def w7W (kvs:List (κ×V)) (k:κ):Option V:=(kvs.find? fun kv=>decide (kv.1=k)).map (·.2)
def w3m (kvs:List (κ×V)) (k:κ) (v:V):List (κ×V) :=
 if (kvs.any fun kv=>decide (kv.1=k))=true then kvs.map (fun kv=>if kv.1=k then (kv.1,v) else kv) else kvs++[(k,v)]
def x6k (kvs:List (κ×V)) (k:κ):List (κ×V):=kvs.filter fun kv=>decide (kv.1≠k)
theorem w1p {p:κ×V}{r:List (κ×V)}{k:κ} (e:p.1=k):w7W (p::r) k=some p.2:=by simp [w7W,List.find?_cons,e]
theorem w1q {p:κ×V}{r:List (κ×V)}{k:κ} (e:¬ p.1=k):w7W (p::r) k=w7W r k:=by simp [w7W,List.find?_cons,e]
theorem w7X (k:κ):∀ kvs:List (κ×V),(kvs.any fun kv=>decide (kv.1=k))=(w7W kvs k).isSome
 | []=>rfl
 | p::r=>by
  rw [List.any_cons]
  by_cases e:p.1=k
  ·simp only [w1p e,decide_eq_true e,Bool.true_or,Option.isSome_some]
  ·rw [w1q e,decide_eq_false e,Bool.false_or];exact w7X k r
theorem q5t (kvs:List (κ×V)) (k:κ) (v:V):(w3m kvs k v).length<=kvs.length + 1:=by
 unfold w3m
 split
 ·rw [List.length_map];omega
 ·rw [List.length_append,List.length_cons,List.length_nil];omega
theorem x0M.isSome_eq {o:Option V}{u:Option Value} (r:x0M o u):o.isSome=u.isSome:=by
 cases o with
 | none=>cases u with
  | none=>rfl
  | some _=>exact (show False from r).elim
 | some _=>cases u with
  | none=>exact (show False from r).elim
  | some _=>rfl
theorem KV.val {kvs:List (κ×V)}{vs:List (κ×Value)} (r:KV kvs vs) (k:κ):x0M (w7W kvs k) (valueAt vs k):=by
 unfold KV at r
 induction r with
 | nil=>exact True.intro
 | @cons p q ps qs h t ih =>
  obtain ⟨h1,h2⟩:=h
  by_cases e:p.1=k
  ·have e':q.1=k:=h1.symm.trans e
   have b:valueAt (q::qs) k=some q.2:=by simp [valueAt,List.find?_cons,e']
   rw [w1p e,b];exact h2
  ·have e':¬ q.1=k:=fun z=>e (h1.trans z)
   have b:valueAt (q::qs) k=valueAt qs k:=by simp [valueAt,List.find?_cons,e']
   rw [w1q e,b];exact ih
theorem KV.any {kvs:List (κ×V)}{vs:List (κ×Value)} (r:KV kvs vs) (k:κ):(kvs.any fun kv=>decide (kv.1=k))=vs.any fun kv=>decide (kv.1=k):=by
 unfold KV at r
 induction r with
 | nil=>rfl
 | cons h t ih=>rw [List.any_cons,List.any_cons,ih,h.1]
theorem KV.repl {kvs:List (κ×V)}{vs:List (κ×Value)} (r:KV kvs vs) (k:κ) {y:V}{u:Value} (ry:q1Z y u) :
  KV (kvs.map fun kv=>if kv.1=k then (kv.1,y) else kv) (vs.map fun kv=>if kv.1=k then (kv.1,u) else kv):=by
 unfold KV at r ⊢
 induction r with
 | nil=>exact .nil
 | @cons p q ps qs h t ih =>
  rw [List.map_cons,List.map_cons]
  refine .cons ?_ ih
  obtain ⟨h1,h2⟩:=h
  by_cases e:p.1=k
  ·rw [if_pos e,if_pos (h1.symm.trans e)];exact ⟨h1,ry⟩
  ·rw [if_neg e,if_neg (fun z=>e (h1.trans z))];exact ⟨h1,h2⟩
theorem KV.put {kvs:List (κ×V)}{vs:List (κ×Value)} (r:KV kvs vs) (k:κ) {y:V}{u:Value} (ry:q1Z y u):KV (w3m kvs k y) (stored vs k u):=by
 unfold w3m stored
 rw [r.any k]
 by_cases e:(vs.any fun kv=>decide (kv.1=k))=true
 ·rw [if_pos e,if_pos e];exact r.repl k ry
 ·rw [if_neg e,if_neg e];exact Paired.snoc r ⟨rfl,ry⟩
theorem KV.length {kvs:List (κ×V)}{vs:List (κ×Value)} (r:KV kvs vs):kvs.length=vs.length:=Paired.length r
end
theorem x3t {P:Program}{w:World}{k:Key}{u:Value} (r:q1Z (kV k) u):(q0T P w).is k u=true:=by
 cases k with
 | inl i=>obtain ⟨t,e⟩:=(show ∃ t,u=Value.int i t from r);subst e;exact w5l P w i t
 | inr x=>obtain ⟨t,e⟩:=(show ∃ t,u=Value.str x t from r);subst e;exact w5m P w x t
theorem w3n {P:Program}{w:World}:∀ {ks:List Key}{us:List Value},q28 (ks.map kV) us->ItemsAre (q0T P w) ks us
 | [],_,r=>by rw [List.map_nil] at r;cases r;exact .nil
 | k::ks,_,r=>by
  rw [List.map_cons] at r
  cases r with
  | cons h t=>exact .cons (x3t h) (w3n t)
abbrev KT (H:Hp):List (List Key×V)->List (List Key×Addr×Value)->Prop:=Paired fun p q=>p.1=q.1/\H q.2.1=some (.tup (p.1.map kV))/\q1Z p.2 q.2.2
theorem KT.val {H:Hp}{kvs:List (List Key×V)}{xs:List (List Key×Addr×Value)} (r:KT H kvs xs) (k:List Key):x0M (w7W kvs k) ((atKey xs k).map (·.2)):=by
 induction r with
 | nil=>exact True.intro
 | @cons p q ps qs h t ih =>
  obtain ⟨h1,_,h2⟩:=h
  by_cases e:p.1=k
  ·have e':q.1=k:=h1.symm.trans e
   have b:atKey (q::qs) k=some q.2:=by simp [atKey,List.find?_cons,e']
   rw [w1p e,b];exact h2
  ·have e':¬ q.1=k:=fun z=>e (h1.trans z)
   have b:atKey (q::qs) k=atKey qs k:=by simp [atKey,List.find?_cons,e']
   rw [w1q e,b];exact ih
theorem KT.repl {H:Hp}{kvs:List (List Key×V)}{xs:List (List Key×Addr×Value)} (r:KT H kvs xs) (k:List Key) {y:V}{u:Value} (ry:q1Z y u) :
  KT H (kvs.map fun kv=>if kv.1=k then (kv.1,y) else kv) (xs.map (putAt k u)):=by
 induction r with
 | nil=>exact .nil
 | @cons p q ps qs h t ih =>
  rw [List.map_cons,List.map_cons]
  refine .cons ?_ ih
  obtain ⟨h1,h2,h3⟩:=h
  unfold putAt
  by_cases e:p.1=k
  ·rw [if_pos e,if_pos (h1.symm.trans e)];exact ⟨h1,h2,ry⟩
  ·rw [if_neg e,if_neg (fun z=>e (h1.trans z))];exact ⟨h1,h2,h3⟩
theorem KT.put {H:Hp}{kvs:List (List Key×V)}{xs:List (List Key×Addr×Value)} (r:KT H kvs xs) (k:List Key) {b:Addr}{y:V}{u:Value} (hb:H b=some (.tup (k.map kV))) (ry:q1Z y u) :
  KT H (w3m kvs k y) (storedH xs k b u):=by
 have e:(kvs.any fun kv=>decide (kv.1=k))=(atKey xs k).isSome:=by
  rw [w7X,(r.val k).isSome_eq,Option.isSome_map]
 unfold w3m storedH
 rw [e]
 by_cases q:(atKey xs k).isSome=true
 ·rw [if_pos q,if_pos q];exact r.repl k ry
 ·rw [if_neg q,if_neg q];exact Paired.snoc r ⟨rfl,hb,ry⟩
theorem KT.keeps {H H':Hp}{kvs:List (List Key×V)}{xs:List (List Key×Addr×Value)} (r:KT H kvs xs) (ht:∀ b ys,H b=some (.tup ys)->H' b=some (.tup ys)):KT H' kvs xs :=
 Paired.mapP r fun _ _ z=>⟨z.1,ht _ _ z.2.1,z.2.2⟩
section
variable {P:Program}{w:World}{H:Hp}{h:Heap}{a:Addr}
theorem x89 {u:HO} (ok:HOk P w H h) (e:Rd H a u):q1d P w H h a u:=e.ok ok
theorem x6l {kvs:List (Key×V)} (ok:HOk P w H h) (e:Rd H a (.dK kvs)):kvs.length<=sizeLine/\(a == sysModules)=false/\∃ vs,KV kvs vs/\h.DictOf (q0T P w) a vs :=
 show q1d P w H h a (.dK kvs) from x89 ok e
theorem y09 {kvs:List (Key×V)} (ok:HOk P w H h) (e:H a=some (.dK kvs)):kvs.length<=sizeLine/\(a == sysModules)=false/\∃ vs,KV kvs vs/\h.DictOf (q0T P w) a vs:=x6l ok (.inl e)
theorem x15 {ks:List Key} (ok:HOk P w H h) (e:H a=some (.tup (ks.map kV))):(tupleKind (q0T P w)).is h ks a:=by
 obtain ⟨_,its,r,o,h1,h2,n,h3⟩:=(show q1d P w H h a (.tup (ks.map kV)) from ok a _ e)
 exact ⟨o,its.toArray,n,h1,h2,h3,by simpa using w3n r⟩
theorem x6m {kvs:List (List Key×V)} (ok:HOk P w H h) (e:Rd H a (.dT kvs)):kvs.length<=sizeLine/\(a == sysModules)=false /\
  ∃ xs,KT H kvs xs/\h.DictOfH (tupleKind (q0T P w)) a xs:=by
 obtain ⟨z,y,xs,r,o,es,ep,h1,h2,h3,h4,h5⟩:=(show q1d P w H h a (.dT kvs) from x89 ok e)
 refine ⟨z,y,xs,r,o,es,ep,h1,h2,h3,h4,fun x hx=>?_,h5⟩
 have all:∀ {l:List (List Key×V)}{m:List (List Key×Addr×Value)},KT H l m->∀ x∈m,(tupleKind (q0T P w)).is h x.1 x.2.1:=by
  intro l m q
  induction q with
  | nil=>intro x hx;exact nomatch hx
  | @cons p q ps qs hq t ih =>
   intro x hx
   rcases List.mem_cons.mp hx with e | hx
   ·subst e
    exact x15 ok (by rw [<- hq.1];exact hq.2.1)
   ·exact ih x hx
 exact all r x hx
theorem y0a {kvs:List (List Key×V)} (ok:HOk P w H h) (e:H a=some (.dT kvs)):kvs.length<=sizeLine/\(a == sysModules)=false /\
  ∃ xs,KT H kvs xs/\h.DictOfH (tupleKind (q0T P w)) a xs:=x6m ok (.inl e)
end
def x7n (H:Hp) (a:Addr) (y:V) (r:Option V):Prop :=
 (∃ kvs k,Rd H a (.dK kvs)/\y=kV k/\r=w7W kvs k)\/∃ kvs k b,Rd H a (.dT kvs)/\y=.ref b/\H b=some (.tup (k.map kV))/\r=w7W kvs k
def x8a (H:Hp) (a:Addr) (y v:V) (H':Hp):Prop :=
 (∃ kvs k,H a=some (.dK kvs)/\y=kV k/\kvs.length<sizeLine/\H'=upd H a (.dK (w3m kvs k v))) \/
 ∃ kvs k b,H a=some (.dT kvs)/\y=.ref b/\H b=some (.tup (k.map kV))/\kvs.length<sizeLine/\H'=upd H a (.dT (w3m kvs k v))
theorem x7n.k {H:Hp}{a:Addr}{kvs:List (Key×V)}{k:Key} (e:H a=some (.dK kvs)):x7n H a (kV k) (w7W kvs k):=.inl ⟨kvs,k,.inl e,rfl,rfl⟩
theorem x8a.k {H:Hp}{a:Addr}{kvs:List (Key×V)}{k:Key}{v:V} (e:H a=some (.dK kvs)) (hl:kvs.length<sizeLine):x8a H a (kV k) v (upd H a (.dK (w3m kvs k v))):=.inl ⟨kvs,k,e,rfl,hl,rfl⟩
section
variable {X:Cx}{pins:List (Addr×Obj)}{σ:St}{H:Hp}{s:Shared}{a:Addr}{y v:V}{u r:Value}{o:Option V}{A:Around}{E:Value->Shared->Prop}
theorem Inv.big (I:Inv X pins σ H s):sysModules<s.heap.objs.size:=by
 have h:mainGlobals<s.heap.objs.size:=(I.mod.glob.keeps I.bk).lt
 exact Nat.lt_trans (by decide) h
theorem x16 {Q:Value->Shared->Prop} (hu:A.units + 1<cLine) (I:Inv X pins σ H s) (g:x7n H a y (some v)) (ry:q1Z y u) (h:∀ w' s',Inv X pins σ H s'->q1Z v w'->Q w' s') :
  wpAny (model X.prog X.w) A (getItem (.ref a) u) Q E s:=by
 rcases g with ⟨kvs,k,e,ey,l⟩ | ⟨kvs,k,b,e,ey,eb,l⟩
 ·subst ey
  obtain ⟨z,hd,vs,rel,dd⟩:=x6l I.hok e
  obtain ⟨w',hw,rw'⟩:=x0M.some_of (v:=v) (o:=valueAt vs k) (by rw [l];exact rel.val k)
  exact wpAny_getItem_of (x3t ry) dd.mapOf hw (h w' _ (I.tok _) rw')
 ·subst ey
  cases (show u=Value.ref b from ry)
  obtain ⟨z,hd,xs,rel,dd⟩:=x6m I.hok e
  obtain ⟨w',hw,rw'⟩:=x0M.some_of (v:=v) (o:=(atKey xs k).map (·.2)) (by rw [l];exact rel.val k)
  obtain ⟨p,hp,hp2⟩:=Option.map_eq_some_iff.mp hw
  refine wpAny_getItem_heap (tupleKind_room_in1 hu) (x15 I.hok eb) dd hp ?_
  rw [hp2]
  exact h w' _ (I.tok _) rw'
theorem x17 {h':Heap}{t':Nat}{ob:HO} (I:Inv X pins σ H s) (mu:Mut (H a)) (hs:Heap.SameBut a s.heap h') (he:∃ q,h'.get? a=some q) (new:q1d X.prog X.w (upd H a ob) h' a ob) :
  Inv X pins σ (upd H a ob) { s with heap:=h',toks:=t' } :=
 I.write (x:=a) (e:=a) mu (.inl rfl) (fun b q hb z=>(hs.2 b hb).trans z) he new
theorem x4U {P:Program}{w:World}{H':Hp}{h':Heap}{kvs:List (Key×V)}{vs:List (Key×Value)} (z:kvs.length<=sizeLine) (hd:(a == sysModules)=false) (rel:KV kvs vs) (dd:h'.DictOf (q0T P w) a vs) :
  q1d P w H' h' a (.dK kvs):=⟨z,hd,vs,rel,dd⟩
theorem x18 {H':Hp}{Q:Unit->Shared->Prop} (hu:A.units + 1<cLine) (I:Inv X pins σ H s) (g:x8a H a y v H') (ry:q1Z y u) (rv:q1Z v r) (h:∀ s',Inv X pins σ H' s'->Q () s') :
  wpAny (model X.prog X.w) A (setItem (.ref a) u r) Q E s:=by
 rcases g with ⟨kvs,k,e,ey,l,eH⟩ | ⟨kvs,k,b,e,ey,eb,l,eH⟩
 ·subst ey eH
  obtain ⟨z,hd,vs,rel,dd⟩:=y09 I.hok e
  have hz:vs.length<=sizeLine:=by rw [<- rel.length];exact z
  have hl:(w3m kvs k v).length<=sizeLine:=by have:=q5t kvs k v;omega
  refine wpAny_setItem_pairs (hsz:=hz) (x3t ry) dd fun h' dd' hs=>h _ ?_
  have he:∃ q,h'.get? a=some q:=let ⟨q,_,_,hq,_⟩:=dd';⟨q,hq⟩
  exact x17 I (by rw [e];exact True.intro) hs he (x4U hl hd (rel.put k rv) dd')
 ·subst ey eH
  cases (show u=Value.ref b from ry)
  obtain ⟨z,hd,xs,rel,dd⟩:=y0a I.hok e
  have hz:xs.length<=sizeLine:=by rw [<- Paired.length rel];exact z
  have hl:(w3m kvs k v).length<=sizeLine:=by have:=q5t kvs k v;omega
  refine wpAny_setItem_heap (hsz:=hz) (tupleKind_room_in1 hu) (x15 I.hok eb) dd fun h' dd' hs=>h _ ?_
  obtain ⟨q,es,ep,hq,h2,h3,h4,_,h5⟩:=dd'
  refine x17 I (by rw [e];exact True.intro) hs ⟨q,hq⟩ ⟨hl,hd,_,(rel.put k eb rv).keeps fun c ys ec=>?_,q,es,ep,hq,h2,h3,h4,h5⟩
  rw [q0j (x9K ec e (fun z=>nomatch z))]
  exact ec
end
section
variable {X:Cx}{pins:List (Addr×Obj)}{σ:St}{H:Hp}{s:Shared}{a:Addr}{kvs:List (Key×V)}{k:Key}{u:Value}{A:Around}{E:Value->Shared->Prop}
end
def y0Q (i:Expr):Prop:=∀ ov iv,subscripted i false ov iv=operate [ov,iv] (getItem ov iv)
theorem x6n {prog:Program}{w:World}{A:Around}{E:Value->Shared->Prop}{s:Shared}{env:Env}{value slice:Expr}{pos:Pos}{T id:String}{Q:Value->Shared->Prop}
  (hl:typeLookup (.type T) "__getitem__"=pure (some (.builtin id))) (hs:y0Q slice)
  (h:wpAny (model prog w) A (eval value env) (fun o s₁=>wpAny (model prog w) A (eval slice env) (fun i s₂=>s₂.TypeIs o T/\wpAny (model prog w) A (getItem o i) Q E s₂) E s₁) E s) :
  wpAny (model prog w) A (eval (.Subscript value slice pos) env) Q E s:=by
 refine Subscript_ (wpAny_mono h (fun o s₁ h₁=>wpAny_mono h₁ (fun i s₂ h₂=>?_) fun _ _ x=>x) fun _ _ x=>x)
 obtain ⟨hT,h₂⟩:=h₂
 unfold subscriptTail
 refine wpAny_bind ?_
 rw [getitemInPython_of_ne hT.not_modules]
 refine wpAny_bind (wpAny_specialOf hT hl ?_)
 have fin:wpAny (model prog w) A (subscripted slice false o i) (fun r s₃=>wpAny (model prog w) A (letTemporaryGo value o r >>= fun _=>pure r) Q E s₃) E s₂:=by
  rw [hs o i]
  exact wpAny_operating (wpAny_mono h₂ (fun r s₃ h₃=>wpAny_bind (wpAny_letTemporaryGo (wpAny_pure h₃))) fun _ _ x=>x)
 first
  | exact wpAny_pure (wpAny_bind fin)
  | exact wpAny_bind (wpAny_pure (wpAny_bind fin))
  | exact wpAny_bind fin
theorem w5r {X:Cx}{pins:List (Addr×Obj)}{σ:St}{H:Hp}{s:Shared}{a:Addr}{y:V}{o:Option V} (I:Inv X pins σ H s) (g:x7n H a y o):s.TypeIs (.ref a) "dict":=by
 rcases g with ⟨kvs,k,e,_,_⟩ | ⟨kvs,k,b,e,_,_,_⟩
 ·obtain ⟨_,_,vs,_,dd⟩:=x6l I.hok e
  exact dd.typeIs
 ·obtain ⟨_,_,xs,_,dd⟩:=x6m I.hok e
  exact dd.typeIs
def y0b (td ty:TE):TE:=fun σ H Q=>td σ H fun x H1=>ty σ H1 fun y H2=>∃ a v,x=.ref a/\x7n H2 a y (some v)/\Q v H2
def x8b (td ty tv:TE):TS:=fun D σ H=>tv σ H fun v H1=>td σ H1 fun x H2=>ty σ H2 fun y H3=>∃ a H4,x=.ref a/\x8a H3 a y v H4/\D.nx σ H4
section
variable {X:Cx}{o i e value:Expr}{pos pos' tpos:Pos}{td ty tv:TE}
theorem x6o (hu:X.A.units + 1<cLine) (ho:PE X o td) (hi:PE X i ty) (hs:y0Q i):PE X (.Subscript o i pos) (y0b td ty):=by
 intro pins s σ H Q I h
 refine x6n PySem.F.slot_dict_getitem.lookup hs (thn (ho pins s σ H _ I h) fun u s1 ⟨x,H1,I1,rx,q1⟩=>thn (hi pins s1 σ H1 _ I1 q1) fun iv s2 ⟨y,H2,I2,ry,a,v,ex,g,q2⟩=>?_)
 subst ex
 obtain rfl:u=Value.ref a:=rx
 exact ⟨w5r I2 g,x16 hu I2 g ry fun w' s3 I3 rw'=>⟨v,H2,I3,rw',q2⟩⟩
theorem x6p (hu:X.A.units + 1<cLine) (ho:PE X o td) (hi:PE X i ty) (hv:PE X value tv) (hs:swapsWith value (some (.Subscript o i pos')) pos.line X.env=pure false) :
  PS X (.Assign [.Subscript o i pos'] value pos) (x8b td ty tv):=by
 intro pins s σ H D I h
 refine wpAny_Assign_Subscript (thn (hv pins s σ H _ I h) fun r s1 ⟨v,H1,I1,rv,q1⟩=>thn (ho pins s1 σ H1 _ I1 q1) fun u s2 ⟨x,H2,I2,rx,q2⟩=>thn (hi pins s2 σ H2 _ I2 q2) fun iv s3 ⟨y,H3,I3,ry,a,H4,ex,g,q3⟩=>?_) hs
 subst ex
 obtain rfl:u=Value.ref a:=rx
 exact x18 hu I3 g ry rv fun s4 I4=>⟨σ,H4,I4,q3⟩
end
theorem x3u {P:Program}{w:World}{H:Hp} (h:Heap) (hb:sysModules<h.objs.size):q1d P w H (h.push { cls:=.type "dict",data:=.dict #[] }) h.objs.size (.dK []) :=
 ⟨Nat.zero_le _,beq_eq_false_iff_ne.mpr (Ne.symm (Nat.ne_of_lt hb)),[],.nil,Heap.DictOf.new h⟩
def x8c:TE:=fun _ H Q=>∀ p,H p=none->Q (.ref p) (upd H p (.dK []))
section
variable {X:Cx}{pos:Pos}
theorem x3v:PE X (.Dict [] [] pos) x8c:=fun pins s σ H Q I h =>
 wpAny_Dict_empty ⟨.ref s.heap.objs.size,_,I.laid (a:=s.heap.objs.size) (o:=.dK []) (t':=s.toks) (fun _ _ q=>Heap.get?_push_of_some _ q) (Nat.le_refl _) (x3u s.heap I.big),rfl,h _ (I.hok.fresh (Nat.le_refl _))⟩
end
def w3o (kvs more:List (Key×V)):List (Key×V):=more.foldl (fun acc kv=>w3m acc kv.1 kv.2) kvs
theorem KV.merge:∀ {more:List (Key×V)}{rs:List (Key×Value)}{kvs:List (Key×V)}{vs:List (Key×Value)},KV more rs->KV kvs vs->KV (w3o kvs more) (merged vs rs):=by
 intro more rs kvs vs r
 unfold KV at r
 induction r generalizing kvs vs with
 | nil=>intro q;exact q
 | @cons p q ps qs h t ih =>
  intro r0
  have e:KV (w3m kvs p.1 p.2) (stored vs q.1 q.2):=by
   have:=r0.put p.1 h.2
   rw [<- h.1];exact this
  exact ih e
theorem q64:∀ (more kvs:List (Key×V)),(w3o kvs more).length<=kvs.length + more.length
 | [],kvs=>by show kvs.length<=kvs.length + 0;omega
 | p::r,kvs=>by
  have h1:=q64 r (w3m kvs p.1 p.2)
  have h2:=q5t kvs p.1 p.2
  show (w3o (w3m kvs p.1 p.2) r).length<=_
  rw [List.length_cons];omega
section
variable {X:Cx}{pins:List (Addr×Obj)}{σ:St}{H:Hp}{s:Shared}{a:Addr}{y d:V}{u r:Value}{o:Option V}{A:Around}{E:Value->Shared->Prop}
end
section
variable {X:Cx}{o e f:Expr}{apos cpos:Pos}{td ty tx:TE}
end
section
variable {X:Cx}{pins:List (Addr×Obj)}{σ:St}{H:Hp}{s:Shared}{a:Addr}{kvs:List (Key×V)}{A:Around}{E:Value->Shared->Prop}
end
section
variable {X:Cx}{pins:List (Addr×Obj)}{σ:St}{H:Hp}{s:Shared}{a:Addr}{y:V}{u:Value}{A:Around}{E:Value->Shared->Prop}
end
end L2
namespace L2
open PySem PySem.Spec PyProof.Rows
section
variable {X:Cx}
end
section
variable {κ:Type} [DecidableEq κ]
theorem x19:∀ {l:List κ}{k:κ},l.Nodup->¬ k∈l->(l++[k]).Nodup
 | [],k,_,_=>by simp
 | a::r,k,h,hk=>by
  obtain ⟨h1,h2⟩:=List.nodup_cons.mp h
  show (a::(r++[k])).Nodup
  refine List.nodup_cons.mpr ⟨fun m=>?_,x19 h2 fun m=>hk (List.mem_cons.mpr (Or.inr m))⟩
  rcases List.mem_append.mp m with q | q
  ·exact h1 q
  ·exact hk (List.mem_cons.mpr (Or.inl (List.mem_singleton.mp q).symm))
end
end L2
end
section
namespace L2
open PySem PySem.Spec PyProof.Rows
section
variable {prog:Program}{w:World}{A:Around}{R:Result->Shared->Prop}{s:Shared}
theorem w3p {elt target iter:Expr}{ifs:List Expr}{scope:Scope}{pos:Pos}{it acc:Value}{env:Env} (I:Nat->Shared->Prop)
  (turn:∀ n s,I n s->wpAny (model prog w) A (pyNext it) (fun r s₁=>match r with
   | none=>R (.ok .next) s₁
   | some v=>wpAny (model prog w) A (letOwnedTupleGo target it v) (fun _ s₁'=>wpAny (model prog w) A (assign target env v) (fun _ s₂ =>
     wpAny (model prog w) A (forIn ifs true fun c r=>if r=true then do let ok <- isTrue c env (eval c env);pure (ForInStep.yield ok) else pure (ForInStep.yield r)) (fun ok s₃ =>
      if ok=true then wpAny (model prog w) A (eval elt env) (fun x s₄ =>
       wpAny (model prog w) A (call (.builtin "list.append") [acc,x]) (fun _ s₅=>∃ m,m<n/\I m s₅) (fun _ _=>False) s₄) (fun _ _=>False) s₃
      else ∃ m,m<n/\I m s₃) (fun _ _=>False) s₂) (fun _ _=>False) s₁') (fun _ _=>False) s₁) (fun _ _=>False) s)
  (n:Nat) (h:I n s) :
  codeAny (model prog w) A (.compLoop (.ListComp elt [⟨target,iter,ifs,0⟩] scope pos) 0 it acc env) R s:=by
 refine codeAny_loop rfl I (fun n s hI=>?_) n h
 show wpAny _ A ((compTurn (.ListComp elt [⟨target,iter,ifs,0⟩] scope pos) 0 it acc env).onRaise (fun x=>do noteFrame x env;theTreesLotGoes x)) _ _ s
 refine wpAny_noted ?_
 rw [compTurn_list]
 have nf:∀ {α:Type}{t:Sem α}{Q:α->Shared->Prop}{E':Value->Shared->Prop}{s:Shared},wpAny (model prog w) A t Q (fun _ _=>False) s->wpAny (model prog w) A t Q E' s :=
  fun h=>wpAny_mono h (fun _ _ q=>q) fun _ _ f=>f.elim
 refine wpAny_bind (wpAny_standAt (wpAny_bind (nf (wpAny_mono (turn n s hI) (fun r s₁ h₁=>?_) fun _ _ h'=>h'))))
 cases r with
 | none=>exact wpAny_pure h₁
 | some v =>
  refine wpAny_bind (nf (wpAny_mono h₁ (fun _ s₁' h₁'=>?_) fun _ _ h'=>h'))
  refine wpAny_bind (nf (wpAny_mono h₁' (fun _ s₂ h₂=>wpAny_bind (nf (wpAny_mono h₂ (fun ok s₃ h₃=>?_) fun _ _ h'=>h'))) fun _ _ h'=>h'))
  cases ok with
  | false=>exact wpAny_pure ⟨rfl,h₃⟩
  | true =>
   exact wpAny_bind (wpAny_bind (nf (wpAny_mono h₃ (fun x s₄ h₄=>wpAny_bind (nf (wpAny_mono h₄ (fun _ s₅ h₅=>wpAny_pure (wpAny_pure ⟨rfl,h₅⟩)) fun _ _ h'=>h'))) fun _ _ h'=>h')))
end
theorem w93 {env : Env} (names : List (Str × NameKind)) : ∀ (cs : List (Str × Addr)), (∀ y ∈ names, y.2 = .free -> ∃ c, env.cells.lookup y.1 = some c) ->
    (∀ x c, cs.lookup x = some c -> env.cells.lookup x = some c) ->
    ∃ cl, (forIn names cs fun (x : Str × NameKind) (cs : List (Str × Addr)) => match x with
        | (name, kind) => if (kind == NameKind.free) = true then do let a <- cellOf env name; pure (ForInStep.yield ((name, a) :: cs)) else pure (ForInStep.yield cs) : Sem (List (Str × Addr))) = pure cl /\
      (∀ x c, cl.lookup x = some c -> env.cells.lookup x = some c) /\ (∀ y ∈ names, y.2 = .free -> ∃ c, cl.lookup y.1 = some c) /\ (∀ x c, cs.lookup x = some c -> ∃ c', cl.lookup x = some c') := by
  induction names with
  | nil => intro cs _ h2; exact ⟨cs, rfl, h2, fun _ h => absurd h (by simp), fun x c h => ⟨c, h⟩⟩
  | cons nk r ih =>
    obtain ⟨n, k⟩ := nk
    intro cs h1 h2
    by_cases hk : k = .free
    · subst hk
      obtain ⟨a, ha⟩ := h1 (n, .free) List.mem_cons_self rfl
      have h2' : ∀ x c, ((n, a) :: cs).lookup x = some c -> env.cells.lookup x = some c := fun x c h => by
        rw [List.lookup_cons] at h
        cases e : x == n with
        | true => rw [e] at h; have : x = n := by simpa using e
                  subst this; cases h; exact ha
        | false => rw [e] at h; exact h2 x c h
      obtain ⟨cl, e1, e2, e3, e4⟩ := ih ((n, a) :: cs) (fun y hy => h1 y (List.mem_cons_of_mem _ hy)) h2'
      refine ⟨cl, ?_, e2, fun y hy hf => ?_, fun x c h => ?_⟩
      · rw [List.forIn_cons]
        have hc : cellOf env n = pure a := by unfold cellOf; rw [ha]
        simp only [beq_self_eq_true, if_true, hc]
        exact e1
      · rcases List.mem_cons.mp hy with rfl | hy
        · exact e4 n a (by simp)
        · exact e3 y hy hf
      · cases e : x == n with
        | true => exact e4 x a (by rw [List.lookup_cons, e])
        | false => exact e4 x c (by rw [List.lookup_cons, e]; exact h)
    · obtain ⟨cl, e1, e2, e3, e4⟩ := ih cs (fun y hy => h1 y (List.mem_cons_of_mem _ hy)) h2
      refine ⟨cl, ?_, e2, fun y hy hf => ?_, e4⟩
      · rw [List.forIn_cons]
        have hk' : (k == NameKind.free) = false := by simpa using hk
        simp only [hk', Bool.false_eq_true, if_false]
        exact e1
      · rcases List.mem_cons.mp hy with rfl | hy
        · exact absurd hf hk
        · exact e3 y hy hf
theorem q6H {scope:Scope}{env:Env} (h:∀ y∈scope.names,y.2=.free->∃ c,env.cells.lookup y.1=some c):∃ cl,closureFor scope env=pure cl /\
  (∀ x c,cl.lookup x=some c->env.cells.lookup x=some c)/\(∀ y∈scope.names,y.2=.free->∃ c,cl.lookup y.1=some c):=by
 obtain ⟨cl,e1,e2,e3,_⟩:=w93 (env:=env) scope.names [] h (fun x c h=>by simp at h)
 refine ⟨cl,?_,e2,e3⟩
 simp only [closureFor]
 rw [show (forIn scope.names ([] : List (Str×Addr)) fun x r=>_)=(pure cl:Sem (List (Str×Addr))) from e1]
 rfl
end L2
end
section
namespace L2
open PySem PySem.Spec PyProof.Rows
def q0M (X:Cx) (N':List Str) (scope:Scope) (cl:List (Str×Addr)) (C:Addr) (s₀:Shared) (H₀:Hp) (ex:List Addr) (pn:List (Addr×Obj)):Cx :=
 { X with N:=N',s₀:=s₀,H₀:=H₀,env:=compEnvC scope cl C X.env,outer:=X.stack,stack:=X.stack,ex:=ex,fn:=fun _=>false,pn:=pn,xe:=fun _ _=>False }
def PTs (X:Cx) (ifs:List Expr) (t:TT):Prop :=
 ∀ (pins:List (Addr×Obj)) (s:Shared) (σ:St) (H:Hp) (Q:Bool->Hp->Prop),Inv X pins σ H s->t σ H Q ->
  wpAny (model X.prog X.w) X.A (forIn ifs true fun c r=>if r=true then do let ok <- isTrue c X.env (eval c X.env);pure (ForInStep.yield ok) else pure (ForInStep.yield r)) (TP X pins σ Q) X.xe s
def y1L:TT:=fun _ H Q=>Q true H
theorem x6q {X:Cx}:PTs X [] y1L:=fun pins s σ H Q I h=>wpAny_tests_nil ⟨H,I,h⟩
theorem x6r {X:Cx}{c:Expr}{t:TT} (h:PT X c t):PTs X [c] t:=fun pins s σ H Q I hw=>wpAny_tests_one (h pins s σ H Q I hw)
structure q5m (X:Cx) (scope:Scope) (N':List Str) (nt:Nat) (ix:List Nat):Prop where
 kind:scope.kind=.function
 nocell:∀ y∈scope.names,y.2≠.cell
 loc:∀ y∈scope.names,y.2=.local->scope.names.lookup y.1=some .local
 free:∀ y∈scope.names,y.2=.free->X.env.scope.names.lookup y.1=some .cell\/X.env.scope.names.lookup y.1=some .free
 cap:∀ k i,ix[k]?=some i->∃ x,X.N[i]?=some x/\N'[nt + k]?=some x/\scope.names.lookup x=some .free
 len:N'.length=nt + ix.length
def q5X (nt:Nat) (ix:List Nat) (σ:St):St:=List.replicate nt none++ix.map fun i=>(σ[i]?).join
theorem q5u {env:Env}{x:Str}{names:List (Str×NameKind)}:names.lookup x=some .free ->
  (names.map fun (n,k)=>if (k == NameKind.free && env.scope.kind == .function && env.kindOf n == some .cell) then (n,NameKind.cell) else (n,k)).lookup x=some .free \/
  (names.map fun (n,k)=>if (k == NameKind.free && env.scope.kind == .function && env.kindOf n == some .cell) then (n,NameKind.cell) else (n,k)).lookup x=some .cell:=by
 induction names with
 | nil=>intro h;simp at h
 | cons nk r ih =>
  obtain ⟨n,k⟩:=nk
  intro h
  show List.lookup x ((if (k == NameKind.free && env.scope.kind == .function && env.kindOf n == some .cell)=true then (n,NameKind.cell) else (n,k))::_)=_ \/
   List.lookup x ((if (k == NameKind.free && env.scope.kind == .function && env.kindOf n == some .cell)=true then (n,NameKind.cell) else (n,k))::_)=_
  cases hx:x == n with
  | true =>
   simp only [List.lookup_cons,hx] at h
   cases h
   by_cases hc:(NameKind.free == NameKind.free && env.scope.kind == .function && env.kindOf n == some .cell)=true
   ·rw [if_pos hc];right;simp [List.lookup_cons,hx]
   ·rw [if_neg hc];left;simp [List.lookup_cons,hx]
  | false =>
   simp only [List.lookup_cons,hx] at h
   by_cases hc:(k == NameKind.free && env.scope.kind == .function && env.kindOf n == some .cell)=true
   ·rw [if_pos hc];simp only [List.lookup_cons,hx];exact ih h
   ·rw [if_neg hc];simp only [List.lookup_cons,hx];exact ih h
theorem q6I {env:Env}{x:Str}{names:List (Str×NameKind)} :
  ((names.map fun (n,k)=>if (k == NameKind.free && env.scope.kind == .function && env.kindOf n == some .cell) then (n,NameKind.cell) else (n,k)).lookup x=some .free \/
  (names.map fun (n,k)=>if (k == NameKind.free && env.scope.kind == .function && env.kindOf n == some .cell) then (n,NameKind.cell) else (n,k)).lookup x=some .cell) ->
  (x,NameKind.free)∈names\/(x,NameKind.cell)∈names:=by
 induction names with
 | nil=>intro h;simp at h
 | cons nk r ih =>
  obtain ⟨n,k⟩:=nk
  intro h
  have h:List.lookup x ((if (k == NameKind.free && env.scope.kind == .function && env.kindOf n == some .cell)=true then (n,NameKind.cell) else (n,k))::_)=_ \/
   List.lookup x ((if (k == NameKind.free && env.scope.kind == .function && env.kindOf n == some .cell)=true then (n,NameKind.cell) else (n,k))::_)=_:=h
  cases hx:x == n with
  | true =>
   have e:x=n:=by simpa using hx
   subst e
   by_cases hc:(k == NameKind.free && env.scope.kind == .function && env.kindOf x == some .cell)=true
   ·have:k=.free:=by simp at hc;exact hc.1.1
    subst this;left;exact List.mem_cons_self
   ·rw [if_neg hc] at h;simp only [List.lookup_cons,hx] at h
    rcases h with h | h
    ·cases h;left;exact List.mem_cons_self
    ·cases h;right;exact List.mem_cons_self
  | false =>
   have h':=ih (by
    by_cases hc:(k == NameKind.free && env.scope.kind == .function && env.kindOf n == some .cell)=true
    ·rw [if_pos hc] at h;simp only [List.lookup_cons,hx] at h;exact h
    ·rw [if_neg hc] at h;simp only [List.lookup_cons,hx] at h;exact h)
   rcases h' with h' | h'
   ·left;exact List.mem_cons_of_mem _ h'
   ·right;exact List.mem_cons_of_mem _ h'
inductive x8d (nt:Nat) (ix:List Nat) (g:TG) (tt:TT) (te:TE) (σ:St) (Q:VK) (J:It) (H1:Hp):Prop
 | mk (W:Nat->Nat->List V->Hp->Prop) (w0:∃ m,W 0 m [] H1) (turn:∀ i m acc H,W i m acc H ->
 (J.stop i H/\∀ p,H p=none->Q (.ref p) (upd H p (.lst acc))) \/
 (J.go i H/\acc.length<sizeLine/\∀ x H',J.yld i H x H'->g x (q5X nt ix σ) H' fun σ2 H2=>tt σ2 H2 fun b H3 =>
  if b=true then te σ2 H3 fun y H4=>∃ m',m'<m/\W (i + 1) m' (acc++[y]) H4 else ∃ m',m'<m/\W (i + 1) m' acc H3)):x8d nt ix g tt te σ Q J H1
def x6s (nt:Nat) (ix:List Nat) (wi:TI) (g:TG) (tt:TT) (te:TE):TE:=fun σ H Q=>wi σ H (x8d nt ix g tt te σ Q)
section
variable {X:Cx}{pins:List (Addr×Obj)}{σ:St}{H:Hp}{s:Shared}
theorem w7Y {scope:Scope}{N':List Str}{nt:Nat}{ix:List Nat}{cl:List (Str×Addr)}{C:Addr}{fp:List Addr}{h₁:Heap}{t':Nat}{m:Str->Option Value}
  (S:q5m X scope N' nt ix) (I:Inv X pins σ H s) (c1:∀ x c,cl.lookup x=some c->X.env.cells.lookup x=some c) (c2:∀ y∈scope.names,y.2=.free->∃ c,cl.lookup y.1=some c)
  (hf:∀ b∈fp,w3c X pins H b) (ff:∀ b∈fp,b<s.heap.objs.size) (hC:s.heap.objs.size<=C) (hns:h₁.Ns C m) (old:∀ b o,s.heap.get? b=some o->h₁.get? b=some o) :
  Inv (q0M X N' scope cl C s H fp (X.pn++pins)) [] (q5X nt ix σ) H { s with heap:=h₁,toks:=t' }:=by
 have cellOld:∀ {c v},s.heap.IsCell c v->h₁.IsCell c v:=fun {c v} ⟨o,ho,hd⟩=>⟨o,old _ _ ho,hd⟩
 refine ⟨⟨I.ok.mod,S.kind,I.ok.glob,I.ok.blt,hC,fun x y c h1 h2=>I.ok.inj x y c (c1 x c h1) (c1 y c h2),fun x hx=>?_,fun x c h=>absurd h (by simp [q0M]),I.ok.hd,I.ok.frames,.inl rfl,fun b hb=>⟨?_,fun x c h=>?_⟩,I.bs,Nat.le_trans I.ok.bsz I.sz,fun b o h hb=>?_,fun b hb z=>?_,I.stack,I.stkFree⟩,
  rfl,I.bare,Un.kept old,⟨m,hns,fun i x v h1 h2 h3=>?_⟩,fun x c h=>?_,I.hok.fresh hC,fun x c h=>I.freeC x c (c1 x c h),fun p hp=>?_,I.hok.kept old,?_⟩
 ·have hx':(x,NameKind.free)∈scope.names\/(x,NameKind.cell)∈scope.names:=q6I (env:=X.env) (hx.elim .inr .inl)
  rcases hx' with z | z
  ·exact c2 _ z rfl
  ·exact absurd rfl (S.nocell _ z)
 ·exact Nat.ne_of_lt (Nat.lt_of_lt_of_le (ff b hb) hC)
 ·exact (hf b hb).f4 x c (c1 x c h)
 ·rcases (hf b hb).f3 with z | z
  ·exact I.ok.noex b o h z
  ·exact absurd (Nat.lt_of_lt_of_le (Heap.lt_size h) (Nat.le_trans I.ok.bsz z)) (Nat.lt_irrefl _)
 ·rcases List.mem_cons.mp (I.stkSub b z) with e | e
  ·exact (hf b hb).f1 e
  ·exact (hf b hb).f2 e
 ·have hnt:nt<=i:=by
   refine Nat.le_of_not_lt fun hlt=>?_
   have h2':(q5X nt ix σ)[i]?=some (some v):=h2
   unfold q5X at h2'
   rw [List.getElem?_append_left (by simpa using hlt),List.getElem?_replicate,if_pos hlt] at h2'
   cases h2'
  have h2':(q5X nt ix σ)[i]?=some (some v):=h2
  unfold q5X at h2'
  rw [List.getElem?_append_right (by simpa using hnt),List.length_replicate,List.getElem?_map] at h2'
  cases e:ix[i - nt]? with
  | none=>rw [e] at h2';cases h2'
  | some j =>
   rw [e] at h2'
   have hj:σ[j]?=some (some v):=by
    have q:(σ[j]?).join=some v:=Option.some.inj h2'
    cases e3:σ[j]? with
    | none=>rw [e3] at q;cases q
    | some o=>rw [e3] at q;cases o with
     | none=>cases q
     | some v'=>cases q;rfl
   obtain ⟨x',n1,n2,fr⟩:=S.cap _ _ e
   rw [Nat.add_sub_cancel' hnt] at n2
   have h1':N'[i]?=some x:=h1
   rw [h1'] at n2
   cases n2
   obtain ⟨mm,hn,hl⟩:=I.loc
   have hfree:=S.free (x,.free) (PySem.mem_of_lookup fr) rfl
   obtain ⟨u,r,l⟩:=hl j x v n1 hj (hfree.elim (fun z=>.inr (.inl z)) fun z=>.inr (.inr z))
   refine ⟨u,r,?_⟩
   rcases l with ⟨k,_⟩ | ⟨k,c,hc,hcell⟩
   ·have k:X.env.scope.names.lookup x=some .local:=k
    rcases hfree with z | z<;>(rw [z] at k;cases k)
   ·obtain ⟨c',hc'⟩:=c2 _ (PySem.mem_of_lookup fr) rfl
    have:=c1 x c' hc'
    rw [hc] at this
    cases this
    refine .inr ⟨?_,c,hc',cellOld hcell⟩
    rcases q5u (env:=X.env) fr with z | z
    ·exact .inr z
    ·exact .inl z
 ·obtain ⟨v,q⟩:=I.cell x c (c1 x c h)
  exact ⟨v,cellOld q⟩
 ·have hp:p∈X.pn++pins:=(List.mem_append.mp hp).elim id fun z=>absurd z (by simp)
  obtain ⟨e,n,ne,nf,d⟩:=I.pin p hp
  refine ⟨old _ _ e,n,Nat.ne_of_lt (Nat.lt_of_lt_of_le (Heap.lt_size e) hC),fun z=>?_,d⟩
  rcases List.mem_cons.mp (I.stkSub p.1 z) with e | e
  ·exact ne e
  ·exact nf e
 ·show (q5X nt ix σ).length=N'.length
  rw [S.len];simp [q5X]
end
end L2
end
section
namespace L2
open PySem PySem.Spec PyProof.Rows
theorem Un.grow {fs ex:List Addr}{H H1:Hp}{h h1 h2:Heap} (u:Un fs ex H H1 h h1) {C D:Addr}{o:HO} (sb:Heap.SameBut C h1 h2) (hC:h.objs.size<=C) (hD:h.objs.size<=D) (hn:H1 D=none):Un fs ex H (upd H1 D o) h h2 where
 keep:=fun b ob q n hb hx=>(sb.2 b (Nat.ne_of_lt (Nat.lt_of_lt_of_le (Heap.lt_size q) hC))).trans (u.keep b ob q n hb hx)
 slot:=fun b ob q n hb hx=>by
  obtain ⟨sl,e⟩:=u.slot b ob q n hb hx
  exact ⟨sl,(sb.2 b (Nat.ne_of_lt (Nat.lt_of_lt_of_le (Heap.lt_size q) hC))).trans e⟩
 free:=fun b ob q n hx=>by rw [q0j (Nat.ne_of_lt (Nat.lt_of_lt_of_le (Heap.lt_size q) hD))];exact u.free b ob q n hx
 there:=fun b ob q hx=>by
  obtain ⟨o',e⟩:=u.there b ob q hx
  exact ⟨o',(sb.2 b (Nat.ne_of_lt (Nat.lt_of_lt_of_le (Heap.lt_size q) hC))).trans e⟩
 tups:=fun b xs q=>by have z:=u.tups b xs q;rw [q0j (q0o z hn)];exact z
 frzs:=fun b ob xs q=>by have z:=u.frzs b ob xs q;rw [q0j (q0o z hn)];exact z
 tbls:=fun b ps q=>by
  obtain ⟨m,z⟩:=u.tbls b ps q
  exact ⟨m,by rw [q0j (q0o z hn)];exact z⟩
theorem w7Z {P:Program}{w:World}{H:Hp}{h h':Heap}{C:Addr} (k:HOk P w H h) (hC:H C=none) (sb:Heap.SameBut C h h'):HOk P w H h':=fun b ob e=>by
 refine (k b ob e).stay (fun c w' hc q=>(sb.2 c ?_).trans q) (fun _ q=>q) fun _ _ q=>q
 rintro rfl
 rcases hc with rfl | hc
 ·rw [hC] at e;cases e
 ·rw [hC] at hc;cases hc
theorem q8H {P:Program}{w:World}{H:Hp}{h:Heap}{D:Addr}{o:HO} (k:HOk P w H h) (hD:H D=none) (new:q1d P w (upd H D o) h D o):HOk P w (upd H D o) h:=fun b ob e=>by
 by_cases hb:b=D
 ·subst hb;rw [q0g] at e;cases e;exact new
 ·rw [q0j hb] at e
  exact (k b ob e).stay (fun c w' hc q=>q) (fun c q=>by rw [q0j (q0o q hD)];exact q) fun c x q=>by rw [q0j (q0o q hD)];exact q
theorem nf {M:Model}{A:Around}{α:Type}{t:Sem α}{Q:α->Shared->Prop}{E':Value->Shared->Prop}{s:Shared} (h:wpAny M A t Q (fun _ _=>False) s):wpAny M A t Q E' s :=
 wpAny_mono h (fun _ _ q=>q) fun _ _ f=>f.elim
theorem Inv.pin1 {X:Cx}{σ:St}{H:Hp}{s:Shared}{D:Addr}{o:Obj} (I:Inv X [] σ H s) (e:s.heap.get? D=some o) (n:H D=none) (ne:D≠X.env.locals) (nf:D∉X.fs) (d:∀ v,o.data≠.cell v):Inv X [(D,o)] σ H s :=
 I.pins_of fun p hp=>by
  have:p=(D,o):=by simpa using hp
  subst this
  exact ⟨e,n,ne,nf,d⟩
def Low (nt:Nat) (g:TG):Prop:=∀ x σ0 H (Q:St->Hp->Prop),g x σ0 H Q->g x σ0 H (fun σ2 H2=>Q σ2 H2/\σ2.length=σ0.length/\∀ j,nt<=j->σ2[j]?=σ0[j]?)
theorem x3w {nt i:Nat} (h:i<nt):Low nt (w3b i):=fun x σ0 H Q q=>⟨q,by simp,fun j hj=>List.getElem?_set_ne (by omega)⟩
theorem x6t {nt i k n:Nat}{K:PySem.W.Frag} (h:i<nt) (h':k<nt):Low nt (x9T K n (q01 (w3b i) (q01 (w3b k) q0e))):=by
 rintro x σ0 H Q ⟨a,xs,rfl,sq,hl,v,r,rfl,v',r',rfl,rfl,q⟩
 exact ⟨a,_,rfl,sq,hl,v,_,rfl,v',_,rfl,rfl,q,by simp,fun j hj=>by rw [List.getElem?_set_ne (by omega),List.getElem?_set_ne (by omega)]⟩
inductive CLI (X:Cx) (pins:List (Addr×Obj)) (N':List Str) (scope:Scope) (cl:List (Str×Addr)) (C:Addr) (s2:Shared) (H2:Hp) (fp:List Addr) (nt:Nat) (ix:List Nat) (σ:St) (tn:Nat->Heap->Prop) (W:Nat->Nat->List V->Hp->Prop) (n:Nat) (s':Shared):Prop
 | mk (i:Nat) (acc:List V) (its:List Value) (nn:Nat) (H':Hp) (I:Inv (q0M X N' scope cl C s2 H2 fp (X.pn++pins)) [(s2.heap.objs.size,{ cls:=.type "list",data:=.seq its.toArray nn })] (q5X nt ix σ) H' s') (v:q28 acc its) (l:acc.length<=sizeLine) (t:tn i s'.heap) (f:∀ b∈fp,H' b=none) (w:W i n acc H'):CLI X pins N' scope cl C s2 H2 fp nt ix σ tn W n s'
theorem w0H {X:Cx}{elt tg iter:Expr}{ifs:List Expr}{scope:Scope}{pos:Pos}{g:TG}{tt:TT}{te:TE}{N':List Str}{nt:Nat}{ix:List Nat}
  (hc:X.calm=true) (S:q5m X scope N' nt ix) (lo:Low nt g)
  (hb:∀ cl C s₀ H₀ ex pn,PG (q0M X N' scope cl C s₀ H₀ ex pn) tg g/\PTs (q0M X N' scope cl C s₀ H₀ ex pn) ifs tt/\PE (q0M X N' scope cl C s₀ H₀ ex pn) elt te)
  {cl:List (Str×Addr)} (c1:∀ x c,cl.lookup x=some c->X.env.cells.lookup x=some c) (c2:∀ y∈scope.names,y.2=.free->∃ c,cl.lookup y.1=some c)
  {pins:List (Addr×Obj)}{σ:St}{H2:Hp}{s2:Shared}{it:Addr}{fp:List Addr}{tn:Nat->Heap->Prop}{J:It}{Q:VK}{E:Value->Shared->Prop}
  (I2:Inv X pins σ H2 s2) (T:x0Q X.prog X.w X.K tg J fp it tn) (st2:tn 0 s2.heap) (f2:∀ b∈fp,w3c X pins H2 b)
  {W:Nat->Nat->List V->Hp->Prop} (w0:∃ m,W 0 m [] H2)
  (turn:∀ i m acc H,W i m acc H->(J.stop i H/\∀ p,H p=none->Q (.ref p) (upd H p (.lst acc))) \/
   (J.go i H/\acc.length<sizeLine/\∀ x H',J.yld i H x H'->g x (q5X nt ix σ) H' fun σ2 H2=>tt σ2 H2 fun b H3 =>
    if b=true then te σ2 H3 fun y H4=>∃ m',m'<m/\W (i + 1) m' (acc++[y]) H4 else ∃ m',m'<m/\W (i + 1) m' acc H3))
  {RR:Value->Addr->Result->Shared->Prop}
  (hRR:∀ D C m s' (acc:List V) H',H' D=none->w3c X pins (upd H' D (.lst acc)) C->Q (.ref D) (upd H' D (.lst acc))->s'.heap.Ns C m->(∀ h',Heap.SameBut C s'.heap h'->Inv X pins σ (upd H' D (.lst acc)) { s' with heap:=h' })->RR (.ref D) C (.ok .next) s') :
  wpAny (model X.prog X.w) X.A (newList []) (fun acc s₃=>wpAny (model X.prog X.w) X.A (newFunctionEnv scope X.env.globals cl [] X.env.qual none .none (some X.env)) (fun cenv s₄ =>
   codeAny (model X.prog X.w) X.A (.compStart (.ListComp elt [⟨tg,iter,ifs,0⟩] scope pos) 0 (.ref it) acc { cenv with scope:=relabel scope X.env }) (RR acc cenv.locals) s₄) E s₃) E s2:=by
 refine wpAny_newObj_type (wpAny_newFunctionEnv S.nocell (by intro y hy;simp at hy) (fun h₁ hns₁ hsb₁=>?_) S.kind)
 dsimp only at hns₁ hsb₁ ⊢
 generalize hG2:s2.heap.push { cls:=.type "list",dict:=none,data:=.seq ([] : List Value).toArray }=G2 at hns₁ hsb₁ ⊢
 have hC:G2.objs.size=s2.heap.objs.size + 1:=by rw [<- hG2,Heap.size_push]
 have hDC:s2.heap.objs.size≠G2.objs.size:=by rw [hC];exact Nat.ne_of_lt (Nat.lt_succ_self _)
 have hCle:s2.heap.objs.size<=G2.objs.size:=by rw [hC];exact Nat.le_succ _
 have below:∀ b,b<s2.heap.objs.size->b≠G2.objs.size:=fun b hb=>by rw [hC];exact Nat.ne_of_lt (Nat.lt_succ_of_lt hb)
 have old:∀ b o,s2.heap.get? b=some o->h₁.get? b=some o:=fun b o e=>hsb₁.extBut b o (below b (Heap.lt_size e)) (Heap.get?_push_of_some _ (hG2 ▸ Heap.get?_push_of_some _ e))
 have hacc:h₁.get? s2.heap.objs.size=some { cls:=.type "list",dict:=none,data:=.seq ([] : List Value).toArray }:=hsb₁.extBut _ _ hDC (Heap.get?_push_of_some _ (hG2 ▸ Heap.get?_push_size _ rfl))
 have ff:∀ b∈fp,b<s2.heap.objs.size:=fun b hb=>by
  obtain ⟨o,e,_⟩:=T.obj _ _ st2 b hb
  exact Heap.lt_size e
 have I3:Inv (q0M X N' scope cl G2.objs.size s2 H2 fp (X.pn++pins)) [] (q5X nt ix σ) H2 { s2 with heap:=h₁,toks:=s2.toks + ([] : List (Str×Value)).length }:=w7Y S I2 c1 c2 f2 ff hCle hns₁ old
 obtain ⟨pg,pt,pe⟩:=hb cl G2.objs.size s2 H2 fp (X.pn++pins)
 have hDfs:s2.heap.objs.size∉frs X.stack:=fun z=>by
  rcases List.mem_cons.mp (I2.stkSub _ z) with e | e
  ·exact absurd I2.lt (by rw [<- e];exact Nat.lt_irrefl _)
  ·exact I2.nofs (Nat.le_refl _) e
 have nod:∀ (its:List Value) (n:Nat) v,({ cls:=.type "list",data:=.seq its.toArray n }:Obj).data≠.cell v:=fun _ _ _ z=>nomatch z
 have st1:tn 0 h₁:=T.keep _ _ _ st2 fun b _ o e=>old b o e
 have hDf:s2.heap.objs.size∉fp:=fun z=>absurd (ff _ z) (Nat.lt_irrefl _)
 have stat:∀ {H':Hp}{pl:List (Addr×Obj)},(∀ p∈pl,p.1∉fp)->(∀ b∈fp,H' b=none)->∀ b∈fp,w3c (q0M X N' scope cl G2.objs.size s2 H2 fp (X.pn++pins)) pl H' b:=fun hpl hn b hb=>by
  obtain ⟨f0,f1,f2',f3,f4,f5⟩:=f2 b hb
  refine ⟨hn b hb,below b (ff b hb),fun z=>?_,.inl hb,fun x c e=>f4 x c (c1 x c e),fun p hp z=>?_⟩
  ·rcases List.mem_cons.mp (I2.stkSub _ z) with e | e
   ·exact f1 e
   ·exact f2' e
  ·rcases List.mem_append.mp hp with q | q
   ·exact f5 p q z
   ·exact hpl p q (z ▸ hb)
 obtain ⟨m0,w0⟩:=w0
 have loop:codeAny (model X.prog X.w) X.A (.compLoop (.ListComp elt [⟨tg,iter,ifs,0⟩] scope pos) 0 (.ref it) (.ref s2.heap.objs.size) (compEnvC scope cl G2.objs.size X.env))
    (RR (.ref s2.heap.objs.size) G2.objs.size) { s2 with heap:=h₁,toks:=s2.toks + ([] : List (Str×Value)).length }:=by
  refine w3p (CLI X pins N' scope cl G2.objs.size s2 H2 fp nt ix σ tn W) ?_ m0
   ⟨0,[],[],0,H2,I3.pin1 hacc (I2.hok.fresh (Nat.le_refl _)) hDC hDfs (nod _ _),.nil,Nat.zero_le _,st1,fun b hb=>(f2 b hb).1,w0⟩
  rintro n s3 ⟨i,acc,its,nn,H3,J3,rv,hz,st3,fr3,w3⟩
  have plD:∀ p∈[(s2.heap.objs.size,({ cls:=.type "list",data:=.seq its.toArray nn }:Obj))],p.1∉fp:=fun p hp=>by
   have:p=(s2.heap.objs.size,({ cls:=.type "list",data:=.seq its.toArray nn }:Obj)):=by simpa using hp
   rw [this];exact hDf
  rcases turn i n acc H3 w3 with ⟨stop,qn⟩ | ⟨go,hlt,step⟩
  ·refine thn (T.done (q0M X N' scope cl G2.objs.size s2 H2 fp (X.pn++pins)) rfl rfl rfl hc i _ s3 _ H3 _ J3 (stat plD fr3) st3 stop) fun r s4 h_0=>?_
   obtain ⟨hr,I4⟩:=h_0
   subst hr
   obtain ⟨pD,pN,_⟩:=I4.pin (s2.heap.objs.size,_) (List.mem_append_right _ (List.mem_singleton.mpr rfl))
   obtain ⟨mm,hn,_⟩:=I4.loc
   have hCn:H3 G2.objs.size=none:=I4.free
   refine hRR _ _ mm s4 acc H3 pN (I2.fpOk hCle (by rw [q0j (Ne.symm hDC)];exact hCn)) (qn _ pN) hn fun h' sb=>?_
   have hu:Un (frs X.stack) fp H2 (upd H3 s2.heap.objs.size (.lst acc)) s2.heap h':=Un.grow I4.base sb hCle (Nat.le_refl _) pN
   refine I2.call' (s':={ s4 with heap:=h' }) (ch:=fp) I4.os hu ?_ I4.bare fun b hb=>?_
   ·refine q8H (w7Z I4.hok hCn sb) pN ⟨hz,its,nn,rv,(sb.2 _ hDC).trans pD⟩
   ·obtain ⟨_,f1,_,f3,f4,f5⟩:=f2 b hb
    exact ⟨f3,f1,f4,f5⟩
  ·refine thn (T.item (q0M X N' scope cl G2.objs.size s2 H2 fp (X.pn++pins)) rfl rfl rfl hc i _ s3 _ H3 _ J3 (stat plD fr3) st3 go) fun r s4 h_1=>?_
   obtain ⟨u,hr,h4⟩:=h_1
   subst hr
   refine thn h4 fun _ s5 h_2=>?_
   obtain ⟨x,H5,I5,r5,y5,st5,fr5⟩:=h_2
   have I5':=I5.pinned (stat plD fr5) (T.obj _ _ st5)
   refine thn (pg _ s5 _ H5 x u _ I5' r5 (lo _ _ _ _ (step x H5 y5))) fun _ s6 h_3=>?_
   obtain ⟨σ6,H6,I6,q6,l6,k6⟩:=h_3
   have hw:∀ (j:Nat) v,(q5X nt ix σ)[j]?=some (some v)->σ6[j]?=some (some v):=fun j v e=>by
    by_cases hj:nt<=j
    ·rw [k6 j hj];exact e
    ·unfold q5X at e
     rw [List.getElem?_append_left (by simpa using hj),List.getElem?_replicate,if_pos (by omega)] at e
     cases e
   refine thn (pt _ s6 σ6 H6 _ I6 q6) fun b s7 h_4=>?_
   obtain ⟨H7,I7,q7⟩:=h_4
   have fpk:∀ {s8:Shared}{σ8:St}{H8:Hp},Inv (q0M X N' scope cl G2.objs.size s2 H2 fp (X.pn++pins)) ([(s2.heap.objs.size,{ cls:=.type "list",data:=.seq its.toArray nn })]++w0F fp s5.heap) σ8 H8 s8 ->
     tn (i + 1) s8.heap/\∀ b∈fp,H8 b=none:=fun {s8 σ8 H8} I8=>by
    refine ⟨T.keep _ _ _ st5 fun b hb o e=>(I8.pin (b,o) (List.mem_append_right _ (List.mem_append_right _ (q38 hb e)))).1,fun b hb=>?_⟩
    obtain ⟨o,e,d⟩:=T.obj _ _ st5 b hb
    exact (I8.pin (b,o) (List.mem_append_right _ (List.mem_append_right _ (q38 hb e)))).2.1
   cases b with
   | false =>
    simp only [Bool.false_eq_true,if_false] at q7 ⊢
    obtain ⟨m',hm,w7⟩:=q7
    obtain ⟨t7,f7⟩:=fpk I7
    exact ⟨m',hm,i + 1,acc,its,nn,H7,(I7.weak l6.symm hw).unpinned,rv,hz,t7,f7,w7⟩
   | true =>
    simp only [if_true] at q7 ⊢
    refine thn (pe _ s7 σ6 H7 _ I7 q7) fun u8 s8 h_5=>?_
    obtain ⟨y,H8,I8,r8,m',hm,w8⟩:=h_5
    obtain ⟨t8,f8⟩:=fpk I8
    obtain ⟨pD,pN,_⟩:=I8.pin (s2.heap.objs.size,_) (List.mem_append_right _ (List.mem_append_left _ (List.mem_singleton.mpr rfl)))
    have hl:=rv.length
    refine wpAny_list_append_plain ⟨nn,pD⟩ (hsz:=by rw [List.size_toArray];omega) ?_
    intro h9 pl9 sb9
    obtain ⟨n9,e9⟩:=pl9
    have e9':h9.get? s2.heap.objs.size=some { cls:=.type "list",data:=.seq (its++[u8]).toArray n9 }:=by rw [e9];simp
    refine ⟨m',hm,i + 1,acc++[y],its++[u8],n9,H8,?_,rv.append (.cons r8 .nil),by rw [List.length_append,List.length_singleton];omega,T.keep _ _ _ t8 fun b hb o e=>sb9.extBut b o (fun z=>hDf (z ▸ hb)) e,f8,w8⟩
    have I8':Inv (q0M X N' scope cl G2.objs.size s2 H2 fp (X.pn++pins)) [] (q5X nt ix σ) H8 s8:=(I8.weak l6.symm hw).pins_of fun p hp=>absurd hp (by simp)
    have I9:Inv (q0M X N' scope cl G2.objs.size s2 H2 fp (X.pn++pins)) [] (q5X nt ix σ) H8 { s8 with heap:=h9,toks:=s8.toks } :=
     I8'.turned (it:=s2.heap.objs.size) (fun b o hb e=>sb9.extBut b o hb e) pN hDC (.inr (Nat.le_refl _)) (fun x c e z=>by
      obtain ⟨v,q⟩:=I2.cell x c (c1 x c e)
      exact absurd q.lt (by rw [z];exact Nat.lt_irrefl _)) fun p hp z=>by
      have hp:p∈X.pn++pins:=(List.mem_append.mp hp).elim id fun z=>absurd z (by simp)
      exact absurd (Heap.lt_size (I2.pin p hp).1) (by rw [z];exact Nat.lt_irrefl _)
    exact I9.pin1 e9' pN hDC hDfs (nod _ _)
 exact codeAny_compStart_list loop (T.self _ 0 _ _ _ st1 loop)
end L2
end
section
namespace L2
open PySem PySem.Spec PyProof.Rows
theorem w5s {X:Cx}{elt tg iter:Expr}{ifs:List Expr}{scope:Scope}{pos:Pos}{wi:TI}{g:TG}{tt:TT}{te:TE}{N':List Str}{nt:Nat}{ix:List Nat}
  (hc:X.calm=true) (S:q5m X scope N' nt ix) (lo:Low nt g) (hi:PI X tg iter wi)
  (hb:∀ cl C s₀ H₀ ex pn,PG (q0M X N' scope cl C s₀ H₀ ex pn) tg g/\PTs (q0M X N' scope cl C s₀ H₀ ex pn) ifs tt/\PE (q0M X N' scope cl C s₀ H₀ ex pn) elt te)
  (hs:∀ x,foldedSetIterable iter X.env x=pure x:=by intro _;rfl):PE X (.ListComp elt [⟨tg,iter,ifs,0⟩] scope pos) (x6s nt ix wi g tt te):=by
 intro pins s σ H Q I h
 obtain ⟨cl,hcl,c1,c2⟩:=q6H (scope:=scope) (env:=X.env) fun y hy hf=>I.ok.has y.1 (S.free y hy hf)
 rw [eval_ListComp]
 refine wpAny_comprehension_free (use:=none) rfl hs hcl S.kind S.loc (thn (hi pins s σ H _ I h) fun v s1 h1=>thn h1 fun itv s2 h2=>?_)
 obtain ⟨it,fp,tn,J,H2,e,I2,T,st2,f2,W,w0,turn⟩:=h2
 subst e
 refine w0H (RR:=fun acc C=>compPost (model X.prog X.w) X.A X.xe none (EP X pins σ Q) acc C) hc S lo hb c1 c2 I2 T st2 f2 w0 turn ?_
 intro D C m s' acc H' hD _ q hn hI
 exact ⟨m,hn,fun h' sb=>⟨.ref D,_,hI h' sb,rfl,q⟩⟩
def y0c (i:Nat) (te:TE):TS:=fun D σ H=>te σ H fun x H1=>D.nx (σ.set i (some x)) H1
theorem w94 {X:Cx}{elt tg iter:Expr}{ifs:List Expr}{scope:Scope}{pos spos py:Pos}{wi:TI}{g:TG}{tt:TT}{te:TE}{N':List Str}{nt:Nat}{ix:List Nat}{i:Nat}{y:Str}
  (hN:X.N.Nodup) (hiN:X.N[i]?=some y) (hy:X.env.scope.names.lookup y=some .local)
  (hc:X.calm=true) (S:q5m X scope N' nt ix) (lo:Low nt g) (hi:PI X tg iter wi)
  (hb:∀ cl C s₀ H₀ ex pn,PG (q0M X N' scope cl C s₀ H₀ ex pn) tg g/\PTs (q0M X N' scope cl C s₀ H₀ ex pn) ifs tt/\PE (q0M X N' scope cl C s₀ H₀ ex pn) elt te)
  (hsw:swapsWith (.ListComp elt [⟨tg,iter,ifs,0⟩] scope pos) (some (.Name y py)) spos.line X.env=pure true:=by rfl)
  (hs:∀ x,foldedSetIterable iter X.env x=pure x:=by intro _;rfl):PS X (.Assign [.Name y py] (.ListComp elt [⟨tg,iter,ifs,0⟩] scope pos) spos) (y0c i (x6s nt ix wi g tt te)):=by
 intro pins s σ H D I h
 obtain ⟨cl,hcl,c1,c2⟩:=q6H (scope:=scope) (env:=X.env) fun y hy hf=>I.ok.has y.1 (S.free y hy hf)
 rw [exec_Assign_Name_used _ _ _ _ hsw]
 refine wpAny_bind (wpAny_standAt (wpAny_bind ?_))
 show wpAny _ X.A (do let _ <- comprehension (.ListComp elt [⟨tg,iter,ifs,0⟩] scope pos) scope X.env _ (newList []) false (eval iter X.env) (some (assign (.Name y py) X.env))) _ _ s
 refine wpAny_bind (wpAny_mono (wpAny_comprehension_free (use:=some (assign (.Name y py) X.env)) (Q:=fun _ s'=>SP X pins D .next s') rfl hs hcl S.kind S.loc
  (thn (hi pins s σ H _ I h) fun v s1 h1=>thn h1 fun itv s2 h2=>?_)) (fun _ s' hq=>wpAny_pure (wpAny_pure hq)) fun _ _ e=>e)
 obtain ⟨it,fp,tn,J,H2,e,I2,T,st2,f2,W,w0,turn⟩:=h2
 subst e
 refine w0H (Q:=fun x H1=>D.nx (σ.set i (some x)) H1) (RR:=fun acc C=>compPost (model X.prog X.w) X.A X.xe (some (assign (.Name y py) X.env)) (fun _ s'=>SP X pins D .next s') acc C) hc S lo hb c1 c2 I2 T st2 f2 w0 turn ?_
 intro L C m s' acc H' hD fC q hn hI
 show wpAny _ X.A (assign (.Name y py) X.env (.ref L)) _ _ _
 have I3:Inv X pins σ (upd H' L (.lst acc)) s':=hI s'.heap (.refl ..)
 refine wpAny_assign_Name (w3a I3 hN hiN (.inl hy) (v:=.ref L) rfl (fun s4 I4 ⟨a,sb,ha⟩=>?_) (.inr hy))
 obtain ⟨g0,g1,g2,g3,g4,g5⟩:=fC
 have hCa:C≠a:=by
  rcases ha with z | z
  ·rw [z];exact g1
  ·exact fun e=>g4 y a z e.symm
 refine ⟨m,hn.sameBut sb hCa,fun h5 sb5=>?_⟩
 exact ⟨_,_,I4.turned (t':=s4.toks) (fun b o hb e=>(sb5.2 b hb).trans e) g0 g1 g3 g4 g5,q⟩
end L2
end
section
namespace L2
open PySem PySem.Spec PyProof.Rows
def q6F (e:Int×Value):Str:=match e.2 with
 | .str x _=>x
 | _=>⟨#[]⟩
def q8I (w:World) (e:Int×Value):Prop:=∃ x tk,e=(hashStr w x,Value.str x tk)
structure q0U (w:World) (h:Heap) (a:Addr) (es:Array (Int×Value)) (ep:Nat) (t:SetTable):Prop where
 at_:h.get? a=some { cls:=.type "set",dict:=none,data:=.set es ep t }
 txt:∀ e∈es.toList,q8I w e
 nd:(es.toList.map q6F).Nodup
 few:es.size<scanBound
 fits:t.fits es.size=true
 led:t.led=!w.params.followText "set-order"
 pl:es.size=0\/t.plain=false
inductive q80 (w:World) (h:Heap) (a:Addr) (ss:List Str):Prop
 | mk (es ep t:_) (h0:q0U w h a es ep t) (h1:(es.toList.map q6F).Perm ss):q80 w h a ss
theorem w95 (t:SetTable) (es:Array (Int×Value)) (h:Int) (x:Value):(layNew t es h x).2.1.led=t.led:=by
 unfold layNew
 cases t.freeSlot h with
 | none=>rfl
 | some p =>
  obtain ⟨slot,d⟩:=p
  show ((t.put slot).1.orStandIn _).led=_
  unfold SetTable.orStandIn
  split<;>rfl
theorem w3q (t:SetTable) (es:Array (Int×Value)) (h:Int) (x:Value):t.plain=false->(layNew t es h x).2.1.plain=false:=by
 intro hp
 unfold layNew
 cases t.freeSlot h with
 | none=>rfl
 | some p =>
  obtain ⟨slot,d⟩:=p
  show ((t.put slot).1.orStandIn _).plain=_
  unfold SetTable.orStandIn
  split
  ·exact hp
  ·rfl
theorem w5t {t t':SetTable}{hs:Array Int}{n:Nat}{o:Array Nat} (h:t.relaid hs n=some (t',o)):t'.led=t.led/\t'.plain=t.plain:=by
 unfold SetTable.relaid SetTable.laid at h
 cases e:SetTable.layClean (SetTable.sizeAbove n - 1) hs with
 | none=>rw [e] at h;cases h
 | some ow =>
  rw [e] at h
  have h:=Option.some.inj h
  have h1:=congrArg Prod.fst h
  subst h1
  exact ⟨rfl,rfl⟩
theorem x1a (t:SetTable) (es:Array (Int×Value)) (n:Nat):(relayAll t es n).2.1.led=t.led/\(t.plain=false->(relayAll t es n).2.1.plain=false):=by
 unfold relayAll
 cases e:t.relaid (es.map (·.1)) n with
 | none=>exact ⟨rfl,fun _=>rfl⟩
 | some p =>
  obtain ⟨t',o⟩:=p
  obtain ⟨h1,h2⟩:=w5t e
  dsimp only
  split
  ·exact ⟨h1,fun h=>h2.trans h⟩
  ·exact ⟨rfl,fun _=>rfl⟩
theorem x3x {w:World}{P:Program}{l:List (Int×Value)} (h:∀ e∈l,q8I w e):ElemsOf (strKind P w) l:=fun e he=>by
 obtain ⟨x,tk,rfl⟩:=h e he
 exact ⟨⟨x,by simp [PySem.strKind,Value.isStrOf],rfl⟩,rfl⟩
theorem isS (P:Program) (w:World) (x:Str) (tk:Tok):(strKind P w).is x (.str x tk)=true:=by simp [PySem.strKind,Value.isStrOf]
theorem x1b {P:Program}{w:World}{e:Int×Value} (h:q8I w e) (x:Str):(strKind P w).is x e.2=true↔q6F e=x:=by
 obtain ⟨y,tk,rfl⟩:=h
 constructor
 ·intro q
  have:=(strKind P w).inj _ _ _ q (isS P w y tk)
  rw [this];rfl
 ·rintro rfl
  exact isS P w _ tk
section
variable {P:Program}{w:World}{A:Around}{E:Value->Shared->Prop}{s:Shared}
theorem q6J {h:Heap}{a:Addr}{es es':Array (Int×Value)}{ep:Nat}{t t':SetTable} (I:q0U w h a es ep t):(h.update a (Obj.putSet es' t')).get? a=some { cls:=.type "set",dict:=none,data:=.set es' (ep + 1) t' }:=by
 have q:=Heap.get?_update_self (Obj.putSet es' t') I.at_ rfl
 exact q
theorem w3r {a:Addr}{ss:List Str}{x:Str}{tk:Tok}{Q:Bool->Shared->Prop} (hS:q80 w s.heap a ss) (hr:ss.length + 1<scanBound)
  (h:∀ h' tk',Heap.SameBut a s.heap h'->q80 w h' a (if x∈ss then ss else ss++[x])->Q (!decide (x∈ss)) { s with heap:=h',toks:=tk' }) :
  wpAny (model P w) A (setAddHashed a (.str x tk) ((strKind P w).hash x)) Q E s:=by
 obtain ⟨es,ep,t,I,pm⟩:=hS
 have hlen:es.size=ss.length:=by rw [<- pm.length_eq,List.length_map,Array.length_toList]
 have hel:ElemsOf (strKind P w) es.toList:=x3x I.txt
 unfold setAddHashed setAddHashedIn
 refine wpAny_holding (wpAny_bind (wpAny_setState_of (s:=s) I.at_ rfl I.fits ?_))
 dsimp only
 rw [byScan_of rfl I.few hel]
 rw [if_pos rfl]
 unfold setAddByScan
 refine wpAny_bind (wpAny_bind (wpAny_rule (wpAny_bind (wpAny_setScan_of (s:=s) (isS P w x tk) I.at_ rfl I.fits hel ?_))))
 have inmem:x∈ss↔∃ e∈es.toList,(strKind P w).is x e.2=true:=by
  rw [<- pm.mem_iff,List.mem_map]
  constructor
  ·rintro ⟨e,he,q⟩;exact ⟨e,he,(x1b (I.txt e he) x).mpr q⟩
  ·rintro ⟨e,he,q⟩;exact ⟨e,he,(x1b (I.txt e he) x).mp q⟩
 cases hf:List.findIdx? (fun e=>(strKind P w).is x e.2) es.toList with
 | some j =>
  obtain ⟨hj,hp,_⟩:=List.findIdx?_eq_some_iff_getElem.mp hf
  have hin:x∈ss:=inmem.mpr ⟨_,List.getElem_mem hj,hp⟩
  have q:=h s.heap s.toks (.refl ..) (by rw [if_pos hin];exact ⟨es,ep,t,I,pm⟩)
  rw [decide_eq_true hin] at q
  exact wpAny_pure (wpAny_pure q)
 | none =>
  have hout:x∉ss:=fun z=>by
   obtain ⟨e,he,q⟩:=inmem.mp z
   rw [List.findIdx?_eq_none_iff.mp hf e he] at q
   cases q
  have h:=fun h' tk' sb=>h h' tk' sb
  rw [decide_eq_false hout,if_neg hout] at h
  have p1:=layNew_perm t es ((strKind P w).hash x) (.str x tk)
  have f1:=layNew_fits t es ((strKind P w).hash x) (.str x tk)
  have l1:=w95 t es ((strKind P w).hash x) (.str x tk)
  have q1:=w3q t es ((strKind P w).hash x) (.str x tk)
  generalize layNew t es ((strKind P w).hash x) (.str x tk)=L at p1 f1 l1 q1 ⊢
  obtain ⟨es1,t1,wd,gv⟩:=L
  dsimp only at p1 f1 l1 q1 ⊢
  rw [Array.toList_push] at p1
  have tx1:∀ e∈es1.toList,q8I w e:=fun e he=>by
   rcases List.mem_append.mp (p1.mem_iff.mp he) with z | z
   ·exact I.txt e z
   ·rw [List.mem_singleton] at z;exact ⟨x,tk,z⟩
  have km:(es1.toList.map q6F).Perm (ss++[x]):=(p1.map q6F).trans (by rw [List.map_append];exact pm.append_right _)
  have nd1:(ss++[x]).Nodup:=by
   rw [List.nodup_append]
   exact ⟨pm.nodup_iff.mp I.nd,by simp,fun y hy z hz e=>hout (by rw [List.mem_singleton] at hz;rw [<- hz,<- e];exact hy)⟩
  have sz1:es1.size=es.size + 1:=by rw [<- Array.length_toList,p1.length_eq,List.length_append,Array.length_toList];rfl
  have few1:es1.size<scanBound:=by omega
  have gw:∀ (b:Bool) {s₁:Shared}{Q':Unit->Shared->Prop},Q' () s₁->wpAny (model P w) A (match b with | true=>rule "set.scan.the-table-gave-way" | false=>pure ()) Q' E s₁ :=
   fun b _ _ z=>by cases b<;>first | exact wpAny_pure z | exact wpAny_rule z
  have tail:∀ t2:SetTable,t2.fits es1.size=true->t2.led=t.led->t2.plain=false->wpAny (model P w) A (do
    storeSet a es1 t2
    if (!wd && t2.tooFull)=true then do
      (match (relayAll t2 es1 (SetTable.grown es1.size)).2.2 with | true=>rule "set.scan.the-table-gave-way" | false=>pure ())
      storeSet a (relayAll t2 es1 (SetTable.grown es1.size)).1 (relayAll t2 es1 (SetTable.grown es1.size)).2.1
      pure (some true)
     else pure (some true)) (fun r s'=>r=some true/\Q true s') E s:=fun t2 f2 l2 n2=>by
   refine wpAny_bind (wpAny_storeSet_of (s:=s) I.at_ rfl ?_ (fits_of_scanBound few1))
   have at1:=q6J (es':=es1) (t':=t2) I
   have sb1:=Heap.SameBut.update s.heap a (Obj.putSet es1 t2)
   have I1:q0U w (s.heap.update a (Obj.putSet es1 t2)) a es1 (ep + 1) t2:=⟨at1,tx1,km.nodup_iff.mpr nd1,few1,f2,l2.trans I.led,.inr n2⟩
   split
   ·have p2:=relayAll_perm t2 es1 (SetTable.grown es1.size)
    have f3:=relayAll_fits t2 es1 (SetTable.grown es1.size)
    have l3:=x1a t2 es1 (SetTable.grown es1.size)
    generalize relayAll t2 es1 (SetTable.grown es1.size)=R3 at p2 f3 l3 ⊢
    obtain ⟨es2,t3,gv2⟩:=R3
    dsimp only at p2 f3 l3 ⊢
    have few2:es2.size<scanBound:=by rw [<- Array.length_toList,p2.length_eq,Array.length_toList];exact few1
    have km2:=(p2.map q6F).trans km
    refine wpAny_bind (gw _ (wpAny_bind (wpAny_storeSet_of (s:={ s with heap:=s.heap.update a (Obj.putSet es1 t2) }) I1.at_ rfl ?_ (fits_of_scanBound few2))))
    refine wpAny_pure ⟨rfl,h _ _ (sb1.trans (Heap.SameBut.update _ a _)) ⟨es2,ep + 1 + 1,t3,⟨q6J I1,fun e he=>tx1 e (p2.mem_iff.mp he),km2.nodup_iff.mpr nd1,few2,f3,l3.1.trans (l2.trans I.led),.inr (l3.2 n2)⟩,km2⟩⟩
   ·exact wpAny_pure ⟨rfl,h _ _ sb1 ⟨es1,ep + 1,t2,I1,km⟩⟩
  refine wpAny_bind (gw gv ?_)
  cases hp:t1.plain with
  | true =>
   simp only [if_true]
   rw [hashByValue_scannable 8 (x:=.str x tk) rfl]
   refine wpAny_bind (wpAny_pure ?_)
   refine wpAny_mono (tail { t1 with plain:=false } (by cases t1;exact f1) l1 rfl) (fun r s' z=>?_) fun _ _ z=>z
   obtain ⟨rfl,z⟩:=z
   exact wpAny_pure z
  | false =>
   simp only [Bool.false_eq_true,if_false]
   refine wpAny_bind (wpAny_pure ?_)
   refine wpAny_mono (tail t1 f1 l1 hp) (fun r s' z=>?_) fun _ _ z=>z
   obtain ⟨rfl,z⟩:=z
   exact wpAny_pure z
theorem w80 {a:Addr}{ss:List Str}{x:Str}{tk:Tok}{Q:Bool->Shared->Prop} (hS:q80 w s.heap a ss) (hr:ss.length + 1<scanBound)
  (h:∀ h' tk',Heap.SameBut a s.heap h'->q80 w h' a (if x∈ss then ss else ss++[x])->Q (!decide (x∈ss)) { s with heap:=h',toks:=tk' }) :
  wpAny (model P w) A (setAdd a (.str x tk)) Q E s:=by
 unfold setAdd
 refine wpAny_holding (wpAny_bind ((strKind P w).pyHash (k:=x) (isS P w x tk) ?_))
 exact w3r (s:={ s with toks:=s.toks + 1 }) hS hr h
end
end L2
end
section
namespace L2
open PySem PySem.Spec PyProof.Rows
abbrev q1p (w:World):Obj:={ cls:=.type "set",dict:=none,data:=.set #[] 0 (.fresh 0 0 (!w.params.followText "set-order")) }
theorem w3s (w:World) {h:Heap}{a:Addr} (e:h.get? a=some (q1p w)):q80 w h a [] :=
 ⟨#[],0,_,⟨e,fun e he=>by simp at he,by simp,by decide,rfl,rfl,.inl rfl⟩,by simp⟩
def q12:List Str->List Str->List Str
 | acc,[]=>acc
 | acc,x::r=>q12 (if x∈acc then acc else acc++[x]) r
theorem q2j:∀ (l acc:List Str) (x:Str),x∈q12 acc l↔x∈acc\/x∈l
 | [],acc,x=>by simp [q12]
 | y::r,acc,x=>by
  rw [q12,q2j r]
  by_cases h:y∈acc
  ·rw [if_pos h];simp only [List.mem_cons]
   constructor
   ·exact fun z=>z.elim .inl fun z=>.inr (.inr z)
   ·rintro (z | z | z)
    ·exact .inl z
    ·exact .inl (z ▸ h)
    ·exact .inr z
  ·rw [if_neg h];simp [List.mem_append,or_assoc]
theorem q22:∀ (l acc:List Str),acc.Nodup->(q12 acc l).Nodup
 | [],acc,h=>h
 | y::r,acc,h=>by
  rw [q12]
  refine q22 r _ ?_
  by_cases hy:y∈acc
  ·rw [if_pos hy];exact h
  ·rw [if_neg hy,List.nodup_append]
   exact ⟨h,by simp,fun a ha b hb e=>hy (by rw [List.mem_singleton] at hb;rw [<- hb,<- e];exact ha)⟩
theorem q15:∀ (l acc:List Str),(q12 acc l).length<=acc.length + l.length
 | [],acc=>by simp [q12]
 | y::r,acc=>by
  rw [q12]
  have:=q15 r (if y∈acc then acc else acc++[y])
  by_cases hy:y∈acc
  ·rw [if_pos hy] at this ⊢;simp only [List.length_cons];omega
  ·rw [if_neg hy] at this ⊢;simp only [List.length_cons,List.length_append,List.length_singleton,List.length_nil] at this ⊢;omega
section
variable {prog:Program}{w:World}{A:Around}{E:Value->Shared->Prop}{s:Shared}{R:Result->Shared->Prop}
theorem q80.keep {h h':Heap}{a:Addr}{ss:List Str} (x:q80 w h a ss) (k:∀ o,h.get? a=some o->h'.get? a=some o):q80 w h' a ss :=
 let ⟨es,ep,t,I,p⟩:=x;⟨es,ep,t,⟨k _ I.at_,I.txt,I.nd,I.few,I.fits,I.led,I.pl⟩,p⟩
theorem w1r {I:Addr}{fp wr:List Addr}{n:Nat}{Pv:Nat->Value->Prop}{St:Nat->Heap->Prop} (W:Walks prog w A.in1 I fp wr n Pv St) (D:Addr) (hD:D∉fp) (xs:List Str) (hx:xs.length=n)
  (hv:∀ i v,Pv i v->∃ x t,xs[i]?=some x/\v=.str x t) (hb:n + 1<scanBound) :
  ∀ (k i:Nat) (s:Shared) (acc:List Str),n - i=k->i<=n->acc.length<=i->St i s.heap->q80 w s.heap D acc ->
   (∀ h' tk,(∀ b o,b∉D::wr->s.heap.get? b=some o->h'.get? b=some o)->q80 w h' D (q12 acc (xs.drop i))->R (.ok (.ret .none)) { s with heap:=h',toks:=tk }) ->
   codeAny (model prog w) A (.builtin "set.update.loop" ⟨[.ref D,.ref I],[]⟩) R s:=by
 have hDw:D∉wr:=fun z=>hD (W.sub _ z)
 intro k
 induction k with
 | zero =>
  intro i s acc hk hi hl st hS hR
  obtain rfl:i=n:=by omega
  refine codeAny_builtin PyProof.Rows.F.entry_set_update_loop ?_
  rw [Around.under_plainId PyProof.Rows.F.plain_set_update_loop _]
  show wpAny _ A.in1 (pyNext (.ref I) >>= _) _ _ s
  refine wpAny_bind (W.done s _ _ st fun h' tk kp=>?_)
  refine wpAny_pure (hR h' tk (fun b o hb e=>kp b o (fun z=>hb (List.mem_cons_of_mem _ z)) e) ?_)
  rw [List.drop_of_length_le (by omega)]
  exact hS.keep fun o e=>kp D o hDw e
 | succ k ih =>
  intro i s acc hk hi hl st hS hR
  have hlt:i<n:=by omega
  refine codeAny_builtin PyProof.Rows.F.entry_set_update_loop ?_
  rw [Around.under_plainId PyProof.Rows.F.plain_set_update_loop _]
  show wpAny _ A.in1 (pyNext (.ref I) >>= _) _ _ s
  refine wpAny_bind (W.item i s _ _ hlt st fun v h' tk hP st' kp=>?_)
  obtain ⟨x,t,hxi,rfl⟩:=hv i v hP
  have hS':q80 w h' D acc:=hS.keep fun o e=>kp D o hDw e
  refine wpAny_bind (wpAny_holding (w80 (s:={ s with heap:=h',toks:=tk }) hS' (by omega) fun h2 tk2 sb hS2=>?_))
  refine wpAny_pure ⟨plainId_quiet PyProof.Rows.F.plain_set_update_loop _,ih (i + 1) _ (if x∈acc then acc else acc++[x]) (by omega) hlt ?_ (W.frame _ _ _ st' fun b hb o e=>?_) hS2 fun h3 tk3 k3 hS3=>?_⟩
  ·by_cases z:x∈acc
   ·rw [if_pos z];omega
   ·rw [if_neg z,List.length_append,List.length_singleton];omega
  ·rw [sb.2 b fun z=>hD (z ▸ hb)];exact e
  ·refine hR h3 tk3 (fun b o hb e=>k3 b o hb ?_) ?_
   ·rw [sb.2 b fun z=>hb (by rw [z];exact List.mem_cons_self)]
    exact kp b o (fun z=>hb (List.mem_cons_of_mem _ z)) e
   ·have hd:xs.drop i=x::xs.drop (i + 1):=by
     obtain ⟨h1,h2⟩:=List.getElem?_eq_some_iff.mp hxi
     rw [List.drop_eq_getElem_cons h1,h2]
    rw [hd,q12];exact hS3
theorem x3y (a:Value) {Q₁:Value->Shared->Prop} (h:Q₁ (.ref s.heap.objs.size) { s with heap:=s.heap.push (q1p w) }) :
  codeAny (model prog w) A (.call (.builtin "set.__new__") ⟨[.type "set",a],[]⟩) (wants Q₁ E) s:=by
 refine codeAny_of_tree ?_
 show wpAny _ A.in1 (do checkBuiltinCall "set.__new__" ⟨[.type "set",a],[]⟩;again (.builtin "set.__new__" ⟨[.type "set",a],[]⟩)) _ _ s
 refine wpAny_bind (wpAny_of_eq (F.newCall_set_1 a) (wpAny_pure ⟨plainId_quiet F.plain_set_new _,codeAny_builtin F.entry_set_new ?_⟩))
 rw [Around.under_plainId F.plain_set_new _]
 unfold Builtin.«set.__new__» Builtin.Frozenset.newClass
 have hsub:=sub_set_self
 obtain ⟨hp,g,d,tk,os⟩:=s
 dsimp only
 wp_walk
 refine wpAny_askSetting (wpAny_pure ?_)
 dsimp only
 simp only [newObj]
 refine wpAny_bind (wpAny_alloc (wpAny_pure ?_))
 exact wpAny_pure h
structure y0d (prog:Program) (w:World) (A:Around) (T:String) (l:Addr) (o:Obj) (items:Array Value):Prop where
 ty:o.cls=.type T
 s1:isSubtype (.type T) (.type "set")=pure false
 s2:isSubtype (.type T) (.type "frozenset")=pure false
 nd:(Value.type T == Value.type "dict")=false
 iter:∀ (s:Shared) (Q:Value->Shared->Prop) (E:Value->Shared->Prop),s.heap.get? l=some o ->
  (∀ ob St,Walks prog w A.in1 s.heap.objs.size [s.heap.objs.size,l] [s.heap.objs.size] items.size (fun i v=>items[i]?=some v) St->St 0 (s.heap.push ob)->Q (.ref s.heap.objs.size) { s with heap:=s.heap.push ob })->wpAny (model prog w) A (pyIter (.ref l)) Q E s
theorem q7D {T:String}{l:Addr}{ol:Obj}{items:Array Value}{xs:List Str}{Q:Value->Shared->Prop}
  (src:y0d prog w A.in1.in1 T l ol items) (hol:s.heap.get? l=some ol) (hi:∀ (i:Nat) (v:Value),items[i]?=some v->∃ x t,xs[i]?=some x/\v=Value.str x t) (hx:xs.length=items.size) (hb:items.size + 1<scanBound)
  (h:∀ (h':Heap) (tk:Nat),q80 w h' s.heap.objs.size (q12 [] xs)->(∀ b o,s.heap.get? b=some o->h'.get? b=some o)->Q (.ref s.heap.objs.size) { s with heap:=h',toks:=tk }) :
  wpAny (model prog w) A (call (.type "set") [.ref l]) Q E s:=by
 obtain ⟨c,tl,hmro⟩:=F.called_set.mro
 have hmade:=F.called_set.made
 have hsub:=F.called_set.sub
 refine wpAny_call (codeAny_of_tree ?_)
 show wpAny _ _ (callAny (.type "set") _) _ _ _
 refine wpAny_pure ⟨Code.quiet_builtin _ (by decide +kernel),codeAny_builtin F.entry_type_call ?_⟩
 rw [Around.under_plain (weight_type_call_type "set" [.ref l] []) rfl]
 have h1:=F.called_set.notType
 have h2:=F.called_set.canCreate
 have hct:=F.typeCall_set_1 (.ref l)
 repeat (any_goals (first | assumption | wp_step))
 refine codeAny_mono (x3y (.ref l) (E:=E) (Q₁:=fun obj s₁=>obj=.ref s.heap.objs.size/\s₁={ s with heap:=s.heap.push (q1p w) }) ⟨rfl,rfl⟩) fun r s₁ hr=>?_
 cases r with
 | error e=>exact hr
 | ok fl =>
  cases fl with
  | ret obj =>
   obtain ⟨rfl,rfl⟩:=hr
   have hS:(s.heap.push (q1p w)).get? s.heap.objs.size=some (q1p w):=Heap.get?_push_size _ rfl
   have hT:Shared.TypeIs { s with heap:=s.heap.push (q1p w) } (.ref s.heap.objs.size) "set":=⟨_,hS,rfl⟩
   have hli:=F.called_set.init.lookup
   have hbi:=F.called_set.init.bind (.ref s.heap.objs.size)
   repeat (any_goals (first | assumption | wp_step))
   refine codeAny_mono (codeAny_call_builtin (R:=wants (fun r s₂=>r=.none/\∃ h' tk,s₂={ s with heap:=h',toks:=tk }/\q80 w h' s.heap.objs.size (q12 [] xs) /\
     (∀ b o,s.heap.get? b=some o->h'.get? b=some o)) E) F.called_set.init.plain F.entry_set_init (check_set_init_1 hT ?_)) fun r₂ s₂ hr₂=>?_
   ·obtain ⟨oc,od,odt,os'⟩:=ol
    obtain ⟨ty,s1,s2,nd,iter⟩:=src
    have ty:oc=.type T:=ty
    subst ty
    have hol':(s.heap.push (q1p w)).get? l=some { cls:=.type T,dict:=od,data:=odt,slots:=os' }:=Heap.get?_push_of_some _ hol
    unfold Builtin.«set.__init__» noKeywords Builtin.Frozenset.updateFrom
    generalize hPI:pyIter=PI
    wp_walk
    subst hPI
    refine iter { s with heap:=s.heap.push (q1p w) } _ _ hol' fun ob St W st=>?_
    have hlS:l<s.heap.objs.size:=Heap.lt_size hol
    refine wpAny_bind (wpAny_runValue ?_)
    have szp:(s.heap.push (q1p w)).objs.size=s.heap.objs.size + 1:=Heap.size_push ..
    refine w1r (A:=A.in1.in1) W s.heap.objs.size (by rw [szp];simp only [List.mem_cons,List.not_mem_nil,or_false,not_or];exact ⟨Nat.ne_of_lt (Nat.lt_succ_self _),Nat.ne_of_gt hlS⟩) xs hx hi hb items.size 0 _ [] (by omega) (Nat.zero_le _) (Nat.le_refl _) st (w3s w (Heap.get?_push_of_some _ hS)) fun h' tk kp hS'=>?_
    show wpAny _ _ _ _ _ _
    refine wpAny_pure ?_
    show wpAny _ _ (ret Value.none) _ _ _
    refine wpAny_pure ⟨rfl,h',tk,rfl,hS',fun b o e=>kp b o ?_ (Heap.get?_push_of_some _ (Heap.get?_push_of_some _ e))⟩
    have:=Heap.lt_size e
    rw [szp]
    simp only [List.mem_cons,List.not_mem_nil,or_false,not_or]
    exact ⟨Nat.ne_of_lt this,Nat.ne_of_lt (Nat.lt_succ_of_lt this)⟩
   ·cases r₂ with
    | error e=>exact hr₂
    | ok fl₂ =>
     cases fl₂ with
     | ret r =>
      obtain ⟨rfl,h',tk,rfl,hS',hk'⟩:=hr₂
      repeat (any_goals (first | assumption | wp_step))
      exact h _ _ hS' hk'
     | next=>exact hr₂.elim
     | brk=>exact hr₂.elim
     | cont=>exact hr₂.elim
  | next=>exact hr.elim
  | brk=>exact hr.elim
  | cont=>exact hr.elim
theorem x3z {l:Addr}{o:Obj}{its:List Value} (hh:A.handled=none) (e0:o.cls=.type "list") (e1:∃ n,o.data=.seq its.toArray n):y0d prog w A "list" l o its.toArray :=
 ⟨e0,F.sub_list_set,F.sub_list_frozenset,by decide,fun s Q E e h=>wpAny_pyIter_list ⟨_,e,e0,e1⟩
  (h _ _ (Walks.list (by simpa using hh) _ l (Nat.ne_of_lt (Heap.lt_size e)) its.toArray) ⟨⟨_,Heap.get?_push_size _ rfl,rfl,rfl⟩,⟨_,Heap.get?_push_of_some _ e,e0,e1⟩⟩)⟩
theorem x6u {l:Addr}{o:Obj}{its:List Value} (hh:A.handled=none) (e0:o.cls=.type "tuple") (e1:∃ n,o.data=.seq its.toArray n):y0d prog w A "tuple" l o its.toArray :=
 ⟨e0,F.sub_tuple_set,F.sub_tuple_frozenset,by decide,fun s Q E e h=>wpAny_pyIter_tuple ⟨_,e,e0,e1⟩
  (h _ _ (Walks.tuple (by simpa using hh) _ l (Nat.ne_of_lt (Heap.lt_size e)) its.toArray) ⟨⟨_,Heap.get?_push_size _ rfl,rfl,rfl⟩,⟨_,Heap.get?_push_of_some _ e,e0,e1⟩⟩)⟩
end
end L2
end
section
namespace L2
open PySem PySem.Spec PyProof.Rows
namespace SI
theorem entry_iter:entryFor table "set.__iter__"=some Builtin.«frozenset.__iter__» :=
 entryFor_alias (id':="frozenset.__iter__") (by kernel_rfl) rfl (by decide +kernel) (by kernel_rfl)
theorem slot_next:Slot "set_iterator" "__next__" "set_iterator.__next__":=by
 refine .of (owner:="set_iterator") (n:="__next__") ?_ ?_ ?_ ?_ ?_ ?_
 ·rw [typeLookup_type,builtinLookup_eq_fast];kernel_rfl
 ·decide +kernel
 ·decide +kernel
 ·decide +kernel
 ·first
   | exact .inl (by decide +kernel)
   | exact .inr (by decide +kernel)
 ·rw [isSubtype_type];kernel_rfl
theorem entry_next:entryFor table "set_iterator.__next__"=some Builtin.«set_iterator.__next__» :=
 entryFor_of_tree (by kernel_rfl)
theorem w81:Manifest.owners.lookup (String.ofList ['r','o','t','a','r','e','t','i','_','t','e','s'].reverse)=some Manifest.sig_set_iterator:=by kernel_rfl
theorem args_next (a:Value):argsOk "set_iterator.__next__" ⟨[a],[]⟩:=by
 unfold argsOk
 rw [signature?_of (id:="set_iterator.__next__") (n:=['_','_','t','x','e','n','_','_']) (o:=['r','o','t','a','r','e','t','i','_','t','e','s']) (by kernel_rfl) w81]
 kernel_rfl
theorem args_iter (a:Value):argsOk "set_iterator.__iter__" ⟨[a],[]⟩:=by
 unfold argsOk
 rw [signature?_of (id:="set_iterator.__iter__") (n:=['_','_','r','e','t','i','_','_']) (o:=['r','o','t','a','r','e','t','i','_','t','e','s']) (by kernel_rfl) w81]
 kernel_rfl
theorem entry_self:entryFor table "set_iterator.__iter__"=some Builtin.«dict_keyiterator.__iter__» :=
 entryFor_alias (id':="dict_keyiterator.__iter__") (by kernel_rfl) rfl (by decide +kernel) (by kernel_rfl)
theorem slot_iter:Slot "set_iterator" "__iter__" "set_iterator.__iter__":=by
 refine .of (owner:="set_iterator") (n:="__iter__") ?_ ?_ ?_ ?_ ?_ ?_
 ·rw [typeLookup_type,builtinLookup_eq_fast];kernel_rfl
 ·decide +kernel
 ·decide +kernel
 ·decide +kernel
 ·first
   | exact .inl (by decide +kernel)
   | exact .inr (by decide +kernel)
 ·rw [isSubtype_type];kernel_rfl
end SI
end L2
end
section
namespace L2
open PySem PySem.Spec PyProof.Rows
theorem q6K {α:Type}:∀ {l:List α}{i:Nat} (h:i<l.length),(l[i]::l.eraseIdx i).Perm l
 | x::r,0,_=>.refl _
 | x::r,i + 1,h=>by
  have q:=q6K (l:=r) (i:=i) (by simpa using h)
  rw [List.getElem_cons_succ,List.eraseIdx_cons_succ]
  exact (List.Perm.swap _ _ _).trans (q.cons x)
section
variable {M:Model}{A:Around}{E:Value->Shared->Prop}{s:Shared}
theorem x1c {src:Source}{n:Nat}{Q:Nat->Shared->Prop} (hn:n≠0) (h:∀ i d,i<n->Q i { s with drawn:=d }):wpAny M A (choose src n) Q E s :=
 fun _ _ _=>⟨hn,h _ _ (Nat.mod_lt _ (Nat.pos_of_ne_zero hn))⟩
theorem q7E {α:Type}:∀ (n:Nat) (xs:List α) (s:Shared) (Q:List α->Shared->Prop),n=xs.length->(∀ ys d,ys.Perm xs->Q ys { s with drawn:=d })->wpAny M A (drawOrder n xs) Q E s
 | 0,xs,s,Q,hn,h=>by
  obtain rfl:xs=[]:=List.length_eq_zero_iff.mp hn.symm
  exact wpAny_pure (h [] s.drawn .nil)
 | n + 1,[],s,Q,hn,h=>by cases hn
 | n + 1,x::r,s,Q,hn,h=>by
  show wpAny M A (choose .order (x::r).length >>= _) Q E s
  refine wpAny_bind (x1c (by simp) fun i d hi=>?_)
  rw [List.getElem?_eq_getElem hi]
  refine wpAny_bind (q7E n _ _ _ (by rw [List.length_eraseIdx_of_lt hi];omega) fun ys d' p=>wpAny_pure ?_)
  exact h _ _ ((p.cons _).trans (q6K hi))
end
theorem x1d {α:Type} (next:Nat->Nat):∀ (n k:Nat) (left:List α) (out:Array α),n=left.length->(pickOrder.go next n k left out).toList.Perm (out.toList++left)
 | 0,k,left,out,hn=>by
  obtain rfl:left=[]:=List.length_eq_zero_iff.mp hn.symm
  rw [pickOrder.go,List.append_nil]
 | n + 1,k,left,out,hn=>by
  have hl:next k % left.length<left.length:=Nat.mod_lt _ (by omega)
  rw [pickOrder.go,List.getElem?_eq_getElem hl]
  refine (x1d next n (k + 1) _ _ (by rw [List.length_eraseIdx_of_lt hl];omega)).trans ?_
  rw [Array.toList_push,List.append_assoc]
  exact (q6K hl).append_left _
theorem q8J {α:Type} (next:Nat->Nat) (xs:Array α):(pickOrder next xs).toList.Perm xs.toList:=by
 have:=x1d next xs.size 0 xs.toList #[] (by simp)
 simpa [pickOrder] using this
def SIt (h:Heap) (I S:Addr) (first:Value) (i n ep:Nat):Prop:=h.get? I=some { cls:=.type "set_iterator",data:=.fields #[first,.int i 0,.ref S,.int n 0,.int ep 0] }
section
variable {prog:Program}{w:World}{A:Around}{E:Value->Shared->Prop}{s:Shared}{I S:Addr}{es:Array (Int×Value)}{ep:Nat}{t:SetTable}{i n:Nat}{first:Value}
theorem SIt.put {f f':Value}{j j':Nat}{k:Nat}{x:Value}{h:Heap} (hit:SIt h I S f j n ep) (e:(#[f,.int j 0,.ref S,.int n 0,.int ep 0] : Array Value).setIfInBounds k x=#[f',.int j' 0,.ref S,.int n 0,.int ep 0]) :
  SIt (h.update I (Obj.mapFields (·.setIfInBounds k x))) I S f' j' n ep:=by
 have q:=Heap.get?_update_self (Obj.mapFields (·.setIfInBounds k x)) hit rfl
 unfold SIt
 rw [q]
 show some ({ cls:=.type "set_iterator",data:=.fields ((#[f,.int j 0,.ref S,.int n 0,.int ep 0] : Array Value).setIfInBounds k x) }:Obj)=_
 rw [e]
theorem q6L {Q:Option Value->Shared->Prop} (hit:SIt s.heap I S first i n ep) (hS:q0U w s.heap S es ep t) (hn:n=es.size)
  (h:wpAny (model prog w) A.in1 (do
   if let .int slot _:=first then
    match <- setNext S slot.toNat i ep with
    | some (x,next) =>
     setField (.ref I) 0 (rawInt next)
     setField (.ref I) 1 (rawInt (i + 1))
     ret x
    | none=>setField (.ref I) 2 .none;raiseNew (<- newExc (.type "StopIteration") [])
   else
    let some places <- seqItems? first | unsupported "internal:set_iterator"
    match places[i]? with
    | some (.int place _) =>
     let x <- setNextDrawn S place.toNat ep
     setField (.ref I) 1 (rawInt (i + 1))
     ret x
    | some _=>unsupported "internal:set_iterator"
    | none=>setField (.ref I) 0 (rawInt 0);setField (.ref I) 2 .none;raiseNew (<- newExc (.type "StopIteration") []))
   (fun fin s'=>∃ v,fin=.done (.ret v)/\Q (some v) s') (fun e s'=>wpAny (model prog w) A (isInstance e (.type "StopIteration")) (fun b s''=>b=true/\Q none s'') E s') s) :
  wpAny (model prog w) A (pyNext (.ref I)) Q E s:=by
 unfold pyNext
 refine wpAny_bind (wpAny_attempt ?_)
 refine wpAny_callSpecial?_slot (name:=Str.ofString "__next__") ⟨_,hit,rfl⟩ SI.slot_next ?_
 refine wpAny_call_entry SI.slot_next ⟨_,hit,rfl⟩ SI.entry_next ?_ (SI.args_next _)
 show wpAny _ _ (fieldsOf (.ref I) >>= _) _ _ s
 refine wpAny_bind (wpAny_fieldsOf hit rfl ?_)
 show wpAny _ _ (setEntries S >>= _) _ _ s
 refine wpAny_bind (wpAny_setEntries_of hS.at_ rfl hS.fits ?_)
 rw [if_neg (by rw [hn];simp)]
 refine wpAny_mono h (fun fin s' z=>?_) fun e s' z=>?_
 ·obtain ⟨v,rfl,q⟩:=z
  exact ⟨v,rfl,wpAny_pure q⟩
 ·refine wpAny_bind (wpAny_mono z (fun b s'' ⟨hb,q⟩=>?_) fun _ _ z=>z)
  subst hb
  exact wpAny_pure q
theorem w5u {B:Around}{Q:Option Value->Shared->Prop}{Q':Fin->Shared->Prop}{o:Obj}{vs:Array Value} (hh:B.handled=none) (ho:s.heap.get? I=some o) (hd:o.data=.fields vs) (hz:2<vs.size)
  (h:∀ h',Heap.ExtBut I s.heap h'->Q none { s with heap:=h' }) :
  wpAny (model prog w) B (do setField (.ref I) 2 .none;raiseNew (<- newExc (.type "StopIteration") []))
   Q' (fun e s'=>wpAny (model prog w) A (isInstance e (.type "StopIteration")) (fun b s''=>b=true/\Q none s'') E s') s:=by
 refine wpAny_bind (wpAny_setField ho hd hz ?_)
 show wpAny _ _ (newExc (.type "StopIteration") [] >>= _) _ _ _
 refine wpAny_bind ?_
 simp only [newExc,newTuple]
 refine wpAny_bind (wpAny_newObj_type ?_ (by size_fits))
 refine wpAny_bind (m:=firstArgMember _ _) (wpAny_of_eq (a:=Value.none) ?_ ?_)
 ·first
   | rfl
   | (simp only [firstArgMember];rfl)
 refine wpAny_newObj_type ?_ (by size_fits)
 simp only [raiseNew]
 refine wpAny_bind (wpAny_handled ?_)
 rw [hh]
 refine wpAny_bind (wpAny_pure (wpAny_throw ?_))
 refine wpAny_isInstance (T:="StopIteration") (b:=true) ⟨_,Heap.get?_push_size _ rfl,rfl⟩ isSubtype_stop ⟨rfl,?_⟩
 exact h _ (((Heap.SameBut.update ..).extBut.push _).push _)
end
end L2
end
section
namespace L2
open PySem PySem.Spec PyProof.Rows
section
variable {prog:Program}{w:World}{A:Around}{E:Value->Shared->Prop}{s:Shared}{I S:Addr}{es:Array (Int×Value)}{ep:Nat}{t:SetTable}{i n:Nat}{first:Value}
theorem q0U.keep {h h':Heap} (x:q0U w h S es ep t) (k:∀ o,h.get? S=some o->h'.get? S=some o):q0U w h' S es ep t:=⟨k _ x.at_,x.txt,x.nd,x.few,x.fits,x.led,x.pl⟩
theorem w5v {Q:Value->Shared->Prop} (hit:SIt s.heap I S first i n ep) (h:Q (.ref I) s):wpAny (model prog w) A (pyIter (.ref I)) Q E s:=by
 refine wpAny_pyIter_slot ⟨_,hit,rfl⟩ SI.slot_iter (wpAny_call_entry SI.slot_iter ⟨_,hit,rfl⟩ SI.entry_self ?_ (SI.args_iter _))
 show wpAny _ _ (ret (.ref I)) _ _ s
 exact wpAny_pure ⟨_,rfl,"set_iterator",_,⟨_,hit,rfl⟩,SI.slot_next.lookup,h⟩
theorem q16 {Q:Bool->Shared->Prop}{B:Around} (h:Q (w.params.followText "set-order") s):wpAny (model prog w) B setsByText Q E s:=by
 unfold setsByText
 exact wpAny_bind (wpAny_askSetting (wpAny_pure h))
theorem x4V {B:Around}{Q':Fin->Shared->Prop}{x:Value}{nx:Nat}{E':Value->Shared->Prop} (hit:SIt s.heap I S first i n ep)
  (h:∀ h',SIt h' I S (.int nx 0) (i + 1) n ep->Heap.SameBut I s.heap h'->Q' (.done (.ret x)) { s with heap:=h' }) :
  wpAny (model prog w) B (do setField (.ref I) 0 (rawInt nx);setField (.ref I) 1 (rawInt (i + 1));ret x) Q' E' s:=by
 refine wpAny_bind (wpAny_setField hit rfl (by simp) ?_)
 have h1:SIt (s.heap.update I (Obj.mapFields (·.setIfInBounds 0 (rawInt nx)))) I S (.int nx 0) i n ep:=hit.put (by simp [rawInt])
 refine wpAny_bind (wpAny_setField h1 rfl (by simp) ?_)
 have h2:SIt ((s.heap.update I (Obj.mapFields (·.setIfInBounds 0 (rawInt nx)))).update I (Obj.mapFields (·.setIfInBounds 1 (rawInt (i + 1))))) I S (.int nx 0) (i + 1) n ep:=h1.put (by simp [rawInt])
 exact wpAny_pure (h _ h2 ((Heap.SameBut.update ..).trans (Heap.SameBut.update ..)))
theorem q8K (f:Nat->Nat) (es:Array (Int×Value)):(pickOrder f es).size=es.size:=by
 rw [<- Array.length_toList,(q8J f es).length_eq,Array.length_toList]
theorem w96 (hh:A.handled=none) (hw:w.params.followText "set-order"=true) (hne:S≠I) :
  Walks prog w A I [I,S] [I] es.size (fun i v=>((pickOrder (w.params.setOrder S ep) es).toList.map (·.2))[i]?=some v) (fun i h=>SIt h I S (.int 0 0) i es.size ep/\q0U w h S es ep t) where
 sub:=fun b hb=>by simp at hb;simp [hb]
 frame:=fun i h h' st k=>⟨k I (by simp) _ st.1,st.2.keep fun o e=>k S (by simp) o e⟩
 item:=fun i s Q E hi st hQ=>by
  obtain ⟨hit,hS⟩:=st
  refine q6L hit hS rfl ?_
  dsimp only
  unfold setNext setWalk
  refine wpAny_bind (wpAny_bind (wpAny_setState_of hS.at_ rfl hS.fits (wpAny_bind (q16 ?_))))
  rw [hw]
  simp only [if_true,bne_self_eq_false,Bool.false_eq_true,if_false]
  refine wpAny_bind (wpAny_bind (wpAny_setState_of hS.at_ rfl hS.fits (wpAny_bind (q16 ?_))))
  rw [hw]
  simp only [if_true]
  refine wpAny_bind (wpAny_askSetting (wpAny_pure (wpAny_pure ?_)))
  have hi':i<(pickOrder (w.params.setOrder S ep) es).size:=by rw [q8K];exact hi
  show wpAny _ _ (match ((pickOrder (w.params.setOrder S ep) es)[i]?).map fun e=>(e.2,(0:Int).toNat) with
   | some (x,next)=>do setField (.ref I) 0 (rawInt next);setField (.ref I) 1 (rawInt (i + 1));ret x
   | none=>do setField (.ref I) 2 .none;raiseNew (<- newExc (.type "StopIteration") [])) _ _ s
  rw [getElem?_pos _ i hi']
  refine x4V (nx:=0) hit fun h' h1 sb=>⟨_,rfl,hQ _ h' s.toks ?_ ⟨h1,hS.keep fun o e=>(sb.2 S hne).trans e⟩ fun b o hb e=>(sb.2 b fun z=>hb (by simp [z])).trans e⟩
  simp [hi']
 done:=fun s Q E st hQ=>by
  obtain ⟨hit,hS⟩:=st
  refine q6L hit hS rfl ?_
  dsimp only
  unfold setNext setWalk
  refine wpAny_bind (wpAny_bind (wpAny_setState_of hS.at_ rfl hS.fits (wpAny_bind (q16 ?_))))
  rw [hw]
  simp only [if_true,bne_self_eq_false,Bool.false_eq_true,if_false]
  refine wpAny_bind (wpAny_bind (wpAny_setState_of hS.at_ rfl hS.fits (wpAny_bind (q16 ?_))))
  rw [hw]
  simp only [if_true]
  refine wpAny_bind (wpAny_askSetting (wpAny_pure (wpAny_pure ?_)))
  show wpAny _ _ (match ((pickOrder (w.params.setOrder S ep) es)[es.size]?).map fun e=>(e.2,(0:Int).toNat) with
   | some (x,next)=>do setField (.ref I) 0 (rawInt next);setField (.ref I) 1 (rawInt (es.size + 1));ret x
   | none=>do setField (.ref I) 2 .none;raiseNew (<- newExc (.type "StopIteration") [])) _ _ s
  rw [getElem?_neg _ es.size (by rw [q8K];exact Nat.lt_irrefl _)]
  exact w5u (by simpa using hh) hit rfl (by simp) fun h' eb=>hQ h' s.toks fun b o hb e=>eb b o (fun z=>hb (by simp [z])) e
 self:=fun i s Q E st h=>w5v st.1 h
inductive SPl (h:Heap) (T:Addr) (ps:List Nat):Prop
 | mk (o k:_) (h0:h.get? T=some o) (h1:o.data=.seq (ps.map fun (p:Nat)=>Value.int (p:Int) 0).toArray k):SPl h T ps
theorem w5w (hh:A.handled=none) {T:Addr}{ps:List Nat} (hne:S≠I) (hT:T≠I) (hp:∀ p∈ps,p<es.size) (hn:ps.length=es.size) :
  Walks prog w A I [I,S,T] [I] es.size (fun i v=>(ps.map fun p=>(es.getD p (0,.none)).2)[i]?=some v) (fun i h=>SIt h I S (.ref T) i es.size ep/\q0U w h S es ep t/\SPl h T ps) where
 sub:=fun b hb=>by simp at hb;simp [hb]
 frame:=fun i h h' st k=>⟨k I (by simp) _ st.1,st.2.1.keep fun o e=>k S (by simp) o e,let ⟨o,q,e,d⟩:=st.2.2;⟨o,q,k T (by simp) o e,d⟩⟩
 item:=fun i s Q E hi st hQ=>by
  obtain ⟨hit,hS,o,q,e,d⟩:=st
  refine q6L hit hS rfl ?_
  dsimp only
  refine wpAny_bind (wpAny_seqItems e d ?_)
  have hi':i<ps.length:=by omega
  dsimp only
  rw [show ((ps.map fun (p:Nat)=>Value.int (p:Int) 0).toArray)[i]?=some (.int (ps[i] : Nat) 0) by simp [hi']]
  dsimp only
  unfold setNextDrawn
  refine wpAny_bind (wpAny_bind (wpAny_setState_of hS.at_ rfl hS.fits ?_))
  have hlt:=hp ps[i] (List.getElem_mem hi')
  simp only [bne_self_eq_false,Bool.false_eq_true,if_false,Int.toNat_natCast]
  rw [getElem?_pos es ps[i] hlt]
  refine wpAny_pure ?_
  refine wpAny_bind (wpAny_setField hit rfl (by simp) ?_)
  have h1:SIt (s.heap.update I (Obj.mapFields (·.setIfInBounds 1 (rawInt (i + 1))))) I S (.ref T) (i + 1) es.size ep:=hit.put (by simp [rawInt])
  have sb:Heap.SameBut I s.heap (s.heap.update I (Obj.mapFields (·.setIfInBounds 1 (rawInt (i + 1))))):=Heap.SameBut.update ..
  refine wpAny_pure ⟨_,rfl,hQ _ _ s.toks ?_ ⟨h1,hS.keep fun o e=>(sb.2 S hne).trans e,o,q,(sb.2 T hT).trans e,d⟩ fun b o hb e=>(sb.2 b fun z=>hb (by simp [z])).trans e⟩
  simp [hi',hlt]
 done:=fun s Q E st hQ=>by
  obtain ⟨hit,hS,o,q,e,d⟩:=st
  refine q6L hit hS rfl ?_
  dsimp only
  refine wpAny_bind (wpAny_seqItems e d ?_)
  dsimp only
  rw [show ((ps.map fun (p:Nat)=>Value.int (p:Int) 0).toArray)[es.size]?=none by simp [<- hn]]
  dsimp only
  refine wpAny_bind (wpAny_setField hit rfl (by simp) ?_)
  have h1:SIt (s.heap.update I (Obj.mapFields (·.setIfInBounds 0 (rawInt 0)))) I S (.int 0 0) es.size es.size ep:=hit.put (by simp [rawInt])
  have sb:Heap.SameBut I s.heap (s.heap.update I (Obj.mapFields (·.setIfInBounds 0 (rawInt 0)))):=Heap.SameBut.update ..
  exact w5u (s:={ s with heap:=s.heap.update I (Obj.mapFields (·.setIfInBounds 0 (rawInt 0))) }) (by simpa using hh) h1 rfl (by simp) fun h' eb=>hQ h' s.toks fun b o hb e=>eb b o (fun z=>hb (by simp [z])) ((sb.2 b fun z=>hb (by simp [z])).trans e)
 self:=fun i s Q E st h=>w5v st.1 h
theorem x3A {p:Array Nat}{j:Nat} (h:p=#[j]):SetTable.below p 0=0:=by subst h;simp [SetTable.below,SetTable.below.go]
theorem x3B {p:Array Nat}{j:Nat} (h:p=#[j]):SetTable.below p (j + 1)=1:=by subst h;simp [SetTable.below,SetTable.below.go]
theorem x1e {t : SetTable} (h : t.fits 1 = true) : ∃ j, t.place = #[j] := by
  have h1 : t.place.size = 1 := by
    simp only [SetTable.fits, Bool.and_eq_true, beq_iff_eq] at h; exact h.1
  exact ⟨t.place[0], by apply Array.ext; · simp [h1]
                        · intro i h2 h3; have : i = 0 := by omega
                          subst this; simp⟩
theorem x8e {B:Around}{k:Unit->Sem (Option (Value×Nat))}{Q:Option (Value×Nat)->Shared->Prop} (hl:t.led=true) (h:wpAny (model prog w) B (k ()) Q E s) :
  wpAny (model prog w) B ((if (!t.led && !es.isEmpty)=true then unsupported "set:maker-not-led" else pure ()) >>= k) Q E s:=by
 rw [if_neg (by rw [hl];simp)]
 exact wpAny_bind (wpAny_pure h)
theorem q7F {B:Around}{slot g:Nat}{Q:Option (Value×Nat)->Shared->Prop} (hw:w.params.followText "set-order"=false) (hS:q0U w s.heap S es ep t) (h1:es.size<=1)
  (h:Q (match es[SetTable.below t.place slot]?,t.place[SetTable.below t.place slot]? with | some (_,x),some j=>some (x,j + 1) | _,_=>none) s):wpAny (model prog w) B (setNext S slot g ep) Q E s:=by
 unfold setNext
 refine wpAny_bind (wpAny_setState_of hS.at_ rfl hS.fits (wpAny_bind (q16 ?_)))
 rw [hw]
 simp only [Bool.false_eq_true,if_false]
 split
 ·rename_i z
  exact absurd (show (!t.plain && decide (es.size > 1))=true from z) (by simp;omega)
 ·have hl:t.led=true:=by rw [hS.led,hw];rfl
  exact x8e hl (wpAny_pure h)
theorem x1f (hh:A.handled=none) (hw:w.params.followText "set-order"=false) (hne:S≠I) (h1:es.size<=1) :
  Walks prog w A I [I,S] [I] es.size (fun i v=>(es.toList.map (·.2))[i]?=some v)
   (fun i h=>∃ k,SIt h I S (.int (k:Nat) 0) i es.size ep/\q0U w h S es ep t/\(i=0->k=0)/\(i=1->es.size=1->∃ j,t.place=#[j]/\k=j + 1)) where
 sub:=fun b hb=>by simp at hb;simp [hb]
 frame:=fun i h h' st k=>let ⟨c,a1,a2,a3⟩:=st;⟨c,k I (by simp) _ a1,a2.keep fun o e=>k S (by simp) o e,a3⟩
 item:=fun i s Q E hi st hQ=>by
  obtain ⟨c,hit,hS,c0,c1⟩:=st
  have hi0:i=0:=by omega
  subst hi0
  obtain rfl:c=0:=c0 rfl
  have e1:es.size=1:=by omega
  obtain ⟨j,hj⟩:=x1e (t:=t) (by rw [<- e1];exact hS.fits)
  refine q6L hit hS rfl ?_
  dsimp only
  refine wpAny_bind (q7F hw hS h1 ?_)
  rw [show (((0:Nat):Int).toNat)=0 from rfl,x3A hj,getElem?_pos es 0 (by omega),hj]
  refine x4V (nx:=j + 1) hit fun h' h1 sb=>⟨_,rfl,hQ _ h' s.toks ?_ ⟨j + 1,h1,hS.keep fun o e=>(sb.2 S hne).trans e,by simp,fun _ _=>⟨j,hj,rfl⟩⟩ fun b o hb e=>(sb.2 b fun z=>hb (by simp [z])).trans e⟩
  simp [e1]
 done:=fun s Q E st hQ=>by
  obtain ⟨c,hit,hS,c0,c1⟩:=st
  refine q6L hit hS rfl ?_
  dsimp only
  refine wpAny_bind (q7F hw hS h1 ?_)
  have hz:es[SetTable.below t.place ((c:Nat):Int).toNat]?=none:=by
   rcases Nat.eq_zero_or_pos es.size with z | z
   ·rw [getElem?_neg];omega
   ·have e1:es.size=1:=by omega
    obtain ⟨j,hj,hc⟩:=c1 e1 e1
    rw [hc,show (((j + 1:Nat):Int).toNat)=j + 1 from rfl,x3B hj,getElem?_neg];omega
  rw [hz]
  exact w5u (by simpa using hh) hit rfl (by simp) fun h' eb=>hQ h' s.toks fun b o hb e=>eb b o (fun z=>hb (by simp [z])) e
 self:=fun i s Q E st h=>let ⟨_,a1,_⟩:=st;w5v a1 h
theorem w97 {Q:Value->Shared->Prop} (hh:A.handled=none) (hS:q0U w s.heap S es ep t)
  (h:∀ (I:Addr) (fp:List Addr) (ord:List Value) (St:Nat->Heap->Prop) (h':Heap) (d:Drawn),s.heap.objs.size<=I->(∀ b∈fp,b=S\/s.heap.objs.size<=b)->(∀ b∈fp,b<h'.objs.size)->ord.Perm (es.toList.map (·.2))->(∀ B:Around,B.handled=none->Walks prog w B I fp [I] ord.length (fun i v=>ord[i]?=some v) St)->St 0 h' ->
   (∀ b o,s.heap.get? b=some o->h'.get? b=some o)->Shared.TypeIs { s with heap:=h',drawn:=d } (.ref I) "set_iterator"->Q (.ref I) { s with heap:=h',drawn:=d }):wpAny (model prog w) A (pyIter (.ref S)) Q E s:=by
 have hT:s.TypeIs (.ref S) "set":=⟨_,hS.at_,rfl⟩
 have hlt:=Heap.lt_size hS.at_
 refine wpAny_pyIter_slot hT F.slot_set_iter (wpAny_call_entry F.slot_set_iter hT SI.entry_iter ?_ (F.args_set_iter_1 _))
 show wpAny _ _ (Builtin.Frozenset.sizeOf S >>= _) _ _ s
 unfold Builtin.Frozenset.sizeOf
 refine wpAny_bind (wpAny_bind (wpAny_setEntries_of hS.at_ rfl hS.fits (wpAny_pure ?_)))
 show wpAny _ _ (setDrawn S >>= _) _ _ s
 unfold setDrawn
 refine wpAny_bind (wpAny_bind (wpAny_setState_of hS.at_ rfl hS.fits (wpAny_bind (q16 (wpAny_pure ?_)))))
 have fin:∀ (first:Value) (fp:List Addr) (ord:List Value) (St:Nat->Heap->Prop) (h':Heap) (d:Drawn),(∀ b o,s.heap.get? b=some o->h'.get? b=some o)->s.heap.objs.size<=h'.objs.size ->
   (∀ b∈fp,b=S\/b=h'.objs.size\/(s.heap.objs.size<=b/\b<h'.objs.size))->ord.Perm (es.toList.map (·.2))->(∀ B:Around,B.handled=none->Walks prog w B h'.objs.size fp [h'.objs.size] ord.length (fun i v=>ord[i]?=some v) St) ->
   (∀ h'':Heap,(∀ b o,h'.get? b=some o->h''.get? b=some o)->SIt h'' h'.objs.size S first 0 es.size ep->St 0 h'') ->
   wpAny (model prog w) A.in1 (setEpoch S >>= fun e=>newFields "set_iterator" [first,rawInt 0,.ref S,rawInt es.size,rawInt e] >>= fun x=>ret x) (fun fin s'=>∃ v,fin=.done (.ret v)/\∃ T' r,s'.TypeIs v T'/\typeLookup (.type T') "__next__"=pure (some r)/\Q v s') E { s with heap:=h',drawn:=d }:=by
  intro first fp ord St h' d kp hsz hfp pm W st
  have hS':q0U w h' S es ep t:=hS.keep fun o e=>kp S o e
  refine wpAny_bind (wpAny_setEpoch_of (s:={ s with heap:=h',drawn:=d }) hS'.at_ rfl hS'.fits ?_)
  refine wpAny_bind (wpAny_newObj_type ?_ (by size_fits))
  have gp:∀ b o,h'.get? b=some o->(h'.push { cls:=.type "set_iterator",dict:=none,data:=.fields #[first,rawInt 0,.ref S,rawInt es.size,rawInt ep] }).get? b=some o:=fun b o e=>Heap.get?_push_of_some _ e
  have it:(h'.push { cls:=.type "set_iterator",dict:=none,data:=.fields #[first,rawInt 0,.ref S,rawInt es.size,rawInt ep] }).get? h'.objs.size=some { cls:=.type "set_iterator",dict:=none,data:=.fields #[first,rawInt 0,.ref S,rawInt es.size,rawInt ep] }:=Heap.get?_push_size _ rfl
  refine wpAny_pure ⟨_,rfl,"set_iterator",_,⟨_,it,rfl⟩,SI.slot_next.lookup,h h'.objs.size fp ord St _ d hsz (fun b hb=>?_) (fun b hb=>?_) pm W (st _ gp it) (fun b o e=>gp b o (kp b o e)) ⟨_,it,rfl⟩⟩
  ·rcases hfp b hb with z | z | z
   ·exact .inl z
   ·exact .inr (by rw [z];exact hsz)
   ·exact .inr z.1
  ·rw [Heap.size_push]
   rcases hfp b hb with z | z | z
   ·rw [z];exact Nat.lt_succ_of_lt (Nat.lt_of_lt_of_le hlt hsz)
   ·rw [z];exact Nat.lt_succ_self _
   ·exact Nat.lt_succ_of_lt z.2
 dsimp only
 split
 ·rename_i z
  have z:(!w.params.followText "set-order" && (!t.plain && decide (es.size > 1)))=true:=z
  refine wpAny_bind (q7E _ _ _ _ (by simp) fun ys d pm=>?_)
  simp only [newTuple]
  have hyl:ys.length=es.size:=by have:=pm.length_eq;rwa [List.length_range] at this
  have zl:=fits_of_scanBound hS.few
  refine wpAny_bind (wpAny_newObj_type ?_ (by show (ys.map fun (i:Nat)=>rawInt i).toArray.size<=sizeLine;simp;omega))
  have tp:∀ ob:Obj,(s.heap.push ob).objs.size=s.heap.objs.size + 1:=fun ob=>Heap.size_push ..
  refine fin (.ref s.heap.objs.size) [s.heap.objs.size + 1,S,s.heap.objs.size] (ys.map fun p=>(es.getD p (0,.none)).2)
   (fun i h=>SIt h (s.heap.objs.size + 1) S (.ref s.heap.objs.size) i es.size ep/\q0U w h S es ep t/\SPl h s.heap.objs.size ys) (s.heap.push _) d
   (fun b o e=>Heap.get?_push_of_some _ e) (by rw [tp];exact Nat.le_succ _) (fun b hb=>?_) ?_ (fun B hB=>?_) (fun h'' k it=>⟨by rw [tp] at it;exact it,hS.keep fun o e=>k S o (Heap.get?_push_of_some _ e),_,_,k _ _ (Heap.get?_push_size _ rfl),rfl⟩)
  ·simp only [List.mem_cons,List.not_mem_nil,or_false] at hb
   rcases hb with y | y | y
   ·exact .inr (.inl (by rw [tp];exact y))
   ·exact .inl y
   ·exact .inr (.inr ⟨by rw [y];exact Nat.le_refl _,by rw [tp,y];exact Nat.lt_succ_self _⟩)
  ·refine (pm.map _).trans (.of_eq ?_)
   apply List.ext_getElem
   ·simp
   ·intro k h1 h2
    have:k<es.size:=by simpa using h1
    simp [this]
  ·rw [List.length_map,hyl,tp]
   exact w5w hB (Nat.ne_of_lt (Nat.lt_succ_of_lt hlt)) (Nat.ne_of_lt (Nat.lt_succ_self _)) (fun p hp=>List.mem_range.mp (pm.mem_iff.mp hp)) hyl
 ·rename_i z
  have z:¬ (!w.params.followText "set-order" && (!t.plain && decide (es.size > 1)))=true:=z
  refine wpAny_bind (wpAny_pure ?_)
  have hne:S≠s.heap.objs.size:=Nat.ne_of_lt hlt
  cases hw:w.params.followText "set-order" with
  | true =>
   refine fin (rawInt 0) [s.heap.objs.size,S] ((pickOrder (w.params.setOrder S ep) es).toList.map (·.2)) (fun i h=>SIt h s.heap.objs.size S (.int 0 0) i es.size ep/\q0U w h S es ep t) s.heap s.drawn (fun _ _ e=>e) (Nat.le_refl _) (fun b hb=>?_) ((q8J _ es).map _) (fun B hB=>?_) (fun h'' k it=>⟨it,hS.keep fun o e=>k S o e⟩)
   ·simp only [List.mem_cons,List.not_mem_nil,or_false] at hb
    exact hb.elim (fun z=>.inr (.inl z)) .inl
   ·rw [List.length_map,Array.length_toList,q8K]
    exact w96 hB hw hne
  | false =>
   have h1:es.size<=1:=by
    rw [hw] at z
    rcases hS.pl with y | y
    ·omega
    ·rw [y] at z;simpa using z
   refine fin (rawInt 0) [s.heap.objs.size,S] (es.toList.map (·.2)) (fun i h=>∃ k,SIt h s.heap.objs.size S (.int (k:Nat) 0) i es.size ep/\q0U w h S es ep t/\(i=0->k=0)/\(i=1->es.size=1->∃ j,t.place=#[j]/\k=j + 1)) s.heap s.drawn (fun _ _ e=>e) (Nat.le_refl _) (fun b hb=>?_) (.refl _) (fun B hB=>?_) (fun h'' k it=>⟨0,it,hS.keep fun o e=>k S o e,fun _=>rfl,fun y=>by cases y⟩)
   ·simp only [List.mem_cons,List.not_mem_nil,or_false] at hb
    exact hb.elim (fun z=>.inr (.inl z)) .inl
   ·rw [List.length_map,Array.length_toList]
    exact x1f hB hw hne h1
end
end L2
end
section
namespace L2
open PySem PySem.Spec PyProof.Rows
section
variable {prog:Program}{w:World}{A:Around}{E:Value->Shared->Prop}{s:Shared}{S:Addr}{es:Array (Int×Value)}{ep:Nat}{t:SetTable}
theorem w5x {Q:List Value->Shared->Prop} (hh:A.handled=none) (hS:q0U w s.heap S es ep t)
  (h:∀ (ord:List Value) (h':Heap) (d:Drawn) (tk:Nat),ord.Perm (es.toList.map (·.2))->(∀ b o,s.heap.get? b=some o->h'.get? b=some o)->s.heap.objs.size<=h'.objs.size->Q ord { s with heap:=h',drawn:=d,toks:=tk }) :
  wpAny (model prog w) A (collect (.ref S)) Q E s:=by
 have hlt:=Heap.lt_size hS.at_
 unfold collect
 refine wpAny_bind (wpAny_runValue (codeAny_builtin F.entry_proto_collect ?_))
 rw [Around.under_plainId F.plain_proto_collect _]
 show wpAny _ A.in1 (newList [] >>= fun l=>again (.builtin "list.__iadd__" ⟨[l,.ref S],[]⟩)) _ _ s
 refine wpAny_bind (wpAny_newObj_type ?_)
 refine wpAny_pure ⟨plainId_quiet F.plain_list_iadd _,codeAny_builtin F.entry_list_iadd ?_⟩
 rw [Around.under_plainId F.plain_list_iadd _]
 let s1:Shared:={ s with heap:=s.heap.push { cls:=.type "list",data:=.seq ([] : List Value).toArray } }
 have sz1:s1.heap.objs.size=s.heap.objs.size + 1:=Heap.size_push ..
 have at1:s1.heap.get? s.heap.objs.size=some { cls:=.type "list",data:=.seq ([] : List Value).toArray }:=Heap.get?_push_size _ rfl
 have hS1:q0U w s1.heap S es ep t:=hS.keep fun o e=>Heap.get?_push_of_some _ e
 show wpAny _ A.in1 (Builtin.List.listExtendWith (.ref s.heap.objs.size) (.ref S) (.ref s.heap.objs.size)) _ _ s1
 have hT1:s1.TypeIs (.ref S) "set":=⟨_,hS1.at_,rfl⟩
 unfold Builtin.List.listExtendWith
 refine wpAny_bind (wpAny_typeOf hT1 ?_)
 have e1:Builtin.List.listSameRef (.ref s.heap.objs.size) (.ref S)=false:=by simp [Builtin.List.listSameRef,Nat.ne_of_gt hlt]
 have e2:(Value.type "set" == Value.type "list")=false:=by decide
 have e3:(Value.type "set" == Value.type "tuple")=false:=by decide
 simp only [e1,e2,e3,Bool.or_false,Bool.false_eq_true,if_false]
 refine wpAny_bind (w97 (A:=A.in1) (by simpa using hh) hS1 fun I fp ord St h' d hI hfp hfl pm W st kp tI=>?_)
 let s2:Shared:={ s1 with heap:=h',drawn:=d }
 have hS2:q0U w s2.heap S es ep t:=hS1.keep fun o e=>kp S o e
 have hT2:s2.TypeIs (.ref S) "set":=⟨_,hS2.at_,rfl⟩
 refine wpAny_bind (wpAny_holding ?_)
 unfold Builtin.List.listLengthHint
 refine wpAny_bind (wpAny_specialOf (s:=s2) hT2 F.slot_set_len.lookup ?_)
 dsimp only
 rw [show splitId "set.__len__"=some ("set","__len__") from by decide +kernel]
 dsimp only
 refine wpAny_bind (wpAny_isInstance (b:=true) (s:=s2) hT2 (by rw [isSubtype_type];kernel_rfl) ?_)
 rw [if_neg (by decide),if_pos (by decide)]
 refine wpAny_bind (wpAny_typeOf (s:=s2) hT2 (wpAny_pure ?_))
 rw [if_pos (by decide)]
 refine wpAny_bind (wpAny_rule ?_)
 have nS:s.heap.objs.size∉fp:=fun z=>by
  rcases hfp _ z with q | q
  ·exact absurd hlt (by rw [<- q];exact Nat.lt_irrefl _)
  ·rw [sz1] at q;exact absurd q (Nat.not_succ_le_self _)
 have at2:s2.heap.get? s.heap.objs.size=some { cls:=.type "list",data:=.seq ([] : List Value).toArray }:=kp _ _ at1
 refine wpAny_bind ?_
 show wpAny _ A.in1 (updateSeq s.heap.objs.size (·.push .none) >>= fun _=>updateSeq s.heap.objs.size (·.pop)) _ _ s2
 refine wpAny_bind (wpAny_updateSeq at2 rfl ?_)
 have at3:=Heap.get?_update_self (Obj.mapSeq (·.push Value.none)) at2 rfl
 refine wpAny_updateSeq at3 rfl ?_
 have at4:=Heap.get?_update_self (Obj.mapSeq (·.pop)) at3 rfl
 have oth:∀ b o,b≠s.heap.objs.size->s2.heap.get? b=some o->((s2.heap.update s.heap.objs.size (Obj.mapSeq (·.push Value.none))).update s.heap.objs.size (Obj.mapSeq (·.pop))).get? b=some o :=
  fun b o hb e=>(Heap.get?_update_other _ _ (Ne.symm hb)).trans ((Heap.get?_update_other _ _ (Ne.symm hb)).trans e)
 have zl:ord.length<=sizeLine:=by rw [pm.length_eq,List.length_map,Array.length_toList];exact fits_of_scanBound hS.few
 have W1:=W A.in1 (by simpa using hh)
 refine wpAny_pure ⟨plainId_quiet F.plain_extend_loop _,codeAny_extend_loopS (A:=A) W1.toS zl _ nS _ ord.length 0 { s2 with heap:=(s2.heap.update s.heap.objs.size (Obj.mapSeq (·.push Value.none))).update s.heap.objs.size (Obj.mapSeq (·.pop)) } _ _ rfl (Nat.zero_le _) (W1.frame 0 _ _ st fun b hb o e=>oth b o (fun z=>nS (z ▸ hb)) e) at4 (ItemsOf.nil _) fun s' acc' c' hm hS' hacc=>?_⟩
 show wpAny _ A (load s.heap.objs.size >>= _) _ _ s'
 refine wpAny_bind (wpAny_load hS' (wpAny_pure ?_))
 have hacc':acc'.toList=ord:=by
  apply List.ext_getElem?
  intro j
  rw [Array.getElem?_toList]
  by_cases hj:j<acc'.size
  ·have:=hacc.2 j acc'[j] (by simp [hj])
   rw [this];simp [hj]
  ·rw [getElem?_neg acc' j hj,List.getElem?_eq_none (by rw [<- hacc.1];omega)]
 rw [hacc']
 obtain ⟨h3,g3,d3,t3,o3⟩:=s'
 obtain rfl:g3=s.gens:=hm.gens
 obtain rfl:d3=d:=hm.drawn
 obtain rfl:o3=s.os:=hm.os
 have old:∀ b o,s.heap.get? b=some o->h3.get? b=some o:=fun b o e=>by
  have hb:=Heap.lt_size e
  refine hm.heap b o ?_ (oth b o (Nat.ne_of_lt hb) (kp b o (Heap.get?_push_of_some _ e)))
  simp only [List.mem_cons,List.not_mem_nil,or_false,not_or]
  exact ⟨Nat.ne_of_lt hb,Nat.ne_of_lt (Nat.lt_of_lt_of_le hb (by have q:=hI;rw [sz1] at q;exact Nat.le_of_succ_le q))⟩
 refine h ord h3 _ t3 pm old ?_
 have:=Heap.lt_size (show h3.get? s.heap.objs.size=some _ from hS')
 exact Nat.le_of_lt this
theorem w5y {x:Value}{Q:Value->Shared->Prop} (hc:wpAny (model prog w) A.in1 (collect x) (fun vs s1=>∃ ss,StrsAre vs ss/\vs.length<64 /\
   ∀ (h':Heap) (vs':List Value) (ss':List Str) (e:Nat),(∀ b o,s1.heap.get? b=some o->h'.get? b=some o)->h'.get? s1.heap.objs.size=some (seqObj "list" vs'.toArray e)->StrsAre vs' ss'->ss'.Perm ss->sortedS ss'=true ->
    Q (.ref s1.heap.objs.size) { s1 with heap:=h' }) E s):wpAny (model prog w) A (call (.builtin "sorted") [x]) Q E s:=by
 refine Calls.call_function_entry kind_sorted plain_sorted entry_sorted (args_sorted1 _) ?_
 unfold Builtin.«sorted»
 refine wpAny_bind (m:=checkCount "sorted" 1 1 _) (wpAny_pure ?_)
 refine wpAny_bind (wpAny_mono hc (fun vs s1 z=>?_) fun _ _ z=>z)
 obtain ⟨ss,hss,h64,hq⟩:=z
 refine wpAny_bind (wpAny_newList ?_)
 have at1:(s1.heap.push (seqObj "list" vs.toArray 0)).get? s1.heap.objs.size=some (seqObj "list" vs.toArray 0):=Heap.get?_push_size _ rfl
 show wpAny _ _ _ _ _ { s1 with heap:=s1.heap.push (seqObj "list" vs.toArray 0) }
 refine wpAny_bind (wpAny_holding (wpAny_call_entry slot_list_sort ⟨_,at1,rfl⟩ entry_list_sort (list_sort_treeK strKind_oneLt at1 hss.keysOf (fun v₁ v₂ q0I e=>keyKind_strs (by rw [<- e];exact hss)) h64 fun st' a1 a2=>⟨_,rfl,?_⟩) (args_list_sort _)))
 obtain ⟨ss',p1,p2,p3⟩:=sorted_out_str hss a1 a2
 obtain ⟨e,at2⟩:=sortedHeap_at (out:=(arrOf st').map (·.2)) at1
 refine wpAny_pure ⟨_,rfl,hq _ _ ss' e (fun b o q=>?_) at2 p1 p2 p3⟩
 have hb:=Heap.lt_size q
 rw [sortedHeap_old (Nat.ne_of_lt hb) (by rw [Heap.size_push];exact Nat.lt_succ_of_lt hb)]
 exact Heap.get?_push_of_some _ q
end
end L2
end
section
namespace L2
open PySem PySem.Spec PyProof.Rows
def ltS (x y:Str):Bool:=decide (x.cps.toList<y.cps.toList)
def x6v (x:Str):List Str->List Str
 | []=>[x]
 | y::r=>if ltS y x then y::x6v x r else x::y::r
def q43:List Str->List Str
 | []=>[]
 | x::r=>x6v x (q43 r)
theorem q8L (x:Str):∀ l,(x6v x l).Perm (x::l)
 | []=>.refl _
 | y::r=>by
  rw [x6v]
  split
  ·exact ((q8L x r).cons y).trans (.swap ..)
  ·exact .refl _
theorem q1A:∀ l,(q43 l).Perm l
 | []=>.refl _
 | x::r=>(q8L x _).trans ((q1A r).cons x)
theorem q6M (x:Str):ltS x x=false:=decide_eq_false (List.lt_irrefl _)
theorem q65 {x y z:Str} (h1:ltS x y=true) (h2:ltS y z=true):ltS x z=true :=
 decide_eq_true (List.lt_trans (of_decide_eq_true h1) (of_decide_eq_true h2))
theorem w1s {x y:Str} (h1:ltS x y=false) (h2:ltS y x=false):x=y:=by
 have h1:¬ x.cps.toList<y.cps.toList:=of_decide_eq_false h1
 have h2:¬ y.cps.toList<x.cps.toList:=of_decide_eq_false h2
 have:x.cps.toList=y.cps.toList:=List.le_antisymm (List.not_lt.mp h2) (List.not_lt.mp h1)
 cases x;cases y
 exact congrArg Str.mk (Array.toList_inj.mp this)
abbrev UpS (l:List Str):Prop:=l.Pairwise fun a b=>ltS b a=false
theorem x4W (x:Str):∀ l,UpS l->UpS (x6v x l)
 | [],_=>by simp [x6v,UpS]
 | y::r,h=>by
  obtain ⟨h1,h2⟩:=List.pairwise_cons.mp h
  rw [x6v]
  split
  ·rename_i hy
   refine List.pairwise_cons.mpr ⟨fun z hz=>?_,x4W x r h2⟩
   rcases List.mem_cons.mp ((q8L x r).mem_iff.mp hz) with e | e
   ·subst e
    cases q:ltS z y with
    | false=>rfl
    | true=>exact absurd (q65 q hy) (by rw [q6M];decide)
   ·exact h1 z e
  ·rename_i hy
   have hy:ltS y x=false:=by simpa using hy
   refine List.pairwise_cons.mpr ⟨fun z hz=>?_,h⟩
   rcases List.mem_cons.mp hz with e | e
   ·subst e;exact hy
   ·cases q:ltS z x with
    | false=>rfl
    | true =>
     have hzy:=h1 z e
     cases q2:ltS x y with
     | true=>rw [q65 q q2] at hzy;cases hzy
     | false=>rw [<- w1s hy q2,hzy] at q;cases q
theorem q66:∀ l,UpS (q43 l)
 | []=>.nil
 | x::r=>x4W x _ (q66 r)
theorem q7G:∀ (p:Str) (l:List Str),risingS p l=true->UpS (p::l)
 | p,[],_=>by simp [UpS]
 | p,x::r,h=>by
  rw [risingS,Bool.and_eq_true] at h
  obtain ⟨h1,h2⟩:=h
  have h1:ltS x p=false:=by
   rw [ltCps_eq] at h1
   simpa [ltS] using h1
  have ih:=q7G x r h2
  refine List.pairwise_cons.mpr ⟨fun z hz=>?_,ih⟩
  rcases List.mem_cons.mp hz with e | e
  ·rw [e];exact h1
  ·have hzx:=(List.pairwise_cons.mp ih).1 z e
   cases q:ltS z p with
   | false=>rfl
   | true =>
    cases q2:ltS p x with
    | true=>rw [q65 q q2] at hzx;cases hzx
    | false=>rw [w1s q2 h1,hzx] at q;cases q
theorem w3t:∀ (l:List Str),sortedS l=true->UpS l
 | [],_=>.nil
 | x::r,h=>q7G x r h
theorem w3u:∀ {l l':List Str},l.Perm l'->UpS l->UpS l'->l=l'
 | [],l',p,_,_=>by rw [List.nil_perm.mp p]
 | x::r,[],p,_,_=>by have:=p.length_eq;simp at this
 | x::r,y::r',p,h,h'=>by
  obtain ⟨a1,a2⟩:=List.pairwise_cons.mp h
  obtain ⟨b1,b2⟩:=List.pairwise_cons.mp h'
  have e:x=y:=by
   have hx:x∈y::r':=p.mem_iff.mp List.mem_cons_self
   have hy:y∈x::r:=p.mem_iff.mpr List.mem_cons_self
   rcases List.mem_cons.mp hx with e | e
   ·exact e
   ·rcases List.mem_cons.mp hy with e' | e'
    ·exact e'.symm
    ·exact w1s (b1 x e) (a1 y e')
  subst e
  rw [w3u (List.Perm.cons_inv p) a2 b2]
theorem w82 {l l':List Str} (p:l'.Perm l) (h:sortedS l'=true):l'=q43 l:=w3u (p.trans (q1A l).symm) (w3t _ h) (q66 l)
theorem q8M {l:List Str} (h:UpS l) (nd:l.Nodup):l.Pairwise fun a b=>ltS a b=true:=by
 induction l with
 | nil=>exact .nil
 | cons x r ih =>
  obtain ⟨a1,a2⟩:=List.pairwise_cons.mp h
  obtain ⟨n1,n2⟩:=List.nodup_cons.mp nd
  refine List.pairwise_cons.mpr ⟨fun y hy=>?_,ih a2 n2⟩
  cases q:ltS x y with
  | true=>rfl
  | false=>exact absurd (w1s q (a1 y hy) ▸ hy) n1
theorem q3v:∀ {ss:List Str}{us:List Value},q28 (ss.map V.str) us->StrsAre us ss
 | [],_,.nil=>.nil
 | x::r,_,.cons h t=>by obtain ⟨tk,rfl⟩:=h;exact .cons x tk (q3v t)
theorem q4B:∀ {ss:List Str}{us:List Value},StrsAre us ss->q28 (ss.map V.str) us
 | _,_,.nil=>.nil
 | _,_,.cons x t h=>.cons ⟨t,rfl⟩ (q4B h)
theorem q18:∀ {ss:List Str}{us:List Value},StrsAre us ss->us.length=ss.length
 | _,_,.nil=>rfl
 | _,_,.cons x t h=>by simp [q18 h]
theorem w0I {ss:List Str}{us:List Value} (h:StrsAre us ss) (i:Nat) (v:Value) (e:us[i]?=some v):∃ x t,ss[i]?=some x/\v=Value.str x t:=by
 induction h generalizing i with
 | nil=>simp at e
 | cons y t _ ih =>
  cases i with
  | zero=>simp at e;exact ⟨y,t,by simp,e.symm⟩
  | succ i=>simp at e;simpa using ih i e
theorem q7H {w:World}:∀ {l:List (Int×Value)},(∀ e∈l,q8I w e)->StrsAre (l.map (·.2)) (l.map q6F)
 | [],_=>.nil
 | e::r,h=>by
  obtain ⟨x,tk,rfl⟩:=h e List.mem_cons_self
  exact .cons x tk (q7H fun e he=>h e (List.mem_cons_of_mem _ he))
theorem w3v {us us':List Value}{ss:List Str} (h:StrsAre us ss) (p:us'.Perm us):∃ ss',StrsAre us' ss'/\ss'.Perm ss:=by
 refine ⟨us'.map strOf,strsAre_map _ fun v hv=>h.all v (p.mem_iff.mp hv),?_⟩
 rw [<- h.strs]
 exact p.map _
def SetO (w:World) (a:Addr) (ss:List Str):HO:=.ext fun h=>q80 w h a ss
theorem w5z {P:Program}{w:World}{H:Hp}{h:Heap}{a:Addr}{ss:List Str} (x:q80 w h a ss):q1d P w H h a (SetO w a ss) :=
 ⟨x,let ⟨_,_,_,I,_⟩:=x;⟨_,I.at_⟩,fun _ _ y k=>y.keep k⟩
section
variable {X:Cx}
theorem w5A (hc:X.calm=true):q4y X (.type "set") (fun xs H Q=>∃ p ss,xs=[.ref p]/\(SqL X.K H p (ss.map V.str)\/SqT X.K H p (ss.map V.str))/\ss.length + 1<scanBound/\∀ a,H a=none->Q (.ref a) (upd H a (SetO X.w a (q12 [] ss)))):=by
 intro pins s σ H xs us Q I r h
 obtain ⟨p,ss,rfl,hq,hz,q⟩:=h
 obtain ⟨u,rfl,rx⟩:=q4A r
 cases rx
 have hh:=I.ok.hd hc
 have fin:∀ (h':Heap) (tk:Nat),q80 X.w h' s.heap.objs.size (q12 [] ss)->(∀ b o,s.heap.get? b=some o->h'.get? b=some o)->EP X pins σ Q (.ref s.heap.objs.size) { s with heap:=h',toks:=tk }:=fun h' tk hS kp =>
  ⟨.ref s.heap.objs.size,_,I.laid (t':=tk) kp (Nat.le_refl _) (w5z hS),rfl,q _ (I.hok.fresh (Nat.le_refl _))⟩
 rcases hq with hq | hq
 ·obtain ⟨its,r',⟨o,n,ho,h1,h2,h3⟩,_⟩:=I.list hq
  have sa:=q3v r'
  exact q7D (x3z (by simpa using hh) h1 ⟨n,h3⟩) ho (fun i v e=>w0I sa i v (by simpa using e)) (by simp [q18 sa]) (by simp [q18 sa];exact hz) fin
 ·obtain ⟨its,r',⟨o,ho,h1,n,h3⟩,_⟩:=I.tuple hq
  have sa:=q3v r'
  exact q7D (x6u (by simpa using hh) h1 ⟨n,h3⟩) ho (fun i v e=>w0I sa i v (by simpa using e)) (by simp [q18 sa]) (by simp [q18 sa];exact hz) fin
theorem q81:q4y X (.builtin "sorted") (fun xs H Q=>∃ p ss,xs=[.ref p]/\SqL X.K H p (ss.map V.str)/\ss.length<64/\∀ l,H l=none->Q (.ref l) (upd H l (.lst ((q43 ss).map V.str)))):=by
 intro pins s σ H xs us Q I r h
 obtain ⟨p,ss,rfl,hq,hz,q⟩:=h
 obtain ⟨u,rfl,rx⟩:=q4A r
 cases rx
 obtain ⟨its,r',pl,hl⟩:=I.list hq
 have sa:=q3v r'
 refine sorted_strs pl.isList sa (by rw [q18 sa];exact hz) fun out ss' a1 a2 a3=>?_
 obtain ⟨e,he⟩:=sortedAll_at s.heap its out
 have kp:∀ b o,s.heap.get? b=some o->(sortedAll s.heap its out).get? b=some o:=fun b o=>sortedAll_old
 obtain rfl:=w82 a2 a3
 refine ⟨.ref (s.heap.objs.size + 1),upd H (s.heap.objs.size + 1) (.lst ((q43 ss).map V.str)),I.laid (t':=s.toks) kp (Nat.le_succ _) (show q1d X.prog X.w _ _ _ (.lst _) from ⟨?_,out.toList,e,q4B a1,by simpa [seqObj] using he⟩),rfl,q _ (I.hok.fresh (Nat.le_succ _))⟩
 rw [List.length_map,(q1A ss).length_eq]
 have:=hl
 rw [List.length_map] at this
 exact this
theorem q8N (hc:X.calm=true):q4y X (.builtin "sorted") (fun xs H Q=>∃ p ss,xs=[.ref p]/\H p=some (SetO X.w p ss)/\ss.length<64/\∀ l,H l=none->Q (.ref l) (upd H l (.lst ((q43 ss).map V.str)))):=by
 intro pins s σ H xs us Q I r h
 obtain ⟨p,ss,rfl,hq,hz,q⟩:=h
 obtain ⟨u,rfl,rx⟩:=q4A r
 cases rx
 have hh:=I.ok.hd hc
 obtain ⟨⟨es,ep,t,S,pm⟩,_⟩:=(show q1d X.prog X.w H s.heap p (SetO X.w p ss) from I.hok p _ hq)
 refine w5y (w5x (by simpa using hh) S fun ord h' d tk po kp sz=>?_)
 obtain ⟨ss1,sa,p1⟩:=w3v (q7H S.txt) po
 have ln:ss1.length=ss.length:=(p1.trans pm).length_eq
 refine ⟨ss1,sa,by rw [q18 sa,ln];exact hz,fun h2 vs' ss' e kp2 at2 sa2 p2 s2=>?_⟩
 have kk:∀ b o,s.heap.get? b=some o->h2.get? b=some o:=fun b o e=>kp2 b o (kp b o e)
 have es':ss'=q43 ss:=w82 (p2.trans (p1.trans pm)) s2
 subst es'
 have fr:=I.hok.fresh sz
 have ok2:q1d X.prog X.w (upd H h'.objs.size (.lst ((q43 ss).map V.str))) h2 h'.objs.size (.lst ((q43 ss).map V.str)) :=
  ⟨by rw [List.length_map,(q1A ss).length_eq];exact Nat.le_trans (Nat.le_of_lt hz) (by rw [sizeLine_eq];decide),vs',e,q4B sa2,at2⟩
 exact ⟨.ref h'.objs.size,_,I.call' (s':={ s with heap:=h2,drawn:=d,toks:=tk }) (ch:=[]) rfl (Un.laid kk sz fr) (I.hok.laid kk sz ok2) I.bare (fun b z=>absurd z (by simp)),rfl,q _ fr⟩
end
end L2
end
section
namespace L2
open PySem PySem.Spec PyProof.Rows
section
variable {X:Cx}
theorem q8O {prog:Program}{w:World}{B:Around}{bs:List Bool}{its:List Value} (r:q28 (bs.map V.bl) its):TruthOf prog w B (fun i v=>its.toArray[i]?=some v) (fun i=>bs.getD i false):=by
 intro i v s Q E hv hq
 have hv:its[i]?=some v:=by simpa using hv
 have hl:=r.length
 rw [List.length_map] at hl
 obtain ⟨hi,_⟩:=List.getElem?_eq_some_iff.mp hv
 have hb:bs[i]?=some bs[i]:=List.getElem?_eq_getElem (by omega)
 obtain ⟨u,hu,ru⟩:=r.get (i:=i) (x:=.bl bs[i]) (by rw [List.getElem?_map,hb];rfl)
 rw [hv] at hu;cases hu
 cases ru
 have hq:Q (bs.getD i false) s:=hq
 rw [List.getD_eq_getElem?_getD,hb] at hq
 exact wpAny_truthy_bool hq
theorem x3C (bs:List Bool):(List.range bs.length).all (fun i=>bs.getD i false)=bs.all id:=by
 rw [Bool.eq_iff_iff,List.all_eq_true,List.all_eq_true]
 constructor
 ·intro h b hb
  obtain ⟨i,hi,rfl⟩:=List.getElem_of_mem hb
  have:=h i (List.mem_range.mpr hi)
  simpa [List.getD_eq_getElem?_getD,hi] using this
 ·intro h i hi
  have hi:=List.mem_range.mp hi
  have:=h bs[i] (List.getElem_mem hi)
  simpa [List.getD_eq_getElem?_getD,hi] using this
theorem x3D (bs:List Bool):(List.range bs.length).any (fun i=>bs.getD i false)=bs.any id:=by
 rw [Bool.eq_iff_iff,List.any_eq_true,List.any_eq_true]
 constructor
 ·rintro ⟨i,hi,h⟩
  have hi:=List.mem_range.mp hi
  exact ⟨bs[i],List.getElem_mem hi,by simpa [List.getD_eq_getElem?_getD,hi] using h⟩
 ·rintro ⟨b,hb,h⟩
  obtain ⟨i,hi,rfl⟩:=List.getElem_of_mem hb
  exact ⟨i,List.mem_range.mpr hi,by simpa [List.getD_eq_getElem?_getD,hi] using h⟩
theorem q9Z (hc:X.calm=true):q4y X (.builtin "all") (fun xs H Q=>∃ p,∃ bs:List Bool,xs=[.ref p]/\SqL X.K H p (bs.map V.bl)/\Q (.bl (bs.all id)) H):=by
 intro pins s σ H xs us Q I r h
 obtain ⟨p,bs,rfl,hq,q⟩:=h
 obtain ⟨u,rfl,rx⟩:=q4A r
 cases rx
 obtain ⟨its,r',pl,hl⟩:=I.list hq
 have ln:its.toArray.size=bs.length:=by have:=r'.length;simp at this ⊢;omega
 obtain ⟨o,ho,hk⟩:=pl.isList
 refine call_all_walk (wpAny_pyIter_list pl.isList ⟨_,_,_,_,_,_,_,rfl,Walks.list (by simpa using I.ok.hd hc) _ p (Nat.ne_of_lt (Heap.lt_size ho)) its.toArray,⟨⟨_,Heap.get?_push_size _ rfl,rfl,rfl⟩,pl.isList.push _⟩,q8O r',fun h' tk kp=>?_⟩)
 rw [ln,x3C]
 refine ⟨.bl _,H,I.kept (t':=tk) fun b o e=>kp b o ?_ (Heap.get?_push_of_some _ e),rfl,q⟩
 simp only [List.mem_singleton]
 exact Nat.ne_of_lt (Heap.lt_size e)
theorem w00 (hc:X.calm=true):q4y X (.builtin "any") (fun xs H Q=>∃ p,∃ bs:List Bool,xs=[.ref p]/\SqL X.K H p (bs.map V.bl)/\Q (.bl (bs.any id)) H):=by
 intro pins s σ H xs us Q I r h
 obtain ⟨p,bs,rfl,hq,q⟩:=h
 obtain ⟨u,rfl,rx⟩:=q4A r
 cases rx
 obtain ⟨its,r',pl,hl⟩:=I.list hq
 have ln:its.toArray.size=bs.length:=by have:=r'.length;simp at this ⊢;omega
 obtain ⟨o,ho,hk⟩:=pl.isList
 refine call_any_walk (wpAny_pyIter_list pl.isList ⟨_,_,_,_,_,_,_,rfl,Walks.list (by simpa using I.ok.hd hc) _ p (Nat.ne_of_lt (Heap.lt_size ho)) its.toArray,⟨⟨_,Heap.get?_push_size _ rfl,rfl,rfl⟩,pl.isList.push _⟩,q8O r',fun h' tk kp=>?_⟩)
 rw [ln,x3D]
 refine ⟨.bl _,H,I.kept (t':=tk) fun b o e=>kp b o ?_ (Heap.get?_push_of_some _ e),rfl,q⟩
 simp only [List.mem_singleton]
 exact Nat.ne_of_lt (Heap.lt_size e)
theorem x1g:OpR X (compareOp .LtE) (fun x y H Q=>∃ i j,x=.str i/\y=.str j/\Q (.bl (!decide (j.cps.toList<i.cps.toList))) H):=by
 intro pins s σ H x y v u Q I rx ry h
 obtain ⟨i,j,rfl,rfl,q⟩:=h
 obtain ⟨t,rfl⟩:=rx
 obtain ⟨t',rfl⟩:=ry
 exact PySem.P.le_str (w7S I q rfl)
end
end L2
end
section
namespace L2
open PySem PySem.Spec PyProof.Rows
def Its (x:Str):It:=⟨fun i _=>i<x.cps.size,fun i H v H'=>H'=H/\∃ c,x.cps[i]?=some c/\v=.str ⟨#[c]⟩,fun i _=>x.cps.size<=i⟩
theorem x3E {P:Program}{w:World}{K:PySem.W.Frag}{tg:Expr} (x:Str) (t:Tok) (it:Addr):x0Q P w K tg (Its x) [it] it (fun i h=>h.IsStrIter it (strIterType x) x t i) where
 mem:=by simp
 obj:=fun i h st b hb=>by
  obtain rfl:b=it:=by simpa using hb
  obtain ⟨o,e,c,d⟩:=st
  exact ⟨o,e,fun v z=>by rw [d] at z;cases z⟩
 keep:=fun i h h' st k=>let ⟨o,e,r⟩:=st;⟨o,k it (by simp) o e,r⟩
 item:=by
  intro X hP hw hK hc i pins s σ H E I hf st hg
  subst hP hw hK
  have hg:i<x.cps.size:=hg
  obtain ⟨f0,f1,f2,f3,f4,f5⟩:=hf it (by simp)
  have hx:x.cps[i]?=some x.cps[i]:=getElem?_pos _ i hg
  have go:∀ (h':Heap) (tk tk':Nat),h'.IsStrIter it (strIterType x) x t (i + 1)->Heap.SameBut it s.heap h'->∃ u,some (Value.str ⟨#[x.cps[i]]⟩ tk)=some u /\
    wpAny (model X.prog X.w) X.A (letOwnedTupleGo tg (.ref it) u) (fun _ s2=>∃ v H',Inv X pins σ H' s2/\q1Z v u/\(Its x).yld i H v H'/\s2.heap.IsStrIter it (strIterType x) x t (i + 1)/\∀ b∈[it],H' b=none) E { s with heap:=h',toks:=tk' }:=fun h' tk tk' st' sb=>by
   have I1:Inv X pins σ H { s with heap:=h',toks:=tk' }:=I.turned (fun b o hb e=>(sb.2 b hb).trans e) f0 f1 f3 f4 f5
   refine ⟨_,rfl,?_⟩
   have q:∃ v H',Inv X pins σ H' { s with heap:=h',toks:=tk' }/\q1Z v (Value.str ⟨#[x.cps[i]]⟩ tk)/\(Its x).yld i H v H'/\h'.IsStrIter it (strIterType x) x t (i + 1)/\∀ b∈[it],H' b=none :=
    ⟨.str ⟨#[x.cps[i]]⟩,H,I1,⟨tk,rfl⟩,⟨rfl,_,hx,rfl⟩,st',fun b hb=>(hf b hb).1⟩
   unfold letOwnedTupleGo
   cases tg<;>exact wpAny_pure q
  cases ha:x.cps.all (·<128)
  ·have ty:strIterType x="str_iterator":=by unfold strIterType;rw [ha];rfl
   rw [ty] at st
   exact wpAny_pyNext_wide_item st hx fun h' st' sb=>go h' _ _ (by rw [ty];exact st') sb
  ·have ty:strIterType x="str_ascii_iterator":=by unfold strIterType;rw [ha];rfl
   rw [ty] at st
   exact wpAny_pyNext_ascii_item st hx fun h' st' sb=>go h' _ _ (by rw [ty];exact st') sb
 done:=by
  intro X hP hw hK hc i pins s σ H E I hf st hg
  subst hP hw hK
  have hg:x.cps.size<=i:=hg
  obtain ⟨f0,f1,f2,f3,f4,f5⟩:=hf it (by simp)
  have hx:x.cps[i]?=none:=getElem?_neg _ i (Nat.not_lt.mpr hg)
  unfold strIterType at st
  cases ha:x.cps.all (·<128)
  ·rw [ha] at st
   exact wpAny_pyNext_wide_end (I.ok.hd hc) st hx fun h' eb=>⟨rfl,I.turned (t':=s.toks) (fun b o hb e=>eb b o hb e) f0 f1 f3 f4 f5⟩
  ·rw [ha] at st
   exact wpAny_pyNext_ascii_end (I.ok.hd hc) st hx fun h' eb=>⟨rfl,I.turned (t':=s.toks) (fun b o hb e=>eb b o hb e) f0 f1 f3 f4 f5⟩
 self:=fun _ _ _ _ _ st h=>by
  unfold strIterType at st
  cases ha:x.cps.all (·<128)
  ·rw [ha] at st;exact wpAny_pyIter_striter_wide st h
  ·rw [ha] at st;exact wpAny_pyIter_striter_ascii st h
def y1M (tl:TE):TI:=fun σ H R=>tl σ H fun v H1=>∃ x,v=.str x/\R (Its x) H1
theorem x4X {X:Cx}{tg l:Expr}{tl:TE} (hl:PE X l tl):PI X tg l (y1M tl):=by
 intro pins s σ H R I h
 refine thn (hl pins s σ H _ I h) fun v s1 h_0=>?_
 obtain ⟨y,H1,I1,r1,q1⟩:=h_0
 obtain ⟨x,rfl,q⟩:=q1
 obtain ⟨t,rfl⟩:=r1
 refine wpAny_pyIter_strU ?_
 refine ⟨s1.heap.objs.size,[s1.heap.objs.size],_,_,H1,rfl,I1.kept (t':=s1.toks) fun b o e=>Heap.get?_push_of_some _ e,x3E x t _,⟨_,Heap.get?_push_size _ rfl,rfl,rfl⟩,fun b hb=>?_,q⟩
 obtain rfl:b=s1.heap.objs.size:=by simpa using hb
 exact I1.fpOk (Nat.le_refl _) (I1.hok.fresh (Nat.le_refl _))
end L2
end
section
namespace L2
open PySem PySem.Spec PyProof.Rows
section
variable {X:Cx}{pins:List (Addr×Obj)}{σ:St}{H H':Hp}{s:Shared}{h':Heap}
theorem Inv.turnedL {t':Nat}{ch:List Addr} (I:Inv X pins σ H s) (k:∀ b o,b∉ch->s.heap.get? b=some o->h'.get? b=some o) (hf:∀ b∈ch,w3c X pins H b):Inv X pins σ H { s with heap:=h',toks:=t' }:=by
 have nt:∀ b u,H b=some u->b∉ch:=fun b u e z=>by rw [(hf b z).1] at e;cases e
 refine I.step (g':=s.gens) (d':=s.drawn) (ch:=ch) (fun b hb=>?_) (fun b o _ _ hc e _=>k b o hc e) (fun b o _ _ hc e _=>⟨o.slots,k b o hc e⟩) (fun _ _ _ _ n=>n)
  (fun b o hc e=>⟨o,k b o hc e⟩) (fun _ _ e=>e) (fun _ _ _ e=>e) (fun b ps e=>⟨#[],by rw [e];simp⟩) (fun m hm=>?_) (fun b u e=>?_) I.bare
 ·obtain ⟨f0,f1,f2,f3,f4,f5⟩:=hf b hb
  exact ⟨f3,f1,f4,f5⟩
 ·obtain ⟨o,es,ep,ho,r⟩:=hm
  exact ⟨o,es,ep,k _ o (fun z=>(hf _ z).f1 rfl) ho,r⟩
 ·refine (I.hok b u e).stay (fun c v hc q=>k c v ?_ q) (fun _ q=>q) fun _ _ q=>q
  rcases hc with z | z
  ·rw [z];exact nt b u e
  ·exact nt c _ z
theorem Inv.track {D:Addr}{ho:HO} (I:Inv X pins σ H s) (hf:w3c X pins H D) (new:q1d X.prog X.w (upd H D ho) s.heap D ho):Inv X pins σ (upd H D ho) s:=by
 obtain ⟨f0,f1,f2,f3,f4,f5⟩:=hf
 have I':Inv X pins σ (upd H D ho) { s with heap:=s.heap,gens:=s.gens,drawn:=s.drawn,toks:=s.toks }:=I.step (ch:=[D]) (fun b hb=>by
   obtain rfl:b=D:=by simpa using hb
   exact ⟨f3,f1,f4,f5⟩) (fun b o _ _ _ e _=>e) (fun b o _ _ _ e _=>⟨o.slots,e⟩) (fun b o hc e n=>by rw [q0j (fun z=>hc (by simp [z]))];exact n) (fun b o _ e=>⟨o,e⟩)
  (fun b xs e=>by rw [q0j (q0o e f0)];exact e) (fun b o xs e=>by rw [q0j (q0o e f0)];exact e) (fun b ps e=>⟨#[],by rw [q0j (q0o e f0),e];simp⟩) (fun m hm=>hm) (q8H I.hok f0 new) I.bare
 exact I'
end
section
variable {prog:Program}{w:World}{A:Around}{E:Value->Shared->Prop}{s:Shared}{it l:Addr}{i:Nat}{items:Array Value}
theorem q8k {x:Value}{Q:Value->Shared->Prop} (ti:s.heap.IsTupleIter it l i) (tl:s.heap.IsTuple l items) (hx:items[i]?=some x)
  (q:∀ h',h'.IsTupleIter it l (i + 1)->Heap.SameBut it s.heap h'->Q x { s with heap:=h' }):wpAny (model prog w) A (Builtin.SmallTypes.nextOf (.ref it)) Q E s:=by
 obtain ⟨oi,ei,ci,di⟩:=id ti
 obtain ⟨ot,et,_,nt,dt⟩:=tl
 unfold Builtin.SmallTypes.nextOf
 refine wpAny_bind (wpAny_callSpecial?_slot (name:=Str.ofString "__next__") ti.typeIs F.slot_tuple_iterator_next ?_)
 refine wpAny_call_entry F.slot_tuple_iterator_next ti.typeIs F.entry_tuple_iterator_next ?_ (F.args_tuple_iterator_next_1 _)
 show wpAny _ _ (field (.ref it) 0 >>= _) _ _ s
 refine wpAny_bind (wpAny_field ei di (x:=.ref l) rfl ?_)
 show wpAny _ _ (if (Value.ref l == Value.none)=true then _ else _) _ _ s
 rw [if_neg (fun z:(Value.ref l == Value.none)=true=>Bool.false_ne_true z)]
 show wpAny _ _ (field (.ref it) 1 >>= _) _ _ s
 refine wpAny_bind (wpAny_field ei di (x:=.int i 0) rfl ?_)
 show wpAny _ _ (seqItems? (.ref l) >>= _) _ _ s
 refine wpAny_bind (wpAny_seqItems et dt ?_)
 simp only [Int.toNat_natCast,hx]
 refine wpAny_bind (wpAny_setField ei di (by simp) (wpAny_pure ⟨x,rfl,wpAny_pure (q _ ?_ (Heap.SameBut.update ..))⟩))
 refine ⟨_,Heap.get?_update_self _ ei (Obj.isFreed_of_fields (Obj.data_mapFields di _)),(Obj.cls_mapFields ..).trans ci,?_⟩
 rw [Obj.data_mapFields di];simp [rawInt]
theorem q8l {Q:Value->Shared->Prop} (hh:A.handled=none) (ti:s.heap.IsTupleIter it l i) (tl:s.heap.IsTuple l items) (hx:items[i]?=none)
  (q:∀ h' e,Heap.ExtBut it s.heap h'->(∃ o,h'.get? e=some o/\o.cls=.type "StopIteration")->E (.ref e) { s with heap:=h' }):wpAny (model prog w) A (Builtin.SmallTypes.nextOf (.ref it)) Q E s:=by
 obtain ⟨oi,ei,ci,di⟩:=id ti
 obtain ⟨ot,et,_,nt,dt⟩:=tl
 unfold Builtin.SmallTypes.nextOf
 refine wpAny_bind (wpAny_callSpecial?_slot (name:=Str.ofString "__next__") ti.typeIs F.slot_tuple_iterator_next ?_)
 refine wpAny_call_entry F.slot_tuple_iterator_next ti.typeIs F.entry_tuple_iterator_next ?_ (F.args_tuple_iterator_next_1 _)
 show wpAny _ _ (field (.ref it) 0 >>= _) _ _ s
 refine wpAny_bind (wpAny_field ei di (x:=.ref l) rfl ?_)
 show wpAny _ _ (if (Value.ref l == Value.none)=true then _ else _) _ _ s
 rw [if_neg (fun z:(Value.ref l == Value.none)=true=>Bool.false_ne_true z)]
 show wpAny _ _ (field (.ref it) 1 >>= _) _ _ s
 refine wpAny_bind (wpAny_field ei di (x:=.int i 0) rfl ?_)
 show wpAny _ _ (seqItems? (.ref l) >>= _) _ _ s
 refine wpAny_bind (wpAny_seqItems et dt ?_)
 simp only [Int.toNat_natCast,hx]
 refine wpAny_bind (wpAny_rule (wpAny_bind (wpAny_setField ei di (by simp) ?_)))
 show wpAny _ _ (newExc (.type "StopIteration") [] >>= _) _ _ _
 refine wpAny_bind ?_
 simp only [newExc,newTuple]
 refine wpAny_bind (wpAny_newObj_type ?_ (by size_fits))
 refine wpAny_bind (m:=firstArgMember _ _) (wpAny_of_eq (a:=Value.none) ?_ ?_)
 ·first
   | rfl
   | (simp only [firstArgMember];rfl)
 refine wpAny_newObj_type ?_ (by size_fits)
 simp only [raiseNew]
 refine wpAny_bind (wpAny_handled ?_)
 rw [show A.in1.handled=none from hh]
 refine wpAny_bind (wpAny_pure (wpAny_throw ?_))
 exact q _ _ (((Heap.SameBut.update ..).extBut.push _).push _) ⟨_,Heap.get?_push_size _ rfl,rfl⟩
theorem x1h (hh:A.handled=none) (it l:Addr) (hne:l≠it) (items:Array Value) :
  Draws prog w A it [it,l] items.size (fun i v=>items[i]?=some v) (fun i h=>h.IsTupleIter it l i/\h.IsTuple l items) where
 live:=fun i h st=>let ⟨o,e,_⟩:=st.1;⟨o,e⟩
 frame:=fun i h h' st k=>⟨let ⟨o,e,r⟩:=st.1;⟨o,k it (by simp) o e,r⟩,let ⟨o,e,r⟩:=st.2;⟨o,k l (by simp) o e,r⟩⟩
 item:=fun i s Q E hi st q=>q8k st.1 st.2 (x:=items[i]) (by simp [hi]) fun h' t' sb=>q _ h' s.toks (by simp [hi]) ⟨t',st.2.extBut sb.extBut hne⟩ sb
 done:=fun s Q E st q=>q8l hh st.1 st.2 (by simp) q
end
theorem w01 (l:Addr) (items:Array Value) (n:Nat) (dct:Option Addr) (sl:Array (Option Value)) :
  Meets (Builtin.«enumerate.__new__» ⟨[.type "enumerate",.ref l],[]⟩) (fun _ R s=>s.heap.get? l=some { cls:=.type "tuple",dict:=dct,data:=.seq items n,slots:=sl } /\
   R (.ok (.ret (.ref (s.heap.push { cls:=.type "tuple_iterator",data:=.fields #[.ref l,.int 0 0] }).objs.size)))
    { s with heap:=(s.heap.push { cls:=.type "tuple_iterator",data:=.fields #[.ref l,.int 0 0] }).push { cls:=.type "enumerate",data:=.fields #[.none,.bool false,.ref s.heap.objs.size,rawInt 0,.none,.none] } }) :=
 .of_wp fun prog w A R s h=>by
  obtain ⟨hp,g,d,tk,os⟩:=s
  obtain ⟨hl,h⟩:=h
  have hsub:=PySem.sub_enumerate
  have hL:Heap.IsTuple (Shared.heap ⟨hp,g,d,tk,os⟩) l items:=⟨_,hl,rfl,n,rfl⟩
  wp_walk using PySem.AutoSeq1.wpAny_loadPart' hl
  refine wpAny_stack_any fun st=>wpAny_pure ?_
  split
  ·rename_i c _ _ _ _ _
   cases (c == Value.type "enumerate")
   ·wp_walk using PySem.AutoSeq1.wpAny_loadPart' hl,wpAny_pyIter_tuple hL
    exact ⟨_,rfl,h⟩
   ·wp_walk using PySem.AutoSeq1.wpAny_loadPart' hl,wpAny_pyIter_tuple hL
    exact ⟨_,rfl,h⟩
  ·wp_walk using PySem.AutoSeq1.wpAny_loadPart' hl,wpAny_pyIter_tuple hL
   exact ⟨_,rfl,h⟩
end L2
end
section
namespace L2
open PySem PySem.Spec PyProof.Rows
section
variable {prog:Program}{w:World}{A:Around}{E:Value->Shared->Prop}{s:Shared}
theorem w1t {l:Addr}{items:Array Value}{Q:Value->Shared->Prop} (hL:s.heap.IsTuple l items)
  (h:∀ h',IsEnum h' (s.heap.objs.size + 1) s.heap.objs.size 0 .none->h'.IsTupleIter s.heap.objs.size l 0->(∀ b o,s.heap.get? b=some o->h'.get? b=some o)->h'.objs.size=s.heap.objs.size + 2 ->
   Q (.ref (s.heap.objs.size + 1)) { s with heap:=h' }):wpAny (model prog w) A (call (.type "enumerate") [.ref l]) Q E s:=by
 obtain ⟨⟨c,dc,dt,sl⟩,hl,hc,n,hd⟩:=hL
 obtain rfl:c=.type "tuple":=hc
 obtain rfl:dt=.seq items n:=hd
 refine callType_new F.called_enumerate (by decide) (F.typeCall_enumerate_1 _) (F.newCall_enumerate_1 _) (fun obj=>F.args_object_init_2 obj _) F.entry_enumerate_new (w01 l items n dc sl) ⟨hl,?_⟩
 have z1:(s.heap.push { cls:=.type "tuple_iterator",data:=.fields #[.ref l,.int 0 0] }).objs.size=s.heap.objs.size + 1:=Heap.size_push ..
 show _/\_
 rw [z1]
 have he:IsEnum ((s.heap.push { cls:=.type "tuple_iterator",data:=.fields #[.ref l,.int 0 0] }).push { cls:=.type "enumerate",data:=.fields #[.none,.bool false,.ref s.heap.objs.size,rawInt 0,.none,.none] }) (s.heap.objs.size + 1) s.heap.objs.size 0 .none:=by
  have q:=Heap.get?_push_size (s.heap.push { cls:=.type "tuple_iterator",data:=.fields #[.ref l,.int 0 0] }) (o:={ cls:=.type "enumerate",data:=.fields #[.none,.bool false,.ref s.heap.objs.size,rawInt 0,.none,.none] }) rfl
  rw [z1] at q
  exact q
 exact ⟨⟨_,he,rfl⟩,h _ he ⟨_,Heap.get?_push_of_some _ (Heap.get?_push_size _ rfl),rfl,rfl⟩ (fun b o e=>Heap.get?_push_of_some _ (Heap.get?_push_of_some _ e)) (by rw [Heap.size_push,z1])⟩
end
def Ite (K:PySem.W.Frag) (a:Addr):It :=
 ⟨fun i H=>∃ xs x,SqT K H a xs/\xs[i]?=some x,fun i H v H'=>∃ p,H p=none/\v=.ref p/\∀ xs,SqT K H a xs->∃ x,xs[i]?=some x/\H'=upd H p (.tup [.int i,x]),fun i H=>∃ xs,SqT K H a xs/\xs.length<=i⟩
theorem x1i {P:Program}{w:World}{K:PySem.W.Frag}{elts:List Expr}{x1}{pos:Pos} (a e it:Addr) (hei:e≠it):x0Q P w K (.Tuple elts x1 pos) (Ite K a) [e,it] e (fun i h=>(∃ old,IsEnum h e it i old)/\h.IsTupleIter it a i) where
 mem:=by simp
 obj:=fun i h st b hb=>by
  simp only [List.mem_cons,List.not_mem_nil,or_false] at hb
  rcases hb with rfl | rfl
  ·obtain ⟨⟨old,q⟩,_⟩:=st
   exact ⟨_,q,fun v z=>by cases z⟩
  ·obtain ⟨_,o,q,_,d⟩:=st
   exact ⟨o,q,fun v z=>by rw [d] at z;cases z⟩
 keep:=fun i h h' st k=>⟨let ⟨old,q⟩:=st.1;⟨old,k e (by simp) _ q⟩,let ⟨o,q,r⟩:=st.2;⟨o,k it (by simp) o q,r⟩⟩
 item:=by
  intro X hP hw hK hc i pins s σ H E I hf st hg
  subst hP hw hK
  obtain ⟨xs,x,hq,hx⟩:=hg
  obtain ⟨its,rv,p,hz⟩:=I.tuple hq
  obtain ⟨u,hu,ru⟩:=rv.get hx
  obtain ⟨⟨old,he⟩,hit⟩:=st
  have hit0:=hit
  obtain ⟨oi,ei,_⟩:=hit0
  have hai:a≠it:=fun z=>by
   obtain ⟨o1,e1,c1,_⟩:=p
   obtain ⟨o2,e2,c2,_⟩:=hit
   rw [z,e2] at e1;cases e1;rw [c2] at c1;exact absurd (Value.type.inj c1) (by decide)
  have hae:a≠e:=fun z=>by
   obtain ⟨o1,e1,c1,_⟩:=p
   rw [z,he] at e1;cases e1;exact absurd (Value.type.inj (show Value.type "enumerate"=Value.type "tuple" from c1)) (by decide)
  have hlt:i<its.toArray.size:=by simp;exact (List.getElem?_eq_some_iff.mp hu).1
  have he0:=Heap.lt_size he
  refine wpAny_pyNext_enum_itemD (x1h (by simpa using I.ok.hd hc) it a hai its.toArray) he ⟨hit,p⟩ hlt hei (by simp [hei,Ne.symm hae]) ?_
  intro x' h1 tk hx' eo st1 tup sz k1
  have hx'':its[i]?=some x':=by simpa using hx'
  rw [hu] at hx'';cases hx''
  refine ⟨_,rfl,wpAny_letOwnedTupleGo_enum eo fun h2 e2 sb2=>?_⟩
  have szn:s.heap.objs.size≠e:=Nat.ne_of_gt he0
  have I2:Inv X pins σ H { s with heap:=h2,toks:=tk + 1 }:=I.turnedL (ch:=[e,it]) (fun b o hb q=>by
   simp only [List.mem_cons,List.not_mem_nil,or_false,not_or] at hb
   exact (sb2.2 b hb.1).trans (k1 b o hb.1 hb.2 q)) hf
  have fT:=I.fpOk (H':=H) (Nat.le_refl _) (I.hok.fresh (Nat.le_refl _))
  have tup2:h2.get? s.heap.objs.size=some { cls:=.type "tuple",data:=.seq #[.int i tk,u] }:=(sb2.2 _ szn).trans tup
  have I3:=I2.track (ho:=.tup [.int i,x]) fT ⟨by show 2<=sizeLine;decide,[.int i tk,u],.cons ⟨tk,rfl⟩ (.cons ru .nil),⟨_,tup2,rfl,0,rfl⟩⟩
  refine ⟨.ref s.heap.objs.size,_,I3,rfl,⟨_,fT.1,rfl,fun ys hy=>?_⟩,⟨⟨u,?_⟩,?_⟩,fun b hb=>?_⟩
  ·rw [I.tuple_inj hy hq];exact ⟨x,hx,rfl⟩
  ·have:(((i + 1:Nat):Int))=(i:Int) + 1:=by omega
   rw [this];exact e2
  ·obtain ⟨o,q,r⟩:=st1.1
   exact ⟨o,(sb2.2 it (Ne.symm hei)).trans q,r⟩
  ·rw [q0j]
   ·exact (hf b hb).1
   ·simp only [List.mem_cons,List.not_mem_nil,or_false] at hb
    rcases hb with z | z
    ·rw [z];exact Nat.ne_of_lt he0
    ·rw [z];exact Nat.ne_of_lt (Heap.lt_size ei)
 done:=by
  intro X hP hw hK hc i pins s σ H E I hf st hg
  subst hP hw hK
  obtain ⟨xs,hq,hx⟩:=hg
  obtain ⟨its,rv,p,hz⟩:=I.tuple hq
  obtain ⟨⟨old,he⟩,hit⟩:=st
  have hl:=rv.length
  have hT:s.TypeIs (.ref e) "enumerate":=⟨_,he,rfl⟩
  unfold pyNext
  refine wpAny_bind (wpAny_attempt (wpAny_callSpecial?_slot (name:=Str.ofString "__next__") hT F.slot_enumerate_next ?_))
  refine wpAny_call_entry F.slot_enumerate_next hT F.entry_enumerate_next ?_ (F.args_enumerate_next_1 _)
  show wpAny _ _ (field (.ref e) 2 >>= _) _ _ _
  refine wpAny_bind (wpAny_field he rfl (x:=.ref it) rfl ?_)
  refine wpAny_bind (q8l (by simpa using I.ok.hd hc) hit (show s.heap.IsTuple a its.toArray from p) (by simp;omega) fun h' z eb hz'=>?_)
  obtain ⟨o,ho,hcl⟩:=hz'
  refine wpAny_bind (wpAny_isInstance (T:="StopIteration") (b:=true) ⟨o,ho,hcl⟩ isSubtype_stop ?_)
  exact wpAny_pure ⟨rfl,I.turnedL (t':=s.toks) (ch:=[e,it]) (fun b o hb q=>eb b o (by
   simp only [List.mem_cons,List.not_mem_nil,or_false,not_or] at hb;exact hb.2) q) hf⟩
 self:=fun _ _ _ _ _ st h=>let ⟨⟨_,q⟩,_⟩:=st;wpAny_pyIter_enum q h
def y0e (K:PySem.W.Frag) (ta:TA):TI:=fun σ H R=>ta σ H fun vs H1=>∃ a xs,vs=[.ref a]/\SqT K H1 a xs/\R (Ite K a) H1
theorem x6w {X:Cx}{elts:List Expr}{x1}{tpos p pos:Pos}{a:Expr}{ta:TA} (hg:Gl X "enumerate") (hm:X.mg "enumerate"=none) (ha:PA X [a] ta) (hs:starEach [a] X.env=[(false,eval a X.env)]:=by rfl) :
  PI X (.Tuple elts x1 tpos) (.Call (.Name "enumerate" p) [a] [] pos) (y0e X.K ta):=by
 intro pins s σ H R I h
 refine Call_ (q7A I hg hm boot_enumerate (PyProof.Rows.callWith_type1 (thn (ha pos pins s σ H _ I h) fun us s1 ⟨vs,H1,I1,r1,q1⟩=>?_) hs rfl))
 obtain ⟨ad,xs,rfl,hq,q⟩:=q1
 obtain ⟨u,rfl,rx⟩:=q4A r1
 cases rx
 obtain ⟨its,rv,tp,hz⟩:=I1.tuple hq
 refine w1t (show s1.heap.IsTuple ad its.toArray from tp) fun h' e1 t1 kp sz=>?_
 refine wpAny_pyIter_enum e1 ?_
 have I2:Inv X pins σ H1 { s1 with heap:=h' }:=I1.kept (t':=s1.toks) kp
 refine ⟨s1.heap.objs.size + 1,[s1.heap.objs.size + 1,s1.heap.objs.size],_,_,H1,rfl,I2,x1i ad _ _ (Nat.ne_of_gt (Nat.lt_succ_self _)),⟨⟨.none,e1⟩,t1⟩,fun b hb=>?_,q⟩
 simp only [List.mem_cons,List.not_mem_nil,or_false] at hb
 rcases hb with z | z
 ·rw [z];exact I1.fpOk (Nat.le_succ _) (I1.hok.fresh (Nat.le_succ _))
 ·rw [z];exact I1.fpOk (Nat.le_refl _) (I1.hok.fresh (Nat.le_refl _))
end L2
end
section
namespace L2
open PySem PySem.Spec PyProof.Rows
section
variable {prog:Program}{w:World}{A:Around}{E:Value->Shared->Prop}{s:Shared}{z TI TO i1 i2 l1 l2:Addr}{k1 k2:Nat}{xs ys:Array Value}{x y a b:Value}
theorem q3f {h h':Heap}{it l:Addr}{k:Nat}{c:Addr} (t:h.IsTupleIter it l k) (sb:Heap.SameBut c h h') (ne:it≠c):h'.IsTupleIter it l k:=t.extBut sb.extBut ne
theorem q67 {h h':Heap}{l:Addr}{xs:Array Value}{c:Addr} (t:h.IsTuple l xs) (sb:Heap.SameBut c h h') (ne:l≠c):h'.IsTuple l xs:=t.extBut sb.extBut ne
theorem x3F {Q:Value->Shared->Prop} (D:ZipApart z TI TO i1 i2 l1 l2) (za:IsZip s.heap z TI TO .none) (pa:IsPair s.heap TI (.ref i1) (.ref i2)) (pb:IsPair s.heap TO a b)
  (u1:s.heap.IsTupleIter i1 l1 k1) (u2:s.heap.IsTupleIter i2 l2 k2) (v1:s.heap.IsTuple l1 xs) (v2:s.heap.IsTuple l2 ys) (hx:xs[k1]?=some x) (hy:ys[k2]?=some y)
  (q:∀ h',IsZip h' z TI TO (rawInt s.heap.objs.size)->IsPair h' TO x y->h'.IsTupleIter i1 l1 (k1 + 1)->h'.IsTupleIter i2 l2 (k2 + 1)->IsPair h' s.heap.objs.size x y ->
   (∀ c o,c≠z->c≠TO->c≠i1->c≠i2->s.heap.get? c=some o->h'.get? c=some o)->Q (.ref s.heap.objs.size) { s with heap:=h' }) :
  wpAny (model prog w) A (Builtin.«zip.__next__» ⟨[.ref z],[]⟩) (fun fin s'=>∃ v,fin=.done (.ret v)/\Q v s') E s:=by
 show wpAny _ _ (field (.ref z) 2 >>= _) _ _ _
 refine wpAny_bind (wpAny_field za rfl (x:=.bool false) rfl ?_)
 show wpAny _ _ (field (.ref z) 3 >>= _) _ _ _
 refine wpAny_bind (wpAny_field za rfl (x:=.ref TI) rfl ?_)
 refine wpAny_bind (wpAny_seqItems pa rfl ?_)
 show wpAny _ _ (Builtin.SmallTypes.ownedTupleIsFree (.ref z) >>= _) _ _ _
 refine wpAny_bind ?_
 unfold Builtin.SmallTypes.ownedTupleIsFree
 refine wpAny_bind (wpAny_field za rfl (x:=.none) rfl (wpAny_pure ?_))
 simp only [if_true]
 refine wpAny_bind (wpAny_rule ?_)
 refine wpAny_bind (wpAny_field za rfl (x:=.ref TO) rfl ?_)
 refine wpAny_bind (wpAny_setField_rec za (by simp) fun g1 z1 b1=>?_)
 replace z1:IsZip g1 z TI TO .ellipsis:=z1
 refine wpAny_bind ?_
 simp only [List.zipIdx_cons,List.zipIdx_nil,List.forIn_cons,List.forIn_nil]
 refine wpAny_bind (wpAny_bind (wpAny_onRaise ?_))
 show wpAny _ _ (Builtin.SmallTypes.nextOf (.ref i1) >>= _) _ _ _
 refine wpAny_bind (q8k (q3f u1 b1 D.i1z) (q67 v1 b1 D.l1z) hx fun g2 w1 b2=>wpAny_pure ?_)
 have p2:IsPair g2 TO a b:=b2.extBut _ _ D.TOi1 (b1.extBut _ _ D.TOz pb)
 refine wpAny_bind (wpAny_seqItems p2 rfl (wpAny_bind (wpAny_updateSeq_pair p2 fun g3 p3 b3=>?_)))
 replace p3:IsPair g3 TO x b:=p3
 refine wpAny_bind (wpAny_letGo (wpAny_pure (wpAny_bind (wpAny_bind (wpAny_onRaise ?_)))))
 show wpAny _ _ (Builtin.SmallTypes.nextOf (.ref i2) >>= _) _ _ _
 refine wpAny_bind (q8k (q3f (q3f (q3f u2 b1 D.i2z) b2 D.i12.symm) b3 D.TOi2.symm) (q67 (q67 (q67 v2 b1 D.l2z) b2 D.l2i1) b3 D.l2TO) hy fun g4 w2 b4=>wpAny_pure ?_)
 have p4:IsPair g4 TO x b:=b4.extBut _ _ D.TOi2 p3
 refine wpAny_bind (wpAny_seqItems p4 rfl (wpAny_bind (wpAny_updateSeq_pair p4 fun g5 p5 b5=>?_)))
 replace p5:IsPair g5 TO x y:=p5
 refine wpAny_bind (wpAny_letGo (wpAny_pure (wpAny_pure ?_)))
 refine wpAny_bind (wpAny_seqItems p5 rfl (wpAny_bind (wpAny_newTuple ?_)))
 have sz:g5.objs.size=s.heap.objs.size:=by rw [b5.1,b4.1,b3.1,b2.1,b1.1]
 have z5:IsZip g5 z TI TO .ellipsis:=b5.extBut _ _ D.TOz.symm (b4.extBut _ _ D.i2z.symm (b3.extBut _ _ D.TOz.symm (b2.extBut _ _ D.i1z.symm z1)))
 have k5:∀ c o,c≠z->c≠TO->c≠i1->c≠i2->s.heap.get? c=some o->g5.get? c=some o:=fun c o n1 n2 n3 n4 e =>
  b5.extBut _ _ n2 (b4.extBut _ _ n4 (b3.extBut _ _ n2 (b2.extBut _ _ n3 (b1.extBut _ _ n1 e))))
 have y1:g5.IsTupleIter i1 l1 (k1 + 1):=q3f (q3f (q3f w1 b3 D.TOi1.symm) b4 D.i12) b5 D.TOi1.symm
 have y2:g5.IsTupleIter i2 l2 (k2 + 1):=q3f w2 b5 D.TOi2.symm
 have zl:z<g5.objs.size:=Heap.lt_size z5
 show wpAny _ _ (Builtin.SmallTypes.ownedTupleHandOut (.ref z) (.ref g5.objs.size) >>= _) _ _ _
 refine wpAny_bind ?_
 unfold Builtin.SmallTypes.ownedTupleHandOut
 have z6:IsZip (g5.push { cls:=.type "tuple",data:=.seq #[x,y] }) z TI TO .ellipsis:=Heap.get?_push_of_some _ z5
 refine wpAny_bind (wpAny_setField_rec z6 (by simp) fun g7 z7 b7=>?_)
 replace z7:IsZip g7 z TI TO (rawInt g5.objs.size):=z7
 refine wpAny_setField_rec z7 (by simp) fun g8 z8 b8=>?_
 replace z8:IsZip g8 z TI TO (rawInt g5.objs.size):=z8
 have up:∀ c o,c≠z->g5.get? c=some o->g8.get? c=some o:=fun c o n1 e=>b8.extBut _ _ n1 (b7.extBut _ _ n1 (Heap.get?_push_of_some _ e))
 have p8:IsPair g8 g5.objs.size x y:=b8.extBut _ _ (Nat.ne_of_gt zl) (b7.extBut _ _ (Nat.ne_of_gt zl) (Heap.get?_push_size _ rfl))
 rw [sz] at z8 p8
 refine wpAny_pure ⟨_,rfl,?_⟩
 show Q (.ref g5.objs.size) _
 rw [sz]
 exact q g8 z8 (up _ _ D.TOz p5) (let ⟨o,e,r⟩:=y1;⟨o,up _ o D.i1z e,r⟩) (let ⟨o,e,r⟩:=y2;⟨o,up _ o D.i2z e,r⟩) p8 fun c o n1 n2 n3 n4 e=>up c o n1 (k5 c o n1 n2 n3 n4 e)
theorem x3G {Q:Fin->Shared->Prop} (hh:A.handled=none) (D:ZipApart z TI TO i1 i2 l1 l2) (za:IsZip s.heap z TI TO .none) (pa:IsPair s.heap TI (.ref i1) (.ref i2)) (pb:IsPair s.heap TO a b)
  (u1:s.heap.IsTupleIter i1 l1 k1) (u2:s.heap.IsTupleIter i2 l2 k2) (v1:s.heap.IsTuple l1 xs) (v2:s.heap.IsTuple l2 ys) (hend:xs[k1]?=none\/ys[k2]?=none)
  (q:∀ h' e,(∀ c o,c≠z->c≠TO->c≠i1->c≠i2->s.heap.get? c=some o->h'.get? c=some o)->(∃ o,h'.get? e=some o/\o.cls=.type "StopIteration")->E (.ref e) { s with heap:=h' }) :
  wpAny (model prog w) A (Builtin.«zip.__next__» ⟨[.ref z],[]⟩) Q E s:=by
 show wpAny _ _ (field (.ref z) 2 >>= _) _ _ _
 refine wpAny_bind (wpAny_field za rfl (x:=.bool false) rfl ?_)
 show wpAny _ _ (field (.ref z) 3 >>= _) _ _ _
 refine wpAny_bind (wpAny_field za rfl (x:=.ref TI) rfl ?_)
 refine wpAny_bind (wpAny_seqItems pa rfl ?_)
 show wpAny _ _ (Builtin.SmallTypes.ownedTupleIsFree (.ref z) >>= _) _ _ _
 refine wpAny_bind ?_
 unfold Builtin.SmallTypes.ownedTupleIsFree
 refine wpAny_bind (wpAny_field za rfl (x:=.none) rfl (wpAny_pure ?_))
 simp only [if_true]
 refine wpAny_bind (wpAny_rule ?_)
 refine wpAny_bind (wpAny_field za rfl (x:=.ref TO) rfl ?_)
 refine wpAny_bind (wpAny_setField_rec za (by simp) fun g1 z1 b1=>?_)
 replace z1:IsZip g1 z TI TO .ellipsis:=z1
 refine wpAny_bind ?_
 simp only [List.zipIdx_cons,List.zipIdx_nil,List.forIn_cons,List.forIn_nil]
 refine wpAny_bind (wpAny_bind (wpAny_onRaise ?_))
 show wpAny _ _ (Builtin.SmallTypes.nextOf (.ref i1) >>= _) _ _ _
 cases hx:xs[k1]? with
 | none =>
  refine wpAny_bind (q8l hh (q3f u1 b1 D.i1z) (q67 v1 b1 D.l1z) hx fun g2 e b2 he=>?_)
  obtain ⟨oe,ee,ce⟩:=he
  have z2:IsZip g2 z TI TO .ellipsis:=b2 _ _ D.i1z.symm z1
  have ez:e≠z:=fun n=>by subst n;rw [z2] at ee;cases ee;simp at ce
  refine wpAny_setField_rec z2 (by simp) fun g3 _ b3=>q g3 e (fun c o n1 _ n3 _ m=>b3.extBut _ _ n1 (b2 _ _ n3 (b1.extBut _ _ n1 m))) ⟨oe,b3.extBut _ _ ez ee,ce⟩
 | some x =>
  have hy:ys[k2]?=none:=hend.resolve_left fun n=>by rw [hx] at n;cases n
  refine wpAny_bind (q8k (q3f u1 b1 D.i1z) (q67 v1 b1 D.l1z) hx fun g2 w1 b2=>wpAny_pure ?_)
  have p2:IsPair g2 TO a b:=b2.extBut _ _ D.TOi1 (b1.extBut _ _ D.TOz pb)
  refine wpAny_bind (wpAny_seqItems p2 rfl (wpAny_bind (wpAny_updateSeq_pair p2 fun g3 p3 b3=>?_)))
  refine wpAny_bind (wpAny_letGo (wpAny_pure (wpAny_bind (wpAny_bind (wpAny_onRaise ?_)))))
  show wpAny _ _ (Builtin.SmallTypes.nextOf (.ref i2) >>= _) _ _ _
  refine wpAny_bind (q8l hh (q3f (q3f (q3f u2 b1 D.i2z) b2 D.i12.symm) b3 D.TOi2.symm) (q67 (q67 (q67 v2 b1 D.l2z) b2 D.l2i1) b3 D.l2TO) hy fun g4 e b4 he=>?_)
  obtain ⟨oe,ee,ce⟩:=he
  have z4:IsZip g4 z TI TO .ellipsis:=b4 _ _ D.i2z.symm (b3.extBut _ _ D.TOz.symm (b2.extBut _ _ D.i1z.symm z1))
  have ez:e≠z:=fun n=>by subst n;rw [z4] at ee;cases ee;simp at ce
  refine wpAny_setField_rec z4 (by simp) fun g5 _ b5=>q g5 e (fun c o n1 n2 n3 n4 m=>b5.extBut _ _ n1 (b4 _ _ n4 (b3.extBut _ _ n2 (b2.extBut _ _ n3 (b1.extBut _ _ n1 m))))) ⟨oe,b5.extBut _ _ ez ee,ce⟩
end
abbrev zt1 (h:Heap) (l1:Addr):Heap:=h.push { cls:=.type "tuple_iterator",data:=.fields #[.ref l1,.int 0 0] }
abbrev zt2 (h:Heap) (l1 l2:Addr):Heap:=(zt1 h l1).push { cls:=.type "tuple_iterator",data:=.fields #[.ref l2,.int 0 0] }
abbrev zt3 (h:Heap) (l1 l2:Addr):Heap:=(zt2 h l1 l2).push { cls:=.type "tuple",data:=.seq #[.ref h.objs.size,.ref (zt1 h l1).objs.size] }
abbrev zt4 (h:Heap) (l1 l2:Addr):Heap:=(zt3 h l1 l2).push { cls:=.type "tuple",data:=.seq #[.none,.none] }
abbrev zt5 (h:Heap) (l1 l2:Addr):Heap:=(zt4 h l1 l2).push { cls:=.type "zip",data:=.fields #[.none,.bool false,.bool false,.ref (zt2 h l1 l2).objs.size,.ref (zt3 h l1 l2).objs.size] }
theorem w1u (l1 l2:Addr) (xs ys:Array Value) :
  Meets (Builtin.«zip.__new__» ⟨[.type "zip",.ref l1,.ref l2],[]⟩) (fun _ R s=>s.heap.IsTuple l1 xs/\s.heap.IsTuple l2 ys/\R (.ok (.ret (.ref (zt4 s.heap l1 l2).objs.size))) { s with heap:=zt5 s.heap l1 l2 }) :=
 .of_wp fun prog w A R s h=>by
  obtain ⟨hp,g,d,tk,os⟩:=s
  obtain ⟨v1,v2,h⟩:=h
  have hsub:=PySem.sub_zip
  have L1:Heap.IsTuple (Shared.heap ⟨hp,g,d,tk,os⟩) l1 xs:=v1
  have L2:Heap.IsTuple (Shared.heap ⟨hp.push { cls:=.type "tuple_iterator",data:=.fields #[.ref l1,.int 0 0] },g,d,tk,os⟩) l2 ys:=Heap.IsTuple.push v2 _
  wp_walk using wpAny_pyIter_tuple L1,wpAny_pyIter_tuple L2
  exact ⟨_,rfl,h⟩
section
variable {prog:Program}{w:World}{A:Around}{E:Value->Shared->Prop}{s:Shared}
theorem w3w {l1 l2:Addr}{xs ys:Array Value}{Q:Value->Shared->Prop} (v1:s.heap.IsTuple l1 xs) (v2:s.heap.IsTuple l2 ys)
  (h:∀ h',IsZip h' (s.heap.objs.size + 4) (s.heap.objs.size + 2) (s.heap.objs.size + 3) .none->IsPair h' (s.heap.objs.size + 2) (.ref s.heap.objs.size) (.ref (s.heap.objs.size + 1)) ->
   IsPair h' (s.heap.objs.size + 3) .none .none->h'.IsTupleIter s.heap.objs.size l1 0->h'.IsTupleIter (s.heap.objs.size + 1) l2 0 ->
   (∀ c o,s.heap.get? c=some o->h'.get? c=some o)->Q (.ref (s.heap.objs.size + 4)) { s with heap:=h' }):wpAny (model prog w) A (call (.type "zip") [.ref l1,.ref l2]) Q E s:=by
 refine callType_new F.called_zip (by decide) (F.typeCall_zip_2 _ _) (F.newCall_zip_2 _ _) (fun obj=>F.args_object_init_3 obj _ _) F.entry_zip_new (w1u l1 l2 xs ys) ⟨v1,v2,?_⟩
 have n1:(zt1 s.heap l1).objs.size=s.heap.objs.size + 1:=Heap.size_push ..
 have n2:(zt2 s.heap l1 l2).objs.size=s.heap.objs.size + 2:=by rw [Heap.size_push,n1]
 have n3:(zt3 s.heap l1 l2).objs.size=s.heap.objs.size + 3:=by rw [Heap.size_push,n2]
 have n4:(zt4 s.heap l1 l2).objs.size=s.heap.objs.size + 4:=by rw [Heap.size_push,n3]
 have c5:(zt5 s.heap l1 l2).get? (zt4 s.heap l1 l2).objs.size=some _:=Heap.get?_push_size _ rfl
 have c4:(zt5 s.heap l1 l2).get? (zt3 s.heap l1 l2).objs.size=some _:=Heap.get?_push_of_some _ (Heap.get?_push_size _ rfl)
 have c3:(zt5 s.heap l1 l2).get? (zt2 s.heap l1 l2).objs.size=some _:=Heap.get?_push_of_some _ (Heap.get?_push_of_some _ (Heap.get?_push_size _ rfl))
 have c2:(zt5 s.heap l1 l2).get? (zt1 s.heap l1).objs.size=some _:=Heap.get?_push_of_some _ (Heap.get?_push_of_some _ (Heap.get?_push_of_some _ (Heap.get?_push_size _ rfl)))
 have c1:(zt5 s.heap l1 l2).get? s.heap.objs.size=some _:=Heap.get?_push_of_some _ (Heap.get?_push_of_some _ (Heap.get?_push_of_some _ (Heap.get?_push_of_some _ (Heap.get?_push_size _ rfl))))
 show _/\_
 rw [n2,n3,n4] at c5
 rw [n1,n2] at c3
 rw [n3] at c4
 rw [n1] at c2
 rw [n4]
 exact ⟨⟨_,c5,rfl⟩,h _ c5 c3 c4 ⟨_,c1,rfl,rfl⟩ ⟨_,c2,rfl,rfl⟩ fun c o e=>Heap.get?_push_of_some _ (Heap.get?_push_of_some _ (Heap.get?_push_of_some _ (Heap.get?_push_of_some _ (Heap.get?_push_of_some _ e))))⟩
end
theorem SqT.ne_fp {X:Cx}{pins:List (Addr×Obj)}{σ:St}{H:Hp}{s:Shared}{a b:Addr}{xs:List V} (I:Inv X pins σ H s) (hq:SqT X.K H a xs) (hf:w3c X pins H b):a≠b:=by
 rintro rfl
 rcases hq with (h | ⟨o,h⟩) | ⟨o,its,n,hk,_⟩
 ·rw [hf.1] at h;cases h
 ·rw [hf.1] at h;cases h
 ·have e:X.base.get? a=some o:=I.mod.kin a o hk
  rcases hf.f3 with z | z
  ·exact I.ok.noex a o e z
  ·exact absurd (Nat.lt_of_lt_of_le (Heap.lt_size e) (Nat.le_trans I.ok.bsz z)) (Nat.lt_irrefl _)
def Itz (K:PySem.W.Frag) (a b:Addr):It :=
 ⟨fun i H=>∃ xs ys x y,SqT K H a xs/\SqT K H b ys/\xs[i]?=some x/\ys[i]?=some y,
  fun i H v H'=>∃ p,H p=none/\v=.ref p/\∀ xs ys,SqT K H a xs->SqT K H b ys->∃ x y,xs[i]?=some x/\ys[i]?=some y/\H'=upd H p (.tup [x,y]),
  fun i H=>∃ xs ys,SqT K H a xs/\SqT K H b ys/\(xs.length<=i\/ys.length<=i)⟩
structure y1N (z TI TO i1 i2:Addr):Prop where
 d1:TI≠z
 d2:TO≠z
 d3:i1≠z
 d4:i2≠z
 d5:TI≠TO
 d6:TI≠i1
 d7:TI≠i2
 d8:TO≠i1
 d9:TO≠i2
 d0:i1≠i2
theorem x3H {P:Program}{w:World}{K:PySem.W.Frag}{elts:List Expr}{x1}{pos:Pos} (l1 l2 z TI TO i1 i2:Addr) (Z:y1N z TI TO i1 i2) :
  x0Q P w K (.Tuple elts x1 pos) (Itz K l1 l2) [z,TI,TO,i1,i2] z (fun i h=>IsZip h z TI TO .none/\IsPair h TI (.ref i1) (.ref i2)/\(∃ a b,IsPair h TO a b)/\h.IsTupleIter i1 l1 i/\h.IsTupleIter i2 l2 i) where
 mem:=by simp
 obj:=fun i h st b hb=>by
  obtain ⟨s1,s2,⟨_,_,s3⟩,⟨o4,e4,_,f4⟩,⟨o5,e5,_,f5⟩⟩:=st
  simp only [List.mem_cons,List.not_mem_nil,or_false] at hb
  rcases hb with rfl | rfl | rfl | rfl | rfl
  ·exact ⟨_,s1,fun v q=>by cases q⟩
  ·exact ⟨_,s2,fun v q=>by cases q⟩
  ·exact ⟨_,s3,fun v q=>by cases q⟩
  ·exact ⟨o4,e4,fun v q=>by rw [f4] at q;cases q⟩
  ·exact ⟨o5,e5,fun v q=>by rw [f5] at q;cases q⟩
 keep:=fun i h h' st k=>by
  obtain ⟨s1,s2,⟨u,v,s3⟩,⟨o4,e4,r4⟩,⟨o5,e5,r5⟩⟩:=st
  exact ⟨k z (by simp) _ s1,k TI (by simp) _ s2,⟨u,v,k TO (by simp) _ s3⟩,⟨o4,k i1 (by simp) _ e4,r4⟩,⟨o5,k i2 (by simp) _ e5,r5⟩⟩
 item:=by
  intro X hP hw hK hc i pins s σ H E I hf st hg
  subst hP hw hK
  obtain ⟨xs,ys,x,y,hq1,hq2,hx,hy⟩:=hg
  obtain ⟨its1,rv1,p1,_⟩:=I.tuple hq1
  obtain ⟨its2,rv2,p2,_⟩:=I.tuple hq2
  obtain ⟨u,hu,ru⟩:=rv1.get hx
  obtain ⟨v,hv,rv⟩:=rv2.get hy
  obtain ⟨s1,s2,⟨a,b,s3⟩,s4,s5⟩:=st
  have ne1:∀ b∈[z,TI,TO,i1,i2],l1≠b:=fun b hb=>hq1.ne_fp I (hf b hb)
  have ne2:∀ b∈[z,TI,TO,i1,i2],l2≠b:=fun b hb=>hq2.ne_fp I (hf b hb)
  have D:ZipApart z TI TO i1 i2 l1 l2:=⟨Z.d1,Z.d2,Z.d3,Z.d4,Z.d5,Z.d6,Z.d7,Z.d8,Z.d9,Z.d0,ne1 z (by simp),ne1 TO (by simp),ne1 i1 (by simp),ne1 i2 (by simp),ne2 z (by simp),ne2 TO (by simp),ne2 i1 (by simp),ne2 i2 (by simp)⟩
  have zl:=Heap.lt_size s1
  have hT:s.TypeIs (.ref z) "zip":=⟨_,s1,rfl⟩
  unfold pyNext
  refine wpAny_bind (wpAny_attempt (wpAny_callSpecial?_slot (name:=Str.ofString "__next__") hT F.slot_zip_next ?_))
  refine wpAny_call_entry F.slot_zip_next hT F.entry_zip_next (x3F D s1 s2 s3 s4 s5 p1 p2 (by simpa using hu) (by simpa using hv) fun h1 z1 t1 y1 y2 pr k1=>?_) (F.args_zip_next_1 _)
  refine wpAny_pure ⟨_,rfl,wpAny_letOwnedTupleGo_zip z1 fun h2 z2 b2=>?_⟩
  have szn:s.heap.objs.size≠z:=Nat.ne_of_gt zl
  have TIk:IsPair h1 TI (.ref i1) (.ref i2):=k1 TI _ Z.d1 Z.d5 Z.d6 Z.d7 s2
  have I2:Inv X pins σ H { s with heap:=h2 }:=I.turnedL (t':=s.toks) (ch:=[z,TI,TO,i1,i2]) (fun b o hb q=>by
   simp only [List.mem_cons,List.not_mem_nil,or_false,not_or] at hb
   exact (b2.2 b hb.1).trans (k1 b o hb.1 hb.2.2.1 hb.2.2.2.1 hb.2.2.2.2 q)) hf
  have fT:=I.fpOk (H':=H) (Nat.le_refl _) (I.hok.fresh (Nat.le_refl _))
  have pr2:h2.get? s.heap.objs.size=some { cls:=.type "tuple",data:=.seq #[u,v] }:=(b2.2 _ szn).trans pr
  have I3:=I2.track (ho:=.tup [x,y]) fT ⟨by show 2<=sizeLine;decide,[u,v],.cons ru (.cons rv .nil),⟨_,pr2,rfl,0,rfl⟩⟩
  refine ⟨.ref s.heap.objs.size,_,I3,rfl,⟨_,fT.1,rfl,fun xs' ys' h1 h2=>?_⟩,⟨z2,(b2.2 TI Z.d1).trans TIk,⟨u,v,(b2.2 TO Z.d2).trans t1⟩,q3f y1 b2 Z.d3,q3f y2 b2 Z.d4⟩,fun b hb=>?_⟩
  ·rw [I.tuple_inj h1 hq1,I.tuple_inj h2 hq2];exact ⟨x,y,hx,hy,rfl⟩
  ·have bl:b<s.heap.objs.size:=by
    simp only [List.mem_cons,List.not_mem_nil,or_false] at hb
    rcases hb with q | q | q | q | q
    ·rw [q];exact zl
    ·rw [q];exact Heap.lt_size s2
    ·rw [q];exact Heap.lt_size s3
    ·obtain ⟨_,e,_⟩:=s4;rw [q];exact Heap.lt_size e
    ·obtain ⟨_,e,_⟩:=s5;rw [q];exact Heap.lt_size e
   rw [q0j (Nat.ne_of_lt bl)];exact (hf b hb).1
 done:=by
  intro X hP hw hK hc i pins s σ H E I hf st hg
  subst hP hw hK
  obtain ⟨xs,ys,hq1,hq2,hend⟩:=hg
  obtain ⟨its1,rv1,p1,_⟩:=I.tuple hq1
  obtain ⟨its2,rv2,p2,_⟩:=I.tuple hq2
  obtain ⟨s1,s2,⟨a,b,s3⟩,s4,s5⟩:=st
  have ne1:∀ b∈[z,TI,TO,i1,i2],l1≠b:=fun b hb=>hq1.ne_fp I (hf b hb)
  have ne2:∀ b∈[z,TI,TO,i1,i2],l2≠b:=fun b hb=>hq2.ne_fp I (hf b hb)
  have D:ZipApart z TI TO i1 i2 l1 l2:=⟨Z.d1,Z.d2,Z.d3,Z.d4,Z.d5,Z.d6,Z.d7,Z.d8,Z.d9,Z.d0,ne1 z (by simp),ne1 TO (by simp),ne1 i1 (by simp),ne1 i2 (by simp),ne2 z (by simp),ne2 TO (by simp),ne2 i1 (by simp),ne2 i2 (by simp)⟩
  have hT:s.TypeIs (.ref z) "zip":=⟨_,s1,rfl⟩
  have n1:=rv1.length
  have n2:=rv2.length
  unfold pyNext
  refine wpAny_bind (wpAny_attempt (wpAny_callSpecial?_slot (name:=Str.ofString "__next__") hT F.slot_zip_next ?_))
  refine wpAny_call_entry F.slot_zip_next hT F.entry_zip_next (x3G (by simpa using I.ok.hd hc) D s1 s2 s3 s4 s5 p1 p2 (hend.elim (fun q=>.inl (by simp;omega)) fun q=>.inr (by simp;omega)) fun h' e kp he=>?_) (F.args_zip_next_1 _)
  obtain ⟨o,eo,co⟩:=he
  refine wpAny_bind (wpAny_isInstance (T:="StopIteration") (b:=true) ⟨o,eo,co⟩ isSubtype_stop ?_)
  exact wpAny_pure ⟨rfl,I.turnedL (t':=s.toks) (ch:=[z,TI,TO,i1,i2]) (fun b o hb q=>by
   simp only [List.mem_cons,List.not_mem_nil,or_false,not_or] at hb
   exact kp b o hb.1 hb.2.2.1 hb.2.2.2.1 hb.2.2.2.2 q) hf⟩
 self:=fun _ _ _ _ _ st h=>wpAny_pyIter_zip st.1 h
def y1O (K:PySem.W.Frag) (ta:TA):TI:=fun σ H R=>ta σ H fun vs H1=>∃ a b xs ys,vs=[.ref a,.ref b]/\SqT K H1 a xs/\SqT K H1 b ys/\R (Itz K a b) H1
theorem x8f {X:Cx}{elts:List Expr}{x1}{tpos p pos:Pos}{a b:Expr}{ta:TA} (hg:Gl X "zip") (hm:X.mg "zip"=none) (ha:PA X [a,b] ta) (hs:starEach [a,b] X.env=[(false,eval a X.env),(false,eval b X.env)]:=by rfl)
  (hs2:starEach [b] X.env=[(false,eval b X.env)]:=by rfl):PI X (.Tuple elts x1 tpos) (.Call (.Name "zip" p) [a,b] [] pos) (y1O X.K ta):=by
 intro pins s σ H R I h
 refine Call_ (q7A I hg hm boot_zip (PyProof.Rows.callWith_type1 (thn (ha pos pins s σ H _ I h) fun us s1 ⟨vs,H1,I1,r1,q1⟩=>?_) (by rw [hs,hs2]) (by rw [hs2];rfl)))
 obtain ⟨a1,a2,xs,ys,rfl,hq1,hq2,q⟩:=q1
 obtain ⟨u1,u2,rfl,rx1,rx2⟩:=x7V r1
 cases rx1
 cases rx2
 obtain ⟨its1,rv1,p1,_⟩:=I1.tuple hq1
 obtain ⟨its2,rv2,p2,_⟩:=I1.tuple hq2
 refine w3w (show s1.heap.IsTuple a1 its1.toArray from p1) (show s1.heap.IsTuple a2 its2.toArray from p2) fun h' c1 c2 c3 c4 c5 kp=>?_
 refine wpAny_pyIter_zip c1 ?_
 have I2:Inv X pins σ H1 { s1 with heap:=h' }:=I1.kept (t':=s1.toks) kp
 have ad:∀ k j:Nat,k≠j->s1.heap.objs.size + k≠s1.heap.objs.size + j:=fun k j n e=>n (Nat.add_left_cancel e)
 refine ⟨s1.heap.objs.size + 4,[s1.heap.objs.size + 4,s1.heap.objs.size + 2,s1.heap.objs.size + 3,s1.heap.objs.size + 0,s1.heap.objs.size + 1],_,_,H1,rfl,I2,
  x3H a1 a2 _ _ _ _ _ ⟨ad _ _ (by decide),ad _ _ (by decide),ad _ _ (by decide),ad _ _ (by decide),ad _ _ (by decide),ad _ _ (by decide),ad _ _ (by decide),ad _ _ (by decide),ad _ _ (by decide),ad _ _ (by decide)⟩,
  ⟨c1,c2,⟨_,_,c3⟩,c4,c5⟩,fun b hb=>?_,q⟩
 have:∀ k:Nat,w3c X pins H1 (s1.heap.objs.size + k):=fun k=>I1.fpOk (Nat.le_add_right _ _) (I1.hok.fresh (Nat.le_add_right _ _))
 simp only [List.mem_cons,List.not_mem_nil,or_false] at hb
 rcases hb with q | q | q | q | q<;>(rw [q];exact this _)
end L2
end
section
namespace L2
open PySem PySem.Spec PyProof.Rows
mutual
inductive Rep (K:PySem.W.Frag) (H:Hp):V->PyData->Prop
 | none:Rep K H .non .none
 | bool (b:Bool):Rep K H (.bl b) (.bool b)
 | int (i:Int):Rep K H (.int i) (.int i)
 | str (x:Str):Rep K H (.str x) (.str x)
 | list {a:Addr}{xs:List V}{ds:List PyData}:SqL K H a xs->Reps K H xs ds->Rep K H (.ref a) (.list ds)
 | tuple {a:Addr}{xs:List V}{ds:List PyData}:SqT K H a xs->Reps K H xs ds->Rep K H (.ref a) (.tuple ds)
inductive Reps (K:PySem.W.Frag) (H:Hp):List V->List PyData->Prop
 | nil:Reps K H [] []
 | cons {x:V}{xs:List V}{d:PyData}{ds:List PyData}:Rep K H x d->Reps K H xs ds->Reps K H (x::xs) (d::ds)
end
theorem q29.tup {K:PySem.W.Frag}{H H':Hp}{a:Addr}{xs:List V} (e:q29 H H') (h:SqT K H a xs):SqT K H' a xs:=by
 rcases h with (h | ⟨o,h⟩) | h
 ·exact .inl (.inl (e _ _ h))
 ·exact .inl (.inr ⟨o,e _ _ h⟩)
 ·exact .inr h
section
variable {X:Cx}{pins:List (Addr×Obj)}{σ:St}{H:Hp}{s:Shared}
theorem x6x (I:Inv X pins σ H s) {a:Addr}{xs:List V}{ds:List PyData}{u:Value} (h:SqL X.K H a xs) (ih:∀ {us:List Value},q28 xs us->∃ as,ReadsAll s.heap us ds as) (r:q1Z (.ref a) u):∃ as,Reads s.heap u (.list ds) as:=by
 cases r
 obtain ⟨its,rv,⟨o,n,e,c,_,d⟩,_⟩:=I.list h
 obtain ⟨as,ra⟩:=ih rv
 exact ⟨_,.list e c d (by simpa using ra)⟩
theorem x3I (I:Inv X pins σ H s) {a:Addr}{xs:List V}{ds:List PyData}{u:Value} (h:SqT X.K H a xs) (ih:∀ {us:List Value},q28 xs us->∃ as,ReadsAll s.heap us ds as) (r:q1Z (.ref a) u):∃ as,Reads s.heap u (.tuple ds) as:=by
 cases r
 obtain ⟨its,rv,⟨o,e,c,n,d⟩,_⟩:=I.tuple h
 obtain ⟨as,ra⟩:=ih rv
 exact ⟨_,.tuple e c d (by simpa using ra)⟩
theorem q68 (I:Inv X pins σ H s) {v:V}{d:PyData} (h:Rep X.K H v d):∀ {u:Value},q1Z v u->∃ as,Reads s.heap u d as :=
 Rep.rec (motive_1:=fun v d _=>∀ {u:Value},q1Z v u->∃ as,Reads s.heap u d as) (motive_2:=fun vs ds _=>∀ {us:List Value},q28 vs us->∃ as,ReadsAll s.heap us ds as)
  (fun r=>by cases r;exact ⟨_,.none⟩) (fun b _ r=>by cases r;exact ⟨_,.bool b⟩) (fun i _ r=>by obtain ⟨t,rfl⟩:=r;exact ⟨_,.int i t⟩) (fun x _ r=>by obtain ⟨t,rfl⟩:=r;exact ⟨_,.str x t⟩)
  (fun h _ ih _ r=>x6x I h ih r) (fun h _ ih _ r=>x3I I h ih r) (fun r=>by cases r;exact ⟨_,.nil⟩) (fun _ _ a b _ r=>by
   cases r with
   | cons r rs =>
    obtain ⟨as,ra⟩:=a r
    obtain ⟨bs,rb⟩:=b rs
    exact ⟨_,.cons ra rb⟩) h
end
section
variable {X:Cx}
inductive x8g (K:PySem.W.Frag) (neg:Bool) (x:V) (y:V) (H:Hp) (Q:VK):Prop
 | mk (dx dy:_) (h0:Rep K H x dx) (h1:Rep K H y dy) (h2:dx.canLay0=true) (h3:dy.canLay0=true) (h4:min dx.depth dy.depth<=60) (h5:Q (.bl (if neg then !PyData.eqv dx dy else PyData.eqv dx dy)) H):x8g K neg x y H Q
def y0f (K:PySem.W.Frag) (neg:Bool):R2:=x8g K neg
theorem x8h (hu:X.A.units + 64<cLine):OpR X (compareOp .Eq) (y0f X.K false):=by
 intro pins s σ H x y v u Q I rx ry h
 obtain ⟨dx,dy,hx,hy,lx,ly,dp,q⟩:=h
 obtain ⟨as,ra⟩:=q68 I hx rx
 obtain ⟨bs,rb⟩:=q68 I hy ry
 exact PySem.SeqAt.compareEq_reads ra rb lx ly (by omega) ⟨.bl _,H,I,rfl,q⟩
theorem x8i (hu:X.A.units + 64<cLine):OpR X (compareOp .NotEq) (y0f X.K true):=by
 intro pins s σ H x y v u Q I rx ry h
 obtain ⟨dx,dy,hx,hy,lx,ly,dp,q⟩:=h
 obtain ⟨as,ra⟩:=q68 I hx rx
 obtain ⟨bs,rb⟩:=q68 I hy ry
 exact PySem.SeqAt.compareNe_reads ra rb lx ly (by omega) ⟨.bl _,H,I,rfl,q⟩
end
end L2
end
section
namespace L2
open PySem PySem.Spec PyProof.Rows
structure Air (P:Program) (w:World) (l:List Env) (H H':Hp) (h h' B:Heap) (ea C t:Addr):Prop where
 fly:Heap.FlyingW B l ea (.ref C) (.ref t) h'
 cov:∀ b u,H' b=some u->∃ o,B.get? b=some o
 old:∀ b o,h.get? b=some o->H b=none->b∉frs l->B.get? b=some o
 all:∀ b o,h.get? b=some o->b∉frs l->∃ o',B.get? b=some o'
 un:Un (frs l) [] H H' h h'
 hok:HOk P w H' h'
inductive y0R (P:Program) (w:World) (outer:List Env) (H:Hp) (s:Shared) (E:XK) (e:Value) (s':Shared):Prop
 | mk (ea C t H' B:_) (h0:e=.ref ea) (h1:s'.os=s.os) (h2:AllBare s'.gens) (h3:Air P w outer H H' s.heap s'.heap B ea C t) (h4:E (.ref C) none H'):y0R P w outer H s E e s'
def CXR (P:Program) (w:World):CXT:=y0R P w
theorem x3J {P:Program}{w:World}{H:Hp}{h:Heap}{b:Addr}{u:HO} (x:HOk P w H h) (e:H b=some u):∃ o,h.get? b=some o:=by
 have y:=x b u e
 cases u with
 | lst xs=>obtain ⟨_,_,_,_,k⟩:=y;exact ⟨_,k⟩
 | tup xs=>obtain ⟨_,_,_,o,k,_⟩:=y;exact ⟨o,k⟩
 | dK kvs=>obtain ⟨_,_,_,_,o,_,_,k,_⟩:=y;exact ⟨o,k⟩
 | dT kvs=>obtain ⟨_,_,_,_,o,_,_,k,_⟩:=y;exact ⟨o,k⟩
 | set S n=>obtain ⟨o,_,_,_,k,_⟩:=y;exact ⟨o,k⟩
 | ins C dx fs=>obtain ⟨_,_,_,k,_⟩:=y;exact ⟨_,k⟩
 | own y'=>exact y
 | xd fs=>obtain ⟨_,⟨o,_,_,k,_⟩,_⟩:=y;exact ⟨o,k⟩
 | rng lo hi=>obtain ⟨_,_,_,k⟩:=y;exact ⟨_,k⟩
 | frz o u=>exact ⟨o,y.1⟩
 | tbl ps=>exact ⟨_,y⟩
 | met f y'=>exact ⟨_,y⟩
 | ext φ=>exact y.2.1
theorem x1j {l:List Env}{env:Env}{b:Addr} (he:env∈l) (hf:env.frame=some b):b∈frs l:=List.mem_filterMap.mpr ⟨env,he,hf⟩
section
variable {P:Program}{w:World}{l:List Env}{H H':Hp}{h h' h'' B:Heap}{ea C t:Addr}
theorem Air.kp (x:Air P w l H H' h h' B ea C t) (st:B.StaysIn h'') (b:Addr) (u:HO) (o:Obj) (e:H' b=some u) (q:h'.get? b=some o):h''.get? b=some o:=by
 obtain ⟨o',e1⟩:=x.cov b u e
 have:=x.fly.1 b o' e1
 rw [q] at this;cases this
 exact st b o e1
end
section
variable {P:Program}{w:World}{K:PySem.W.Frag}{mg:Str->Option Value}{base:Heap}{N:List Str}{qual:Str}{scope:Scope}{f:Addr}{cd:Value}{A:Around}{outer:List Env}{s:Shared}{H:Hp}{E:XK}
theorem w3x {pins:List (Addr×Obj)}{σ:St}{H1:Hp}{s1:Shared}{h':Heap}{ea C:Addr}{vs:List Value} (I:Inv (q1X (CXR P w) P w K mg base N qual scope f cd A outer s H E) pins σ H1 s1)
  (hx:Heap.MadeExcOf s1.heap h' ea (.ref C) vs) (q:E (.ref C) none H1):(q1X (CXR P w) P w K mg base N qual scope f cd A outer s H E).xe (.ref ea) { s1 with heap:=h' }:=by
 let X:=q1X (CXR P w) P w K mg base N qual scope f cd A outer s H E
 let B:=PySem.W.hideAll s1.heap (frs X.stack)
 have hin:∀ env∈X.stack,∀ a,env.frame=some a->a∈frs X.stack:=fun env he a hf=>x1j he hf
 have stB:B.StaysIn s1.heap:=fun b o e=>PySem.W.of_hideAll _ e
 have nS:∀ b,b∉frs X.stack->∀ o,s1.heap.get? b=some o->B.get? b=some o:=fun b n o e=>PySem.W.hideAll_get _ e n
 show wpAny _ X.A (leaving X.env (.ref ea)) _ _ _
 refine wpAny_leaves_madeW (s:={ s1 with heap:=h' }) (base:=B) (outer:=outer) (L:=X.env.locals) I.ok.frames rfl stB (PySem.W.funFrames_hide I.stack hin) hx fun h2 t fl tup tn up=>?_
 have st2:=fl.1
 have bl:∀ b o,s.heap.get? b=some o->b∉frs outer->b∉frs X.stack:=fun b o e n z=>by
  rcases List.mem_cons.mp (I.stkSub b z) with y | y
  ·exact absurd (Heap.lt_size e) (by rw [y];exact Nat.not_lt.mpr I.ok.above)
  ·exact n y
 have noex:∀ b:Addr,b∉X.ex:=fun b z=>absurd (show b∈([] : List Addr) from z) (by simp)
 have cov:∀ b u,H1 b=some u->∃ o,B.get? b=some o:=fun b u e=>by
  have hb:b∉frs X.stack:=fun z=>by have:=I.stkFree b z;rw [e] at this;cases this
  obtain ⟨o,k⟩:=x3J I.hok e
  exact ⟨o,nS b hb o k⟩
 refine ⟨ea,C,t,H1,B,rfl,I.os,I.bare,⟨fl,cov,fun b o e n hb=>?_,fun b o e hb=>?_,⟨fun b o e n hb hx'=>?_,fun b o e n hb hx'=>?_,fun b o e n _=>I.base.free b o e n (noex b),fun b o e _=>?_,I.base.tups,I.base.frzs,I.base.tbls⟩,fun b u e=>?_⟩,q⟩
 ·exact nS b (bl b o e hb) o (I.base.keep b o e n hb (noex b))
 ·obtain ⟨o',k⟩:=I.base.there b o e (noex b)
  exact ⟨o',nS b (bl b o e hb) o' k⟩
 ·exact st2 b o (nS b (bl b o e hb) o (I.base.keep b o e n hb (noex b)))
 ·obtain ⟨sl,k⟩:=I.base.slot b o e n hb (noex b)
  obtain ⟨_,o',k1,k2⟩:=Heap.FunFrames.mem I.funs hb
  rw [k] at k1;cases k1
  obtain ⟨sl',k3⟩:=up b _ (hx.keeps _ _ k) k2
  exact ⟨sl',k3⟩
 ·obtain ⟨o',k⟩:=I.base.there b o e (noex b)
  by_cases hb:b∈frs outer
  ·obtain ⟨_,o2,k1,_⟩:=Heap.FunFrames.mem fl.2.2.1 hb
   exact ⟨o2,k1⟩
  ·exact ⟨o',st2 b o' (nS b (bl b o e hb) o' k)⟩
 ·refine (I.hok b u e).stay (fun c o hc k=>?_) (fun _ q=>q) fun _ _ q=>q
  have hcs:c∉frs X.stack:=fun z=>by
   have:=I.stkFree c z
   rcases hc with y | y
   ·rw [y,e] at this;cases this
   ·rw [y] at this;cases this
  exact st2 c o (nS c hcs o k)
theorem q0c {E':XK} (hE:∀ c H',E' c none H'->E c none H'):q0z (CXR P w) (q1X (CXR P w) P w K mg base N qual scope f cd A outer s H E) E':=by
 intro pins σ H1 s1 e s' I h
 obtain ⟨ea,C,t,H',B,rfl,os,bare,x,q⟩:=h
 let X:=q1X (CXR P w) P w K mg base N qual scope f cd A outer s H E
 have noex:∀ b:Addr,b∉X.ex:=fun b z=>absurd (show b∈([] : List Addr) from z) (by simp)
 have bl:∀ b o,s.heap.get? b=some o->b∉frs outer->b∉frs X.stack:=fun b o e n z=>by
  rcases List.mem_cons.mp (I.stkSub b z) with y | y
  ·exact absurd (Heap.lt_size e) (by rw [y];exact Nat.not_lt.mpr I.ok.above)
  ·exact n y
 have sub:∀ b∈frs outer,b∈frs X.stack:=fun b hb=>by
  obtain ⟨env,he,hf⟩:=List.mem_filterMap.mp hb
  exact x1j (List.mem_cons_of_mem _ he) hf
 show wpAny _ X.A (leaving X.env (.ref ea)) _ _ _
 refine wpAny_leaves_onW (base:=B) (outer:=outer) (L:=X.env.locals) I.ok.frames rfl x.fly fun h2 fl up=>?_
 have st2:=fl.1
 refine ⟨ea,C,t,H',B,rfl,os.trans I.os,bare,⟨fl,x.cov,fun b o e n hb=>?_,fun b o e hb=>?_,⟨fun b o e n hb hx'=>?_,fun b o e n hb hx'=>?_,fun b o e n _=>?_,fun b o e _=>?_,fun b xs e=>x.un.tups b xs (I.base.tups b xs e),fun b o xs e=>x.un.frzs b o xs (I.base.frzs b o xs e),fun b ps e=>?_⟩,fun b u e=>?_⟩,hE _ _ q⟩
 ·exact x.old b o (I.base.keep b o e n hb (noex b)) (I.base.free b o e n (noex b)) (bl b o e hb)
 ·obtain ⟨o',k⟩:=I.base.there b o e (noex b)
  exact x.all b o' k (bl b o e hb)
 ·exact st2 b o (x.old b o (I.base.keep b o e n hb (noex b)) (I.base.free b o e n (noex b)) (bl b o e hb))
 ·obtain ⟨sl,k⟩:=I.base.slot b o e n hb (noex b)
  obtain ⟨sl1,k1⟩:=x.un.slot b _ k (I.base.free b o e n (noex b)) (sub b hb) (by simp)
  obtain ⟨_,o',k2,k3⟩:=Heap.FunFrames.mem x.fly.2.2.1 (sub b hb)
  rw [k1] at k2;cases k2
  obtain ⟨sl2,k4⟩:=up b _ k1 k3
  exact ⟨sl2,k4⟩
 ·obtain ⟨o',k⟩:=I.base.there b o e (noex b)
  exact x.un.free b o' k (I.base.free b o e n (noex b)) (by simp)
 ·obtain ⟨o',k⟩:=I.base.there b o e (noex b)
  by_cases hb:b∈frs outer
  ·obtain ⟨_,o2,k1,_⟩:=Heap.FunFrames.mem fl.2.2.1 hb
   exact ⟨o2,k1⟩
  ·obtain ⟨o2,k2⟩:=x.all b o' k (bl b o e hb)
   exact ⟨o2,st2 b o2 k2⟩
 ·obtain ⟨m1,e1⟩:=I.base.tbls b ps e
  obtain ⟨m2,e2⟩:=x.un.tbls b _ e1
  exact ⟨m1++m2,by rw [e2,Array.append_assoc]⟩
 ·exact (x.hok b u e).stay (fun c o hc k=>by
   rcases hc with z | z
   ·rw [z] at k ⊢;exact x.kp st2 b u o e k
   ·exact x.kp st2 c _ o z k) (fun _ q=>q) fun _ _ q=>q
end
end L2
end
section
namespace L2
open PySem PySem.Spec PyProof.Rows
section
variable {P:Program}{w:World}{K:PySem.W.Frag}{mg:Str->Option Value}{base:Heap}{N:List Str}{qual:Str}{scope:Scope}{f:Addr}{cd:Value}{A:Around}{outer:List Env}{s:Shared}{H:Hp}{E:XK}
theorem x3K {x:Str}{np cpos pos:Pos}{e0:Expr}{q0I:List Expr}{C:Addr}{bmB:List Value}{newId initId Bn:String}{ta:TA} (O:OwnCls x C bmB newId mg base) (FB:ExcBaseFacts Bn newId initId bmB)
  (hg:Gl (q1X (CXR P w) P w K mg base N qual scope f cd A outer s H E) x) (ha:PA (q1X (CXR P w) P w K mg base N qual scope f cd A outer s H E) (e0::q0I) ta)
  (he:starEach (e0::q0I) (q1X (CXR P w) P w K mg base N qual scope f cd A outer s H E).env=(false,eval e0 (q1X (CXR P w) P w K mg base N qual scope f cd A outer s H E).env)::starEach q0I (q1X (CXR P w) P w K mg base N qual scope f cd A outer s H E).env:=by rfl)
  (hdb:(x == ("__debug__" : Str))=false:=by decide) (hpl:(backTo cpos (starEach q0I (q1X (CXR P w) P w K mg base N qual scope f cd A outer s H E).env)).any (·.1)=false:=by rfl) :
  PS (q1X (CXR P w) P w K mg base N qual scope f cd A outer s H E) (.Raise (some (.Call (.Name x np) (e0::q0I) [] cpos)) none pos) (fun D σ H1=>ta σ H1 fun vs H2=>vs.length<=sizeLine/\E (.ref C) none H2):=by
 intro pins s1 σ H1 D I h
 obtain ⟨tl,Nn,nm,q,bs,hdct,sn,sub,ab,col,dd,k0,k1,k2,k3,k5,mN,hC,hN,hni,T⟩:=O.obj
 refine wpAny_Raise_call_subT (C:=C) (nm:=nm) (q:=q) (N:=Nn) (bs:=bs) (bm:=tl) (hdct:=hdct) (sn:=sn) (sub:=sub) (ab:=ab) (col:=col) (dd:=dd) (k0:=k0) (k1:=k1) (k2:=k2) (k3:=k3) (k5:=k5)
  FB (mN:=mN) (T.hasType FB.hasBase) (I.ok.hd rfl) ?_ hni (w5n I hg O.bound ⟨rfl,?_⟩ hdb)
 ·rw [he]
  show (false || _)=false
  rw [Bool.false_or];exact hpl
 ·have hx:=ha cpos pins s1 σ H1 _ I h
  rw [he] at hx ⊢
  refine Calls.evalArgs_plain (thn hx fun us s2 ⟨vs,H2,I2,r2,z,qE⟩=>?_)
  have kb:∀ b o,base.get? b=some o->s2.heap.get? b=some o:=I2.bk
  exact ⟨rfl,by show us.length<=sizeLine;rw [<- r2.length];exact z,kb _ _ hC,hN.keeps kb,T.keeps kb,fun h' ea hm=>w3x I2 hm qE⟩
end
structure y1P (base:Heap) (C:Addr) (bm:List Value):Prop where
 obj:∃ nm q N bs hdct sn sub ab col dd k0 k1 k2 k3 k5 newId,base.get? C=some (excClassObj nm q C N bs bm hdct sn sub ab col dd k0 k1 k2 k3 k5 newId)
 exc:bm.contains (.type "BaseException")=true
end L2
end
section
namespace L2
open PySem PySem.Spec PyProof.Rows
section
variable {prog:Program}{w:World}{A:Around}{E:Value->Shared->Prop}{s:Shared}{K:PySem.W.Frag}{x C:Addr}{R:Result->Shared->Prop}
end
section
variable {X:Cx}
end
end L2
end
section
namespace L2
open PySem PySem.Spec PyProof.Rows
section
variable {P:Program}{w:World}{K:PySem.W.Frag}{mg:Str->Option Value}{base:Heap}
end
section
variable {X:Cx}{k:Nat}{f:Addr}{fd:FuncData}{ps:List Str}{sp:Sp}{x:Str}{p pos:Pos}{e:Expr}{es:List Expr}{t:TA}
end
end L2
end
section
namespace L2
open PySem PySem.Spec PyProof.Rows
section
variable {X:Cx}
def tyD:PyData->String
 | .none=>"NoneType" | .bool _=>"bool" | .int _=>"int" | .str _=>"str" | .list _=>"list" | .tuple _=>"tuple" | .dict _=>"dict"
theorem w98 {pins:List (Addr×Obj)}{σ:St}{H:Hp}{s:Shared}{A:Around}{E:Value->Shared->Prop}{Q:Value->Shared->Prop}{c:Value}{b:Bool}{x:V}{d:PyData}{u:Value} (I:Inv X pins σ H s) (rx:q1Z x u) (r:Rep X.K H x d) (e:PySem.W.kitOne X.K (.type (tyD d)) c=some b) (h:∀ tk,Q (.bool b) { s with toks:=tk }) :
  wpAny (model X.prog X.w) A (call (.builtin "isinstance") [u,c]) Q E s:=by
 cases r with
 | none=>exact q61 I rx .non e h
 | bool y=>exact q61 I rx (.bl y) e h
 | int i=>exact q61 I rx (.int i) e h
 | str y=>exact q61 I rx (.str y) e h
 | list hq _ =>
  cases rx
  obtain ⟨its,rv,⟨o,n,ho,c,_,dd⟩,_⟩:=I.list hq
  exact PySem.W.kia_one PySem.W.kitx_list I.kIn ⟨o,ho,c⟩ e (fun z=>nomatch z) h
 | tuple hq _ =>
  cases rx
  obtain ⟨its,rv,⟨o,ho,c,n,dd⟩,_⟩:=I.tuple hq
  exact PySem.W.kia_one PySem.W.kitx_tuple I.kIn ⟨o,ho,c⟩ e (fun z=>nomatch z) h
theorem x3L:q4y X (.builtin "isinstance") (fun xs H Q=>∃ x d T b,xs=[x,.ty T]/\Rep X.K H x d/\PySem.W.kitOne X.K (.type (tyD d)) (.type T)=some b/\Q (.bl b) H):=by
 intro pins s σ H xs us Q I r h
 obtain ⟨x,d,T,b,rfl,rp,e,q⟩:=h
 obtain ⟨u,v,rfl,ru,rv⟩:=x7V r
 obtain rfl:v=.type T:=rv
 exact w98 I ru rp e fun tk=>⟨.bl b,H,I.tok tk,rfl,q⟩
end
end L2
end
section
namespace HT
open PySem PyProof.Rows
section
variable {prog:Program}{w:World}{A:Around}{E:Value->Shared->Prop}{s:Shared}
theorem w5B {t sl:Addr}{items:Array Value}{vl vu:Value}{lo hi:Option Int}{Q:Value->Shared->Prop} (ht:IsTup s.heap t items) (hs:s.heap.IsSliceOf sl vl vu .none) (pl:IsPart vl lo) (pu:IsPart vu hi)
  (hw:sIx items.size 0 lo=0/\sIx items.size items.size hi=items.size) (h:Q (.ref t) s):wpAny (model prog w) A (getItem (.ref t) (.ref sl)) Q E s:=by
 obtain ⟨os,hos,hcs,hds⟩:=id hs
 have hTs:s.TypeIs (.ref sl) "slice":=⟨os,hos,hcs⟩
 unfold getItem
 try with_reducible refine wpAny_holding ?_
 first | refine wpAny_bind (wpAny_pure ?_) | skip
 refine wpAny_bind (wpAny_sequenceKey ht.typeIs (by decide) ?_)
 refine wpAny_bind (wpAny_callSpecial?_slot (name:=Str.ofString "__getitem__") ht.typeIs PyProof.Rows.slot_tuple_getitem
  (wpAny_call_entry PyProof.Rows.slot_tuple_getitem ht.typeIs entry_tuple_getitem ?_ (args_tuple_getitem _ _)))
 show wpAny _ _ (Builtin.Tuple.tupleItemsOf (.ref t) >>= _) _ _ s
 refine wpAny_bind (tupleItemsOf_ ht ?_)
 refine wpAny_bind (wpAny_typeOf hTs ?_)
 rw [if_pos (by decide)]
 refine wpAny_bind (q4p hs pl pu ?_)
 have hyes:((((sIx items.size 0 lo:Nat):Int) == 0 && (1:Int) == 1 && (sIx items.size items.size hi - sIx items.size 0 lo) == items.size)=true):=by
  rw [hw.1,hw.2];simp
 show wpAny _ _ (if (((sIx items.size 0 lo:Nat):Int) == 0 && (1:Int) == 1 && (sIx items.size items.size hi - sIx items.size 0 lo) == items.size)=true then _ else _) _ _ s
 rw [if_pos hyes]
 refine wpAny_bind ?_
 unfold Builtin.Tuple.tupleIsExact
 refine wpAny_bind (wpAny_typeOf ht.typeIs (wpAny_pure ?_))
 rw [if_pos (by decide)]
 refine wpAny_bind (wpAny_rule ?_)
 first
  | exact wpAny_pure (wpAny_pure ⟨_,rfl,h⟩)
  | exact wpAny_pure ⟨_,rfl,wpAny_pure h⟩
  | exact wpAny_bind (wpAny_pure (wpAny_pure ⟨_,rfl,wpAny_pure h⟩))
  | exact wpAny_bind (wpAny_pure (wpAny_pure ⟨_,rfl,h⟩))
end
end HT
namespace L2
open PySem PySem.Spec PyProof.Rows
section
variable {X:Cx}
inductive x4Y (K:PySem.W.Frag) (x:V) (lo:Option Int) (hi:Option Int) (H:Hp) (Q:VK):Prop
 | mk (a xs:_) (h0:x=.ref a) (h1:SqT K H a xs) (h2:(HT.sIx xs.length 0 lo=0/\HT.sIx xs.length xs.length hi=xs.length)) (h3:Q (.ref a) H):x4Y K x lo hi H Q
def y0g (K:PySem.W.Frag):V->Option Int->Option Int->Hp->VK->Prop:=x4Y K
theorem x6y:SlR X (y0g X.K):=by
 intro pins s σ H x v vl vu lo hi sl Q I rx hs pl pu h
 obtain ⟨a,xs,rfl,hx,hw,q⟩:=h
 cases rx
 obtain ⟨its,r,ht,hz⟩:=I.tuple hx
 have hlen:its.toArray.size=xs.length:=by rw [List.size_toArray];exact r.length.symm
 exact ⟨"tuple",_,PyProof.Rows.slot_tuple_getitem.lookup,ht.typeIs,HT.w5B ht hs pl pu (by rw [hlen];exact hw) ⟨.ref a,H,I,rfl,q⟩⟩
theorem q44 {H:Hp}{p:Addr}{o:HO} (h:H p=none):q29 H (upd H p o):=fun b u e=>by rw [q0j (q0o e h)];exact e
theorem w02 (hc:X.calm=true):q4y X (.type "list") (fun xs H Q=>∃ a kvs,xs=[.ref a]/\H a=some (.dK kvs)/\∀ l,H l=none->Q (.ref l) (upd H l (.lst (kvs.map fun p=>kV p.1)))):=by
 intro pins s σ H xs us Q I r h
 obtain ⟨a,kvs,rfl,hH,q⟩:=h
 obtain ⟨u,rfl,rx⟩:=q4A r
 cases rx
 obtain ⟨hz,hs,vs,rk,hd⟩:=(show q1d X.prog X.w H s.heap a (.dK kvs) from I.hok a _ hH)
 obtain ⟨ep,hat⟩:∃ ep,s.heap.DictAt (q0T X.prog X.w) a vs ep:=by
  obtain ⟨o,es,ep,h1,h2,h3,h4⟩:=hd
  exact ⟨ep,o,es,h1,h2,h3,h4⟩
 have hlen:kvs.length=vs.length:=Paired.length rk
 refine PySem.W.kdl_call (PySem.W.kdl_dict hs) (I.ok.hd hc) hat (by omega) fun h' tk acc' c' kp e hacc=>?_
 have rv:q28 (kvs.map fun p=>kV p.1) acc'.toList:=by
  have key:∀ {kvs:List (Key×V)}{vs:List (Key×Value)} (acc:List Value),KV kvs vs->acc.length=vs.length->(∀ (j:Nat) (v:Value),acc[j]?=some v->∃ k x,vs[j]?=some (k,x)/\w5k k v=true)->q28 (kvs.map fun p=>kV p.1) acc:=by
   intro kvs
   induction kvs with
   | nil=>intro vs acc rk hl _;cases rk;cases acc with
    | nil=>exact .nil
    | cons _ _=>simp at hl
   | cons p kvs ih =>
    intro vs acc rk hl hv
    cases rk with
    | cons h1 t1 =>
     cases acc with
     | nil=>simp at hl
     | cons v acc =>
      refine .cons ?_ (ih acc t1 (by simpa using hl) fun j v hj=>by simpa using hv (j + 1) v (by simpa using hj))
      obtain ⟨k,x,e1,e2⟩:=hv 0 v rfl
      simp only [List.getElem?_cons_zero,Option.some.injEq] at e1
      subst e1
      have hk:p.1=k:=h1.1
      rcases q17 e2 with ⟨i,t,e,rfl⟩ | ⟨i,t,e,rfl⟩
      ·show q1Z (kV p.1) _;rw [hk,e];exact ⟨t,rfl⟩
      ·show q1Z (kV p.1) _;rw [hk,e];exact ⟨t,rfl⟩
  exact key acc'.toList rk (by rw [Array.length_toList];exact hacc.1) fun j v hj=>hacc.2 j v (by rw [<- Array.getElem?_toList];exact hj)
 exact ⟨.ref s.heap.objs.size,_,I.laid (t':=tk) kp (Nat.le_refl _) (show q1d X.prog X.w _ h' _ (.lst _) from ⟨by simpa using hz,acc'.toList,c',rv,by rw [Array.toArray_toList];exact e⟩),rfl,q _ (I.hok.fresh (Nat.le_refl _))⟩
def w5C (x:Str):List V:=x.cps.toList.map fun c=>V.str ⟨#[c]⟩
theorem q8P (hc:X.calm=true):q4y X (.type "tuple") (fun xs H Q=>∃ x,xs=[.str x]/\x.cps.size<=sizeLine/\∀ l,H l=none->Q (.ref l) (upd H l (.tup (w5C x)))):=by
 intro pins s σ H xs us Q I r h
 obtain ⟨x,rfl,hz,q⟩:=h
 obtain ⟨u,rfl,rx⟩:=q4A r
 obtain ⟨t,rfl⟩:=rx
 refine call_tuple_str (I.ok.hd hc) x t (fun h' tk acc kp hacc=>?_) hz
 have I1:Inv X pins σ H { s with heap:=h',toks:=tk }:=I.kept (t':=tk) kp
 have rv:q28 (w5C x) acc.toList:=by
  have key:∀ (cs:List Nat) (acc:List Value),acc.length=cs.length->(∀ (j:Nat) (v:Value),acc[j]?=some v->∃ c u,cs[j]?=some c/\v=.str ⟨#[c]⟩ u)->q28 (cs.map fun c=>V.str ⟨#[c]⟩) acc:=by
   intro cs
   induction cs with
   | nil=>intro acc hl _;cases acc with
    | nil=>exact .nil
    | cons _ _=>simp at hl
   | cons c cs ih =>
    intro acc hl hv
    cases acc with
    | nil=>simp at hl
    | cons v acc =>
     obtain ⟨c',u,e1,rfl⟩:=hv 0 v rfl
     simp only [List.getElem?_cons_zero,Option.some.injEq] at e1
     subst e1
     exact .cons ⟨u,rfl⟩ (ih acc (by simpa using hl) fun j v hj=>by simpa using hv (j + 1) v (by simpa using hj))
  refine key x.cps.toList acc.toList (by rw [Array.length_toList,Array.length_toList];exact hacc.1) fun j v hj=>?_
  obtain ⟨c,u,e1,e2⟩:=hacc.2 j v (by rw [<- Array.getElem?_toList];exact hj)
  exact ⟨c,u,by rw [Array.getElem?_toList];exact e1,e2⟩
 have I2:Inv X pins σ (upd H h'.objs.size (.tup (w5C x))) { s with heap:=h'.push { cls:=.type "tuple",data:=.seq acc },toks:=tk } :=
  I1.laid (t':=tk) (fun b o e=>Heap.get?_push_of_some _ e) (Nat.le_refl _) (show q1d X.prog X.w _ _ _ (.tup (w5C x)) from ⟨by unfold w5C;simpa using hz,acc.toList,rv,by rw [Array.toArray_toList];exact IsTup.new _ _⟩)
 exact ⟨.ref h'.objs.size,_,I2,rfl,q _ (I1.hok.fresh (Nat.le_refl _))⟩
end
end L2
end
section
namespace L2
open PySem PySem.Spec PyProof.Rows
theorem w3y (elt target iter:Expr) (ifs:List Expr) (scope:Scope) (pos:Pos) (it acc:Value) (env:Env) :
  compTurn (.SetComp elt [⟨target,iter,ifs,0⟩] scope pos) 0 it acc env=(do
   standAt iter.pos
   let r <- pyNext it
   match r with
   | none=>pure (.done .next)
   | some v =>
    letOwnedTupleGo target it v
    assign target env v
    let mut ok:=true
    for c in ifs do
     if ok then ok <- isTrue c env (eval c env)
    if ok then
     (do let v <- eval elt env;standAt elt.pos;let _ <- call (.builtin "set.add") [acc,v])
    again (.compLoop (.SetComp elt [⟨target,iter,ifs,0⟩] scope pos) 0 it acc env)):=by rfl
section
variable {prog:Program}{w:World}{A:Around}{E:Value->Shared->Prop}{R:Result->Shared->Prop}{s:Shared}
theorem q4C {elt target iter ifs q0I scope pos it acc env}
  (h0:codeAny (model prog w) A (.compLoop (.SetComp elt (⟨target,iter,ifs,0⟩::q0I) scope pos) 0 it acc env) R s)
  (h:wpAny (model prog w) A (pyIter it) (fun it' s'=>codeAny (model prog w) A (.compLoop (.SetComp elt (⟨target,iter,ifs,0⟩::q0I) scope pos) 0 it' acc env) R s')
   (notedBy (model prog w) A env fun x s'=>R (.error x) s') s) :
  codeAny (model prog w) A (.compStart (.SetComp elt (⟨target,iter,ifs,0⟩::q0I) scope pos) 0 it acc env) R s:=by
 refine codeAny_of_tree ?_
 show wpAny _ _ ((compStart (.SetComp elt (⟨target,iter,ifs,0⟩::q0I) scope pos) 0 it acc env).onRaise (fun x=>do noteFrame x env;standAt theWindowsPlace)) _ _ s
 refine wpAny_notedAt ?_
 unfold compStart
 show wpAny _ _ (ask >>= _) _ _ s
 refine wpAny_bind (wpAny_askSetting (wpAny_ite ?_))
 split
 ·first
   | exact wpAny_bind (wpAny_pure (wpAny_pure (And.intro rfl h0)))
   | exact wpAny_pure (And.intro rfl h0)
 ·first
   | exact wpAny_bind (wpAny_rule (wpAny_bind (wpAny_standAt (wpAny_bind (wpAny_mono h (fun it' s' hq=>wpAny_pure (And.intro rfl hq)) fun _ _ x=>x)))))
   | (refine wpAny_bind (wpAny_rule ?_);show wpAny _ _ (standAt iter.pos >>= _) _ _ s;exact wpAny_bind (wpAny_standAt (wpAny_bind (wpAny_mono h (fun it' s' hq=>wpAny_pure (And.intro rfl hq)) fun _ _ x=>x))))
theorem q69 {Q:Value->Shared->Prop} (h:Q (.ref s.heap.objs.size) { s with heap:=s.heap.push (q1p w) }):wpAny (model prog w) A (newSet (.type "set")) Q E s:=by
 unfold newSet setsByText
 refine wpAny_bind (wpAny_bind (wpAny_askSetting (wpAny_pure ?_)))
 dsimp only
 simp only [newObj]
 exact wpAny_bind (wpAny_alloc (wpAny_pure h))
theorem w1v {a:Addr}{ss:List Str}{x:Str}{tk:Tok}{Q:Value->Shared->Prop} (hS:q80 w s.heap a ss) (hr:ss.length + 1<scanBound)
  (h:∀ h' tk',Heap.SameBut a s.heap h'->q80 w h' a (if x∈ss then ss else ss++[x])->Q .none { s with heap:=h',toks:=tk' }) :
  wpAny (model prog w) A (call (.builtin "set.add") [.ref a,.str x tk]) Q E s:=by
 have hT:s.TypeIs (.ref a) "set":=by obtain ⟨es,ep,t,I,_⟩:=id hS;exact ⟨_,I.at_,rfl⟩
 refine wpAny_call_entry F.slot_set_add hT F.entry_set_add ?_ (F.args_set_add_2 _ _)
 unfold Builtin.«set.add» Builtin.Frozenset.oneOther
 simp only [List.isEmpty_nil,bind_assoc]
 unfold Builtin.Frozenset.addrOf
 refine wpAny_bind (wpAny_pure ?_)
 try dsimp only
 refine wpAny_bind (wpAny_pure ?_)
 try dsimp only
 refine wpAny_bind ?_
 refine w80 hS hr fun h' tk' sb hS'=>?_
 exact wpAny_pure ⟨_,rfl,h h' tk' sb hS'⟩
end
section
variable {prog:Program}{w:World}{A:Around}{R:Result->Shared->Prop}{s:Shared}
theorem w5D {elt target iter:Expr}{ifs:List Expr}{scope:Scope}{pos:Pos}{it acc:Value}{env:Env} (I:Nat->Shared->Prop)
  (turn:∀ n s,I n s->wpAny (model prog w) A (pyNext it) (fun r s₁=>match r with
   | none=>R (.ok .next) s₁
   | some v=>wpAny (model prog w) A (letOwnedTupleGo target it v) (fun _ s₁'=>wpAny (model prog w) A (assign target env v) (fun _ s₂ =>
     wpAny (model prog w) A (forIn ifs true fun c r=>if r=true then do let ok <- isTrue c env (eval c env);pure (ForInStep.yield ok) else pure (ForInStep.yield r)) (fun ok s₃ =>
      if ok=true then wpAny (model prog w) A (eval elt env) (fun x s₄ =>
       wpAny (model prog w) A (call (.builtin "set.add") [acc,x]) (fun _ s₅=>∃ m,m<n/\I m s₅) (fun _ _=>False) s₄) (fun _ _=>False) s₃
      else ∃ m,m<n/\I m s₃) (fun _ _=>False) s₂) (fun _ _=>False) s₁') (fun _ _=>False) s₁) (fun _ _=>False) s)
  (n:Nat) (h:I n s) :
  codeAny (model prog w) A (.compLoop (.SetComp elt [⟨target,iter,ifs,0⟩] scope pos) 0 it acc env) R s:=by
 refine codeAny_loop rfl I (fun n s hI=>?_) n h
 show wpAny _ A ((compTurn (.SetComp elt [⟨target,iter,ifs,0⟩] scope pos) 0 it acc env).onRaise (fun x=>do noteFrame x env;theTreesLotGoes x)) _ _ s
 refine wpAny_noted ?_
 rw [w3y]
 have nf:∀ {α:Type}{t:Sem α}{Q:α->Shared->Prop}{E':Value->Shared->Prop}{s:Shared},wpAny (model prog w) A t Q (fun _ _=>False) s->wpAny (model prog w) A t Q E' s :=
  fun h=>wpAny_mono h (fun _ _ q=>q) fun _ _ f=>f.elim
 refine wpAny_bind (wpAny_standAt (wpAny_bind (nf (wpAny_mono (turn n s hI) (fun r s₁ h₁=>?_) fun _ _ h'=>h'))))
 cases r with
 | none=>exact wpAny_pure h₁
 | some v =>
  refine wpAny_bind (nf (wpAny_mono h₁ (fun _ s₁' h₁'=>?_) fun _ _ h'=>h'))
  refine wpAny_bind (nf (wpAny_mono h₁' (fun _ s₂ h₂=>wpAny_bind (nf (wpAny_mono h₂ (fun ok s₃ h₃=>?_) fun _ _ h'=>h'))) fun _ _ h'=>h'))
  cases ok with
  | false=>exact wpAny_pure ⟨rfl,h₃⟩
  | true =>
   exact wpAny_bind (wpAny_bind (nf (wpAny_mono h₃ (fun x s₄ h₄=>wpAny_bind (wpAny_standAt (wpAny_bind (nf (wpAny_mono h₄ (fun _ s₅ h₅=>wpAny_pure (wpAny_pure ⟨rfl,h₅⟩)) fun _ _ h'=>h'))))) fun _ _ h'=>h')))
end
inductive SLI (X:Cx) (pins:List (Addr×Obj)) (N':List Str) (scope:Scope) (cl:List (Str×Addr)) (C:Addr) (s2:Shared) (H2:Hp) (fp:List Addr) (nt:Nat) (ix:List Nat) (σ:St) (tn:Nat->Heap->Prop) (W:Nat->Nat->List Str->Hp->Prop) (n:Nat) (s':Shared):Prop
 | mk (i:Nat) (acc:List Str) (oD:Obj) (H':Hp) (I:Inv (q0M X N' scope cl C s2 H2 fp (X.pn++pins)) [(s2.heap.objs.size,oD)] (q5X nt ix σ) H' s') (S:q80 X.w s'.heap s2.heap.objs.size acc) (t:tn i s'.heap) (f:∀ b∈fp,H' b=none) (w:W i n acc H'):SLI X pins N' scope cl C s2 H2 fp nt ix σ tn W n s'
theorem x1k {X:Cx}{elt tg iter:Expr}{ifs:List Expr}{scope:Scope}{pos:Pos}{g:TG}{tt:TT}{te:TE}{N':List Str}{nt:Nat}{ix:List Nat}
  (hc:X.calm=true) (S:q5m X scope N' nt ix) (lo:Low nt g)
  (hb:∀ cl C s₀ H₀ ex pn,PG (q0M X N' scope cl C s₀ H₀ ex pn) tg g/\PTs (q0M X N' scope cl C s₀ H₀ ex pn) ifs tt/\PE (q0M X N' scope cl C s₀ H₀ ex pn) elt te)
  {cl:List (Str×Addr)} (c1:∀ x c,cl.lookup x=some c->X.env.cells.lookup x=some c) (c2:∀ y∈scope.names,y.2=.free->∃ c,cl.lookup y.1=some c)
  {pins:List (Addr×Obj)}{σ:St}{H2:Hp}{s2:Shared}{it:Addr}{fp:List Addr}{tn:Nat->Heap->Prop}{J:It}{Q:VK}{E:Value->Shared->Prop}
  (I2:Inv X pins σ H2 s2) (T:x0Q X.prog X.w X.K tg J fp it tn) (st2:tn 0 s2.heap) (f2:∀ b∈fp,w3c X pins H2 b)
  {W:Nat->Nat->List Str->Hp->Prop} (w0:∃ m,W 0 m [] H2)
  (turn:∀ i m acc H,W i m acc H->(J.stop i H/\∀ p,H p=none->Q (.ref p) (upd H p (SetO X.w p acc))) \/
   (J.go i H/\acc.length + 1<scanBound/\∀ x H',J.yld i H x H'->g x (q5X nt ix σ) H' fun σ2 H2=>tt σ2 H2 fun b H3 =>
    if b=true then te σ2 H3 fun y H4=>∃ z m',y=.str z/\m'<m/\W (i + 1) m' (if z∈acc then acc else acc++[z]) H4 else ∃ m',m'<m/\W (i + 1) m' acc H3))
  {RR:Value->Addr->Result->Shared->Prop}
  (hRR:∀ D C m s' (acc:List Str) H',H' D=none->w3c X pins (upd H' D (SetO X.w D acc)) C->Q (.ref D) (upd H' D (SetO X.w D acc))->s'.heap.Ns C m->(∀ h',Heap.SameBut C s'.heap h'->Inv X pins σ (upd H' D (SetO X.w D acc)) { s' with heap:=h' })->RR (.ref D) C (.ok .next) s') :
  wpAny (model X.prog X.w) X.A (newSet (.type "set")) (fun acc s₃=>wpAny (model X.prog X.w) X.A (newFunctionEnv scope X.env.globals cl [] X.env.qual none .none (some X.env)) (fun cenv s₄ =>
   codeAny (model X.prog X.w) X.A (.compStart (.SetComp elt [⟨tg,iter,ifs,0⟩] scope pos) 0 (.ref it) acc { cenv with scope:=relabel scope X.env }) (RR acc cenv.locals) s₄) E s₃) E s2:=by
 refine q69 (wpAny_newFunctionEnv S.nocell (by intro y hy;simp at hy) (fun h₁ hns₁ hsb₁=>?_) S.kind)
 dsimp only at hns₁ hsb₁ ⊢
 generalize hG2:s2.heap.push (q1p X.w)=G2 at hns₁ hsb₁ ⊢
 have hC:G2.objs.size=s2.heap.objs.size + 1:=by rw [<- hG2,Heap.size_push]
 have hDC:s2.heap.objs.size≠G2.objs.size:=by rw [hC];exact Nat.ne_of_lt (Nat.lt_succ_self _)
 have hCle:s2.heap.objs.size<=G2.objs.size:=by rw [hC];exact Nat.le_succ _
 have below:∀ b,b<s2.heap.objs.size->b≠G2.objs.size:=fun b hb=>by rw [hC];exact Nat.ne_of_lt (Nat.lt_succ_of_lt hb)
 have old:∀ b o,s2.heap.get? b=some o->h₁.get? b=some o:=fun b o e=>hsb₁.extBut b o (below b (Heap.lt_size e)) (Heap.get?_push_of_some _ (hG2 ▸ Heap.get?_push_of_some _ e))
 have hacc:h₁.get? s2.heap.objs.size=some (q1p X.w):=hsb₁.extBut _ _ hDC (Heap.get?_push_of_some _ (hG2 ▸ Heap.get?_push_size _ rfl))
 have ff:∀ b∈fp,b<s2.heap.objs.size:=fun b hb=>by
  obtain ⟨o,e,_⟩:=T.obj _ _ st2 b hb
  exact Heap.lt_size e
 have I3:Inv (q0M X N' scope cl G2.objs.size s2 H2 fp (X.pn++pins)) [] (q5X nt ix σ) H2 { s2 with heap:=h₁,toks:=s2.toks + ([] : List (Str×Value)).length }:=w7Y S I2 c1 c2 f2 ff hCle hns₁ old
 obtain ⟨pg,pt,pe⟩:=hb cl G2.objs.size s2 H2 fp (X.pn++pins)
 have hDfs:s2.heap.objs.size∉frs X.stack:=fun z=>by
  rcases List.mem_cons.mp (I2.stkSub _ z) with e | e
  ·exact absurd I2.lt (by rw [<- e];exact Nat.lt_irrefl _)
  ·exact I2.nofs (Nat.le_refl _) e
 have st1:tn 0 h₁:=T.keep _ _ _ st2 fun b _ o e=>old b o e
 have hDf:s2.heap.objs.size∉fp:=fun z=>absurd (ff _ z) (Nat.lt_irrefl _)
 have stat:∀ {H':Hp}{pl:List (Addr×Obj)},(∀ p∈pl,p.1∉fp)->(∀ b∈fp,H' b=none)->∀ b∈fp,w3c (q0M X N' scope cl G2.objs.size s2 H2 fp (X.pn++pins)) pl H' b:=fun hpl hn b hb=>by
  obtain ⟨f0,f1,f2',f3,f4,f5⟩:=f2 b hb
  refine ⟨hn b hb,below b (ff b hb),fun z=>?_,.inl hb,fun x c e=>f4 x c (c1 x c e),fun p hp z=>?_⟩
  ·rcases List.mem_cons.mp (I2.stkSub _ z) with e | e
   ·exact f1 e
   ·exact f2' e
  ·rcases List.mem_append.mp hp with q | q
   ·exact f5 p q z
   ·exact hpl p q (z ▸ hb)
 obtain ⟨m0,w0⟩:=w0
 have loop:codeAny (model X.prog X.w) X.A (.compLoop (.SetComp elt [⟨tg,iter,ifs,0⟩] scope pos) 0 (.ref it) (.ref s2.heap.objs.size) (compEnvC scope cl G2.objs.size X.env))
    (RR (.ref s2.heap.objs.size) G2.objs.size) { s2 with heap:=h₁,toks:=s2.toks + ([] : List (Str×Value)).length }:=by
  refine w5D (SLI X pins N' scope cl G2.objs.size s2 H2 fp nt ix σ tn W) ?_ m0
   ⟨0,[],_,H2,I3.pin1 hacc (I2.hok.fresh (Nat.le_refl _)) hDC hDfs (fun v z=>nomatch z),w3s X.w hacc,st1,fun b hb=>(f2 b hb).1,w0⟩
  rintro n s3 ⟨i,acc,oD,H3,J3,hS3,st3,fr3,w3⟩
  have plD:∀ p∈[(s2.heap.objs.size,oD)],p.1∉fp:=fun p hp=>by
   have:p=(s2.heap.objs.size,oD):=by simpa using hp
   rw [this];exact hDf
  have stS:∀ {s8:Shared},s8.heap.get? s2.heap.objs.size=some oD->q80 X.w s8.heap s2.heap.objs.size acc:=fun {s8} e=>hS3.keep fun o eo=>by
   have q:=(J3.pin (s2.heap.objs.size,oD) (List.mem_append_right _ (List.mem_singleton.mpr rfl))).1
   rw [q] at eo;cases eo;exact e
  rcases turn i n acc H3 w3 with ⟨stop,qn⟩ | ⟨go,hlt,step⟩
  ·refine thn (T.done (q0M X N' scope cl G2.objs.size s2 H2 fp (X.pn++pins)) rfl rfl rfl hc i _ s3 _ H3 _ J3 (stat plD fr3) st3 stop) fun r s4 h_0=>?_
   obtain ⟨hr,I4⟩:=h_0
   subst hr
   obtain ⟨pD,pN,_⟩:=I4.pin (s2.heap.objs.size,_) (List.mem_append_right _ (List.mem_singleton.mpr rfl))
   obtain ⟨mm,hn,_⟩:=I4.loc
   have hCn:H3 G2.objs.size=none:=I4.free
   refine hRR _ _ mm s4 acc H3 pN (I2.fpOk hCle (by rw [q0j (Ne.symm hDC)];exact hCn)) (qn _ pN) hn fun h' sb=>?_
   have hu:Un (frs X.stack) fp H2 (upd H3 s2.heap.objs.size (SetO X.w s2.heap.objs.size acc)) s2.heap h':=Un.grow I4.base sb hCle (Nat.le_refl _) pN
   refine I2.call' (s':={ s4 with heap:=h' }) (ch:=fp) I4.os hu ?_ I4.bare fun b hb=>?_
   ·exact q8H (w7Z I4.hok hCn sb) pN (w5z ((stS pD).keep fun o e=>(sb.2 _ hDC).trans e))
   ·obtain ⟨_,f1,_,f3,f4,f5⟩:=f2 b hb
    exact ⟨f3,f1,f4,f5⟩
  ·refine thn (T.item (q0M X N' scope cl G2.objs.size s2 H2 fp (X.pn++pins)) rfl rfl rfl hc i _ s3 _ H3 _ J3 (stat plD fr3) st3 go) fun r s4 h_1=>?_
   obtain ⟨u,hr,h4⟩:=h_1
   subst hr
   refine thn h4 fun _ s5 h_2=>?_
   obtain ⟨x,H5,I5,r5,y5,st5,fr5⟩:=h_2
   have I5':=I5.pinned (stat plD fr5) (T.obj _ _ st5)
   refine thn (pg _ s5 _ H5 x u _ I5' r5 (lo _ _ _ _ (step x H5 y5))) fun _ s6 h_3=>?_
   obtain ⟨σ6,H6,I6,q6,l6,k6⟩:=h_3
   have hw:∀ (j:Nat) v,(q5X nt ix σ)[j]?=some (some v)->σ6[j]?=some (some v):=fun j v e=>by
    by_cases hj:nt<=j
    ·rw [k6 j hj];exact e
    ·unfold q5X at e
     rw [List.getElem?_append_left (by simpa using hj),List.getElem?_replicate,if_pos (by omega)] at e
     cases e
   refine thn (pt _ s6 σ6 H6 _ I6 q6) fun b s7 h_4=>?_
   obtain ⟨H7,I7,q7⟩:=h_4
   have fpk:∀ {s8:Shared}{σ8:St}{H8:Hp},Inv (q0M X N' scope cl G2.objs.size s2 H2 fp (X.pn++pins)) ([(s2.heap.objs.size,oD)]++w0F fp s5.heap) σ8 H8 s8 ->
     tn (i + 1) s8.heap/\∀ b∈fp,H8 b=none:=fun {s8 σ8 H8} I8=>by
    refine ⟨T.keep _ _ _ st5 fun b hb o e=>(I8.pin (b,o) (List.mem_append_right _ (List.mem_append_right _ (q38 hb e)))).1,fun b hb=>?_⟩
    obtain ⟨o,e,d⟩:=T.obj _ _ st5 b hb
    exact (I8.pin (b,o) (List.mem_append_right _ (List.mem_append_right _ (q38 hb e)))).2.1
   cases b with
   | false =>
    simp only [Bool.false_eq_true,if_false] at q7 ⊢
    obtain ⟨m',hm,w7⟩:=q7
    obtain ⟨t7,f7⟩:=fpk I7
    obtain ⟨pD,_⟩:=I7.pin (s2.heap.objs.size,oD) (List.mem_append_right _ (List.mem_append_left _ (List.mem_singleton.mpr rfl)))
    exact ⟨m',hm,i + 1,acc,oD,H7,(I7.weak l6.symm hw).unpinned,stS pD,t7,f7,w7⟩
   | true =>
    simp only [if_true] at q7 ⊢
    refine thn (pe _ s7 σ6 H7 _ I7 q7) fun u8 s8 h_5=>?_
    obtain ⟨y,H8,I8,r8,z,m',hy,hm,w8⟩:=h_5
    obtain ⟨t8,f8⟩:=fpk I8
    obtain ⟨pD,pN,_⟩:=I8.pin (s2.heap.objs.size,_) (List.mem_append_right _ (List.mem_append_left _ (List.mem_singleton.mpr rfl)))
    subst hy
    obtain ⟨tz,rfl⟩:=r8
    refine w1v (stS pD) hlt fun h9 tk9 sb9 hS9=>?_
    obtain ⟨es9,ep9,t9,is9,pm9⟩:=id hS9
    have e9':=is9.at_
    refine ⟨m',hm,i + 1,_,{ cls:=.type "set",dict:=none,data:=.set es9 ep9 t9 },H8,?_,hS9,T.keep _ _ _ t8 fun b hb o e=>sb9.extBut b o (fun z=>hDf (z ▸ hb)) e,f8,w8⟩
    have I8':Inv (q0M X N' scope cl G2.objs.size s2 H2 fp (X.pn++pins)) [] (q5X nt ix σ) H8 s8:=(I8.weak l6.symm hw).pins_of fun p hp=>absurd hp (by simp)
    have I9:Inv (q0M X N' scope cl G2.objs.size s2 H2 fp (X.pn++pins)) [] (q5X nt ix σ) H8 { s8 with heap:=h9,toks:=tk9 } :=
     I8'.turned (it:=s2.heap.objs.size) (fun b o hb e=>sb9.extBut b o hb e) pN hDC (.inr (Nat.le_refl _)) (fun x c e z=>by
      obtain ⟨v,q⟩:=I2.cell x c (c1 x c e)
      exact absurd q.lt (by rw [z];exact Nat.lt_irrefl _)) fun p hp z=>by
      have hp:p∈X.pn++pins:=(List.mem_append.mp hp).elim id fun z=>absurd z (by simp)
      exact absurd (Heap.lt_size (I2.pin p hp).1) (by rw [z];exact Nat.lt_irrefl _)
    exact I9.pin1 e9' pN hDC hDfs (fun v z=>nomatch z)
 exact q4C loop (T.self _ 0 _ _ _ st1 loop)
inductive x8j (w:World) (nt:Nat) (ix:List Nat) (g:TG) (tt:TT) (te:TE) (σ:St) (Q:VK) (J:It) (H1:Hp):Prop
 | mk (W:Nat->Nat->List Str->Hp->Prop) (w0:∃ m,W 0 m [] H1) (turn:∀ i m acc H,W i m acc H ->
 (J.stop i H/\∀ p,H p=none->Q (.ref p) (upd H p (SetO w p acc))) \/
 (J.go i H/\acc.length + 1<scanBound/\∀ x H',J.yld i H x H'->g x (q5X nt ix σ) H' fun σ2 H2=>tt σ2 H2 fun b H3 =>
  if b=true then te σ2 H3 fun y H4=>∃ z m',y=.str z/\m'<m/\W (i + 1) m' (if z∈acc then acc else acc++[z]) H4 else ∃ m',m'<m/\W (i + 1) m' acc H3)):x8j w nt ix g tt te σ Q J H1
def x4Z (w:World) (nt:Nat) (ix:List Nat) (wi:TI) (g:TG) (tt:TT) (te:TE):TE:=fun σ H Q=>wi σ H (x8j w nt ix g tt te σ Q)
theorem w99 {X:Cx}{elt tg iter:Expr}{ifs:List Expr}{scope:Scope}{pos:Pos}{wi:TI}{g:TG}{tt:TT}{te:TE}{N':List Str}{nt:Nat}{ix:List Nat}
  (hc:X.calm=true) (S:q5m X scope N' nt ix) (lo:Low nt g) (hi:PI X tg iter wi)
  (hb:∀ cl C s₀ H₀ ex pn,PG (q0M X N' scope cl C s₀ H₀ ex pn) tg g/\PTs (q0M X N' scope cl C s₀ H₀ ex pn) ifs tt/\PE (q0M X N' scope cl C s₀ H₀ ex pn) elt te)
  (hs:∀ x,foldedSetIterable iter X.env x=pure x:=by intro _;rfl):PE X (.SetComp elt [⟨tg,iter,ifs,0⟩] scope pos) (x4Z X.w nt ix wi g tt te):=by
 intro pins s σ H Q I h
 obtain ⟨cl,hcl,c1,c2⟩:=q6H (scope:=scope) (env:=X.env) fun y hy hf=>I.ok.has y.1 (S.free y hy hf)
 show wpAny _ _ (comprehension (.SetComp elt [⟨tg,iter,ifs,0⟩] scope pos) scope X.env (firstIterPos [⟨tg,iter,ifs,0⟩] pos) (newSet (.type "set")) (firstAsync [⟨tg,iter,ifs,0⟩]) (firstIter [⟨tg,iter,ifs,0⟩] X.env)) _ _ _
 refine wpAny_comprehension_free (use:=none) rfl hs hcl S.kind S.loc (thn (hi pins s σ H _ I h) fun v s1 h1=>thn h1 fun itv s2 h2=>?_)
 obtain ⟨it,fp,tn,J,H2,e,I2,T,st2,f2,W,w0,turn⟩:=h2
 subst e
 refine x1k (RR:=fun acc C=>compPost (model X.prog X.w) X.A X.xe none (EP X pins σ Q) acc C) hc S lo hb c1 c2 I2 T st2 f2 w0 turn ?_
 intro D C m s' acc H' hD _ q hn hI
 exact ⟨m,hn,fun h' sb=>⟨.ref D,_,hI h' sb,rfl,q⟩⟩
section
variable {X:Cx}
theorem w1w:q4y X (.builtin "len") (fun xs H Q=>∃ p ss,xs=[.ref p]/\H p=some (SetO X.w p ss)/\Q (.int ss.length) H):=by
 intro pins s σ H xs us Q I r h
 obtain ⟨p,ss,rfl,hq,q⟩:=h
 obtain ⟨u,rfl,rx⟩:=q4A r
 cases rx
 obtain ⟨es,ep,t,is,pm⟩:=(show q1d X.prog X.w H s.heap p (SetO X.w p ss) from I.hok p _ hq).1
 have hlen:es.size=ss.length:=by rw [<- pm.length_eq,List.length_map,Array.length_toList]
 have hsm:(es.size:Int)<2 ^ 63:=by
  have h1:=is.few
  have h2:scanBound<=2 ^ 62:=by decide
  omega
 refine Calls.call_function_entry kind_len plain_len entry_len (args_len1 _) (wpAny_len_body_set is.at_ ⟨rfl,rfl,rfl⟩ rfl is.fits hsm ?_)
 refine ⟨.int _,H,I.tok _,⟨_,rfl⟩,?_⟩
 rw [hlen];exact q
end
end L2
end
section
namespace L2
open PySem PySem.Spec PyProof.Rows
section
variable {K:PySem.W.Frag}{nt:Nat}{ix:List Nat}{te:TE}{σ:St}{H1:Hp}{Q:VK}{a:Addr}{xs:List V}{i:Nat}
end
end L2
namespace L2
open PySem PySem.Spec PyProof.Rows
def x1l (so:Scope) (N:List Str) (scope:Scope) (N':List Str) (nt:Nat) (ix:List Nat):Bool :=
 (scope.kind == .function) && (scope.names.all fun y=>y.2 != .cell) && (scope.names.all fun y=>y.2 != .local || scope.names.lookup y.1 == some .local) &&
 (scope.names.all fun y=>y.2 != .free || so.names.lookup y.1 == some .cell || so.names.lookup y.1 == some .free) &&
 ((List.range ix.length).all fun k=>match ix[k]? with
  | none=>false
  | some i=>match N[i]? with
   | none=>false
   | some x=>N'[nt + k]? == some x && scope.names.lookup x == some .free) && (N'.length == nt + ix.length)
theorem q0s {X:Cx}{so:Scope}{N:List Str}{scope:Scope}{N':List Str}{nt:Nat}{ix:List Nat} (h:x1l so N scope N' nt ix=true) (h1:X.env.scope=so:=by rfl) (h2:X.N=N:=by rfl):q5m X scope N' nt ix:=by
 unfold x1l at h
 simp only [Bool.and_eq_true,List.all_eq_true] at h
 obtain ⟨⟨⟨⟨⟨a,b⟩,c⟩,d⟩,e⟩,l⟩:=h
 refine ⟨by simpa using a,fun y hy z=>?_,fun y hy z=>?_,fun y hy z=>?_,fun k i hk=>?_,by simpa using l⟩
 ·have:=b y hy;simp [z] at this
 ·have:=c y hy;simpa [z] using this
 ·have:=d y hy
  rw [h1]
  simpa [z] using this
 ·have hl:k<ix.length:=(List.getElem?_eq_some_iff.mp hk).1
  have:=e k (List.mem_range.mpr hl)
  rw [hk] at this
  rw [h2]
  simp only at this
  split at this
  ·cases this
  ·rename_i x hx
   simp only [Bool.and_eq_true] at this
   exact ⟨x,hx,by simpa using this.1,by simpa using this.2⟩
end L2
end
section
namespace L2
open PySem PySem.Spec PyProof.Rows
section
variable {K:PySem.W.Frag}{nt:Nat}{ix:List Nat}{te:TE}{σ:St}{H1:Hp}{Q:VK}{a b:Addr}{xs ys:List V}{i k:Nat}
end
end L2
end
section
namespace J
open PySem L2
abbrev D:=PyData
inductive R (α:Type) where
 | ok (a:α)
 | ex (c:Str) (n:Option D)
 | no
def R.bind {α β:Type}:R α->(α->R β)->R β
 | .ok a,f=>f a
 | .ex c n,_=>.ex c n
 | .no,_=>.no
@[simp] theorem bind_ok {α β:Type} (a:α) (f:α->R β):(R.ok a).bind f=f a:=rfl
@[simp] theorem bind_ex {α β:Type} (c:Str) (n:Option D) (f:α->R β):(R.ex c n).bind f=.ex c n:=rfl
@[simp] theorem bind_no {α β:Type} (f:α->R β):(R.no:R α).bind f=.no:=rfl
def kD:Key->D
 | .inl i=>.int i
 | .inr x=>.str x
def tD (ks:List Key):D:=.tuple (ks.map kD)
mutual
inductive RD (K:PySem.W.Frag) (H:Hp):V->D->Prop
 | none:RD K H .non .none
 | bool (b:Bool):RD K H (.bl b) (.bool b)
 | int (i:Int):RD K H (.int i) (.int i)
 | str (x:Str):RD K H (.str x) (.str x)
 | list {a:Addr}{xs:List V}{ds:List D}:SqL K H a xs->RDs K H xs ds->RD K H (.ref a) (.list ds)
 | tuple {a:Addr}{xs:List V}{ds:List D}:H a=some (.tup xs)->RDs K H xs ds->RD K H (.ref a) (.tuple ds)
 | dictK {a:Addr}{kvs:List (Key×V)}{ds:List (D×D)}:H a=some (.dK kvs)->RDk K H kvs ds->RD K H (.ref a) (.dict ds)
 | dictT {a:Addr}{kvs:List (List Key×V)}{ds:List (D×D)}:H a=some (.dT kvs)->kvs≠[]->RDt K H kvs ds->RD K H (.ref a) (.dict ds)
inductive RDs (K:PySem.W.Frag) (H:Hp):List V->List D->Prop
 | nil:RDs K H [] []
 | cons {x:V}{xs:List V}{d:D}{ds:List D}:RD K H x d->RDs K H xs ds->RDs K H (x::xs) (d::ds)
inductive RDk (K:PySem.W.Frag) (H:Hp):List (Key×V)->List (D×D)->Prop
 | nil:RDk K H [] []
 | cons {k:Key}{x:V}{xs:List (Key×V)}{d:D}{ds:List (D×D)}:RD K H x d->RDk K H xs ds->RDk K H ((k,x)::xs) ((kD k,d)::ds)
inductive RDt (K:PySem.W.Frag) (H:Hp):List (List Key×V)->List (D×D)->Prop
 | nil:RDt K H [] []
 | cons {k:List Key}{x:V}{xs:List (List Key×V)}{d:D}{ds:List (D×D)}:RD K H x d->RDt K H xs ds->RDt K H ((k,x)::xs) ((tD k,d)::ds)
end
section
variable {K:PySem.W.Frag}{H H':Hp}
theorem RD.same (e:q29 H H') {v:V}{d:D} (h:RD K H v d):RD K H' v d:=RD.rec (motive_1:=fun v d _=>RD K H' v d) (motive_2:=fun v d _=>RDs K H' v d) (motive_3:=fun v d _=>RDk K H' v d) (motive_4:=fun v d _=>RDt K H' v d) .none .bool .int .str (fun h _ r=>.list (e.seq h) r) (fun h _ r=>.tuple (e _ _ h) r) (fun h _ r=>.dictK (e _ _ h) r) (fun h n _ r=>.dictT (e _ _ h) n r) .nil (fun _ _ a b=>.cons a b) .nil (fun _ _ a b=>.cons a b) .nil (fun _ _ a b=>.cons a b) h
theorem RDs.same (e:q29 H H') {v:List V}{d:List D} (h:RDs K H v d):RDs K H' v d:=RDs.rec (motive_1:=fun v d _=>RD K H' v d) (motive_2:=fun v d _=>RDs K H' v d) (motive_3:=fun v d _=>RDk K H' v d) (motive_4:=fun v d _=>RDt K H' v d) .none .bool .int .str (fun h _ r=>.list (e.seq h) r) (fun h _ r=>.tuple (e _ _ h) r) (fun h _ r=>.dictK (e _ _ h) r) (fun h n _ r=>.dictT (e _ _ h) n r) .nil (fun _ _ a b=>.cons a b) .nil (fun _ _ a b=>.cons a b) .nil (fun _ _ a b=>.cons a b) h
theorem RDk.same (e:q29 H H') {v:List (Key×V)}{d:List (D×D)} (h:RDk K H v d):RDk K H' v d:=RDk.rec (motive_1:=fun v d _=>RD K H' v d) (motive_2:=fun v d _=>RDs K H' v d) (motive_3:=fun v d _=>RDk K H' v d) (motive_4:=fun v d _=>RDt K H' v d) .none .bool .int .str (fun h _ r=>.list (e.seq h) r) (fun h _ r=>.tuple (e _ _ h) r) (fun h _ r=>.dictK (e _ _ h) r) (fun h n _ r=>.dictT (e _ _ h) n r) .nil (fun _ _ a b=>.cons a b) .nil (fun _ _ a b=>.cons a b) .nil (fun _ _ a b=>.cons a b) h
theorem RDt.same (e:q29 H H') {v:List (List Key×V)}{d:List (D×D)} (h:RDt K H v d):RDt K H' v d:=RDt.rec (motive_1:=fun v d _=>RD K H' v d) (motive_2:=fun v d _=>RDs K H' v d) (motive_3:=fun v d _=>RDk K H' v d) (motive_4:=fun v d _=>RDt K H' v d) .none .bool .int .str (fun h _ r=>.list (e.seq h) r) (fun h _ r=>.tuple (e _ _ h) r) (fun h _ r=>.dictK (e _ _ h) r) (fun h n _ r=>.dictT (e _ _ h) n r) .nil (fun _ _ a b=>.cons a b) .nil (fun _ _ a b=>.cons a b) .nil (fun _ _ a b=>.cons a b) h
mutual
def noD:D->Bool
 | .dict _=>false
 | .list xs=>noDs xs
 | .tuple xs=>noDs xs
 | _=>true
def noDs:List D->Bool
 | []=>true
 | x::r=>noD x && noDs r
end
theorem y0h {a b:Bool} (h:(a && b)=true):a=true:=(Bool.and_eq_true_iff.mp h).1
theorem y0i {a b:Bool} (h:(a && b)=true):b=true:=(Bool.and_eq_true_iff.mp h).2
theorem RD.rep {v:V}{d:D} (h:RD K H v d):noD d=true->Rep K H v d:=RD.rec (motive_1:=fun v d _=>noD d=true->Rep K H v d) (motive_2:=fun v d _=>noDs d=true->Reps K H v d) (motive_3:=fun _ _ _=>True) (motive_4:=fun _ _ _=>True) (fun _=>.none) (fun b _=>.bool b) (fun i _=>.int i) (fun x _=>.str x) (fun h _ r e=>.list h (r e)) (fun h _ r e=>.tuple (.of h) (r e)) (fun _ _ _ e=>Bool.noConfusion e) (fun _ _ _ _ e=>Bool.noConfusion e) (fun _=>.nil) (fun _ _ a b e=>.cons (a (y0h e)) (b (y0i e))) trivial (fun _ _ _ _=>trivial) trivial (fun _ _ _ _=>trivial) h
theorem RDs.length {vs:List V}:∀ {ds:List D},RDs K H vs ds->vs.length=ds.length:=by
 induction vs with
 | nil=>intro ds h;cases h;rfl
 | cons x r ih=>intro ds h;cases h with | cons a b=>exact congrArg (· + 1) (ih b)
theorem RDs.get {vs:List V}:∀ {ds:List D}{i:Nat}{v:V},RDs K H vs ds->vs[i]?=some v->∃ d,ds[i]?=some d/\RD K H v d:=by
 induction vs with
 | nil=>intro ds i v _ e;cases e
 | cons x r ih =>
  intro ds i v h e
  cases h with
  | cons a b =>
   cases i with
   | zero=>cases e;exact ⟨_,rfl,a⟩
   | succ i=>have q:=ih (i:=i) b e;exact q
theorem RDs.get' {vs:List V}:∀ {ds:List D}{i:Nat}{d:D},RDs K H vs ds->ds[i]?=some d->∃ v,vs[i]?=some v/\RD K H v d:=by
 induction vs with
 | nil=>intro ds i v h e;cases h;cases e
 | cons x r ih =>
  intro ds i v h e
  cases h with
  | cons a b =>
   cases i with
   | zero=>cases e;exact ⟨_,rfl,a⟩
   | succ i=>have q:=ih (i:=i) b e;exact q
theorem RDs.append {vs ws:List V}{es:List D}:∀ {ds:List D},RDs K H vs ds->RDs K H ws es->RDs K H (vs++ws) (ds++es):=by
 induction vs with
 | nil=>intro ds h s;cases h;exact s
 | cons x r ih=>intro ds h s;cases h with | cons a b=>exact .cons a (ih b s)
theorem RDs.drop {vs:List V}:∀ {ds:List D} (n:Nat),RDs K H vs ds->RDs K H (vs.drop n) (ds.drop n):=by
 induction vs with
 | nil=>intro ds n h;cases h;cases n<;>exact .nil
 | cons x r ih =>
  intro ds n h
  cases n with
  | zero=>exact h
  | succ n=>cases h with | cons a b=>exact ih n b
theorem RDs.take {vs:List V}:∀ {ds:List D} (n:Nat),RDs K H vs ds->RDs K H (vs.take n) (ds.take n):=by
 induction vs with
 | nil=>intro ds n h;cases h;cases n<;>exact .nil
 | cons x r ih =>
  intro ds n h
  cases n with
  | zero=>exact .nil
  | succ n=>cases h with | cons a b=>exact .cons a (ih n b)
theorem RDs.reverse {vs:List V}{ds:List D} (h:RDs K H vs ds):RDs K H vs.reverse ds.reverse:=by
 induction vs generalizing ds with
 | nil=>cases h;exact .nil
 | cons x r ih=>cases h with | cons a b=>rw [List.reverse_cons,List.reverse_cons];exact (ih b).append (.cons a .nil)
theorem w1x:∀ (ss:List Str),RDs K H (ss.map V.str) (ss.map PyData.str)
 | []=>.nil
 | x::r=>.cons (.str x) (w1x r)
theorem RD.str_inv {v:V}{x:Str} (h:RD K H v (.str x)):v=.str x:=by cases h;rfl
theorem RD.bool_inv {v:V}{x:Bool} (h:RD K H v (.bool x)):v=.bl x:=by cases h;rfl
theorem RD.int_inv {v:V}{x:Int} (h:RD K H v (.int x)):v=.int x:=by cases h;rfl
theorem x1m {α:Type}{c:α->D}{k:α->V} (hc:∀ {v x},RD K H v (c x)->v=k x) {ss:List α}:∀ {vs:List V},RDs K H vs (ss.map c)->vs=ss.map k:=by
 induction ss with
 | nil=>intro vs h;cases h;rfl
 | cons x r ih=>intro vs h;cases h with | cons a b=>rw [hc a,ih b];rfl
theorem q4D {ss:List Str}{vs:List V}:RDs K H vs (ss.map PyData.str)->vs=ss.map V.str:=x1m RD.str_inv
theorem w1y {ss:List Bool}{vs:List V}:RDs K H vs (ss.map PyData.bool)->vs=ss.map V.bl:=x1m RD.bool_inv
end
structure q1G (H Hs H' Hs':Hp):Prop where
 all:q29 H H'
 sh:q29 Hs Hs'
 sub:q29 Hs' H'
 out:∀ a o,H a=some o->Hs a=none->Hs' a=none
theorem q1G.refl {H Hs:Hp} (h:q29 Hs H):q1G H Hs H Hs:=⟨.refl _,.refl _,h,fun _ _ _ e=>e⟩
theorem q1G.trans {H Hs H1 Hs1 H2 Hs2:Hp} (a:q1G H Hs H1 Hs1) (b:q1G H1 Hs1 H2 Hs2):q1G H Hs H2 Hs2 :=
 ⟨a.all.trans b.all,a.sh.trans b.sh,b.sub,fun c o e n=>b.out c o (a.all c o e) (a.out c o e n)⟩
theorem q1G.new {H Hs:Hp}{p:Addr}{o:HO} (h:q29 Hs H) (n:H p=none):q1G H Hs (upd H p o) (upd Hs p o):=by
 have n':Hs p=none:=h.free n
 refine ⟨q44 n,q44 n',fun b u e=>?_,fun a u e z=>?_⟩
 ·by_cases hb:b=p
  ·subst hb;rw [q0g] at e ⊢;exact e
  ·rw [q0j hb] at e ⊢;exact h b u e
 ·rw [q0j (q0o e n)];exact z
theorem q1G.mine {H Hs:Hp}{p:Addr}{o:HO} (h:q29 Hs H) (n:H p=none):q1G H Hs (upd H p o) Hs:=by
 refine ⟨q44 n,.refl _,fun b u e=>?_,fun a u e z=>z⟩
 have e':=h b u e
 rw [q0j (q0o e' n)];exact e'
inductive w1z (K:PySem.W.Frag) (Hs:Hp):HO->D->Prop
 | lst {vs:List V}{ds:List D}:RDs K Hs vs ds->w1z K Hs (.lst vs) (.list ds)
 | dK {kvs:List (Key×V)}{ds:List (D×D)}:RDk K Hs kvs ds->w1z K Hs (.dK kvs) (.dict ds)
 | dT {kvs:List (List Key×V)}{ds:List (D×D)}:kvs≠[]->RDt K Hs kvs ds->w1z K Hs (.dT kvs) (.dict ds)
theorem w1z.same {K:PySem.W.Frag}{Hs Hs':Hp}{o:HO}{d:D} (e:q29 Hs Hs') (h:w1z K Hs o d):w1z K Hs' o d:=by
 cases h with
 | lst r=>exact .lst (r.same e)
 | dK r=>exact .dK (r.same e)
 | dT n r=>exact .dT n (r.same e)
theorem w1z.share {K:PySem.W.Frag}{Hs:Hp}{o:HO}{d:D}{a:Addr} (n:Hs a=none) (h:w1z K Hs o d):RD K (upd Hs a o) (.ref a) d:=by
 have e:q29 Hs (upd Hs a o):=q44 n
 cases h with
 | lst r=>exact .list (.of q0g) (r.same e)
 | dK r=>exact .dictK q0g (r.same e)
 | dT n r=>exact .dictT q0g n (r.same e)
inductive Sl where
 | no
 | shr (d:D)
 | own (d:D)
 | lck (d:D)
 | ow2 (dss:List (List D))
abbrev Rho:=List Sl
inductive Inn (K:PySem.W.Frag) (H Hs:Hp):List Addr->List (List D)->Prop
 | nil:Inn K H Hs [] []
 | cons {a:Addr}{as:List Addr}{vs:List V}{ds:List D}{dss:List (List D)}:H a=some (.lst vs)->RDs K Hs vs ds->Inn K H Hs as dss->Inn K H Hs (a::as) (ds::dss)
theorem Inn.step {K:PySem.W.Frag}{H Hs H' Hs':Hp} (e:q29 H H') (e':q29 Hs Hs') {as:List Addr}{dss:List (List D)} (h:Inn K H Hs as dss):Inn K H' Hs' as dss:=by
 induction h with
 | nil=>exact .nil
 | cons h r t ih=>exact .cons (e _ _ h) (r.same e') ih
theorem Inn.upd {K:PySem.W.Frag}{H Hs:Hp}{b:Addr}{o:HO}{as:List Addr}{dss:List (List D)} (n:b∉as) (h:Inn K H Hs as dss):Inn K (upd H b o) Hs as dss:=by
 induction h with
 | nil=>exact .nil
 | cons h r t ih=>exact .cons (by rw [q0j (fun z=>n (by rw [<- z];exact List.mem_cons_self))];exact h) r (ih fun z=>n (List.mem_cons_of_mem _ z))
theorem Inn.there {K:PySem.W.Frag}{H Hs:Hp}{b:Addr}{as:List Addr}{dss:List (List D)} (h:Inn K H Hs as dss) (hb:b∈as):∃ o,H b=some o:=by
 induction h with
 | nil=>cases hb
 | cons h r t ih =>
  rcases List.mem_cons.mp hb with e | hb
  ·exact ⟨_,e ▸ h⟩
  ·exact ih hb
structure O2 (K:PySem.W.Frag) (H0 H Hs:Hp) (ρ:Rho) (σ:St) (i:Nat) (dss:List (List D)) (a:Addr) (as:List Addr):Prop where
 at_:σ[i]?=some (some (V.ref a))
 ob:H a=some (.lst (as.map V.ref))
 nd:(a::as).Nodup
 out:∀ b∈a::as,Hs b=none/\H0 b=none
 dj:∀ b∈a::as,∀ (j:Nat) (e:D),ρ[j]?=some (Sl.own e)->σ[j]?≠some (some (V.ref b))
 inn:Inn K H Hs as dss
structure Fr (K:PySem.W.Frag) (H0 Hs0:Hp) (la:Nat->Option Addr) (ρ:Rho) (σ:St) (H Hs:Hp):Prop where
 st:q1G H0 Hs0 H Hs
 len:ρ.length=σ.length
 sh:∀ (i:Nat) (d:D),ρ[i]?=some (Sl.shr d)->∃ v,σ[i]?=some (some v)/\RD K Hs v d
 ow:∀ (i:Nat) (d:D),ρ[i]?=some (Sl.own d)->∃ a o,σ[i]?=some (some (V.ref a))/\H a=some o/\Hs a=none/\H0 a=none/\w1z K Hs o d
 lk:∀ (i:Nat) (d:D),ρ[i]?=some (Sl.lck d)->∃ a o,σ[i]?=some (some (V.ref a))/\la i=some a/\H a=some o/\Hs a=none/\H0 a=some o/\w1z K Hs o d
 dj:∀ (i j:Nat) (d e:D) (a:Addr),ρ[i]?=some (Sl.own d)->ρ[j]?=some (Sl.own e)->σ[i]?=some (some (V.ref a))->σ[j]?=some (some (V.ref a))->i=j
 lh:∀ (i:Nat) (a:Addr),la i=some a->∃ o,H0 a=some o
 o2:∀ (i:Nat) (dss:List (List D)),ρ[i]?=some (Sl.ow2 dss)->∃ a as,O2 K H0 H Hs ρ σ i dss a as
 u2:∀ (i j:Nat) (d e:List (List D)),ρ[i]?=some (Sl.ow2 d)->ρ[j]?=some (Sl.ow2 e)->i=j
theorem Fr.step {K:PySem.W.Frag}{H0 Hs0 H Hs H' Hs':Hp}{la:Nat->Option Addr}{ρ:Rho}{σ:St} (f:Fr K H0 Hs0 la ρ σ H Hs) (s:q1G H Hs H' Hs'):Fr K H0 Hs0 la ρ σ H' Hs':=by
 refine ⟨f.st.trans s,f.len,fun i d e=>?_,fun i d e=>?_,fun i d e=>?_,f.dj,f.lh,fun i dss e=>?_,f.u2⟩
 ·obtain ⟨v,h1,h2⟩:=f.sh i d e
  exact ⟨v,h1,h2.same s.sh⟩
 ·obtain ⟨a,o,h1,h2,h3,h4,h5⟩:=f.ow i d e
  exact ⟨a,o,h1,s.all _ _ h2,s.out _ _ h2 h3,h4,h5.same s.sh⟩
 ·obtain ⟨a,o,h1,h2,h3,h4,h5,h6⟩:=f.lk i d e
  exact ⟨a,o,h1,h2,s.all _ _ h3,s.out _ _ h3 h4,h5,h6.same s.sh⟩
 ·obtain ⟨a,as,h⟩:=f.o2 i dss e
  refine ⟨a,as,h.at_,s.all _ _ h.ob,h.nd,fun b hb=>⟨?_,(h.out b hb).2⟩,h.dj,h.inn.step s.all s.sh⟩
  have there:∃ o,H b=some o:=by
   rcases List.mem_cons.mp hb with rfl | hb
   ·exact ⟨_,h.ob⟩
   ·exact h.inn.there hb
  obtain ⟨o,ho⟩:=there
  exact s.out b o ho (h.out b (by assumption)).1
inductive y0S (K:PySem.W.Frag) (H Hs:Hp) (v:V) (d:D):Prop
 | mk (a:Addr) (o:HO) (h0:v=.ref a) (h1:H a=some o) (h2:Hs a=none) (h3:w1z K Hs o d):y0S K H Hs v d
def RB (K:PySem.W.Frag) (H Hs:Hp) (v:V) (d:D):Prop:=RD K Hs v d\/y0S K H Hs v d
theorem RB.step {K:PySem.W.Frag}{H Hs H' Hs':Hp}{v:V}{d:D} (h:RB K H Hs v d) (s:q1G H Hs H' Hs'):RB K H' Hs' v d:=by
 rcases h with h | ⟨a,o,h1,h2,h3,h4⟩
 ·exact .inl (h.same s.sh)
 ·exact .inr ⟨a,o,h1,s.all _ _ h2,s.out _ _ h2 h3,h4.same s.sh⟩
theorem RB.full {K:PySem.W.Frag}{H Hs:Hp}{v:V}{d:D} (sub:q29 Hs H) (h:RB K H Hs v d):RD K H v d:=by
 rcases h with h | ⟨a,o,rfl,h2,h3,h4⟩
 ·exact h.same sub
 ·have e:q29 (upd Hs a o) H:=fun b u q=>by
   by_cases hb:b=a
   ·subst hb;rw [q0g] at q;cases q;exact h2
   ·rw [q0j hb] at q;exact sub b u q
  exact (h4.share h3).same e
theorem RB.list {K:PySem.W.Frag}{H Hs:Hp}{v:V}{ds:List D} (sub:q29 Hs H) (h:RB K H Hs v (.list ds)):∃ a vs,v=.ref a/\SqL K H a vs/\RDs K Hs vs ds:=by
 rcases h with h | ⟨a,o,rfl,h2,h3,h4⟩
 ·cases h with | list q r=>exact ⟨_,_,rfl,sub.seq q,r⟩
 ·cases h4 with | lst r=>exact ⟨a,_,rfl,.of h2,r⟩
theorem RB.tuple {K:PySem.W.Frag}{H Hs:Hp}{v:V}{ds:List D} (sub:q29 Hs H) (h:RB K H Hs v (.tuple ds)):∃ a vs,v=.ref a/\SqT K H a vs/\RDs K Hs vs ds/\Hs a=some (.tup vs):=by
 rcases h with h | ⟨a,o,rfl,h2,h3,h4⟩
 ·cases h with | tuple q r=>exact ⟨_,_,rfl,.of (sub _ _ q),r,q⟩
 ·cases h4
theorem RB.str {K:PySem.W.Frag}{H Hs:Hp}{v:V}{x:Str} (h:RB K H Hs v (.str x)):v=.str x:=by
 rcases h with h | ⟨a,o,rfl,h2,h3,h4⟩
 ·exact h.str_inv
 ·cases h4
theorem RB.int {K:PySem.W.Frag}{H Hs:Hp}{v:V}{i:Int} (h:RB K H Hs v (.int i)):v=.int i:=by
 rcases h with h | ⟨a,o,rfl,h2,h3,h4⟩
 ·exact h.int_inv
 ·cases h4
theorem RB.non {K:PySem.W.Frag}{H Hs:Hp}{v:V} (h:RB K H Hs v .none):v=.non:=by
 rcases h with h | ⟨a,o,rfl,h2,h3,h4⟩
 ·cases h;rfl
 ·cases h4
def XW (K:PySem.W.Frag) (cls:Str->Addr) (E:XK) (c:Str) (n:Option D) (H Hs:Hp):Prop:=match n with
 | none=>E (.ref (cls c)) none H
 | some d=>∀ dx v,H dx=some (.xd [("number",v)])->RD K Hs v d->E (.ref (cls c)) (some dx) H
def Fin {α:Type} (K:PySem.W.Frag) (cls:Str->Addr) (E:XK) (H Hs:Hp) (r:R α) (q:α->Prop):Prop:=match r with
 | .ok d=>q d
 | .ex c n=>∀ H' Hs',q1G H Hs H' Hs'->XW K cls E c n H' Hs'
 | .no=>False
inductive TRI (K:PySem.W.Frag) (cls:Str->Addr) (E:XK) (ρ:Rho) (r:R D) (σ:St) (H:Hp) (Q:VK):Prop
 | mk (H0 Hs0:Hp) (la:Nat->Option Addr) (Hs:Hp) (f:Fr K H0 Hs0 la ρ σ H Hs) (q:Fin K cls E H Hs r fun d=>∀ v H' Hs',q1G H Hs H' Hs'->RD K Hs' v d->Q v H'):TRI K cls E ρ r σ H Q
def TR (K:PySem.W.Frag) (cls:Str->Addr) (E:XK) (ρ:Rho) (r:R D):TE:=TRI K cls E ρ r
inductive TBI (K:PySem.W.Frag) (cls:Str->Addr) (E:XK) (ρ:Rho) (r:R D) (σ:St) (H:Hp) (Q:VK):Prop
 | mk (H0 Hs0:Hp) (la:Nat->Option Addr) (Hs:Hp) (f:Fr K H0 Hs0 la ρ σ H Hs) (q:Fin K cls E H Hs r fun d=>∀ v H' Hs',q1G H Hs H' Hs'->RB K H' Hs' v d->Q v H'):TBI K cls E ρ r σ H Q
def TB (K:PySem.W.Frag) (cls:Str->Addr) (E:XK) (ρ:Rho) (r:R D):TE:=TBI K cls E ρ r
inductive y0T (K:PySem.W.Frag) (cls:Str->Addr) (E:XK) (ρ:Rho) (r:R Bool) (σ:St) (H:Hp) (Q:Bool->Hp->Prop):Prop
 | mk (H0 Hs0:Hp) (la:Nat->Option Addr) (Hs:Hp) (f:Fr K H0 Hs0 la ρ σ H Hs) (q:Fin K cls E H Hs r fun b=>∀ H' Hs',q1G H Hs H' Hs'->Q b H'):y0T K cls E ρ r σ H Q
def TTT (K:PySem.W.Frag) (cls:Str->Addr) (E:XK) (ρ:Rho) (r:R Bool):TT:=y0T K cls E ρ r
inductive RBs (K:PySem.W.Frag) (H Hs:Hp):List V->List D->Prop
 | nil:RBs K H Hs [] []
 | cons {x:V}{xs:List V}{d:D}{ds:List D}:RB K H Hs x d->RBs K H Hs xs ds->RBs K H Hs (x::xs) (d::ds)
inductive y0U (K:PySem.W.Frag) (cls:Str->Addr) (E:XK) (ρ:Rho) (r:R (List D)) (σ:St) (H:Hp) (Q:List V->Hp->Prop):Prop
 | mk (H0 Hs0:Hp) (la:Nat->Option Addr) (Hs:Hp) (f:Fr K H0 Hs0 la ρ σ H Hs) (q:Fin K cls E H Hs r fun d=>∀ v H' Hs',q1G H Hs H' Hs'->RDs K Hs' v d->Q v H'):y0U K cls E ρ r σ H Q
def TAs (K:PySem.W.Frag) (cls:Str->Addr) (E:XK) (ρ:Rho) (r:R (List D)):TA:=y0U K cls E ρ r
inductive y0V (K:PySem.W.Frag) (cls:Str->Addr) (E:XK) (ρ:Rho) (r:R (List D)) (σ:St) (H:Hp) (Q:List V->Hp->Prop):Prop
 | mk (H0 Hs0:Hp) (la:Nat->Option Addr) (Hs:Hp) (f:Fr K H0 Hs0 la ρ σ H Hs) (q:Fin K cls E H Hs r fun d=>∀ v H' Hs',q1G H Hs H' Hs'->RBs K H' Hs' v d->Q v H'):y0V K cls E ρ r σ H Q
def TBs (K:PySem.W.Frag) (cls:Str->Addr) (E:XK) (ρ:Rho) (r:R (List D)):TA:=y0V K cls E ρ r
structure C where
 X:Cx
 cls:Str->Addr
 E:XK
structure JE (c:C) (e:Expr) (g:Rho->R D):Prop where of ::
 run:∀ ρ,PE c.X e (TR c.X.K c.cls c.E ρ (g ρ))
instance {c:C}{e:Expr}{g:Rho->R D}:CoeFun (JE c e g) (fun _=>∀ ρ,PE c.X e (TR c.X.K c.cls c.E ρ (g ρ))):=⟨JE.run⟩
structure JB (c:C) (e:Expr) (g:Rho->R D):Prop where of ::
 run:∀ ρ,PE c.X e (TB c.X.K c.cls c.E ρ (g ρ))
instance {c:C}{e:Expr}{g:Rho->R D}:CoeFun (JB c e g) (fun _=>∀ ρ,PE c.X e (TB c.X.K c.cls c.E ρ (g ρ))):=⟨JB.run⟩
structure JT (c:C) (e:Expr) (g:Rho->R Bool):Prop where of ::
 run:∀ ρ,PT c.X e (TTT c.X.K c.cls c.E ρ (g ρ))
instance {c:C}{e:Expr}{g:Rho->R Bool}:CoeFun (JT c e g) (fun _=>∀ ρ,PT c.X e (TTT c.X.K c.cls c.E ρ (g ρ))):=⟨JT.run⟩
structure JW (c:C) (e:Expr) (g:Rho->R Bool):Prop where of ::
 run:∀ ρ,PW c.X e (TTT c.X.K c.cls c.E ρ (g ρ))
instance {c:C}{e:Expr}{g:Rho->R Bool}:CoeFun (JW c e g) (fun _=>∀ ρ,PW c.X e (TTT c.X.K c.cls c.E ρ (g ρ))):=⟨JW.run⟩
structure JAs (c:C) (es:List Expr) (g:Rho->R (List D)):Prop where of ::
 run:∀ ρ,PA c.X es (TAs c.X.K c.cls c.E ρ (g ρ))
instance {c:C}{es:List Expr}{g:Rho->R (List D)}:CoeFun (JAs c es g) (fun _=>∀ ρ,PA c.X es (TAs c.X.K c.cls c.E ρ (g ρ))):=⟨JAs.run⟩
structure JBs (c:C) (es:List Expr) (g:Rho->R (List D)):Prop where of ::
 run:∀ ρ,PA c.X es (TBs c.X.K c.cls c.E ρ (g ρ))
instance {c:C}{es:List Expr}{g:Rho->R (List D)}:CoeFun (JBs c es g) (fun _=>∀ ρ,PA c.X es (TBs c.X.K c.cls c.E ρ (g ρ))):=⟨JBs.run⟩
section
variable {c:C}{e a b:Expr}{g ga gb:Rho->R D}{pos:Pos}
theorem mPE {X:Cx}{e:Expr}{t t':TE} (h:PE X e t) (m:∀ σ H Q,t' σ H Q->t σ H Q):PE X e t':=fun pins s σ H Q I q=>h pins s σ H Q I (m σ H Q q)
theorem mPT {X:Cx}{e:Expr}{t t':TT} (h:PT X e t) (m:∀ σ H Q,t' σ H Q->t σ H Q):PT X e t':=fun pins s σ H Q I q=>h pins s σ H Q I (m σ H Q q)
theorem mPW {X:Cx}{e:Expr}{t t':TT} (h:PW X e t) (m:∀ σ H Q,t' σ H Q->t σ H Q):PW X e t':=fun wh pins s σ H Q I q=>h wh pins s σ H Q I (m σ H Q q)
theorem mPA {X:Cx}{e:List Expr}{t t':TA} (h:PA X e t) (m:∀ σ H Q,t' σ H Q->t σ H Q):PA X e t':=fun pos pins s σ H Q I q=>h pos pins s σ H Q I (m σ H Q q)
theorem mPS {X:Cx}{e:Stmt}{t t':TS} (h:PS X e t) (m:∀ D σ H,t' D σ H->t D σ H):PS X e t':=fun pins s σ H Q I q=>h pins s σ H Q I (m Q σ H q)
theorem y1Q {X:Cx}{e:List Stmt}{t t':TS} (h:PSs X e t) (m:∀ D σ H,t' D σ H->t D σ H):PSs X e t':=fun pins s σ H Q I q=>h pins s σ H Q I (m Q σ H q)
theorem JE.bor (h:JE c e g):JB c e g:=.of fun ρ=>mPE (h ρ) fun σ H Q ⟨H0,Hs0,la,Hs,f,q⟩=>⟨H0,Hs0,la,Hs,f,by
 cases hr:g ρ with
 | ok d=>rw [hr] at q;exact fun v H' Hs' s r=>q v H' Hs' s (.inl r)
 | ex c n=>rw [hr] at q;exact q
 | no=>rw [hr] at q;exact q⟩
theorem one {K:PySem.W.Frag}{cls:Str->Addr}{E:XK}{ρ:Rho}{r:R D}{β:Type}{k:D->R β}{σ:St}{H:Hp}{H0 Hs0 Hs:Hp}{la:Nat->Option Addr}{Q:V->Hp->Prop}{q:β->Prop} (f:Fr K H0 Hs0 la ρ σ H Hs)
  (h:Fin K cls E H Hs (r.bind k) q) (m:∀ d v H' Hs',r=.ok d->q1G H Hs H' Hs'->Fr K H0 Hs0 la ρ σ H' Hs'->RB K H' Hs' v d->Q v H'):TB K cls E ρ r σ H Q:=by
 refine ⟨H0,Hs0,la,Hs,f,?_⟩
 cases r with
 | ok d=>exact fun v H' Hs' s r=>m d v H' Hs' rfl s (f.step s) r
 | ex c n=>exact h
 | no=>exact h
theorem x3M {K:PySem.W.Frag}{cls:Str->Addr}{E:XK}{ρ:Rho}{r:R D}{β:Type}{k:D->R β}{σ:St}{H:Hp}{H0 Hs0 Hs:Hp}{la:Nat->Option Addr}{Q:V->Hp->Prop}{q:β->Prop} (f:Fr K H0 Hs0 la ρ σ H Hs)
  (h:Fin K cls E H Hs (r.bind k) q) (m:∀ d v H' Hs',r=.ok d->q1G H Hs H' Hs'->Fr K H0 Hs0 la ρ σ H' Hs'->RD K Hs' v d->Q v H'):TR K cls E ρ r σ H Q:=by
 refine ⟨H0,Hs0,la,Hs,f,?_⟩
 cases r with
 | ok d=>exact fun v H' Hs' s r=>m d v H' Hs' rfl s (f.step s) r
 | ex c n=>exact h
 | no=>exact h
theorem x7o {K:PySem.W.Frag}{cls:Str->Addr}{E:XK}{ρ:Rho}{r:R Bool}{β:Type}{k:Bool->R β}{σ:St}{H:Hp}{H0 Hs0 Hs:Hp}{la:Nat->Option Addr}{Q:Bool->Hp->Prop}{q:β->Prop} (f:Fr K H0 Hs0 la ρ σ H Hs)
  (h:Fin K cls E H Hs (r.bind k) q) (m:∀ d H' Hs',r=.ok d->q1G H Hs H' Hs'->Fr K H0 Hs0 la ρ σ H' Hs'->Q d H'):TTT K cls E ρ r σ H Q:=by
 refine ⟨H0,Hs0,la,Hs,f,?_⟩
 cases r with
 | ok d=>exact fun H' Hs' s=>m d H' Hs' rfl s (f.step s)
 | ex c n=>exact h
 | no=>exact h
theorem x3N {K:PySem.W.Frag}{cls:Str->Addr}{E:XK}{ρ:Rho}{r:R (List D)}{β:Type}{k:List D->R β}{σ:St}{H:Hp}{H0 Hs0 Hs:Hp}{la:Nat->Option Addr}{Q:List V->Hp->Prop}{q:β->Prop} (f:Fr K H0 Hs0 la ρ σ H Hs)
  (h:Fin K cls E H Hs (r.bind k) q) (m:∀ d v H' Hs',r=.ok d->q1G H Hs H' Hs'->Fr K H0 Hs0 la ρ σ H' Hs'->RDs K Hs' v d->Q v H'):TAs K cls E ρ r σ H Q:=by
 refine ⟨H0,Hs0,la,Hs,f,?_⟩
 cases r with
 | ok d=>exact fun v H' Hs' s r=>m d v H' Hs' rfl s (f.step s) r
 | ex c n=>exact h
 | no=>exact h
theorem x6z {K:PySem.W.Frag}{cls:Str->Addr}{E:XK}{ρ:Rho}{r:R (List D)}{β:Type}{k:List D->R β}{σ:St}{H:Hp}{H0 Hs0 Hs:Hp}{la:Nat->Option Addr}{Q:List V->Hp->Prop}{q:β->Prop} (f:Fr K H0 Hs0 la ρ σ H Hs)
  (h:Fin K cls E H Hs (r.bind k) q) (m:∀ d v H' Hs',r=.ok d->q1G H Hs H' Hs'->Fr K H0 Hs0 la ρ σ H' Hs'->RBs K H' Hs' v d->Q v H'):TBs K cls E ρ r σ H Q:=by
 refine ⟨H0,Hs0,la,Hs,f,?_⟩
 cases r with
 | ok d=>exact fun v H' Hs' s r=>m d v H' Hs' rfl s (f.step s) r
 | ex c n=>exact h
 | no=>exact h
theorem Fin.on {α:Type}{K:PySem.W.Frag}{cls:Str->Addr}{E:XK}{H Hs H' Hs':Hp}{r:R α}{q q':α->Prop} (h:Fin K cls E H Hs r q) (s:q1G H Hs H' Hs') (m:∀ a,q a->q' a):Fin K cls E H' Hs' r q':=by
 cases r with
 | ok a=>exact m a h
 | ex c n=>exact fun H2 Hs2 s2=>h H2 Hs2 (s.trans s2)
 | no=>exact h
end
end J
end
section
namespace J
open PySem L2
def rdS (ρ:Rho) (i:Nat):R D:=match ρ[i]? with
 | some (Sl.shr d)=>.ok d
 | _=>.no
def rdB (ρ:Rho) (i:Nat):R D:=match ρ[i]? with
 | some (Sl.shr d)=>.ok d
 | some (Sl.own d)=>.ok d
 | some (Sl.lck d)=>.ok d
 | _=>.no
section
variable {c:C}{e a b:Expr}{g ga gb:Rho->R D}{pos:Pos}
theorem q03 (i:Nat) {x:Str} (hN:c.X.N[i]?=some x:=by rfl) (hv:Vis c.X.env.scope x:=by first | exact Or.inl rfl | exact Or.inr (Or.inl rfl) | exact Or.inr (Or.inr rfl)) (hd:(x == ("__debug__" : Str))=false:=by decide)
  (hcd:(x == ("__classdict__" : Str))=false:=by decide):JE c (.Name x pos) (fun ρ=>rdS ρ i):=.of fun ρ=>mPE (w0E hN hv hd hcd) fun σ H Q h_0=>by
 obtain ⟨H0,Hs0,la,Hs,f,q⟩:=h_0
 cases hr:ρ[i]? with
 | none=>simp only [rdS,hr] at q;exact q.elim
 | some s =>
  cases s with
  | shr d =>
   obtain ⟨v,h1,h2⟩:=f.sh i d hr
   simp only [rdS,hr] at q
   exact ⟨v,h1,q v H Hs (.refl f.st.sub) h2⟩
  | no=>simp only [rdS,hr] at q;exact q.elim
  | own d=>simp only [rdS,hr] at q;exact q.elim
  | lck d=>simp only [rdS,hr] at q;exact q.elim
  | ow2 d=>simp only [rdS,hr] at q;exact q.elim
theorem q04 (i:Nat) {x:Str} (hN:c.X.N[i]?=some x:=by rfl) (hv:Vis c.X.env.scope x:=by first | exact Or.inl rfl | exact Or.inr (Or.inl rfl) | exact Or.inr (Or.inr rfl)) (hd:(x == ("__debug__" : Str))=false:=by decide)
  (hcd:(x == ("__classdict__" : Str))=false:=by decide):JB c (.Name x pos) (fun ρ=>rdB ρ i):=.of fun ρ=>mPE (w0E hN hv hd hcd) fun σ H Q h_1=>by
 obtain ⟨H0,Hs0,la,Hs,f,q⟩:=h_1
 cases hr:ρ[i]? with
 | none=>simp only [rdB,hr] at q;exact q.elim
 | some s =>
  cases s with
  | shr d =>
   obtain ⟨v,h1,h2⟩:=f.sh i d hr
   simp only [rdB,hr] at q
   exact ⟨v,h1,q v H Hs (.refl f.st.sub) (.inl h2)⟩
  | no=>simp only [rdB,hr] at q;exact q.elim
  | own d =>
   obtain ⟨a,o,h1,h2,h3,h4,h5⟩:=f.ow i d hr
   simp only [rdB,hr] at q
   exact ⟨_,h1,q _ H Hs (.refl f.st.sub) (.inr ⟨a,o,rfl,h2,h3,h5⟩)⟩
  | lck d =>
   obtain ⟨a,o,h1,h2,h3,h4,h5,h6⟩:=f.lk i d hr
   simp only [rdB,hr] at q
   exact ⟨_,h1,q _ H Hs (.refl f.st.sub) (.inr ⟨a,o,rfl,h3,h4,h6⟩)⟩
  | ow2 d=>simp only [rdB,hr] at q;exact q.elim
theorem q6a {v:V}{d:D} (h:PE c.X e (tC v)) (r:∀ Hs,RD c.X.K Hs v d):JE c e (fun _=>.ok d):=.of fun ρ=>mPE h fun σ H Q h_2=>by obtain ⟨H0,Hs0,la,Hs,f,q⟩:=h_2;exact q v H Hs (.refl f.st.sub) (r Hs)
theorem q08 {i:Int}{j:Nat}:JE c (.Constant (.int i) j pos) (fun _=>.ok (.int i)):=q6a x7A fun _=>.int i
theorem q5j {i:Bool}{j:Nat}:JE c (.Constant (.bool i) j pos) (fun _=>.ok (.bool i)):=q6a x9L fun _=>.bool i
theorem q4q {j:Nat}:JE c (.Constant .none j pos) (fun _=>.ok .none):=q6a x7B fun _=>.none
theorem q8Q {i:Str}{j:Nat}:JE c (.Constant (.str i) j pos) (fun _=>.ok (.str i)):=q6a x7C fun _=>.str i
theorem q6b {x:Str}{i:Int} (hg:Gl c.X x) (hm:∃ t,c.X.mg x=some (.int i t)) (hd:(x == ("__debug__" : Str))=false:=by decide):JE c (.Name x pos) (fun _=>.ok (.int i)):=by
 obtain ⟨t,hm⟩:=hm
 exact q6a (x61 hg hm (v:=.int i) ⟨t,rfl⟩ hd) fun _=>.int i
inductive rDI (K:PySem.W.Frag) (h:D->D->R D) (x:V) (y:V) (H:Hp) (Q:VK):Prop
 | mk (Hs dx dy:_) (h0:q29 Hs H) (h1:RB K H Hs x dx) (h2:RB K H Hs y dy) (h3:∃ d,h dx dy=.ok d/\∀ v H' Hs',q1G H Hs H' Hs'->RD K Hs' v d->Q v H'):rDI K h x y H Q
def rD (K:PySem.W.Frag) (h:D->D->R D):R2:=rDI K h
def OpD (X:Cx) (f:Value->Value->Sem Value) (h:D->D->R D):Prop:=OpR X f (rD X.K h)/\∀ x y c n,h x y≠.ex c n
def g2 (ga gb:Rho->R D) (h:D->D->R D):Rho->R D:=fun ρ=>(ga ρ).bind fun x=>(gb ρ).bind fun y=>h x y
theorem two {K:PySem.W.Frag}{cls:Str->Addr}{E:XK}{h:D->D->R D}{ρ:Rho}{σ:St}{H:Hp}{Q:VK} (hx:∀ x y c n,h x y≠.ex c n) (q:TR K cls E ρ (g2 ga gb h ρ) σ H Q):tOp (rD K h) (TB K cls E ρ (ga ρ)) (TB K cls E ρ (gb ρ)) σ H Q:=by
 obtain ⟨H0,Hs0,la,Hs,f,q⟩:=q
 refine one f q fun x v H1 Hs1 e1 s1 f1 r1=>?_
 unfold g2 at q
 rw [e1,bind_ok] at q
 refine one f1 (q.on s1 (q':=fun _=>True) fun _ _=>trivial) fun y u H2 Hs2 e2 s2 f2 r2=>?_
 rw [e2,bind_ok] at q
 cases hr:h x y with
 | ok d =>
  rw [hr] at q
  exact ⟨Hs2,x,y,f2.st.sub,r1.step s2,r2,d,hr,fun w H3 Hs3 s3 r3=>q w H3 Hs3 (s1.trans (s2.trans s3)) r3⟩
 | ex c n=>exact (hx x y c n hr).elim
 | no=>rw [hr] at q;exact q.elim
theorem q0t {op:Operator}{h:D->D->R D} (ho:OpD c.X (binaryOp op) h) (ha:JB c a ga) (hb:JB c b gb):JE c (.BinOp a op b pos) (g2 ga gb h):=.of fun ρ=>mPE (x7O ho.1 (ha ρ) (hb ρ)) fun σ H Q q=>two ho.2 q
theorem q4r {op:CmpOp}{h:D->D->R D} (ho:OpD c.X (compareOp op) h) (ha:JB c a ga) (hb:JB c b gb) (hm:behindInMarks op b=false:=by first | exact x4O _ | rfl):JE c (.Compare a [op] [b] pos) (g2 ga gb h):=.of fun ρ=>mPE (x68 ho.1 (ha ρ) (hb ρ) hm) fun σ H Q q=>two ho.2 q
def asB (g:Rho->R D):Rho->R Bool:=fun ρ=>(g ρ).bind fun d=>match d with
 | .bool b=>.ok b
 | _=>.no
theorem asT {K:PySem.W.Frag}{cls:Str->Addr}{E:XK}{ρ:Rho}{σ:St}{H:Hp}{Q:Bool->Hp->Prop} (q:TTT K cls E ρ (asB g ρ) σ H Q):TR K cls E ρ (g ρ) σ H fun x H'=>∃ k,x=.bl k/\Q k H':=by
 obtain ⟨H0,Hs0,la,Hs,f,q⟩:=q
 refine x3M f q fun d v H1 Hs1 e1 s1 f1 r1=>?_
 unfold asB at q
 rw [e1,bind_ok] at q
 cases r1 with
 | bool b=>exact ⟨b,rfl,q H1 Hs1 s1⟩
 | _=>exact q.elim
theorem q0V {op:CmpOp}{h:D->D->R D} (ho:OpD c.X (compareOp op) h) (ha:JB c a ga) (hb:JB c b gb) (hm:behindInMarks op b=false:=by first | exact x4O _ | rfl):JT c (.Compare a [op] [b] pos) (asB (g2 ga gb h)):=.of fun ρ=>mPT (x69 ho.1 (ha ρ) (hb ρ) hm) fun σ H Q q=>two ho.2 (asT q)
theorem q1x (h:JE c e g) (he:∀ whole,isTrue e c.X.env whole=(do let v <- whole;standAt e.pos;holding [v] (truthy v)):=by intro _;rfl):JT c e (asB g):=.of fun ρ=>mPT (x7D (h ρ) he) fun σ H Q q=>asT q
def q5v (g:Rho->R Bool):Rho->R Bool:=fun ρ=>(g ρ).bind fun b=>.ok (!b)
def x1n (g h:Rho->R Bool):Rho->R Bool:=fun ρ=>(g ρ).bind fun b=>if b then h ρ else .ok false
def gOr (g h:Rho->R Bool):Rho->R Bool:=fun ρ=>(g ρ).bind fun b=>if b then .ok true else h ρ
variable {gt gu:Rho->R Bool}{q0I:List Expr}
theorem q1y (h:JT c e gt):JT c (.UnaryOp .Not e pos) (q5v gt):=.of fun ρ=>mPT (x7G (h ρ)) fun σ H Q q=>by
 obtain ⟨H0,Hs0,la,Hs,f,q⟩:=q
 refine x7o f q fun d H1 Hs1 e1 s1 f1=>?_
 unfold q5v at q
 rw [e1,bind_ok] at q
 exact q H1 Hs1 s1
theorem q8R (h:JT c a gt):JW c (.BoolOp .And [a] pos) gt:=.of fun ρ=>x63 (h ρ)
theorem q4s (h:JT c a gt):JW c (.BoolOp .Or [a] pos) gt:=.of fun ρ=>x7E (h ρ)
theorem w3z (h:JT c a gt) (h2:JW c (.BoolOp .And (b::q0I) pos) gu):JW c (.BoolOp .And (a::b::q0I) pos) (x1n gt gu):=.of fun ρ=>mPW (x7F (h ρ) (h2 ρ)) fun σ H Q q=>by
 obtain ⟨H0,Hs0,la,Hs,f,q⟩:=q
 refine x7o f q fun d H1 Hs1 e1 s1 f1=>?_
 unfold x1n at q
 rw [e1,bind_ok] at q
 cases d with
 | true=>exact x4T ⟨H0,Hs0,la,Hs1,f1,q.on s1 fun b k H2 Hs2 s2=>k H2 Hs2 (s1.trans s2)⟩
 | false=>exact x4S (q H1 Hs1 s1)
theorem q82 (h:JT c a gt) (h2:JW c (.BoolOp .Or (b::q0I) pos) gu):JW c (.BoolOp .Or (a::b::q0I) pos) (gOr gt gu):=.of fun ρ=>mPW (x9M (h ρ) (h2 ρ)) fun σ H Q q=>by
 obtain ⟨H0,Hs0,la,Hs,f,q⟩:=q
 refine x7o f q fun d H1 Hs1 e1 s1 f1=>?_
 unfold gOr at q
 rw [e1,bind_ok] at q
 cases d with
 | false=>exact x4S ⟨H0,Hs0,la,Hs1,f1,q.on s1 fun b k H2 Hs2 s2=>k H2 Hs2 (s1.trans s2)⟩
 | true=>exact x4T (q H1 Hs1 s1)
theorem JW.t (h:JW c e gt):JT c e gt:=.of fun ρ=>(h ρ).pt
def w9a (g:Rho->R D):Rho->R D:=fun ρ=>(asB g ρ).bind fun b=>.ok (.bool (!b))
theorem x1o (h:JE c e g):JE c (.UnaryOp .Not e pos) (w9a g):=.of fun ρ=>mPE (x7J (h ρ)) fun σ H Q q=>by
 refine asT ?_
 obtain ⟨H0,Hs0,la,Hs,f,q⟩:=q
 refine x7o f q fun d H1 Hs1 e1 s1 f1=>?_
 unfold w9a at q
 rw [e1,bind_ok] at q
 exact q _ H1 Hs1 s1 (.bool _)
def q6N (g h:Rho->R D):Rho->R D:=fun ρ=>(asB g ρ).bind fun b=>if b then h ρ else .ok (.bool false)
def x8k (g h:Rho->R D):Rho->R D:=fun ρ=>(asB g ρ).bind fun b=>if b then .ok (.bool true) else h ρ
theorem q6c {op:BoolOp} (h:JE c a g):JE c (.BoolOp op [a] pos) g:=.of fun ρ=>x7H (h ρ)
theorem q6d (h:JE c a ga) (h2:JE c (.BoolOp .And (b::q0I) pos) gb):JE c (.BoolOp .And (a::b::q0I) pos) (q6N ga gb):=.of fun ρ=>mPE (x7I (h ρ) (h2 ρ)) fun σ H Q q=>by
 refine asT ?_
 obtain ⟨H0,Hs0,la,Hs,f,q⟩:=q
 refine x7o f q fun d H1 Hs1 e1 s1 f1=>?_
 unfold q6N at q
 rw [e1,bind_ok] at q
 cases d with
 | true=>exact x4T ⟨H0,Hs0,la,Hs1,f1,q.on s1 fun b k v H2 Hs2 s2 r2=>k v H2 Hs2 (s1.trans s2) r2⟩
 | false=>exact x4S (q _ H1 Hs1 s1 (.bool _))
theorem y0j (h:JE c a ga) (h2:JE c (.BoolOp .Or (b::q0I) pos) gb):JE c (.BoolOp .Or (a::b::q0I) pos) (x8k ga gb):=.of fun ρ=>mPE (x9P (h ρ) (h2 ρ)) fun σ H Q q=>by
 refine asT ?_
 obtain ⟨H0,Hs0,la,Hs,f,q⟩:=q
 refine x7o f q fun d H1 Hs1 e1 s1 f1=>?_
 unfold x8k at q
 rw [e1,bind_ok] at q
 cases d with
 | false=>exact x4S ⟨H0,Hs0,la,Hs1,f1,q.on s1 fun b k v H2 Hs2 s2 r2=>k v H2 Hs2 (s1.trans s2) r2⟩
 | true=>exact x4T (q _ H1 Hs1 s1 (.bool _))
def q7I (ga gb gc:Rho->R D) (h h':D->D->R D):Rho->R D:=fun ρ=>(ga ρ).bind fun x=>(gb ρ).bind fun y=>(h x y).bind fun z=>match z with
 | .bool true=>(gc ρ).bind fun w=>h' y w
 | .bool false=>.ok (.bool false)
 | _=>.no
variable {es:List Expr}{gs:Rho->R (List D)}
def q01 (g:Rho->R D) (gs:Rho->R (List D)):Rho->R (List D):=fun ρ=>(g ρ).bind fun d=>(gs ρ).bind fun ds=>.ok (d::ds)
def q0e:Rho->R (List D):=fun _=>.ok []
theorem q06:JAs c [] q0e:=.of fun ρ=>mPA q3u fun σ H Q h_3=>by obtain ⟨H0,Hs0,la,Hs,f,q⟩:=h_3;exact q [] H Hs (.refl f.st.sub) .nil
theorem q0y:JBs c [] q0e:=.of fun ρ=>mPA q3u fun σ H Q h_4=>by obtain ⟨H0,Hs0,la,Hs,f,q⟩:=h_4;exact q [] H Hs (.refl f.st.sub) .nil
theorem q00 (h:JE c e g) (hr:JAs c es gs) (hs:starEach (e::es) c.X.env=(false,eval e c.X.env)::starEach es c.X.env:=by rfl):JAs c (e::es) (q01 g gs):=.of fun ρ=>mPA (q2i (h ρ) (hr ρ) hs) fun σ H Q h_5=>by
 obtain ⟨H0,Hs0,la,Hs,f,q⟩:=h_5
 refine x3M f q fun d v H1 Hs1 e1 s1 f1 r1=>?_
 unfold q01 at q
 rw [e1,bind_ok] at q
 refine x3N f1 (q.on s1 (q':=fun _=>True) fun _ _=>trivial) fun ds vs H2 Hs2 e2 s2 f2 r2=>?_
 rw [e2,bind_ok] at q
 exact q _ H2 Hs2 (s1.trans s2) (.cons (r1.same s2.sh) r2)
theorem q0i (h:JB c e g) (hr:JBs c es gs) (hs:starEach (e::es) c.X.env=(false,eval e c.X.env)::starEach es c.X.env:=by rfl):JBs c (e::es) (q01 g gs):=.of fun ρ=>mPA (q2i (h ρ) (hr ρ) hs) fun σ H Q h_6=>by
 obtain ⟨H0,Hs0,la,Hs,f,q⟩:=h_6
 refine one f q fun d v H1 Hs1 e1 s1 f1 r1=>?_
 unfold q01 at q
 rw [e1,bind_ok] at q
 refine x6z f1 (q.on s1 (q':=fun _=>True) fun _ _=>trivial) fun ds vs H2 Hs2 e2 s2 f2 r2=>?_
 rw [e2,bind_ok] at q
 exact q _ H2 Hs2 (s1.trans s2) (.cons (r1.step s2) r2)
def q39 (gs:Rho->R (List D)) (k:List D->D):Rho->R D:=fun ρ=>(gs ρ).bind fun ds=>if ds.length<=1000 then .ok (k ds) else .no
theorem q3P {x1} (h:JAs c es gs):JE c (.Tuple es x1 pos) (q39 gs .tuple):=.of fun ρ=>mPE (x7W (h ρ)) fun σ H Q h_7=>by
 obtain ⟨H0,Hs0,la,Hs,f,q⟩:=h_7
 refine x3N f q fun ds vs H1 Hs1 e1 s1 f1 r1=>?_
 unfold q39 at q
 rw [e1,bind_ok] at q
 by_cases hl:ds.length<=1000
 ·rw [if_pos hl] at q
  refine ⟨Nat.le_of_lt (q0P (by rw [r1.length];exact hl)),fun p hp=>q _ _ _ (s1.trans (.new f1.st.sub hp)) (.tuple q0g (r1.same (q1G.new f1.st.sub hp).sh))⟩
 ·rw [if_neg hl] at q;exact q.elim
theorem q4t (h:JAs c es gs):JE c (.List es pos) (q39 gs .list):=.of fun ρ=>mPE (q8z (h ρ)) fun σ H Q h_8=>by
 obtain ⟨H0,Hs0,la,Hs,f,q⟩:=h_8
 refine x3N f q fun ds vs H1 Hs1 e1 s1 f1 r1=>?_
 unfold q39 at q
 rw [e1,bind_ok] at q
 by_cases hl:ds.length<=1000
 ·rw [if_pos hl] at q
  refine ⟨Nat.le_of_lt (q0P (by rw [r1.length];exact hl)),fun p hp=>q _ _ _ (s1.trans (.new f1.st.sub hp)) (.list (.of q0g) (r1.same (q1G.new f1.st.sub hp).sh))⟩
 ·rw [if_neg hl] at q;exact q.elim
end
end J
end
section
namespace J
open PySem PySem.Spec PyProof.Rows L2
section
variable {X:Cx}
def q2v:D->D->R D
 | .int i,.int j=>.ok (.int (i + j))
 | .str x,.str y=>if x.length + y.length<=1000 then .ok (.str (x++y)) else .no
 | .tuple xs,.tuple ys=>if xs.length + ys.length<=1000 then .ok (.tuple (xs++ys)) else .no
 | .list xs,.list ys=>if xs.length + ys.length<=1000 then .ok (.list (xs++ys)) else .no
 | _,_=>.no
inductive x50 (K:PySem.W.Frag) (x:V) (y:V) (H:Hp) (Q:VK):Prop
 | mk (l b xs zs:_) (h0:x=.ref l) (h1:y=.ref b) (h2:SqL K H l xs) (h3:SqL K H b zs) (h4:xs.length + zs.length<=sizeLine) (h5:∀ p,H p=none->Q (.ref p) (upd H p (.lst (xs++zs)))):x50 K x y H Q
def y0k (K:PySem.W.Frag):R2:=x50 K
theorem x6A:OpR X (binaryOp .Add) (y0k X.K):=by
 intro pins s σ H x y v u Q I rx ry h
 obtain ⟨l,b,xs,zs,rfl,rfl,h1,h2,hz,q⟩:=h
 cases rx;cases ry
 obtain ⟨its,r,⟨o,n,e,c1,c2,c3⟩,z⟩:=I.list h1
 obtain ⟨its2,r2,⟨o2,n2,e2,d1,d2,d3⟩,z2⟩:=I.list h2
 obtain ⟨k1,k2,k3,k4⟩:=o
 obtain ⟨m1,m2,m3,m4⟩:=o2
 simp only at c1 c2 c3 d1 d2 d3
 subst c1 c2 c3 d1 d2 d3
 refine concat_meets ⟨_,e,rfl⟩ ⟨_,e2,rfl⟩ noFill_list_add seq_list_add PySem.F.slot_list_add PySem.F.entry_list_add (PySem.F.args_list_add_2 _ _) (PyProof.Rows.list_addW l b _ _ n n2 _ _ k4 m4 (by rw [List.size_toArray,List.size_toArray,<- r.length,<- r2.length];exact hz)) ⟨e,e2,?_⟩
 have ea:its.toArray++its2.toArray=(its++its2).toArray:=by simp
 rw [ea]
 exact ⟨.ref _,_,I.lnew (t':=s.toks) (r.append r2) (by rw [List.length_append];omega),rfl,q _ I.fresh⟩
inductive x51 (K:PySem.W.Frag) (x:V) (y:V) (H:Hp) (Q:VK):Prop
 | mk (a b ys:_) (h0:x=.ref a) (h1:y=.ref b) (h2:SqT K H a []) (h3:SqT K H b ys) (h4:Q (.ref b) H):x51 K x y H Q
def y0l (K:PySem.W.Frag):R2:=x51 K
theorem x6B:OpR X (binaryOp .Add) (y0l X.K):=by
 intro pins s σ H x y v u Q I rx ry h
 obtain ⟨a,b,ys,rfl,rfl,h1,h2,q⟩:=h
 cases rx;cases ry
 obtain ⟨its,r,⟨⟨k1,k2,k3,k4⟩,e,c1,n,c3⟩,z⟩:=I.tuple h1
 obtain ⟨its2,r2,⟨⟨m1,m2,m3,m4⟩,e2,d1,n2,d3⟩,z2⟩:=I.tuple h2
 simp only at c1 c3 d1 d3
 subst c1 c3 d1 d3
 cases r
 exact concat_meets ⟨_,e,rfl⟩ ⟨_,e2,rfl⟩ noFill_tuple_add seq_tuple_add PySem.F.slot_tuple_add PySem.F.entry_tuple_add (PySem.F.args_tuple_add_2 _ _)
  (PyProof.Rows.tuple_addW0 a b _ _ n n2 _ _ k4 m4 rfl) ⟨e,e2,⟨.ref b,H,I,rfl,q⟩⟩
theorem q0J:OpD X (binaryOp .Add) q2v:=by
 refine ⟨fun pins s σ H x y v u Q I rv ru ⟨Hs,dx,dy,sub,rx,ry,d,hd,q⟩=>?_,fun x y c n=>?_⟩
 ·unfold q2v at hd
  split at hd
  ·cases hd
   exact x7P pins s σ H x y v u Q I rv ru ⟨_,_,rx.int,ry.int,q _ H Hs (.refl sub) (.int _)⟩
  ·split at hd
   ·rename_i hz
    cases hd
    exact w8Z pins s σ H x y v u Q I rv ru ⟨_,_,rx.str,ry.str,Nat.le_of_lt (q0P hz),q _ H Hs (.refl sub) (.str _)⟩
   ·cases hd
  ·split at hd
   ·rename_i xs ys hz
    cases hd
    obtain ⟨a,vs,rfl,qa,ra,_⟩:=rx.tuple sub
    obtain ⟨b,ws,rfl,qb,rb,_⟩:=ry.tuple sub
    have hz':vs.length + ws.length<=sizeLine:=by rw [ra.length,rb.length];exact Nat.le_of_lt (q0P hz)
    have big:∀ p,H p=none->Q (.ref p) (upd H p (.tup (vs++ws))):=fun p hp=>q _ _ _ (.new sub hp) (.tuple q0g ((ra.append rb).same (q1G.new sub hp).sh))
    cases vs with
    | nil =>
     cases ra
     refine x6B pins s σ H _ _ v u Q I rv ru ⟨a,b,ws,rfl,rfl,qa,qb,?_⟩
     rcases ry with ry | ⟨_,_,_,_,_,ow⟩
     ·exact q _ H Hs (.refl sub) (by simpa using ry)
     ·cases ow
    | cons v0 vr =>
     refine x6g pins s σ H _ _ v u Q I rv ru ⟨a,b,_,ws,rfl,rfl,qa,qb,by simp,hz',fun e=>?_,fun _=>big⟩
     subst e
     cases rb
     rcases rx with rx | ⟨_,_,_,_,_,ow⟩
     ·exact q _ H Hs (.refl sub) (by simpa using rx)
     ·cases ow
   ·cases hd
  ·split at hd
   ·rename_i xs ys hz
    cases hd
    obtain ⟨a,vs,rfl,qa,ra⟩:=rx.list sub
    obtain ⟨b,ws,rfl,qb,rb⟩:=ry.list sub
    have hz':vs.length + ws.length<=sizeLine:=by rw [ra.length,rb.length];exact Nat.le_of_lt (q0P hz)
    exact x6A pins s σ H _ _ v u Q I rv ru ⟨a,b,vs,ws,rfl,rfl,qa,qb,hz',fun p hp=>q _ _ _ (.new sub hp) (.list (.of q0g) ((ra.append rb).same (q1G.new sub hp).sh))⟩
   ·cases hd
  ·cases hd
 ·unfold q2v
  split<;>(try split)<;>exact fun h=>by cases h
def x6C (C:Int->Int->Bool) (k:Int->Int->D):D->D->R D
 | .int i,.int j=>if C i j then .ok (k i j) else .no
 | _,_=>.no
theorem x1p {f:Value->Value->Sem Value}{C:Int->Int->Bool}{P:Int->Int->Prop}{k:Int->Int->D}{kv:Int->Int->V} (h:OpR X f (rI P kv)) (hC:∀ i j,C i j=true->P i j) (hk:∀ Hs i j,RD X.K Hs (kv i j) (k i j)):OpD X f (x6C C k):=by
 refine ⟨fun pins s σ H x y v u Q I rv ru ⟨Hs,dx,dy,sub,rx,ry,d,hd,q⟩=>?_,fun x y c n=>?_⟩
 ·unfold x6C at hd
  split at hd
  ·split at hd
   ·rename_i hc
    cases hd
    exact h pins s σ H x y v u Q I rv ru ⟨_,_,rx.int,ry.int,hC _ _ hc,q _ H Hs (.refl sub) (hk _ _ _)⟩
   ·cases hd
  ·cases hd
 ·unfold x6C
  split<;>(try split)<;>exact fun h=>by cases h
def w9b (i j:Int):Bool:=(decide (-(2 ^ 64)<i) && decide (i<2 ^ 64)) || (decide (-(2 ^ 64)<j) && decide (j<2 ^ 64))
def x0I:=x6C w9b fun i j=>.int (i * j)
def x7p:=x6C (fun _ j=>decide (0<j)) fun i j=>.int (i % j)
def x6D:=x6C (fun _ j=>decide (0<j) && decide (j<1073741824)) fun i j=>.int (i / j)
theorem q7J:OpD X (binaryOp .Mult) x0I:=x1p x7Q (fun i j h=>by
 unfold w9b at h
 simp only [Bool.or_eq_true,Bool.and_eq_true,decide_eq_true_eq] at h
 exact h) fun _ _ _=>.int _
theorem w83:OpD X (binaryOp .Mod) x7p:=x1p x7R (fun i j h=>of_decide_eq_true h) fun _ _ _=>.int _
theorem x6E:OpD X (binaryOp .FloorDiv) x6D:=x1p x66 (fun i j h=>by
 simp only [Bool.and_eq_true,decide_eq_true_eq] at h
 exact h) fun _ _ _=>.int _
def eqD (neg:Bool) (x y:D):R D:=if x.canLay0 && y.canLay0 && decide (min x.depth y.depth<=60) then .ok (.bool (if neg then !PyData.eqv x y else PyData.eqv x y)) else .no
mutual
theorem w5E:∀ d:D,d.canLay0=true->noD d=true
 | .none,_=>rfl
 | .bool _,_=>rfl
 | .int _,_=>rfl
 | .str _,_=>rfl
 | .list xs,h=>by
  simp only [PyData.canLay0] at h
  simp only [noD]
  exact lays_noD xs h
 | .tuple xs,h=>by
  simp only [PyData.canLay0] at h
  simp only [noD]
  exact lays_noD xs h
 | .dict _,h=>by simp [PyData.canLay0] at h
theorem lays_noD:∀ d:List D,PyData.canLayAll0 d=true->noDs d=true
 | [],_=>rfl
 | x::r,h=>by
  simp only [PyData.canLayAll0,Bool.and_eq_true] at h
  simp only [noDs,Bool.and_eq_true]
  exact ⟨w5E x h.1,lays_noD r h.2⟩
end
theorem x52 {neg:Bool}{f:Value->Value->Sem Value} (h:OpR X f (y0f X.K neg)):OpD X f (eqD neg):=by
 refine ⟨fun pins s σ H x y v u Q I rv ru ⟨Hs,dx,dy,sub,rx,ry,d,hd,q⟩=>?_,fun x y c n=>?_⟩
 ·unfold eqD at hd
  split at hd
  ·rename_i hc
   simp only [Bool.and_eq_true,decide_eq_true_eq] at hc
   cases hd
   exact h pins s σ H x y v u Q I rv ru ⟨dx,dy,(rx.full sub).rep (w5E _ hc.1.1),(ry.full sub).rep (w5E _ hc.1.2),hc.1.1,hc.1.2,hc.2,q _ H Hs (.refl sub) (.bool _)⟩
  ·cases hd
 ·unfold eqD
  split<;>exact fun h=>by cases h
theorem q8S (hu:X.A.units + 64<cLine):OpD X (compareOp .Eq) (eqD false):=x52 (x8h hu)
theorem w1A (hu:X.A.units + 64<cLine):OpD X (compareOp .NotEq) (eqD true):=x52 (x8i hu)
def x7q (k:Int->Int->Bool) (t:Str->Str->Bool):D->D->R D
 | .int i,.int j=>.ok (.bool (k i j))
 | .str x,.str y=>.ok (.bool (t x y))
 | _,_=>.no
theorem x53 {f:Value->Value->Sem Value}{k:Int->Int->Bool}{t:Str->Str->Bool} (h1:OpR X f (rI0 fun i j=>.bl (k i j))) (h2:OpR X f (fun x y H Q=>∃ i j,x=.str i/\y=.str j/\Q (.bl (t i j)) H)):OpD X f (x7q k t):=by
 refine ⟨fun pins s σ H x y v u Q I rv ru ⟨Hs,dx,dy,sub,rx,ry,d,hd,q⟩=>?_,fun x y c n=>?_⟩
 ·unfold x7q at hd
  split at hd
  ·cases hd
   exact h1 pins s σ H x y v u Q I rv ru ⟨_,_,rx.int,ry.int,q _ H Hs (.refl sub) (.bool _)⟩
  ·cases hd
   exact h2 pins s σ H x y v u Q I rv ru ⟨_,_,rx.str,ry.str,q _ H Hs (.refl sub) (.bool _)⟩
  ·cases hd
 ·unfold x7q
  split<;>exact fun h=>by cases h
def ltD:=x7q (fun i j=>decide (i<j)) ltS
def leD:=x7q (fun i j=>decide (i<=j)) fun x y=>!ltS y x
def gtD:D->D->R D
 | .int i,.int j=>.ok (.bool (decide (j<i)))
 | _,_=>.no
theorem w9c:OpD X (compareOp .Lt) ltD:=x53 y00 x0U
theorem w9d:OpD X (compareOp .LtE) leD:=x53 y01 x1g
theorem x3O:OpD X (compareOp .Gt) gtD:=by
 refine ⟨fun pins s σ H x y v u Q I rv ru ⟨Hs,dx,dy,sub,rx,ry,d,hd,q⟩=>?_,fun x y c n=>?_⟩
 ·unfold gtD at hd
  split at hd
  ·cases hd
   exact y02 pins s σ H x y v u Q I rv ru ⟨_,_,rx.int,ry.int,q _ H Hs (.refl sub) (.bool _)⟩
  ·cases hd
 ·unfold gtD
  split<;>exact fun h=>by cases h
def x1q:D->Bool
 | .none=>true
 | _=>false
def isD (neg:Bool):D->D->R D
 | x,.none=>.ok (.bool (if neg then !x1q x else x1q x))
 | _,_=>.no
theorem x1r {K:PySem.W.Frag}{H Hs:Hp}{v:V}{d:D} (h:RB K H Hs v d):decide (v=.non)=x1q d:=by
 rcases h with h | ⟨a,o,rfl,_,_,h⟩
 ·cases h<;>rfl
 ·cases h<;>rfl
theorem x8l:OpD X (compareOp .Is) (isD false):=by
 refine ⟨fun pins s σ H x y v u Q I rv ru ⟨Hs,dx,dy,sub,rx,ry,d,hd,q⟩=>?_,fun x y c n=>?_⟩
 ·unfold isD at hd
  split at hd
  ·cases hd
   exact x7T pins s σ H x y v u Q I rv ru ⟨ry.non,by rw [x1r rx];exact q _ H Hs (.refl sub) (.bool _)⟩
  ·cases hd
 ·unfold isD
  split<;>exact fun h=>by cases h
theorem q8m:OpD X (compareOp .IsNot) (isD true):=by
 refine ⟨fun pins s σ H x y v u Q I rv ru ⟨Hs,dx,dy,sub,rx,ry,d,hd,q⟩=>?_,fun x y c n=>?_⟩
 ·unfold isD at hd
  split at hd
  ·cases hd
   exact x67 pins s σ H x y v u Q I rv ru ⟨ry.non,by rw [x1r rx];exact q _ H Hs (.refl sub) (.bool _)⟩
  ·cases hd
 ·unfold isD
  split<;>exact fun h=>by cases h
def q5k:D->Bool
 | .none=>true
 | .bool _=>true
 | .int _=>true
 | .str _=>true
 | _=>false
def inD (neg:Bool):D->D->R D
 | x,.list ys=>if q5k x && ys.all q5k then .ok (.bool (if neg then !(ys.any fun y=>PyData.eqv y x) else ys.any fun y=>PyData.eqv y x)) else .no
 | x,.tuple ys=>if q5k x && ys.all q5k then .ok (.bool (if neg then !(ys.any fun y=>PyData.eqv y x) else ys.any fun y=>PyData.eqv y x)) else .no
 | _,_=>.no
theorem x1s {K:PySem.W.Frag}{H:Hp}{v:V}{d:D} (h:RD K H v d) (f:q5k d=true):q8E v=true:=by
 cases h<;>first | rfl | cases f
theorem w84 {K:PySem.W.Frag}{H Hs:Hp}{v:V}{d:D} (h:RB K H Hs v d) (f:q5k d=true):q8E v=true:=by
 rcases h with h | ⟨a,o,rfl,_,_,h⟩
 ·exact x1s h f
 ·cases h<;>cases f
theorem w85 {K:PySem.W.Frag}{H:Hp}{vs:List V}:∀ {ds:List D},RDs K H vs ds->ds.all q5k=true->vs.all q8E=true:=by
 induction vs with
 | nil=>intro ds _ _;rfl
 | cons x r ih =>
  intro ds h f
  cases h with
  | cons h t =>
   rw [List.all_cons,Bool.and_eq_true] at f ⊢
   exact ⟨x1s h f.1,ih t f.2⟩
theorem x8m {K:PySem.W.Frag}{H H2 Hs:Hp}{v u:V}{d e:D} (h:RD K H v d) (h2:RB K H2 Hs u e) (f:q5k d=true) (f2:q5k e=true):eqV v u=PyData.eqv d e:=by
 have h2':RD K Hs u e:=by
  rcases h2 with h2 | ⟨a,o,rfl,_,_,h2⟩
  ·exact h2
  ·cases h2<;>cases f2
 cases h with
 | list _ _=>cases f
 | tuple _ _=>cases f
 | dictK _ _=>cases f
 | dictT _ _ _=>cases f
 | none=>cases h2'<;>first | rfl | cases f2
 | bool b=>cases h2'<;>first | rfl | cases f2
 | int i=>cases h2'<;>first | rfl | cases f2
 | str x=>cases h2'<;>first | rfl | cases f2
theorem x1t {K:PySem.W.Frag}{H H2 Hs:Hp}{u:V}{e:D} (h2:RB K H2 Hs u e) (f2:q5k e=true):∀ {vs:List V}{ds:List D},RDs K H vs ds->ds.all q5k=true->inV u vs=ds.any fun y=>PyData.eqv y e
 | _,_,.nil,_=>rfl
 | _,_,.cons h t,f=>by
  rw [List.all_cons,Bool.and_eq_true] at f
  have:=x1t h2 f2 t f.2
  unfold inV at this ⊢
  rw [List.any_cons,List.any_cons,this,x8m h h2 f.1 f2]
theorem x54 {neg:Bool}{f:Value->Value->Sem Value} (h:OpR X f (rIn X.K neg)):OpD X f (inD neg):=by
 refine ⟨fun pins s σ H x y v u Q I rv ru ⟨Hs,dx,dy,sub,rx,ry,d,hd,q⟩=>?_,fun x y c n=>?_⟩
 ·unfold inD at hd
  split at hd
  ·split at hd
   ·rename_i hc
    simp only [Bool.and_eq_true] at hc
    cases hd
    obtain ⟨b,ws,rfl,qb,rb⟩:=ry.list sub
    refine h pins s σ H _ _ v u Q I rv ru ⟨b,ws,rfl,.inl qb,w84 rx hc.1,w85 rb hc.2,?_⟩
    rw [x1t rx hc.1 rb hc.2]
    exact q _ H Hs (.refl sub) (.bool _)
   ·cases hd
  ·split at hd
   ·rename_i hc
    simp only [Bool.and_eq_true] at hc
    cases hd
    obtain ⟨b,ws,rfl,qb,rb,_⟩:=ry.tuple sub
    refine h pins s σ H _ _ v u Q I rv ru ⟨b,ws,rfl,.inr qb,w84 rx hc.1,w85 rb hc.2,?_⟩
    rw [x1t rx hc.1 rb hc.2]
    exact q _ H Hs (.refl sub) (.bool _)
   ·cases hd
  ·cases hd
 ·unfold inD
  split<;>(try split)<;>exact fun h=>by cases h
theorem x1u:OpD X (compareOp .In) (inD false):=x54 x10
theorem w1B:OpD X (compareOp .NotIn) (inD true):=x54 w3j
end
end J
end
section
namespace J
open PySem L2
section
variable {c:C}{e a b:Expr}{g ga gb:Rho->R D}{pos:Pos}
def ixD:D->D->R D
 | .list xs,.int i=>match atI xs i with
  | some d=>.ok d
  | none=>.no
 | .tuple xs,.int i=>match atI xs i with
  | some d=>.ok d
  | none=>.no
 | .str x,.int i=>if x.length<=1000 then (match atI x.cps.toList i with
  | some k=>.ok (.str ⟨#[k]⟩)
  | none=>.no) else .no
 | _,_=>.no
theorem x1v {K:PySem.W.Frag}{H:Hp}{vs:List V}{ds:List D} (h:RDs K H vs ds) {i:Int}{d:D} (e:atI ds i=some d):∃ v,atI vs i=some v/\RD K H v d:=by
 unfold atI at e ⊢
 rw [h.length]
 cases hx:ixN ds.length i with
 | none=>rw [hx] at e;cases e
 | some j =>
  rw [hx] at e
  exact h.get' e
theorem y1R {X:Cx}:IxR X (rD X.K ixD):=by
 intro va sl pins s σ H x y v u Q I rv ru h
 obtain ⟨Hs,dx,dy,sub,rx,ry,d,hd,q⟩:=h
 unfold ixD at hd
 split at hd
 ·split at hd
  ·rename_i d' he
   cases hd
   obtain ⟨p,vs,rfl,qa,ra⟩:=rx.list sub
   obtain ⟨w,hw,rw'⟩:=x1v ra he
   exact q8D va sl pins s σ H _ _ v u Q I rv ru ⟨p,vs,_,w,rfl,ry.int,qa,hw,q _ H Hs (.refl sub) rw'⟩
  ·cases hd
 ·split at hd
  ·rename_i d' he
   cases hd
   obtain ⟨p,vs,rfl,qa,ra,_⟩:=rx.tuple sub
   obtain ⟨w,hw,rw'⟩:=x1v ra he
   exact x84 va sl pins s σ H _ _ v u Q I rv ru ⟨p,vs,_,w,rfl,ry.int,qa,hw,q _ H Hs (.refl sub) rw'⟩
  ·cases hd
 ·split at hd
  ·rename_i hz
   split at hd
   ·rename_i k he
    cases hd
    exact x85 va sl pins s σ H _ _ v u Q I rv ru ⟨_,_,k,rx.str,ry.int,Nat.le_of_lt (q0P hz),he,q _ H Hs (.refl sub) (.str _)⟩
   ·cases hd
  ·cases hd
 ·cases hd
theorem x8n (x y:D) (c:Str) (n:Option D):ixD x y≠.ex c n:=by
 unfold ixD
 split<;>(try split)<;>(try split)<;>exact fun h=>by cases h
theorem y0m (ha:JB c a ga) (hb:JB c b gb) (hs:w1n b:=by exact fun _ _=>rfl):JE c (.Subscript a b pos) (g2 ga gb ixD):=.of fun ρ=>mPE (x80 y1R (ha ρ) (hb ρ) hs) fun σ H Q q=>two x8n q
def x3f (ds:List D) (lo hi:Option Int):List D:=(ds.drop (HT.sIx ds.length 0 lo)).take (HT.sIx ds.length ds.length hi - HT.sIx ds.length 0 lo)
theorem x1w {K:PySem.W.Frag}{H:Hp}{vs:List V}{ds:List D} (h:RDs K H vs ds) (lo hi:Option Int):RDs K H (x4P vs lo hi) (x3f ds lo hi):=by
 unfold x4P x3f
 rw [h.length]
 exact (h.drop _).take _
def slD:D->Option Int->Option Int->R D
 | .list xs,lo,hi=>.ok (.list (x3f xs lo hi))
 | .tuple xs,lo,hi=>.ok (.tuple (x3f xs lo hi))
 | _,_,_=>.no
inductive x8o (K:PySem.W.Frag) (x:V) (lo:Option Int) (hi:Option Int) (H:Hp) (Q:VK):Prop
 | mk (Hs dx:_) (h0:q29 Hs H) (h1:RB K H Hs x dx) (h2:∃ d,slD dx lo hi=.ok d/\∀ v H' Hs',q1G H Hs H' Hs'->RD K Hs' v d->Q v H'):x8o K x lo hi H Q
def y1S (K:PySem.W.Frag):V->Option Int->Option Int->Hp->VK->Prop:=x8o K
theorem y1T {X:Cx}:SlR X (y1S X.K):=by
 intro pins s σ H x v vl vu lo hi sl Q I rx hs pl pu h
 obtain ⟨Hs,dx,sub,rb,d,hd,q⟩:=h
 unfold slD at hd
 split at hd
 ·cases hd
  obtain ⟨p,vs,rfl,qa,ra⟩:=rb.list sub
  exact x6i pins s σ H _ v vl vu lo hi sl Q I rx hs pl pu ⟨p,vs,rfl,qa,fun l hl=>q _ _ _ (.new sub hl) (.list (.of q0g) ((x1w ra lo hi).same (q1G.new sub hl).sh))⟩
 ·cases hd
  obtain ⟨p,vs,rfl,qa,ra,_⟩:=rb.tuple sub
  by_cases hw:HT.sIx vs.length 0 lo=0/\HT.sIx vs.length vs.length hi=vs.length
  ·refine x6y pins s σ H _ v vl vu lo hi sl Q I rx hs pl pu ⟨p,vs,rfl,qa,hw,?_⟩
   rcases rb with rb | ⟨_,_,_,_,_,ow⟩
   ·refine q _ H Hs (.refl sub) ?_
    unfold x3f
    rw [<- ra.length,hw.1,hw.2,ra.length]
    simpa using rb
   ·cases ow
  ·exact x7Z pins s σ H _ v vl vu lo hi sl Q I rx hs pl pu ⟨p,vs,rfl,qa,hw,fun l hl=>q _ _ _ (.new sub hl) (.tuple q0g ((x1w ra lo hi).same (q1G.new sub hl).sh))⟩
 ·cases hd
inductive y0W (K:PySem.W.Frag) (cls:Str->Addr) (E:XK) (ρ:Rho) (r:R (Option Int)) (σ:St) (H:Hp) (Q:Option Int->Hp->Prop):Prop
 | mk (H0 Hs0:Hp) (la:Nat->Option Addr) (Hs:Hp) (f:Fr K H0 Hs0 la ρ σ H Hs) (q:Fin K cls E H Hs r fun d=>∀ H' Hs',q1G H Hs H' Hs'->Q d H'):y0W K cls E ρ r σ H Q
def TOr (K:PySem.W.Frag) (cls:Str->Addr) (E:XK) (ρ:Rho) (r:R (Option Int)):TO:=y0W K cls E ρ r
structure JO (c:C) (e:Option Expr) (g:Rho->R (Option Int)):Prop where of ::
 run:∀ ρ,PO c.X e (TOr c.X.K c.cls c.E ρ (g ρ))
instance {c:C}{e:Option Expr}{g:Rho->R (Option Int)}:CoeFun (JO c e g) (fun _=>∀ ρ,PO c.X e (TOr c.X.K c.cls c.E ρ (g ρ))):=⟨JO.run⟩
theorem mPO {X:Cx}{e:Option Expr}{t t':TO} (h:PO X e t) (m:∀ σ H Q,t' σ H Q->t σ H Q):PO X e t':=fun pins s σ H Q I q=>h pins s σ H Q I (m σ H Q q)
def goN:Rho->R (Option Int):=fun _=>.ok none
def goS (g:Rho->R D):Rho->R (Option Int):=fun ρ=>(g ρ).bind fun d=>match d with
 | .int i=>.ok (some i)
 | _=>.no
theorem w1C:JO c none goN:=.of fun ρ=>mPO x6e fun σ H Q h_0=>by obtain ⟨H0,Hs0,la,Hs,f,q⟩:=h_0;exact q H Hs (.refl f.st.sub)
theorem q4E (h:JE c e g):JO c (some e) (goS g):=.of fun ρ=>mPO (x6f (h ρ)) fun σ H Q h_1=>by
 obtain ⟨H0,Hs0,la,Hs,f,q⟩:=h_1
 refine x3M f q fun d v H1 Hs1 e1 s1 f1 r1=>?_
 unfold goS at q
 rw [e1,bind_ok] at q
 cases r1 with
 | int i=>exact ⟨i,rfl,q H1 Hs1 s1⟩
 | _=>exact q.elim
theorem y0X {K:PySem.W.Frag}{cls:Str->Addr}{E:XK}{ρ:Rho}{r:R (Option Int)}{β:Type}{k:Option Int->R β}{σ:St}{H:Hp}{H0 Hs0 Hs:Hp}{la:Nat->Option Addr}{Q:Option Int->Hp->Prop}{q:β->Prop} (f:Fr K H0 Hs0 la ρ σ H Hs)
  (h:Fin K cls E H Hs (r.bind k) q) (m:∀ d H' Hs',r=.ok d->q1G H Hs H' Hs'->Fr K H0 Hs0 la ρ σ H' Hs'->Q d H'):TOr K cls E ρ r σ H Q:=by
 refine ⟨H0,Hs0,la,Hs,f,?_⟩
 cases r with
 | ok d=>exact fun H' Hs' s=>m d H' Hs' rfl s (f.step s)
 | ex c n=>exact h
 | no=>exact h
def gSl (g:Rho->R D) (gl gh:Rho->R (Option Int)):Rho->R D:=fun ρ=>(g ρ).bind fun x=>(gl ρ).bind fun l=>(gh ρ).bind fun h=>slD x l h
theorem q53 {lo hi:Option Expr}{gl gh:Rho->R (Option Int)}{p2:Pos} (he:JB c e g) (hl:JO c lo gl) (hh:JO c hi gh):JE c (.Subscript e (.Slice lo hi none p2) pos) (gSl g gl gh):=.of fun ρ=>mPE (x3r y1T (he ρ) (hl ρ) (hh ρ)) fun σ H Q h_2=>by
 obtain ⟨H0,Hs0,la,Hs,f,q⟩:=h_2
 refine one f q fun d v H1 Hs1 e1 s1 f1 r1=>?_
 unfold gSl at q
 rw [e1,bind_ok] at q
 refine y0X f1 (q.on s1 (q':=fun _=>True) fun _ _=>trivial) fun l H2 Hs2 e2 s2 f2=>?_
 rw [e2,bind_ok] at q
 refine y0X f2 (q.on (s1.trans s2) (q':=fun _=>True) fun _ _=>trivial) fun h H3 Hs3 e3 s3 f3=>?_
 rw [e3,bind_ok] at q
 cases hr:slD d l h with
 | ok z=>rw [hr] at q;exact ⟨Hs3,d,f3.st.sub,(r1.step s2).step s3,z,hr,fun w H4 Hs4 s4 r4=>q w H4 Hs4 (s1.trans (s2.trans (s3.trans s4))) r4⟩
 | ex c n=>unfold slD at hr;split at hr<;>cases hr
 | no=>rw [hr] at q;exact q.elim
inductive rCI (K:PySem.W.Frag) (h:List D->R D) (xs:List V) (H:Hp) (Q:VK):Prop
 | mk (Hs ds:_) (h0:q29 Hs H) (h1:RBs K H Hs xs ds) (h2:∃ d,h ds=.ok d/\∀ v H' Hs',q1G H Hs H' Hs'->RD K Hs' v d->Q v H'):rCI K h xs H Q
def rC (K:PySem.W.Frag) (h:List D->R D):List V->Hp->VK->Prop:=rCI K h
def CaD (X:Cx) (f:Value) (h:List D->R D):Prop:=q4y X f (rC X.K h)/\∀ x c n,h x≠.ex c n
def q0O (gs:Rho->R (List D)) (h:List D->R D):Rho->R D:=fun ρ=>(gs ρ).bind h
theorem x8p {K:PySem.W.Frag}{cls:Str->Addr}{E:XK}{h:List D->R D}{gs:Rho->R (List D)}{ρ:Rho}{σ:St}{H:Hp}{Q:VK} (hx:∀ x c n,h x≠.ex c n) (q:TR K cls E ρ (q0O gs h ρ) σ H Q):tCB (rC K h) (TBs K cls E ρ (gs ρ)) σ H Q:=by
 obtain ⟨H0,Hs0,la,Hs,f,q⟩:=q
 refine x6z f q fun ds vs H1 Hs1 e1 s1 f1 r1=>?_
 unfold q0O at q
 rw [e1,bind_ok] at q
 cases hr:h ds with
 | ok d =>
  rw [hr] at q
  exact ⟨Hs1,ds,f1.st.sub,r1,d,hr,fun w H3 Hs3 s3 r3=>q w H3 Hs3 (s1.trans s3) r3⟩
 | ex c n=>exact (hx ds c n hr).elim
 | no=>rw [hr] at q;exact q.elim
variable {es:List Expr}{gs:Rho->R (List D)}{x:Str}{p:Pos}{id T:String}{h:List D->R D}
theorem q0u (hc:CaD c.X (.builtin id) h) (hg:Gl c.X x) (hm:c.X.mg x=none) (hv:bootBuiltins x=some (.builtin id)) (ha:JBs c (e::es) gs) (hn:x≠"__name__":=by decide) (hdb:(x == ("__debug__" : Str))=false:=by decide)
  (he:starEach (e::es) c.X.env=(false,eval e c.X.env)::starEach es c.X.env:=by rfl) (hpl:(backTo pos (starEach es c.X.env)).any (·.1)=false:=by rfl):JE c (.Call (.Name x p) (e::es) [] pos) (q0O gs h):=.of fun ρ=>mPE (q8j hc.1 hg hm hv (ha ρ) hn hdb he hpl) fun σ H Q q=>x8p hc.2 q
theorem q1e (hc:CaD c.X (.type T) h) (hg:Gl c.X x) (hm:c.X.mg x=none) (hv:bootBuiltins x=some (.type T)) (ha:JBs c (e::es) gs) (hn:x≠"__name__":=by decide) (hdb:(x == ("__debug__" : Str))=false:=by decide)
  (he:starEach (e::es) c.X.env=(false,eval e c.X.env)::starEach es c.X.env:=by rfl) (hpl:(backTo pos (starEach es c.X.env)).any (·.1)=false:=by rfl):JE c (.Call (.Name x p) (e::es) [] pos) (q0O gs h):=.of fun ρ=>mPE (q8A hc.1 hg hm hv (ha ρ) hn hdb he hpl) fun σ H Q q=>x8p hc.2 q
end
end J
end
section
namespace J
open PySem L2
section
variable {X:Cx}
theorem RBs.one {K:PySem.W.Frag}{H Hs:Hp}{xs:List V}{d:D} (h:RBs K H Hs xs [d]):∃ x,xs=[x]/\RB K H Hs x d:=by
 cases h with | cons a t=>cases t;exact ⟨_,rfl,a⟩
def on1 (h:D->R D):List D->R D
 | [d]=>h d
 | _=>.no
theorem w0J {f:Value}{h:D->R D} (hx:∀ d c n,h d≠.ex c n)
  (hr:∀ pins s σ H x u Q Hs d d',Inv X pins σ H s->q1Z x u->q29 Hs H->RB X.K H Hs x d->h d=.ok d'->(∀ v H' Hs',q1G H Hs H' Hs'->RD X.K Hs' v d'->Q v H')->wpAny (model X.prog X.w) X.A (call f [u]) (EP X pins σ Q) X.xe s):CaD X f (on1 h):=by
 refine ⟨fun pins s σ H xs us Q I r ⟨Hs,ds,sub,rb,d,hd,q⟩=>?_,fun x c n=>?_⟩
 ·unfold on1 at hd
  split at hd
  ·obtain ⟨x,rfl,rx⟩:=rb.one
   obtain ⟨u,rfl,ru⟩:=q4A r
   exact hr pins s σ H x u Q Hs _ _ I ru sub rx hd q
  ·cases hd
 ·unfold on1
  split
  ·exact hx _ _ _
  ·exact fun h=>by cases h
def q83:D->R D
 | .list xs=>.ok (.int xs.length)
 | .tuple xs=>.ok (.int xs.length)
 | .str x=>if x.length<=1000 then .ok (.int x.length) else .no
 | _=>.no
theorem RDk.length {K:PySem.W.Frag}{H:Hp}{vs:List (Key×V)}:∀ {ds:List (D×D)},RDk K H vs ds->vs.length=ds.length:=by
 induction vs with
 | nil=>intro ds h;cases h;rfl
 | cons x r ih=>intro ds h;cases h with | cons a b=>exact congrArg (· + 1) (ih b)
theorem RB.dict {K:PySem.W.Frag}{H Hs:Hp}{v:V}{ds:List (D×D)} (sub:q29 Hs H) (h:RB K H Hs v (.dict ds)):∃ a,v=.ref a/\((∃ kvs,H a=some (.dK kvs)/\RDk K Hs kvs ds)\/∃ kvs,H a=some (.dT kvs)/\kvs≠[]/\RDt K Hs kvs ds):=by
 rcases h with h | ⟨a,o,rfl,h2,h3,h4⟩
 ·cases h with
  | dictK q r=>exact ⟨_,rfl,.inl ⟨_,sub _ _ q,r⟩⟩
  | dictT q n r=>exact ⟨_,rfl,.inr ⟨_,sub _ _ q,n,r⟩⟩
 ·cases h4 with
  | dK r=>exact ⟨a,rfl,.inl ⟨_,h2,r⟩⟩
  | dT n r=>exact ⟨a,rfl,.inr ⟨_,h2,n,r⟩⟩
theorem q2x:CaD X (.builtin "len") (on1 q83):=by
 refine w0J (fun d c n=>?_) fun pins s σ H x u Q Hs d d' I ru sub rx hd q=>?_
 ·unfold q83
  split<;>(try split)<;>exact fun h=>by cases h
 ·unfold q83 at hd
  split at hd
  ·cases hd
   obtain ⟨a,vs,rfl,qa,ra⟩:=rx.list sub
   refine q7B pins s σ H _ _ Q I (.cons ru .nil) ⟨a,vs,rfl,.inl qa,?_⟩
   rw [ra.length]
   exact q _ H Hs (.refl sub) (.int _)
  ·cases hd
   obtain ⟨a,vs,rfl,qa,ra,_⟩:=rx.tuple sub
   refine q7B pins s σ H _ _ Q I (.cons ru .nil) ⟨a,vs,rfl,.inr qa,?_⟩
   rw [ra.length]
   exact q _ H Hs (.refl sub) (.int _)
  ·split at hd
   ·rename_i hz
    cases hd
    exact w3k pins s σ H _ _ Q I (.cons ru .nil) ⟨_,by rw [rx.str],Nat.le_of_lt (q0P hz),q _ H Hs (.refl sub) (.int _)⟩
   ·cases hd
  ·cases hd
def x1x (T:String) (d:D):Bool:=match T,d with
 | "str",.str _=>true
 | "int",.int _=>true
 | "int",.bool _=>true
 | "bool",.bool _=>true
 | "list",.list _=>true
 | "tuple",.tuple _=>true
 | _,_=>false
def w86 (g:Rho->R D) (T:String):Rho->R D:=fun ρ=>(g ρ).bind fun d=>if noD d then .ok (.bool (x1x T d)) else .no
theorem x6F {K:PySem.W.Frag}{d:D} (T:String) (hT:T="str"\/T="int"\/T="bool"\/T="list"\/T="tuple") (h:noD d=true):PySem.W.kitOne K (.type (tyD d)) (.type T)=some (x1x T d):=by
 rcases hT with rfl | rfl | rfl | rfl | rfl<;>cases d<;>first | rfl | simp [noD] at h
theorem q4F {c:C}{e:Expr}{g:Rho->R D}{p p2 pos:Pos}{T:Str}{Ts:String} (h:JB c e g) (hgi:Gl c.X "isinstance") (hi:c.X.mg "isinstance"=none) (hgT:Gl c.X T) (hT:c.X.mg T=none) (hv:bootBuiltins T=some (.type Ts))
  (hTs:Ts="str"\/Ts="int"\/Ts="bool"\/Ts="list"\/Ts="tuple")
  (hn:T≠"__name__":=by decide) (hdb:(T == ("__debug__" : Str))=false:=by decide)
  (he:starEach [e,.Name T p2] c.X.env=(false,eval e c.X.env)::starEach [.Name T p2] c.X.env:=by rfl) (hpl:(backTo pos (starEach [.Name T p2] c.X.env)).any (·.1)=false:=by rfl) :
  JE c (.Call (.Name "isinstance" p) [e,.Name T p2] [] pos) (w86 g Ts):=.of fun ρ=>by
 refine mPE (q8j x3L hgi hi PyProof.Rows.boot_isinstance (q2i (h ρ) (q2i (x62 hgT hT hv (v:=.ty Ts) rfl hn hdb) q3u) he) (by decide) (by decide) he hpl) fun σ H Q h_0=>?_
 obtain ⟨H0,Hs0,la,Hs,f,q⟩:=h_0
 refine one f q fun d v H1 Hs1 e1 s1 f1 r1=>?_
 unfold w86 at q
 rw [e1,bind_ok] at q
 by_cases hd:noD d=true
 ·rw [if_pos hd] at q
  exact ⟨v,d,Ts,_,rfl,(r1.full f1.st.sub).rep hd,x6F Ts hTs hd,q _ H1 Hs1 s1 (.bool _)⟩
 ·rw [if_neg hd] at q;exact q.elim
def q4G:List D->Option (List Bool)
 | []=>some []
 | .bool b::r=>(q4G r).map (b::·)
 | _::_=>none
theorem w3A {ds:List D}:∀ {bs:List Bool},q4G ds=some bs->ds=bs.map PyData.bool:=by
 induction ds with
 | nil=>intro bs h;cases h;rfl
 | cons d r ih =>
  intro bs h
  cases d with
  | bool b =>
   have h:(q4G r).map (b::·)=some bs:=h
   cases hr:q4G r with
   | none=>rw [hr] at h;cases h
   | some z=>rw [hr] at h;cases h;rw [ih hr];rfl
  | _=>cases h
def q2k (k:List Bool->Bool):D->R D
 | .list ds=>match q4G ds with
  | some bs=>.ok (.bool (k bs))
  | none=>.no
 | _=>.no
theorem w87 {id:String}{k:List Bool->Bool} (h:q4y X (.builtin id) (fun xs H Q=>∃ p,∃ bs:List Bool,xs=[.ref p]/\SqL X.K H p (bs.map V.bl)/\Q (.bl (k bs)) H)):CaD X (.builtin id) (on1 (q2k k)):=by
 refine w0J (fun d c n=>?_) fun pins s σ H x u Q Hs d d' I ru sub rx hd q=>?_
 ·unfold q2k
  split<;>(try split)<;>exact fun h=>by cases h
 ·unfold q2k at hd
  split at hd
  ·split at hd
   ·rename_i bs hb
    cases hd
    obtain ⟨a,vs,rfl,qa,ra⟩:=rx.list sub
    rw [w3A hb] at ra
    rw [w1y ra] at qa
    exact h pins s σ H _ _ Q I (.cons ru .nil) ⟨a,bs,rfl,qa,q _ H Hs (.refl sub) (.bool _)⟩
   ·cases hd
  ·cases hd
theorem q6e (hc:X.calm=true):CaD X (.builtin "all") (on1 (q2k fun bs=>bs.all id)):=w87 (q9Z hc)
theorem x55 (hc:X.calm=true):CaD X (.builtin "any") (on1 (q2k fun bs=>bs.any id)):=w87 (w00 hc)
def q5n (x:Str):List D:=x.cps.toList.map fun c=>PyData.str ⟨#[c]⟩
theorem x1y {K:PySem.W.Frag}{H:Hp} (x:Str):RDs K H (w5C x) (q5n x):=by
 unfold w5C q5n
 induction x.cps.toList with
 | nil=>exact .nil
 | cons a r ih=>exact .cons (.str _) ih
def q2y:D->R D
 | .list xs=>.ok (.tuple xs)
 | .tuple xs=>.ok (.tuple xs)
 | .str x=>if x.cps.size<=1000 then .ok (.tuple (q5n x)) else .no
 | _=>.no
theorem q2P (hc:X.calm=true):CaD X (.type "tuple") (on1 q2y):=by
 refine w0J (fun d c n=>?_) fun pins s σ H x u Q Hs d d' I ru sub rx hd q=>?_
 ·unfold q2y
  split<;>(try split)<;>exact fun h=>by cases h
 ·unfold q2y at hd
  split at hd
  ·cases hd
   obtain ⟨a,vs,rfl,qa,ra⟩:=rx.list sub
   exact q63 pins s σ H _ _ Q I (.cons ru .nil) ⟨a,vs,rfl,.inl ⟨qa,fun l hl=>q _ _ _ (.new sub hl) (.tuple q0g (ra.same (q1G.new sub hl).sh))⟩⟩
  ·cases hd
   obtain ⟨a,vs,rfl,qa,ra,_⟩:=rx.tuple sub
   refine q63 pins s σ H _ _ Q I (.cons ru .nil) ⟨a,vs,rfl,.inr ⟨qa,?_⟩⟩
   rcases rx with rx | ⟨_,_,_,_,_,ow⟩
   ·exact q _ H Hs (.refl sub) rx
   ·cases ow
  ·split at hd
   ·rename_i hz
    cases hd
    exact q8P hc pins s σ H _ _ Q I (.cons ru .nil) ⟨_,by rw [rx.str],Nat.le_of_lt (q0P hz),fun l hl=>q _ _ _ (.new sub hl) (.tuple q0g (x1y _))⟩
   ·cases hd
  ·cases hd
def w9e:D->R D
 | .list xs=>.ok (.list xs)
 | .tuple xs=>.ok (.list xs)
 | _=>.no
theorem x6G:CaD X (.type "list") (on1 w9e):=by
 refine w0J (fun d c n=>?_) fun pins s σ H x u Q Hs d d' I ru sub rx hd q=>?_
 ·unfold w9e
  split<;>exact fun h=>by cases h
 ·unfold w9e at hd
  split at hd
  ·cases hd
   obtain ⟨a,vs,rfl,qa,ra⟩:=rx.list sub
   exact q7C pins s σ H _ _ Q I (.cons ru .nil) ⟨a,vs,rfl,.inl qa,fun l hl=>q _ _ _ (.new sub hl) (.list (.of q0g) (ra.same (q1G.new sub hl).sh))⟩
  ·cases hd
   obtain ⟨a,vs,rfl,qa,ra,_⟩:=rx.tuple sub
   exact q7C pins s σ H _ _ Q I (.cons ru .nil) ⟨a,vs,rfl,.inr qa,fun l hl=>q _ _ _ (.new sub hl) (.list (.of q0g) (ra.same (q1G.new sub hl).sh))⟩
  ·cases hd
def q1Y:List D->Option (List Str)
 | []=>some []
 | .str b::r=>(q1Y r).map (b::·)
 | _::_=>none
theorem q5w {ds:List D}:∀ {bs:List Str},q1Y ds=some bs->ds=bs.map PyData.str:=by
 induction ds with
 | nil=>intro bs h;cases h;rfl
 | cons d r ih =>
  intro bs h
  cases d with
  | str b =>
   have h:(q1Y r).map (b::·)=some bs:=h
   cases hr:q1Y r with
   | none=>rw [hr] at h;cases h
   | some z=>rw [hr] at h;cases h;rw [ih hr];rfl
  | _=>cases h
@[simp] theorem strsOf_map:∀ bs:List Str,q1Y (bs.map PyData.str)=some bs
 | []=>rfl
 | b::r=>by show (q1Y (r.map PyData.str)).map (b::·)=_;rw [strsOf_map r];rfl
def q6O:D->R D
 | .list ds=>match q1Y ds with
  | some ss=>if ss.length<64 then .ok (.list ((q43 ss).map .str)) else .no
  | none=>.no
 | _=>.no
theorem x1z:CaD X (.builtin "sorted") (on1 q6O):=by
 refine w0J (fun d c n=>?_) fun pins s σ H x u Q Hs d d' I ru sub rx hd q=>?_
 ·unfold q6O
  split<;>(try split)<;>(try split)<;>exact fun h=>by cases h
 ·unfold q6O at hd
  split at hd
  ·split at hd
   ·split at hd
    ·rename_i ss hs hz
     cases hd
     obtain ⟨a,vs,rfl,qa,ra⟩:=rx.list sub
     rw [q5w hs] at ra
     rw [q4D ra] at qa
     exact q81 pins s σ H _ _ Q I (.cons ru .nil) ⟨a,ss,rfl,qa,hz,fun l hl=>q _ _ _ (.new sub hl) (.list (.of q0g) (w1x _))⟩
    ·cases hd
   ·cases hd
  ·cases hd
end
end J
end
section
namespace J
open PySem L2
inductive y0Y (K:PySem.W.Frag) (cls:Str->Addr) (n:Nat) (F:List D->R D) (vs:List V) (H:Hp) (Q:VK) (E:XK):Prop
 | mk (Hs ds:_) (h0:q29 Hs H) (h1:ds.length=n) (h2:RDs K Hs vs ds) (h3:Fin K cls E H Hs (F ds) fun d=>∀ v H' Hs',q1G H Hs H' Hs'->RD K Hs' v d->Q v H'):y0Y K cls n F vs H Q E
def spF (K:PySem.W.Frag) (cls:Str->Addr) (n:Nat) (F:List D->R D):Sp:=y0Y K cls n F
structure Fn (P:Program) (w:World) (K:PySem.W.Frag) (mg:Str->Option Value) (base:Heap) (cls:Str->Addr) (x:Str) (k n:Nat) (F:List D->R D):Prop where
 ex:∃ f fd ps,w90 P w K mg base (CXR P w) k f fd ps (spF K cls n F)/\mg x=some (.ref f)/\PySem.W.keepIn K (.ref f)=true/\q0Y K fd ps []
section
variable {c:C}{e a b:Expr}{g ga gb:Rho->R D}{pos:Pos}{es:List Expr}{gs:Rho->R (List D)}{x:Str}{p:Pos}
def gFn (n:Nat) (F:List D->R D) (gs:Rho->R (List D)):Rho->R D:=fun ρ=>(gs ρ).bind fun ds=>if ds.length=n then F ds else .no
theorem q0a {k n:Nat}{F:List D->R D} (G:Fn c.X.prog c.X.w c.X.K c.X.mg c.X.base c.cls x k n F) (hr:q9Y k c.X.A) (hg:Gl c.X x) (hx:q0z (CXR c.X.prog c.X.w) c.X c.E) (ha:JAs c (e::es) gs)
  (hdb:(x == ("__debug__" : Str))=false:=by decide) (he:starEach (e::es) c.X.env=(false,eval e c.X.env)::starEach es c.X.env:=by rfl) (hpl:(backTo pos (starEach es c.X.env)).any (·.1)=false:=by rfl) :
  JE c (.Call (.Name x p) (e::es) [] pos) (gFn n F gs):=.of fun ρ=>by
 obtain ⟨f,fd,ps,hf,hm,hk,hb⟩:=G.ex
 refine mPE (x6b (E:=c.E) hf hr hg hm hk hb .nil hx (ha ρ) hdb he hpl) fun σ H Q h_0=>?_
 obtain ⟨H0,Hs0,la,Hs,fr,q⟩:=h_0
 refine x3N fr q fun ds vs H1 Hs1 e1 s1 f1 r1=>?_
 unfold gFn at q
 rw [e1,bind_ok] at q
 by_cases hn:ds.length=n
 ·rw [if_pos hn] at q
  show spF _ _ _ _ (vs++[]) _ _ _
  rw [List.append_nil]
  exact ⟨Hs1,ds,f1.st.sub,hn,r1,q.on s1 fun d k v H2 Hs2 s2 r2=>k v H2 Hs2 (s1.trans s2) r2⟩
 ·rw [if_neg hn] at q;exact q.elim
end
inductive Fl where
 | nx (ρ:Rho)
 | rt (d:D)
 | bk (ρ:Rho)
 | ct (ρ:Rho)
def w5i (K:PySem.W.Frag) (cls:Str->Addr) (E:XK) (H0 Hs0:Hp) (la:Nat->Option Addr) (D:w7R) (r:R Fl):Prop:=match r with
 | .ok (.nx ρ')=>∀ σ' H' Hs',Fr K H0 Hs0 la ρ' σ' H' Hs'->D.nx σ' H'
 | .ok (.bk ρ')=>∀ σ' H' Hs',Fr K H0 Hs0 la ρ' σ' H' Hs'->D.bk σ' H'
 | .ok (.ct ρ')=>∀ σ' H' Hs',Fr K H0 Hs0 la ρ' σ' H' Hs'->D.ct σ' H'
 | .ok (.rt d)=>∀ v H' Hs',q1G H0 Hs0 H' Hs'->RD K Hs' v d->D.rt v H'
 | .ex c n=>∀ H' Hs',q1G H0 Hs0 H' Hs'->XW K cls E c n H' Hs'
 | .no=>False
inductive SRI (K:PySem.W.Frag) (cls:Str->Addr) (E:XK) (ρ:Rho) (r:R Fl) (D:w7R) (σ:St) (H:Hp):Prop
 | mk (H0 Hs0:Hp) (la:Nat->Option Addr) (Hs:Hp) (f:Fr K H0 Hs0 la ρ σ H Hs) (q:w5i K cls E H0 Hs0 la D r):SRI K cls E ρ r D σ H
def SR (K:PySem.W.Frag) (cls:Str->Addr) (E:XK) (ρ:Rho) (r:R Fl):TS:=SRI K cls E ρ r
structure JS (c:C) (s:Stmt) (g:Rho->R Fl):Prop where of ::
 run:∀ ρ,PS c.X s (SR c.X.K c.cls c.E ρ (g ρ))
instance {c:C}{s:Stmt}{g:Rho->R Fl}:CoeFun (JS c s g) (fun _=>∀ ρ,PS c.X s (SR c.X.K c.cls c.E ρ (g ρ))):=⟨JS.run⟩
structure JSs (c:C) (s:List Stmt) (g:Rho->R Fl):Prop where of ::
 run:∀ ρ,PSs c.X s (SR c.X.K c.cls c.E ρ (g ρ))
instance {c:C}{s:List Stmt}{g:Rho->R Fl}:CoeFun (JSs c s g) (fun _=>∀ ρ,PSs c.X s (SR c.X.K c.cls c.E ρ (g ρ))):=⟨JSs.run⟩
theorem Fr.set {K:PySem.W.Frag}{H0 Hs0 H Hs:Hp}{la:Nat->Option Addr}{ρ:Rho}{σ:St} (f:Fr K H0 Hs0 la ρ σ H Hs) (i:Nat) {v:V}{d:D} (r:RD K Hs v d):Fr K H0 Hs0 la (ρ.set i (.shr d)) (σ.set i (some v)) H Hs:=by
 have hl:=f.len
 have nx:∀ {j:Nat}{s:Sl},(∀ d,s≠.shr d)->(ρ.set i (.shr d))[j]?=some s->ρ[j]?=some s/\i≠j:=fun {j s} hs e=>by
  by_cases hj:i=j
  ·subst hj
   by_cases hi:i<ρ.length
   ·rw [List.getElem?_set_self hi] at e;exact absurd (Option.some.inj e).symm (hs d)
   ·rw [List.getElem?_eq_none (by simpa using hi)] at e;cases e
  ·rw [List.getElem?_set_ne hj] at e;exact ⟨e,hj⟩
 refine ⟨f.st,by simp [hl],fun j e h=>?_,fun j e h=>?_,fun j e h=>?_,fun j k d1 d2 a h1 h2 h3 h4=>?_,f.lh,fun j e h=>?_,fun j k d1 d2 h1 h2=>?_⟩
 ·by_cases hj:i=j
  ·subst hj
   by_cases hi:i<ρ.length
   ·rw [List.getElem?_set_self hi] at h
    cases h
    exact ⟨v,List.getElem?_set_self (by omega),r⟩
   ·rw [List.getElem?_eq_none (by simpa using hi)] at h;cases h
  ·rw [List.getElem?_set_ne hj] at h ⊢
   exact f.sh j e h
 ·obtain ⟨h,hj⟩:=nx (fun _ z=>by cases z) h
  rw [List.getElem?_set_ne hj]
  exact f.ow j e h
 ·obtain ⟨h,hj⟩:=nx (fun _ z=>by cases z) h
  rw [List.getElem?_set_ne hj]
  exact f.lk j e h
 ·obtain ⟨h1,n1⟩:=nx (fun _ z=>by cases z) h1
  obtain ⟨h2,n2⟩:=nx (fun _ z=>by cases z) h2
  rw [List.getElem?_set_ne n1] at h3
  rw [List.getElem?_set_ne n2] at h4
  exact f.dj j k d1 d2 a h1 h2 h3 h4
 ·obtain ⟨h,hj⟩:=nx (fun _ z=>by cases z) h
  obtain ⟨a,as,O⟩:=f.o2 j e h
  refine ⟨a,as,by rw [List.getElem?_set_ne hj];exact O.at_,O.ob,O.nd,O.out,fun b hb k e' hk=>?_,O.inn⟩
  obtain ⟨hk,nk⟩:=nx (fun _ z=>by cases z) hk
  rw [List.getElem?_set_ne nk]
  exact O.dj b hb k e' hk
 ·exact f.u2 j k d1 d2 (nx (fun _ z=>by cases z) h1).1 (nx (fun _ z=>by cases z) h2).1
theorem Fr.setO {K:PySem.W.Frag}{H0 Hs0 H Hs:Hp}{la:Nat->Option Addr}{ρ:Rho}{σ:St} (f:Fr K H0 Hs0 la ρ σ H Hs) (i:Nat) {a:Addr}{o:HO}{d:D} (n:H a=none) (r:w1z K Hs o d):Fr K H0 Hs0 la (ρ.set i (.own d)) (σ.set i (some (.ref a))) (upd H a o) Hs:=by
 have f':=f.step (q1G.mine (o:=o) f.st.sub n)
 have hl:=f.len
 have n0:H0 a=none:=f.st.all.free n
 have ns:Hs a=none:=f.st.sub.free n
 have nx:∀ {j:Nat}{s:Sl},(∀ d,s≠.own d)->(ρ.set i (.own d))[j]?=some s->ρ[j]?=some s/\i≠j:=fun {j s} hs e=>by
  by_cases hj:i=j
  ·subst hj
   by_cases hi:i<ρ.length
   ·rw [List.getElem?_set_self hi] at e;exact absurd (Option.some.inj e).symm (hs d)
   ·rw [List.getElem?_eq_none (by simpa using hi)] at e;cases e
  ·rw [List.getElem?_set_ne hj] at e;exact ⟨e,hj⟩
 have ne:∀ j e,ρ[j]?=some (Sl.own e)->σ[j]?≠some (some (V.ref a)):=fun j e h z=>by
  obtain ⟨b,o',h1,h2,_⟩:=f.ow j e h
  rw [z] at h1
  cases h1
  rw [n] at h2;cases h2
 refine ⟨f'.st,by simp [hl],fun j e h=>?_,fun j e h=>?_,fun j e h=>?_,fun j k d1 d2 b h1 h2 h3 h4=>?_,f.lh,fun j e h=>?_,fun j k d1 d2 h1 h2=>?_⟩
 ·obtain ⟨h,hj⟩:=nx (fun _ z=>by cases z) h
  rw [List.getElem?_set_ne hj]
  exact f'.sh j e h
 ·by_cases hj:i=j
  ·subst hj
   by_cases hi:i<ρ.length
   ·rw [List.getElem?_set_self hi] at h
    cases h
    exact ⟨a,o,List.getElem?_set_self (by omega),q0g,ns,n0,r⟩
   ·rw [List.getElem?_eq_none (by simpa using hi)] at h;cases h
  ·rw [List.getElem?_set_ne hj] at h ⊢
   exact f'.ow j e h
 ·obtain ⟨h,hj⟩:=nx (fun _ z=>by cases z) h
  rw [List.getElem?_set_ne hj]
  exact f'.lk j e h
 ·by_cases hj:i=j
  ·by_cases hk:i=k
   ·exact hj.symm.trans hk
   ·rw [List.getElem?_set_ne hk] at h2 h4
    subst hj
    by_cases hi:i<ρ.length
    ·rw [List.getElem?_set_self (by omega)] at h3
     cases h3
     exact (ne k d2 h2 h4).elim
    ·rw [List.getElem?_eq_none (by simpa using hi)] at h1;cases h1
  ·rw [List.getElem?_set_ne hj] at h1 h3
   by_cases hk:i=k
   ·subst hk
    by_cases hi:i<ρ.length
    ·rw [List.getElem?_set_self (by omega)] at h4
     cases h4
     exact (ne j d1 h1 h3).elim
    ·rw [List.getElem?_eq_none (by simpa using hi)] at h2;cases h2
   ·rw [List.getElem?_set_ne hk] at h2 h4
    exact f.dj j k d1 d2 b h1 h2 h3 h4
 ·obtain ⟨h,hj⟩:=nx (fun _ z=>by cases z) h
  obtain ⟨b,as,O⟩:=f.o2 j e h
  have nb:∀ c∈b::as,c≠a:=fun c hc z=>by
   subst z
   rcases List.mem_cons.mp hc with z | z
   ·have:=O.ob;rw [<- z,n] at this;cases this
   ·obtain ⟨o,ho⟩:=O.inn.there z;rw [n] at ho;cases ho
  refine ⟨b,as,by rw [List.getElem?_set_ne hj];exact O.at_,by rw [q0j (nb b List.mem_cons_self)];exact O.ob,O.nd,O.out,fun c hc k e' hk=>?_,O.inn.upd fun z=>nb a (List.mem_cons_of_mem _ z) rfl⟩
  by_cases nk:i=k
  ·subst nk
   intro z
   by_cases hi:i<ρ.length
   ·rw [List.getElem?_set_self (by omega)] at z
    cases z
    exact nb _ hc rfl
   ·rw [List.getElem?_eq_none (by simp;omega)] at hk;cases hk
  ·rw [List.getElem?_set_ne nk] at hk ⊢
   exact O.dj c hc k e' hk
 ·exact f.u2 j k d1 d2 (nx (fun _ z=>by cases z) h1).1 (nx (fun _ z=>by cases z) h2).1
theorem Fr.write {K:PySem.W.Frag}{H0 Hs0 H Hs:Hp}{la:Nat->Option Addr}{ρ:Rho}{σ:St} (f:Fr K H0 Hs0 la ρ σ H Hs) (i:Nat) {a:Addr}{o:HO}{d d':D} (hi:ρ[i]?=some (Sl.own d)) (hs:σ[i]?=some (some (V.ref a))) (r:w1z K Hs o d'):Fr K H0 Hs0 la (ρ.set i (.own d')) σ (upd H a o) Hs:=by
 obtain ⟨a',o',h1,h2,h3,h4,h5⟩:=f.ow i d hi
 rw [hs] at h1
 cases h1
 have hl:=f.len
 have hil:i<ρ.length:=(List.getElem?_eq_some_iff.mp hi).1
 have nx:∀ {j:Nat}{s:Sl},(∀ d,s≠.own d)->(ρ.set i (.own d'))[j]?=some s->ρ[j]?=some s/\i≠j:=fun {j s} hs e=>by
  by_cases hj:i=j
  ·subst hj
   rw [List.getElem?_set_self hil] at e;exact absurd (Option.some.inj e).symm (hs d')
  ·rw [List.getElem?_set_ne hj] at e;exact ⟨e,hj⟩
 refine ⟨⟨fun b u e=>?_,f.st.sh,fun b u e=>?_,f.st.out⟩,by simp [hl],fun j e h=>?_,fun j e h=>?_,fun j e h=>?_,fun j k d1 d2 b h1 h2 h3 h4=>?_,f.lh,fun j e h=>?_,fun j k d1 d2 h1 h2=>?_⟩
 ·rw [q0j (q0o e h4)];exact f.st.all b u e
 ·rw [q0j (q0o e h3)];exact f.st.sub b u e
 ·obtain ⟨h,hj⟩:=nx (fun _ z=>by cases z) h
  exact f.sh j e h
 ·by_cases hj:i=j
  ·subst hj
   rw [List.getElem?_set_self hil] at h
   cases h
   exact ⟨a,o,hs,q0g,h3,h4,r⟩
  ·rw [List.getElem?_set_ne hj] at h
   obtain ⟨b,u,k1,k2,k3,k4,k5⟩:=f.ow j e h
   refine ⟨b,u,k1,?_,k3,k4,k5⟩
   rw [q0j (fun z=>hj ?_)]
   ·exact k2
   ·subst z
    exact f.dj i j d e b hi h hs k1
 ·obtain ⟨h,hj⟩:=nx (fun _ z=>by cases z) h
  obtain ⟨b,u,k1,k2,k3,k4,k5,k6⟩:=f.lk j e h
  refine ⟨b,u,k1,k2,?_,k4,k5,k6⟩
  rw [q0j (q0o k5 h4)]
  exact k3
 ·have own:∀ {j:Nat}{e:D},(ρ.set i (.own d'))[j]?=some (Sl.own e)->∃ e',ρ[j]?=some (Sl.own e'):=fun {j e} h=>by
   by_cases hj:i=j
   ·subst hj;exact ⟨d,hi⟩
   ·rw [List.getElem?_set_ne hj] at h;exact ⟨e,h⟩
  obtain ⟨e1,h1⟩:=own h1
  obtain ⟨e2,h2⟩:=own h2
  exact f.dj j k e1 e2 b h1 h2 h3 h4
 ·obtain ⟨h,hj⟩:=nx (fun _ z=>by cases z) h
  obtain ⟨b,as,O⟩:=f.o2 j e h
  have nb:∀ c∈b::as,c≠a:=fun c hc z=>by
   subst z
   exact O.dj c hc i d hi hs
  refine ⟨b,as,O.at_,by rw [q0j (nb b List.mem_cons_self)];exact O.ob,O.nd,O.out,fun c hc k e' hk=>?_,O.inn.upd fun z=>nb a (List.mem_cons_of_mem _ z) rfl⟩
  by_cases nk:i=k
  ·subst nk
   exact O.dj c hc i d hi
  ·rw [List.getElem?_set_ne nk] at hk
   exact O.dj c hc k e' hk
 ·exact f.u2 j k d1 d2 (nx (fun _ z=>by cases z) h1).1 (nx (fun _ z=>by cases z) h2).1
def q1q (ρ:Rho):Rho:=ρ.map fun s=>match s with
 | .own d=>.shr d
 | .ow2 dss=>.shr (.list (dss.map .list))
 | s=>s
open Classical in
theorem Fr.share {K:PySem.W.Frag}{H0 Hs0 H Hs:Hp}{la:Nat->Option Addr}{ρ:Rho}{σ:St} (f:Fr K H0 Hs0 la ρ σ H Hs):∃ Hs',Fr K H0 Hs0 la (q1q ρ) σ H Hs'/\q1G H Hs H Hs'\/Fr K H0 Hs0 la (q1q ρ) σ H Hs':=by
 let P:Addr->Prop:=fun b=>(∃ (i:Nat) (d:D),ρ[i]?=some (Sl.own d)/\σ[i]?=some (some (V.ref b)))\/∃ (i:Nat) (dss:List (List D)) (a:Addr) (as:List Addr),ρ[i]?=some (Sl.ow2 dss)/\O2 K H0 H Hs ρ σ i dss a as/\b∈a::as
 let Hs':Hp:=fun b=>if P b then H b else Hs b
 have pos:∀ b,P b->Hs' b=H b:=fun b h=>if_pos h
 have neg:∀ b,¬ P b->Hs' b=Hs b:=fun b h=>if_neg h
 have up:q29 Hs Hs':=fun b o e=>by
  by_cases h:P b
  ·rw [pos b h];exact f.st.sub b o e
  ·rw [neg b h];exact e
 have none0:∀ b o,H0 b=some o->¬ P b:=fun b o e hP=>by
  rcases hP with ⟨i,d,h1,h2⟩ | ⟨i,dss,a,as,h1,O,hb⟩
  ·obtain ⟨a,o',k1,_,_,k4,_⟩:=f.ow i d h1
   rw [h2] at k1;cases k1
   rw [e] at k4;cases k4
  ·have:=(O.out b hb).2
   rw [e] at this;cases this
 have un:∀ {j:Nat}{s:Sl},(q1q ρ)[j]?=some s->(∃ d,s=.shr d/\ρ[j]?=some (Sl.own d))\/(∃ dss:List (List D),s=.shr (.list (dss.map .list))/\ρ[j]?=some (Sl.ow2 dss))\/((∀ d,s≠.own d)/\(∀ d,s≠.ow2 d)/\ρ[j]?=some s):=fun {j s} e=>by
  unfold q1q at e
  rw [List.getElem?_map] at e
  cases h:ρ[j]? with
  | none=>rw [h] at e;cases e
  | some t =>
   rw [h] at e
   cases t with
   | own d=>cases e;exact .inl ⟨d,rfl,rfl⟩
   | no=>cases e;exact .inr (.inr ⟨fun _ z=>(by cases z),fun _ z=>(by cases z),rfl⟩)
   | shr d=>cases e;exact .inr (.inr ⟨fun _ z=>(by cases z),fun _ z=>(by cases z),rfl⟩)
   | lck d=>cases e;exact .inr (.inr ⟨fun _ z=>(by cases z),fun _ z=>(by cases z),rfl⟩)
   | ow2 d=>cases e;exact .inr (.inl ⟨d,rfl,rfl⟩)
 refine ⟨Hs',.inr ⟨⟨f.st.all,f.st.sh.trans up,fun b o e=>?_,fun a o e z=>?_⟩,by simp [q1q,f.len],fun j d h=>?_,fun j d h=>?_,fun j d h=>?_,fun j k d1 d2 a h1 h2 _ _=>?_,f.lh,fun j d h=>?_,fun j k d1 d2 h1 h2=>?_⟩⟩
 ·by_cases h:P b
  ·rw [pos b h] at e;exact e
  ·rw [neg b h] at e;exact f.st.sub b o e
 ·rw [neg a (none0 a o e)];exact f.st.out a o e z
 ·rcases un h with ⟨d',e,h'⟩ | ⟨dss,e,h'⟩ | ⟨_,_,h'⟩
  ·cases e
   obtain ⟨a,o,k1,k2,k3,k4,k5⟩:=f.ow j d h'
   refine ⟨_,k1,?_⟩
   have hp:Hs' a=some o:=by rw [pos a (.inl ⟨j,d,h',k1⟩)];exact k2
   have e:q29 (upd Hs a o) Hs':=fun b u q=>by
    by_cases hb:b=a
    ·subst hb;rw [q0g] at q;cases q;exact hp
    ·rw [q0j hb] at q;exact up b u q
   exact (k5.share k3).same e
  ·cases e
   obtain ⟨a,as,O⟩:=f.o2 j dss h'
   refine ⟨_,O.at_,?_⟩
   have hp:∀ b∈a::as,∀ o,H b=some o->Hs' b=some o:=fun b hb o ho=>by rw [pos b (.inr ⟨j,dss,a,as,h',O,hb⟩)];exact ho
   refine .list (.of (hp a List.mem_cons_self _ O.ob)) ?_
   have go:∀ {as':List Addr}{dss':List (List D)},(∀ b∈as',b∈a::as)->Inn K H Hs as' dss'->RDs K Hs' (as'.map V.ref) (dss'.map .list):=fun {as' dss'} hs hi=>by
    induction hi with
    | nil=>exact .nil
    | cons h1 h2 _ ih=>exact .cons (.list (.of (hp _ (hs _ List.mem_cons_self) _ h1)) (h2.same up)) (ih fun b hb=>hs b (List.mem_cons_of_mem _ hb))
   exact go (fun b hb=>List.mem_cons_of_mem _ hb) O.inn
  ·obtain ⟨v,k1,k2⟩:=f.sh j d h'
   exact ⟨v,k1,k2.same up⟩
 ·rcases un h with ⟨d',e,h'⟩ | ⟨d',e,h'⟩ | ⟨n,_,h'⟩
  ·cases e
  ·cases e
  ·exact (n d rfl).elim
 ·rcases un h with ⟨d',e,h'⟩ | ⟨d',e,h'⟩ | ⟨_,_,h'⟩
  ·cases e
  ·cases e
  ·obtain ⟨a,o,k1,k2,k3,k4,k5,k6⟩:=f.lk j d h'
   exact ⟨a,o,k1,k2,k3,by rw [neg a (none0 a o k5)];exact k4,k5,k6.same up⟩
 ·rcases un h1 with ⟨d',e,h'⟩ | ⟨d',e,h'⟩ | ⟨n,_,h'⟩
  ·cases e
  ·cases e
  ·exact (n d1 rfl).elim
 ·rcases un h with ⟨d',e,h'⟩ | ⟨d',e,h'⟩ | ⟨_,n,h'⟩
  ·cases e
  ·cases e
  ·exact (n d rfl).elim
 ·rcases un h1 with ⟨d',e,h'⟩ | ⟨d',e,h'⟩ | ⟨_,n,h'⟩
  ·cases e
  ·cases e
  ·exact (n d1 rfl).elim
theorem Fr.shared {K:PySem.W.Frag}{H0 Hs0 H Hs:Hp}{la:Nat->Option Addr}{ρ:Rho}{σ:St} (f:Fr K H0 Hs0 la ρ σ H Hs):∃ Hs',Fr K H0 Hs0 la (q1q ρ) σ H Hs':=by
 obtain ⟨Hs',h | h⟩:=f.share
 ·exact ⟨Hs',h.1⟩
 ·exact ⟨Hs',h⟩
section
variable {c:C}{e a b:Expr}{g ga gb:Rho->R D}{pos:Pos}{x:Str}{st:Stmt}{q0I:List Stmt}{gs gr:Rho->R Fl}
def q0d (g h:Rho->R Fl):Rho->R Fl:=fun ρ=>(g ρ).bind fun fl=>match fl with
 | .nx ρ'=>h ρ'
 | fl=>.ok fl
theorem q0B:JSs c [] (fun ρ=>.ok (.nx ρ)):=.of fun ρ=>y1Q x64 fun D σ H h_1=>by obtain ⟨H0,Hs0,la,Hs,f,q⟩:=h_1;exact q σ H Hs f
theorem q09 (h:JS c st gs):JSs c [st] gs:=.of fun ρ=>x65 (h ρ)
theorem q05 (h:JS c st gs) (hr:JSs c q0I gr):JSs c (st::q0I) (q0d gs gr):=.of fun ρ pins s σ H D I h_2=>by
 obtain ⟨H0,Hs0,la,Hs,f,q⟩:=h_2
 unfold q0d at q
 cases hg:gs ρ with
 | no=>rw [hg] at q;exact q.elim
 | ex x n =>
  rw [hg] at q
  refine q5Y (h ρ) (q5Z (X:=c.X) (sts:=q0I)) pins s σ H D I ⟨H0,Hs0,la,Hs,f,?_⟩
  rw [hg]
  exact q
 | ok fl =>
  rw [hg,bind_ok] at q
  cases fl with
  | nx ρ' =>
   refine q5Y (h ρ) (hr ρ') pins s σ H D I ⟨H0,Hs0,la,Hs,f,?_⟩
   rw [hg]
   exact fun σ' H' Hs' f'=>⟨H0,Hs0,la,Hs',f',q⟩
  | rt d =>
   refine q5Y (h ρ) (q5Z (X:=c.X) (sts:=q0I)) pins s σ H D I ⟨H0,Hs0,la,Hs,f,?_⟩
   rw [hg]
   exact q
  | bk ρ' =>
   refine q5Y (h ρ) (q5Z (X:=c.X) (sts:=q0I)) pins s σ H D I ⟨H0,Hs0,la,Hs,f,?_⟩
   rw [hg]
   exact q
  | ct ρ' =>
   refine q5Y (h ρ) (q5Z (X:=c.X) (sts:=q0I)) pins s σ H D I ⟨H0,Hs0,la,Hs,f,?_⟩
   rw [hg]
   exact q
theorem sE {K:PySem.W.Frag}{cls:Str->Addr}{E:XK}{ρ:Rho}{r:R D}{k:D->R Fl}{σ:St}{H:Hp}{H0 Hs0 Hs:Hp}{la:Nat->Option Addr}{D':w7R}{Q:V->Hp->Prop} (f:Fr K H0 Hs0 la ρ σ H Hs)
  (h:w5i K cls E H0 Hs0 la D' (r.bind k)) (m:∀ d v H' Hs',r=.ok d->q1G H Hs H' Hs'->Fr K H0 Hs0 la ρ σ H' Hs'->RD K Hs' v d->Q v H'):TR K cls E ρ r σ H Q:=by
 refine ⟨H0,Hs0,la,Hs,f,?_⟩
 cases r with
 | ok d=>exact fun v H' Hs' s r=>m d v H' Hs' rfl s (f.step s) r
 | ex c n=>exact fun H' Hs' s=>h H' Hs' (f.st.trans s)
 | no=>exact h
theorem sT {K:PySem.W.Frag}{cls:Str->Addr}{E:XK}{ρ:Rho}{r:R Bool}{k:Bool->R Fl}{σ:St}{H:Hp}{H0 Hs0 Hs:Hp}{la:Nat->Option Addr}{D':w7R}{Q:Bool->Hp->Prop} (f:Fr K H0 Hs0 la ρ σ H Hs)
  (h:w5i K cls E H0 Hs0 la D' (r.bind k)) (m:∀ d H' Hs',r=.ok d->q1G H Hs H' Hs'->Fr K H0 Hs0 la ρ σ H' Hs'->Q d H'):TTT K cls E ρ r σ H Q:=by
 refine ⟨H0,Hs0,la,Hs,f,?_⟩
 cases r with
 | ok d=>exact fun H' Hs' s=>m d H' Hs' rfl s (f.step s)
 | ex c n=>exact fun H' Hs' s=>h H' Hs' (f.st.trans s)
 | no=>exact h
def q1k (g:Rho->R D):Rho->R Fl:=fun ρ=>(g (q1q ρ)).bind fun d=>.ok (.rt d)
theorem q0k (h:JE c e g):JS c (.Return (some e) pos) (q1k g):=.of fun ρ=>mPS (x7K (h (q1q ρ))) fun D σ H h_3=>by
 obtain ⟨H0,Hs0,la,Hs,f,q⟩:=h_3
 obtain ⟨Hs',f'⟩:=f.shared
 refine sE f' q fun d v H1 Hs1 e1 s1 f1 r1=>?_
 unfold q1k at q
 rw [e1,bind_ok] at q
 exact q v H1 Hs1 f1.st r1
def q2l (t:Rho->R Bool) (g h:Rho->R Fl):Rho->R Fl:=fun ρ=>(t ρ).bind fun b=>if b then g ρ else h ρ
theorem q1H {t:Expr}{gt:Rho->R Bool}{A B:List Stmt}{gA gB:Rho->R Fl} (ht:JT c t gt) (hA:JSs c A gA) (hB:JSs c B gB):JS c (.If t A B pos) (q2l gt gA gB):=.of fun ρ=>mPS (x9S (ht ρ) (hA ρ) (hB ρ)) fun D σ H h_5=>by
 obtain ⟨H0,Hs0,la,Hs,f,q⟩:=h_5
 refine sT f q fun d H1 Hs1 e1 s1 f1=>?_
 unfold q2l at q
 rw [e1,bind_ok] at q
 cases d with
 | true=>exact x4T ⟨H0,Hs0,la,Hs1,f1,q⟩
 | false=>exact x4S ⟨H0,Hs0,la,Hs1,f1,q⟩
def q2R (i:Nat) (g:Rho->R D):Rho->R Fl:=fun ρ=>(g ρ).bind fun d=>.ok (.nx (ρ.set i (.shr d)))
theorem q0W (i:Nat) {pos':Pos} (h:JE c e g) (hN:c.X.N.Nodup) (hi:c.X.N[i]?=some x:=by rfl) (hx:Loc c.X.env.scope x:=by first | exact Or.inl rfl | exact Or.inr rfl) (hs:swapsWith e (some (.Name x pos')) pos.line c.X.env=pure false:=by rfl)
  (hf:c.X.fn x=true\/c.X.env.scope.names.lookup x=some .local:=by first | exact .inl rfl | exact .inr rfl | assumption):JS c (.Assign [.Name x pos'] e pos) (q2R i g):=.of fun ρ=>mPS (x0P hN hi hx (h ρ) hs hf) fun D σ H h_6=>by
 obtain ⟨H0,Hs0,la,Hs,f,q⟩:=h_6
 refine sE f q fun d v H1 Hs1 e1 s1 f1 r1=>?_
 unfold q2R at q
 rw [e1,bind_ok] at q
 exact q _ H1 Hs1 (f1.set i r1)
def w03 (g:Rho->R D):Rho->R Fl:=fun ρ=>(g ρ).bind fun _=>.ok (.nx ρ)
theorem q5x (h:JE c e g) (hs:swapsWith e none pos.line c.X.env=pure false:=by rfl):JS c (.Expr e pos) (w03 g):=.of fun ρ=>mPS (w5o (h ρ) hs) fun D σ H h_7=>by
 obtain ⟨H0,Hs0,la,Hs,f,q⟩:=h_7
 refine sE f q fun d v H1 Hs1 e1 s1 f1 r1=>?_
 unfold w03 at q
 rw [e1,bind_ok] at q
 exact q _ H1 Hs1 f1
def TGq (K:PySem.W.Frag) (H0 Hs0:Hp) (la:Nat->Option Addr) (H Hs:Hp) (Q:St->Hp->Prop) (r:R Rho):Prop:=match r with
 | .ok ρ'=>∀ σ',Fr K H0 Hs0 la ρ' σ' H Hs->Q σ' H
 | _=>False
inductive y0Z (K:PySem.W.Frag) (ρ:Rho) (d:D) (r:R Rho) (v:V) (σ:St) (H:Hp) (Q:St->Hp->Prop):Prop
 | mk (H0 Hs0:Hp) (la:Nat->Option Addr) (Hs:Hp) (f:Fr K H0 Hs0 la ρ σ H Hs) (rd:RD K Hs v d) (q:TGq K H0 Hs0 la H Hs Q r):y0Z K ρ d r v σ H Q
def TGr (K:PySem.W.Frag) (ρ:Rho) (d:D) (r:R Rho):TG:=y0Z K ρ d r
inductive x8q (K:PySem.W.Frag) (ρ:Rho) (ds:List D) (r:R Rho) (vs:List V) (σ:St) (H:Hp) (Q:St->Hp->Prop):Prop
 | mk (H0 Hs0:Hp) (la:Nat->Option Addr) (Hs:Hp) (f:Fr K H0 Hs0 la ρ σ H Hs) (rd:RDs K Hs vs ds) (q:TGq K H0 Hs0 la H Hs Q r):x8q K ρ ds r vs σ H Q
def y10 (K:PySem.W.Frag) (ρ:Rho) (ds:List D) (r:R Rho):TGs:=x8q K ρ ds r
structure JG (c:C) (t:Expr) (k:D->Rho->R Rho):Prop where of ::
 run:∀ ρ d,PG c.X t (TGr c.X.K ρ d (k d ρ))
instance {c:C}{t:Expr}{k:D->Rho->R Rho}:CoeFun (JG c t k) (fun _=>∀ ρ d,PG c.X t (TGr c.X.K ρ d (k d ρ))):=⟨JG.run⟩
structure JGs (c:C) (t:List Expr) (k:List D->Rho->R Rho):Prop where of ::
 run:∀ ρ d,PGs c.X t (y10 c.X.K ρ d (k d ρ))
instance {c:C}{t:List Expr}{k:List D->Rho->R Rho}:CoeFun (JGs c t k) (fun _=>∀ ρ d,PGs c.X t (y10 c.X.K ρ d (k d ρ))):=⟨JGs.run⟩
theorem mPG {X:Cx}{e:Expr}{t t':TG} (h:PG X e t) (m:∀ v σ H Q,t' v σ H Q->t v σ H Q):PG X e t':=fun pins s σ H v u Q I r q=>h pins s σ H v u Q I r (m v σ H Q q)
theorem y1U {X:Cx}{e:List Expr}{t t':TGs} (h:PGs X e t) (m:∀ v σ H Q,t' v σ H Q->t v σ H Q):PGs X e t':=fun pins s σ H v u Q I r q=>h pins s σ H v u Q I r (m v σ H Q q)
def q0q (i:Nat):D->Rho->R Rho:=fun d ρ=>.ok (ρ.set i (.shr d))
theorem q0x (i:Nat) (hN:c.X.N.Nodup) (hi:c.X.N[i]?=some x:=by rfl) (hx:Loc c.X.env.scope x:=by first | exact Or.inl rfl | exact Or.inr rfl) (hf:c.X.fn x=true\/c.X.env.scope.names.lookup x=some .local:=by first | exact .inl rfl | exact .inr rfl | assumption) :
  JG c (.Name x pos) (q0q i):=.of fun ρ d=>mPG (q0G hN hi hx hf) fun v σ H Q h_11=>by obtain ⟨H0,Hs0,la,Hs,f,r,q⟩:=h_11;exact q _ (f.set i r)
variable {kt:D->Rho->R Rho}{kts:List D->Rho->R Rho}{t:Expr}{ts:List Expr}
def q84:List D->Rho->R Rho:=fun ds ρ=>match ds with
 | []=>.ok ρ
 | _=>.no
def q0D (k:D->Rho->R Rho) (ks:List D->Rho->R Rho):List D->Rho->R Rho:=fun ds ρ=>match ds with
 | d::r=>(k d ρ).bind fun ρ'=>ks r ρ'
 | _=>.no
theorem q3E:JGs c [] q84:=.of fun ρ ds=>y1U w5p fun vs σ H Q h_12=>by
 obtain ⟨H0,Hs0,la,Hs,f,r,q⟩:=h_12
 cases r with
 | nil=>exact ⟨rfl,q σ f⟩
 | cons _ _=>exact q.elim
theorem q0C (h:JG c t kt) (hr:JGs c ts kts) (hs:(assignEach (t::ts) c.X.env).map (·.2)=assign t c.X.env::(assignEach ts c.X.env).map (·.2):=by rfl):JGs c (t::ts) (q0D kt kts):=.of fun ρ ds pins s σ H vs us Q I rv h_13=>by
 obtain ⟨H0,Hs0,la,Hs,f,r,q⟩:=h_13
 cases r with
 | nil=>exact q.elim
 | @cons v vr d dr r1 r2 =>
  unfold q0D at q
  cases hk:kt d ρ with
  | ok ρ' =>
   simp only [hk,bind_ok] at q
   refine q60 (h ρ d) (hr ρ' dr) hs pins s σ H _ us Q I rv ⟨v,vr,rfl,H0,Hs0,la,Hs,f,r1,?_⟩
   rw [hk]
   exact fun σ' f'=>⟨H0,Hs0,la,Hs,f',r2,q⟩
  | ex x n=>simp only [hk,bind_ex] at q;exact q.elim
  | no=>simp only [hk,bind_no] at q;exact q.elim
def q6P (n:Nat) (ks:List D->Rho->R Rho):D->Rho->R Rho:=fun d ρ=>match d with
 | .tuple ds=>if ds.length=n then ks ds ρ else .no
 | _=>.no
theorem q5o {k n:Nat} (hc:c.X.calm=true) (h:JGs c ts kts) (hn:(assignEach ts c.X.env).length=n:=by rfl) (hst:(assignEach ts c.X.env).findIdx? (·.1)=none:=by rfl):JG c (.Tuple ts k pos) (q6P n kts):=.of fun ρ d=>by
 cases d with
 | tuple ds =>
  refine mPG (x0O hc (h ρ ds) hn hst) fun v σ H Q h_14=>?_
  obtain ⟨H0,Hs0,la,Hs,f,r,q⟩:=h_14
  cases r with
  | @tuple p xs _ hq rs =>
   unfold q6P at q
   by_cases hl:ds.length=n
   ·simp only [if_pos hl] at q
    exact ⟨p,xs,rfl,(SqT.of (f.st.sub _ _ hq)),by rw [rs.length];exact hl,H0,Hs0,la,Hs,f,rs,q⟩
   ·simp only [if_neg hl] at q;exact q.elim
 | _=>exact fun pins s σ H v u Q I rv h_15=>by obtain ⟨H0,Hs0,la,Hs,f,r,q⟩:=h_15;exact q.elim
def w9f (g:Rho->R D) (k:D->Rho->R Rho):Rho->R Fl:=fun ρ=>(g ρ).bind fun d=>match k d ρ with
 | .ok ρ'=>.ok (.nx ρ')
 | _=>.no
theorem q8T (h:JE c e g) (hg:JG c t kt) (hs:swapsWithSole [t] e pos.line c.X.env=pure false:=by rfl) (hw:swappedStores [t] e c.X.env=pure none:=by rfl) (h1:(assignEach [t] c.X.env).map (·.2)=[assign t c.X.env]:=by rfl) :
  JS c (.Assign [t] e pos) (w9f g kt):=.of fun ρ=>by
 cases hr:g ρ with
 | ok d =>
  refine mPS (x4L (h ρ) (hg ρ d) hs hw h1) fun D σ H h_16=>?_
  obtain ⟨H0,Hs0,la,Hs,f,q⟩:=h_16
  refine sE (k:=fun d=>match kt d ρ with | .ok ρ'=>.ok (.nx ρ') | _=>.no) f q fun d' v H1 Hs1 e1 s1 f1 r1=>?_
  rw [hr] at e1
  cases e1
  unfold w9f at q
  rw [hr,bind_ok] at q
  refine ⟨H0,Hs0,la,Hs1,f1,r1,?_⟩
  cases hk:kt d ρ with
  | ok ρ'=>rw [hk] at q;exact fun σ' f'=>q σ' H1 Hs1 f'
  | ex x n=>rw [hk] at q;exact q.elim
  | no=>rw [hk] at q;exact q.elim
 | ex x n =>
  refine mPS (x4L (h ρ) (hg ρ .none) hs hw h1) fun D σ H h_17=>?_
  obtain ⟨H0,Hs0,la,Hs,f,q⟩:=h_17
  refine sE (k:=fun _=>.no) (D':=D) f (by unfold w9f at q;rw [hr] at q ⊢;exact q) fun d' v H1 Hs1 e1 s1 f1 r1=>?_
  rw [hr] at e1;cases e1
 | no =>
  refine fun pins s σ H D I h_18=>?_
  obtain ⟨H0,Hs0,la,Hs,f,q⟩:=h_18
  unfold w9f at q
  rw [hr] at q
  exact q.elim
end
end J
end
section
namespace J
open PySem L2
def ItD (K:PySem.W.Frag) (J:It) (ds:List D) (Hn Hs:Hp):Prop:=∀ H2 Hs2,q29 Hn H2->q29 Hs Hs2->q29 Hs2 H2 ->
 (∀ i,i<ds.length->J.go i H2)/\(∀ i,ds.length<=i->J.stop i H2)/\∀ i x H3,i<ds.length->J.yld i H2 x H3->∃ d Hs3,ds[i]?=some d/\q1G H2 Hs2 H3 Hs3/\RD K Hs3 x d
theorem w5F {K:PySem.W.Frag}{Hn Hs:Hp}{a:Addr}{vs:List V}{ds:List D} (h:SqL K Hn a vs) (r:RDs K Hs vs ds):ItD K (Itl K a) ds Hn Hs:=fun H2 Hs2 e1 e2 e3=>by
 have q:=e1.seq h
 refine ⟨fun i hi=>?_,fun i hi=>⟨vs,q,by rw [r.length];exact hi⟩,fun i x H3 hi y=>?_⟩
 ·have hi':i<vs.length:=by rw [r.length];exact hi
  exact ⟨vs,vs[i],q,List.getElem?_eq_getElem hi'⟩
 ·obtain ⟨rfl,y⟩:=y
  obtain ⟨d,k1,k2⟩:=r.get (y vs q)
  exact ⟨d,Hs2,k1,.refl e3,k2.same e2⟩
theorem x56 {K:PySem.W.Frag}{Hn Hs:Hp}{a:Addr}{vs:List V}{ds:List D} (h:SqT K Hn a vs) (r:RDs K Hs vs ds):ItD K (Itt K a) ds Hn Hs:=fun H2 Hs2 e1 e2 e3=>by
 have q:=e1.tup h
 refine ⟨fun i hi=>?_,fun i hi=>⟨vs,q,by rw [r.length];exact hi⟩,fun i x H3 hi y=>?_⟩
 ·have hi':i<vs.length:=by rw [r.length];exact hi
  exact ⟨vs,vs[i],q,List.getElem?_eq_getElem hi'⟩
 ·obtain ⟨rfl,y⟩:=y
  obtain ⟨d,k1,k2⟩:=r.get (y vs q)
  exact ⟨d,Hs2,k1,.refl e3,k2.same e2⟩
theorem x57 {K:PySem.W.Frag}{Hn Hs:Hp} (x:Str):ItD K (Its x) (q5n x) Hn Hs:=fun H2 Hs2 e1 e2 e3=>by
 have hl:(q5n x).length=x.cps.size:=by simp [q5n]
 refine ⟨fun i hi=>by rw [hl] at hi;exact hi,fun i hi=>by rw [hl] at hi;exact hi,fun i v H3 hi y=>?_⟩
 obtain ⟨rfl,c,k1,rfl⟩:=y
 refine ⟨.str ⟨#[c]⟩,Hs2,?_,.refl e3,.str _⟩
 unfold q5n
 rw [List.getElem?_map,Array.getElem?_toList,k1]
 rfl
def q7K (lo:Int) (n:Nat):List D:=(List.range n).map fun (k:Nat)=>PyData.int (lo + k)
theorem x3P {K:PySem.W.Frag}{Hn Hs:Hp} (lo:Int) (n:Nat):ItD K (Itr lo n) (q7K lo n) Hn Hs:=fun H2 Hs2 e1 e2 e3=>by
 have hl:(q7K lo n).length=n:=by simp [q7K]
 refine ⟨fun i hi=>by rw [hl] at hi;exact hi,fun i hi=>by rw [hl] at hi;exact hi,fun i v H3 hi y=>?_⟩
 obtain ⟨rfl,rfl⟩:=y
 refine ⟨.int (lo + i),Hs2,?_,.refl e3,.int _⟩
 rw [hl] at hi
 unfold q7K
 rw [List.getElem?_map,List.getElem?_range hi]
 rfl
def q3F (n:Nat):List D->List D
 | []=>[]
 | d::r=>.tuple [.int n,d]::q3F (n + 1) r
theorem q8U:∀ (ds:List D) (n i:Nat),(q3F n ds)[i]?=(ds[i]?).map fun d=>PyData.tuple [.int ((n + i:Nat):Int),d]
 | [],_,_=>by simp [q3F]
 | d::r,n,0=>by simp [q3F]
 | d::r,n,i + 1=>by
  simp only [q3F,List.getElem?_cons_succ]
  rw [q8U r (n + 1) i,show n + 1 + i=n + (i + 1) by omega]
theorem q8V:∀ (ds:List D) (n:Nat),(q3F n ds).length=ds.length
 | [],_=>rfl
 | d::r,n=>by simp [q3F,q8V r]
theorem x6H {K:PySem.W.Frag}{Hn Hs:Hp}{a:Addr}{vs:List V}{ds:List D} (h:SqT K Hn a vs) (r:RDs K Hs vs ds):ItD K (Ite K a) (q3F 0 ds) Hn Hs:=fun H2 Hs2 e1 e2 e3=>by
 have q:=e1.tup h
 have hl:=q8V ds 0
 refine ⟨fun i hi=>?_,fun i hi=>⟨vs,q,by rw [r.length];omega⟩,fun i x H3 hi y=>?_⟩
 ·have hi':i<vs.length:=by rw [r.length];omega
  exact ⟨vs,vs[i],q,List.getElem?_eq_getElem hi'⟩
 ·obtain ⟨p,hp,rfl,y⟩:=y
  obtain ⟨x,k0,rfl⟩:=y vs q
  obtain ⟨d,k1,k2⟩:=r.get k0
  have st:=q1G.new (o:=.tup [.int i,x]) e3 hp
  refine ⟨.tuple [.int i,d],_,?_,st,.tuple q0g (.cons (.int _) (.cons ((k2.same e2).same st.sh) .nil))⟩
  rw [q8U,k1]
  simp
def x0J:List D->List D->List D
 | x::xs,y::ys=>.tuple [x,y]::x0J xs ys
 | _,_=>[]
theorem w88:∀ (xs ys:List D) (i:Nat) (x y:D),xs[i]?=some x->ys[i]?=some y->(x0J xs ys)[i]?=some (.tuple [x,y])
 | x::xs,y::ys,0,_,_,h1,h2=>by simp at h1 h2;subst h1 h2;rfl
 | _::xs,_::ys,i + 1,x,y,h1,h2=>by
  simp only [List.getElem?_cons_succ] at h1 h2
  simp only [x0J,List.getElem?_cons_succ]
  exact w88 xs ys i x y h1 h2
 | [],_,_,_,_,h1,_=>by simp at h1
 | _::_,[],_,_,_,_,h2=>by simp at h2
theorem w89:∀ (xs ys:List D),(x0J xs ys).length=min xs.length ys.length
 | x::xs,y::ys=>by simp [x0J,w89 xs ys]
 | [],_=>by simp [x0J]
 | _::_,[]=>by simp [x0J]
theorem x8r {K:PySem.W.Frag}{Hn Hs:Hp}{a b:Addr}{vs ws:List V}{ds es:List D} (h:SqT K Hn a vs) (r:RDs K Hs vs ds) (h':SqT K Hn b ws) (r':RDs K Hs ws es):ItD K (Itz K a b) (x0J ds es) Hn Hs:=fun H2 Hs2 e1 e2 e3=>by
 have q:=e1.tup h
 have q':=e1.tup h'
 have hl:=w89 ds es
 refine ⟨fun i hi=>?_,fun i hi=>⟨vs,ws,q,q',by rw [r.length,r'.length];omega⟩,fun i x H3 hi y=>?_⟩
 ·have h1:i<vs.length:=by rw [r.length];omega
  have h2:i<ws.length:=by rw [r'.length];omega
  exact ⟨vs,ws,vs[i],ws[i],q,q',List.getElem?_eq_getElem h1,List.getElem?_eq_getElem h2⟩
 ·obtain ⟨p,hp,rfl,y⟩:=y
  obtain ⟨x,z,k0,k0',rfl⟩:=y vs ws q q'
  obtain ⟨d,k1,k2⟩:=r.get k0
  obtain ⟨d',k1',k2'⟩:=r'.get k0'
  have st:=q1G.new (o:=.tup [x,z]) e3 hp
  exact ⟨.tuple [d,d'],_,w88 ds es i d d' k1 k1',st,.tuple q0g (.cons ((k2.same e2).same st.sh) (.cons ((k2'.same e2).same st.sh) .nil))⟩
inductive y11 (K:PySem.W.Frag) (cls:Str->Addr) (E:XK) (ρ:Rho) (r:R (List D)) (σ:St) (H:Hp) (Q:It->Hp->Prop):Prop
 | mk (H0 Hs0:Hp) (la:Nat->Option Addr) (Hs:Hp) (f:Fr K H0 Hs0 la ρ σ H Hs) (q:Fin K cls E H Hs r fun ds=>∀ J H' Hs' Hn,q1G H Hs H' Hs'->q29 Hn H'->ItD K J ds Hn Hs'->Q J H'):y11 K cls E ρ r σ H Q
def TIr (K:PySem.W.Frag) (cls:Str->Addr) (E:XK) (ρ:Rho) (r:R (List D)):TI:=y11 K cls E ρ r
inductive y12 (K:PySem.W.Frag) (cls:Str->Addr) (E:XK) (ρ:Rho) (r:R (List D)) (σ:St) (H:Hp) (Q:It->Hp->Prop):Prop
 | mk (H0 Hs0:Hp) (la:Nat->Option Addr) (Hs:Hp) (f:Fr K H0 Hs0 la ρ σ H Hs) (q:Fin K cls E H Hs r fun ds=>∀ J H' Hs',q1G H Hs H' Hs'->ItD K J ds Hs' Hs'->Q J H'):y12 K cls E ρ r σ H Q
def TIs (K:PySem.W.Frag) (cls:Str->Addr) (E:XK) (ρ:Rho) (r:R (List D)):TI:=y12 K cls E ρ r
structure JI (c:C) (tg it:Expr) (g:Rho->R (List D)):Prop where of ::
 run:∀ ρ,PI c.X tg it (TIr c.X.K c.cls c.E ρ (g ρ))
instance {c:C}{tg it:Expr}{g:Rho->R (List D)}:CoeFun (JI c tg it g) (fun _=>∀ ρ,PI c.X tg it (TIr c.X.K c.cls c.E ρ (g ρ))):=⟨JI.run⟩
structure JIs (c:C) (tg it:Expr) (g:Rho->R (List D)):Prop where of ::
 run:∀ ρ,PI c.X tg it (TIs c.X.K c.cls c.E ρ (g ρ))
instance {c:C}{tg it:Expr}{g:Rho->R (List D)}:CoeFun (JIs c tg it g) (fun _=>∀ ρ,PI c.X tg it (TIs c.X.K c.cls c.E ρ (g ρ))):=⟨JIs.run⟩
theorem mPI {X:Cx}{tg e:Expr}{t t':TI} (h:PI X tg e t) (m:∀ σ H Q,t' σ H Q->t σ H Q):PI X tg e t':=fun pins s σ H Q I q=>h pins s σ H Q I (m σ H Q q)
section
variable {c:C}{e a b l tg:Expr}{g ga gb:Rho->R D}{pos p:Pos}{gs:Rho->R (List D)}
def w3B:D->R (List D)
 | .list ds=>.ok ds
 | .tuple ds=>.ok ds
 | .str x=>.ok (q5n x)
 | _=>.no
def gIt (g:Rho->R D):Rho->R (List D):=fun ρ=>(g ρ).bind w3B
theorem q1I (h:JB c l g):JI c tg l (gIt g):=.of fun ρ=>by
 cases hr:g ρ with
 | no=>exact fun pins s σ H Q I h_0=>by obtain ⟨H0,Hs0,la,Hs,f,q⟩:=h_0;exact by unfold gIt at q;rw [hr] at q;exact q.elim
 | ex x n =>
  refine mPI (q8y (h ρ)) fun σ H Q h_1=>?_
  obtain ⟨H0,Hs0,la,Hs,f,q⟩:=h_1
  refine one f q fun d v H1 Hs1 e1 s1 f1 r1=>?_
  rw [hr] at e1;cases e1
 | ok d =>
  cases d with
  | list ds =>
   refine mPI (q8y (h ρ)) fun σ H Q h_2=>?_
   obtain ⟨H0,Hs0,la,Hs,f,q⟩:=h_2
   refine one f q fun d v H1 Hs1 e1 s1 f1 r1=>?_
   rw [hr] at e1;cases e1
   unfold gIt at q
   rw [hr,bind_ok] at q
   obtain ⟨a,vs,rfl,qa,ra⟩:=r1.list f1.st.sub
   exact ⟨a,rfl,⟨vs,qa⟩,q _ H1 Hs1 H1 s1 (.refl _) (w5F qa ra)⟩
  | tuple ds =>
   refine mPI (x4M (h ρ)) fun σ H Q h_3=>?_
   obtain ⟨H0,Hs0,la,Hs,f,q⟩:=h_3
   refine one f q fun d v H1 Hs1 e1 s1 f1 r1=>?_
   rw [hr] at e1;cases e1
   unfold gIt at q
   rw [hr,bind_ok] at q
   obtain ⟨a,vs,rfl,qa,ra,_⟩:=r1.tuple f1.st.sub
   exact ⟨a,rfl,⟨vs,qa⟩,q _ H1 Hs1 H1 s1 (.refl _) (x56 qa ra)⟩
  | str x =>
   refine mPI (x4X (h ρ)) fun σ H Q h_4=>?_
   obtain ⟨H0,Hs0,la,Hs,f,q⟩:=h_4
   refine one f q fun d v H1 Hs1 e1 s1 f1 r1=>?_
   rw [hr] at e1;cases e1
   unfold gIt at q
   rw [hr,bind_ok] at q
   exact ⟨x,r1.str,q _ H1 Hs1 H1 s1 (.refl _) (x57 x)⟩
  | none=>exact fun pins s σ H Q I h_5=>by obtain ⟨H0,Hs0,la,Hs,f,q⟩:=h_5;exact by unfold gIt at q;rw [hr] at q;exact q.elim
  | bool _=>exact fun pins s σ H Q I h_6=>by obtain ⟨H0,Hs0,la,Hs,f,q⟩:=h_6;exact by unfold gIt at q;rw [hr] at q;exact q.elim
  | int _=>exact fun pins s σ H Q I h_7=>by obtain ⟨H0,Hs0,la,Hs,f,q⟩:=h_7;exact by unfold gIt at q;rw [hr] at q;exact q.elim
  | dict _=>exact fun pins s σ H Q I h_8=>by obtain ⟨H0,Hs0,la,Hs,f,q⟩:=h_8;exact by unfold gIt at q;rw [hr] at q;exact q.elim
theorem w5G (h:JE c l g):JIs c tg l (gIt g):=.of fun ρ=>by
 cases hr:g ρ with
 | no=>exact fun pins s σ H Q I h_9=>by obtain ⟨H0,Hs0,la,Hs,f,q⟩:=h_9;exact by unfold gIt at q;rw [hr] at q;exact q.elim
 | ex x n =>
  refine mPI (q8y (h ρ)) fun σ H Q h_10=>?_
  obtain ⟨H0,Hs0,la,Hs,f,q⟩:=h_10
  refine x3M f q fun d v H1 Hs1 e1 s1 f1 r1=>?_
  rw [hr] at e1;cases e1
 | ok d =>
  cases d with
  | list ds =>
   refine mPI (q8y (h ρ)) fun σ H Q h_11=>?_
   obtain ⟨H0,Hs0,la,Hs,f,q⟩:=h_11
   refine x3M f q fun d v H1 Hs1 e1 s1 f1 r1=>?_
   rw [hr] at e1;cases e1
   unfold gIt at q
   rw [hr,bind_ok] at q
   cases r1 with
   | list qa ra=>exact ⟨_,rfl,⟨_,f1.st.sub.seq qa⟩,q _ H1 Hs1 s1 (w5F qa ra)⟩
  | tuple ds =>
   refine mPI (x4M (h ρ)) fun σ H Q h_12=>?_
   obtain ⟨H0,Hs0,la,Hs,f,q⟩:=h_12
   refine x3M f q fun d v H1 Hs1 e1 s1 f1 r1=>?_
   rw [hr] at e1;cases e1
   unfold gIt at q
   rw [hr,bind_ok] at q
   cases r1 with
   | tuple qa ra=>exact ⟨_,rfl,⟨_,(SqT.of (f1.st.sub _ _ qa))⟩,q _ H1 Hs1 s1 (x56 (.of qa) ra)⟩
  | str x =>
   refine mPI (x4X (h ρ)) fun σ H Q h_13=>?_
   obtain ⟨H0,Hs0,la,Hs,f,q⟩:=h_13
   refine x3M f q fun d v H1 Hs1 e1 s1 f1 r1=>?_
   rw [hr] at e1;cases e1
   unfold gIt at q
   rw [hr,bind_ok] at q
   cases r1 with
   | str _=>exact ⟨x,rfl,q _ H1 Hs1 s1 (x57 x)⟩
  | none=>exact fun pins s σ H Q I h_14=>by obtain ⟨H0,Hs0,la,Hs,f,q⟩:=h_14;exact by unfold gIt at q;rw [hr] at q;exact q.elim
  | bool _=>exact fun pins s σ H Q I h_15=>by obtain ⟨H0,Hs0,la,Hs,f,q⟩:=h_15;exact by unfold gIt at q;rw [hr] at q;exact q.elim
  | int _=>exact fun pins s σ H Q I h_16=>by obtain ⟨H0,Hs0,la,Hs,f,q⟩:=h_16;exact by unfold gIt at q;rw [hr] at q;exact q.elim
  | dict _=>exact fun pins s σ H Q I h_17=>by obtain ⟨H0,Hs0,la,Hs,f,q⟩:=h_17;exact by unfold gIt at q;rw [hr] at q;exact q.elim
theorem JIs.i (h:JIs c tg l gs):JI c tg l gs:=.of fun ρ=>mPI (h ρ) fun σ H Q ⟨H0,Hs0,la,Hs,f,q⟩=>⟨H0,Hs0,la,Hs,f,by
 cases hr:gs ρ with
 | ok ds=>rw [hr] at q;exact fun J H' Hs' s i=>q J H' Hs' Hs' s s.sub i
 | ex x n=>rw [hr] at q;exact q
 | no=>rw [hr] at q;exact q⟩
def x6I:List D->R (List D)
 | [.int j]=>if -(2 ^ 62)<=j/\j<2 ^ 62 then .ok (q7K 0 j.toNat) else .no
 | _=>.no
def w1D (gs:Rho->R (List D)):Rho->R (List D):=fun ρ=>(gs ρ).bind x6I
theorem q3Q (hg:Gl c.X "range") (hm:c.X.mg "range"=none) (ha:JBs c [a] gs) (hs:starEach [a] c.X.env=[(false,eval a c.X.env)]:=by rfl):JIs c tg (.Call (.Name "range" p) [a] [] pos) (w1D gs):=.of fun ρ=>mPI (x0S hg hm (ha ρ) hs) fun σ H Q h_18=>by
 obtain ⟨H0,Hs0,la,Hs,f,q⟩:=h_18
 refine x6z f q fun ds vs H1 Hs1 e1 s1 f1 r1=>?_
 unfold w1D at q
 rw [e1,bind_ok] at q
 unfold x6I at q
 split at q
 ·rename_i j
  by_cases hj:-(2 ^ 62)<=j/\j<2 ^ 62
  ·rw [if_pos hj] at q
   obtain ⟨x,rfl,rx⟩:=r1.one
   exact ⟨j,by rw [rx.int],hj.1,hj.2,q _ H1 Hs1 s1 (x3P 0 _)⟩
  ·rw [if_neg hj] at q;exact q.elim
 ·exact q.elim
def enm:List D->R (List D)
 | [.tuple ds]=>.ok (q3F 0 ds)
 | _=>.no
def x6J (gs:Rho->R (List D)):Rho->R (List D):=fun ρ=>(gs ρ).bind enm
theorem RDs.one {K:PySem.W.Frag}{H:Hp}{xs:List V}{d:D} (h:RDs K H xs [d]):∃ x,xs=[x]/\RD K H x d:=by
 cases h with | cons a t=>cases t;exact ⟨_,rfl,a⟩
theorem RDs.two {K:PySem.W.Frag}{H:Hp}{xs:List V}{d e:D} (h:RDs K H xs [d,e]):∃ x y,xs=[x,y]/\RD K H x d/\RD K H y e:=by
 cases h with | cons a t=>cases t with | cons b t=>cases t;exact ⟨_,_,rfl,a,b⟩
theorem w1E {elts:List Expr}{x1}{tpos:Pos} (hg:Gl c.X "enumerate") (hm:c.X.mg "enumerate"=none) (ha:JAs c [a] gs) (hs:starEach [a] c.X.env=[(false,eval a c.X.env)]:=by rfl):JIs c (.Tuple elts x1 tpos) (.Call (.Name "enumerate" p) [a] [] pos) (x6J gs):=.of fun ρ=>mPI (x6w hg hm (ha ρ) hs) fun σ H Q h_20=>by
 obtain ⟨H0,Hs0,la,Hs,f,q⟩:=h_20
 refine x3N f q fun ds vs H1 Hs1 e1 s1 f1 r1=>?_
 unfold x6J at q
 rw [e1,bind_ok] at q
 unfold enm at q
 split at q
 ·obtain ⟨x,rfl,rx⟩:=r1.one
  cases rx with
  | tuple qa ra=>exact ⟨_,_,rfl,(SqT.of (f1.st.sub _ _ qa)),q _ H1 Hs1 s1 (x6H (.of qa) ra)⟩
 ·exact q.elim
def zp:List D->R (List D)
 | [.tuple ds,.tuple es]=>.ok (x0J ds es)
 | _=>.no
def x9C (gs:Rho->R (List D)):Rho->R (List D):=fun ρ=>(gs ρ).bind zp
theorem x6K {elts:List Expr}{x1}{tpos:Pos} (hg:Gl c.X "zip") (hm:c.X.mg "zip"=none) (ha:JAs c [a,b] gs) (hs:starEach [a,b] c.X.env=[(false,eval a c.X.env),(false,eval b c.X.env)]:=by rfl) (hs2:starEach [b] c.X.env=[(false,eval b c.X.env)]:=by rfl) :
  JIs c (.Tuple elts x1 tpos) (.Call (.Name "zip" p) [a,b] [] pos) (x9C gs):=.of fun ρ=>mPI (x8f hg hm (ha ρ) hs hs2) fun σ H Q h_21=>by
 obtain ⟨H0,Hs0,la,Hs,f,q⟩:=h_21
 refine x3N f q fun ds vs H1 Hs1 e1 s1 f1 r1=>?_
 unfold x9C at q
 rw [e1,bind_ok] at q
 unfold zp at q
 split at q
 ·obtain ⟨x,y,rfl,rx,ry⟩:=r1.two
  cases rx with
  | tuple qa ra =>
   cases ry with
   | tuple qb rb=>exact ⟨_,_,_,_,rfl,(SqT.of (f1.st.sub _ _ qa)),(SqT.of (f1.st.sub _ _ qb)),q _ H1 Hs1 s1 (x8r (.of qa) ra (.of qb) rb)⟩
 ·exact q.elim
end
end J
end
section
namespace J
open PySem L2
inductive TNI (K:PySem.W.Frag) (cls:Str->Addr) (E:XK) (ρ:Rho) (r:R D) (σ:St) (H:Hp) (Q:VK):Prop
 | mk (H0 Hs0:Hp) (la:Nat->Option Addr) (Hs:Hp) (f:Fr K H0 Hs0 la ρ σ H Hs) (q:Fin K cls E H Hs r fun d=>∀ a o H' Hs',q1G H Hs H' Hs'->H' a=none->w1z K Hs' o d->Q (.ref a) (upd H' a o)):TNI K cls E ρ r σ H Q
def TN (K:PySem.W.Frag) (cls:Str->Addr) (E:XK) (ρ:Rho) (r:R D):TE:=TNI K cls E ρ r
structure JN (c:C) (e:Expr) (g:Rho->R D):Prop where of ::
 run:∀ ρ,PE c.X e (TN c.X.K c.cls c.E ρ (g ρ))
instance {c:C}{e:Expr}{g:Rho->R D}:CoeFun (JN c e g) (fun _=>∀ ρ,PE c.X e (TN c.X.K c.cls c.E ρ (g ρ))):=⟨JN.run⟩
section
variable {c:C}{e a b l tg:Expr}{g ga gb:Rho->R D}{pos p:Pos}{gs:Rho->R (List D)}{es:List Expr}{x:Str}
theorem y1V {K:PySem.W.Frag}{cls:Str->Addr}{E:XK}{ρ:Rho}{r:R D}{σ:St}{H:Hp}{Q:VK} (q:TR K cls E ρ r σ H Q):TN K cls E ρ r σ H Q:=by
 obtain ⟨H0,Hs0,la,Hs,f,q⟩:=q
 refine ⟨H0,Hs0,la,Hs,f,?_⟩
 cases r with
 | ok d=>exact fun a o H' Hs' s n r=>q _ _ _ (s.trans (.new s.sub n)) (r.share (s.sub.free n))
 | ex x n=>exact q
 | no=>exact q
theorem JN.je (h:JN c e g):JE c e g:=.of fun ρ=>mPE (h ρ) fun σ H Q q=>y1V q
theorem w0K (h:JAs c es gs):JN c (.List es pos) (q39 gs .list):=.of fun ρ=>mPE (q8z (h ρ)) fun σ H Q h_0=>by
 obtain ⟨H0,Hs0,la,Hs,f,q⟩:=h_0
 refine x3N f q fun ds vs H1 Hs1 e1 s1 f1 r1=>?_
 unfold q39 at q
 rw [e1,bind_ok] at q
 by_cases hl:ds.length<=1000
 ·rw [if_pos hl] at q
  exact ⟨Nat.le_of_lt (q0P (by rw [r1.length];exact hl)),fun p hp=>q p _ H1 Hs1 s1 hp (.lst r1)⟩
 ·rw [if_neg hl] at q;exact q.elim
theorem x1A:JN c (.Dict [] [] pos) (fun _=>.ok (.dict [])):=.of fun ρ=>mPE x3v fun σ H Q h_1=>by obtain ⟨H0,Hs0,la,Hs,f,q⟩:=h_1;exact fun p hp=>q p _ H Hs (.refl f.st.sub) hp (.dK .nil)
def q2A (i:Nat) (g:Rho->R D):Rho->R Fl:=fun ρ=>(g ρ).bind fun d=>.ok (.nx (ρ.set i (.own d)))
theorem sN {K:PySem.W.Frag}{cls:Str->Addr}{E:XK}{ρ:Rho}{r:R D}{k:D->R Fl}{σ:St}{H:Hp}{H0 Hs0 Hs:Hp}{la:Nat->Option Addr}{D':w7R}{Q:V->Hp->Prop} (f:Fr K H0 Hs0 la ρ σ H Hs)
  (h:w5i K cls E H0 Hs0 la D' (r.bind k)) (m:∀ d a o H' Hs',r=.ok d->Fr K H0 Hs0 la ρ σ H' Hs'->H' a=none->w1z K Hs' o d->Q (.ref a) (upd H' a o)):TN K cls E ρ r σ H Q:=by
 refine ⟨H0,Hs0,la,Hs,f,?_⟩
 cases r with
 | ok d=>exact fun a o H' Hs' s n r=>m d a o H' Hs' rfl (f.step s) n r
 | ex c n=>exact fun H' Hs' s=>h H' Hs' (f.st.trans s)
 | no=>exact h
theorem q3G (i:Nat) {pos':Pos} (h:JN c e g) (hN:c.X.N.Nodup) (hi:c.X.N[i]?=some x:=by rfl) (hx:Loc c.X.env.scope x:=by first | exact Or.inl rfl | exact Or.inr rfl) (hs:swapsWith e (some (.Name x pos')) pos.line c.X.env=pure false:=by rfl)
  (hf:c.X.fn x=true\/c.X.env.scope.names.lookup x=some .local:=by first | exact .inl rfl | exact .inr rfl | assumption):JS c (.Assign [.Name x pos'] e pos) (q2A i g):=.of fun ρ=>mPS (x0P hN hi hx (h ρ) hs hf) fun D σ H h_2=>by
 obtain ⟨H0,Hs0,la,Hs,f,q⟩:=h_2
 refine sN f q fun d a o H1 Hs1 e1 f1 n1 r1=>?_
 unfold q2A at q
 rw [e1,bind_ok] at q
 exact q _ _ Hs1 (f1.setO i n1 r1)
def x7r {α:Type}:R α->R α
 | .ex _ _=>.no
 | r=>r
theorem x1B {α:Type}{r:R α}{a:α} (h:x7r r=.ok a):r=.ok a:=by
 cases r<;>first | exact h | cases h
def q30 (f:D->R (Option D)):List D->R (List D)
 | []=>.ok []
 | d::r=>(f d).bind fun o=>(q30 f r).bind fun ys=>.ok (match o with
  | some y=>y::ys
  | none=>ys)
theorem w0L {f:D->R (Option D)}{d:D}{r ys:List D} (h:q30 f (d::r)=.ok ys):∃ o zs,f d=.ok o/\q30 f r=.ok zs/\ys=o.toList++zs:=by
 unfold q30 at h
 cases hf:f d with
 | ok o =>
  rw [hf,bind_ok] at h
  cases hm:q30 f r with
  | ok zs =>
   rw [hm,bind_ok] at h
   cases h
   cases o<;>exact ⟨_,zs,rfl,rfl,rfl⟩
  | ex x n=>rw [hm] at h;cases h
  | no=>rw [hm] at h;cases h
 | ex x n=>rw [hf] at h;cases h
 | no=>rw [hf] at h;cases h
def see:Sl->Sl
 | .own d=>.lck d
 | .ow2 _=>.no
 | s=>s
def w0M (nt:Nat) (ix:List Nat) (ρ:Rho):Rho:=List.replicate nt Sl.no++ix.map fun i=>see ((ρ[i]?).getD .no)
def bnd (nt:Nat):D->Rho->R Rho:=match nt with
 | 1=>q0q 0
 | 2=>q6P 2 (q0D (q0q 0) (q0D (q0q 1) q84))
 | _=>fun _ _=>.no
def q3H (nt:Nat) (ρ:Rho) (gt:Rho->R Bool) (ge:Rho->R D):D->R (Option D):=fun d=>x7r ((bnd nt d ρ).bind fun ρ'=>(gt ρ').bind fun b=>if b then (ge ρ').bind fun y=>.ok (some y) else .ok none)
def q1T (nt:Nat) (ix:List Nat) (gi:Rho->R (List D)) (gt:Rho->R Bool) (ge:Rho->R D):Rho->R D:=fun ρ=>(gi ρ).bind fun ds=>if ds.length<=1000 then (q30 (q3H nt (w0M nt ix ρ) gt ge) ds).bind fun ys=>.ok (.list ys) else .no
structure JTs (c:C) (ifs:List Expr) (g:Rho->R Bool):Prop where of ::
 run:∀ ρ,PTs c.X ifs (TTT c.X.K c.cls c.E ρ (g ρ))
instance {c:C}{ifs:List Expr}{g:Rho->R Bool}:CoeFun (JTs c ifs g) (fun _=>∀ ρ,PTs c.X ifs (TTT c.X.K c.cls c.E ρ (g ρ))):=⟨JTs.run⟩
theorem q1f:JTs c [] (fun _=>.ok true):=.of fun ρ pins s σ H Q I h_3=>by obtain ⟨H0,Hs0,la,Hs,f,q⟩:=h_3;exact x6q pins s σ H Q I (q H Hs (.refl f.st.sub))
theorem q6Q {gt:Rho->R Bool} (h:JT c e gt):JTs c [e] gt:=.of fun ρ=>x6r (h ρ)
def x7s (K:PySem.W.Frag) (nt:Nat):TG:=match nt with
 | 1=>w3b 0
 | _=>x9T K 2 (L2.q01 (w3b 0) (L2.q01 (w3b 1) L2.q0e))
theorem w5H {K:PySem.W.Frag}{nt:Nat} (h:nt=1\/nt=2):Low nt (x7s K nt):=by
 rcases h with rfl | rfl
 ·exact x3w (by decide)
 ·exact x6t (by decide) (by decide)
theorem w8a {K:PySem.W.Frag}{nt:Nat}{H0 Hs0 H Hs:Hp}{la:Nat->Option Addr}{ρ ρ':Rho}{σ:St}{v:V}{d:D}{Q:St->Hp->Prop} (hnt:nt=1\/nt=2) (f:Fr K H0 Hs0 la ρ σ H Hs) (r:RD K Hs v d) (hb:bnd nt d ρ=.ok ρ')
  (q:∀ σ',Fr K H0 Hs0 la ρ' σ' H Hs->Q σ' H):x7s K nt v σ H Q:=by
 rcases hnt with rfl | rfl
 ·cases hb
  exact q _ (f.set 0 r)
 ·unfold bnd q6P at hb
  simp only at hb
  cases r with
  | @tuple p xs ds hq rs =>
   simp only at hb
   split at hb
   ·rename_i hl
    cases rs with
    | nil=>cases hl
    | cons r1 rs =>
     cases rs with
     | nil=>cases hl
     | cons r2 rs =>
      cases rs with
      | nil =>
       cases hb
       exact ⟨p,_,rfl,(SqT.of (f.st.sub _ _ hq)),rfl,_,_,rfl,_,_,rfl,rfl,q _ ((f.set 0 r1).set 1 r2)⟩
      | cons _ _=>simp at hl
   ·cases hb
  | none=>cases hb
  | bool _=>cases hb
  | int _=>cases hb
  | str _=>cases hb
  | list _ _=>cases hb
  | dictK _ _=>cases hb
  | dictT _ _ _=>cases hb
theorem Fr.block {K:PySem.W.Frag}{H0 Hs0 H Hs:Hp}{la:Nat->Option Addr}{ρ:Rho}{σ:St} (f:Fr K H0 Hs0 la ρ σ H Hs) (nt:Nat) (ix:List Nat):∃ la',Fr K H Hs la' (w0M nt ix ρ) (L2.q5X nt ix σ) H Hs:=by
 have lk:∀ (j:Nat) (d:D),(w0M nt ix ρ)[j]?=some (Sl.lck d)->∃ a o,(L2.q5X nt ix σ)[j]?=some (some (V.ref a))/\H a=some o/\Hs a=none/\w1z K Hs o d:=fun j d h=>by
  unfold w0M at h
  by_cases hj:j<nt
  ·rw [List.getElem?_append_left (by simpa using hj),List.getElem?_replicate,if_pos hj] at h;cases h
  ·have hj:nt<=j:=by omega
   rw [List.getElem?_append_right (by simpa using hj),List.length_replicate,List.getElem?_map] at h
   cases hi:ix[j - nt]? with
   | none=>rw [hi] at h;cases h
   | some i =>
    rw [hi] at h
    have at_:∀ v,σ[i]?=some (some v)->(L2.q5X nt ix σ)[j]?=some (some v):=fun v k1=>by
     unfold L2.q5X
     rw [List.getElem?_append_right (by simpa using hj),List.length_replicate,List.getElem?_map,hi]
     simp [k1]
    cases hr:ρ[i]? with
    | none=>simp only [Option.map_some,hr,Option.getD_none,see] at h;cases h
    | some s =>
     simp only [Option.map_some,hr,Option.getD_some] at h
     cases s with
     | own d' =>
      cases h
      obtain ⟨a,o,k1,k2,k3,k4,k5⟩:=f.ow i d hr
      exact ⟨a,o,at_ _ k1,k2,k3,k5⟩
     | lck d' =>
      cases h
      obtain ⟨a,o,k1,k2,k3,k4,k5,k6⟩:=f.lk i d hr
      exact ⟨a,o,at_ _ k1,k3,k4,k6⟩
     | no=>cases h
     | shr _=>cases h
     | ow2 _=>cases h
 have no2:∀ (j:Nat) (d:List (List D)),¬ (w0M nt ix ρ)[j]?=some (Sl.ow2 d):=fun j d h=>by
  unfold w0M at h
  by_cases hj:j<nt
  ·rw [List.getElem?_append_left (by simpa using hj),List.getElem?_replicate,if_pos hj] at h;cases h
  ·have hj:nt<=j:=by omega
   rw [List.getElem?_append_right (by simpa using hj),List.length_replicate,List.getElem?_map] at h
   cases hi:ix[j - nt]? with
   | none=>rw [hi] at h;cases h
   | some i =>
    rw [hi] at h
    cases hr:ρ[i]? with
    | none=>simp only [Option.map_some,hr,Option.getD_none,see] at h;cases h
    | some s =>
     simp only [Option.map_some,hr,Option.getD_some] at h
     cases s<;>cases h
 refine ⟨fun j=>match (w0M nt ix ρ)[j]?,(L2.q5X nt ix σ)[j]? with
  | some (Sl.lck _),some (some (V.ref a))=>some a
  | _,_=>none,.refl f.st.sub,by simp [w0M,L2.q5X],fun j d h=>?_,fun j d h=>?_,fun j d h=>?_,fun j k d1 d2 a h1 h2 _ _=>?_,fun j a h=>?_,fun j d h=>(no2 j d h).elim,fun j k d1 d2 h1 _=>(no2 j d1 h1).elim⟩
 case refine_3 =>
  obtain ⟨a,o,k1,k2,k3,k4⟩:=lk j d h
  exact ⟨a,o,k1,by rw [h,k1],k2,k3,k2,k4⟩
 case refine_5 =>
  split at h
  ·rename_i d a' h1 h2
   cases h
   obtain ⟨a',o,k1,k2,_⟩:=lk j d h1
   rw [h2] at k1
   cases k1
   exact ⟨o,k2⟩
  ·cases h
 all_goals
  unfold w0M at *
 ·have h:=h
  by_cases hj:j<nt
  ·rw [List.getElem?_append_left (by simpa using hj),List.getElem?_replicate,if_pos hj] at h;cases h
  ·have hj:nt<=j:=by omega
   rw [List.getElem?_append_right (by simpa using hj),List.length_replicate,List.getElem?_map] at h
   cases hi:ix[j - nt]? with
   | none=>rw [hi] at h;cases h
   | some i =>
    rw [hi] at h
    cases hr:ρ[i]? with
    | none=>simp only [Option.map_some,hr,Option.getD_none,see] at h;cases h
    | some s =>
     simp only [Option.map_some,hr,Option.getD_some] at h
     cases s with
     | shr d' =>
      cases h
      obtain ⟨v,k1,k2⟩:=f.sh i d hr
      refine ⟨v,?_,k2⟩
      unfold L2.q5X
      rw [List.getElem?_append_right (by simpa using hj),List.length_replicate,List.getElem?_map,hi]
      simp [k1]
     | no=>cases h
     | own _=>cases h
     | lck _=>cases h
     | ow2 _=>cases h
 ·have h:=h
  by_cases hj:j<nt
  ·rw [List.getElem?_append_left (by simpa using hj),List.getElem?_replicate,if_pos hj] at h;cases h
  ·have hj:nt<=j:=by omega
   rw [List.getElem?_append_right (by simpa using hj),List.length_replicate,List.getElem?_map] at h
   cases hi:ix[j - nt]? with
   | none=>rw [hi] at h;cases h
   | some i =>
    rw [hi] at h
    cases hr:ρ[i]? with
    | none=>simp only [Option.map_some,hr,Option.getD_none,see] at h;cases h
    | some s =>
     simp only [Option.map_some,hr,Option.getD_some] at h
     cases s<;>cases h
 ·have h1:=h1
  by_cases hj:j<nt
  ·rw [List.getElem?_append_left (by simpa using hj),List.getElem?_replicate,if_pos hj] at h1;cases h1
  ·have hj:nt<=j:=by omega
   rw [List.getElem?_append_right (by simpa using hj),List.length_replicate,List.getElem?_map] at h1
   cases hi:ix[j - nt]? with
   | none=>rw [hi] at h1;cases h1
   | some i =>
    rw [hi] at h1
    cases hr:ρ[i]? with
    | none=>simp only [Option.map_some,hr,Option.getD_none,see] at h1;cases h1
    | some s =>
     simp only [Option.map_some,hr,Option.getD_some] at h1
     cases s<;>cases h1
theorem w1F {f:D->R (Option D)} (h:∀ d c n,f d≠.ex c n):∀ (ds:List D) (c:Str) (n:Option D),q30 f ds≠.ex c n
 | [],c,n=>fun e=>by cases e
 | d::r,c,n=>fun e=>by
  unfold q30 at e
  cases hf:f d with
  | ok o =>
   rw [hf,bind_ok] at e
   cases hm:q30 f r with
   | ok zs=>rw [hm,bind_ok] at e;cases e
   | ex x k=>exact w1F h r x k hm
   | no=>rw [hm] at e;cases e
  | ex x k=>exact h d x k hf
  | no=>rw [hf] at e;cases e
theorem w8b (nt:Nat) (ρ:Rho) (gt:Rho->R Bool) (ge:Rho->R D) (d:D) (c:Str) (n:Option D):q3H nt ρ gt ge d≠.ex c n:=by
 unfold q3H x7r
 split<;>first | exact fun e=>by cases e | skip
 rename_i h
 exact fun e=>h c n e
inductive cnI (K:PySem.W.Frag) (f:D->R (Option D)) (ds ys:List D) (H1 Hs1:Hp) (i m:Nat) (acc:List V) (H':Hp):Prop
 | mk (done q0I zs ya Hs':_) (h0:ds=done++q0I) (h1:done.length=i) (h2:q0I.length=m) (h3:q1G H1 Hs1 H' Hs') (h4:RDs K Hs' acc ya) (h5:ya.length<=i) (h6:q30 f q0I=.ok zs) (h7:ys=ya++zs):cnI K f ds ys H1 Hs1 i m acc H'
theorem x1C {K:PySem.W.Frag}{cls:Str->Addr}{E:XK}{nt:Nat}{ix:List Nat}{gi:Rho->R (List D)}{gt:Rho->R Bool}{ge:Rho->R D}{ρ:Rho}{σ:St}{H:Hp}{Q:VK} (hnt:nt=1\/nt=2)
  (q:TN K cls E ρ (q1T nt ix gi gt ge ρ) σ H Q) :
  x6s nt ix (TIr K cls E ρ (gi ρ)) (x7s K nt) (fun σ H Q=>∃ ρ',TTT K cls E0 ρ' (gt ρ') σ H Q) (fun σ H Q=>∃ ρ',TR K cls E0 ρ' (ge ρ') σ H Q) σ H Q:=by
 obtain ⟨H0,Hs0,la,Hs,f,q⟩:=q
 refine ⟨H0,Hs0,la,Hs,f,?_⟩
 unfold q1T at q
 cases hi:gi ρ with
 | no=>rw [hi] at q;exact q
 | ex x n=>rw [hi] at q;exact q
 | ok ds =>
  rw [hi,bind_ok] at q
  intro J H1 Hs1 Hn s1 sn it
  by_cases hl:ds.length<=1000
  ·rw [if_pos hl] at q
   cases hm:q30 (q3H nt (w0M nt ix ρ) gt ge) ds with
   | no=>rw [hm] at q;exact q.elim
   | ex x n=>exact (w1F (w8b _ _ _ _) _ _ _ hm).elim
   | ok ys =>
    rw [hm,bind_ok] at q
    obtain ⟨lb,fb⟩:=(f.step s1).block nt ix
    refine ⟨cnI K (q3H nt (w0M nt ix ρ) gt ge) ds ys H1 Hs1,
     ⟨ds.length,[],ds,ys,[],Hs1,rfl,rfl,rfl,.refl s1.sub,.nil,Nat.zero_le _,hm,rfl⟩,?_⟩
    rintro i m acc H' ⟨done,q0I,zs,ya,Hs',hds,hdl,hrl,st,ra,yl,hz,hy⟩
    obtain ⟨igo,istop,iyld⟩:=it H' Hs' (sn.trans st.all) st.sh st.sub
    cases q0I with
    | nil =>
     left
     cases hz
     rw [List.append_nil] at hds hy
     subst hy hds
     exact ⟨istop i (by omega),fun p hp=>q p _ H' Hs' (s1.trans st) hp (.lst ra)⟩
    | cons d q0I =>
     right
     have hil:i<ds.length:=by rw [hds,List.length_append,List.length_cons];omega
     refine ⟨igo i hil,q0P (by rw [ra.length];omega),fun x H2 hyl=>?_⟩
     obtain ⟨d',Hs2,hd,s2,r2⟩:=iyld i x H2 hil hyl
     have hdd:d'=d:=by
      rw [hds,List.getElem?_append_right (by omega)] at hd
      simp [hdl] at hd
      exact hd.symm
     subst hdd
     obtain ⟨o,zs',hf,hz',rfl⟩:=w0L hz
     have hf:=x1B hf
     cases hb:bnd nt d' (w0M nt ix ρ) with
     | no=>rw [hb] at hf;cases hf
     | ex x n=>rw [hb] at hf;cases hf
     | ok ρ' =>
      rw [hb,bind_ok] at hf
      refine w8a hnt ((fb.step st).step s2) r2 hb fun σ2 f2=>⟨ρ',?_⟩
      refine ⟨_,_,_,Hs2,f2,?_⟩
      cases ht:gt ρ' with
      | no=>rw [ht] at hf;cases hf
      | ex x n=>rw [ht] at hf;cases hf
      | ok b =>
       rw [ht,bind_ok] at hf
       intro H3 Hs3 s3
       cases b with
       | false =>
        rw [if_neg Bool.false_ne_true] at hf
        cases hf
        refine x4S ⟨q0I.length,by rw [<- hrl];simp,done++[d'],q0I,zs',ya,Hs3,by rw [hds];simp,by simp [hdl],rfl,(st.trans s2).trans s3,ra.same (s2.trans s3).sh,by omega,hz',by simpa using hy⟩
       | true =>
        rw [if_pos rfl] at hf
        refine x4T ⟨ρ',_,_,_,Hs3,f2.step s3,?_⟩
        cases he:ge ρ' with
        | no=>rw [he] at hf;cases hf
        | ex x n=>rw [he] at hf;cases hf
        | ok y =>
         rw [he,bind_ok] at hf
         cases hf
         intro v H4 Hs4 s4 r4
         exact ⟨q0I.length,by rw [<- hrl];simp,done++[d'],q0I,zs',ya++[y],Hs4,by rw [hds];simp,by simp [hdl],rfl,((st.trans s2).trans s3).trans s4,(ra.same ((s2.trans s3).trans s4).sh).append (.cons r4 .nil),by simp;omega,hz',by rw [hy];simp⟩
  ·rw [if_neg hl] at q;exact q.elim
def C.comp (c:C) (N':List Str) (scope:Scope) (cl:List (Str×Addr)) (A:Addr) (s₀:Shared) (H₀:Hp) (ex:List Addr) (pn:List (Addr×Obj)):C:=⟨q0M c.X N' scope cl A s₀ H₀ ex pn,c.cls,E0⟩
variable {elt iter:Expr}{ifs:List Expr}{scope:Scope}{N':List Str}{nt:Nat}{ix:List Nat}{gi:Rho->R (List D)}{gt:Rho->R Bool}{ge:Rho->R D}
def q8W (c:C) (N':List Str) (scope:Scope) (nt:Nat) (tg:Expr) (ifs:List Expr) (elt:Expr) (gt:Rho->R Bool) (ge:Rho->R D):Prop :=
 ∀ cl A s₀ H₀ ex pn,PG (c.comp N' scope cl A s₀ H₀ ex pn).X tg (x7s c.X.K nt)/\JTs (c.comp N' scope cl A s₀ H₀ ex pn) ifs gt/\JE (c.comp N' scope cl A s₀ H₀ ex pn) elt ge
theorem q8W.at (h:q8W c N' scope nt tg ifs elt gt ge):∀ cl A s₀ H₀ ex pn,PG (q0M c.X N' scope cl A s₀ H₀ ex pn) tg (x7s c.X.K nt)/\PTs (q0M c.X N' scope cl A s₀ H₀ ex pn) ifs (fun σ H Q=>∃ ρ',TTT c.X.K c.cls E0 ρ' (gt ρ') σ H Q) /\
  PE (q0M c.X N' scope cl A s₀ H₀ ex pn) elt (fun σ H Q=>∃ ρ',TR c.X.K c.cls E0 ρ' (ge ρ') σ H Q):=fun cl A s₀ H₀ ex pn=>by
 obtain ⟨h1,h2,h3⟩:=h cl A s₀ H₀ ex pn
 exact ⟨h1,fun pins s σ H Q I h_4=>by obtain ⟨ρ',q⟩:=h_4;exact h2 ρ' pins s σ H Q I q,fun pins s σ H Q I h_5=>by obtain ⟨ρ',q⟩:=h_5;exact h3 ρ' pins s σ H Q I q⟩
theorem q1E (nt:Nat) (hnt:nt=1\/nt=2) (hc:c.X.calm=true) (S:q5m c.X scope N' nt ix) (hi:JI c tg iter gi) (hb:q8W c N' scope nt tg ifs elt gt ge) (hs:∀ x,foldedSetIterable iter c.X.env x=pure x:=by intro _;rfl) :
  JN c (.ListComp elt [⟨tg,iter,ifs,0⟩] scope pos) (q1T nt ix gi gt ge):=.of fun ρ=>mPE (w5s hc S (w5H hnt) (hi ρ) hb.at hs) fun σ H Q q=>x1C hnt q
theorem q2B (i:Nat) {spos py:Pos} (nt:Nat) (hnt:nt=1\/nt=2) (hN:c.X.N.Nodup) (hc:c.X.calm=true) (S:q5m c.X scope N' nt ix) (hi:JI c tg iter gi) (hb:q8W c N' scope nt tg ifs elt gt ge)
  (hiN:c.X.N[i]?=some x:=by rfl) (hy:c.X.env.scope.names.lookup x=some .local:=by rfl)
  (hsw:swapsWith (.ListComp elt [⟨tg,iter,ifs,0⟩] scope pos) (some (.Name x py)) spos.line c.X.env=pure true:=by rfl)
  (hs:∀ x,foldedSetIterable iter c.X.env x=pure x:=by intro _;rfl):JS c (.Assign [.Name x py] (.ListComp elt [⟨tg,iter,ifs,0⟩] scope pos) spos) (q2A i (q1T nt ix gi gt ge)):=.of fun ρ=>mPS (w94 hN hiN hy hc S (w5H hnt) (hi ρ) hb.at hsw hs) fun D σ H h_6=>by
 obtain ⟨H0,Hs0,la,Hs,f,q⟩:=h_6
 refine x1C (Q:=fun x H1=>D.nx (σ.set i (some x)) H1) hnt (sN f q fun d a o H1 Hs1 e1 f1 n1 r1=>?_)
 unfold q2A at q
 rw [e1,bind_ok] at q
 exact q _ _ Hs1 (f1.setO i n1 r1)
end
end J
end
section
namespace J
open PySem L2
theorem x8s {X:Cx}{st:Stmt}{t:TS} (h:PS X.nox st t):PS X st t:=fun pins s σ H D I hw =>
 wpAny_mono (h pins s σ H D (I.wish _) hw) (fun _ _ q=>q.unwish) fun _ _ z=>False.elim z
def C.nox (c:C):C:=⟨c.X.nox,c.cls,E0⟩
def q54 (k:D->Rho->R Rho) (b:Rho->R Fl):List D->Rho->R Fl
 | [],ρ=>.ok (.nx ρ)
 | d::r,ρ=>match k d ρ with
  | .ok ρ1=>match b ρ1 with
   | .ok (.nx ρ')=>q54 k b r ρ'
   | .ok (.ct ρ')=>q54 k b r ρ'
   | .ok (.bk ρ')=>.ok (.nx ρ')
   | .ok (.rt d)=>.ok (.rt d)
   | _=>.no
  | _=>.no
def w8c (i:Nat) (ρ:Rho):Rho:=match ρ[i]? with
 | some (Sl.own d)=>ρ.set i (.lck d)
 | _=>ρ
def w1G (i:Nat) (ρ0 ρ:Rho):Rho:=match ρ0[i]?,ρ[i]? with
 | some (Sl.own _),some (Sl.lck d)=>ρ.set i (.own d)
 | _,_=>ρ
def unl (i:Nat) (ρ0:Rho):R Fl->R Fl
 | .ok (.nx ρ)=>.ok (.nx (w1G i ρ0 ρ))
 | .ok (.bk ρ)=>.no
 | .ok (.ct ρ)=>.no
 | r=>r
section
variable {K:PySem.W.Frag}{cls:Str->Addr}{E:XK}
inductive fgI (K:PySem.W.Frag) (cls:Str->Addr) (E:XK) (H0 Hs0:Hp) (la:Nat->Option Addr) (D':w7R) (kt:D->Rho->R Rho) (gb:Rho->R Fl) (ds:List D) (i m:Nat) (σ:St) (H:Hp):Prop
 | mk (done q0I ρ Hs:_) (h0:ds=done++q0I) (h1:done.length=i) (h2:q0I.length=m) (h3:Fr K H0 Hs0 la ρ σ H Hs) (h4:w5i K cls E H0 Hs0 la D' (q54 kt gb q0I ρ)):fgI K cls E H0 Hs0 la D' kt gb ds i m σ H
theorem x58 {J:It}{Hn H0 Hs0:Hp}{la:Nat->Option Addr}{ds:List D}{kt:D->Rho->R Rho}{gb:Rho->R Fl}{ρ:Rho}{σ:St}{H Hs:Hp}{D':w7R}{tg:TG}{tb:TS}
  (it:ItD K J ds Hn Hs0) (hn:q29 Hn H0) (f:Fr K H0 Hs0 la ρ σ H Hs)
  (htg:∀ ρ d v σ H Q,TGr K ρ d (kt d ρ) v σ H Q->tg v σ H Q) (htb:∀ ρ D σ H,SR K cls E0 ρ (gb ρ) D σ H->tb D σ H)
  (q:w5i K cls E H0 Hs0 la D' (q54 kt gb ds ρ)) :
  TFI tg tb D' σ J H:=by
 refine ⟨fgI K cls E H0 Hs0 la D' kt gb ds,⟨ds.length,[],ds,ρ,Hs,rfl,rfl,rfl,f,q⟩,?_⟩
 rintro i m σ H ⟨done,q0I,ρ,Hs,hds,hdl,hrl,f,q⟩
 obtain ⟨igo,istop,iyld⟩:=it H Hs (hn.trans f.st.all) f.st.sh f.st.sub
 cases q0I with
 | nil =>
  rw [List.append_nil] at hds
  subst hds
  exact .inl ⟨istop i (by omega),q σ H Hs f⟩
 | cons d q0I =>
  have hil:i<ds.length:=by rw [hds,List.length_append,List.length_cons];omega
  refine .inr ⟨igo i hil,fun σ' H'=>∃ ρ' Hs',Fr K H0 Hs0 la ρ' σ' H' Hs'/\w5i K cls E H0 Hs0 la D' (q54 kt gb q0I ρ'),fun σ' H' ⟨ρ',Hs',f',q'⟩=>⟨q0I.length,by rw [<- hrl];simp,done++[d],q0I,ρ',Hs',by rw [hds];simp,by simp [hdl],rfl,f',q'⟩,fun x H2 hyl=>?_⟩
  obtain ⟨d',Hs2,hd,s2,r2⟩:=iyld i x H2 hil hyl
  have hdd:d'=d:=by
   rw [hds,List.getElem?_append_right (by omega)] at hd
   simp [hdl] at hd
   exact hd.symm
  subst hdd
  unfold q54 at q
  refine htg ρ d' x σ H2 _ ⟨H0,Hs0,la,Hs2,f.step s2,r2,?_⟩
  cases hk:kt d' ρ with
  | ex c n=>rw [hk] at q;exact q
  | no=>rw [hk] at q;exact q
  | ok ρ1 =>
   rw [hk] at q
   intro σ2 f2
   refine htb ρ1 _ σ2 H2 ⟨H0,Hs0,la,Hs2,f2,?_⟩
   cases hg:gb ρ1 with
   | no=>simp only [hg] at q;exact q.elim
   | ex c n=>simp only [hg] at q;exact q.elim
   | ok fl =>
    simp only [hg] at q
    cases fl with
    | nx ρ'=>exact fun σ' H' Hs' f'=>⟨ρ',Hs',f',q⟩
    | ct ρ'=>exact fun σ' H' Hs' f'=>⟨ρ',Hs',f',q⟩
    | bk ρ'=>exact fun σ' H' Hs' f'=>q σ' H' Hs' f'
    | rt d=>exact q
def both (A B:Hp):Hp:=fun b=>match A b with
 | some o=>some o
 | none=>B b
theorem q3w {A B:Hp}:q29 A (both A B):=fun b o e=>by unfold both;rw [e]
theorem q2S {A B:Hp}{b:Addr} (h:A b=none):both A B b=B b:=by unfold both;rw [h]
theorem w8d {A B H:Hp} (h1:q29 A H) (h2:q29 B H):q29 (both A B) H:=fun b o e=>by
 cases h:A b with
 | some u=>unfold both at e;rw [h] at e;cases e;exact h1 b o h
 | none=>rw [q2S h] at e;exact h2 b o e
theorem x59 {A B H:Hp} (h1:q29 A H) (h2:q29 B H):q29 B (both A B):=fun b o e=>by
 cases h:A b with
 | some u =>
  unfold both
  rw [h]
  have:=h1 b u h
  rw [h2 b o e] at this
  exact this.symm
 | none=>rw [q2S h];exact e
theorem Fr.into {H0 Hs0 H Hs:Hp}{la:Nat->Option Addr}{ρ:Rho}{σ:St} (f:Fr K H0 Hs0 la ρ σ H Hs):Fr K (both H0 Hs) Hs la ρ σ H Hs:=by
 have sub:=w8d f.st.all f.st.sub
 refine ⟨⟨sub,.refl _,f.st.sub,fun a o e z=>z⟩,f.len,f.sh,fun i d h=>?_,fun i d h=>?_,f.dj,fun i a e=>let ⟨o,k⟩:=f.lh i a e;⟨o,q3w _ _ k⟩,fun i d h=>?_,f.u2⟩
 ·obtain ⟨a,o,h1,h2,h3,h4,h5⟩:=f.ow i d h
  exact ⟨a,o,h1,h2,h3,by rw [q2S h4];exact h3,h5⟩
 ·obtain ⟨a,o,h1,h2,h3,h4,h5,h6⟩:=f.lk i d h
  exact ⟨a,o,h1,h2,h3,h4,q3w _ _ h5,h6⟩
 ·obtain ⟨a,as,O⟩:=f.o2 i d h
  exact ⟨a,as,O.at_,O.ob,O.nd,fun b hb=>⟨(O.out b hb).1,by rw [q2S (O.out b hb).2];exact (O.out b hb).1⟩,O.dj,O.inn⟩
theorem q1G.outof {H0 Hs0 H1 Hs1 H' Hs':Hp} (s:q1G H0 Hs0 H1 Hs1) (t:q1G (both H0 Hs1) Hs1 H' Hs'):q1G H0 Hs0 H' Hs' :=
 ⟨q3w.trans t.all,s.sh.trans t.sh,t.sub,fun a o e z=>t.out a o (q3w _ _ e) (s.out a o e z)⟩
theorem Fr.outof {H0 Hs0 H1 Hs1 H' Hs':Hp}{la:Nat->Option Addr}{ρ1 ρ:Rho}{σ1 σ:St} (f1:Fr K H0 Hs0 la ρ1 σ1 H1 Hs1) (f:Fr K (both H0 Hs1) Hs1 la ρ σ H' Hs'):Fr K H0 Hs0 la ρ σ H' Hs':=by
 refine ⟨f1.st.outof f.st,f.len,f.sh,fun i d h=>?_,fun i d h=>?_,f.dj,f1.lh,fun i d h=>?_,f.u2⟩
 ·obtain ⟨a,o,h1,h2,h3,h4,h5⟩:=f.ow i d h
  exact ⟨a,o,h1,h2,h3,q3w.free h4,h5⟩
 ·obtain ⟨a,o,h1,h2,h3,h4,h5,h6⟩:=f.lk i d h
  obtain ⟨o',e⟩:=f1.lh i a h2
  have e':=q3w (B:=Hs1) _ _ e
  rw [h5] at e'
  cases e'
  exact ⟨a,o,h1,h2,h3,h4,e,h6⟩
 ·obtain ⟨a,as,O⟩:=f.o2 i d h
  exact ⟨a,as,O.at_,O.ob,O.nd,fun b hb=>⟨(O.out b hb).1,q3w.free (O.out b hb).2⟩,O.dj,O.inn⟩
end
end J
end
section
namespace J
open PySem L2
section
variable {K:PySem.W.Frag}{cls:Str->Addr}{E:XK}
theorem w5i.into {H0 Hs0 H1 Hs1:Hp}{la:Nat->Option Addr}{ρ1:Rho}{σ1:St}{D':w7R}{r:R Fl} (f1:Fr K H0 Hs0 la ρ1 σ1 H1 Hs1) (q:w5i K cls E H0 Hs0 la D' r):w5i K cls E (both H0 Hs1) Hs1 la D' r:=by
 cases r with
 | no=>exact q
 | ex c n=>exact fun H' Hs' s=>q H' Hs' (f1.st.outof s)
 | ok fl =>
  cases fl with
  | nx ρ=>exact fun σ' H' Hs' f=>q σ' H' Hs' (f1.outof f)
  | bk ρ=>exact fun σ' H' Hs' f=>q σ' H' Hs' (f1.outof f)
  | ct ρ=>exact fun σ' H' Hs' f=>q σ' H' Hs' (f1.outof f)
  | rt d=>exact fun v H' Hs' s r=>q v H' Hs' (f1.st.outof s) r
theorem Fr.lock {H0 Hs0 H Hs:Hp}{la:Nat->Option Addr}{ρ:Rho}{σ:St} (f:Fr K H0 Hs0 la ρ σ H Hs) {i:Nat}{d:D}{a:Addr}{o:HO} (hi:ρ[i]?=some (Sl.own d)) (k1:σ[i]?=some (some (V.ref a))) (k2:H a=some o) (k3:Hs a=none) (k4:H0 a=none) (k5:w1z K Hs o d) :
  Fr K (both H0 (upd Hs a o)) Hs (fun j=>if j=i then some a else la j) (ρ.set i (.lck d)) σ H Hs:=by
 have hil:i<ρ.length:=(List.getElem?_eq_some_iff.mp hi).1
 have sub:q29 (upd Hs a o) H:=fun b u q=>by
  by_cases hb:b=a
  ·subst hb;rw [q0g] at q;cases q;exact k2
  ·rw [q0j hb] at q;exact f.st.sub b u q
 have nx:∀ {j:Nat}{s:Sl},(∀ d,s≠.lck d)->(ρ.set i (.lck d))[j]?=some s->ρ[j]?=some s/\i≠j:=fun {j s} hs e=>by
  by_cases hj:i=j
  ·subst hj
   rw [List.getElem?_set_self hil] at e;exact absurd (Option.some.inj e).symm (hs d)
  ·rw [List.getElem?_set_ne hj] at e;exact ⟨e,hj⟩
 refine ⟨⟨w8d f.st.all sub,.refl _,f.st.sub,fun a o e z=>z⟩,by simp [f.len],fun j e h=>?_,fun j e h=>?_,fun j e h=>?_,fun j k d1 d2 b h1 h2 h3 h4=>?_,fun j b h=>?_,fun j e h=>?_,fun j k d1 d2 h1 h2=>?_⟩
 ·obtain ⟨h,_⟩:=nx (fun _ z=>by cases z) h
  exact f.sh j e h
 ·obtain ⟨h,hj⟩:=nx (fun _ z=>by cases z) h
  obtain ⟨b,u,q1,q2,q3,q4,q5⟩:=f.ow j e h
  refine ⟨b,u,q1,q2,q3,?_,q5⟩
  rw [q2S q4,q0j (fun z=>hj ?_)]
  ·exact q3
  ·subst z
   exact f.dj i j d e b hi h k1 q1
 ·by_cases hj:i=j
  ·subst hj
   rw [List.getElem?_set_self hil] at h
   cases h
   exact ⟨a,o,k1,if_pos rfl,k2,k3,by rw [q2S k4,q0g],k5⟩
  ·rw [List.getElem?_set_ne hj] at h
   obtain ⟨b,u,q1,q2,q3,q4,q5,q6⟩:=f.lk j e h
   exact ⟨b,u,q1,by rw [if_neg (Ne.symm hj)];exact q2,q3,q4,q3w _ _ q5,q6⟩
 ·obtain ⟨h1,_⟩:=nx (fun _ z=>by cases z) h1
  obtain ⟨h2,_⟩:=nx (fun _ z=>by cases z) h2
  exact f.dj j k d1 d2 b h1 h2 h3 h4
 ·by_cases hj:j=i
  ·simp only [if_pos hj] at h
   cases h
   exact ⟨o,by rw [q2S k4,q0g]⟩
  ·simp only [if_neg hj] at h
   obtain ⟨u,e⟩:=f.lh j b h
   exact ⟨u,q3w _ _ e⟩
 ·obtain ⟨h,hj⟩:=nx (fun _ z=>by cases z) h
  obtain ⟨b,as,O⟩:=f.o2 j e h
  refine ⟨b,as,O.at_,O.ob,O.nd,fun c hc=>⟨(O.out c hc).1,?_⟩,fun c hc k e' hk=>O.dj c hc k e' (nx (fun _ z=>by cases z) hk).1,O.inn⟩
  rw [q2S (O.out c hc).2,q0j (fun z=>?_)]
  ·exact (O.out c hc).1
  ·subst z
   exact O.dj c hc i d hi k1
 ·exact f.u2 j k d1 d2 (nx (fun _ z=>by cases z) h1).1 (nx (fun _ z=>by cases z) h2).1
theorem q1G.unlock {H0 Hs0 H Hs H' Hs':Hp}{a:Addr}{o:HO} (s:q1G H0 Hs0 H Hs) (t:q1G (both H0 (upd Hs a o)) Hs H' Hs'):q1G H0 Hs0 H' Hs' :=
 ⟨q3w.trans t.all,s.sh.trans t.sh,t.sub,fun b u e z=>t.out b u (q3w _ _ e) (s.out b u e z)⟩
theorem Fr.unlock {H0 Hs0 H Hs H' Hs':Hp}{la:Nat->Option Addr}{ρ ρ':Rho}{σ σ':St} (f:Fr K H0 Hs0 la ρ σ H Hs) {i:Nat}{d:D}{a:Addr}{o:HO} (hi:ρ[i]?=some (Sl.own d)) (k4:H0 a=none)
  (f':Fr K (both H0 (upd Hs a o)) Hs (fun j=>if j=i then some a else la j) ρ' σ' H' Hs'):Fr K H0 Hs0 la (w1G i ρ ρ') σ' H' Hs':=by
 have st:=f.st.unlock f'.st
 have own:∀ (j:Nat) (e:D),ρ'[j]?=some (Sl.own e)->∃ b u,σ'[j]?=some (some (V.ref b))/\H' b=some u/\Hs' b=none/\H0 b=none/\w1z K Hs' u e/\(both H0 (upd Hs a o)) b=none:=fun j e h=>by
  obtain ⟨b,u,q1,q2,q3,q4,q5⟩:=f'.ow j e h
  exact ⟨b,u,q1,q2,q3,q3w.free q4,q5,q4⟩
 have lck:∀ (j:Nat) (e:D),j≠i->ρ'[j]?=some (Sl.lck e)->∃ b u,σ'[j]?=some (some (V.ref b))/\la j=some b/\H' b=some u/\Hs' b=none/\H0 b=some u/\w1z K Hs' u e:=fun j e hj h=>by
  obtain ⟨b,u,q1,q2,q3,q4,q5,q6⟩:=f'.lk j e h
  simp only [if_neg hj] at q2
  obtain ⟨u',e'⟩:=f.lh j b q2
  have:=q3w (B:=upd Hs a o) _ _ e'
  rw [q5] at this
  cases this
  exact ⟨b,u,q1,q2,q3,q4,e',q6⟩
 have two:∀ (j:Nat) (e:List (List D)),ρ'[j]?=some (Sl.ow2 e)->∃ b as,O2 K H0 H' Hs' ρ' σ' j e b as:=fun j e h=>by
  obtain ⟨b,as,O⟩:=f'.o2 j e h
  exact ⟨b,as,O.at_,O.ob,O.nd,fun c hc=>⟨(O.out c hc).1,q3w.free (O.out c hc).2⟩,O.dj,O.inn⟩
 unfold w1G
 cases hl:ρ'[i]? with
 | none =>
  simp only [hi]
  refine ⟨st,f'.len,f'.sh,fun j e h=>let ⟨b,u,q1,q2,q3,q4,q5,_⟩:=own j e h;⟨b,u,q1,q2,q3,q4,q5⟩,fun j e h=>lck j e (fun z=>by rw [z,hl] at h;cases h) h,f'.dj,f.lh,two,f'.u2⟩
 | some s =>
  cases s with
  | no=>simp only [hi];exact ⟨st,f'.len,f'.sh,fun j e h=>let ⟨b,u,q1,q2,q3,q4,q5,_⟩:=own j e h;⟨b,u,q1,q2,q3,q4,q5⟩,fun j e h=>lck j e (fun z=>by rw [z,hl] at h;cases h) h,f'.dj,f.lh,two,f'.u2⟩
  | shr _=>simp only [hi];exact ⟨st,f'.len,f'.sh,fun j e h=>let ⟨b,u,q1,q2,q3,q4,q5,_⟩:=own j e h;⟨b,u,q1,q2,q3,q4,q5⟩,fun j e h=>lck j e (fun z=>by rw [z,hl] at h;cases h) h,f'.dj,f.lh,two,f'.u2⟩
  | own _=>simp only [hi];exact ⟨st,f'.len,f'.sh,fun j e h=>let ⟨b,u,q1,q2,q3,q4,q5,_⟩:=own j e h;⟨b,u,q1,q2,q3,q4,q5⟩,fun j e h=>lck j e (fun z=>by rw [z,hl] at h;cases h) h,f'.dj,f.lh,two,f'.u2⟩
  | ow2 _=>simp only [hi];exact ⟨st,f'.len,f'.sh,fun j e h=>let ⟨b,u,q1,q2,q3,q4,q5,_⟩:=own j e h;⟨b,u,q1,q2,q3,q4,q5⟩,fun j e h=>lck j e (fun z=>by rw [z,hl] at h;cases h) h,f'.dj,f.lh,two,f'.u2⟩
  | lck d' =>
   simp only [hi]
   have hil:i<ρ'.length:=(List.getElem?_eq_some_iff.mp hl).1
   have nx:∀ {j:Nat}{s:Sl},(∀ d,s≠.own d)->(ρ'.set i (.own d'))[j]?=some s->ρ'[j]?=some s/\i≠j:=fun {j s} hs e=>by
    by_cases hj:i=j
    ·subst hj
     rw [List.getElem?_set_self hil] at e;exact absurd (Option.some.inj e).symm (hs d')
    ·rw [List.getElem?_set_ne hj] at e;exact ⟨e,hj⟩
   obtain ⟨b,u,q1,q2,q3,q4,q5,q6⟩:=f'.lk i d' hl
   simp only [if_pos rfl] at q2
   cases q2
   have ne:∀ (j:Nat) (e:D),ρ'[j]?=some (Sl.own e)->σ'[j]?≠some (some (V.ref a)):=fun j e h z=>by
    obtain ⟨b,u,p1,_,_,_,_,p6⟩:=own j e h
    rw [z] at p1
    cases p1
    rw [q5] at p6;cases p6
   refine ⟨st,by simp [f'.len],fun j e h=>?_,fun j e h=>?_,fun j e h=>?_,fun j k d1 d2 c h1 h2 h3 h4=>?_,f.lh,fun j e h=>?_,fun j k d1 d2 h1 h2=>?_⟩
   ·obtain ⟨h,_⟩:=nx (fun _ z=>by cases z) h
    exact f'.sh j e h
   ·by_cases hj:i=j
    ·subst hj
     rw [List.getElem?_set_self hil] at h
     cases h
     exact ⟨a,u,q1,q3,q4,k4,q6⟩
    ·rw [List.getElem?_set_ne hj] at h
     obtain ⟨b,u,p1,p2,p3,p4,p5,_⟩:=own j e h
     exact ⟨b,u,p1,p2,p3,p4,p5⟩
   ·obtain ⟨h,hj⟩:=nx (fun _ z=>by cases z) h
    exact lck j e (Ne.symm hj) h
   ·by_cases hj:i=j
    ·by_cases hk:i=k
     ·exact hj.symm.trans hk
     ·rw [List.getElem?_set_ne hk] at h2
      subst hj
      rw [q1] at h3
      cases h3
      exact (ne k d2 h2 h4).elim
    ·rw [List.getElem?_set_ne hj] at h1
     by_cases hk:i=k
     ·subst hk
      rw [q1] at h4
      cases h4
      exact (ne j d1 h1 h3).elim
     ·rw [List.getElem?_set_ne hk] at h2
      exact f'.dj j k d1 d2 c h1 h2 h3 h4
   ·obtain ⟨h,hj⟩:=nx (fun _ z=>by cases z) h
    obtain ⟨b,as,O⟩:=two j e h
    refine ⟨b,as,O.at_,O.ob,O.nd,O.out,fun c hc k e' hk=>?_,O.inn⟩
    by_cases nk:i=k
    ·subst nk
     intro z
     rw [q1] at z
     cases z
     obtain ⟨b',as',O'⟩:=f'.o2 j e h
     have hh:=O.at_
     rw [O'.at_] at hh
     cases hh
     have hs:as'=as:=by
      have h1:=O.ob
      rw [O'.ob] at h1
      injection h1 with h1
      injection h1 with h1
      exact List.map_inj_right (fun x y z=>by cases z;rfl) |>.mp h1
     subst hs
     have:=(O'.out _ hc).2
     rw [q5] at this;cases this
    ·rw [List.getElem?_set_ne nk] at hk
     exact O.dj c hc k e' hk
   ·exact f'.u2 j k d1 d2 (nx (fun _ z=>by cases z) h1).1 (nx (fun _ z=>by cases z) h2).1
end
section
variable {c:C}{e a b iter tg:Expr}{g ga gb:Rho->R D}{pos p:Pos}{gi:Rho->R (List D)}{body:List Stmt}{x:Str}{kt:D->Rho->R Rho}{gbd:Rho->R Fl}
def w1H (gi:Rho->R (List D)) (kt:D->Rho->R Rho) (gb:Rho->R Fl):Rho->R Fl:=fun ρ=>match gi ρ with
 | .ok ds=>q54 kt gb ds ρ
 | _=>.no
theorem q4H (hc:c.X.calm=true) (hi:JIs c.nox tg iter gi) (hg:JG c.nox tg kt) (hb:JSs c.nox body gbd) (hs:∀ x,foldedSetIterable iter c.X.env x=pure x:=by intro _;rfl):JS c (.For tg iter body [] pos) (w1H gi kt gbd):=.of fun ρ=>by
 refine x8s (mPS (x4N PassesOwn.never hc (hi ρ) (g:=fun v σ H Q=>∃ ρ d,TGr c.X.K ρ d (kt d ρ) v σ H Q) (tb:=fun D σ H=>∃ ρ,SR c.X.K c.cls E0 ρ (gbd ρ) D σ H) ?_ ?_ hs) fun D σ H ⟨H0,Hs0,la,Hs,f,q⟩=>?_)
 ·exact fun pins s σ H v u Q I r h_0=>by obtain ⟨ρ,d,q⟩:=h_0;exact hg ρ d pins s σ H v u Q I r q
 ·exact fun pins s σ H D I h_1=>by obtain ⟨ρ,q⟩:=h_1;exact hb ρ pins s σ H D I q
 ·refine ⟨H0,Hs0,la,Hs,f,?_⟩
  unfold w1H at q
  cases hr:gi ρ with
  | no=>rw [hr] at q;exact q
  | ex x n=>rw [hr] at q;exact q.elim
  | ok ds =>
   rw [hr] at q
   intro J H1 Hs1 s1 it
   have f1:=f.step s1
   exact x58 (E:=c.E) (cls:=c.cls) (kt:=kt) (gb:=gbd) (tg:=fun v σ H Q=>∃ ρ d,TGr c.X.K ρ d (kt d ρ) v σ H Q) (tb:=fun D σ H=>∃ ρ,SR c.X.K c.cls E0 ρ (gbd ρ) D σ H) it (x59 f1.st.all f1.st.sub) f1.into (fun ρ d v σ H Q h=>⟨ρ,d,h⟩) (fun ρ D σ H h=>⟨ρ,h⟩) (w5i.into f1 q)
def w3C (i:Nat) (kt:D->Rho->R Rho) (gb:Rho->R Fl):Rho->R Fl:=fun ρ=>match ρ[i]? with
 | some (Sl.own (.list ds))=>unl i ρ (q54 kt gb ds (w8c i ρ))
 | _=>w1H (gIt fun ρ=>rdS ρ i) kt gb ρ
theorem w1I {kt:D->Rho->R Rho}{gb:Rho->R Fl}:∀ (ds:List D) (ρ:Rho) (fl:Fl),q54 kt gb ds ρ=.ok fl->(∃ ρ',fl=.nx ρ')\/∃ d,fl=.rt d
 | [],ρ,fl,h=>by cases h;exact .inl ⟨_,rfl⟩
 | d::r,ρ,fl,h=>by
  unfold q54 at h
  split at h
  ·split at h
   ·exact w1I r _ _ h
   ·exact w1I r _ _ h
   ·cases h;exact .inl ⟨_,rfl⟩
   ·cases h;exact .inr ⟨_,rfl⟩
   ·cases h
  ·cases h
theorem w5I {kt:D->Rho->R Rho}{gb:Rho->R Fl}:∀ (ds:List D) (ρ:Rho) (c:Str) (n:Option D),q54 kt gb ds ρ≠.ex c n
 | [],ρ,c,n,h=>by cases h
 | d::r,ρ,c,n,h=>by
  unfold q54 at h
  split at h
  ·split at h
   ·exact w5I r _ _ _ h
   ·exact w5I r _ _ _ h
   ·cases h
   ·cases h
   ·cases h
  ·cases h
theorem x1D (i:Nat) (hc:c.X.calm=true) (hg:JG c.nox tg kt) (hb:JSs c.nox body gbd) (hN:c.X.N[i]?=some x:=by rfl) (hv:Vis c.X.env.scope x:=by first | exact Or.inl rfl | exact Or.inr (Or.inl rfl) | exact Or.inr (Or.inr rfl)) (hd:(x == ("__debug__" : Str))=false:=by decide)
  (hcd:(x == ("__classdict__" : Str))=false:=by decide) (hs:∀ y,foldedSetIterable (.Name x p) c.X.env y=pure y:=by intro _;rfl):JS c (.For tg (.Name x p) body [] pos) (w3C i kt gbd):=.of fun ρ=>by
 by_cases ho:∃ ds,ρ[i]?=some (Sl.own (.list ds))
 ·obtain ⟨ds,ho⟩:=ho
  refine x8s (mPS (x4N (tg:=tg) PassesOwn.never hc (q8y (X:=c.nox.X) (w0E hN hv hd hcd)) (g:=fun v σ H Q=>∃ ρ d,TGr c.X.K ρ d (kt d ρ) v σ H Q) (tb:=fun D σ H=>∃ ρ,SR c.X.K c.cls E0 ρ (gbd ρ) D σ H) ?_ ?_ hs) fun D σ H ⟨H0,Hs0,la,Hs,f,q⟩=>?_)
  ·exact fun pins s σ H v u Q I r h_2=>by obtain ⟨ρ,d,q⟩:=h_2;exact hg ρ d pins s σ H v u Q I r q
  ·exact fun pins s σ H D I h_3=>by obtain ⟨ρ,q⟩:=h_3;exact hb ρ pins s σ H D I q
  ·obtain ⟨a,o,k1,k2,k3,k4,k5⟩:=f.ow i _ ho
   cases k5 with
   | @lst vs _ r =>
    refine ⟨_,k1,a,rfl,⟨_,.of k2⟩,?_⟩
    have hn:SqL c.X.K (upd Hs a (.lst vs)) a vs:=.of q0g
    unfold w3C at q
    simp only [ho] at q
    have fl:=f.lock ho k1 k2 k3 k4 (.lst r)
    have sub:q29 (upd Hs a (.lst vs)) H:=fun b u q=>by
     by_cases hb:b=a
     ·subst hb;rw [q0g] at q;cases q;exact k2
     ·rw [q0j hb] at q;exact f.st.sub b u q
    refine x58 (E:=c.E) (cls:=c.cls) (kt:=kt) (gb:=gbd) (ρ:=w8c i ρ) (Hs:=Hs) (la:=fun i'=>if i'=i then some a else la i') (tg:=fun v σ H Q=>∃ ρ d,TGr c.X.K ρ d (kt d ρ) v σ H Q) (tb:=fun D σ H=>∃ ρ,SR c.X.K c.cls E0 ρ (gbd ρ) D σ H) (w5F hn r) (x59 f.st.all sub) ?_ (fun ρ d v σ H Q h=>⟨ρ,d,h⟩) (fun ρ D σ H h=>⟨ρ,h⟩) ?_
    ·unfold w8c
     rw [ho]
     exact fl
    ·cases hr:q54 kt gbd ds (w8c i ρ) with
     | no=>rw [hr] at q;exact q
     | ex c n=>exact (w5I _ _ _ _ hr).elim
     | ok fl =>
      rw [hr] at q
      rcases w1I _ _ _ hr with ⟨ρ',rfl⟩ | ⟨d,rfl⟩
      ·exact fun σ' H' Hs' f'=>q σ' H' Hs' (f.unlock ho k4 f')
      ·exact fun v H' Hs' s r=>q v H' Hs' (f.st.unlock s) r
 ·have e:w3C i kt gbd ρ=w1H (gIt fun ρ=>rdS ρ i) kt gbd ρ:=by
   unfold w3C
   split
   ·rename_i ds h;exact (ho ⟨ds,h⟩).elim
   ·rfl
  rw [e]
  exact q4H hc (w5G (c:=c.nox) (q03 (c:=c.nox) i hN hv hd hcd)) hg hb hs ρ
end
end J
end
section
namespace J
open PySem L2
section
variable {c:C}{e k:Expr}{g gk:Rho->R D}{pos p apos cpos:Pos}{x:Str}
def w1J (i:Nat) (g:Rho->R D):Rho->R Fl:=fun ρ=>match ρ[i]? with
 | some (Sl.own (.list ds))=>(g ρ).bind fun d=>if ds.length<1000 then .ok (.nx (ρ.set i (.own (.list (ds++[d]))))) else .no
 | _=>.no
theorem q4I (i:Nat) (h:JE c e g) (hN:c.X.N[i]?=some x:=by rfl) (hv:Vis c.X.env.scope x:=by first | exact Or.inl rfl | exact Or.inr (Or.inl rfl) | exact Or.inr (Or.inr rfl)) (hd:(x == ("__debug__" : Str))=false:=by decide)
  (hcd:(x == ("__classdict__" : Str))=false:=by decide)
  (hbase:attributeBase (.Name x p) "append" c.X.env (eval (.Name x p) c.X.env)=eval (.Name x p) c.X.env:=by rfl)
  (hfew:((backTo cpos (starEach [e] c.X.env)).all (fun x=>!x.1) && (backToKw cpos (keywordEach [] c.X.env)).all (fun x=>x.1.isSome)
   && decide ([e].length + ([] : List Keyword).length + (if ([] : List Keyword).isEmpty then 0 else 1)<30))=true:=by rfl)
  (hline:(apos.endLine == cpos.line)=true:=by rfl) (hst:starEach [e] c.X.env=(false,eval e c.X.env)::starEach [] c.X.env:=by rfl) (hplain:(backTo cpos (starEach [] c.X.env)).any (·.1)=false:=by rfl)
  (hs:swapsWith (.Call (.Attribute (.Name x p) "append" apos) [e] [] cpos) none pos.line c.X.env=pure false:=by rfl) :
  JS c (.Expr (.Call (.Attribute (.Name x p) "append" apos) [e] [] cpos) pos) (w1J i g):=.of fun ρ=>by
 refine mPS (w5o (x88 PySem.F.plainAttrs_list PySem.F.slot_list_append PySem.F.type_list_append w3l (w0E hN hv hd hcd) (q2i (h ρ) q3u hst) hbase hfew hline hst hplain) hs) fun D σ H h_0=>?_
 obtain ⟨H0,Hs0,la,Hs,f,q⟩:=h_0
 replace q:w5i c.X.K c.cls c.E H0 Hs0 la D (w1J i g ρ):=q
 unfold w1J at q
 split at q
 ·rename_i ds ho
  obtain ⟨a,o,k1,k2,k3,k4,k5⟩:=f.ow i _ ho
  cases k5 with
  | @lst vs _ r =>
   refine ⟨_,k1,.inl ⟨rfl,_,.of k2⟩,?_⟩
   refine sE f q fun d v H1 Hs1 e1 s1 f1 r1=>?_
   rw [e1,bind_ok] at q
   by_cases hl:ds.length<1000
   ·rw [if_pos hl] at q
    have r':=r.same s1.sh
    exact ⟨a,vs,v,rfl,rfl,s1.all _ _ k2,q0P (by rw [r.length];omega),q _ _ Hs1 (f1.write i ho k1 (.lst (r'.append (.cons r1 .nil))))⟩
   ·rw [if_neg hl] at q;exact q.elim
 ·exact q.elim
def w04:D->Option Key
 | .int i=>some (.inl i)
 | .str x=>some (.inr x)
 | _=>none
theorem w1K {d:D}{y:Key} (h:w04 d=some y):d=kD y:=by
 cases d<;>cases h<;>rfl
def x3g (kvs:List (D×D)) (k d:D):List (D×D):=if kvs.any (fun kv=>PyData.eqv kv.1 k) then kvs.map (fun kv=>if PyData.eqv kv.1 k then (kv.1,d) else kv) else kvs++[(k,d)]
theorem x1E (a b:Key):PyData.eqv (kD a) (kD b)=decide (a=b):=by
 cases a<;>cases b<;>simp [kD,PyData.eqv,Bool.beq_eq_decide_eq]
theorem RDk.any {K:PySem.W.Frag}{H:Hp}{kvs:List (Key×V)} (y:Key):∀ {ds:List (D×D)},RDk K H kvs ds->(ds.any fun kv=>PyData.eqv kv.1 (kD y))=kvs.any fun kv=>decide (kv.1=y):=by
 induction kvs with
 | nil=>intro ds h;cases h;rfl
 | cons x r ih=>intro ds h;cases h with | cons h t=>rw [List.any_cons,List.any_cons,ih t,x1E]
theorem RDk.repl {K:PySem.W.Frag}{H:Hp} (y:Key) {v:V}{d:D} (rv:RD K H v d):∀ {kvs:List (Key×V)}{ds:List (D×D)},RDk K H kvs ds ->
  RDk K H (kvs.map fun kv=>if kv.1=y then (kv.1,v) else kv) (ds.map fun kv=>if PyData.eqv kv.1 (kD y) then (kv.1,d) else kv)
 | _,_,.nil=>.nil
 | _,_,.cons (k:=k) h t=>by
  rw [List.map_cons,List.map_cons]
  have e:=x1E k y
  by_cases hk:k=y
  ·subst hk
   rw [show (if k=k then (k,v) else (k,_))=(k,v) from if_pos rfl,show (if PyData.eqv (kD k) (kD k)=true then (kD k,d) else (kD k,_))=(kD k,d) from if_pos (by rw [e];simp)]
   exact .cons rv (RDk.repl k rv t)
  ·simp only [e,hk,if_neg,decide_false,Bool.false_eq_true,not_false_eq_true]
   exact .cons h (RDk.repl y rv t)
theorem RDk.snoc {K:PySem.W.Frag}{H:Hp} (y:Key) {v:V}{d:D} (rv:RD K H v d):∀ {kvs:List (Key×V)}{ds:List (D×D)},RDk K H kvs ds->RDk K H (kvs++[(y,v)]) (ds++[(kD y,d)])
 | _,_,.nil=>.cons rv .nil
 | _,_,.cons h t=>.cons h (RDk.snoc y rv t)
theorem RDk.put {K:PySem.W.Frag}{H:Hp}{kvs:List (Key×V)}{ds:List (D×D)} (r:RDk K H kvs ds) (y:Key) {v:V}{d:D} (rv:RD K H v d):RDk K H (w3m kvs y v) (x3g ds (kD y) d):=by
 unfold w3m x3g
 rw [r.any y]
 split
 ·exact r.repl y rv
 ·exact r.snoc y rv
def q20 (kvs:List (D×D)):Bool:=kvs.all fun kv=>(w04 kv.1).isSome
def x3Q (i:Nat) (gk g:Rho->R D):Rho->R Fl:=fun ρ=>match ρ[i]? with
 | some (Sl.own (.dict kvs))=>(g ρ).bind fun d=>(gk ρ).bind fun k=>match w04 k with
  | some _=>if kvs.length<1000/\q20 kvs=true then .ok (.nx (ρ.set i (.own (.dict (x3g kvs k d))))) else .no
  | none=>.no
 | _=>.no
theorem x1F {K:PySem.W.Frag}{H:Hp}{v:V}{y:Key} (h:RD K H v (kD y)):v=kV y:=by
 cases y<;>cases h<;>rfl
theorem RDt.flat {K:PySem.W.Frag}{H:Hp}{kvs:List (List Key×V)}{ds:List (D×D)} (h:RDt K H kvs ds) (f:q20 ds=true):kvs=[]/\ds=[]:=by
 cases h with
 | nil=>exact ⟨rfl,rfl⟩
 | cons h t=>simp [q20,tD,w04] at f
theorem x1G (i:Nat) (h:JE c e g) (hk:JE c k gk) (hu:c.X.A.units + 1<cLine) (hN:c.X.N[i]?=some x:=by rfl) (hv:Vis c.X.env.scope x:=by first | exact Or.inl rfl | exact Or.inr (Or.inl rfl) | exact Or.inr (Or.inr rfl)) (hd:(x == ("__debug__" : Str))=false:=by decide)
  (hcd:(x == ("__classdict__" : Str))=false:=by decide) (hs:swapsWith e (some (.Subscript (.Name x p) k apos)) pos.line c.X.env=pure false:=by rfl):JS c (.Assign [.Subscript (.Name x p) k apos] e pos) (x3Q i gk g):=.of fun ρ=>by
 refine mPS (x6p hu (w0E hN hv hd hcd) (hk ρ) (h ρ) hs) fun D σ H h_1=>?_
 obtain ⟨H0,Hs0,la,Hs,f,q⟩:=h_1
 replace q:w5i c.X.K c.cls c.E H0 Hs0 la D (x3Q i gk g ρ):=q
 unfold x3Q at q
 split at q
 ·rename_i kvs ho
  obtain ⟨a,o,k1,k2,k3,k4,k5⟩:=f.ow i _ ho
  have main:∀ {H:Hp}{vs:List (Key×V)},Fr c.X.K H0 Hs0 la ρ σ H Hs->H a=some (.dK vs)->RDk c.X.K Hs vs kvs->x8b (y0K i) (TR c.X.K c.cls c.E ρ (gk ρ)) (TR c.X.K c.cls c.E ρ (g ρ)) D σ H:=fun {H vs} f k2 r=>by
   refine sE f q fun d v H1 Hs1 e1 s1 f1 r1=>?_
   rw [e1,bind_ok] at q
   refine ⟨_,k1,sE f1 q fun y w H2 Hs2 e2 s2 f2 r2=>?_⟩
   rw [e2,bind_ok] at q
   split at q
   ·rename_i ky hy
    obtain rfl:=w1K hy
    by_cases hl:kvs.length<1000/\q20 kvs=true
    ·rw [if_pos hl] at q
     have ha:=s2.all _ _ (s1.all _ _ k2)
     have r':=(r.same s1.sh).same s2.sh
     rw [x1F r2]
     exact ⟨a,_,rfl,x8a.k ha (q0P (by rw [r.length];omega)),q _ _ Hs2 (f2.write i ho k1 (.dK (r'.put ky (r1.same s2.sh))))⟩
    ·rw [if_neg hl] at q;exact q.elim
   ·exact q.elim
  cases k5 with
  | dK r=>exact main f k2 r
  | dT n r =>
   refine sE f q fun d v H1 Hs1 e1 s1 f1 r1=>?_
   rw [e1,bind_ok] at q
   refine ⟨_,k1,sE f1 q fun y w H2 Hs2 e2 s2 f2 r2=>?_⟩
   rw [e2,bind_ok] at q
   split at q
   ·rw [if_neg (fun z=>n (r.flat z.2).1)] at q;exact q.elim
   ·exact q.elim
 ·exact q.elim
def w5J (kvs:List (D×D)) (k:D):Option D:=(kvs.find? fun kv=>PyData.eqv kv.1 k).map (·.2)
theorem RDk.val {K:PySem.W.Frag}{H:Hp}:∀ {kvs:List (Key×V)}{ds:List (D×D)},RDk K H kvs ds->∀ (y:Key),(w7W kvs y=none/\w5J ds (kD y)=none)\/∃ v d,w7W kvs y=some v/\w5J ds (kD y)=some d/\RD K H v d
 | _,_,.nil,y=>.inl ⟨rfl,rfl⟩
 | _,_,.cons (k:=k) h t,y=>by
  unfold w7W w5J
  rw [List.find?_cons,List.find?_cons,x1E]
  by_cases hk:k=y
  ·simp only [hk,decide_true,Option.map_some]
   exact .inr ⟨_,_,rfl,rfl,h⟩
  ·simp only [hk,decide_false]
   exact RDk.val t y
def q0f:D->D->R D
 | .dict kvs,k=>match w04 k with
  | some _=>if q20 kvs=true then (match w5J kvs k with
   | some d=>.ok d
   | none=>.no) else .no
  | none=>.no
 | x,k=>ixD x k
variable {a b:Expr}{ga gb:Rho->R D}
theorem q0v (hu:c.X.A.units + 1<cLine) (ha:JB c a ga) (hb:JB c b gb) (hs:w1n b:=by exact fun _ _=>rfl):JE c (.Subscript a b pos) (g2 ga gb q0f):=.of fun ρ=>by
 by_cases hx:∃ kvs,ga ρ=.ok (.dict kvs)
 ·obtain ⟨kvs,hx⟩:=hx
  refine mPE (x6o hu (ha ρ) (hb ρ) hs) fun σ H Q h_2=>?_
  obtain ⟨H0,Hs0,la,Hs,f,q⟩:=h_2
  refine one f q fun d v H1 Hs1 e1 s1 f1 r1=>?_
  rw [hx] at e1
  cases e1
  unfold g2 at q
  rw [hx,bind_ok] at q
  refine one f1 (q.on s1 (q':=fun _=>True) fun _ _=>trivial) fun y w H2 Hs2 e2 s2 f2 r2=>?_
  rw [e2,bind_ok] at q
  unfold q0f at q
  simp only at q
  split at q
  ·rename_i ky hy
   obtain rfl:=w1K hy
   by_cases hf:q20 kvs=true
   ·rw [if_pos hf] at q
    obtain ⟨p,rfl,h⟩:=(r1.step s2).dict f2.st.sub
    have rk:w=kV ky:=by
     rcases r2 with r2 | ⟨_,o,rfl,_,_,ow⟩
     ·exact x1F r2
     ·cases ky<;>cases ow
    subst rk
    rcases h with ⟨vs,h1,h2⟩ | ⟨vs,h1,hn,h2⟩
    ·rcases h2.val ky with ⟨_,h3⟩ | ⟨u,d,h3,h4,h5⟩
     ·rw [h3] at q;exact q.elim
     ·rw [h4] at q
      exact ⟨p,u,rfl,by rw [<- h3];exact x7n.k h1,q _ H2 Hs2 (s1.trans s2) h5⟩
    ·exact (hn (h2.flat hf).1).elim
   ·rw [if_neg hf] at q;exact q.elim
  ·exact q.elim
 ·refine mPE (y0m ha hb hs ρ) fun σ H Q q=>?_
  have e:g2 ga gb q0f ρ=g2 ga gb ixD ρ:=by
   unfold g2
   cases hr:ga ρ with
   | ok d =>
    cases d with
    | dict kvs=>exact (hx ⟨kvs,hr⟩).elim
    | _=>rfl
   | _=>rfl
  rw [e] at q
  exact q
def q3I:D->R D
 | .dict kvs=>if q20 kvs=true then .ok (.list (kvs.map (·.1))) else .no
 | x=>w9e x
theorem w8e {K:PySem.W.Frag}{H:Hp}:∀ {kvs:List (Key×V)}{ds:List (D×D)},RDk K H kvs ds->RDs K H (kvs.map fun p=>kV p.1) (ds.map (·.1))
 | _,_,.nil=>.nil
 | _,_,.cons (k:=k) h t=>.cons (by cases k<;>constructor) (w8e t)
theorem w1L {X:Cx} (hc:X.calm=true):CaD X (.type "list") (on1 q3I):=by
 refine w0J (fun d c n=>?_) fun pins s σ H x u Q Hs d d' I ru sub rx hd q=>?_
 ·unfold q3I w9e
  split<;>(try split)<;>(try split)<;>exact fun h=>by cases h
 ·by_cases hx:∃ kvs,d=.dict kvs
  ·obtain ⟨kvs,rfl⟩:=hx
   unfold q3I at hd
   simp only at hd
   split at hd
   ·rename_i hf
    cases hd
    obtain ⟨a,rfl,⟨vs,h1,h2⟩ | ⟨vs,h1,n,h2⟩⟩:=rx.dict sub
    ·exact w02 hc pins s σ H _ _ Q I (.cons ru .nil) ⟨a,vs,rfl,h1,fun l hl=>q _ _ _ (.new sub hl) (.list (.of q0g) ((w8e h2).same (q1G.new sub hl).sh))⟩
    ·exact (n (h2.flat hf).1).elim
   ·cases hd
  ·have e:q3I d=w9e d:=by
    cases d with
    | dict kvs=>exact (hx ⟨kvs,rfl⟩).elim
    | _=>rfl
   rw [e] at hd
   exact (x6G (X:=X)).1 pins s σ H [x] [u] Q I (.cons ru .nil) ⟨Hs,[d],sub,.cons rx .nil,d',hd,q⟩
end
end J
end
section
namespace J
open PySem L2
open PyProof.Rows (envOfC)
section
variable {c:C}{e a b d:Expr}{g ga gb gc:Rho->R D}{pos p cpos:Pos}{x:Str}
theorem x5a {K:PySem.W.Frag}{cls:Str->Addr}{E:XK}{h h':D->D->R D}{ρ:Rho}{σ:St}{H:Hp}{Q:VK} (hx:∀ x y c n,h x y≠.ex c n) (hx':∀ x y c n,h' x y≠.ex c n) (q:TR K cls E ρ (q7I ga gb gc h h' ρ) σ H Q) :
  x0V (rD K h) (rD K h') (TB K cls E ρ (ga ρ)) (TB K cls E ρ (gb ρ)) (TB K cls E ρ (gc ρ)) σ H Q:=by
 obtain ⟨H0,Hs0,la,Hs,f,q⟩:=q
 refine one f q fun x v H1 Hs1 e1 s1 f1 r1=>?_
 unfold q7I at q
 rw [e1,bind_ok] at q
 refine one f1 (q.on s1 (q':=fun _=>True) fun _ _=>trivial) fun y u H2 Hs2 e2 s2 f2 r2=>?_
 rw [e2,bind_ok] at q
 cases hr:h x y with
 | ex c n=>exact (hx x y c n hr).elim
 | no=>rw [hr] at q;exact q.elim
 | ok z =>
  rw [hr,bind_ok] at q
  refine ⟨Hs2,x,y,f2.st.sub,r1.step s2,r2,z,hr,fun w H3 Hs3 s3 r3=>?_⟩
  cases r3 with
  | bool k =>
   refine ⟨k,rfl,?_⟩
   have f3:=f2.step s3
   cases k with
   | false=>exact x4S (q _ H3 Hs3 (s1.trans (s2.trans s3)) (.bool _))
   | true =>
    refine x4T (one f3 (q.on (s1.trans (s2.trans s3)) (q':=fun _=>True) fun _ _=>trivial) fun t u' H4 Hs4 e4 s4 f4 r4=>?_)
    simp only [e4,bind_ok] at q
    cases hr':h' y t with
    | ex c n=>exact (hx' y t c n hr').elim
    | no=>rw [hr'] at q;exact q.elim
    | ok z' =>
     rw [hr'] at q
     exact ⟨Hs4,y,t,f4.st.sub,(r2.step s3).step s4,r4,z',hr',fun w H5 Hs5 s5 r5=>q w H5 Hs5 (s1.trans (s2.trans (s3.trans (s4.trans s5)))) r5⟩
  | none=>exact q.elim
  | int _=>exact q.elim
  | str _=>exact q.elim
  | list _ _=>exact q.elim
  | tuple _ _=>exact q.elim
  | dictK _ _=>exact q.elim
  | dictT _ _ _=>exact q.elim
theorem w8f {op op':CmpOp}{h h':D->D->R D} (ho:OpD c.X (compareOp op) h) (ho':OpD c.X (compareOp op') h') (ha:JB c a ga) (hb:JB c b gb) (hc:JB c d gc) (hm:lastMarks [op,op'] [b,d]=false:=by with_unfolding_all rfl):JE c (.Compare a [op,op'] [b,d] pos) (q7I ga gb gc h h') :=
 .of fun ρ=>mPE (x3n ho.1 ho'.1 (ha ρ) (hb ρ) (hc ρ) hm) fun σ H Q q=>x5a ho.2 ho'.2 q
theorem x3R {op op':CmpOp}{h h':D->D->R D} (ho:OpD c.X (compareOp op) h) (ho':OpD c.X (compareOp op') h') (ha:JB c a ga) (hb:JB c b gb) (hc:JB c d gc) (hm:lastMarks [op,op'] [b,d]=false:=by with_unfolding_all rfl):JT c (.Compare a [op,op'] [b,d] pos) (asB (q7I ga gb gc h h')) :=
 .of fun ρ=>mPT (x3o ho.1 ho'.1 (ha ρ) (hb ρ) (hc ρ) hm) fun σ H Q q=>x5a ho.2 ho'.2 (asT q)
def y0n:D->R D
 | .int i=>.ok (.int (-i))
 | _=>.no
def w3D (g:Rho->R D):Rho->R D:=fun ρ=>(g ρ).bind y0n
theorem w3E (h:JE c e g):JE c (.UnaryOp .USub e pos) (w3D g):=.of fun ρ=>mPE (x9X x7S (h ρ)) fun σ H Q h_0=>by
 obtain ⟨H0,Hs0,la,Hs,f,q⟩:=h_0
 refine x3M f q fun d v H1 Hs1 e1 s1 f1 r1=>?_
 unfold w3D at q
 rw [e1,bind_ok] at q
 cases r1 with
 | int i=>exact ⟨i,rfl,q _ H1 Hs1 s1 (.int _)⟩
 | _=>exact q.elim
inductive y13 (K:PySem.W.Frag) (w:World) (cls:Str->Addr) (E:XK) (ρ:Rho) (r:R (List Str)) (σ:St) (H:Hp) (Q:VK):Prop
 | mk (H0 Hs0:Hp) (la:Nat->Option Addr) (Hs:Hp) (f:Fr K H0 Hs0 la ρ σ H Hs) (q:Fin K cls E H Hs r fun ss=>∀ p H' Hs',q1G H Hs H' Hs'->H' p=none->Q (.ref p) (upd H' p (SetO w p ss))):y13 K w cls E ρ r σ H Q
def TSt (K:PySem.W.Frag) (w:World) (cls:Str->Addr) (E:XK) (ρ:Rho) (r:R (List Str)):TE:=y13 K w cls E ρ r
structure JSt (c:C) (e:Expr) (g:Rho->R (List Str)):Prop where of ::
 run:∀ ρ,PE c.X e (TSt c.X.K c.X.w c.cls c.E ρ (g ρ))
instance {c:C}{e:Expr}{g:Rho->R (List Str)}:CoeFun (JSt c e g) (fun _=>∀ ρ,PE c.X e (TSt c.X.K c.X.w c.cls c.E ρ (g ρ))):=⟨JSt.run⟩
theorem x3S {K:PySem.W.Frag}{w:World}{cls:Str->Addr}{E:XK}{ρ:Rho}{r:R (List Str)}{β:Type}{k:List Str->R β}{σ:St}{H:Hp}{H0 Hs0 Hs:Hp}{la:Nat->Option Addr}{Q:V->Hp->Prop}{q:β->Prop} (f:Fr K H0 Hs0 la ρ σ H Hs)
  (h:Fin K cls E H Hs (r.bind k) q) (m:∀ ss p H' Hs',r=.ok ss->q1G H Hs H' Hs'->Fr K H0 Hs0 la ρ σ H' Hs'->H' p=none->Q (.ref p) (upd H' p (SetO w p ss))):TSt K w cls E ρ r σ H Q:=by
 refine ⟨H0,Hs0,la,Hs,f,?_⟩
 cases r with
 | ok d=>exact fun p H' Hs' s n=>m d p H' Hs' rfl s (f.step s) n
 | ex c n=>exact h
 | no=>exact h
variable {gset:Rho->R (List Str)}
def q8X:D->R (List Str)
 | .list ds=>match q1Y ds with
  | some ss=>if ss.length<60 then .ok (q12 [] ss) else .no
  | none=>.no
 | .tuple ds=>match q1Y ds with
  | some ss=>if ss.length<60 then .ok (q12 [] ss) else .no
  | none=>.no
 | _=>.no
def q6f (g:Rho->R D):Rho->R (List Str):=fun ρ=>(g ρ).bind q8X
theorem w8g (hc:c.X.calm=true) (h:JB c e g) (hg2:Gl c.X "set") (hm2:c.X.mg "set"=none) (he:starEach [e] c.X.env=(false,eval e c.X.env)::starEach [] c.X.env:=by rfl) :
  JSt c (.Call (.Name "set" p) [e] [] cpos) (q6f g):=.of fun ρ=>by
 refine mPE (q8A (w5A hc) hg2 hm2 PyProof.Rows.boot_set (q2i (h ρ) q3u he) (he:=he)) fun σ H Q h_1=>?_
 obtain ⟨H0,Hs0,la,Hs,f,q⟩:=h_1
 refine one f q fun d v H1 Hs1 e1 s1 f1 r1=>?_
 unfold q6f at q
 rw [e1,bind_ok] at q
 unfold q8X at q
 split at q
 ·split at q
  ·rename_i ss hs
   by_cases hz:ss.length<60
   ·rw [if_pos hz] at q
    obtain ⟨a,vs,rfl,qa,ra⟩:=r1.list f1.st.sub
    rw [q5w hs] at ra
    rw [q4D ra] at qa
    exact ⟨a,ss,rfl,.inl qa,Nat.lt_of_lt_of_le (Nat.add_lt_add_right hz 1) (by decide),fun p hp=>q p H1 Hs1 s1 hp⟩
   ·rw [if_neg hz] at q;exact q.elim
  ·exact q.elim
 ·split at q
  ·rename_i ss hs
   by_cases hz:ss.length<60
   ·rw [if_pos hz] at q
    obtain ⟨a,vs,rfl,qa,ra,_⟩:=r1.tuple f1.st.sub
    rw [q5w hs] at ra
    rw [q4D ra] at qa
    exact ⟨a,ss,rfl,.inr qa,Nat.lt_of_lt_of_le (Nat.add_lt_add_right hz 1) (by decide),fun p hp=>q p H1 Hs1 s1 hp⟩
   ·rw [if_neg hz] at q;exact q.elim
  ·exact q.elim
 ·exact q.elim
def q3x (g:Rho->R (List Str)):Rho->R D:=fun ρ=>(g ρ).bind fun ss=>if ss.length<64 then .ok (.list ((q43 ss).map .str)) else .no
theorem q6R (hc:c.X.calm=true) (h:JSt c e gset) (hg:Gl c.X "sorted") (hm:c.X.mg "sorted"=none) (he:starEach [e] c.X.env=(false,eval e c.X.env)::starEach [] c.X.env:=by rfl) :
  JE c (.Call (.Name "sorted" p) [e] [] cpos) (q3x gset):=.of fun ρ=>by
 refine mPE (q8j (q8N hc) hg hm PyProof.Rows.boot_sorted (q2i (h ρ) q3u he) (he:=he)) fun σ H Q h_2=>?_
 obtain ⟨H0,Hs0,la,Hs,f,q⟩:=h_2
 dsimp only [L2.tCB,L2.x3p,L2.x9A]
 refine x3S (w:=c.X.w) f q fun ss p H1 Hs1 e1 s1 f1 n1=>?_
 unfold q3x at q
 rw [e1,bind_ok] at q
 by_cases hz:ss.length<64
 ·rw [if_pos hz] at q
  have st1:q1G H1 Hs1 (upd H1 p (SetO c.X.w p ss)) Hs1:=.mine f1.st.sub n1
  exact ⟨p,ss,rfl,q0g,hz,fun l hl=>q _ _ _ (s1.trans (st1.trans (.new st1.sub hl))) (.list (.of q0g) (w1x _))⟩
 ·rw [if_neg hz] at q;exact q.elim
def q8Y (g:Rho->R (List Str)):Rho->R D:=fun ρ=>(g ρ).bind fun ss=>.ok (.int ss.length)
theorem x1H (h:JSt c e gset) (hg:Gl c.X "len") (hm:c.X.mg "len"=none) (he:starEach [e] c.X.env=(false,eval e c.X.env)::starEach [] c.X.env:=by rfl) :
  JE c (.Call (.Name "len" p) [e] [] cpos) (q8Y gset):=.of fun ρ=>by
 refine mPE (q8j w1w hg hm PySem.boot_len (q2i (h ρ) q3u he) (he:=he)) fun σ H Q h_3=>?_
 obtain ⟨H0,Hs0,la,Hs,f,q⟩:=h_3
 dsimp only [L2.tCB,L2.x3p,L2.x9A]
 refine x3S (w:=c.X.w) f q fun ss p H1 Hs1 e1 s1 f1 n1=>?_
 unfold q8Y at q
 rw [e1,bind_ok] at q
 have st1:q1G H1 Hs1 (upd H1 p (SetO c.X.w p ss)) Hs1:=.mine f1.st.sub n1
 exact ⟨p,ss,rfl,q0g,q _ _ _ (s1.trans st1) (.int _)⟩
variable {elt iter tg:Expr}{ifs:List Expr}{scope:Scope}{N':List Str}{nt:Nat}{ix:List Nat}{gi:Rho->R (List D)}{gt:Rho->R Bool}{ge:Rho->R D}
def w0N (nt:Nat) (ix:List Nat) (gi:Rho->R (List D)) (gt:Rho->R Bool) (ge:Rho->R D):Rho->R (List Str):=fun ρ=>(gi ρ).bind fun ds=>if ds.length<=60 then (q30 (q3H nt (w0M nt ix ρ) gt ge) ds).bind fun ys=>match q1Y ys with
 | some ss=>.ok (q12 [] ss)
 | none=>.no else .no
theorem w1M {ys:List D}{xs:List D}:∀ {ss:List Str},q1Y (xs++ys)=some ss->∃ s1 s2,q1Y xs=some s1/\q1Y ys=some s2/\ss=s1++s2:=by
 induction xs with
 | nil=>intro ss h;exact ⟨[],ss,rfl,h,rfl⟩
 | cons d r ih =>
  intro ss h
  cases d with
  | str b =>
   have h:(q1Y (r++ys)).map (b::·)=some ss:=h
   cases hr:q1Y (r++ys) with
   | none=>rw [hr] at h;cases h
   | some z =>
    rw [hr] at h
    cases h
    obtain ⟨s1,s2,h1,h2,rfl⟩:=ih hr
    exact ⟨b::s1,s2,by show (q1Y r).map (b::·)=_;rw [h1];rfl,h2,rfl⟩
  | _=>cases h
theorem w0O (z:Str):∀ (l acc:List Str),q12 acc (l++[z])=if z∈q12 acc l then q12 acc l else q12 acc l++[z]
 | [],acc=>rfl
 | x::l,acc=>by
  show q12 _ (l++[z])=_
  rw [w0O z l]
  rfl
inductive scI (f:D->R (Option D)) (ds:List D) (ss:List Str) (H1 Hs1:Hp) (i m:Nat) (acc:List Str) (H':Hp):Prop
 | mk (done q0I zs sa sz Hs':_) (h0:ds=done++q0I) (h1:done.length=i) (h2:q0I.length=m) (h3:q1G H1 Hs1 H' Hs') (h4:acc=q12 [] sa) (h5:sa.length<=i) (h6:q30 f q0I=.ok zs) (h7:q1Y zs=some sz) (h8:ss=sa++sz):scI f ds ss H1 Hs1 i m acc H'
theorem x6L {K:PySem.W.Frag}{w:World}{cls:Str->Addr}{E:XK}{ρ:Rho}{σ:St}{H:Hp}{Q:VK} (hnt:nt=1\/nt=2)
  (q:TSt K w cls E ρ (w0N nt ix gi gt ge ρ) σ H Q) :
  x4Z w nt ix (TIr K cls E ρ (gi ρ)) (x7s K nt) (fun σ H Q=>∃ ρ',TTT K cls E0 ρ' (gt ρ') σ H Q) (fun σ H Q=>∃ ρ',TR K cls E0 ρ' (ge ρ') σ H Q) σ H Q:=by
 obtain ⟨H0,Hs0,la,Hs,f,q⟩:=q
 refine ⟨H0,Hs0,la,Hs,f,?_⟩
 unfold w0N at q
 cases hi:gi ρ with
 | no=>rw [hi] at q;exact q
 | ex x n=>rw [hi] at q;exact q
 | ok ds =>
  rw [hi,bind_ok] at q
  intro J H1 Hs1 Hn s1 sn it
  by_cases hl:ds.length<=60
  ·rw [if_pos hl] at q
   cases hm:q30 (q3H nt (w0M nt ix ρ) gt ge) ds with
   | no=>rw [hm] at q;exact q.elim
   | ex x n=>exact (w1F (w8b _ _ _ _) _ _ _ hm).elim
   | ok ys =>
    rw [hm,bind_ok] at q
    cases hs:q1Y ys with
    | none=>rw [hs] at q;exact q.elim
    | some ss =>
     rw [hs] at q
     obtain ⟨lb,fb⟩:=(f.step s1).block nt ix
     refine ⟨scI (q3H nt (w0M nt ix ρ) gt ge) ds ss H1 Hs1,
      ⟨ds.length,[],ds,ys,[],ss,Hs1,rfl,rfl,rfl,.refl s1.sub,rfl,Nat.zero_le _,hm,hs,rfl⟩,?_⟩
     rintro i m acc H' ⟨done,q0I,zs,sa,sz,Hs',hds,hdl,hrl,st,rfl,yl,hz,hzs,hy⟩
     obtain ⟨igo,istop,iyld⟩:=it H' Hs' (sn.trans st.all) st.sh st.sub
     cases q0I with
     | nil =>
      left
      cases hz
      cases hzs
      rw [List.append_nil] at hds hy
      subst hy hds
      exact ⟨istop i (by omega),fun p hp=>q p H' Hs' (s1.trans st) hp⟩
     | cons d q0I =>
      right
      have hil:i<ds.length:=by rw [hds,List.length_append,List.length_cons];omega
      have hol:=q15 sa []
      simp at hol
      refine ⟨igo i hil,Nat.lt_of_le_of_lt (show (q12 [] sa).length + 1<=61 by omega) (by decide),fun x H2 hyl=>?_⟩
      obtain ⟨d',Hs2,hd,s2,r2⟩:=iyld i x H2 hil hyl
      have hdd:d'=d:=by
       rw [hds,List.getElem?_append_right (by omega)] at hd
       simp [hdl] at hd
       exact hd.symm
      subst hdd
      obtain ⟨o,zs',hf,hz',rfl⟩:=w0L hz
      have hf:=x1B hf
      obtain ⟨so,sz',hso,hsz,rfl⟩:=w1M hzs
      cases hb:bnd nt d' (w0M nt ix ρ) with
      | no=>rw [hb] at hf;cases hf
      | ex x n=>rw [hb] at hf;cases hf
      | ok ρ' =>
       rw [hb,bind_ok] at hf
       refine w8a hnt ((fb.step st).step s2) r2 hb fun σ2 f2=>⟨ρ',?_⟩
       refine ⟨_,_,_,Hs2,f2,?_⟩
       cases ht:gt ρ' with
       | no=>rw [ht] at hf;cases hf
       | ex x n=>rw [ht] at hf;cases hf
       | ok b =>
        rw [ht,bind_ok] at hf
        intro H3 Hs3 s3
        cases b with
        | false =>
         rw [if_neg Bool.false_ne_true] at hf
         cases hf
         cases hso
         refine x4S ⟨q0I.length,by rw [<- hrl];simp,done++[d'],q0I,zs',sa,sz',Hs3,by rw [hds];simp,by simp [hdl],rfl,(st.trans s2).trans s3,rfl,by omega,hz',hsz,by simpa using hy⟩
        | true =>
         rw [if_pos rfl] at hf
         refine x4T ⟨ρ',_,_,_,Hs3,f2.step s3,?_⟩
         cases he:ge ρ' with
         | no=>rw [he] at hf;cases hf
         | ex x n=>rw [he] at hf;cases hf
         | ok y =>
          rw [he,bind_ok] at hf
          cases hf
          intro v H4 Hs4 s4 r4
          cases r4 with
          | str z =>
           cases hso
           exact ⟨z,q0I.length,rfl,by rw [<- hrl];simp,done++[d'],q0I,zs',sa++[z],sz',Hs4,by rw [hds];simp,by simp [hdl],rfl,((st.trans s2).trans s3).trans s4,(w0O z sa []).symm,by simp;omega,hz',hsz,by rw [hy];simp⟩
          | none=>cases hso
          | bool _=>cases hso
          | int _=>cases hso
          | list _ _=>cases hso
          | tuple _ _=>cases hso
          | dictK _ _=>cases hso
          | dictT _ _ _=>cases hso
  ·rw [if_neg hl] at q;exact q.elim
theorem x3T (nt:Nat) (hnt:nt=1\/nt=2) (hc:c.X.calm=true) (S:q5m c.X scope N' nt ix) (hi:JI c tg iter gi) (hb:q8W c N' scope nt tg ifs elt gt ge) (hs:∀ x,foldedSetIterable iter c.X.env x=pure x:=by intro _;rfl) :
  JSt c (.SetComp elt [⟨tg,iter,ifs,0⟩] scope pos) (w0N nt ix gi gt ge):=.of fun ρ=>mPE (w99 hc S (w5H hnt) (hi ρ) hb.at hs) fun σ H Q q=>x6L hnt q
end
def q0r (n:Nat) (ds:List D):Rho:=ds.map Sl.shr++List.replicate (n - ds.length) Sl.no
def q34 (n:Nat) (g:Rho->R Fl):List D->R D:=fun ds=>match g (q0r n ds) with
 | .ok (.nx _)=>.ok .none
 | .ok (.rt d)=>.ok d
 | .ex c m=>.ex c m
 | _=>.no
theorem w0P {n:Nat}{ds:List D}{i:Nat}{s:Sl} (h:(q0r n ds)[i]?=some s):(∃ d,ds[i]?=some d/\s=.shr d)\/s=.no:=by
 unfold q0r at h
 by_cases hi:i<ds.length
 ·rw [List.getElem?_append_left (by simpa using hi),List.getElem?_map] at h
  cases hd:ds[i]? with
  | none=>rw [hd] at h;cases h
  | some z=>rw [hd] at h;cases h;exact .inl ⟨z,rfl,rfl⟩
 ·rw [List.getElem?_append_right (by simp;omega),List.getElem?_replicate] at h
  split at h<;>cases h
  exact .inr rfl
theorem x1I {N:List Str}{vs:List V}{i:Nat}{v:V} (h:vs[i]?=some v):(L2.start N vs)[i]?=some (some v):=by
 unfold L2.start
 have hi:i<vs.length:=(List.getElem?_eq_some_iff.mp h).1
 rw [List.getElem?_append_left (by simpa using hi),List.getElem?_map,h]
 rfl
theorem Fr.start {K : PySem.W.Frag} {H Hs : Hp} {N : List Str} {vs : List V} {ds : List D} (sub : q29 Hs H) (r : RDs K Hs vs ds) : Fr K H Hs (fun _ => none) (q0r N.length ds) (L2.start N vs) H Hs := by
  have hl := r.length
  refine ⟨.refl sub, by simp [q0r, L2.start, hl], fun i d h => ?_, fun i d h => ?_, fun i d h => ?_, fun i j d e a h _ _ _ => ?_, fun i a h => (nomatch h), fun i d h => ?_, fun i j d e h _ => ?_⟩
  · rcases w0P h with ⟨z, hz, e⟩ | e
    · cases e
      obtain ⟨v, k1, k2⟩ := r.get' hz
      exact ⟨v, x1I k1, k2⟩
    · cases e
  all_goals (rcases w0P h with ⟨z, _, e⟩ | e <;> cases e)
theorem x8t {P:Program}{w:World}{K:PySem.W.Frag}{mg:Str->Option Value}{base:Heap}{cls:Str->Addr}{x qual:Str}{st:Stmt}{f:Addr}{fd:FuncData}{N ps:List Str}{k:Nat}{g:Rho->R Fl} (F:Fun K x qual st f fd) (S:q0n N ps (q02 st))
  (h:∀ (cdv:Value) (A:Around) (outer:List Env) (s:Shared) (H:Hp) (E:XK),q9Y k (A.deeper (envOfC qual (q02 st) s.heap.objs.size f cdv))->JSs ⟨q1X (CXR P w) P w K mg base N qual (q02 st) f cdv A outer s H E,cls,E⟩ (q0h st) g) :
  w90 P w K mg base (CXR P w) (k + 1) f fd ps (spF K cls ps.length (q34 N.length g)):=by
 obtain ⟨oc,od,kV,doc,pm,an,cdv,ct,osl,rfl,lk,hcd⟩:=F.ex
 refine y05 lk hcd S (fun vs H Q E h_4=>by obtain ⟨Hs,ds,sub,hn,r,q⟩:=h_4;exact by rw [r.length];exact hn) fun A outer s H vs Q E hr hsp=>?_
 obtain ⟨Hs,ds,sub,hn,r,q⟩:=hsp
 refine ⟨_,h cdv A outer s H E hr (q0r N.length ds),H,Hs,_,Hs,Fr.start sub r,?_⟩
 unfold q34 at q
 cases hg:g (q0r N.length ds) with
 | no=>rw [hg] at q;exact q
 | ex c n=>rw [hg] at q;exact q
 | ok fl =>
  rw [hg] at q
  cases fl with
  | nx ρ'=>exact fun σ' H' Hs' f'=>q .non H' Hs' f'.st .none
  | rt d=>exact fun v H' Hs' s r=>q v H' Hs' s r
  | bk ρ'=>exact q.elim
  | ct ρ'=>exact q.elim
theorem q1g {P:Program}{w:World}{K:PySem.W.Frag}{mg:Str->Option Value}{base:Heap}{cls:Str->Addr}{x qual:Str}{st:Stmt}{f:Addr}{fd:FuncData}{N ps:List Str}{k:Nat}{g:Rho->R Fl} (F:Fun K x qual st f fd) (S:q0n N ps (q02 st)) (hm:mg x=some (.ref f)) (hb:q0Y K fd ps [])
  (h:∀ (cdv:Value) (A:Around) (outer:List Env) (s:Shared) (H:Hp) (E:XK),q9Y k (A.deeper (envOfC qual (q02 st) s.heap.objs.size f cdv))->JSs ⟨q1X (CXR P w) P w K mg base N qual (q02 st) f cdv A outer s H E,cls,E⟩ (q0h st) g) :
  Fn P w K mg base cls x (k + 1) ps.length (q34 N.length g):=⟨f,fd,ps,x8t F S h,hm,F.kp,hb⟩
theorem q0Z {X:Cx}:q0z (CXR X.prog X.w) X E0:=fun _ _ _ _ _ _ _ h=>by
 obtain ⟨_,_,_,_,_,_,_,_,_,q⟩:=h
 exact q.elim
end J
end
section
namespace J
open PySem L2
def clear2 (ρ:Rho):Rho:=ρ.map fun s=>match s with
 | .ow2 _=>.no
 | s=>s
section
variable {K:PySem.W.Frag}
theorem Fr.clear2 {H0 Hs0 H Hs:Hp}{la:Nat->Option Addr}{ρ:Rho}{σ:St} (f:Fr K H0 Hs0 la ρ σ H Hs):Fr K H0 Hs0 la (clear2 ρ) σ H Hs/\∀ (j:Nat) (d:List (List D)),¬ (J.clear2 ρ)[j]?=some (Sl.ow2 d):=by
 have un:∀ {j:Nat}{s:Sl},(J.clear2 ρ)[j]?=some s->(∀ d,s≠.ow2 d)/\(ρ[j]?=some s\/s=.no):=fun {j s} e=>by
  unfold J.clear2 at e
  rw [List.getElem?_map] at e
  cases h:ρ[j]? with
  | none=>rw [h] at e;cases e
  | some t =>
   rw [h] at e
   cases t with
   | ow2 d=>cases e;exact ⟨fun _ z=>(by cases z),.inr rfl⟩
   | no=>cases e;exact ⟨fun _ z=>(by cases z),.inl rfl⟩
   | shr d=>cases e;exact ⟨fun _ z=>(by cases z),.inl rfl⟩
   | lck d=>cases e;exact ⟨fun _ z=>(by cases z),.inl rfl⟩
   | own d=>cases e;exact ⟨fun _ z=>(by cases z),.inl rfl⟩
 have is:∀ {j:Nat}{s:Sl},s≠.no->(J.clear2 ρ)[j]?=some s->ρ[j]?=some s:=fun {j s} n e=>(un e).2.resolve_right n
 have no2:∀ (j:Nat) (d:List (List D)),¬ (J.clear2 ρ)[j]?=some (Sl.ow2 d):=fun j d e=>(un e).1 d rfl
 exact ⟨⟨f.st,by simp [J.clear2,f.len],fun j d h=>f.sh j d (is (fun z=>by cases z) h),fun j d h=>f.ow j d (is (fun z=>by cases z) h),fun j d h=>f.lk j d (is (fun z=>by cases z) h),fun j k d e a h1 h2=>f.dj j k d e a (is (fun z=>by cases z) h1) (is (fun z=>by cases z) h2),f.lh,fun j d h=>(no2 j d h).elim,fun j k d e h _=>(no2 j d h).elim⟩,no2⟩
end
def q8Z:List Addr->Hp->Hp
 | [],H=>H
 | a::as,H=>q8Z as (upd H a (.lst []))
section
variable {c:C}{e:Expr}{g gi:Rho->R D}{pos p apos cpos spos:Pos}{x:Str}
theorem w0Q:∀ (as:List Addr) (H:Hp),(∀ a∈as,H a=none)->as.Nodup->q29 H (q8Z as H)
 | [],H,_,_=>.refl H
 | a::as,H,h,nd=>by
  obtain ⟨n1,n2⟩:=List.nodup_cons.mp nd
  refine (q44 (h a List.mem_cons_self)).trans (w0Q as _ (fun b hb=>?_) n2)
  rw [q0j (fun (z:b=a)=>n1 (z ▸ hb))]
  exact h b (List.mem_cons_of_mem _ hb)
theorem w8h:∀ (as:List Addr) (H:Hp),as.Nodup->∀ a∈as,q8Z as H a=some (.lst [])
 | a::as,H,nd,b,hb=>by
  obtain ⟨n1,n2⟩:=List.nodup_cons.mp nd
  show q8Z as (upd H a (.lst [])) b=_
  by_cases hm:b∈as
  ·exact w8h as _ n2 b hm
  ·have e:b=a:=(List.mem_cons.mp hb).resolve_right hm
   subst e
   have:∀ (as:List Addr) (H:Hp),b∉as->q8Z as H b=H b:=by
    intro as
    induction as with
    | nil=>intro H _;rfl
    | cons c as ih =>
     intro H h
     show q8Z as (upd H c (.lst [])) b=_
     rw [ih _ (fun z=>h (List.mem_cons_of_mem _ z)),q0j (fun (z:b=c)=>h (by rw [z];exact List.mem_cons_self))]
   rw [this as _ hm,q0g]
theorem q3R:∀ (as:List Addr) (H:Hp) (b:Addr),q8Z as H b=none->H b=none/\b∉as
 | [],H,b,h=>⟨h,by simp⟩
 | a::as,H,b,h=>by
  obtain ⟨h1,h2⟩:=q3R as (upd H a (.lst [])) b h
  by_cases hb:b=a
  ·subst hb;rw [q0g] at h1;cases h1
  ·rw [q0j hb] at h1
   exact ⟨h1,fun z=>(List.mem_cons.mp z).elim hb h2⟩
def x9D (i:Nat):Rho->R Fl:=fun ρ=>.ok (.nx ((clear2 ρ).set i (.ow2 [[],[],[],[]])))
theorem x8u (i:Nat) {p1 p2 p3 p4:Pos}{pos':Pos} (hN:c.X.N.Nodup) (hi:c.X.N[i]?=some x:=by rfl) (hx:Loc c.X.env.scope x:=by first | exact Or.inl rfl | exact Or.inr rfl)
  (hs:swapsWith (.List [.List [] p1,.List [] p2,.List [] p3,.List [] p4] p) (some (.Name x pos')) spos.line c.X.env=pure false:=by rfl)
  (hf:c.X.fn x=true\/c.X.env.scope.names.lookup x=some .local:=by first | exact .inl rfl | exact .inr rfl | assumption)
  (h1:starEach [.List [] p1,.List [] p2,.List [] p3,.List [] p4] c.X.env=(false,eval (.List [] p1) c.X.env)::starEach [.List [] p2,.List [] p3,.List [] p4] c.X.env:=by rfl)
  (h2:starEach [.List [] p2,.List [] p3,.List [] p4] c.X.env=(false,eval (.List [] p2) c.X.env)::starEach [.List [] p3,.List [] p4] c.X.env:=by rfl)
  (h3:starEach [.List [] p3,.List [] p4] c.X.env=(false,eval (.List [] p3) c.X.env)::starEach [.List [] p4] c.X.env:=by rfl)
  (h4:starEach [.List [] p4] c.X.env=(false,eval (.List [] p4) c.X.env)::starEach [] c.X.env:=by rfl) :
  JS c (.Assign [.Name x pos'] (.List [.List [] p1,.List [] p2,.List [] p3,.List [] p4] p) spos) (x9D i):=.of fun ρ=>by
 refine mPS (x0P hN hi hx (q8z (q2i (q8z q3u) (q2i (q8z q3u) (q2i (q8z q3u) (q2i (q8z q3u) q3u h4) h3) h2) h1)) hs hf) fun D σ H h_0=>?_
 obtain ⟨H0,Hs0,la,Hs,f,q⟩:=h_0
 replace q:w5i c.X.K c.cls c.E H0 Hs0 la D (x9D i ρ):=q
 obtain ⟨f,no2⟩:=f.clear2
 refine ⟨Nat.zero_le _,fun a1 n1=>⟨Nat.zero_le _,fun a2 n2=>⟨Nat.zero_le _,fun a3 n3=>⟨Nat.zero_le _,fun a4 n4=>⟨Nat.le_of_lt (q0P (show 4<=1000 by decide)),fun a n=>?_⟩⟩⟩⟩⟩
 have N:=q3R [a1,a2,a3,a4] H a n
 have N4:=q3R [a1,a2,a3] H a4 n4
 have N3:=q3R [a1,a2] H a3 n3
 have N2:=q3R [a1] H a2 n2
 simp only [List.mem_cons,List.not_mem_nil,or_false,not_or] at N N4 N3 N2
 have nd:[a1,a2,a3,a4].Nodup:=by
  simp only [List.nodup_cons,List.mem_cons,List.not_mem_nil,or_false,not_or,List.nodup_nil,and_true,not_false_eq_true]
  exact ⟨⟨Ne.symm N2.2,Ne.symm N3.2.1,Ne.symm N4.2.1⟩,⟨Ne.symm N3.2.2,Ne.symm N4.2.2.1⟩,Ne.symm N4.2.2.2⟩
 have free:∀ b∈[a1,a2,a3,a4],H b=none:=fun b hb=>by
  simp only [List.mem_cons,List.not_mem_nil,or_false] at hb
  rcases hb with rfl | rfl | rfl | rfl
  ·exact n1
  ·exact N2.1
  ·exact N3.1
  ·exact N4.1
 have nd5:(a::[a1,a2,a3,a4]).Nodup:=List.nodup_cons.mpr ⟨by simp only [List.mem_cons,List.not_mem_nil,or_false,not_or];exact N.2,nd⟩
 have sm:q29 H (q8Z [a1,a2,a3,a4] H):=w0Q _ _ free nd
 have all:q29 H (upd (q8Z [a1,a2,a3,a4] H) a (.lst [.ref a1,.ref a2,.ref a3,.ref a4])):=sm.trans (q44 n)
 have free5:∀ b∈a::[a1,a2,a3,a4],H b=none:=fun b hb=>(List.mem_cons.mp hb).elim (fun z=>z ▸ N.1) (free b)
 have st:q1G H Hs (upd (q8Z [a1,a2,a3,a4] H) a (.lst [.ref a1,.ref a2,.ref a3,.ref a4])) Hs:=⟨all,.refl _,f.st.sub.trans all,fun _ _ _ z=>z⟩
 have f':=f.step st
 have hl:i<σ.length\/¬ i<σ.length:=Decidable.em _
 have nx:∀ {j:Nat}{s:Sl},(∀ d,s≠.ow2 d)->((clear2 ρ).set i (.ow2 [[],[],[],[]]))[j]?=some s->(clear2 ρ)[j]?=some s/\i≠j:=fun {j s} hs e=>by
  by_cases hj:i=j
  ·subst hj
   by_cases hi:i<(clear2 ρ).length
   ·rw [List.getElem?_set_self hi] at e;exact absurd (Option.some.inj e).symm (hs _)
   ·rw [List.getElem?_eq_none (by simpa using hi)] at e;cases e
  ·rw [List.getElem?_set_ne hj] at e;exact ⟨e,hj⟩
 refine q _ _ Hs ⟨f'.st,by simp [f'.len],fun j d h=>?_,fun j d h=>?_,fun j d h=>?_,fun j k d d' b h1 h2 h3 h4=>?_,f'.lh,fun j d h=>?_,fun j k d d' h1 h2=>?_⟩
 ·obtain ⟨h,hj⟩:=nx (fun _ z=>by cases z) h
  rw [List.getElem?_set_ne hj];exact f'.sh j d h
 ·obtain ⟨h,hj⟩:=nx (fun _ z=>by cases z) h
  rw [List.getElem?_set_ne hj];exact f'.ow j d h
 ·obtain ⟨h,hj⟩:=nx (fun _ z=>by cases z) h
  rw [List.getElem?_set_ne hj];exact f'.lk j d h
 ·obtain ⟨h1,hj⟩:=nx (fun _ z=>by cases z) h1
  obtain ⟨h2,hk⟩:=nx (fun _ z=>by cases z) h2
  rw [List.getElem?_set_ne hj] at h3
  rw [List.getElem?_set_ne hk] at h4
  exact f'.dj j k d d' b h1 h2 h3 h4
 ·by_cases hj:i=j
  ·subst hj
   by_cases hi:i<(clear2 ρ).length
   ·rw [List.getElem?_set_self hi] at h
    cases h
    have at4:=w8h [a1,a2,a3,a4] H nd
    have ne:∀ b∈[a1,a2,a3,a4],b≠a:=fun b hb z=>(List.nodup_cons.mp nd5).1 (z ▸ hb)
    have go:∀ b∈[a1,a2,a3,a4],upd (q8Z [a1,a2,a3,a4] H) a (.lst [.ref a1,.ref a2,.ref a3,.ref a4]) b=some (.lst []):=fun b hb=>by rw [q0j (ne b hb)];exact at4 b hb
    refine ⟨a,[a1,a2,a3,a4],List.getElem?_set_self (by rw [<- f'.len];exact hi),q0g,nd5,fun b hb=>⟨f.st.sub.free (free5 b hb),f.st.all.free (free5 b hb)⟩,fun b hb k e hk=>?_,.cons (go _ (by simp)) .nil (.cons (go _ (by simp)) .nil (.cons (go _ (by simp)) .nil (.cons (go _ (by simp)) .nil .nil)))⟩
    obtain ⟨hk,nk⟩:=nx (fun _ z=>by cases z) hk
    rw [List.getElem?_set_ne nk]
    intro z
    obtain ⟨b',o,k1,k2,_⟩:=f.ow k e hk
    rw [z] at k1
    cases k1
    rw [free5 b hb] at k2;cases k2
   ·rw [List.getElem?_eq_none (by simpa using hi)] at h;cases h
  ·rw [List.getElem?_set_ne hj] at h;exact (no2 j d h).elim
 ·by_cases hj:i=j
  ·by_cases hk:i=k
   ·exact hj.symm.trans hk
   ·rw [List.getElem?_set_ne hk] at h2;exact (no2 k d' h2).elim
  ·rw [List.getElem?_set_ne hj] at h1;exact (no2 j d h1).elim
theorem x3U {st:Stmt}{gs:Rho->R Fl} (h:JS c st gs):JS c st (fun ρ=>gs (q1q ρ)):=.of fun ρ=>mPS (h (q1q ρ)) fun D σ H h_1=>by
 obtain ⟨H0,Hs0,la,Hs,f,q⟩:=h_1
 obtain ⟨Hs',f'⟩:=f.shared
 exact ⟨H0,Hs0,la,Hs',f',q⟩
def shareAt (i:Nat) (ρ:Rho):Rho:=match ρ[i]? with
 | some (Sl.own d)=>ρ.set i (.shr d)
 | _=>ρ
theorem Fr.shareAt {K:PySem.W.Frag}{H0 Hs0 H Hs:Hp}{la:Nat->Option Addr}{ρ:Rho}{σ:St} (f:Fr K H0 Hs0 la ρ σ H Hs) (i:Nat):∃ Hs',Fr K H0 Hs0 la (J.shareAt i ρ) σ H Hs':=by
 unfold J.shareAt
 split
 ·rename_i d ho
  obtain ⟨a,o,k1,k2,k3,k4,k5⟩:=f.ow i d ho
  have hil:i<ρ.length:=(List.getElem?_eq_some_iff.mp ho).1
  have up:q29 Hs (upd Hs a o):=q44 k3
  have nx:∀ {j:Nat}{s:Sl},(∀ d,s≠.shr d)->(ρ.set i (.shr d))[j]?=some s->ρ[j]?=some s/\i≠j:=fun {j s} hs e=>by
   by_cases hj:i=j
   ·subst hj
    rw [List.getElem?_set_self hil] at e;exact absurd (Option.some.inj e).symm (hs d)
   ·rw [List.getElem?_set_ne hj] at e;exact ⟨e,hj⟩
  have ne:∀ (j:Nat) (e:D) (b:Addr),i≠j->ρ[j]?=some (Sl.own e)->σ[j]?=some (some (V.ref b))->b≠a:=fun j e b hj h hb z=>by
   subst z
   exact hj (f.dj i j d e b ho h k1 hb)
  refine ⟨upd Hs a o,⟨f.st.all,f.st.sh.trans up,fun b u e=>?_,fun b u e z=>?_⟩,by simp [f.len],fun j e h=>?_,fun j e h=>?_,fun j e h=>?_,fun j k d1 d2 b h1 h2 h3 h4=>?_,f.lh,fun j e h=>?_,fun j k d1 d2 h1 h2=>?_⟩
  ·by_cases hb:b=a
   ·subst hb;rw [q0g] at e;cases e;exact k2
   ·rw [q0j hb] at e;exact f.st.sub b u e
  ·rw [q0j (q0o e k4)];exact f.st.out b u e z
  ·by_cases hj:i=j
   ·subst hj
    rw [List.getElem?_set_self hil] at h
    cases h
    exact ⟨_,k1,k5.share k3⟩
   ·rw [List.getElem?_set_ne hj] at h
    obtain ⟨v,q1,q2⟩:=f.sh j e h
    exact ⟨v,q1,q2.same up⟩
  ·obtain ⟨h,hj⟩:=nx (fun _ z=>by cases z) h
   obtain ⟨b,u,q1,q2,q3,q4,q5⟩:=f.ow j e h
   exact ⟨b,u,q1,q2,by rw [q0j (ne j e b hj h q1)];exact q3,q4,q5.same up⟩
  ·obtain ⟨h,hj⟩:=nx (fun _ z=>by cases z) h
   obtain ⟨b,u,q1,q2,q3,q4,q5,q6⟩:=f.lk j e h
   exact ⟨b,u,q1,q2,q3,by rw [q0j (q0o q5 k4)];exact q4,q5,q6.same up⟩
  ·exact f.dj j k d1 d2 b (nx (fun _ z=>by cases z) h1).1 (nx (fun _ z=>by cases z) h2).1 h3 h4
  ·obtain ⟨h,hj⟩:=nx (fun _ z=>by cases z) h
   obtain ⟨b,as,O⟩:=f.o2 j e h
   refine ⟨b,as,O.at_,O.ob,O.nd,fun c hc=>⟨?_,(O.out c hc).2⟩,fun c hc k e' hk=>O.dj c hc k e' (nx (fun _ z=>by cases z) hk).1,O.inn.step (.refl _) up⟩
   rw [q0j (fun z=>O.dj c hc i d ho (by rw [z];exact k1))]
   exact (O.out c hc).1
  ·exact f.u2 j k d1 d2 (nx (fun _ z=>by cases z) h1).1 (nx (fun _ z=>by cases z) h2).1
 ·exact ⟨Hs,f⟩
theorem w9g (i:Nat) {st:Stmt}{gs:Rho->R Fl} (h:JS c st gs):JS c st (fun ρ=>gs (shareAt i ρ)):=.of fun ρ=>mPS (h (shareAt i ρ)) fun D σ H h_2=>by
 obtain ⟨H0,Hs0,la,Hs,f,q⟩:=h_2
 obtain ⟨Hs',f'⟩:=f.shareAt i
 exact ⟨H0,Hs0,la,Hs',f',q⟩
theorem Inn.get {K:PySem.W.Frag}{H Hs:Hp}{as:List Addr}{dss:List (List D)} (h:Inn K H Hs as dss):∀ {j:Nat}{ds:List D},dss[j]?=some ds->∃ b vs,as[j]?=some b/\H b=some (.lst vs)/\RDs K Hs vs ds:=by
 induction h with
 | nil=>intro j ds e;cases e
 | cons h r t ih =>
  intro j ds e
  cases j with
  | zero=>cases e;exact ⟨_,_,rfl,h,r⟩
  | succ j=>have q:=ih (j:=j) e;exact q
theorem Inn.set {K:PySem.W.Frag}{H Hs:Hp}{vs':List V}{ds':List D} (r':RDs K Hs vs' ds'):∀ {as:List Addr}{dss:List (List D)}{j:Nat}{b:Addr},Inn K H Hs as dss->as[j]?=some b->as.Nodup->Inn K (L2.upd H b (.lst vs')) Hs as (dss.set j ds')
 | _,_,_,_,.nil,h,_=>by simp at h
 | _,_,0,b,.cons h r t,e,nd=>by
  simp at e
  subst e
  exact .cons q0g r' (t.upd (List.nodup_cons.mp nd).1)
 | _,_,j + 1,b,.cons (a:=a) h r t,e,nd=>by
  have e':_:=e
  simp only [List.getElem?_cons_succ] at e'
  obtain ⟨n1,n2⟩:=List.nodup_cons.mp nd
  have hb:b∈_:=List.mem_of_getElem? e'
  exact .cons (by rw [q0j (fun z=>n1 (by rw [z];exact hb))];exact h) r (Inn.set r' t e' n2)
def q6S (i:Nat) (gi g:Rho->R D):Rho->R Fl:=fun ρ=>match ρ[i]? with
 | some (Sl.ow2 dss)=>(gi ρ).bind fun k=>match k with
  | .int j=>if 0<=j then (match dss[j.toNat]? with
   | some ds=>(g ρ).bind fun d=>if ds.length<1000 then .ok (.nx (ρ.set i (.ow2 (dss.set j.toNat (ds++[d]))))) else .no
   | none=>.no) else .no
  | _=>.no
 | _=>.no
variable {ie:Expr}
theorem w0R (i:Nat) (hie:JE c ie gi) (h:JE c e g) (hN:c.X.N[i]?=some x:=by rfl) (hv:Vis c.X.env.scope x:=by first | exact Or.inl rfl | exact Or.inr (Or.inl rfl) | exact Or.inr (Or.inr rfl)) (hd:(x == ("__debug__" : Str))=false:=by decide)
  (hcd:(x == ("__classdict__" : Str))=false:=by decide) {p3:Pos} (hpx:w1n ie:=by exact fun _ _=>rfl)
  (hbase:attributeBase (.Subscript (.Name x p) ie p3) "append" c.X.env (eval (.Subscript (.Name x p) ie p3) c.X.env)=eval (.Subscript (.Name x p) ie p3) c.X.env:=by rfl)
  (hfew:((backTo cpos (starEach [e] c.X.env)).all (fun x=>!x.1) && (backToKw cpos (keywordEach [] c.X.env)).all (fun x=>x.1.isSome)
   && decide ([e].length + ([] : List Keyword).length + (if ([] : List Keyword).isEmpty then 0 else 1)<30))=true:=by rfl)
  (hline:(apos.endLine == cpos.line)=true:=by rfl) (hst:starEach [e] c.X.env=(false,eval e c.X.env)::starEach [] c.X.env:=by rfl) (hplain:(backTo cpos (starEach [] c.X.env)).any (·.1)=false:=by rfl)
  (hs:swapsWith (.Call (.Attribute (.Subscript (.Name x p) ie p3) "append" apos) [e] [] cpos) none pos.line c.X.env=pure false:=by rfl) :
  JS c (.Expr (.Call (.Attribute (.Subscript (.Name x p) ie p3) "append" apos) [e] [] cpos) pos) (q6S i gi g):=.of fun ρ=>by
 refine mPS (w5o (x88 PySem.F.plainAttrs_list PySem.F.slot_list_append PySem.F.type_list_append w3l (x80 q8D (w0E hN hv hd hcd) (hie ρ) hpx) (q2i (h ρ) q3u hst) hbase hfew hline hst hplain) hs) fun D σ H h_3=>?_
 obtain ⟨H0,Hs0,la,Hs,f,q⟩:=h_3
 replace q:w5i c.X.K c.cls c.E H0 Hs0 la D (q6S i gi g ρ):=q
 unfold q6S at q
 split at q
 ·rename_i dss ho
  obtain ⟨a,as,O⟩:=f.o2 i dss ho
  refine ⟨_,O.at_,?_⟩
  refine sE f q fun k v H1 Hs1 e1 s1 f1 r1=>?_
  rw [e1,bind_ok] at q
  cases r1 with
  | int j =>
   simp only at q
   by_cases hj:0<=j
   ·rw [if_pos hj] at q
    split at q
    ·rename_i ds hds
     obtain ⟨b,vs,hb,hH,rv⟩:=O.inn.get hds
     have hix:atI (as.map V.ref) j=some (.ref b):=by
      have:=q8C (xs:=as.map V.ref) (j:=j.toNat) (v:=V.ref b) (by rw [List.getElem?_map,hb];rfl)
      rwa [Int.toNat_of_nonneg hj] at this
     refine ⟨a,_,j,_,rfl,rfl,.of (s1.all _ _ O.ob),hix,.inl ⟨rfl,_,.of (s1.all _ _ hH)⟩,?_⟩
     refine sE f1 q fun d w H2 Hs2 e2 s2 f2 r2=>?_
     rw [e2,bind_ok] at q
     by_cases hl:ds.length<1000
     ·rw [if_pos hl] at q
      have st:=s1.trans s2
      refine ⟨b,vs,w,rfl,rfl,st.all _ _ hH,q0P (by rw [rv.length];omega),?_⟩
      have hil:i<ρ.length:=(List.getElem?_eq_some_iff.mp ho).1
      obtain ⟨a',as',O2'⟩:=f2.o2 i dss ho
      have ea:a'=a:=by
       have:=O2'.at_
       rw [O.at_] at this
       cases this;rfl
      subst ea
      have eas:as'=as:=by
       have h1:=O2'.ob
       rw [st.all _ _ O.ob] at h1
       injection h1 with h1
       injection h1 with h1
       exact (List.map_inj_right (fun x y z=>by cases z;rfl) |>.mp h1).symm
      subst eas
      have hbm:b∈a'::as':=List.mem_cons_of_mem _ (List.mem_of_getElem? hb)
      have nb:b≠a':=fun z=>(List.nodup_cons.mp O.nd).1 (z ▸ List.mem_of_getElem? hb)
      obtain ⟨bs,b0⟩:=O2'.out b hbm
      have nx:∀ {j':Nat}{s:Sl},(∀ d,s≠.ow2 d)->(ρ.set i (.ow2 (dss.set j.toNat (ds++[d]))))[j']?=some s->ρ[j']?=some s/\i≠j':=fun {j' s} hs e=>by
       by_cases hj:i=j'
       ·subst hj
        rw [List.getElem?_set_self hil] at e;exact absurd (Option.some.inj e).symm (hs _)
       ·rw [List.getElem?_set_ne hj] at e;exact ⟨e,hj⟩
      refine q _ _ Hs2 ⟨⟨fun c u e=>?_,f2.st.sh,fun c u e=>?_,f2.st.out⟩,by simp [f2.len],fun j' d' h=>f2.sh j' d' (nx (fun _ z=>by cases z) h).1,fun j' d' h=>?_,fun j' d' h=>?_,fun j' k' d' e' a h1 h2=>f2.dj j' k' d' e' a (nx (fun _ z=>by cases z) h1).1 (nx (fun _ z=>by cases z) h2).1,f2.lh,fun j' d' h=>?_,fun j' k' d' e' h1 h2=>?_⟩
      ·rw [q0j (q0o e b0)];exact f2.st.all c u e
      ·rw [q0j (q0o e bs)];exact f2.st.sub c u e
      ·obtain ⟨h,_⟩:=nx (fun _ z=>by cases z) h
       obtain ⟨c',u,k1,k2,k3,k4,k5⟩:=f2.ow j' d' h
       refine ⟨c',u,k1,?_,k3,k4,k5⟩
       rw [q0j (fun z=>O2'.dj b hbm j' d' h (by rw [<- z];exact k1))]
       exact k2
      ·obtain ⟨h,_⟩:=nx (fun _ z=>by cases z) h
       obtain ⟨c',u,k1,k2,k3,k4,k5,k6⟩:=f2.lk j' d' h
       refine ⟨c',u,k1,k2,?_,k4,k5,k6⟩
       rw [q0j (q0o k5 b0)]
       exact k3
      ·by_cases hj':i=j'
       ·subst hj'
        rw [List.getElem?_set_self hil] at h
        cases h
        refine ⟨a',as',O2'.at_,by rw [q0j (Ne.symm nb)];exact O2'.ob,O2'.nd,O2'.out,fun c hc k e' hk=>O2'.dj c hc k e' (nx (fun _ z=>by cases z) hk).1,?_⟩
        exact Inn.set ((rv.same st.sh).append (.cons r2 .nil)) O2'.inn hb (List.nodup_cons.mp O2'.nd).2
       ·rw [List.getElem?_set_ne hj'] at h
        exact (hj' (f2.u2 i j' _ _ ho h)).elim
      ·by_cases hj':i=j'
       ·by_cases hk':i=k'
        ·exact hj'.symm.trans hk'
        ·rw [List.getElem?_set_ne hk'] at h2
         exact (hk' (f2.u2 i k' _ _ ho h2)).elim
       ·rw [List.getElem?_set_ne hj'] at h1
        exact (hj' (f2.u2 i j' _ _ ho h1)).elim
     ·rw [if_neg hl] at q;exact q.elim
    ·exact q.elim
   ·rw [if_neg hj] at q;exact q.elim
  | none=>exact q.elim
  | bool _=>exact q.elim
  | str _=>exact q.elim
  | list _ _=>exact q.elim
  | tuple _ _=>exact q.elim
  | dictK _ _=>exact q.elim
  | dictT _ _ _=>exact q.elim
 ·exact q.elim
end
end J
end
section
namespace J
open PySem L2
open PyProof.Rows (OwnCls)
section
variable {X:Cx}
end
section
variable {c:C}{e:Expr}{g:Rho->R D}{pos p apos cpos:Pos}{x:Str}
end
structure Er (mg:Str->Option Value) (base:Heap) (cls:Str->Addr) (x:Str):Prop where
 ex:∃ bmB newId initId Bn,OwnCls x (cls x) bmB newId mg base/\ExcBaseFacts Bn newId initId bmB
def w0S (x:Str) (gs:Rho->R (List D)):Rho->R Fl:=fun ρ=>(gs ρ).bind fun ds=>if ds.length<=1000 then .ex x none else .no
section
variable {P:Program}{w:World}{K:PySem.W.Frag}{mg:Str->Option Value}{base:Heap}{N:List Str}{qual:Str}{scope:Scope}{f:Addr}{cd:Value}{A:Around}{outer:List Env}{s:Shared}{H:Hp}{E:XK}{cls:Str->Addr}
theorem w1N {x:Str}{np cpos pos:Pos}{e0:Expr}{q0I:List Expr}{gs:Rho->R (List D)} (R0:Er mg base cls x)
  (hg:Gl (q1X (CXR P w) P w K mg base N qual scope f cd A outer s H E) x) (ha:JAs ⟨q1X (CXR P w) P w K mg base N qual scope f cd A outer s H E,cls,E⟩ (e0::q0I) gs)
  (he:starEach (e0::q0I) (q1X (CXR P w) P w K mg base N qual scope f cd A outer s H E).env=(false,eval e0 (q1X (CXR P w) P w K mg base N qual scope f cd A outer s H E).env)::starEach q0I (q1X (CXR P w) P w K mg base N qual scope f cd A outer s H E).env:=by rfl)
  (hdb:(x == ("__debug__" : Str))=false:=by decide) (hpl:(backTo cpos (starEach q0I (q1X (CXR P w) P w K mg base N qual scope f cd A outer s H E).env)).any (·.1)=false:=by rfl) :
  JS ⟨q1X (CXR P w) P w K mg base N qual scope f cd A outer s H E,cls,E⟩ (.Raise (some (.Call (.Name x np) (e0::q0I) [] cpos)) none pos) (w0S x gs):=.of fun ρ=>by
 obtain ⟨bmB,newId,initId,Bn,O,FB⟩:=R0.ex
 refine mPS (x3K O FB hg (ha ρ) he hdb hpl) fun D σ H1 h_1=>?_
 obtain ⟨H0,Hs0,la,Hs,f,q⟩:=h_1
 replace q:w5i K cls E H0 Hs0 la D (w0S x gs ρ):=q
 refine ⟨H0,Hs0,la,Hs,f,?_⟩
 unfold w0S at q
 cases hr:gs ρ with
 | no=>rw [hr] at q;exact q
 | ex y n=>rw [hr] at q;exact fun H' Hs' s=>q H' Hs' (f.st.trans s)
 | ok ds =>
  rw [hr,bind_ok] at q
  intro vs H2 Hs2 s2 r2
  by_cases hl:ds.length<=1000
  ·rw [if_pos hl] at q
   exact ⟨Nat.le_of_lt (q0P (by rw [r2.length];exact hl)),q H2 Hs2 (f.st.trans s2)⟩
  ·rw [if_neg hl] at q;exact q.elim
end
end J
end
section
namespace J
open PySem L2
structure Bi (mg:Str->Option Value):Prop where
 len:mg "len"=none
 isinstance:mg "isinstance"=none
 all:mg "all"=none
 any:mg "any"=none
 zip:mg "zip"=none
 tuple:mg "tuple"=none
 list:mg "list"=none
 sorted:mg "sorted"=none
 set:mg "set"=none
 range:mg "range"=none
 enumerate:mg "enumerate"=none
 dict:mg "dict"=none
 sum:mg "sum"=none
 max:mg "max"=none
 min:mg "min"=none
 reversed:mg "reversed"=none
 str:mg "str"=none
 int:mg "int"=none
 bool:mg "bool"=none
end J
end
section
namespace J
open PySem L2
def bits (j:Nat):List Bool:=[decide (0=j),decide (1=j),decide (2=j),decide (3=j),decide (4=j),decide (5=j),decide (6=j),decide (7=j),decide (8=j),decide (9=j),decide (10=j)]
section
variable {X:Cx}{cls:Str->Addr}{names:List Str}{base:Heap}
end
end J
end
section
namespace J
open PySem L2
section
variable {c:C}{body:List Stmt}{x n:Str}{np np2 np3 hpos cpos rpos pos:Pos}{gb:Rho->R Fl}{names:List Str}{wh:Str->Option Nat}
end
end J
namespace L2
open PySem
end L2
end
section
namespace J
open PySem L2
open PyProof.Rows (OwnCls)
abbrev w1O:List Value:=[.type "ValueError",.type "Exception",.type "BaseException",.type "object"]
theorem x8v {K:PySem.W.Frag}{h:Heap}{mg:Str->Option Value}{x:Str}{C:Addr}{bmB:List Value}{newId:String} (X:K.In h) (G:h.Ns mainGlobals mg) (e:PySem.W.nsIn K mainGlobals x=some (some (.ref C))) (q:PySem.W.excIn K C bmB newId=true) (m1:PySem.W.mroIn K C (.type "BaseException")=some true) :
  OwnCls x C bmB newId mg h/\∃ bm,y1P h C bm/\∀ v,(v == Value.ref C)=false->PySem.W.mroIn K C v=some true->bm.contains v=true:=by
 have hmg:=PySem.W.mg_of X G e
 unfold PySem.W.excIn at q
 split at q
 ·rename_i dd cd sl look
  split at q
  ·rename_i C' bm k0 k1 k2 k3 n k5 hmro hslots
   simp only [Bool.and_eq_true,beq_iff_eq,Bool.not_eq_true'] at q
   obtain ⟨⟨⟨⟨⟨rfl,rfl⟩,nodel⟩,tl⟩,nsok⟩,noinit⟩:=q
   have slots:sl=#[k0,k1,k2,k3,some (.builtin n),k5]:=by
    cases sl with | mk l=>simp only at hslots;rw [hslots]
   have inMro:∀ v,PySem.W.mroIn K C' v=some true->cd.mro.contains v=true:=fun v hv=>by
    unfold PySem.W.mroIn PySem.W.clsIn at hv
    rw [look] at hv
    simp only [Option.bind_some] at hv
    split at hv
    ·cases hv
    ·exact Option.some.inj hv
   have q0I:∀ v,(v == Value.ref C')=false->PySem.W.mroIn K C' v=some true->bm.contains v=true:=fun v nv hv=>by
    have:=inMro v hv
    rw [hmro,List.contains_cons,nv,Bool.false_or] at this
    exact this
   obtain ⟨nm,bs,mro,ns,qn,hd,sn,sub,ab,col,del⟩:=cd
   dsimp only at hmro nodel nsok noinit
   subst hmro nodel slots
   have at_:=X _ _ look
   exact ⟨⟨hmg,bm,ns,nm,qn,bs,hd,sn,sub,ab,col,dd,k0,k1,k2,k3,k5,_,at_,.of_isNs (PySem.W.isNs_of_in X nsok),PySem.W.nsMap_none_of_in X nsok noinit,PySem.W.tail_of_in X tl⟩,
    bm,⟨⟨nm,qn,ns,bs,hd,sn,sub,ab,col,dd,k0,k1,k2,k3,k5,n,at_⟩,q0I _ rfl m1⟩,q0I⟩
  ·cases q
 ·cases q
structure x8w (K:PySem.W.Frag) (x:Str) (C:Addr):Prop where
 ns:PySem.W.nsIn K mainGlobals x=some (some (.ref C))
 ex:PySem.W.excIn K C w1O "ValueError.__new__"=true
 mb:PySem.W.mroIn K C (.type "BaseException")=some true
theorem x8w.er {K:PySem.W.Frag}{h:Heap}{mg:Str->Option Value}{cls:Str->Addr}{x:Str}{C:Addr} (T:x8w K x C) (X:K.In h) (G:h.Ns mainGlobals mg) (hc:cls x=C):Er mg h cls x:=by
 subst hc
 exact ⟨_,_,_,_,(x8v X G T.ns T.ex T.mb).1,PySem.F.excBase_ValueError⟩
inductive y14 (K:PySem.W.Frag) (F:List D->R D) (vs:List V) (H:Hp) (Q:VK) (z_3:XK):Prop
 | mk (Hs ds d:_) (h0:q29 Hs H) (h1:ds.length=1) (h2:RDs K Hs vs ds) (h3:F ds=.ok d) (h4:∀ v H' Hs',q1G H Hs H' Hs'->RD K Hs' v d->Q v H'):y14 K F vs H Q z_3
def spO (K:PySem.W.Frag) (F:List D->R D):Sp:=y14 K F
theorem x8x {K:PySem.W.Frag}{cls:Str->Addr}{F:List D->R D}:∀ vs H Q E,spO K F vs H Q E->spF K cls 1 F vs H Q E:=fun vs H Q E ⟨Hs,ds,d,s,l,r,e,q⟩=>⟨Hs,ds,s,l,r,by rw [e];exact q⟩
def y0o (l:List (Str×Addr)):Str->Addr:=fun x=>(l.lookup x).getD 0
theorem sp_law {K:PySem.W.Frag}{F:List D->R D}{H:Hp}{a:Addr}{ns:List Int} (hF:F [.list (ns.map .int)]=.ok (.bool true)) (h:SqL K H a (ns.map V.int)):spO K F [.ref a] H (fun v _=>v=.bl true) fun _ _ _=>False:=by
 have ri:∀ ns:List Int,RDs K H (ns.map V.int) (ns.map .int):=fun ns=>by
  induction ns with
  | nil=>exact .nil
  | cons x r ih=>exact .cons (.int x) ih
 refine ⟨H,[.list (ns.map .int)],.bool true,.refl H,rfl,.cons (.list h (ri ns)) .nil,hF,?_⟩
 intro v H' Hs' _ r
 cases r
 rfl
theorem x8y {P:Program}{w:World}{H:Hp}{s:Shared}{e:Value}{s':Shared} (h:CXR P w [] H s (fun _ _ _=>False) e s'):False:=by
 obtain ⟨_,_,_,_,_,_,_,_,_,q⟩:=h
 exact q
theorem y0p {l:PySem.W.OpenLaw}{k:Nat}{q:Program}{loose:List Str}{XP:(Str->Option Value)->Heap->Prop}{YP:World->Heap->Prop}{d:DefRec}{K:Params->PySem.W.Frag}{x:Str}{F0:List D->R D}
  (hn:l.most=some 63) (hdf:d.params.defaults=[]) (hr:q9Y k callerA) (hY:∀ (w:World) (h:Heap),YP w h->(K w.params).In h)
  (F:∀ (w:World) (mg:Str->Option Value) (fa:Addr) (h:Heap),(K w.params).In h->h.Ns mainGlobals mg->mg d.name=some (.ref fa) ->
   ∃ fd:FuncData,(∀ (s:Shared) (u:Value),BindsTo s fd ⟨[u],[]⟩ [(x,u)])/\∀ base:Heap,(K w.params).In base->base.Ns mainGlobals mg->w90 l.prog w (K w.params) mg base (CXR l.prog w) k fa fd [x] (spO (K w.params) F0))
  (hF:∀ ns:List Int,ns.length<=63->F0 [.list (ns.map .int)]=.ok (.bool true)) :
  PySem.W.WalkO q loose XP YP l.row.toRowW d [] (fun f vs=>PySem.call f vs) :=
 L2.x14 (n:=63) (k:=k) (x:=x) (CX:=fun w=>CXR l.prog w) (sp:=fun w=>spO (K w.params) F0) hn (by decide) hdf hr hY F (fun w H a ns hl _ hS=>sp_law (hF ns hl) hS) fun _ _ _ _ _ h=>x8y h
def gAt (i:Nat) (g:Rho->R Fl):Rho->R Fl:=fun ρ=>g (shareAt i ρ)
theorem w8i {c:C} (i:Nat) {st:Stmt}{gs:Rho->R Fl} (h:JS c st gs):JS c st (gAt i gs):=w9g i h
end J
end
section
namespace J
open PySem L2
section
variable {s:Sl}{ρ:Rho}{d x y:D}{ds:List D}
theorem x3h {α β:Type} (a:α) (f:α->R β):(R.ok a).bind f=f a:=id rfl
def x7t (h:Rho->R Fl):Fl->R Fl:=fun fl=>match fl with
 | .nx ρ'=>h ρ'
 | fl=>.ok fl
theorem w1P (g h:Rho->R Fl):q0d g h (s::ρ)=(g (s::ρ)).bind (x7t h):=id rfl
theorem q8n (h:Rho->R Fl) (ρ:Rho):x7t h (.nx ρ)=h ρ:=id rfl
theorem w8j (h:Rho->R Fl) (d:D):x7t h (.rt d)=.ok (.rt d):=id rfl
def ifK (g h:Rho->R Fl) (ρ:Rho):Bool->R Fl:=fun b=>bif b then g ρ else h ρ
theorem y15 (t:Rho->R Bool) (g h:Rho->R Fl):q2l t g h (s::ρ)=(t (s::ρ)).bind (ifK g h (s::ρ)):=by
 show (t (s::ρ)).bind _=_
 congr 1
 funext b
 cases b<;>rfl
theorem x5b (g h:Rho->R Fl) (ρ:Rho):ifK g h ρ false=h ρ:=id rfl
theorem x3V (g h:Rho->R Fl) (ρ:Rho) (b:Bool):ifK g h ρ b=bif b then g ρ else h ρ:=id rfl
def rtK:D->R Fl:=fun d=>.ok (.rt d)
theorem x8z (g:Rho->R D):q1k g (s::ρ)=(g (q1q (s::ρ))).bind rtK:=id rfl
theorem y16 (d:D):rtK d=.ok (.rt d):=id rfl
def w3F:Sl->Sl
 | .own d=>.shr d
 | .ow2 dss=>.shr (.list (dss.map .list))
 | s=>s
theorem x1J:q1q (s::ρ)=w3F s::q1q ρ:=by cases s<;>rfl
theorem w8k:q1q []=[]:=id rfl
theorem x1K:w3F .no=.no:=id rfl
theorem w8l (d:D):w3F (.shr d)=.shr d:=id rfl
theorem w8m (d:D):w3F (.own d)=.shr d:=id rfl
theorem w8n (d:List (List D)):w3F (.ow2 d)=.shr (.list (d.map .list)):=id rfl
def y17 (i:Nat) (ρ:Rho):D->R Fl:=fun d=>.ok (.nx (ρ.set i (.shr d)))
theorem x3W (i:Nat) (g:Rho->R D):q2R i g (s::ρ)=(g (s::ρ)).bind (y17 i (s::ρ)):=id rfl
theorem x5c (i:Nat) (ρ:Rho) (d:D):y17 i ρ d=.ok (.nx (ρ.set i (.shr d))):=id rfl
def x8A (i:Nat) (ρ:Rho):D->R Fl:=fun d=>.ok (.nx (ρ.set i (.own d)))
theorem x5d (i:Nat) (g:Rho->R D):q2A i g (s::ρ)=(g (s::ρ)).bind (x8A i (s::ρ)):=id rfl
theorem x1L (i:Nat) (ρ:Rho) (d:D):x8A i ρ d=.ok (.nx (ρ.set i (.own d))):=id rfl
def x6k (ρ:Rho):D->R Fl:=fun _=>.ok (.nx ρ)
theorem x5e (g:Rho->R D):w03 g (s::ρ)=(g (s::ρ)).bind (J.x6k (s::ρ)):=id rfl
theorem x1M (ρ:Rho) (d:D):J.x6k ρ d=.ok (.nx ρ):=id rfl
def g2K (gb:Rho->R D) (h:D->D->R D) (ρ:Rho):D->R D:=fun x=>(gb ρ).bind (h x)
theorem y0q (ga gb:Rho->R D) (h:D->D->R D):g2 ga gb h (s::ρ)=(ga (s::ρ)).bind (g2K gb h (s::ρ)):=id rfl
theorem x6M (gb:Rho->R D) (h:D->D->R D) (ρ:Rho) (x:D):g2K gb h ρ x=(gb ρ).bind (h x):=id rfl
def x8B:D->R Bool:=fun d=>match d with
 | .bool b=>.ok b
 | _=>.no
theorem x8C (g:Rho->R D):asB g (s::ρ)=(g (s::ρ)).bind x8B:=id rfl
theorem x5f (b:Bool):x8B (.bool b)=.ok b:=id rfl
def y18:Bool->R Bool:=fun b=>.ok (!b)
theorem x8D (g:Rho->R Bool):q5v g (s::ρ)=(g (s::ρ)).bind y18:=id rfl
theorem x5g (b:Bool):y18 b=.ok (!b):=id rfl
def y19 (h:Rho->R Bool) (ρ:Rho):Bool->R Bool:=fun b=>bif b then h ρ else .ok false
def orK (h:Rho->R Bool) (ρ:Rho):Bool->R Bool:=fun b=>bif b then .ok true else h ρ
theorem x8E (g h:Rho->R Bool):x1n g h (s::ρ)=(g (s::ρ)).bind (y19 h (s::ρ)):=by
 show (g (s::ρ)).bind _=_
 congr 1;funext b;cases b<;>rfl
theorem y1a (g h:Rho->R Bool):gOr g h (s::ρ)=(g (s::ρ)).bind (orK h (s::ρ)):=by
 show (g (s::ρ)).bind _=_
 congr 1;funext b;cases b<;>rfl
theorem x5h (h:Rho->R Bool) (ρ:Rho) (b:Bool):y19 h ρ b=bif b then h ρ else .ok false:=id rfl
theorem x8F (h:Rho->R Bool) (ρ:Rho) (b:Bool):orK h ρ b=bif b then .ok true else h ρ:=id rfl
def x8G:Bool->R D:=fun b=>.ok (.bool (!b))
theorem x5i (g:Rho->R D):w9a g (s::ρ)=((g (s::ρ)).bind x8B).bind x8G:=id rfl
theorem x1N (b:Bool):x8G b=.ok (.bool (!b)):=id rfl
def x8H (h:Rho->R D) (ρ:Rho):Bool->R D:=fun b=>bif b then h ρ else .ok (.bool false)
def y1b (h:Rho->R D) (ρ:Rho):Bool->R D:=fun b=>bif b then .ok (.bool true) else h ρ
theorem x5j (g h:Rho->R D):q6N g h (s::ρ)=((g (s::ρ)).bind x8B).bind (x8H h (s::ρ)):=by
 show (asB g (s::ρ)).bind _=(asB g (s::ρ)).bind _
 congr 1;funext b;cases b<;>rfl
theorem x8I (g h:Rho->R D):x8k g h (s::ρ)=((g (s::ρ)).bind x8B).bind (y1b h (s::ρ)):=by
 show (asB g (s::ρ)).bind _=(asB g (s::ρ)).bind _
 congr 1;funext b;cases b<;>rfl
theorem x1O (h:Rho->R D) (ρ:Rho) (b:Bool):x8H h ρ b=bif b then h ρ else .ok (.bool false):=id rfl
theorem x5k (h:Rho->R D) (ρ:Rho) (b:Bool):y1b h ρ b=bif b then .ok (.bool true) else h ρ:=id rfl
def y1c (gb gc:Rho->R D) (h h':D->D->R D) (ρ:Rho):D->R D:=fun x=>(gb ρ).bind fun y=>(h x y).bind fun z=>match z with
 | .bool true=>(gc ρ).bind fun w=>h' y w
 | .bool false=>.ok (.bool false)
 | _=>.no
def y1d (gc:Rho->R D) (h h':D->D->R D) (ρ:Rho) (x:D):D->R D:=fun y=>(h x y).bind fun z=>match z with
 | .bool true=>(gc ρ).bind fun w=>h' y w
 | .bool false=>.ok (.bool false)
 | _=>.no
def y1e (gc:Rho->R D) (h':D->D->R D) (ρ:Rho) (y:D):D->R D:=fun z=>match z with
 | .bool true=>(gc ρ).bind (h' y)
 | .bool false=>.ok (.bool false)
 | _=>.no
theorem x1P (ga gb gc:Rho->R D) (h h':D->D->R D):q7I ga gb gc h h' (s::ρ)=(ga (s::ρ)).bind (y1c gb gc h h' (s::ρ)):=id rfl
theorem x5l (gb gc:Rho->R D) (h h':D->D->R D) (ρ:Rho) (x:D):y1c gb gc h h' ρ x=(gb ρ).bind (y1d gc h h' ρ x):=id rfl
theorem x5m (gc:Rho->R D) (h h':D->D->R D) (ρ:Rho) (x y:D):y1d gc h h' ρ x y=(h x y).bind (y1e gc h' ρ y):=id rfl
theorem x5n (gc:Rho->R D) (h':D->D->R D) (ρ:Rho) (y:D) (b:Bool):y1e gc h' ρ y (.bool b)=bif b then (gc ρ).bind (h' y) else .ok (.bool false):=by cases b<;>rfl
def x5o (gs:Rho->R (List D)) (ρ:Rho):D->R (List D):=fun d=>(gs ρ).bind fun ds=>.ok (d::ds)
def x5p (d:D):List D->R (List D):=fun ds=>.ok (d::ds)
theorem x5q (g:Rho->R D) (gs:Rho->R (List D)):J.q01 g gs (s::ρ)=(g (s::ρ)).bind (x5o gs (s::ρ)):=id rfl
theorem w8o (gs:Rho->R (List D)) (ρ:Rho) (d:D):x5o gs ρ d=(gs ρ).bind (x5p d):=id rfl
theorem w8p (d:D) (ds:List D):x5p d ds=.ok (d::ds):=id rfl
theorem x8J (ρ:Rho):J.q0e ρ=.ok []:=id rfl
def x8K (k:List D->D):List D->R D:=fun ds=>if ds.length<=1000 then .ok (k ds) else .no
theorem x5r (gs:Rho->R (List D)) (k:List D->D):q39 gs k (s::ρ)=(gs (s::ρ)).bind (x8K k):=id rfl
theorem x1Q (k:List D->D) (ds:List D):x8K k ds=if ds.length<=1000 then .ok (k ds) else .no:=id rfl
theorem x5s (gs:Rho->R (List D)) (h:List D->R D):q0O gs h (s::ρ)=(gs (s::ρ)).bind h:=id rfl
def fnK (n:Nat) (F:List D->R D):List D->R D:=fun ds=>if ds.length=n then F ds else .no
theorem y1f (n:Nat) (F:List D->R D) (gs:Rho->R (List D)):gFn n F gs (s::ρ)=(gs (s::ρ)).bind (fnK n F):=id rfl
theorem x8L (n:Nat) (F:List D->R D) (ds:List D):fnK n F ds=if ds.length=n then F ds else .no:=id rfl
theorem x8M (h:D->R D) (d:D):on1 h [d]=h d:=id rfl
theorem x5t (d:D) (ρ:Rho):rdS (.shr d::ρ) 0=.ok d:=id rfl
theorem x8N (s:Sl) (ρ:Rho) (n:Nat):rdS (s::ρ) (n + 1)=rdS ρ n:=by simp [rdS]
theorem x5u (d:D) (ρ:Rho):rdB (.shr d::ρ) 0=.ok d:=id rfl
theorem x5v (d:D) (ρ:Rho):rdB (.own d::ρ) 0=.ok d:=id rfl
theorem x5w (d:D) (ρ:Rho):rdB (.lck d::ρ) 0=.ok d:=id rfl
theorem x8O (s:Sl) (ρ:Rho) (n:Nat):rdB (s::ρ) (n + 1)=rdB ρ n:=by simp [rdB]
def y1g (T:String):D->R D:=fun d=>if noD d then .ok (.bool (x1x T d)) else .no
theorem x8P (g:Rho->R D) (T:String):w86 g T (s::ρ)=(g (s::ρ)).bind (y1g T):=id rfl
theorem x5x (T:String) (d:D):y1g T d=if noD d then .ok (.bool (x1x T d)) else .no:=id rfl
def y1h (gl gh:Rho->R (Option Int)) (ρ:Rho):D->R D:=fun x=>(gl ρ).bind fun l=>(gh ρ).bind fun h=>slD x l h
def y1i (gh:Rho->R (Option Int)) (ρ:Rho) (x:D):Option Int->R D:=fun l=>(gh ρ).bind fun h=>slD x l h
theorem y1j (g:Rho->R D) (gl gh:Rho->R (Option Int)):gSl g gl gh (s::ρ)=(g (s::ρ)).bind (y1h gl gh (s::ρ)):=id rfl
theorem x5y (gl gh:Rho->R (Option Int)) (ρ:Rho) (x:D):y1h gl gh ρ x=(gl ρ).bind (y1i gh ρ x):=id rfl
theorem x5z (gh:Rho->R (Option Int)) (ρ:Rho) (x:D) (l:Option Int):y1i gh ρ x l=(gh ρ).bind (slD x l):=id rfl
theorem x8Q (ρ:Rho):goN ρ=.ok none:=id rfl
def y1k:D->R (Option Int):=fun d=>match d with
 | .int i=>.ok (some i)
 | _=>.no
theorem x8R (g:Rho->R D):goS g (s::ρ)=(g (s::ρ)).bind y1k:=id rfl
theorem x5A (i:Int):y1k (.int i)=.ok (some i):=id rfl
theorem x9E (g:Rho->R D):gIt g (s::ρ)=(g (s::ρ)).bind w3B:=id rfl
theorem x5B (gs:Rho->R (List D)):w1D gs (s::ρ)=(gs (s::ρ)).bind x6I:=id rfl
theorem x8S (gs:Rho->R (List D)):x6J gs (s::ρ)=(gs (s::ρ)).bind enm:=id rfl
theorem x8T (gs:Rho->R (List D)):x9C gs (s::ρ)=(gs (s::ρ)).bind zp:=id rfl
def x8U (nt:Nat) (ix:List Nat) (gt:Rho->R Bool) (ge:Rho->R D) (ρ:Rho):List D->R D:=fun ds=>if ds.length<=1000 then (q30 (q3H nt (w0M nt ix ρ) gt ge) ds).bind fun ys=>.ok (.list ys) else .no
def x8V:List D->R D:=fun ys=>.ok (.list ys)
theorem x1R (nt:Nat) (ix:List Nat) (gi:Rho->R (List D)) (gt:Rho->R Bool) (ge:Rho->R D):q1T nt ix gi gt ge (s::ρ)=(gi (s::ρ)).bind (x8U nt ix gt ge (s::ρ)):=id rfl
theorem x1S (nt:Nat) (ix:List Nat) (gt:Rho->R Bool) (ge:Rho->R D) (ρ:Rho) (ds:List D):x8U nt ix gt ge ρ ds=if ds.length<=1000 then (q30 (q3H nt (w0M nt ix ρ) gt ge) ds).bind x8V else .no:=id rfl
theorem x1T (ys:List D):x8V ys=.ok (.list ys):=id rfl
theorem q85 (gi:Rho->R (List D)) (kt:D->Rho->R Rho) (gb:Rho->R Fl) (ds:List D) (h:gi (s::ρ)=.ok ds):w1H gi kt gb (s::ρ)=q54 kt gb ds (s::ρ):=by unfold w1H;rw [h]
def x6N (k:D->Rho->R Rho) (ρ:Rho):D->R Fl:=fun d=>match k d ρ with
 | .ok ρ'=>.ok (.nx ρ')
 | _=>.no
theorem x8W (g:Rho->R D) (k:D->Rho->R Rho):w9f g k (s::ρ)=(g (s::ρ)).bind (x6N k (s::ρ)):=id rfl
theorem w3G (ds:List D):w3B (.list ds)=.ok ds:=id rfl
theorem w3H (ds:List D):w3B (.tuple ds)=.ok ds:=id rfl
theorem w3I (x:Str):w3B (.str x)=.ok (q5n x):=id rfl
theorem x5C (ds:List D):enm [.tuple ds]=.ok (q3F 0 ds):=id rfl
theorem y1l (ds es:List D):zp [.tuple ds,.tuple es]=.ok (x0J ds es):=id rfl
def w9h (ρ:Rho) (i:Nat):Sl:=see ((ρ[i]?).getD .no)
def x8X (ix:List Nat) (ρ:Rho):Rho:=ix.map (w9h ρ)
theorem x5D (ix:List Nat) (ρ:Rho):w0M 1 ix ρ=.no::x8X ix ρ:=id rfl
theorem x5E (ix:List Nat) (ρ:Rho):w0M 2 ix ρ=.no::.no::x8X ix ρ:=id rfl
theorem x5F (ρ:Rho):x8X [] ρ=[]:=id rfl
theorem x5G (i:Nat) (ix:List Nat) (ρ:Rho):x8X (i::ix) ρ=w9h ρ i::x8X ix ρ:=id rfl
theorem x5H (s:Sl) (ρ:Rho):w9h (s::ρ) 0=see s:=id rfl
theorem x5I (s:Sl) (ρ:Rho) (n:Nat):w9h (s::ρ) (n + 1)=w9h ρ n:=by simp [w9h]
theorem w3J (d:D):see (.shr d)=.shr d:=id rfl
theorem w3K (d:D):see (.own d)=.lck d:=id rfl
theorem x5J {i:Nat}{ρ:Rho}{d:D} (h:ρ[i]?=some (Sl.own d)):shareAt i ρ=ρ.set i (.shr d):=by unfold shareAt;rw [h]
theorem q0L {α:Type} (f:D->R (Option D)) (c:α->D) (h:α->D):∀ (xs:List α),(∀ x∈xs,f (c x)=.ok (some (h x)))->q30 f (xs.map c)=.ok (xs.map h)
 | [],_=>rfl
 | x::r,e=>by
  rw [List.map_cons,List.map_cons]
  unfold q30
  rw [e x List.mem_cons_self,bind_ok,q0L f c h r fun y hy=>e y (List.mem_cons_of_mem _ hy),bind_ok]
theorem q2T {α:Type} (f:D->R (Option D)) (c:α->D) (h:α->D) (p:α->Bool):∀ (xs:List α),(∀ x∈xs,f (c x)=.ok (if p x then some (h x) else none))->q30 f (xs.map c)=.ok ((xs.filter p).map h)
 | [],_=>rfl
 | x::r,e=>by
  rw [List.map_cons]
  unfold q30
  rw [e x List.mem_cons_self,bind_ok,q2T f c h p r fun y hy=>e y (List.mem_cons_of_mem _ hy),bind_ok]
  cases hp:p x<;>simp [hp]
theorem x8Y {ρ:Rho}{gt:Rho->R Bool}{ge:Rho->R D}{d:D}:q3H 1 ρ gt ge d=x7r (((gt (ρ.set 0 (.shr d)))).bind fun b=>if b then (ge (ρ.set 0 (.shr d))).bind fun y=>.ok (some y) else .ok none):=id rfl
theorem q1h {ρ:Rho}{gt:Rho->R Bool}{ge:Rho->R D}{d y:D} (h1:gt (ρ.set 0 (.shr d))=.ok true) (h2:ge (ρ.set 0 (.shr d))=.ok y):q3H 1 ρ gt ge d=.ok (some y):=by
 rw [x8Y,h1,bind_ok,if_pos rfl,h2];rfl
theorem w1Q {ρ:Rho}{gt:Rho->R Bool}{ge:Rho->R D}{d y:D}{b:Bool} (h1:gt (ρ.set 0 (.shr d))=.ok b) (h2:b=true->ge (ρ.set 0 (.shr d))=.ok y):q3H 1 ρ gt ge d=.ok (if b then some y else none):=by
 rw [x8Y,h1,bind_ok]
 cases b with
 | true=>rw [if_pos rfl,h2 rfl];rfl
 | false=>rfl
theorem x6O {j:Int} (h1:-(2 ^ 62)<=j) (h2:j<2 ^ 62):x6I [.int j]=.ok (q7K 0 j.toNat):=by
 have h:-(2 ^ 62)<=j/\j<2 ^ 62:=⟨h1,h2⟩
 unfold x6I
 split
 ·rename_i j' e
  have e':j=j':=by injection e with e;injection e
  subst e'
  rw [if_pos h]
 ·rename_i hn
  exact (hn j rfl).elim
end
end J
end
section
namespace L2
open PySem PySem.Spec PyProof.Rows
end L2
namespace J
open PySem L2
open PyProof.Rows (envOfC)
section
variable {c:C}{e a b:Expr}{g ga gb:Rho->R D}{pos rpos:Pos}{es:List Expr}{gs:Rho->R (List D)}{x y:Str}{p q:Pos}
end
section
variable {c:C}{body:List Stmt}{x n:Str}{np np2 np3 hpos cpos rpos pos:Pos}{gb:Rho->R Fl}{names:List Str}{wh:Str->Option Nat}
end
theorem ln1 {α:Type}{us:List α} (h:us.length=1):∃ a,us=[a]:=by
 rcases us with _ | ⟨a0,_ | ⟨z,r⟩⟩
 ·simp at h
 ·exact ⟨_,rfl⟩
 ·simp at h
theorem ln2 {α:Type}{us:List α} (h:us.length=2):∃ a b,us=[a,b]:=by
 rcases us with _ | ⟨a0,_ | ⟨a0,_ | ⟨z,r⟩⟩⟩
 ·simp at h
 ·simp at h
 ·exact ⟨_,_,rfl⟩
 ·simp at h
theorem ln3 {α:Type}{us:List α} (h:us.length=3):∃ a b c,us=[a,b,c]:=by
 rcases us with _ | ⟨a0,_ | ⟨a0,_ | ⟨a0,_ | ⟨z,r⟩⟩⟩⟩
 ·simp at h
 ·simp at h
 ·simp at h
 ·exact ⟨_,_,_,rfl⟩
 ·simp at h
theorem ln4 {α:Type}{us:List α} (h:us.length=4):∃ a b c d,us=[a,b,c,d]:=by
 rcases us with _ | ⟨a0,_ | ⟨a0,_ | ⟨a0,_ | ⟨a0,_ | ⟨z,r⟩⟩⟩⟩⟩
 ·simp at h
 ·simp at h
 ·simp at h
 ·simp at h
 ·exact ⟨_,_,_,_,rfl⟩
 ·simp at h
theorem ln5 {α:Type}{us:List α} (h:us.length=5):∃ a b c d e,us=[a,b,c,d,e]:=by
 rcases us with _ | ⟨a0,_ | ⟨a0,_ | ⟨a0,_ | ⟨a0,_ | ⟨a0,_ | ⟨z,r⟩⟩⟩⟩⟩⟩
 ·simp at h
 ·simp at h
 ·simp at h
 ·simp at h
 ·simp at h
 ·exact ⟨_,_,_,_,_,rfl⟩
 ·simp at h
end J
end
section
namespace J
open PySem L2
section
variable {c:C}{e a b l tg:Expr}{g ga gb:Rho->R D}{pos p:Pos}{gs:Rho->R (List D)}{es:List Expr}{x:Str}
end
end J
end
section
namespace HT
open PySem PyProof.Rows
section
open PySem.SeqAt
open PySem.AutoSeq1 (wpAny_loadPart')
open PySem.MeetsSeq PySem.MeetsSeq2 PySem.MeetsSeq3
variable {prog:Program}{w:World}{A:Around}{E:Value->Shared->Prop}{s:Shared}
end
end HT
namespace L2
open PySem PySem.Spec PyProof.Rows
section
variable {X:Cx}{e st:Expr}{te ts:TE}{pos p2:Pos}
end
end L2
namespace J
open PySem L2
section
variable {c:C}{e:Expr}{g:Rho->R D}{pos p2 p3 p4:Pos}
end
end J
end
section
namespace L2
open PySem
def stp (mask:Nat):Nat->Nat×Nat->Nat×Nat
 | 0,x=>x
 | n + 1,x=>stp mask n (SetTable.leap mask x.1 x.2)
theorem x1U (mask:Nat):∀ (n m:Nat) (x:Nat×Nat),stp mask (n + m) x=stp mask m (stp mask n x)
 | 0,m,x=>by rw [Nat.zero_add];rfl
 | n + 1,m,x=>by
  rw [Nat.succ_add]
  exact x1U mask n m _
theorem x1V (mask:Nat):∀ (n:Nat) (x:Nat×Nat),(stp mask n x).2=x.2 / 32 ^ n
 | 0,x=>by simp [stp]
 | n + 1,x=>by
  show (stp mask n _).2=_
  rw [x1V mask n]
  show x.2 / 32 / 32 ^ n=_
  rw [Nat.div_div_eq_div_mul,Nat.pow_succ,Nat.mul_comm]
theorem x1W (mask:Nat):∀ (n:Nat) (x:Nat×Nat),x.1<=mask->(stp mask n x).1<=mask
 | 0,x,h=>h
 | n + 1,x,h=>x1W mask n _ (by
  show (x.1 * 5 + 1 + x.2 / 32) % (mask + 1)<=mask
  exact Nat.le_of_lt_succ (Nat.mod_lt _ (Nat.succ_pos _)))
theorem w3L {mask:Nat}{owner:Array (Option Nat)}:∀ (fuel i p:Nat),SetTable.layClean.free mask owner fuel i p=none->∀ n,n<fuel->(owner.getD (stp mask n (i,p)).1 (some 0)).isSome=true
 | 0,_,_,_,n,h=>absurd h (Nat.not_lt_zero n)
 | fuel + 1,i,p,e,n,h=>by
  unfold SetTable.layClean.free at e
  split at e
  ·cases e
  ·rename_i hf
   cases n with
   | zero =>
    have h0:=List.find?_eq_none.mp hf 0 (List.mem_range.mpr (by unfold SetTable.runEnd;split<;>omega))
    simp only [Nat.add_zero] at h0
    show (owner.getD i (some 0)).isSome=true
    cases q:owner.getD i (some 0) with
    | none=>rw [q] at h0;exact absurd rfl h0
    | some _=>rfl
   | succ n=>exact w3L fuel _ _ e n (Nat.lt_of_succ_lt_succ h)
theorem w3M {mask:Nat}{owner:Array (Option Nat)}:∀ (fuel i p k:Nat),SetTable.layClean.free mask owner fuel i p=some k->owner.getD k (some 0)=none
 | 0,_,_,_,e=>nomatch e
 | fuel + 1,i,p,k,e=>by
  unfold SetTable.layClean.free at e
  split at e
  ·rename_i k' hf
   cases e
   have:=List.find?_some hf
   cases q:owner.getD (i + k') (some 0) with
   | none=>rfl
   | some _=>rw [q] at this;cases this
  ·exact w3M fuel _ _ k e
def MkM (mask:Nat):Prop:=mask=7\/mask=15\/mask=31
def y1m (mask:Nat):Bool:=(List.range (mask + 1)).all fun i=>(List.range (mask + 1)).all fun j=>(List.range (mask + 1)).any fun n=>decide ((stp mask n (i,0)).1=j)
theorem x6P {mask:Nat} (h:MkM mask):y1m mask=true:=by
 rcases h with h | h | h<;>subst h<;>decide +kernel
theorem getD_none {owner:Array (Option Nat)}{k:Nat} (h:owner.getD k (some 0)=none):owner.toList[k]?=some none:=by
 by_cases hk:k<owner.size
 ·rw [Array.getD_eq_getD_getElem?,Array.getElem?_eq_getElem hk] at h
  rw [Array.getElem?_toList,Array.getElem?_eq_getElem hk]
  simpa using h
 ·rw [Array.getD_eq_getD_getElem?,Array.getElem?_eq_none (by omega)] at h
  cases h
theorem x1X {mask:Nat} (hm:MkM mask) {owner:Array (Option Nat)}{j:Nat} (hj:j<=mask) (hn:owner.toList[j]?=some none) {i p:Nat} (hi:i<=mask) (hp:p<2 ^ 64) :
  ∃ k,SetTable.layClean.free mask owner (SetTable.turns mask) i p=some k/\owner.toList[k]?=some none:=by
 cases e:SetTable.layClean.free mask owner (SetTable.turns mask) i p with
 | some k=>exact ⟨k,rfl,getD_none (w3M _ _ _ _ e)⟩
 | none =>
  exfalso
  have hz:(stp mask 13 (i,p)).2=0:=by
   rw [x1V]
   exact Nat.div_eq_of_lt (Nat.lt_of_lt_of_le hp (by decide))
  have h1:=x1W mask 13 (i,p) hi
  have g:=x6P hm
  unfold y1m at g
  rw [List.all_eq_true] at g
  have g:=g _ (List.mem_range.mpr (Nat.lt_succ_of_le h1))
  rw [List.all_eq_true] at g
  have g:=g j (List.mem_range.mpr (Nat.lt_succ_of_le hj))
  rw [List.any_eq_true] at g
  obtain ⟨n,hn1,hn2⟩:=g
  have hn1:=List.mem_range.mp hn1
  have hn2:=of_decide_eq_true hn2
  have hs:(stp mask (13 + n) (i,p)).1=j:=by
   rw [x1U,<- hn2,<- hz]
  have:=w3L _ _ _ e (13 + n) (by unfold SetTable.turns;omega)
  rw [hs] at this
  have hq:owner.getD j (some 0)=none:=by
   rw [Array.getElem?_toList] at hn
   rw [Array.getD_eq_getD_getElem?,hn]
   rfl
  rw [hq] at this
  cases this
theorem x6Q (h:Int):SetTable.bits h<2 ^ 64:=by
 unfold SetTable.bits
 have:=Int.emod_lt_of_pos h (show (0:Int)<2 ^ 64 by decide)
 have:=Int.emod_nonneg h (show (2 ^ 64:Int)≠0 by decide)
 omega
theorem w8q {k:Nat}:∀ {l:List (Option Nat)}{j:Nat},l[j]?=some none->((l.set j (some k)).filterMap id).Perm (k::l.filterMap id)
 | [],_,h=>nomatch h
 | x::r,0,h=>by
  cases h
  exact .refl _
 | x::r,j + 1,h=>by
  have ih:=w8q (k:=k) (l:=r) (j:=j) h
  cases x with
  | none=>exact ih
  | some y=>exact (ih.cons y).trans (.swap k y _)
theorem w8r:∀ {l:List (Option Nat)},(l.filterMap id).length<l.length->∃ j,j<l.length/\l[j]?=some none
 | [],h=>absurd h (Nat.lt_irrefl 0)
 | none::r,_=>⟨0,Nat.succ_pos _,rfl⟩
 | some y::r,h=>by
  obtain ⟨j,h1,h2⟩:=w8r (l:=r) (Nat.lt_of_succ_lt_succ h)
  exact ⟨j + 1,Nat.succ_lt_succ h1,h2⟩
def x3X (mask:Nat) (acc:Option (Array (Option Nat)×Nat)) (h:Int):Option (Array (Option Nat)×Nat):=acc.bind fun x=>(SetTable.layClean.free mask x.1 (SetTable.turns mask) (SetTable.bits h % (mask + 1)) (SetTable.bits h)).bind fun j=>some (x.1.setIfInBounds j (some x.2),x.2 + 1)
theorem w5K (mask:Nat) (hs:Array Int):SetTable.layClean mask hs=(hs.toList.foldl (x3X mask) (some (Array.replicate (mask + 1) none,0))).map (·.1):=by
 rw [Array.foldl_toList]
 rfl
theorem x1Y {mask:Nat} (hm:MkM mask):∀ (l:List Int) (owner:Array (Option Nat)) (k:Nat),owner.size=mask + 1->(owner.toList.filterMap id).Perm (List.range k)->k + l.length<=mask ->
  ∃ o',l.foldl (x3X mask) (some (owner,k))=some (o',k + l.length)/\o'.size=mask + 1/\(o'.toList.filterMap id).Perm (List.range (k + l.length))
 | [],owner,k,h1,h2,_=>⟨owner,rfl,h1,h2⟩
 | h::r,owner,k,h1,h2,h3=>by
  simp only [List.length_cons] at h3 ⊢
  obtain ⟨j,j1,j2⟩:=w8r (l:=owner.toList) (by rw [h2.length_eq,List.length_range,Array.length_toList,h1];omega)
  rw [Array.length_toList,h1] at j1
  obtain ⟨m,m1,m2⟩:=x1X hm (Nat.le_of_lt_succ j1) j2 (i:=SetTable.bits h % (mask + 1)) (Nat.le_of_lt_succ (Nat.mod_lt _ (Nat.succ_pos _))) (x6Q h)
  have e:x3X mask (some (owner,k)) h=some (owner.setIfInBounds m (some k),k + 1):=by
   unfold x3X
   simp only [Option.bind_some,m1]
  rw [List.foldl_cons,e]
  obtain ⟨o',a1,a2,a3⟩:=x1Y hm r (owner.setIfInBounds m (some k)) (k + 1) (by rw [Array.size_setIfInBounds];exact h1) (by
   rw [Array.toList_setIfInBounds]
   refine (w8q m2).trans ?_
   rw [List.range_succ]
   exact ((h2.cons k).trans (List.perm_append_singleton k _).symm)) (by omega)
  rw [show k + 1 + r.length=k + (r.length + 1) by omega] at a1 a3
  exact ⟨o',a1,a2,a3⟩
theorem x1Z {n:Nat}{o:Array (Option Nat)} (h:o.size=n):(List.range n).filterMap (fun j=>o.getD j none)=o.toList.filterMap id:=by
 have e:(List.range n).map (fun j=>o.getD j none)=o.toList:=by
  refine List.ext_getElem (by simp [h]) fun i h1 h2=>?_
  simp only [List.length_map,List.length_range] at h1
  rw [List.getElem_map,List.getElem_range,Array.getD_eq_getD_getElem?,Array.getElem?_eq_getElem (by omega)]
  simp
 rw [<- e,List.filterMap_map]
 rfl
theorem x20 {mask finger moves:Nat}{led plain:Bool}{hs:Array Int} (hm:MkM mask) (hl:hs.size<=mask):∃ place order,SetTable.laid mask finger moves led plain hs=some ({ mask,place,dummies:=#[],finger,led,moves,plain },order)/\place.size=hs.size/\order.toList.Perm (List.range hs.size):=by
 obtain ⟨o,h1,h2,h3⟩:=x1Y hm hs.toList (Array.replicate (mask + 1) none) 0 (by simp) (by
  have:(Array.replicate (mask + 1) (none:Option Nat)).toList.filterMap id=[]:=by
   rw [Array.toList_replicate,List.filterMap_eq_nil_iff]
   intro x hx
   rw [(List.mem_replicate.mp hx).2]
   rfl
  rw [this]
  exact .refl _) (by rw [Array.length_toList];omega)
 have hc:SetTable.layClean mask hs=some o:=by
  rw [w5K,h1]
  rfl
 rw [Nat.zero_add,Array.length_toList] at h3
 refine ⟨_,_,by unfold SetTable.laid;rw [hc];rfl,?_,?_⟩
 ·have e:=congrArg List.length (x1Z h2)
  rw [h3.length_eq,List.length_range] at e
  rw [List.size_toArray,List.length_map,<- e]
  rw [List.length_filterMap_eq_countP,List.length_filterMap_eq_countP]
  congr 1
  funext j
  cases o.getD j none<;>rfl
 ·rw [List.map_filterMap]
  refine .trans (.of_eq ?_) h3
  rw [<- x1Z h2]
  show List.filterMap _ _=List.filterMap _ _
  congr 1
  funext j
  cases o.getD j none<;>rfl
end L2
namespace L2
open PySem
section
variable {P:Program}{w:World}{A:Around}{E:Value->Shared->Prop}{s:Shared}
theorem x3Y:∀ n:_root_.Fin 31,n.val<SetTable.sizeAbove n.val/\(SetTable.sizeAbove n.val=8\/SetTable.sizeAbove n.val=16\/SetTable.sizeAbove n.val=32):=by decide +kernel
theorem x3Z {n:Nat} (h:n<=30):n<=SetTable.sizeAbove n - 1/\MkM (SetTable.sizeAbove n - 1)/\SetTable.sizeAbove n<=32:=by
 obtain ⟨h1,h2⟩:=x3Y ⟨n,by omega⟩
 simp only at h1 h2
 unfold MkM
 omega
theorem w0T {es:Array (Int×Value)}{order:Array Nat} (h:order.toList.Perm (List.range es.size)):(order.filterMap (es[·]?)).toList.Perm es.toList:=by
 rw [Array.toList_filterMap]
 refine (h.filterMap _).trans (.of_eq ?_)
 have e:(List.range es.size).map (fun i=>es[i]?)=es.toList.map some:=by
  refine List.ext_getElem (by simp) fun i h1 h2=>?_
  simp only [List.length_map,List.length_range] at h1
  rw [List.getElem_map,List.getElem_range,List.getElem_map,Array.getElem_toList]
  exact Array.getElem?_eq_getElem h1
 have e2:(List.range es.size).filterMap (fun i=>es[i]?)=((List.range es.size).map (fun i=>es[i]?)).filterMap id:=by rw [List.filterMap_map];rfl
 rw [e2,e,List.filterMap_map]
 simp
theorem q0U.of {h:Heap}{a:Addr}{es es':Array (Int×Value)}{ep:Nat}{t t':SetTable} (I:q0U w h a es ep t) (p:es'.toList.Perm es.toList) (f:t'.fits es'.size=true) (l:t'.led=t.led) (pl:t'.plain=t.plain):q0U w (h.update a (Obj.putSet es' t')) a es' (ep + 1) t':=by
 have sz:es'.size=es.size:=by rw [<- Array.length_toList,p.length_eq,Array.length_toList]
 refine ⟨q6J I,fun e he=>I.txt e (p.mem_iff.mp he),(p.map q6F).nodup_iff.mpr I.nd,by rw [sz];exact I.few,f,l.trans I.led,?_⟩
 rw [sz,pl]
 exact I.pl
theorem w0U {t:SetTable}{n:Nat} (h:t.fits n=true):t.place.size=n/\t.fill<=t.mask:=by
 unfold SetTable.fits at h
 rw [Bool.and_eq_true] at h
 exact ⟨eq_of_beq h.1,of_decide_eq_true h.2⟩
theorem x21 {mask finger moves:Nat}{led plain:Bool}{place:Array Nat}{n:Nat} (h:place.size=n) (hm:n<=mask):SetTable.fits { mask,place,dummies:=#[],finger,led,moves,plain } n=true:=by
 unfold SetTable.fits SetTable.fill
 subst h
 simp only [beq_self_eq_true,Bool.true_and,decide_eq_true_eq]
 exact hm
theorem w9i {a:Addr}{es:Array (Int×Value)}{ep:Nat}{t:SetTable}{wanted:Nat}{Q:Unit->Shared->Prop} (I:q0U w s.heap a es ep t) (hw:wanted<=30) (hz:es.size<=wanted)
  (h:∀ h' es' ep' t',Heap.SameBut a s.heap h'->q0U w h' a es' ep' t'->es'.toList.Perm es.toList->MkM t'.mask->wanted<=t'.mask->Q () { s with heap:=h' }):wpAny (model P w) A (setRelay a wanted) Q E s:=by
 obtain ⟨w1,w2,w3⟩:=x3Z hw
 obtain ⟨place,order,e,hp,ho⟩:=x20 (finger:=t.finger) (moves:=t.movedTo (SetTable.sizeAbove wanted - 1)) (led:=t.led) (plain:=t.plain) (hs:=es.map (·.1)) w2 (by rw [Array.size_map];omega)
 rw [Array.size_map] at hp ho
 have pm:=w0T ho
 have sz:(order.filterMap (es[·]?)).size=es.size:=by rw [<- Array.length_toList,pm.length_eq,Array.length_toList]
 unfold setRelay
 refine wpAny_bind (wpAny_setState_of I.at_ rfl I.fits ?_)
 show wpAny _ _ (if SetTable.sizeAbove wanted > sizeLine then _ else _) _ _ s
 have h32:(32:Nat)<=sizeLine:=by decide
 rw [if_neg (by omega)]
 refine wpAny_bind ?_
 unfold SetTable.relaid
 rw [e]
 show wpAny _ _ (if ((order.filterMap (es[·]?)).size != es.size)=true then _ else pure (order.filterMap (es[·]?),_)) _ _ s
 rw [if_neg (by rw [sz];simp)]
 refine wpAny_pure ?_
 have fit:SetTable.fits { mask:=SetTable.sizeAbove wanted - 1,place,dummies:=#[],finger:=t.finger,led:=t.led,moves:=t.movedTo (SetTable.sizeAbove wanted - 1),plain:=t.plain } (order.filterMap (es[·]?)).size=true:=x21 (by rw [sz];exact hp) (by rw [sz];omega)
 refine wpAny_storeSet_of I.at_ rfl ?_ (by rw [sz];exact fits_of_scanBound I.few)
 exact h _ _ _ _ (Heap.SameBut.update s.heap a _) (I.of pm fit rfl rfl) pm w2 w1
theorem w3N {a:Addr}{es:Array (Int×Value)}{ep:Nat}{t:SetTable}{more:Nat}{Q:Unit->Shared->Prop} (I:q0U w s.heap a es ep t) (hz:es.size + more<=15) (hm:es.size≠0\/MkM t.mask)
  (h:∀ h' es' ep' t',Heap.SameBut a s.heap h'->q0U w h' a es' ep' t'->es'.toList.Perm es.toList->(es.size≠0\/MkM t'.mask)->more<=t'.mask->Q () { s with heap:=h' }):wpAny (model P w) A (setRoomFor a more) Q E s:=by
 obtain ⟨f1,f2⟩:=w0U I.fits
 unfold setRoomFor
 refine wpAny_bind (wpAny_setState_of I.at_ rfl I.fits ?_)
 dsimp only
 unfold SetTable.roomFor
 by_cases hc:(t.fill + more) * 5 ≥ t.mask * 3
 ·rw [if_pos hc]
  refine w9i I (by rw [f1];omega) (by rw [f1];omega) fun h' es' ep' t' a1 a2 a3 a4 a5=>?_
  exact h h' es' ep' t' a1 a2 a3 (.inr a4) (by rw [f1] at a5;omega)
 ·rw [if_neg hc]
  exact wpAny_pure (h s.heap es ep t (.refl ..) I (.refl _) hm (by omega))
end
end L2
namespace L2
open PySem
theorem w1R {α σ:Type}{M:Model}{A:Around}{E:Value->Shared->Prop}{Q:σ->Shared->Prop}{f:α->σ->Sem (ForInStep σ)}{b:σ} (I:List α->Shared->Prop)
  (step:∀ x r s,I (x::r) s->wpAny M A (f x b) (fun st s'=>st=.yield b/\I r s') E s) (fin:∀ s,I [] s->Q b s):∀ (l:List α) (s:Shared),I l s->wpAny M A (forIn l b f) Q E s
 | [],s,h=>by rw [List.forIn_nil];exact wpAny_pure (fin s h)
 | x::r,s,h=>by
  rw [List.forIn_cons]
  refine wpAny_bind (wpAny_mono (step x r s h) (fun st s' q=>?_) fun _ _ e=>e)
  obtain ⟨rfl,q⟩:=q
  exact w1R I step fin r s' q
section
variable {P:Program}{w:World}{A:Around}{E:Value->Shared->Prop}{s:Shared}
theorem w5L {l:List Addr}{Q:Bool->Shared->Prop} (h:∀ a∈l,∃ es ep t,q0U w s.heap a es ep t) (q:Q true s):wpAny (model P w) A (setsQuiet l) Q E s:=by
 unfold setsQuiet
 refine wpAny_bind (w1R (fun r s'=>s'=s/\∀ a∈r,∃ es ep t,q0U w s.heap a es ep t) (fun a r s' hI=>?_) (fun s' hI=>?_) l s ⟨rfl,h⟩)
 ·obtain ⟨rfl,hI⟩:=hI
  obtain ⟨es,ep,t,I⟩:=hI a List.mem_cons_self
  unfold setEntries
  refine wpAny_bind (wpAny_bind (wpAny_setState_of I.at_ rfl I.fits (wpAny_pure ?_)))
  dsimp only
  rw [<- Array.forIn_toList]
  refine wpAny_bind (w1R (fun r2 s2=>s2=s'/\∀ e∈r2,q8I w e) (fun e r2 s2 h2=>?_) (fun s2 h2=>?_) es.toList s' ⟨rfl,I.txt⟩)
  ·obtain ⟨rfl,h2⟩:=h2
   obtain ⟨x,tk,rfl⟩:=h2 e List.mem_cons_self
   exact wpAny_pure ⟨rfl,rfl,fun e he=>h2 e (List.mem_cons_of_mem _ he)⟩
  ·obtain ⟨rfl,_⟩:=h2
   exact wpAny_pure ⟨rfl,rfl,fun b hb=>hI b (List.mem_cons_of_mem _ hb)⟩
 ·obtain ⟨rfl,_⟩:=hI
  exact wpAny_pure q
theorem x22 {o:Addr}{es:Array (Int×Value)}{ep:Nat}{t:SetTable}{Q:Array (Int×Value)->Shared->Prop} (I:q0U w s.heap o es ep t) (hb:w.params.followText "set-order"=true\/t.plain=true\/es.size<=1)
  (q:∀ es',es'.toList.Perm es.toList->Q es' s):wpAny (model P w) A (setWalk o) Q E s:=by
 unfold setWalk
 refine wpAny_bind (wpAny_setState_of I.at_ rfl I.fits (wpAny_bind (q16 ?_)))
 cases hw:w.params.followText "set-order" with
 | true =>
  simp only [if_true]
  exact wpAny_bind (wpAny_askSetting (wpAny_pure (q _ (q8J _ _))))
 | false =>
  simp only [Bool.false_eq_true,if_false]
  have hd:(!t.plain && decide (es.size > 1))=false:=by
   rcases hb with h | h | h
   ·rw [hw] at h;cases h
   ·rw [h];rfl
   ·rw [decide_eq_false (by omega),Bool.and_false]
  have hl:t.led=true:=by rw [I.led,hw];rfl
  show wpAny _ _ (if (!t.plain && decide (es.size > 1))=true then _ else _) _ _ s
  rw [hd,if_neg Bool.false_ne_true]
  refine wpAny_bind ?_
  show wpAny _ _ (if (!t.led && decide (es.size > 1))=true then _ else pure ()) _ _ s
  rw [hl,if_neg (by simp)]
  exact wpAny_pure (wpAny_pure (q _ (.refl _)))
theorem q90 {o a:Addr}{eo es:Array (Int×Value)}{epo ep:Nat}{to t:SetTable}{Q:Array (Int×Value)->Shared->Prop} (I:q0U w s.heap o eo epo to) (J:q0U w s.heap a es ep t)
  (q:∀ h' es' ep' t',Heap.SameBut a s.heap h'->q0U w h' a es ep' t'->es'.toList.Perm eo.toList->Q es' { s with heap:=h' }):wpAny (model P w) A (setWalkUnseen o [a] (some a)) Q E s:=by
 unfold setWalkUnseen
 refine wpAny_bind (wpAny_setState_of I.at_ rfl I.fits (wpAny_bind (q16 ?_)))
 cases hc:(w.params.followText "set-order" || to.led && to.plain || decide (eo.size<=1)) with
 | true =>
  rw [if_pos rfl]
  refine x22 I ?_ fun es' p=>q s.heap es' ep t (.refl ..) J p
  rw [Bool.or_eq_true,Bool.or_eq_true,Bool.and_eq_true,decide_eq_true_eq] at hc
  rcases hc with (h | h) | h
  ·exact .inl h
  ·exact .inr (.inl h.2)
  ·exact .inr (.inr h)
 | false =>
  rw [if_neg Bool.false_ne_true]
  rw [Bool.or_eq_false_iff,Bool.or_eq_false_iff,decide_eq_false_iff_not] at hc
  obtain ⟨⟨c1,_⟩,c3⟩:=hc
  refine wpAny_bind (w5L (fun b hb=>?_) ?_)
  ·rcases List.mem_cons.mp hb with h | h
   ·rw [h];exact ⟨_,_,_,I⟩
   ·rw [List.mem_singleton.mp h];exact ⟨_,_,_,J⟩
  rw [if_neg (by simp)]
  refine wpAny_bind (wpAny_rule ?_)
  dsimp only
  refine wpAny_bind (wpAny_setState_of J.at_ rfl J.fits ?_)
  dsimp only
  have hpl:to.plain=false:=I.pl.resolve_left (by omega)
  have hled:(t.led && to.led)=t.led:=by rw [I.led,J.led,Bool.and_self]
  split
  ·refine wpAny_bind (wpAny_storeSet_of J.at_ rfl ?_ (fits_of_scanBound J.few))
   refine wpAny_pure (q _ _ _ _ (Heap.SameBut.update s.heap a _) (⟨q6J J,J.txt,J.nd,J.few,?_,?_,?_⟩:q0U w _ a es (ep + 1) _) (.refl _))
   ·exact J.fits
   ·exact hled.trans J.led
   ·exact .inr (by show (t.plain && to.plain)=false;rw [hpl,Bool.and_false])
  ·exact wpAny_pure (q s.heap eo ep t (.refl ..) J (.refl _))
end
end L2
namespace L2
open PySem
section
variable {P:Program}{w:World}{A:Around}{E:Value->Shared->Prop}{s:Shared}
theorem q0U.but {h h':Heap}{a o:Addr}{eo:Array (Int×Value)}{epo:Nat}{to:SetTable} (I:q0U w h o eo epo to) (ne:a≠o) (sb:Heap.SameBut a h h'):q0U w h' o eo epo to:=I.keep fun _ e=>(sb.2 o (Ne.symm ne)).trans e
theorem w0V {a o:Addr}{es eo:Array (Int×Value)}{ep epo:Nat}{t to:SetTable}{each:Sem Unit}{Q:Unit->Shared->Prop} (ne:a≠o) (J:q0U w s.heap a es ep t) (I:q0U w s.heap o eo epo to)
  (hz:es.size + eo.size<=15) (hm:es.size≠0\/MkM t.mask) (he:∀ (s':Shared) (Q':Unit->Shared->Prop),q0U w s'.heap o eo epo to->Q' () s'->wpAny (model P w) A each Q' E s')
  (q:∀ h' tk' es' ep' t',Heap.SameBut a s.heap h'->q0U w h' a es' ep' t'->(∀ x,x∈es'.toList.map q6F↔x∈es.toList.map q6F\/x∈eo.toList.map q6F)->(es'.size≠0\/MkM t'.mask)->Q () { s with heap:=h',toks:=tk' }) :
  wpAny (model P w) A (setMerge a o each) Q E s:=by
 unfold setMerge
 rw [if_neg (by simpa using ne)]
 refine wpAny_bind (wpAny_setState_of I.at_ rfl I.fits ?_)
 dsimp only
 by_cases h0:eo.size=0
 ·rw [if_pos (by simpa [Array.isEmpty] using h0)]
  have e0:eo=#[]:=Array.eq_empty_of_size_eq_zero h0
  exact wpAny_pure (q s.heap s.toks es ep t (.refl ..) J (fun x=>by rw [e0];simp) hm)
 rw [if_neg (by simpa [Array.isEmpty] using h0)]
 refine wpAny_bind (w3N J hz hm fun h1 es1 ep1 t1 sb1 J1 p1 m1 r1=>?_)
 have I1:=I.but ne sb1
 have sz1:es1.size=es.size:=by rw [<- Array.length_toList,p1.length_eq,Array.length_toList]
 refine wpAny_bind (wpAny_setState_of (s:={ s with heap:=h1 }) J1.at_ rfl J1.fits ?_)
 dsimp only
 obtain ⟨f1,f2⟩:=w0U J1.fits
 have hpl:to.plain=false:=I.pl.resolve_left h0
 have hled:(t1.led && to.led)=t1.led:=by rw [I.led,J1.led,Bool.and_self]
 have kp:∀ x,x∈es1.toList.map q6F↔x∈es.toList.map q6F:=fun x=>(p1.map q6F).mem_iff
 by_cases hf:t1.fill=0
 ·have e1:es.size=0:=by
   unfold SetTable.fill at hf
   omega
  have mk:MkM t1.mask:=m1.resolve_left (by omega)
  have ee:es=#[]:=Array.eq_empty_of_size_eq_zero e1
  unfold SetTable.road
  rw [if_neg (by rw [hf];decide)]
  split
  ·refine wpAny_storeSet_of (s:={ s with heap:=h1 }) J1.at_ rfl ?_ (fits_of_scanBound I.few)
   refine q _ s.toks _ _ _ (sb1.trans (Heap.SameBut.update h1 a _)) (⟨q6J J1,I.txt,I.nd,I.few,?_,?_,?_⟩:q0U w _ a eo (ep1 + 1) _) (fun x=>by rw [ee];simp) (.inl h0)
   ·exact I.fits
   ·exact hled.trans J1.led
   ·exact .inr (by show (t1.plain && to.plain)=false;rw [hpl,Bool.and_false])
  ·obtain ⟨place,order,e,hp,ho⟩:=x20 (finger:=t1.finger) (moves:=t1.moves) (led:=t1.led && to.led) (plain:=t1.plain && to.plain) (hs:=eo.map (·.1)) mk (by rw [Array.size_map];exact r1)
   rw [Array.size_map] at hp ho
   have pm:=w0T ho
   have sz:(order.filterMap (eo[·]?)).size=eo.size:=by rw [<- Array.length_toList,pm.length_eq,Array.length_toList]
   refine wpAny_bind ?_
   rw [e]
   show wpAny _ _ (if ((order.filterMap (eo[·]?)).size != eo.size)=true then _ else pure (order.filterMap (eo[·]?),_)) _ _ _
   rw [if_neg (by rw [sz];simp)]
   refine wpAny_pure ?_
   refine wpAny_storeSet_of (s:={ s with heap:=h1 }) J1.at_ rfl ?_ (by rw [sz];exact fits_of_scanBound I.few)
   refine q _ s.toks _ _ _ (sb1.trans (Heap.SameBut.update h1 a _)) (⟨q6J J1,fun x hx=>I.txt x (pm.mem_iff.mp hx),(pm.map q6F).nodup_iff.mpr I.nd,by rw [sz];exact I.few,x21 (by rw [sz];exact hp) (by rw [sz];exact r1),hled.trans J1.led,.inr ?_⟩:q0U w _ a (order.filterMap (eo[·]?)) (ep1 + 1) _) (fun x=>?_) (.inl (by rw [sz];exact h0))
   ·show (t1.plain && to.plain)=false;rw [hpl,Bool.and_false]
   ·rw [(pm.map q6F).mem_iff,ee];simp
  ·rename_i hq
   split at hq<;>cases hq
 ·unfold SetTable.road
  rw [if_pos (by simpa using hf)]
  dsimp only
  refine wpAny_bind (q90 (s:={ s with heap:=h1 }) I1 J1 fun h2 es2 ep2 t2 sb2 J2 p2=>?_)
  rw [<- Array.forIn_toList]
  have hl:es2.toList.length=eo.size:=by rw [p2.length_eq,Array.length_toList]
  refine wpAny_bind (w1R (fun r s'=>∃ h' tk' e' p' t',s'={ s with heap:=h',toks:=tk' }/\Heap.SameBut a s.heap h'/\q0U w h' a e' p' t'/\e'.size + r.length<=15/\(∀ e∈r,q8I w e)/\∀ x,(x∈e'.toList.map q6F\/x∈r.map q6F)↔x∈es.toList.map q6F\/x∈eo.toList.map q6F) ?_ ?_ es2.toList _ ⟨h2,s.toks,es1,ep2,t2,rfl,sb1.trans sb2,J2,by omega,fun e he=>I.txt e (p2.mem_iff.mp he),fun x=>by rw [kp,(p2.map q6F).mem_iff]⟩)
  ·rintro e r s' ⟨h',tk',e',p',t',rfl,sb',J',z',tx',k'⟩
   obtain ⟨x,tk,rfl⟩:=tx' e List.mem_cons_self
   simp only [List.length_cons] at z'
   dsimp only
   refine wpAny_bind (wpAny_holding (w3r (s:={ s with heap:=h',toks:=tk' }) (⟨e',p',t',J',.refl _⟩:q80 w h' a (e'.toList.map q6F)) (by rw [List.length_map,Array.length_toList];exact Nat.lt_of_lt_of_le (show e'.size + 1<100 by omega) (by decide)) fun h'' tk'' sb'' S''=>?_))
   obtain ⟨e'',p'',t'',J'',pm''⟩:=S''
   have sb3:=sb'.trans sb''
   have I3:=I.but ne sb3
   refine wpAny_bind (he _ _ I3 ?_)
   refine wpAny_bind (wpAny_setState_of (s:={ s with heap:=h'',toks:=tk'' }) I3.at_ rfl I3.fits ?_)
   dsimp only
   rw [if_neg (by simp)]
   refine wpAny_pure ⟨rfl,h'',tk'',e'',p'',t'',rfl,sb3,J'',?_,fun e he=>tx' e (List.mem_cons_of_mem _ he),fun y=>?_⟩
   ·have:=pm''.length_eq
    rw [List.length_map,Array.length_toList] at this
    have l2:(if x∈e'.toList.map q6F then e'.toList.map q6F else e'.toList.map q6F++[x]).length<=e'.size + 1:=by
     split<;>simp
    omega
   ·rw [<- k' y,pm''.mem_iff]
    have ek:q6F (hashStr w x,Value.str x tk)=x:=rfl
    rw [List.map_cons,List.mem_cons,ek]
    split
    ·rename_i hx
     constructor
     ·rintro (h | h)
      ·exact .inl h
      ·exact .inr (.inr h)
     ·rintro (h | h | h)
      ·exact .inl h
      ·rw [h];exact .inl hx
      ·exact .inr h
    ·rw [List.mem_append,List.mem_singleton]
     constructor
     ·rintro ((h | h) | h)
      ·exact .inl h
      ·exact .inr (.inl h)
      ·exact .inr (.inr h)
     ·rintro (h | h | h)
      ·exact .inl (.inl h)
      ·exact .inl (.inr h)
      ·exact .inr h
  ·rintro s' ⟨h',tk',e',p',t',rfl,sb',J',z',tx',k'⟩
   refine wpAny_pure (q h' tk' e' p' t' sb' J' (fun x=>?_) (.inl ?_))
   ·rw [<- k' x];simp
   ·intro e0
    obtain ⟨e,hh⟩:∃ e,e∈eo.toList:=by
     cases hq:eo.toList with
     | nil=>rw [<- Array.length_toList,hq] at h0;exact absurd rfl h0
     | cons e r=>exact ⟨e,List.mem_cons_self⟩
    have:=(k' (q6F e)).mpr (.inr (List.mem_map_of_mem hh))
    rw [Array.eq_empty_of_size_eq_zero e0] at this
    simp at this
end
end L2
namespace L2
open PySem PyProof.Rows
theorem w3O:entryFor table "set.__or__"=some Builtin.«frozenset.__or__»:=entryFor_alias (id':="frozenset.__or__") (by kernel_rfl) rfl (by decide +kernel) (by kernel_rfl)
section
variable {P:Program}{w:World}{A:Around}{E:Value->Shared->Prop}{s:Shared}
theorem q0U.ty {a:Addr}{es:Array (Int×Value)}{ep:Nat}{t:SetTable} (I:q0U w s.heap a es ep t):s.TypeIs (.ref a) "set":=⟨_,I.at_,rfl⟩
theorem q6T {a:Addr}{es:Array (Int×Value)}{ep:Nat}{t:SetTable}{Q:Bool->Shared->Prop} (I:q0U w s.heap a es ep t) (q:Q true s):wpAny (model P w) A (Builtin.Frozenset.isAnySet (.ref a)) Q E s:=by
 unfold Builtin.Frozenset.isAnySet
 refine wpAny_bind (wpAny_isInstance I.ty sub_set_self ?_)
 exact wpAny_pure q
theorem x40 {h:Heap}{a:Addr} (e:h.get? a=some (q1p w)):q0U w h a #[] 0 (.fresh 0 0 (!w.params.followText "set-order")) :=
 ⟨e,(fun _ h=>nomatch h),List.nodup_nil,by decide,rfl,rfl,.inl rfl⟩
theorem x6R {a b:Addr}{xs ys:List Str}{Q:Value->Shared->Prop} (ha:q80 w s.heap a xs) (hb:q80 w s.heap b ys) (ne:a≠b) (hz:xs.length + ys.length<=15)
  (q:∀ h' tk',Heap.SameBut s.heap.objs.size (s.heap.push (q1p w)) h'->q80 w h' s.heap.objs.size (q12 xs ys)->Q (.ref s.heap.objs.size) { s with heap:=h',toks:=tk' }) :
  wpAny (model P w) A (binaryOp .BitOr (.ref a) (.ref b)) Q E s:=by
 obtain ⟨ea,pa,ta,Ia,ma⟩:=ha
 obtain ⟨eb,pb,tb,Ib,mb⟩:=hb
 have sa:ea.size=xs.length:=by rw [<- ma.length_eq,List.length_map,Array.length_toList]
 have sb:eb.size=ys.length:=by rw [<- mb.length_eq,List.length_map,Array.length_toList]
 refine wpAny_binaryOp_same Ia.ty Ib.ty F.fills_set_or F.slot_set_or (wpAny_call_entry F.slot_set_or Ia.ty w3O ?_ (F.args_set_or_2 _ _))
 have lt1:a<s.heap.objs.size:=Heap.lt_size Ia.at_
 have lt2:b<s.heap.objs.size:=Heap.lt_size Ib.at_
 show wpAny _ _ (Builtin.Frozenset.slot1 "__or__" ⟨[.ref a,.ref b],[]⟩ >>= _) _ _ s
 refine wpAny_bind (wpAny_bind (wpAny_pure (wpAny_pure ?_)))
 dsimp only
 refine wpAny_bind (wpAny_bind (q6T Ia (q6T Ib ?_)))
 rw [if_neg (by simp)]
 refine wpAny_bind (wpAny_pure (wpAny_bind ?_))
 show wpAny _ _ (Builtin.Frozenset.copyOf a >>= _) _ _ s
 refine wpAny_bind ?_
 unfold Builtin.Frozenset.copyOf Builtin.Frozenset.baseOf
 refine wpAny_bind (wpAny_bind (wpAny_isInstance Ia.ty sub_set_self (wpAny_pure ?_)))
 rw [if_pos rfl]
 refine wpAny_bind (q69 ?_)
 have g0:(s.heap.push (q1p w)).get? s.heap.objs.size=some (q1p w):=Heap.get?_push_size _ rfl
 have J0:=x40 g0
 have Ia1:q0U w (s.heap.push (q1p w)) a ea pa ta:=Ia.keep fun _ e=>Heap.get?_push_of_some _ e
 have Ib1:q0U w (s.heap.push (q1p w)) b eb pb tb:=Ib.keep fun _ e=>Heap.get?_push_of_some _ e
 have na:s.heap.objs.size≠a:=Ne.symm (Nat.ne_of_lt lt1)
 have nb:s.heap.objs.size≠b:=Ne.symm (Nat.ne_of_lt lt2)
 refine wpAny_bind (wpAny_pure (wpAny_bind (w0V (s:={ s with heap:=s.heap.push (q1p w) }) na J0 Ia1 (by show 0 + ea.size<=15;omega) (.inr (.inl rfl)) (fun _ _ _ q=>wpAny_pure q) fun h1 tk1 e1 p1 t1 sb1 J1 k1 m1=>wpAny_pure ?_)))
 have Ib2:=Ib1.but nb sb1
 have n1:(e1.toList.map q6F).length<=ea.size:=by
  have:=(List.perm_ext_iff_of_nodup J1.nd Ia.nd).mpr fun x=>by rw [k1];simp
  rw [this.length_eq,List.length_map,Array.length_toList]
  exact Nat.le_refl _
 rw [List.length_map,Array.length_toList] at n1
 show wpAny _ _ (if (Value.ref b != Value.ref a)=true then _ else _) _ _ _
 rw [if_pos (by simp;exact Ne.symm ne)]
 refine wpAny_bind (wpAny_pure (wpAny_bind (wpAny_holding ?_)))
 show wpAny _ _ (Builtin.Frozenset.updateFrom _ s.heap.objs.size (Value.ref b)) _ _ _
 unfold Builtin.Frozenset.updateFrom
 refine wpAny_bind (q6T (s:={ s with heap:=h1,toks:=tk1 }) Ib2 ?_)
 rw [if_pos rfl]
 refine wpAny_bind (wpAny_pure ?_)
 unfold Builtin.Frozenset.merge setEpoch
 refine wpAny_bind (wpAny_bind (wpAny_setState_of (s:={ s with heap:=h1,toks:=tk1 }) Ib2.at_ rfl Ib2.fits (wpAny_pure ?_)))
 refine w0V (s:={ s with heap:=h1,toks:=tk1 }) nb J1 Ib2 (by omega) m1 (fun s' Q' I' q'=>?_) fun h2 tk2 e2 p2 t2 sb2 J2 k2 m2=>?_
 ·unfold Builtin.Frozenset.unchanged setEpoch
  refine wpAny_bind (wpAny_bind (wpAny_setState_of I'.at_ rfl I'.fits (wpAny_pure ?_)))
  dsimp only
  rw [if_neg (by simp)]
  exact wpAny_pure q'
 ·refine wpAny_pure (wpAny_pure ⟨_,rfl,(fun z=>nomatch z),q h2 tk2 (sb1.trans sb2) ⟨e2,p2,t2,J2,?_⟩⟩)
  refine (List.perm_ext_iff_of_nodup J2.nd (q22 _ _ (ma.nodup_iff.mp Ia.nd))).mpr fun x=>?_
  rw [k2,q2j,k1,ma.mem_iff,mb.mem_iff]
  simp
end
end L2
namespace L2
open PySem PyProof.Rows
theorem x8Z {X:Cx}:OpR X (binaryOp .BitOr) (fun x y H Q=>∃ a b xs ys,x=.ref a/\y=.ref b/\a≠b/\H a=some (SetO X.w a xs)/\H b=some (SetO X.w b ys)/\xs.length + ys.length<=15/\∀ p,H p=none->Q (.ref p) (upd H p (SetO X.w p (q12 xs ys)))):=by
 intro pins s σ H x y v u Q I rx ry h
 obtain ⟨a,b,xs,ys,rfl,rfl,ne,ha,hb,hz,q⟩:=h
 cases rx
 cases ry
 have Sa:=(show q1d X.prog X.w H s.heap a (SetO X.w a xs) from I.hok a _ ha).1
 have Sb:=(show q1d X.prog X.w H s.heap b (SetO X.w b ys) from I.hok b _ hb).1
 refine x6R Sa Sb ne hz fun h' tk' sb S=>?_
 refine ⟨.ref s.heap.objs.size,_,I.laid (t':=tk') (fun b o e=>?_) (Nat.le_refl _) (w5z S),rfl,q _ (I.hok.fresh (Nat.le_refl _))⟩
 exact (sb.2 b (Nat.ne_of_lt (Heap.lt_size e))).trans (Heap.get?_push_of_some _ e)
end L2
namespace J
open PySem L2
section
variable {c:C}{a b:Expr}{ga gb:Rho->R (List Str)}{pos:Pos}
def y0r (xs ys:List Str):R (List Str):=if xs.length + ys.length<=15 then .ok (q12 xs ys) else .no
def x90 (ga gb:Rho->R (List Str)):Rho->R (List Str):=fun ρ=>(ga ρ).bind fun xs=>(gb ρ).bind (J.y0r xs)
theorem x91 (ha:JSt c a ga) (hb:JSt c b gb):JSt c (.BinOp a .BitOr b pos) (x90 ga gb):=.of fun ρ=>mPE (x7O x8Z (ha ρ) (hb ρ)) fun σ H Q h_0=>by
 obtain ⟨H0,Hs0,la,Hs,f,q⟩:=h_0
 refine x3S (w:=c.X.w) f q fun xs p H1 Hs1 e1 s1 f1 n1=>?_
 unfold x90 at q
 rw [e1,bind_ok] at q
 have s2:q1G H1 Hs1 (upd H1 p (SetO c.X.w p xs)) Hs1:=.mine f1.st.sub n1
 refine x3S (w:=c.X.w) (f1.step s2) (q.on (s1.trans s2) (q':=fun _=>True) fun _ _=>trivial) fun ys p2 H2 Hs2 e2 s3 f2 n2=>?_
 rw [e2,bind_ok] at q
 unfold J.y0r at q
 by_cases hz:xs.length + ys.length<=15
 ·rw [if_pos hz] at q
  have k1:H2 p=some (SetO c.X.w p xs):=s3.all p _ q0g
  have ne:p≠p2:=fun z=>by rw [z,n2] at k1;cases k1
  have s4:q1G H2 Hs2 (upd H2 p2 (SetO c.X.w p2 ys)) Hs2:=.mine f2.st.sub n2
  exact ⟨p,p2,xs,ys,rfl,rfl,ne,by rw [q0j ne];exact k1,q0g,hz,fun l hl=>q l _ _ (s1.trans (s2.trans (s3.trans s4))) hl⟩
 ·rw [if_neg hz] at q;exact q.elim
end
end J
namespace J
open PySem L2
section
variable {c:C}{a b:Expr}{gs:Rho->R (List D)}{pos px py pt pt2:Pos}{x y:Str}
def y1W (i j:Nat) (ρ:Rho):List D->R Fl
 | [d,e]=>.ok (.nx ((ρ.set i (.shr d)).set j (.shr e)))
 | _=>.no
def x92 (i j:Nat) (gs:Rho->R (List D)):Rho->R Fl:=fun ρ=>(gs ρ).bind (y1W i j ρ)
theorem x93 (i j:Nat) {kt k2:_} (hc:c.X.calm=true) (hN:c.X.N.Nodup) (ha:JAs c [a,b] gs) (hi:c.X.N[i]?=some x:=by rfl) (hj:c.X.N[j]?=some y:=by rfl) (hij:i≠j:=by decide)
  (hx:c.X.env.scope.names.lookup x=some .local:=by rfl) (hy:c.X.env.scope.names.lookup y=some .local:=by rfl) (hw:swappedStores [.Tuple [.Name x px,.Name y py] kt pt] (.Tuple [a,b] k2 pt2) c.X.env=pure (some [x,y]):=by rfl)
  (hs:swapsWithSole [.Tuple [.Name x px,.Name y py] kt pt] (.Tuple [a,b] k2 pt2) pos.line c.X.env=pure false:=by rfl):JS c (.Assign [.Tuple [.Name x px,.Name y py] kt pt] (.Tuple [a,b] k2 pt2) pos) (x92 i j gs):=.of fun ρ=>mPS (x7N hc hN hi hj hij hx hy (ha ρ) hw hs) fun D σ H h_0=>by
 obtain ⟨H0,Hs0,la,Hs,f,q⟩:=h_0
 refine ⟨H0,Hs0,la,Hs,f,?_⟩
 unfold x92 at q
 cases hr:gs ρ with
 | ok ds =>
  rw [hr,bind_ok] at q
  intro vs H' Hs' s r
  match ds,r,q with
  | [],_,q=>exact q.elim
  | [_],_,q=>exact q.elim
  | [d,e],.cons r1 (.cons r2 .nil),q=>exact ⟨_,_,rfl,q _ _ Hs' (((f.step s).set i r1).set j r2)⟩
  | _::_::_::_,_,q=>exact q.elim
 | ex z n =>
  rw [hr] at q
  exact fun H' Hs' s=>q H' Hs' (f.st.trans s)
 | no=>rw [hr] at q;exact q.elim
end
end J
namespace J
open PySem L2
end J
end
section
namespace L2
open PySem PySem.Spec PyProof.Rows
theorem w3P:typeLookup (.type "list") "keys"=pure none:=by rw [typeLookup_type,builtinLookup_eq_fast];kernel_rfl
theorem w3Q:entryFor table "dict.update.loop"=some Builtin.«dict.update.loop»:=entryFor_of_tree (by kernel_rfl)
theorem q6g:plainId "dict.update.loop"=true:=by decide +kernel
section
variable {prog:Program}{w:World}{A:Around}{E:Value->Shared->Prop}{s:Shared}{R:Result->Shared->Prop}
theorem w05 {a:Addr}{o:Obj}{xs:Array Value}{k:Nat}{Q:Option Value->Shared->Prop}
  (hx:s.heap.get? a=some o) (hc:o.cls=.type "list") (hdat:o.data=.seq xs k) (hd:o.dict=none) (hA:A.handled=none)
  (h:∀ h' tk,(∀ b o,s.heap.get? b=some o->h'.get? b=some o)->Q none { s with heap:=h',toks:=tk }) :
  wpAny (model prog w) A (getAttr? (.ref a) "keys") Q E s:=by
 obtain ⟨c,dct,dat,sl⟩:=o
 simp only at hc hdat hd
 subst hc hdat hd
 obtain ⟨hp,g,d,tk,os⟩:=s
 have hT:∀ tk',(⟨hp,g,d,tk',os⟩:Shared).TypeIs (.ref a) "list":=fun _=>⟨_,hx,rfl⟩
 have f1:=sub_AttributeError
 have f3:=F.slot_list_getattribute.lookup
 have f4:=F.slot_list_getattribute.bind (.ref a)
 have f5:=am_list_getattr_none
 have hname:(["__module__","__name__","__qualname__","__doc__","__annotations__"] : List Str).contains "keys"=false:=by decide +kernel
 unfold getAttr? getAttrBy? getAttrBy
 repeat (any_goals (first | assumption | exact hT _ | ((with_reducible show wpAny _ _ (call (Value.builtin "list.__getattribute__") _ _) _ _ _);refine call_meets F.slot_list_getattribute (hT _) am_entry_list_getattribute (F.args_list_getattribute_2 _ _) (meets_getattribute_miss_list a xs k sl "keys" _ w3P hname (by size_fits)) ⟨hx,hA,fun h' tk' e hx'=>?_⟩) | wp_step))
 have ha:=hx'.of
 obtain ⟨ob,vs,he,hc,_⟩:=ha.there
 have hTe:(⟨h',g,d,tk',os⟩:Shared).TypeIs (.ref e) "AttributeError":=⟨_,he,hc⟩
 show wpAny _ _ (getattributeRaised _ _ _ _ _ _ _) _ _ _
 unfold getattributeRaised
 repeat (any_goals (first | assumption | wp_step))
 exact h _ _ ha.keeps
end
end L2
namespace L2
open PySem PySem.Spec PyProof.Rows
def x41 (acc:List (Key×Value)) (l:List (Key×Value×Value)):List (Key×Value):=l.foldl (fun a t=>stored a t.1 t.2.2) acc
theorem w9j (kvs:List (Key×Value)) (k:Key) (v:Value):(stored kvs k v).length<=kvs.length + 1:=by
 unfold stored
 split<;>simp
section
variable {prog:Program}{w:World}{A:Around}{E:Value->Shared->Prop}{s:Shared}{R:Result->Shared->Prop}
theorem w1S {I:Addr}{fp wr:List Addr}{n:Nat}{Pv:Nat->Value->Prop}{St:Nat->Heap->Prop} (W:Walks prog w A.in1 I fp wr n Pv St) (D:Addr) (hD:D∉fp) (xs:List (Key×Value×Value)) (pa:List Addr) (hx:xs.length=n)
  (hv:∀ i v,Pv i v->∃ p x,pa[i]?=some p/\xs[i]?=some x/\v=.ref p) (hk:∀ x∈xs,(q0T prog w).is x.1 x.2.1=true) (hp:∀ p∈pa,p∉D::wr) (hb:n<=1000) :
  ∀ (k i:Nat) (s:Shared) (acc:List (Key×Value)) (j:Int),n - i=k->i<=n->acc.length<=i->St i s.heap->s.heap.DictOf (q0T prog w) D acc->(∀ (i:Nat) (p:Addr) (x:Key×Value×Value),pa[i]?=some p->xs[i]?=some x->IsTup s.heap p #[x.2.1,x.2.2]) ->
   (∀ h' tk,(∀ b o,b∉D::wr->s.heap.get? b=some o->h'.get? b=some o)->h'.DictOf (q0T prog w) D (x41 acc (xs.drop i))->R (.ok (.ret .none)) { s with heap:=h',toks:=tk }) ->
   codeAny (model prog w) A (.builtin "dict.update.loop" ⟨[.ref D,.ref I,rawInt j,.none],[]⟩) R s:=by
 have hDw:D∉wr:=fun z=>hD (W.sub _ z)
 intro k
 induction k with
 | zero =>
  intro i s acc j hk' hi hl st hS hT hR
  obtain rfl:i=n:=by omega
  refine codeAny_builtin w3Q ?_
  rw [Around.under_plainId q6g _]
  show wpAny _ A.in1 (pyNext (.ref I) >>= _) _ _ s
  refine wpAny_bind (W.done s _ _ st fun h' tk kp=>?_)
  show wpAny _ _ (Builtin.Dict.addKeywords D [] >>= _) _ _ _
  refine wpAny_bind (wpAny_pure (wpAny_pure (hR h' tk (fun b o hb e=>kp b o (fun z=>hb (List.mem_cons_of_mem _ z)) e) ?_)))
  rw [List.drop_of_length_le (by omega)]
  obtain ⟨o,es,ep,e,r⟩:=hS
  exact ⟨o,es,ep,kp D o hDw e,r⟩
 | succ k ih =>
  intro i s acc j hk' hi hl st hS hT hR
  have hlt:i<n:=by omega
  refine codeAny_builtin w3Q ?_
  rw [Around.under_plainId q6g _]
  show wpAny _ A.in1 (pyNext (.ref I) >>= _) _ _ s
  refine wpAny_bind (W.item i s _ _ hlt st fun v h' tk hP st' kp=>?_)
  obtain ⟨p,x,hpi,hxi,rfl⟩:=hv i v hP
  have hpm:=hp p (List.mem_of_getElem? hpi)
  have hS':h'.DictOf (q0T prog w) D acc:=by
   obtain ⟨o,es,ep,e,r⟩:=hS
   exact ⟨o,es,ep,kp D o hDw e,r⟩
  obtain ⟨ot,et,ct,nt,dt⟩:=hT i p x hpi hxi
  have et':h'.get? p=some ot:=kp p ot (fun z=>hpm (List.mem_cons_of_mem _ z)) et
  have hkx:=hk x (List.mem_of_getElem? hxi)
  refine wpAny_bind (wpAny_holding (wpAny_bind (wpAny_tryCatch ?_)))
  unfold Builtin.Dict.pairItems
  refine wpAny_bind (wpAny_typeOf (T:="tuple") (s:={ s with heap:=h',toks:=tk }) ⟨_,et',ct⟩ ?_)
  rw [if_pos (by decide)]
  refine wpAny_bind (wpAny_seqItems (s:={ s with heap:=h',toks:=tk }) et' dt (wpAny_pure ?_))
  show wpAny _ _ (holding [x.2.1,x.2.2] (dictSet D x.2.1 x.2.2)) _ _ _
  refine wpAny_holding ?_
  unfold dictSet
  refine wpAny_holding (wpAny_bind ((q0T prog w).pyHash (k:=x.1) hkx ?_))
  refine wpAny_dictSetHashed_pairs (s:={ s with heap:=h',toks:=tk + 1 }) hkx hS' (fun h2 hS2 sb=>?_) (Nat.le_trans hl (Nat.le_trans hi (Nat.le_trans hb (Nat.le_of_lt (q0P (Nat.le_refl _))))))
  refine wpAny_pure ⟨plainId_quiet q6g _,ih (i + 1) _ (stored acc x.1 x.2.2) _ (by omega) hlt ?_ (W.frame _ _ _ st' fun b hb o e=>?_) hS2 (fun i2 p2 x2 e1 e2=>?_) fun h3 tk3 k3 hS3=>?_⟩
  ·have:=w9j acc x.1 x.2.2
   omega
  ·rw [sb.2 b fun z=>hD (z ▸ hb)];exact e
  ·obtain ⟨o2,g2,r2⟩:=hT i2 p2 x2 e1 e2
   have hm:=hp p2 (List.mem_of_getElem? e1)
   exact ⟨o2,(sb.2 p2 fun z=>hm (by rw [z];exact List.mem_cons_self)).trans (kp p2 o2 (fun z=>hm (List.mem_cons_of_mem _ z)) g2),r2⟩
  ·refine hR h3 tk3 (fun b o hb e=>k3 b o hb ?_) ?_
   ·show h2.get? b=_
    rw [sb.2 b fun z=>hb (by rw [z];exact List.mem_cons_self)]
    exact kp b o (fun z=>hb (List.mem_cons_of_mem _ z)) e
   ·have hd:xs.drop i=x::xs.drop (i + 1):=by
     obtain ⟨h1,h2⟩:=List.getElem?_eq_some_iff.mp hxi
     rw [List.drop_eq_getElem_cons h1,h2]
    rw [hd];exact hS3
theorem w1T {l:Addr}{ol:Obj}{its:List Value}{n:Nat}{xs:List (Key×Value×Value)}{pa:List Addr}{Q:Value->Shared->Prop} (hh:A.handled=none)
  (hol:s.heap.get? l=some ol) (hc:ol.cls=.type "list") (hdd:ol.dict=none) (hdt:ol.data=.seq its.toArray n) (hi:∀ (i:Nat) (v:Value),its[i]?=some v->∃ p x,pa[i]?=some p/\xs[i]?=some x/\v=.ref p) (hx:xs.length=its.length) (hk:∀ x∈xs,(q0T prog w).is x.1 x.2.1=true) (hb:its.length<=1000)
  (hT:∀ (i:Nat) (p:Addr) (x:Key×Value×Value),pa[i]?=some p->xs[i]?=some x->IsTup s.heap p #[x.2.1,x.2.2]) (hpa:∀ p∈pa,p<s.heap.objs.size)
  (h:∀ (h':Heap) (tk:Nat),h'.DictOf (q0T prog w) s.heap.objs.size (x41 [] xs)->(∀ b o,s.heap.get? b=some o->h'.get? b=some o)->Q (.ref s.heap.objs.size) { s with heap:=h',toks:=tk }) :
  wpAny (model prog w) A (call (.type "dict") [.ref l]) Q E s:=by
 refine callType_codes (Q₁:=fun obj s₁=>obj=.ref s.heap.objs.size/\s₁={ s with heap:=s.heap.push { cls:=.type "dict",data:=.dict #[] } }) F.kt_called_dict (F.kt_typeCall_dict_1 _) F.entry_dict_init (kt_code_dict_new _ ⟨rfl,rfl⟩) ?_
 rintro obj s₁ ⟨rfl,rfl⟩
 have hnew:(s.heap.push { cls:=.type "dict",data:=.dict #[] }).DictOf (q0T prog w) s.heap.objs.size []:=Heap.DictOf.new s.heap
 have hol':(s.heap.push { cls:=.type "dict",data:=.dict #[] }).get? l=some ol:=Heap.get?_push_of_some _ hol
 have hlS:l<s.heap.objs.size:=Heap.lt_size hol
 refine ⟨hnew.typeIs,F.args_dict_init_2 _ _,?_⟩
 unfold Builtin.«dict.__init__»
 refine wpAny_bind ?_
 unfold Builtin.Dict.selfAndRest
 refine wpAny_bind (wpAny_notOrdered_dict hnew.typeIs ?_)
 show wpAny _ _ (pure (s.heap.objs.size,[Value.ref l])) _ _ _
 refine wpAny_pure ?_
 show wpAny _ _ (Builtin.Dict.updateFrom "dict.__init__" s.heap.objs.size (.ref l) [] .none) _ _ _
 unfold Builtin.Dict.updateFrom
 refine wpAny_bind (wpAny_typeOf (T:="list") ⟨_,hol',hc⟩ ?_)
 rw [if_pos (by decide)]
 refine wpAny_bind (w05 (s:={ s with heap:=s.heap.push { cls:=.type "dict",data:=.dict #[] } }) hol' hc hdt hdd (by simpa using hh) fun h1 tk1 k1=>?_)
 rw [if_pos (by rfl)]
 refine wpAny_bind (wpAny_rule ?_)
 have hol1:=k1 l ol hol'
 refine wpAny_bind (wpAny_pyIter_list (s:={ s with heap:=h1,toks:=tk1 }) ⟨_,hol1,hc,⟨_,hdt⟩⟩ ?_)
 have hD1:∃ o,h1.get? s.heap.objs.size=some o:=by
  obtain ⟨o,es,ep,e,_⟩:=hnew
  exact ⟨o,k1 _ _ e⟩
 obtain ⟨oD,eD⟩:=hD1
 have lD:=Heap.lt_size eD
 have W:=Walks.list (prog:=prog) (w:=w) (A:=A.in1.in1) (by simpa using hh) h1.objs.size l (Nat.ne_of_lt (Heap.lt_size hol1)) its.toArray
 have k2:∀ b o,h1.get? b=some o->(h1.push { cls:=.type "list_iterator",data:=.fields #[.ref l,.int 0 0] }).get? b=some o:=fun b o e=>Heap.get?_push_of_some _ e
 have hD2:(h1.push { cls:=.type "list_iterator",data:=.fields #[.ref l,.int 0 0] }).DictOf (q0T prog w) s.heap.objs.size []:=by
  obtain ⟨o,es,ep,e,r⟩:=hnew
  exact ⟨o,es,ep,k2 _ _ (k1 _ _ e),r⟩
 refine wpAny_pure ⟨plainId_quiet q6g _,w1S (A:=A.in1) W s.heap.objs.size ?_ xs pa (by rw [hx,List.size_toArray]) (fun i v e=>hi i v (by simpa using e)) hk (fun p hp=>?_) (by rw [List.size_toArray];exact hb) its.length 0 _ [] 0 (by rw [List.size_toArray];omega) (Nat.zero_le _) (Nat.le_refl _) ⟨⟨_,Heap.get?_push_size _ rfl,rfl,rfl⟩,⟨_,k2 _ _ hol1,hc,⟨_,hdt⟩⟩⟩ hD2 (fun i p x e1 e2=>?_) fun h' tk kp hS'=>?_⟩
 ·simp only [List.mem_cons,List.not_mem_nil,or_false,not_or]
  exact ⟨Nat.ne_of_lt lD,Nat.ne_of_gt hlS⟩
 ·have:=hpa p hp
  simp only [List.mem_cons,List.not_mem_nil,or_false,not_or]
  exact ⟨Nat.ne_of_lt this,Nat.ne_of_lt (Nat.lt_trans this lD)⟩
 ·obtain ⟨o,g,r⟩:=hT i p x e1 e2
  exact ⟨o,k2 _ _ (k1 _ _ (Heap.get?_push_of_some _ g)),r⟩
 ·refine ⟨rfl,h h' tk hS' fun b o e=>kp b o ?_ (k2 _ _ (k1 _ _ (Heap.get?_push_of_some _ e)))⟩
  have:=Heap.lt_size e
  simp only [List.mem_cons,List.not_mem_nil,or_false,not_or]
  exact ⟨Nat.ne_of_lt this,Nat.ne_of_lt (Nat.lt_trans this lD)⟩
end
end L2
namespace L2
open PySem PySem.Spec PyProof.Rows
theorem w8s {P:Program}{w:World}{H:Hp}{h:Heap} (ok:HOk P w H h):∀ (pa:List Addr) (kvs:List (Key×V)),kvs.length=pa.length->(∀ (i:Nat) (a:Addr) (kv:Key×V),pa[i]?=some a->kvs[i]?=some kv->H a=some (.tup [kV kv.1,kv.2])) ->
  ∃ xs:List (Key×Value×Value),xs.length=pa.length/\(∀ (i:Nat) (p:Addr) (x:Key×Value×Value),pa[i]?=some p->xs[i]?=some x->IsTup h p #[x.2.1,x.2.2])/\(∀ x∈xs,(q0T P w).is x.1 x.2.1=true)/\KV kvs (xs.map fun x=>(x.1,x.2.2))
 | [],[],_,_=>⟨[],rfl,fun i p x e=>by simp at e,fun _ e=>by simp at e,.nil⟩
 | a::pa,kv::kvs,hl,hH=>by
  obtain ⟨xs,h1,h2,h3,h4⟩:=w8s ok pa kvs (Nat.succ.inj hl) fun i b x e1 e2=>hH (i + 1) b x e1 e2
  have h0:=hH 0 a kv rfl rfl
  obtain ⟨_,its,r,it⟩:=(show q1d P w H h a (.tup [kV kv.1,kv.2]) from ok a _ h0)
  cases r with
  | cons r1 r2 =>
   cases r2 with
   | cons r3 r4 =>
    cases r4
    rename_i u1 u2
    refine ⟨(kv.1,u1,u2)::xs,by simp [h1],fun i p x e1 e2=>?_,fun x hx=>?_,.cons ⟨rfl,r3⟩ h4⟩
    ·cases i with
     | zero=>cases e1;cases e2;exact it
     | succ i=>exact h2 i p x e1 e2
    ·rcases List.mem_cons.mp hx with z | z
     ·rw [z];exact x3t r1
     ·exact h3 x z
 | [],_::_,hl,_=>by simp at hl
 | _::_,[],hl,_=>by simp at hl
theorem w3R:∀ {pa:List Addr}{us:List Value},q28 (pa.map V.ref) us->us=pa.map Value.ref
 | [],us,h=>by cases h;rfl
 | a::pa,us,h=>by
  cases h with
  | cons r t=>rw [w3R t,show _=Value.ref a from r];rfl
theorem w3S {X:Cx} (hc:X.calm=true):q4y X (.type "dict") (fun xs H Q=>∃ (l:Addr) (pa:List Addr) (kvs:List (Key×V)),xs=[.ref l]/\SqL X.K H l (pa.map V.ref)/\kvs.length=pa.length/\pa.length<=1000/\(∀ (i:Nat) (a:Addr) (kv:Key×V),pa[i]?=some a->kvs[i]?=some kv->H a=some (.tup [kV kv.1,kv.2]))/\∀ d,H d=none->Q (.ref d) (upd H d (.dK (w3o [] kvs)))):=by
 intro pins s σ H xs us Q I r h
 obtain ⟨l,pa,kvs,rfl,hq,hl,hz,hH,q⟩:=h
 obtain ⟨u,rfl,rx⟩:=q4A r
 cases rx
 have hh:=I.ok.hd hc
 obtain ⟨its,r',⟨o,n,ho,h1,h2,h3⟩,_⟩:=I.list hq
 obtain rfl:=w3R r'
 obtain ⟨ys,y1,y2,y3,y4⟩:=w8s I.hok pa kvs hl hH
 refine w1T (by simpa using hh) ho h1 h2 h3 (xs:=ys) (pa:=pa) (fun i v e=>?_) (by rw [y1,List.length_map]) y3 (by rw [List.length_map];exact hz) y2 (fun p hp=>?_) fun h' tk dd kp=>?_
 ·rw [List.getElem?_map] at e
  cases hp:pa[i]? with
  | none=>rw [hp] at e;cases e
  | some p =>
   rw [hp] at e
   cases e
   have hi:i<ys.length:=by rw [y1];exact (List.getElem?_eq_some_iff.mp hp).1
   exact ⟨p,ys[i],rfl,List.getElem?_eq_getElem hi,rfl⟩
 ·obtain ⟨i,hi,e⟩:=List.getElem_of_mem hp
  have hk:i<kvs.length:=by rw [hl];exact hi
  have:=hH i p kvs[i] (by rw [<- e];exact List.getElem?_eq_getElem hi) (List.getElem?_eq_getElem hk)
  obtain ⟨_,_,_,_,g,_⟩:=(show q1d X.prog X.w H s.heap p (.tup _) from I.hok p _ this)
  exact Heap.lt_size g
 ·have e:x41 [] ys=merged [] (ys.map fun x=>(x.1,x.2.2)):=by unfold x41 merged;rw [List.foldl_map]
  rw [e] at dd
  have rel:=KV.merge y4 (Paired.nil:KV (κ:=Key) [] [])
  have ln:=q64 kvs []
  simp only [List.length_nil] at ln
  refine ⟨.ref s.heap.objs.size,_,I.laid (t':=tk) kp (Nat.le_refl _) (x4U (Nat.le_trans ln (by rw [Nat.zero_add,hl];exact Nat.le_of_lt (q0P hz))) ?_ rel dd),rfl,q _ (I.hok.fresh (Nat.le_refl _))⟩
  have:=I.big
  exact beq_false_of_ne (Nat.ne_of_gt this)
end L2
namespace J
open PySem L2
def q4J:List D->Option (List (Key×D))
 | []=>some []
 | .tuple [k,v]::r=>(w04 k).bind fun y=>(q4J r).map ((y,v)::·)
 | _::_=>none
def q91:D->R D
 | .list ds=>if ds.length<=1000 then (match q4J ds with
  | some ps=>.ok (.dict (ps.foldl (fun a p=>x3g a (kD p.1) p.2) []))
  | none=>.no) else .no
 | _=>.no
theorem w3T {K:PySem.W.Frag}{H:Hp}:∀ {ds:List D}{vs:List V}{ps:List (Key×D)},RDs K H vs ds->q4J ds=some ps ->
  ∃ (pa:List Addr) (kvs:List (Key×V)),vs=pa.map V.ref/\kvs.length=pa.length/\(∀ (i:Nat) (a:Addr) (kv:Key×V),pa[i]?=some a->kvs[i]?=some kv->H a=some (.tup [kV kv.1,kv.2]))/\RDk K H kvs (ps.map fun p=>(kD p.1,p.2))
 | [],vs,ps,r,e=>by
  cases r
  cases e
  exact ⟨[],[],rfl,rfl,fun i a kv e=>by simp at e,.nil⟩
 | d::ds,vs,ps,r,e=>by
  unfold q4J at e
  split at e
  ·rename_i h;cases h
  ·rename_i k v r0 h
   cases h
   cases r with
   | cons r1 r2 =>
    rename_i x0 xs0
    cases hk:w04 k with
    | none=>rw [hk] at e;cases e
    | some y =>
     rw [hk] at e
     cases hr:q4J ds with
     | none=>rw [hr] at e;cases e
     | some qs =>
      rw [hr] at e
      cases e
      obtain ⟨pa,kvs,h1,h2,h3,h4⟩:=w3T r2 hr
      obtain ⟨a,vs0,rfl,ha,ra⟩:∃ a vs0,x0=V.ref a/\H a=some (.tup vs0)/\RDs K H vs0 [k,v]:=by
       cases r1 with
       | tuple ha ra=>exact ⟨_,_,rfl,ha,ra⟩
      ·obtain ⟨x1,x2,rfl,q1,q2⟩:=ra.two
       have ek:=w1K hk
       subst ek
       have:=x1F q1
       subst this
       refine ⟨a::pa,(y,x2)::kvs,by rw [h1];rfl,by simp [h2],fun i b kv e1 e2=>?_,.cons q2 h4⟩
       cases i with
       | zero=>cases e1;cases e2;exact ha
       | succ i=>exact h3 i b kv e1 e2
  ·cases e
theorem w8t {K:PySem.W.Frag}{H:Hp}:∀ {kvs:List (Key×V)}{es:List (D×D)}{acc:List (Key×V)}{ds:List (D×D)},RDk K H kvs es->RDk K H acc ds->RDk K H (w3o acc kvs) (es.foldl (fun a p=>x3g a p.1 p.2) ds)
 | [],es,acc,ds,r,r0=>by
  cases r
  exact r0
 | kv::kvs,es,acc,ds,r,r0=>by
  cases r with
  | cons h t =>
   rename_i k0 x0 d0 ds0
   have:=w8t (kvs:=kvs) t (r0.put k0 h)
   exact this
section
variable {c:C}{e:Expr}{g:Rho->R D}{p cpos:Pos}
def w1U (g:Rho->R D):Rho->R D:=fun ρ=>(g ρ).bind q91
theorem x23 (hc:c.X.calm=true) (h:JE c e g) (hg2:Gl c.X "dict") (hm2:c.X.mg "dict"=none) (he:starEach [e] c.X.env=(false,eval e c.X.env)::starEach [] c.X.env:=by rfl) :
  JN c (.Call (.Name "dict" p) [e] [] cpos) (w1U g):=.of fun ρ=>by
 refine mPE (q8A (w3S hc) hg2 hm2 PyProof.Rows.boot_dict (q2i (h ρ) q3u he) (he:=he)) fun σ H Q h_1=>?_
 obtain ⟨H0,Hs0,la,Hs,f,q⟩:=h_1
 dsimp only [L2.tCB,L2.x3p,L2.x9A]
 refine x3M f q fun d v H1 Hs1 e1 s1 f1 r1=>?_
 unfold w1U at q
 rw [e1,bind_ok] at q
 unfold q91 at q
 split at q
 ·rename_i ds
  by_cases hz:ds.length<=1000
  ·rw [if_pos hz] at q
   split at q
   ·rename_i ps hs
    obtain ⟨a,vs0,rfl,qa,ra⟩:∃ a vs0,v=V.ref a/\SqL c.X.K Hs1 a vs0/\RDs c.X.K Hs1 vs0 ds:=by
     cases r1 with
     | list qa ra=>exact ⟨_,_,rfl,qa,ra⟩
    ·obtain ⟨pa,kvs,rfl,h2,h3,h4⟩:=w3T ra hs
     have h5:=w8t h4 (RDk.nil (K:=c.X.K) (H:=Hs1))
     rw [List.foldl_map] at h5
     refine ⟨a,pa,kvs,rfl,?_,h2,?_,fun i b kv e1 e2=>f1.st.sub _ _ (h3 i b kv e1 e2),fun l hl=>q l _ H1 Hs1 s1 hl (.dK h5)⟩
     ·exact q29.seq f1.st.sub qa
     ·have:=ra.length
      rw [List.length_map] at this
      omega
   ·exact q.elim
  ·rw [if_neg hz] at q;exact q.elim
 ·exact q.elim
end
end J
namespace L2
open PySem PySem.Spec PyProof.Rows
def y0s (K:PySem.W.Frag) (a:Addr):It :=
 ⟨fun i H=>∃ xs x,SqL K H a xs/\xs[i]?=some x,fun i H v H'=>∃ p,H p=none/\v=.ref p/\∀ xs,SqL K H a xs->∃ x,xs[i]?=some x/\H'=upd H p (.tup [.int i,x]),fun i H=>∃ xs,SqL K H a xs/\xs.length<=i⟩
theorem w9k {P:Program}{w:World}{K:PySem.W.Frag}{elts:List Expr}{x1}{pos:Pos} (a e it:Addr) (hei:e≠it):x0Q P w K (.Tuple elts x1 pos) (y0s K a) [e,it] e (fun i h=>(∃ old,IsEnum h e it i old)/\h.IsListIter it a i) where
 mem:=by simp
 obj:=fun i h st b hb=>by
  simp only [List.mem_cons,List.not_mem_nil,or_false] at hb
  rcases hb with rfl | rfl
  ·obtain ⟨⟨old,q⟩,_⟩:=st
   exact ⟨_,q,fun v z=>by cases z⟩
  ·obtain ⟨_,o,q,_,d⟩:=st
   exact ⟨o,q,fun v z=>by rw [d] at z;cases z⟩
 keep:=fun i h h' st k=>⟨let ⟨old,q⟩:=st.1;⟨old,k e (by simp) _ q⟩,let ⟨o,q,r⟩:=st.2;⟨o,k it (by simp) o q,r⟩⟩
 item:=by
  intro X hP hw hK hc i pins s σ H E I hf st hg
  subst hP hw hK
  obtain ⟨xs,x,hq,hx⟩:=hg
  obtain ⟨its,rv,p,hz⟩:=I.list hq
  obtain ⟨u,hu,ru⟩:=rv.get hx
  obtain ⟨⟨old,he⟩,hit⟩:=st
  have hit0:=hit
  obtain ⟨oi,ei,_⟩:=hit0
  have he0:=Heap.lt_size he
  refine wpAny_pyNext_enum_item he hit p.isList (by simpa using hu) hei ?_
  intro h1 eo st1 tup sz k1
  refine ⟨_,rfl,wpAny_letOwnedTupleGo_enum eo fun h2 e2 sb2=>?_⟩
  have szn:s.heap.objs.size≠e:=Nat.ne_of_gt he0
  have I2:Inv X pins σ H { s with heap:=h2,toks:=s.toks + 1 }:=I.turnedL (ch:=[e,it]) (fun b o hb q=>by
   simp only [List.mem_cons,List.not_mem_nil,or_false,not_or] at hb
   exact (sb2.2 b hb.1).trans (k1 b o hb.1 hb.2 q)) hf
  have fT:=I.fpOk (H':=H) (Nat.le_refl _) (I.hok.fresh (Nat.le_refl _))
  have tup2:h2.get? s.heap.objs.size=some { cls:=.type "tuple",data:=.seq #[.int i s.toks,u] }:=(sb2.2 _ szn).trans tup
  have I3:=I2.track (ho:=.tup [.int i,x]) fT ⟨by show 2<=sizeLine;decide,[.int i s.toks,u],.cons ⟨s.toks,rfl⟩ (.cons ru .nil),⟨_,tup2,rfl,0,rfl⟩⟩
  refine ⟨.ref s.heap.objs.size,_,I3,rfl,⟨_,fT.1,rfl,fun ys hy=>?_⟩,⟨⟨u,?_⟩,?_⟩,fun b hb=>?_⟩
  ·rw [I.list_inj hy hq];exact ⟨x,hx,rfl⟩
  ·have:(((i + 1:Nat):Int))=(i:Int) + 1:=by omega
   rw [this];exact e2
  ·obtain ⟨o,q,r⟩:=st1
   exact ⟨o,(sb2.2 it (Ne.symm hei)).trans q,r⟩
  ·rw [q0j]
   ·exact (hf b hb).1
   ·simp only [List.mem_cons,List.not_mem_nil,or_false] at hb
    rcases hb with z | z
    ·rw [z];exact Nat.ne_of_lt he0
    ·rw [z];exact Nat.ne_of_lt (Heap.lt_size ei)
 done:=by
  intro X hP hw hK hc i pins s σ H E I hf st hg
  subst hP hw hK
  obtain ⟨xs,hq,hx⟩:=hg
  obtain ⟨its,rv,p,hz⟩:=I.list hq
  obtain ⟨⟨old,he⟩,hit⟩:=st
  have hl:=rv.length
  refine wpAny_pyNext_enum_end (by simpa using I.ok.hd hc) he hit p.isList (by simp;omega) fun h' eb=>?_
  exact ⟨rfl,I.turnedL (t':=s.toks) (ch:=[e,it]) (fun b o hb q=>eb b o (by
   simp only [List.mem_cons,List.not_mem_nil,or_false,not_or] at hb;exact hb.2) q) hf⟩
 self:=fun _ _ _ _ _ st h=>let ⟨⟨_,q⟩,_⟩:=st;wpAny_pyIter_enum q h
def x94 (K:PySem.W.Frag) (ta:TA):TI:=fun σ H R=>ta σ H fun vs H1=>∃ a xs,vs=[.ref a]/\SqL K H1 a xs/\R (y0s K a) H1
theorem x42 {X:Cx}{elts:List Expr}{x1}{tpos p pos:Pos}{a:Expr}{ta:TA} (hg:Gl X "enumerate") (hm:X.mg "enumerate"=none) (ha:PA X [a] ta) (hs:starEach [a] X.env=[(false,eval a X.env)]:=by rfl) :
  PI X (.Tuple elts x1 tpos) (.Call (.Name "enumerate" p) [a] [] pos) (x94 X.K ta):=by
 intro pins s σ H R I h
 refine Call_ (q7A I hg hm boot_enumerate (PyProof.Rows.callWith_type1 (thn (ha pos pins s σ H _ I h) fun us s1 h1=>?_) hs rfl))
 obtain ⟨vs,H1,I1,r1,q1⟩:=h1
 obtain ⟨ad,xs,rfl,hq,q⟩:=q1
 obtain ⟨u,rfl,rx⟩:=q4A r1
 cases rx
 obtain ⟨its,rv,tp,hz⟩:=I1.list hq
 refine call_enumerate_list tp.isList fun h' e1 t1 sz kp=>?_
 refine wpAny_pyIter_enum e1 ?_
 have I2:Inv X pins σ H1 { s1 with heap:=h' }:=I1.kept (t':=s1.toks) kp
 refine ⟨s1.heap.objs.size + 1,[s1.heap.objs.size + 1,s1.heap.objs.size],_,_,H1,rfl,I2,w9k ad _ _ (Nat.ne_of_gt (Nat.lt_succ_self _)),⟨⟨.none,e1⟩,t1⟩,fun b hb=>?_,q⟩
 simp only [List.mem_cons,List.not_mem_nil,or_false] at hb
 rcases hb with z | z
 ·rw [z];exact I1.fpOk (Nat.le_succ _) (I1.hok.fresh (Nat.le_succ _))
 ·rw [z];exact I1.fpOk (Nat.le_refl _) (I1.hok.fresh (Nat.le_refl _))
end L2
namespace J
open PySem L2
theorem x43 {K:PySem.W.Frag}{Hn Hs:Hp}{a:Addr}{vs:List V}{ds:List D} (h:SqL K Hn a vs) (r:RDs K Hs vs ds):ItD K (y0s K a) (q3F 0 ds) Hn Hs:=fun H2 Hs2 e1 e2 e3=>by
 have q:=e1.seq h
 have hl:=q8V ds 0
 refine ⟨fun i hi=>?_,fun i hi=>⟨vs,q,by rw [r.length];omega⟩,fun i x H3 hi y=>?_⟩
 ·have hi':i<vs.length:=by rw [r.length];omega
  exact ⟨vs,vs[i],q,List.getElem?_eq_getElem hi'⟩
 ·obtain ⟨p,hp,rfl,y⟩:=y
  obtain ⟨x,k0,rfl⟩:=y vs q
  obtain ⟨d,k1,k2⟩:=r.get k0
  have st:=q1G.new (o:=.tup [.int i,x]) e3 hp
  refine ⟨.tuple [.int i,d],_,?_,st,.tuple q0g (.cons (.int _) (.cons ((k2.same e2).same st.sh) .nil))⟩
  rw [q8U,k1]
  simp
section
variable {c:C}{a:Expr}{gs:Rho->R (List D)}{p pos:Pos}
def x9F:List D->R (List D)
 | [.list ds]=>.ok (q3F 0 ds)
 | _=>.no
def x44 (gs:Rho->R (List D)):Rho->R (List D):=fun ρ=>(gs ρ).bind x9F
theorem x24 {elts:List Expr}{x1}{tpos:Pos} (hg:Gl c.X "enumerate") (hm:c.X.mg "enumerate"=none) (ha:JAs c [a] gs) (hs:starEach [a] c.X.env=[(false,eval a c.X.env)]:=by rfl):JIs c (.Tuple elts x1 tpos) (.Call (.Name "enumerate" p) [a] [] pos) (x44 gs):=.of fun ρ=>mPI (x42 hg hm (ha ρ) hs) fun σ H Q h_20=>by
 obtain ⟨H0,Hs0,la,Hs,f,q⟩:=h_20
 refine x3N f q fun ds vs H1 Hs1 e1 s1 f1 r1=>?_
 unfold x44 at q
 rw [e1,bind_ok] at q
 unfold x9F at q
 split at q
 ·obtain ⟨x,rfl,rx⟩:=r1.one
  cases rx with
  | list qa ra=>exact ⟨_,_,rfl,q29.seq f1.st.sub qa,q _ H1 Hs1 s1 (x43 qa ra)⟩
 ·exact q.elim
end
end J
namespace L2
open PySem PySem.Spec PyProof.Rows
def Itv (K:PySem.W.Frag) (a:Addr) (n:Nat):It :=
 ⟨fun i H=>i<n/\∃ xs,SqL K H a xs/\xs.length=n,fun i H x H'=>H'=H/\∀ xs,SqL K H a xs->xs.reverse[i]?=some x,fun i H=>n<=i⟩
theorem w8u {P:Program}{w:World}{K:PySem.W.Frag}{tg:Expr} (a it:Addr) (n:Nat):x0Q P w K tg (Itv K a n) [it] it (fun i h=>h.IsRevIter it a ((n:Int) - 1 - i)/\i<=n) where
 mem:=by simp
 obj:=fun i h st b hb=>by
  have e:b=it:=by simpa using hb
  subst e
  obtain ⟨⟨o,e,c,d⟩,_⟩:=st
  exact ⟨o,e,fun v z=>by rw [d] at z;cases z⟩
 keep:=fun i h h' st k=>⟨st.1.at fun o e=>k it (by simp) o e,st.2⟩
 item:=by
  intro X hP hw hK hc i pins s σ H E I hf st hg
  subst hP hw hK
  obtain ⟨hi,xs,hq,hn⟩:=hg
  obtain ⟨st,_⟩:=st
  obtain ⟨its,rv,p,hz⟩:=I.list hq
  have hj:n - 1 - i<xs.length:=by omega
  obtain ⟨u,hu,ru⟩:=rv.get (List.getElem?_eq_getElem hj)
  obtain ⟨f0,f1,f2,f3,f4,f5⟩:=hf it (by simp)
  have ej:((n:Int) - 1 - i)=((n - 1 - i:Nat):Int):=by omega
  rw [ej] at st
  refine wpAny_pyNext_rev_item st p.isList (x:=u) (by simpa using hu) fun h' st' sb=>?_
  have I1:Inv X pins σ H { s with heap:=h' }:=I.turned (t':=s.toks) (fun b o hb e=>(sb.2 b hb).trans e) f0 f1 f3 f4 f5
  obtain ⟨o,e,c,d⟩:=id st'
  have ej2:(((n - 1 - i:Nat):Int) - 1)=((n:Int) - 1 - ((i + 1:Nat):Int)):=by omega
  rw [ej2] at st'
  refine ⟨u,rfl,x3l (s:={ s with heap:=h' }) e c d (by decide) ⟨_,H,I1,ru,⟨rfl,fun ys hy=>?_⟩,⟨st',hi⟩,fun b hb=>(hf b hb).1⟩⟩
  rw [I.list_inj hy hq,List.getElem?_reverse (by omega),hn]
  exact List.getElem?_eq_getElem hj
 done:=by
  intro X hP hw hK hc i pins s σ H E I hf st hg
  subst hP hw hK
  obtain ⟨st,hi⟩:=st
  obtain rfl:i=n:=Nat.le_antisymm hi hg
  obtain ⟨f0,f1,f2,f3,f4,f5⟩:=hf it (by simp)
  have ej:((i:Int) - 1 - i)=-1:=by omega
  rw [ej] at st
  exact wpAny_pyNext_rev_end (I.ok.hd hc) st fun h' eb=>⟨rfl,I.turned (t':=s.toks) (fun b o hb e=>eb b o hb e) f0 f1 f3 f4 f5⟩
 self:=fun _ _ _ _ _ st h=>wpAny_pyIter_revIter st.1 h
def y1X (K:PySem.W.Frag) (ta:TA):TI:=fun σ H R=>ta σ H fun vs H1=>∃ a xs,vs=[.ref a]/\SqL K H1 a xs/\R (Itv K a xs.length) H1
theorem x95 {X:Cx}{tg:Expr}{p pos:Pos}{a:Expr}{ta:TA} (hg:Gl X "reversed") (hm:X.mg "reversed"=none) (ha:PA X [a] ta) (hs:starEach [a] X.env=[(false,eval a X.env)]:=by rfl) :
  PI X tg (.Call (.Name "reversed" p) [a] [] pos) (y1X X.K ta):=by
 intro pins s σ H R I h
 refine Call_ (q7A I hg hm boot_reversed (PyProof.Rows.callWith_type1 (thn (ha pos pins s σ H _ I h) fun us s1 h1=>?_) hs rfl))
 obtain ⟨vs,H1,I1,r1,q1⟩:=h1
 obtain ⟨ad,xs,rfl,hq,q⟩:=q1
 obtain ⟨u,rfl,rx⟩:=q4A r1
 cases rx
 obtain ⟨its,rv,tp,hz⟩:=I1.list hq
 refine call_reversed_list tp.isList ?_
 have hsz:(its.toArray.size:Int) - 1=(xs.length:Int) - 1 - ((0:Nat):Int):=by
  rw [List.size_toArray,<- rv.length];omega
 have st:(s1.heap.push (revObj ad ((its.toArray.size:Int) - 1))).IsRevIter s1.heap.objs.size ad ((xs.length:Int) - 1 - ((0:Nat):Int)):=by
  rw [<- hsz]
  exact ⟨_,Heap.get?_push_size _ rfl,rfl,rfl⟩
 have I2:Inv X pins σ H1 { s1 with heap:=s1.heap.push (revObj ad ((its.toArray.size:Int) - 1)) }:=I1.kept (t':=s1.toks) fun b o e=>Heap.get?_push_of_some _ e
 refine (w8u (P:=X.prog) (w:=X.w) (K:=X.K) (tg:=tg) ad s1.heap.objs.size xs.length).self _ 0 _ _ _ ⟨st,Nat.zero_le _⟩ ?_
 refine ⟨s1.heap.objs.size,[s1.heap.objs.size],_,_,H1,rfl,I2,w8u ad _ xs.length,⟨st,Nat.zero_le _⟩,fun b hb=>?_,q⟩
 rw [List.mem_singleton.mp hb]
 exact I1.fpOk (Nat.le_refl _) (I1.hok.fresh (Nat.le_refl _))
end L2
namespace J
open PySem L2
theorem x96 {K:PySem.W.Frag}{Hn Hs:Hp}{a:Addr}{vs:List V}{ds:List D} (h:SqL K Hn a vs) (r:RDs K Hs vs ds):ItD K (Itv K a vs.length) ds.reverse Hn Hs:=fun H2 Hs2 e1 e2 e3=>by
 have q:=e1.seq h
 have hl:=r.length
 refine ⟨fun i hi=>?_,fun i hi=>?_,fun i x H3 hi y=>?_⟩
 ·rw [List.length_reverse] at hi
  exact ⟨by omega,vs,q,rfl⟩
 ·rw [List.length_reverse] at hi
  show vs.length<=i
  omega
 ·obtain ⟨rfl,y⟩:=y
  obtain ⟨d,k1,k2⟩:=r.reverse.get (y vs q)
  exact ⟨d,Hs2,k1,.refl e3,k2.same e2⟩
section
variable {c:C}{tg a:Expr}{gs:Rho->R (List D)}{p pos:Pos}
def x9G:List D->R (List D)
 | [.list ds]=>.ok ds.reverse
 | _=>.no
def x45 (gs:Rho->R (List D)):Rho->R (List D):=fun ρ=>(gs ρ).bind x9G
theorem x6S (hg:Gl c.X "reversed") (hm:c.X.mg "reversed"=none) (ha:JAs c [a] gs) (hs:starEach [a] c.X.env=[(false,eval a c.X.env)]:=by rfl):JIs c tg (.Call (.Name "reversed" p) [a] [] pos) (x45 gs):=.of fun ρ=>mPI (x95 hg hm (ha ρ) hs) fun σ H Q h_20=>by
 obtain ⟨H0,Hs0,la,Hs,f,q⟩:=h_20
 refine x3N f q fun ds vs H1 Hs1 e1 s1 f1 r1=>?_
 unfold x45 at q
 rw [e1,bind_ok] at q
 unfold x9G at q
 split at q
 ·obtain ⟨x,rfl,rx⟩:=r1.one
  cases rx with
  | list qa ra=>exact ⟨_,_,rfl,q29.seq f1.st.sub qa,q _ H1 Hs1 s1 (x96 qa ra)⟩
 ·exact q.elim
end
end J
namespace J
open PySem L2
theorem x46 {c:C}{s:Stmt}:JS c s (fun _=>.no):=.of fun ρ pins s σ H D I h=>by
 obtain ⟨H0,Hs0,la,Hs,f,q⟩:=h
 exact q.elim
end J
end
section
namespace Z
open PySem L2 J
def q2U:Rho->R Fl:=(q1k (w9a (q0O (q01 (q1T 1 [1] (gIt (fun ρ=>rdB ρ 0)) (fun _=>.ok true) (g2 (fun ρ=>rdB ρ 0) (fun ρ=>rdB ρ 1) (inD false))) q0e) (on1 (q2k fun bs=>bs.any id)))))
def q0p:List D->R D:=q34 2 q2U
def q6h:Rho->R Fl:=(q1k (q0O (q01 (q1T 1 [1] (gIt (fun ρ=>rdB ρ 0)) (asB (g2 (fun ρ=>rdB ρ 0) (fun ρ=>rdB ρ 1) (inD true))) (fun ρ=>rdS ρ 0)) q0e) (on1 q2y)))
def q2m:List D->R D:=q34 2 q6h
def q8o:Rho->R Fl:=(q1k (q0O (q01 (q3x (x90 (q6f (fun ρ=>rdB ρ 0)) (q6f (fun ρ=>rdB ρ 1)))) q0e) (on1 q2y)))
def q3y:List D->R D:=q34 2 q8o
def q6i:Rho->R Fl:=(q0d (q2l (gOr (q5v (asB (w86 (fun ρ=>rdB ρ 0) "str"))) (q5v (asB (q7I (fun _=>.ok (.int 1)) (q0O (q01 (fun ρ=>rdB ρ 0) q0e) (on1 q83)) (fun _=>.ok (.int 6)) leD leD)))) (q1k (fun _=>.ok (.bool false))) (fun ρ=>.ok (.nx ρ))) (q1k (q0O (q01 (q1T 1 [] (gIt (fun ρ=>rdB ρ 0)) (fun _=>.ok true) (q7I (fun _=>.ok (.str "a")) (fun ρ=>rdB ρ 0) (fun _=>.ok (.str "z")) leD leD)) q0e) (on1 (q2k fun bs=>bs.all id)))))
def q3g:List D->R D:=q34 1 q6i
def q1F:Rho->R Fl:=(q0d (q2l (gOr (q5v (asB (w86 (fun ρ=>rdB ρ 0) "tuple"))) (q5v (asB (q0O (q01 (q1T 1 [] (gIt (fun ρ=>rdB ρ 0)) (fun _=>.ok true) (gFn 1 q3g (q01 (fun ρ=>rdS ρ 0) q0e))) q0e) (on1 (q2k fun bs=>bs.all id)))))) (q1k (fun _=>.ok (.bool false))) (fun ρ=>.ok (.nx ρ))) (q1k (q0O (q01 (q1T 2 [] (x9C (q01 (fun ρ=>rdS ρ 0) (q01 (gSl (fun ρ=>rdB ρ 0) (goS (fun _=>.ok (.int 1))) goN) q0e))) (fun _=>.ok true) (g2 (fun ρ=>rdB ρ 0) (fun ρ=>rdB ρ 1) ltD)) q0e) (on1 (q2k fun bs=>bs.all id)))))
def q0H:List D->R D:=q34 1 q1F
def q45:Rho->R Fl:=(q1k (q6N (gFn 1 q0H (q01 (fun ρ=>rdS ρ 1) q0e)) (q0O (q01 (q1T 1 [0] (gIt (fun ρ=>rdB ρ 1)) (fun _=>.ok true) (g2 (fun ρ=>rdB ρ 0) (fun ρ=>rdB ρ 1) (inD false))) q0e) (on1 (q2k fun bs=>bs.all id)))))
def q0N:List D->R D:=q34 2 q45
def q55:Rho->R Fl:=(q0d (q2l (gOr (q5v (asB (w86 (fun ρ=>rdB ρ 0) "int"))) (asB (w86 (fun ρ=>rdB ρ 0) "bool"))) (q1k (fun _=>.ok (.bool false))) (fun ρ=>.ok (.nx ρ))) (q1k (q7I (fun ρ=>rdB ρ 1) (fun ρ=>rdB ρ 0) (fun ρ=>rdB ρ 2) leD leD)))
def q3S:List D->R D:=q34 3 q55
def q46:Rho->R Fl:=(q0d (q2l (gOr (q5v (asB (w86 (fun ρ=>rdB ρ 1) "tuple"))) (asB (g2 (q0O (q01 (fun ρ=>rdB ρ 1) q0e) (on1 q83)) (fun _=>.ok (.int 6)) (eqD true)))) (q1k (fun _=>.ok (.bool false))) (fun ρ=>.ok (.nx ρ))) (q0d (w9f (fun ρ=>rdS ρ 1) (q6P 6 (q0D (q0q 2) (q0D (q0q 3) (q0D (q0q 4) (q0D (q0q 5) (q0D (q0q 6) (q0D (q0q 7) q84)))))))) (q0d (q2l (gOr (q5v (asB (gFn 1 q3g (q01 (fun ρ=>rdS ρ 2) q0e)))) (q5v (asB (gFn 3 q3S (q01 (fun ρ=>rdS ρ 7) (q01 (fun _=>.ok (.int 0)) (q01 (fun _=>.ok (.int 9)) q0e))))))) (q1k (fun _=>.ok (.bool false))) (fun ρ=>.ok (.nx ρ))) (q0d (q2l (q5v (asB (q0O (q01 (q1T 1 [0] (gIt (q39 (q01 (fun ρ=>rdS ρ 3) (q01 (fun ρ=>rdS ρ 4) (q01 (fun ρ=>rdS ρ 5) (q01 (fun ρ=>rdS ρ 6) q0e)))) .tuple)) (fun _=>.ok true) (gFn 2 q0N (q01 (fun ρ=>rdS ρ 1) (q01 (fun ρ=>rdS ρ 0) q0e)))) q0e) (on1 (q2k fun bs=>bs.all id))))) (q1k (fun _=>.ok (.bool false))) (fun ρ=>.ok (.nx ρ))) (q1k (q6N (gFn 2 q0p (q01 (fun ρ=>rdS ρ 3) (q01 (fun ρ=>rdS ρ 4) q0e))) (gFn 2 q0p (q01 (fun ρ=>rdS ρ 5) (q01 (fun ρ=>rdS ρ 6) q0e)))))))))
def q3h:List D->R D:=q34 8 q46
def q6j:Rho->R Fl:=(q0d (q2l (gOr (q5v (asB (w86 (fun ρ=>rdB ρ 0) "tuple"))) (asB (g2 (q0O (q01 (fun ρ=>rdB ρ 0) q0e) (on1 q83)) (fun _=>.ok (.int 2)) (eqD true)))) (q1k (fun _=>.ok (.bool false))) (fun ρ=>.ok (.nx ρ))) (q0d (w9f (fun ρ=>rdS ρ 0) (q6P 2 (q0D (q0q 1) (q0D (q0q 2) q84)))) (q0d (q2l (gOr (q5v (asB (gFn 1 q0H (q01 (fun ρ=>rdS ρ 1) q0e)))) (asB (g2 (q0O (q01 (fun ρ=>rdB ρ 1) q0e) (on1 q83)) (fun _=>.ok (.int 6)) gtD))) (q1k (fun _=>.ok (.bool false))) (fun ρ=>.ok (.nx ρ))) (q0d (q2l (gOr (q5v (asB (w86 (fun ρ=>rdB ρ 2) "tuple"))) (asB (g2 (q0O (q01 (fun ρ=>rdB ρ 2) q0e) (on1 q83)) (fun _=>.ok (.int 6)) gtD))) (q1k (fun _=>.ok (.bool false))) (fun ρ=>.ok (.nx ρ))) (q0d (q2l (q5v (asB (q0O (q01 (q1T 1 [1] (gIt (fun ρ=>rdB ρ 2)) (fun _=>.ok true) (gFn 2 q3h (q01 (fun ρ=>rdS ρ 1) (q01 (fun ρ=>rdS ρ 0) q0e)))) q0e) (on1 (q2k fun bs=>bs.all id))))) (q1k (fun _=>.ok (.bool false))) (fun ρ=>.ok (.nx ρ))) (q1k (g2 (q8Y (w0N 1 [] (gIt (fun ρ=>rdB ρ 2)) (fun _=>.ok true) (g2 (fun ρ=>rdB ρ 0) (fun _=>.ok (.int 0)) q0f))) (q0O (q01 (fun ρ=>rdB ρ 2) q0e) (on1 q83)) (eqD false))))))))
def q4K:List D->R D:=q34 3 q6j
def q6k:Rho->R Fl:=(q0d (q2l (gOr (q5v (asB (w86 (fun ρ=>rdB ρ 1) "tuple"))) (asB (g2 (q0O (q01 (fun ρ=>rdB ρ 1) q0e) (on1 q83)) (fun _=>.ok (.int 2)) (eqD true)))) (q1k (fun _=>.ok (.bool false))) (fun ρ=>.ok (.nx ρ))) (q0d (w9f (fun ρ=>rdS ρ 1) (q6P 2 (q0D (q0q 2) (q0D (q0q 3) q84)))) (q1k (q6N (gFn 2 q0N (q01 (g2 (fun ρ=>rdB ρ 0) (fun _=>.ok (.int 0)) q0f) (q01 (fun ρ=>rdS ρ 2) q0e))) (q6N (gFn 2 q0N (q01 (g2 (fun ρ=>rdB ρ 0) (fun _=>.ok (.int 0)) q0f) (q01 (fun ρ=>rdS ρ 3) q0e))) (gFn 2 q0p (q01 (fun ρ=>rdS ρ 2) (q01 (fun ρ=>rdS ρ 3) q0e))))))))
def q4L:List D->R D:=q34 4 q6k
def q35:Rho->R Fl:=(q2l (q5v (asB (gFn 2 q0N (q01 (g2 (fun ρ=>rdB ρ 0) (fun _=>.ok (.int 0)) q0f) (q01 (fun ρ=>rdS ρ 1) q0e))))) (w0S "NoState" (q01 (fun _=>.ok (.str "a state is a rising tuple of the book's facts, none twice")) q0e)) (fun ρ=>.ok (.nx ρ)))
def q2n:List D->R D:=q34 2 q35
def q3z:Rho->R Fl:=(q2l (q5v (asB (gFn 2 q4L (q01 (fun ρ=>rdS ρ 0) (q01 (fun ρ=>rdS ρ 1) q0e))))) (w0S "NoWant" (q01 (fun _=>.ok (.str "a want is a tuple of two states with nothing in common")) q0e)) (fun ρ=>.ok (.nx ρ)))
def q1J:List D->R D:=q34 2 q3z
def q2o:Rho->R Fl:=(q0d (q2l (q5v (asB (w86 (fun ρ=>rdB ρ 1) "str"))) (q1k (fun _=>.ok .none)) (fun ρ=>.ok (.nx ρ))) (q0d (w1H (gIt (g2 (fun ρ=>rdB ρ 0) (fun _=>.ok (.int 1)) q0f)) (q0q 2) (q2l (asB (g2 (g2 (fun ρ=>rdB ρ 2) (fun _=>.ok (.int 0)) q0f) (fun ρ=>rdB ρ 1) (eqD false))) (q1k (fun ρ=>rdS ρ 2)) (fun ρ=>.ok (.nx ρ)))) (q1k (fun _=>.ok .none))))
def q10:List D->R D:=q34 3 q2o
def q6l:Rho->R Fl:=(q0d (w9f (fun ρ=>rdS ρ 1) (q6P 2 (q0D (q0q 2) (q0D (q0q 3) q84)))) (q1k (q6N (q0O (q01 (q1T 1 [0] (gIt (fun ρ=>rdB ρ 2)) (fun _=>.ok true) (g2 (fun ρ=>rdB ρ 0) (fun ρ=>rdB ρ 1) (inD false))) q0e) (on1 (q2k fun bs=>bs.all id))) (gFn 2 q0p (q01 (fun ρ=>rdS ρ 3) (q01 (fun ρ=>rdS ρ 0) q0e))))))
def q3i:List D->R D:=q34 4 q6l
def q47:Rho->R Fl:=(q1k (gFn 2 q3i (q01 (fun ρ=>rdS ρ 1) (q01 (q39 (q01 (g2 (fun ρ=>rdB ρ 0) (fun _=>.ok (.int 1)) q0f) (q01 (g2 (fun ρ=>rdB ρ 0) (fun _=>.ok (.int 2)) q0f) q0e)) .tuple) q0e))))
def q1K:List D->R D:=q34 2 q47
def q2Q:Rho->R Fl:=(q0d (x92 2 3 (q01 (g2 (fun ρ=>rdB ρ 0) (fun _=>.ok (.int 3)) q0f) (q01 (g2 (fun ρ=>rdB ρ 0) (fun _=>.ok (.int 4)) q0f) q0e))) (q1k (gFn 2 q3y (q01 (gFn 2 q2m (q01 (fun ρ=>rdS ρ 1) (q01 (fun ρ=>rdS ρ 3) q0e))) (q01 (fun ρ=>rdS ρ 2) q0e)))))
def q0X:List D->R D:=q34 4 q2Q
def q6m:Rho->R Fl:=(q0d (q2l (q5v (asB (gFn 1 q4K (q01 (fun ρ=>rdS ρ 0) q0e)))) (w0S "NoBook" (q01 (fun _=>.ok (.str "a book is a tuple of facts and errands, each as the document tells")) q0e)) (fun ρ=>.ok (.nx ρ))) (q1k (fun ρ=>rdS ρ 0)))
def q3j:List D->R D:=q34 1 q6m
def q36:Rho->R Fl:=(q0d (w03 (gFn 1 q3j (q01 (fun ρ=>rdS ρ 0) q0e))) (w03 (gFn 2 q2n (q01 (fun ρ=>rdS ρ 0) (q01 (fun ρ=>rdS ρ 1) q0e)))))
def q2p:List D->R D:=q34 2 q36
def q48:Rho->R Fl:=(q0d (w03 (gFn 2 q2p (q01 (fun ρ=>rdS ρ 0) (q01 (fun ρ=>rdS ρ 1) q0e)))) (w03 (gFn 2 q1J (q01 (fun ρ=>rdS ρ 0) (q01 (fun ρ=>rdS ρ 2) q0e)))))
def q3k:List D->R D:=q34 3 q48
def q8p:Rho->R Fl:=(q0d (q2l (gOr (q5v (asB (w86 (fun ρ=>rdB ρ 1) "list"))) (asB (g2 (q0O (q01 (fun ρ=>rdB ρ 1) q0e) (on1 q83)) (fun _=>.ok (.int 64)) gtD))) (q1k (fun _=>.ok (.bool false))) (fun ρ=>.ok (.nx ρ))) (q1k (q0O (q01 (q1T 1 [0] (gIt (fun ρ=>rdB ρ 1)) (fun _=>.ok true) (g2 (gFn 2 q10 (q01 (fun ρ=>rdS ρ 1) (q01 (fun ρ=>rdS ρ 0) q0e))) (fun _=>.ok .none) (isD true))) q0e) (on1 (q2k fun bs=>bs.all id)))))
def q6n:List D->R D:=q34 2 q8p
def q3A:Rho->R Fl:=(q0d (q2l (q5v (asB (gFn 2 q6n (q01 (fun ρ=>rdS ρ 0) (q01 (fun ρ=>rdS ρ 1) q0e))))) (fun _=>.no) (fun ρ=>.ok (.nx ρ))) (q1k (q1T 1 [0] (gIt (fun ρ=>rdB ρ 1)) (fun _=>.ok true) (gFn 2 q10 (q01 (fun ρ=>rdS ρ 1) (q01 (fun ρ=>rdS ρ 0) q0e))))))
def q1L:List D->R D:=q34 2 q3A
def q21:Rho->R Fl:=(q0d (q2A 2 (q39 (q01 (fun ρ=>rdS ρ 1) q0e) .list)) (q0d (w3C 0 (q0q 3) (q0d (q2l (q5v (asB (gFn 2 q1K (q01 (fun ρ=>rdS ρ 3) (q01 (g2 (fun ρ=>rdB ρ 2) (w3D (fun _=>.ok (.int 1))) q0f) q0e))))) (q1k (fun ρ=>rdS ρ 2)) (fun ρ=>.ok (.nx ρ))) (w1J 2 (gFn 2 q0X (q01 (fun ρ=>rdS ρ 3) (q01 (g2 (fun ρ=>rdB ρ 2) (w3D (fun _=>.ok (.int 1))) q0f) q0e)))))) (q1k (fun ρ=>rdS ρ 2))))
def q1z:List D->R D:=q34 4 q21
def q56:Rho->R Fl:=(q0d (w9f (gSl (fun ρ=>rdB ρ 0) (goS (fun _=>.ok (.int 1))) (goS (fun _=>.ok (.int 5)))) (q6P 4 (q0D (q0q 2) (q0D (q0q 3) (q0D (q0q 4) (q0D (q0q 5) q84)))))) (q0d (w9f (fun ρ=>rdS ρ 1) (q6P 2 (q0D (q0q 6) (q0D (q0q 7) q84)))) (q0d (q2l (gOr (q5v (asB (gFn 2 q0p (q01 (fun ρ=>rdS ρ 4) (q01 (fun ρ=>rdS ρ 7) q0e))))) (q5v (asB (gFn 2 q0p (q01 (fun ρ=>rdS ρ 5) (q01 (fun ρ=>rdS ρ 6) q0e)))))) (q1k (fun _=>.ok .none)) (fun ρ=>.ok (.nx ρ))) (q0d (q2R 8 (gFn 2 q3y (q01 (fun ρ=>rdS ρ 2) (q01 (gFn 2 q2m (q01 (fun ρ=>rdS ρ 6) (q01 (fun ρ=>rdS ρ 4) q0e))) q0e)))) (q0d (q2R 9 (gFn 2 q3y (q01 (fun ρ=>rdS ρ 3) (q01 (gFn 2 q2m (q01 (fun ρ=>rdS ρ 7) (q01 (fun ρ=>rdS ρ 5) q0e))) q0e)))) (q0d (q2l (q5v (asB (gFn 2 q0p (q01 (fun ρ=>rdS ρ 8) (q01 (fun ρ=>rdS ρ 9) q0e))))) (q1k (fun _=>.ok .none)) (fun ρ=>.ok (.nx ρ))) (q1k (q39 (q01 (fun ρ=>rdS ρ 8) (q01 (fun ρ=>rdS ρ 9) q0e)) .tuple))))))))
def q2C:List D->R D:=q34 10 q56
def q8q:Rho->R Fl:=(q0d (w03 (gFn 3 q3k (q01 (fun ρ=>rdS ρ 0) (q01 (fun ρ=>rdS ρ 1) (q01 (fun ρ=>rdS ρ 2) q0e))))) (q0d (q2R 4 (gFn 2 q1L (q01 (fun ρ=>rdS ρ 0) (q01 (fun ρ=>rdS ρ 3) q0e)))) (q0d (q2R 5 (gFn 2 q1z (q01 (fun ρ=>rdS ρ 4) (q01 (fun ρ=>rdS ρ 1) q0e)))) (q1k (q6N (g2 (q0O (q01 (fun ρ=>rdB ρ 5) q0e) (on1 q83)) (q0O (q01 (fun ρ=>rdB ρ 4) q0e) (on1 q83)) gtD) (gFn 2 q3i (q01 (g2 (fun ρ=>rdB ρ 5) (w3D (fun _=>.ok (.int 1))) q0f) (q01 (fun ρ=>rdS ρ 2) q0e))))))))
def q57:List D->R D:=q34 6 q8q
def w1V:Rho->R Fl:=(q0d (w03 (gFn 1 q3j (q01 (fun ρ=>rdS ρ 0) q0e))) (q0d (w03 (gFn 2 q1J (q01 (fun ρ=>rdS ρ 0) (q01 (fun ρ=>rdS ρ 1) q0e)))) (q0d (q2R 3 (fun ρ=>rdS ρ 1)) (q0d (w1H (x45 (q01 (gFn 2 q1L (q01 (fun ρ=>rdS ρ 0) (q01 (fun ρ=>rdS ρ 2) q0e))) q0e)) (q0q 4) (q0d (q2R 3 (gFn 2 q2C (q01 (fun ρ=>rdS ρ 4) (q01 (fun ρ=>rdS ρ 3) q0e)))) (q2l (asB (g2 (fun ρ=>rdB ρ 3) (fun _=>.ok .none) (isD false))) (q1k (fun _=>.ok .none)) (fun ρ=>.ok (.nx ρ))))) (q1k (fun ρ=>rdS ρ 3))))))
def q6U:List D->R D:=q34 5 w1V
def q37:Rho->R Fl:=(q0d (q2l (asB (g2 (fun ρ=>rdB ρ 1) (q0O (q01 (fun ρ=>rdB ρ 0) q0e) (on1 q83)) ltD)) (q1k (g2 (fun ρ=>rdB ρ 0) (fun ρ=>rdB ρ 1) q0f)) (fun ρ=>.ok (.nx ρ))) (q0d (q2l (asB (g2 (fun ρ=>rdB ρ 0) (q39 q0e .list) (eqD false))) (q1k (fun _=>.ok (.int 0))) (fun ρ=>.ok (.nx ρ))) (q1k (g2 (g2 (g2 (fun ρ=>rdB ρ 0) (g2 (fun ρ=>rdB ρ 1) (q0O (q01 (fun ρ=>rdB ρ 0) q0e) (on1 q83)) x7p) q0f) (fun _=>.ok (.int 31)) x0I) (fun ρ=>rdB ρ 1) q2v))))
def q2q:List D->R D:=q34 2 q37
def q49:Rho->R Fl:=(q0d (q2R 3 (g2 (g2 (g2 (g2 (gFn 2 q2q (q01 (fun ρ=>rdS ρ 0) (q01 (fun ρ=>rdS ρ 1) q0e))) (g2 (fun _=>.ok (.int 7919)) (fun ρ=>rdB ρ 1) x0I) q2v) (fun _=>.ok (.int 1)) q2v) (fun _=>.ok (.int 48271)) x0I) (fun _=>.ok (.int 2147483647)) x7p)) (q1k (g2 (g2 (g2 (g2 (g2 (fun ρ=>rdB ρ 3) (fun ρ=>rdB ρ 3) x0I) (g2 (fun _=>.ok (.int 7)) (fun ρ=>rdB ρ 3) x0I) q2v) (fun ρ=>rdB ρ 1) q2v) (fun _=>.ok (.int 2147483629)) x7p) (fun ρ=>rdB ρ 2) x7p)))
def q07:List D->R D:=q34 4 q49
def q58:Rho->R Fl:=(q0d (q2R 2 (fun _=>.ok (.str ""))) (q0d (w1H (w1D (q01 (g2 (q39 (q01 (fun _=>.ok (.int 1)) (q01 (fun _=>.ok (.int 2)) (q01 (fun _=>.ok (.int 3)) (q01 (fun _=>.ok (.int 6)) (q01 (fun _=>.ok (.int 1)) (q01 (fun _=>.ok (.int 4)) q0e)))))) .list) (gFn 3 q07 (q01 (fun ρ=>rdS ρ 0) (q01 (fun ρ=>rdS ρ 1) (q01 (fun _=>.ok (.int 6)) q0e)))) q0f) q0e)) (q0q 3) (q2R 2 (g2 (fun ρ=>rdB ρ 2) (g2 (fun _=>.ok (.str "abcdefghijklmnopqrstuvwxyz")) (gFn 3 q07 (q01 (fun ρ=>rdS ρ 0) (q01 (g2 (g2 (fun ρ=>rdB ρ 1) (fun _=>.ok (.int 1)) q2v) (fun ρ=>rdB ρ 3) q2v) (q01 (fun _=>.ok (.int 26)) q0e)))) q0f) q2v))) (q1k (fun ρ=>rdS ρ 2))))
def q2a:List D->R D:=q34 4 q58
def q4a:Rho->R Fl:=(q0d (q2A 3 (fun _=>.ok (.dict []))) (q0d (w1H (w1D (q01 (gFn 3 q07 (q01 (fun ρ=>rdS ρ 0) (q01 (fun ρ=>rdS ρ 1) (q01 (g2 (fun ρ=>rdB ρ 2) (fun _=>.ok (.int 1)) q2v) q0e)))) q0e)) (q0q 4) (x3Q 3 (gFn 2 q2a (q01 (fun ρ=>rdS ρ 0) (q01 (g2 (g2 (fun ρ=>rdB ρ 1) (fun _=>.ok (.int 1)) q2v) (g2 (fun _=>.ok (.int 8)) (fun ρ=>rdB ρ 4) x0I) q2v) q0e))) (fun _=>.ok (.bool true)))) (q1k (q0O (q01 (q0O (q01 (q0O (q01 (fun ρ=>rdB ρ 3) q0e) (on1 q3I)) q0e) (on1 q6O)) q0e) (on1 q2y)))))
def q3l:List D->R D:=q34 5 q4a
def q59:Rho->R Fl:=(q1k (q0O (q01 (q1T 2 [0,1,3] (x6J (q01 (fun ρ=>rdS ρ 2) q0e)) (asB (g2 (gFn 3 q07 (q01 (fun ρ=>rdS ρ 2) (q01 (g2 (fun ρ=>rdB ρ 3) (fun ρ=>rdB ρ 0) q2v) (q01 (fun _=>.ok (.int 12)) q0e)))) (fun ρ=>rdB ρ 4) ltD)) (fun ρ=>rdS ρ 1)) q0e) (on1 q2y)))
def q3T:List D->R D:=q34 4 q59
def q5a:Rho->R Fl:=(q0d (q2R 4 (g2 (fun ρ=>rdB ρ 2) (gFn 3 q07 (q01 (fun ρ=>rdS ρ 0) (q01 (g2 (fun ρ=>rdB ρ 1) (fun _=>.ok (.int 10)) q2v) (q01 (q0O (q01 (fun ρ=>rdB ρ 2) q0e) (on1 q83)) q0e)))) q0f)) (q0d (q2R 5 (g2 (fun ρ=>rdB ρ 2) (gFn 3 q07 (q01 (fun ρ=>rdS ρ 0) (q01 (g2 (fun ρ=>rdB ρ 1) (fun _=>.ok (.int 11)) q2v) (q01 (q0O (q01 (fun ρ=>rdB ρ 2) q0e) (on1 q83)) q0e)))) q0f)) (q0d (q2R 6 (g2 (fun ρ=>rdB ρ 2) (gFn 3 q07 (q01 (fun ρ=>rdS ρ 0) (q01 (g2 (fun ρ=>rdB ρ 1) (fun _=>.ok (.int 12)) q2v) (q01 (q0O (q01 (fun ρ=>rdB ρ 2) q0e) (on1 q83)) q0e)))) q0f)) (q0d (q2R 7 (gSl (q39 (q01 (fun ρ=>rdS ρ 4) (q01 (fun ρ=>rdS ρ 5) q0e)) .list) goN (goS (g2 (fun _=>.ok (.int 1)) (g2 (gFn 3 q07 (q01 (fun ρ=>rdS ρ 0) (q01 (g2 (fun ρ=>rdB ρ 1) (fun _=>.ok (.int 13)) q2v) (q01 (fun _=>.ok (.int 3)) q0e)))) (fun _=>.ok (.int 2)) x6D) q2v)))) (q0d (q2A 8 (q1T 1 [7,0,1] (gIt (q39 (q01 (fun ρ=>rdS ρ 6) q0e) .list)) (x1n (asB (g2 (fun ρ=>rdB ρ 0) (fun ρ=>rdB ρ 1) (inD true))) (asB (g2 (gFn 3 q07 (q01 (fun ρ=>rdS ρ 2) (q01 (g2 (fun ρ=>rdB ρ 3) (fun _=>.ok (.int 14)) q2v) (q01 (fun _=>.ok (.int 4)) q0e)))) (fun _=>.ok (.int 0)) (eqD false)))) (fun ρ=>rdS ρ 0))) (q0d (q2A 9 (q1T 1 [6,0,1] (gIt (q39 (q01 (fun ρ=>rdS ρ 4) q0e) .list)) (x1n (asB (g2 (fun ρ=>rdB ρ 0) (fun ρ=>rdB ρ 1) (eqD true))) (asB (g2 (gFn 3 q07 (q01 (fun ρ=>rdS ρ 2) (q01 (g2 (fun ρ=>rdB ρ 3) (fun _=>.ok (.int 15)) q2v) (q01 (fun _=>.ok (.int 3)) q0e)))) (fun _=>.ok (.int 0)) (eqD false)))) (fun ρ=>rdS ρ 0))) (q0d (gAt 8 (gAt 9 (q2A 10 (q1T 1 [] (gIt (q39 (q01 (fun ρ=>rdS ρ 7) (q01 (fun ρ=>rdS ρ 8) (q01 (q39 (q01 (fun ρ=>rdS ρ 6) q0e) .list) (q01 (fun ρ=>rdS ρ 9) q0e)))) .tuple)) (fun _=>.ok true) (q0O (q01 (q3x (q6f (fun ρ=>rdB ρ 0))) q0e) (on1 q2y)))))) (q1k (q39 (q01 (fun ρ=>rdS ρ 3) (q01 (g2 (fun ρ=>rdB ρ 10) (fun _=>.ok (.int 0)) q0f) (q01 (g2 (fun ρ=>rdB ρ 10) (fun _=>.ok (.int 1)) q0f) (q01 (g2 (fun ρ=>rdB ρ 10) (fun _=>.ok (.int 2)) q0f) (q01 (g2 (fun ρ=>rdB ρ 10) (fun _=>.ok (.int 3)) q0f) (q01 (gFn 3 q07 (q01 (fun ρ=>rdS ρ 0) (q01 (fun ρ=>rdS ρ 1) (q01 (fun _=>.ok (.int 5)) q0e)))) q0e)))))) .tuple)))))))))
def q3U:List D->R D:=q34 11 q5a
def q2b:Rho->R Fl:=(q0d (q2l (x1n (asB (g2 (fun ρ=>rdB ρ 2) (q39 q0e .tuple) (eqD true))) (asB (g2 (gFn 3 q07 (q01 (fun ρ=>rdS ρ 0) (q01 (fun _=>.ok (.int 97)) (q01 (fun _=>.ok (.int 2)) q0e)))) (fun _=>.ok (.int 0)) (eqD false)))) (q1k (gFn 4 q3U (q01 (fun ρ=>rdS ρ 0) (q01 (fun ρ=>rdS ρ 1) (q01 (fun ρ=>rdS ρ 2) (q01 (fun ρ=>rdS ρ 3) q0e)))))) (fun ρ=>.ok (.nx ρ))) (q0d (x9D 4) (q0d (w1H (x6J (q01 (fun ρ=>rdS ρ 2) q0e)) (q6P 2 (q0D (q0q 5) (q0D (q0q 6) q84))) (q0d (q2R 7 (gFn 3 q07 (q01 (fun ρ=>rdS ρ 0) (q01 (g2 (g2 (fun ρ=>rdB ρ 1) (fun _=>.ok (.int 10)) q2v) (fun ρ=>rdB ρ 5) q2v) (q01 (fun _=>.ok (.int 8)) q0e))))) (q0d (q2l (asB (g2 (fun ρ=>rdB ρ 7) (fun _=>.ok (.int 3)) ltD)) (q6S 4 (g2 (q39 (q01 (fun _=>.ok (.int 0)) (q01 (fun _=>.ok (.int 0)) (q01 (fun _=>.ok (.int 1)) q0e))) .list) (fun ρ=>rdB ρ 7) q0f) (fun ρ=>rdS ρ 6)) (fun ρ=>.ok (.nx ρ))) (q0d (q2R 7 (gFn 3 q07 (q01 (fun ρ=>rdS ρ 0) (q01 (g2 (g2 (fun ρ=>rdB ρ 1) (fun _=>.ok (.int 20)) q2v) (fun ρ=>rdB ρ 5) q2v) (q01 (fun _=>.ok (.int 8)) q0e))))) (q2l (asB (g2 (fun ρ=>rdB ρ 7) (fun _=>.ok (.int 4)) ltD)) (q6S 4 (g2 (q39 (q01 (fun _=>.ok (.int 2)) (q01 (fun _=>.ok (.int 2)) (q01 (fun _=>.ok (.int 3)) (q01 (fun _=>.ok (.int 3)) q0e)))) .list) (fun ρ=>rdB ρ 7) q0f) (fun ρ=>rdS ρ 6)) (fun ρ=>.ok (.nx ρ))))))) (q0d (fun ρ=>(q2A 8 (q1T 1 [] (gIt (fun ρ=>rdB ρ 4)) (fun _=>.ok true) (q0O (q01 (fun ρ=>rdB ρ 0) q0e) (on1 q2y)))) (q1q ρ)) (q1k (q39 (q01 (fun ρ=>rdS ρ 3) (q01 (g2 (fun ρ=>rdB ρ 8) (fun _=>.ok (.int 0)) q0f) (q01 (g2 (fun ρ=>rdB ρ 8) (fun _=>.ok (.int 1)) q0f) (q01 (g2 (fun ρ=>rdB ρ 8) (fun _=>.ok (.int 2)) q0f) (q01 (g2 (fun ρ=>rdB ρ 8) (fun _=>.ok (.int 3)) q0f) (q01 (gFn 3 q07 (q01 (fun ρ=>rdS ρ 0) (q01 (fun ρ=>rdS ρ 1) (q01 (fun _=>.ok (.int 5)) q0e)))) q0e)))))) .tuple))))))
def q1M:List D->R D:=q34 9 q2b
def q3V:Rho->R Fl:=(q0d (q2R 4 (gFn 3 q3l (q01 (fun ρ=>rdS ρ 0) (q01 (fun ρ=>rdS ρ 1) (q01 (fun ρ=>rdS ρ 2) q0e))))) (q0d (q2A 5 (fun _=>.ok (.dict []))) (q0d (w1H (w1D (q01 (gFn 3 q07 (q01 (fun ρ=>rdS ρ 0) (q01 (g2 (fun ρ=>rdB ρ 1) (fun _=>.ok (.int 60)) q2v) (q01 (g2 (fun ρ=>rdB ρ 3) (fun _=>.ok (.int 1)) q2v) q0e)))) q0e)) (q0q 6) (q0d (q2R 7 (gFn 2 q2a (q01 (fun ρ=>rdS ρ 0) (q01 (g2 (g2 (fun ρ=>rdB ρ 1) (fun _=>.ok (.int 70)) q2v) (g2 (fun _=>.ok (.int 40)) (fun ρ=>rdB ρ 6) x0I) q2v) q0e)))) (x3Q 5 (fun ρ=>rdS ρ 7) (gFn 4 q1M (q01 (fun ρ=>rdS ρ 0) (q01 (g2 (g2 (fun ρ=>rdB ρ 1) (fun _=>.ok (.int 80)) q2v) (g2 (fun _=>.ok (.int 40)) (fun ρ=>rdB ρ 6) x0I) q2v) (q01 (fun ρ=>rdS ρ 4) (q01 (fun ρ=>rdS ρ 7) q0e)))))))) (q0d (q2R 8 (q0O (q01 (fun ρ=>rdB ρ 5) q0e) (on1 q3I))) (q0d (q2R 9 (gFn 3 q07 (q01 (fun ρ=>rdS ρ 0) (q01 (g2 (fun ρ=>rdB ρ 1) (fun _=>.ok (.int 61)) q2v) (q01 (g2 (q0O (q01 (fun ρ=>rdB ρ 8) q0e) (on1 q83)) (fun _=>.ok (.int 1)) q2v) q0e))))) (q1k (q39 (q01 (fun ρ=>rdS ρ 4) (q01 (q0O (q01 (q1T 1 [5] (gIt (g2 (gSl (fun ρ=>rdB ρ 8) (goS (fun ρ=>rdS ρ 9)) goN) (gSl (fun ρ=>rdB ρ 8) goN (goS (fun ρ=>rdS ρ 9))) q2v)) (fun _=>.ok true) (g2 (fun ρ=>rdB ρ 1) (fun ρ=>rdB ρ 0) q0f)) q0e) (on1 q2y)) q0e)) .tuple)))))))
def q3a:List D->R D:=q34 10 q3V
def q3W:Rho->R Fl:=(q0d (q2A 3 (q39 q0e .list)) (q0d (q2A 4 (q39 q0e .list)) (q0d (w1H (x6J (q01 (fun ρ=>rdS ρ 2) q0e)) (q6P 2 (q0D (q0q 5) (q0D (q0q 6) q84))) (q0d (q2R 7 (gFn 3 q07 (q01 (fun ρ=>rdS ρ 0) (q01 (g2 (fun ρ=>rdB ρ 1) (fun ρ=>rdB ρ 5) q2v) (q01 (fun _=>.ok (.int 8)) q0e))))) (q2l (asB (g2 (fun ρ=>rdB ρ 7) (fun _=>.ok (.int 2)) ltD)) (w1J 3 (fun ρ=>rdS ρ 6)) (q2l (asB (g2 (fun ρ=>rdB ρ 7) (fun _=>.ok (.int 2)) (eqD false))) (w1J 4 (fun ρ=>rdS ρ 6)) (fun ρ=>.ok (.nx ρ)))))) (q1k (q39 (q01 (q0O (q01 (fun ρ=>rdB ρ 3) q0e) (on1 q2y)) (q01 (q0O (q01 (fun ρ=>rdB ρ 4) q0e) (on1 q2y)) q0e)) .tuple)))))
def q5b:List D->R D:=q34 8 q3W
def q5c:Rho->R Fl:=(q0d (q2R 3 (gFn 4 q3a (q01 (fun ρ=>rdS ρ 0) (q01 (fun _=>.ok (.int 100)) (q01 (fun ρ=>rdS ρ 1) (q01 (fun ρ=>rdS ρ 2) q0e)))))) (q0d (q2R 4 (gFn 4 q3T (q01 (fun ρ=>rdS ρ 0) (q01 (fun _=>.ok (.int 20)) (q01 (g2 (fun ρ=>rdB ρ 3) (fun _=>.ok (.int 0)) q0f) (q01 (g2 (q39 (q01 (fun _=>.ok (.int 2)) (q01 (fun _=>.ok (.int 4)) q0e)) .list) (gFn 3 q07 (q01 (fun ρ=>rdS ρ 0) (q01 (fun _=>.ok (.int 97)) (q01 (fun _=>.ok (.int 2)) q0e)))) q0f) q0e)))))) (q1k (q39 (q01 (fun ρ=>rdS ρ 3) (q01 (fun ρ=>rdS ρ 4) (q01 (gFn 3 q5b (q01 (fun ρ=>rdS ρ 0) (q01 (fun _=>.ok (.int 30)) (q01 (g2 (fun ρ=>rdB ρ 3) (fun _=>.ok (.int 0)) q0f) q0e)))) q0e))) .tuple))))
def q3b:List D->R D:=q34 5 q5c
def q5d:Rho->R Fl:=(q1k (q6N (q0O (q01 (q1T 1 [0] (gIt (g2 (fun ρ=>rdB ρ 1) (fun _=>.ok (.int 0)) q0f)) (fun _=>.ok true) (g2 (fun ρ=>rdB ρ 0) (fun ρ=>rdB ρ 1) (inD false))) q0e) (on1 (q2k fun bs=>bs.all id))) (w9a (q0O (q01 (q1T 1 [0] (gIt (g2 (fun ρ=>rdB ρ 1) (fun _=>.ok (.int 1)) q0f)) (fun _=>.ok true) (g2 (fun ρ=>rdB ρ 0) (fun ρ=>rdB ρ 1) (inD false))) q0e) (on1 (q2k fun bs=>bs.any id))))))
def q1B:List D->R D:=q34 2 q5d
def q5e:Rho->R Fl:=(q0d (q2l (q5v (asB (gFn 2 q1B (q01 (fun ρ=>rdS ρ 1) (q01 (gSl (fun ρ=>rdB ρ 0) (goS (fun _=>.ok (.int 1))) (goS (fun _=>.ok (.int 3)))) q0e))))) (q1k (fun _=>.ok .none)) (fun ρ=>.ok (.nx ρ))) (q0d (q2A 2 (q1T 1 [0] (gIt (fun ρ=>rdB ρ 1)) (asB (g2 (fun ρ=>rdB ρ 0) (g2 (fun ρ=>rdB ρ 1) (fun _=>.ok (.int 4)) q0f) (inD true))) (fun ρ=>rdS ρ 0))) (q1k (q0O (q01 (q3x (q6f (g2 (fun ρ=>rdB ρ 2) (q0O (q01 (g2 (fun ρ=>rdB ρ 0) (fun _=>.ok (.int 3)) q0f) q0e) (on1 q3I)) q2v))) q0e) (on1 q2y)))))
def q0Q:List D->R D:=q34 3 q5e
def q5f:Rho->R Fl:=(q0d (q2A 5 (q39 q0e .list)) (q0d (w1H (w1D (q01 (fun ρ=>rdB ρ 4) q0e)) (q0q 6) (q0d (q2A 7 (q1T 1 [3] (gIt (g2 (fun ρ=>rdB ρ 2) (fun _=>.ok (.int 1)) q0f)) (asB (g2 (gFn 2 q0Q (q01 (fun ρ=>rdS ρ 0) (q01 (fun ρ=>rdS ρ 1) q0e))) (fun _=>.ok .none) (isD true))) (fun ρ=>rdS ρ 0))) (q0d (q2l (asB (g2 (fun ρ=>rdB ρ 7) (q39 q0e .list) (eqD false))) (q1k (fun ρ=>rdS ρ 5)) (fun ρ=>.ok (.nx ρ))) (q0d (q2R 8 (g2 (fun ρ=>rdB ρ 7) (gFn 3 q07 (q01 (fun ρ=>rdS ρ 0) (q01 (g2 (fun ρ=>rdB ρ 1) (fun ρ=>rdB ρ 6) q2v) (q01 (q0O (q01 (fun ρ=>rdB ρ 7) q0e) (on1 q83)) q0e)))) q0f)) (q0d (w1J 5 (g2 (fun ρ=>rdB ρ 8) (fun _=>.ok (.int 0)) q0f)) (q2R 3 (gFn 2 q0Q (q01 (fun ρ=>rdS ρ 8) (q01 (fun ρ=>rdS ρ 3) q0e))))))))) (q1k (fun ρ=>rdS ρ 5))))
def q3c:List D->R D:=q34 9 q5f
def q3B:Rho->R Fl:=(q0d (q2A 3 (w1U (q1T 1 [] (gIt (g2 (fun ρ=>rdB ρ 0) (fun _=>.ok (.int 1)) q0f)) (fun _=>.ok true) (q39 (q01 (g2 (fun ρ=>rdB ρ 0) (fun _=>.ok (.int 0)) q0f) (q01 (fun ρ=>rdS ρ 0) q0e)) .tuple)))) (q0d (q2A 4 (q39 (q01 (fun ρ=>rdS ρ 1) q0e) .list)) (q0d (w1H (x44 (q01 (fun ρ=>rdS ρ 2) q0e)) (q6P 2 (q0D (q0q 5) (q0D (q0q 6) q84))) (q0d (q2R 7 (gFn 2 q0Q (q01 (g2 (fun ρ=>rdB ρ 3) (fun ρ=>rdB ρ 6) q0f) (q01 (g2 (fun ρ=>rdB ρ 4) (w3D (fun _=>.ok (.int 1))) q0f) q0e)))) (q0d (q2l (asB (g2 (fun ρ=>rdB ρ 7) (fun _=>.ok .none) (isD false))) (q1k (fun ρ=>rdS ρ 5)) (fun ρ=>.ok (.nx ρ))) (w1J 4 (fun ρ=>rdS ρ 7))))) (q1k (fun ρ=>rdS ρ 4)))))
def q1N:List D->R D:=q34 8 q3B
def q5g:Rho->R Fl:=(q0d (q2R 4 (gFn 3 q1N (q01 (fun ρ=>rdS ρ 0) (q01 (fun ρ=>rdS ρ 1) (q01 (fun ρ=>rdS ρ 3) q0e))))) (q1k (q6N (w9a (w86 (fun ρ=>rdB ρ 4) "int")) (gFn 2 q1B (q01 (g2 (fun ρ=>rdB ρ 4) (w3D (fun _=>.ok (.int 1))) q0f) (q01 (fun ρ=>rdS ρ 2) q0e))))))
def q3d:List D->R D:=q34 5 q5g
def q6o:Rho->R Fl:=(q0d (q2A 1 (q39 (q01 (q39 q0e .tuple) q0e) .list)) (q0d (w3C 0 (q0q 2) (q2R 1 (g2 (fun ρ=>rdB ρ 1) (q1T 1 [2] (gIt (fun ρ=>rdB ρ 1)) (fun _=>.ok true) (g2 (fun ρ=>rdB ρ 0) (q39 (q01 (fun ρ=>rdS ρ 1) q0e) .tuple) q2v)) q2v))) (q1k (fun ρ=>rdS ρ 1))))
def q3X:List D->R D:=q34 3 q6o
def x47:Rho->R Fl:=(q0d (w9f (gFn 3 q3b (q01 (fun ρ=>rdS ρ 0) (q01 (fun _=>.ok (.int 5)) (q01 (fun _=>.ok (.int 6)) q0e)))) (q6P 3 (q0D (q0q 1) (q0D (q0q 2) (q0D (q0q 3) q84))))) (q0d (q2A 4 (q1T 1 [] (gIt (g2 (fun ρ=>rdB ρ 1) (fun _=>.ok (.int 1)) q0f)) (fun _=>.ok true) (g2 (fun ρ=>rdB ρ 0) (fun _=>.ok (.int 0)) q0f))) (q0d (q2R 5 (gFn 5 q3c (q01 (fun ρ=>rdS ρ 0) (q01 (fun _=>.ok (.int 300)) (q01 (fun ρ=>rdS ρ 1) (q01 (fun ρ=>rdS ρ 2) (q01 (gFn 3 q07 (q01 (fun ρ=>rdS ρ 0) (q01 (fun _=>.ok (.int 0)) (q01 (fun _=>.ok (.int 5)) q0e)))) q0e))))))) (q0d (q2l (x1n (asB (g2 (fun ρ=>rdB ρ 4) (q39 q0e .list) (eqD true))) (asB (g2 (gFn 3 q07 (q01 (fun ρ=>rdS ρ 0) (q01 (fun _=>.ok (.int 1)) (q01 (fun _=>.ok (.int 3)) q0e)))) (fun _=>.ok (.int 0)) (eqD false)))) (q2A 5 (q1T 1 [4,0] (w1D (q01 (gFn 3 q07 (q01 (fun ρ=>rdS ρ 0) (q01 (fun _=>.ok (.int 10)) (q01 (fun _=>.ok (.int 4)) q0e)))) q0e)) (fun _=>.ok true) (g2 (fun ρ=>rdB ρ 1) (gFn 3 q07 (q01 (fun ρ=>rdS ρ 2) (q01 (g2 (fun _=>.ok (.int 2)) (fun ρ=>rdB ρ 0) q2v) (q01 (q0O (q01 (fun ρ=>rdB ρ 1) q0e) (on1 q83)) q0e)))) q0f))) (fun ρ=>.ok (.nx ρ))) (q0d (gAt 5 (q2R 6 (gFn 3 q6U (q01 (fun ρ=>rdS ρ 1) (q01 (fun ρ=>rdS ρ 3) (q01 (fun ρ=>rdS ρ 5) q0e)))))) (q0d (q2l (x1n (asB (g2 (fun ρ=>rdB ρ 5) (q39 q0e .list) (eqD false))) (asB (g2 (fun ρ=>rdB ρ 6) (fun ρ=>rdB ρ 3) (eqD true)))) (q1k (fun _=>.ok (.bool false))) (fun ρ=>.ok (.nx ρ))) (q0d (q2R 7 (fun _=>.ok (.bool false))) (q0d (w1H (gIt (gFn 1 q3X (q01 (g2 (fun ρ=>rdB ρ 1) (fun _=>.ok (.int 0)) q0f) q0e))) (q0q 8) (q0d (gAt 5 (q2R 9 (gFn 4 q3d (q01 (fun ρ=>rdS ρ 1) (q01 (fun ρ=>rdS ρ 8) (q01 (fun ρ=>rdS ρ 3) (q01 (fun ρ=>rdS ρ 5) q0e))))))) (q0d (q2R 7 (x8k (fun ρ=>rdS ρ 7) (fun ρ=>rdS ρ 9))) (q2l (gOr (asB (g2 (gFn 4 q57 (q01 (fun ρ=>rdS ρ 1) (q01 (fun ρ=>rdS ρ 8) (q01 (fun ρ=>rdS ρ 3) (q01 (fun ρ=>rdS ρ 5) q0e))))) (fun ρ=>rdB ρ 9) (eqD true))) (asB (g2 (fun ρ=>rdB ρ 9) (q6N (g2 (fun ρ=>rdB ρ 6) (fun _=>.ok .none) (isD true)) (gFn 2 q1B (q01 (fun ρ=>rdS ρ 8) (q01 (fun ρ=>rdS ρ 6) q0e)))) (eqD true)))) (q1k (fun _=>.ok (.bool false))) (fun ρ=>.ok (.nx ρ)))))) (q1k (g2 (fun ρ=>rdB ρ 7) (g2 (fun ρ=>rdB ρ 6) (fun _=>.ok .none) (isD true)) (eqD false)))))))))))
def x25:List D->R D:=q34 10 x47
end Z
end
section
set_option hygiene false
namespace Z
open PySem L2 J
local macro_rules | `(tactic| walk_at "zz") => `(tactic| simp only [w1P, q8n, w8j, y15, x5b, x3V, x8z, y16, x1J, w8k, x1K, w8l, w8m, w8n, x3W, x5c, x5d, x1L, x5e, x1M, y0q, x6M, x8C, x5f, x8D, x5g, x8E, y1a, x5h, x8F, x5i, x1N, x5j, x8I, x1O, x5k, x1P, x5l, x5m, x5n, x5q, w8o, w8p, x8J, x5r, x1Q, x5s, y1f, x8L, x8M, x5t, x8N, x5u, x5v, x5w, x8O, x8P, x5x, y1j, x5y, x5z, x8Q, x8R, x5A, x9E, x5B, x8S, x8T, x1R, x1S, x1T, x8W, w3G, w3H, w3I, x5C, y1l, x5D, x5E, x5F, x5G, x5H, x5I, w3J, w3K, x3h, q2v, x0I, x7p, x6D, x6C, ltD, leD, gtD, x7q, q83, List.map_cons, List.map_nil, List.length_cons, List.length_nil, List.length_map, List.cons_append, List.nil_append, List.replicate_succ, List.replicate_zero, List.set_cons_zero, List.set_cons_succ, Nat.reduceSub, Nat.reduceAdd, Nat.reduceLeDiff, Nat.reduceEqDiff, Nat.sub_self, if_true, if_false, ite_true, ite_false, Bool.false_eq_true, decide_true, decide_false, cond_true, cond_false, Bool.not_true, Bool.not_false, Nat.le_refl, Nat.zero_le, Int.reduceLT, Int.reduceLE, Int.reduceAdd, Int.reduceMul, Nat.reduceLT, Int.reduceNeg, reduceIte])
local macro_rules | `(tactic| walk_at "yy") => `(tactic| simp only [w1P, q8n, w8j, x8z, y16, x1J, w8k, x1K, w8l, w8m, w8n, x3W, x5c, x5d, x1L, x5e, x1M, y0q, x6M, x8C, x5f, x8D, x5g, x8E, y1a, x5h, x8F, x5i, x1N, x5j, x8I, x1O, x5k, x1P, x5l, x5m, x5n, x5q, w8o, w8p, x8J, x5r, x1Q, x5s, y1f, x8L, x8M, x5t, x8N, x5u, x5v, x5w, x8O, x8P, x5x, y1j, x5y, x5z, x8Q, x8R, x5A, x9E, x5B, x8S, x8T, x1R, x1S, x1T, x8W, w3G, w3H, w3I, x5C, y1l, x5D, x5E, x5F, x5G, x5H, x5I, w3J, w3K, x3h, q2v, q83, List.map_cons, List.map_nil, List.length_cons, List.length_nil, List.length_map, List.cons_append, List.nil_append, List.replicate_succ, List.replicate_zero, List.set_cons_zero, List.set_cons_succ, Nat.reduceSub, Nat.reduceAdd, Nat.reduceLeDiff, Nat.reduceEqDiff, Nat.sub_self, if_true, if_false, ite_true, ite_false, Bool.false_eq_true, decide_true, decide_false, cond_true, cond_false, Bool.not_true, Bool.not_false, Nat.le_refl, Nat.zero_le, Int.reduceLT, Int.reduceLE, Int.reduceAdd, Int.reduceMul, Nat.reduceLT, Int.reduceNeg, reduceIte])
theorem q0F {n:Nat}{g:Rho->R Fl}{ds:List D}{d:D} (h:g (q0r n ds)=.ok (.rt d)):q34 n g ds=.ok d:=by unfold q34;rw [h]
def x48 (ns:List Int) (k:Int):Int:=if k<ns.length then ns.getD k.toNat 0 else if ns=[] then 0 else ns.getD (k % ns.length).toNat 0 * 31 + k
theorem x49 (ns:List Int):PyData.canLayAll0 (ns.map .int)=true:=by
 induction ns with
 | nil=>rfl
 | cons x r ih=>simp [PyData.canLayAll0,PyData.canLay0,ih]
theorem x6T (ns:List Int):PyData.eqv (.list (ns.map .int)) (.list [])=decide (ns=[]):=by
 cases ns with
 | nil=>rfl
 | cons x r=>simp [PyData.eqv,PyData.eqvAll]
theorem x97 (ns:List Int):eqD false (.list (ns.map .int)) (.list [])=.ok (.bool (decide (ns=[]))):=by
 unfold eqD
 have h1:(PyData.list (ns.map .int)).canLay0=true:=by simp only [PyData.canLay0];exact x49 ns
 have h2:(PyData.list []).canLay0=true:=rfl
 have h3:min (PyData.list (ns.map .int)).depth (PyData.list []).depth<=60:=Nat.le_trans (Nat.min_le_right _ _) (by decide)
 rw [h1,h2,decide_eq_true h3,x6T]
 rfl
theorem x98 (ns:List Int) (k:Int) (h0:0<=k) (h1:k<ns.length):atI (ns.map PyData.int) k=some (.int (ns.getD k.toNat 0)):=by
 have hk:k.toNat<ns.length:=by omega
 have:=q8C (xs:=ns.map PyData.int) (j:=k.toNat) (v:=.int (ns.getD k.toNat 0)) (by rw [List.getElem?_map,List.getElem?_eq_getElem hk];simp [hk])
 rwa [Int.toNat_of_nonneg h0] at this
theorem x5K (ns:List Int) (k:Int) (h0:0<=k) (h1:k<ns.length):q0f (.list (ns.map .int)) (.int k)=.ok (.int (ns.getD k.toNat 0)):=by
 have e:∀ xs k,q0f (.list xs) k=ixD (.list xs) k:=fun _ _=>rfl
 rw [e]
 unfold ixD
 simp only [x98 ns k h0 h1]
theorem x26 {i j:Int} (h1:-(2 ^ 64)<j) (h2:j<2 ^ 64):w9b i j=true:=by
 unfold w9b
 simp only [Bool.or_eq_true,Bool.and_eq_true,decide_eq_true_eq]
 exact .inr ⟨h1,h2⟩
theorem q6V {i j:Int} (h1:-(2 ^ 64)<i) (h2:i<2 ^ 64):w9b i j=true:=by
 unfold w9b
 simp only [Bool.or_eq_true,Bool.and_eq_true,decide_eq_true_eq]
 exact .inl ⟨h1,h2⟩
theorem x6U (ns:List Int) (k:Int) (hk:0<=k):q2q [.list (ns.map .int),.int k]=.ok (.int (x48 ns k)):=by
 unfold q2q
 refine q0F ?_
 unfold q37 q0r x48
 walk_at "zz"
 by_cases h:k<ns.length
 ·simp only [h,decide_true,cond_true,if_true,x5K ns k hk h,bind_ok]
  walk_at "zz"
 ·simp only [h,decide_false,cond_false,if_false]
  walk_at "zz"
  rw [x97]
  walk_at "zz"
  by_cases h2:ns=[]
  ·simp only [h2,decide_true,cond_true,if_true]
   walk_at "zz"
  ·have hl:(0:Int)<ns.length:=by have:0<ns.length:=List.length_pos_iff.mpr h2;omega
   simp only [h2,decide_false,cond_false,if_false,hl,decide_true]
   walk_at "zz"
   simp only [h2,decide_false,cond_false,if_false,hl,decide_true,if_true]
   walk_at "zz"
   rw [x5K ns _ (Int.emod_nonneg _ (by omega)) (Int.emod_lt_of_pos _ hl)]
   walk_at "zz"
   rw [x26 (by decide) (by decide)]
   walk_at "zz"
def w5M (ns:List Int) (k:Int):Int:=(x48 ns k + 7919 * k + 1) * 48271 % 2147483647
def q2D (ns:List Int) (k m:Int):Int:=(w5M ns k * w5M ns k + 7 * w5M ns k + k) % 2147483629 % m
theorem q19 (ns:List Int) (k m:Int) (h:0<m):0<=q2D ns k m:=Int.emod_nonneg _ (by omega)
theorem q1r (ns:List Int) (k m:Int) (h:0<m):q2D ns k m<m:=Int.emod_lt_of_pos _ h
theorem q1i (ns:List Int) (k m:Int) (hk:0<=k) (hm:0<m):q07 [.list (ns.map .int),.int k,.int m]=.ok (.int (q2D ns k m)):=by
 have d0:0<=w5M ns k:=Int.emod_nonneg _ (by decide)
 have d1:w5M ns k<2147483647:=Int.emod_lt_of_pos _ (by decide)
 unfold q07
 refine q0F ?_
 unfold q49 q0r
 walk_at "zz"
 rw [x6U ns k hk]
 walk_at "zz"
 rw [q6V (by decide) (by decide)]
 walk_at "zz"
 rw [x26 (by decide) (by decide)]
 walk_at "zz"
 rw [show (x48 ns k + 7919 * k + 1) * 48271 % 2147483647=w5M ns k from rfl,q6V (i:=w5M ns k) (by omega) (by omega)]
 walk_at "zz"
 rw [q6V (i:=7) (by decide) (by decide)]
 walk_at "zz"
 rw [decide_eq_true hm]
 walk_at "zz"
 rfl
theorem q6p {α β:Type}{kt:D->Rho->R Rho}{gb:Rho->R Fl} (c:α->D) (f:β->α->β) (P:List α->β->Rho->Prop) (h:∀ x q0I b ρ,P (x::q0I) b ρ->∃ ρ1 ρ',kt (c x) ρ=.ok ρ1/\gb ρ1=.ok (.nx ρ')/\P q0I (f b x) ρ') :
  ∀ (xs:List α) (b:β) (ρ:Rho),P xs b ρ->∃ ρ',q54 kt gb (xs.map c) ρ=.ok (.nx ρ')/\P [] (xs.foldl f b) ρ'
 | [],b,ρ,p=>⟨ρ,rfl,p⟩
 | x::r,b,ρ,p=>by
  obtain ⟨ρ1,ρ2,h1,h2,h3⟩:=h x r b ρ p
  obtain ⟨ρ3,h4,h5⟩:=q6p c f P h r (f b x) ρ2 h3
  refine ⟨ρ3,?_,h5⟩
  rw [List.map_cons]
  unfold q54
  rw [h1]
  simp only [h2]
  exact h4
theorem w1W {α β:Type}{kt:D->Rho->R Rho}{gb hh:Rho->R Fl}{r:R Fl} (c:α->D) (f:β->α->β) (P:List α->β->Rho->Prop) {xs:List α} (b:β) {ρ:Rho}
  (h:∀ x q0I b ρ,P (x::q0I) b ρ->∃ ρ1 ρ',kt (c x) ρ=.ok ρ1/\gb ρ1=.ok (.nx ρ')/\P q0I (f b x) ρ') (p0:P xs b ρ) (k:∀ ρ',P [] (xs.foldl f b) ρ'->hh ρ'=r):(q54 kt gb (xs.map c) ρ).bind (x7t hh)=r:=by
 obtain ⟨ρ',e,p⟩:=q6p c f P h xs b ρ p0
 rw [e,bind_ok,q8n]
 exact k ρ' p
theorem q92 (n:Nat) (h:n<=1000):x6I [.int (n:Int)]=.ok ((List.range n).map fun (i:Nat)=>PyData.int (i:Int)):=by
 have e:x6I [.int (n:Int)]=.ok (q7K 0 (n:Int).toNat):=x6O (by omega) (by omega)
 rw [e]
 unfold q7K
 rw [Int.toNat_natCast]
 exact congrArg R.ok (List.map_congr_left fun a _=>congrArg PyData.int (Int.zero_add _))
def okW (x:Str):Bool:=decide (1<=x.cps.size) && decide (x.cps.size<=6/\x.cps.size≠5) && x.cps.toList.all fun c=>decide (97<=c) && decide (c<=122)
def w06 (ns:List Int) (k:Int):Nat:=[1,2,3,6,1,4].getD (q2D ns k 6).toNat 0
def x4a (ns:List Int) (k:Int) (i:Nat):Nat:=97 + (q2D ns (k + 1 + i) 26).toNat
def q4M (ns:List Int) (k:Int):Str:=⟨((List.range (w06 ns k)).map (x4a ns k)).toArray⟩
theorem x27 (ns:List Int) (k:Int):1<=w06 ns k/\(w06 ns k<=6/\w06 ns k≠5):=by
 have h0:=q19 ns k 6 (by decide)
 have h1:=q1r ns k 6 (by decide)
 unfold w06
 have:∀ j:_root_.Fin 6,1<=[1,2,3,6,1,4].getD j.val 0/\([1,2,3,6,1,4].getD j.val 0<=6/\[1,2,3,6,1,4].getD j.val 0≠5):=by decide
 exact this ⟨(q2D ns k 6).toNat,by omega⟩
theorem x6V (ns:List Int) (k:Int) (i:Nat):97<=x4a ns k i/\x4a ns k i<=122:=by
 have h0:=q19 ns (k + 1 + i) 26 (by decide)
 have h1:=q1r ns (k + 1 + i) 26 (by decide)
 unfold x4a
 omega
theorem w8v (ns:List Int) (k:Int):okW (q4M ns k)=true:=by
 have ⟨h1,h2⟩:=x27 ns k
 unfold okW q4M
 simp only [List.size_toArray,List.length_map,List.length_range,Bool.and_eq_true,decide_eq_true_eq,List.all_eq_true]
 refine ⟨⟨h1,h2⟩,fun c hc=>?_⟩
 obtain ⟨i,_,rfl⟩:=List.mem_map.mp hc
 exact x6V ns k i
theorem x4b (j:Int) (h0:0<=j) (h1:j<26):q0f (.str "abcdefghijklmnopqrstuvwxyz") (.int j)=.ok (.str ⟨#[97 + j.toNat]⟩):=by
 have e:∀ x k,q0f (.str x) k=ixD (.str x) k:=fun _ _=>rfl
 rw [e]
 unfold ixD
 have hc:("abcdefghijklmnopqrstuvwxyz" : Str).cps.toList=(List.range 26).map (97 + ·):=by decide +kernel
 have hl:("abcdefghijklmnopqrstuvwxyz" : Str).length<=1000:=by decide +kernel
 have hj:j.toNat<26:=by omega
 have hx:=q8C (xs:=(List.range 26).map (97 + ·)) (j:=j.toNat) (v:=97 + j.toNat) (by rw [List.getElem?_map,List.getElem?_range hj];rfl)
 rw [Int.toNat_of_nonneg h0] at hx
 simp only [hl,if_true,hc,hx]
theorem x6W (j:Int) (h0:0<=j) (h1:j<6):q0f (.list [.int 1,.int 2,.int 3,.int 6,.int 1,.int 4]) (.int j)=.ok (.int (([1,2,3,6,1,4].getD j.toNat 0:Nat):Int)):=by
 obtain ⟨n,rfl⟩:=Int.eq_ofNat_of_zero_le h0
 have hn:n<6:=by omega
 match n,hn with
 | 0,_=>rfl
 | 1,_=>rfl
 | 2,_=>rfl
 | 3,_=>rfl
 | 4,_=>rfl
 | 5,_=>rfl
theorem w3U (l:List Nat):∀ (acc:Str),l.foldl (fun (a:Str) c=>a++⟨#[c]⟩) acc=⟨(acc.cps.toList++l).toArray⟩:=by
 induction l with
 | nil=>intro acc;simp
 | cons c r ih =>
  intro acc
  rw [List.foldl_cons,ih]
  show (⟨((acc.cps++#[c]).toList++r).toArray⟩:Str)=_
  simp
theorem x28:("" : Str).cps.toList=[]:=by decide +kernel
theorem x29 (ns:List Int) (k:Int) (hk:0<=k):q2a [.list (ns.map .int),.int k]=.ok (.str (q4M ns k)):=by
 have h0:=q19 ns k 6 (by decide)
 have h1:=q1r ns k 6 (by decide)
 have ⟨w1,w2⟩:=x27 ns k
 unfold q2a
 refine q0F ?_
 unfold q58 q0r
 walk_at "zz"
 rw [q85 (ds:=(List.range (w06 ns k)).map fun (i:Nat)=>PyData.int i)]
 ·refine w1W (fun (i:Nat)=>PyData.int i) (fun (a:Str) i=>a++⟨#[x4a ns k i]⟩) (fun q0I a ρ=>a.length + q0I.length<=900/\∃ z,ρ=[.shr (.list (ns.map .int)),.shr (.int k),.shr (.str a),z]) "" ?_ ⟨by rw [List.length_range,show ("" : Str).length=0 by decide];omega,_,rfl⟩ ?_
  ·rintro i q0I a ρ ⟨hl,z,rfl⟩
   simp only [List.length_cons] at hl
   refine ⟨_,[.shr (.list (ns.map .int)),.shr (.int k),.shr (.str (a++⟨#[x4a ns k i]⟩)),.shr (.int i)],rfl,?_,?_,_,rfl⟩
   ·walk_at "zz"
    rw [q1i ns _ 26 (by omega) (by decide)]
    walk_at "zz"
    rw [x4b _ (q19 _ _ _ (by decide)) (q1r _ _ _ (by decide))]
    walk_at "zz"
    have hz:a.length + (⟨#[97 + (q2D ns (k + 1 + i) 26).toNat]⟩:Str).length<=1000:=by
     show a.length + 1<=1000
     omega
    rw [if_pos hz]
    walk_at "zz"
    rw [show 97 + (q2D ns (k + 1 + i) 26).toNat=x4a ns k i from rfl]
   ·show (a.cps++#[_]).size + q0I.length<=900
    rw [Array.size_append]
    show a.cps.size + 1 + q0I.length<=900
    have:a.length=a.cps.size:=rfl
    omega
  ·rintro ρ' ⟨_,z,rfl⟩
   walk_at "zz"
   have:(List.range (w06 ns k)).foldl (fun (a:Str) i=>a++⟨#[x4a ns k i]⟩) ""=q4M ns k:=by
    have:=w3U ((List.range (w06 ns k)).map (x4a ns k)) ""
    rw [List.foldl_map] at this
    rw [this,x28]
    unfold q4M
    rw [List.nil_append]
   rw [this]
 ·walk_at "zz"
  rw [q1i ns k 6 hk (by decide)]
  walk_at "zz"
  have et:=x6W (q2D ns k 6) h0 h1
  have ew:[1,2,3,6,1,4].getD (q2D ns k 6).toNat 0=w06 ns k:=rfl
  rw [ew] at et
  rw [et]
  walk_at "zz"
  rw [q92 (w06 ns k) (by omega)]
def q4z (l:List (Str×D)):List (D×D):=l.map fun p=>(.str p.1,p.2)
def w5j (l:List (Str×D)) (x:Str) (d:D):List (Str×D):=if l.any (fun p=>decide (p.1=x)) then l.map (fun p=>if p.1=x then (p.1,d) else p) else l++[(x,d)]
theorem q6W (x y:Str):PyData.eqv (.str x) (.str y)=decide (x=y):=by
 show (x == y)=_
 rw [Bool.beq_eq_decide_eq]
theorem x2a (l:List (Str×D)) (x:Str) (d:D):x3g (q4z l) (.str x) d=q4z (w5j l x d):=by
 unfold x3g w5j q4z
 rw [List.any_map]
 have e:((fun kv:D×D=>PyData.eqv kv.1 (.str x))∘fun p:Str×D=>(PyData.str p.1,p.2))=fun p=>decide (p.1=x):=by
  funext p
  exact q6W p.1 x
 rw [e]
 split
 ·rw [List.map_map,List.map_map]
  apply List.map_congr_left
  intro p _
  simp only [Function.comp,q6W]
  by_cases h:p.1=x
  ·simp [h]
  ·simp [h]
 ·simp
theorem w1X (l:List (Str×D)):q20 (q4z l)=true:=by
 unfold q20 q4z
 rw [List.all_map,List.all_eq_true]
 intro p _
 rfl
theorem w8w (l:List (Str×D)) (x:Str) (d:D):(w5j l x d).length<=l.length + 1:=by
 unfold w5j
 split<;>simp
theorem w3V (l:List (Str×D)) (x:Str) (d:D):(w5j l x d).map (·.1)=if x∈l.map (·.1) then l.map (·.1) else l.map (·.1)++[x]:=by
 unfold w5j
 have e:(l.any fun p=>decide (p.1=x))=decide (x∈l.map (·.1)):=by
  rw [Bool.eq_iff_iff]
  simp only [List.any_eq_true,decide_eq_true_eq,List.mem_map]
 rw [e]
 by_cases h:x∈l.map (·.1)
 ·rw [decide_eq_true h,if_pos rfl,if_pos h,List.map_map]
  apply List.map_congr_left
  intro p _
  by_cases hp:p.1=x<;>simp [hp]
 ·rw [decide_eq_false h,if_neg Bool.false_ne_true,if_neg h,List.map_append]
  rfl
theorem x4c {Q:Str->D->Prop}{l:List (Str×D)}{x:Str}{d:D} (h:∀ p∈l,Q p.1 p.2) (hx:Q x d):∀ p∈w5j l x d,Q p.1 p.2:=by
 unfold w5j
 split
 ·intro p hp
  obtain ⟨p',hp',rfl⟩:=List.mem_map.mp hp
  by_cases e:p'.1=x
  ·rw [if_pos e];rw [e];exact hx
  ·rw [if_neg e];exact h p' hp'
 ·intro p hp
  rcases List.mem_append.mp hp with hp | hp
  ·exact h p hp
  ·rw [List.mem_singleton.mp hp];exact hx
theorem x2b {l:List Str}{x:Str} (h:l.Nodup):(if x∈l then l else l++[x]).Nodup:=by
 by_cases hx:x∈l
 ·rw [if_pos hx];exact h
 ·rw [if_neg hx];exact x19 h hx
theorem x99 {i:Nat}{gk g:Rho->R D}{ρ:Rho}{l:List (Str×D)}{x:Str}{d:D} (hi:ρ[i]?=some (Sl.own (.dict (q4z l)))) (hg:g ρ=.ok d) (hk:gk ρ=.ok (.str x)) (hl:l.length<1000):x3Q i gk g ρ=.ok (.nx (ρ.set i (.own (.dict (q4z (w5j l x d)))))):=by
 have hl':(q4z l).length<1000:=by unfold q4z;rw [List.length_map];exact hl
 have e:x3Q i gk g ρ=(g ρ).bind fun d=>(gk ρ).bind fun k=>match w04 k with
  | some _=>if (q4z l).length<1000/\q20 (q4z l)=true then .ok (.nx (ρ.set i (.own (.dict (x3g (q4z l) k d))))) else .no
  | none=>.no:=by
  unfold x3Q
  simp only [hi]
  try rfl
 rw [e,hg,x3h,hk,x3h]
 simp only [w04,if_pos (And.intro hl' (w1X l)),x2a]
theorem w8x (l:List (Str×D)):q3I (.dict (q4z l))=.ok (.list ((l.map (·.1)).map .str)):=by
 have e:∀ kvs,q3I (.dict kvs)=if q20 kvs=true then .ok (.list (kvs.map (·.1))) else .no:=fun _=>rfl
 rw [e,if_pos (w1X l)]
 unfold q4z
 rw [List.map_map,List.map_map]
 rfl
theorem sorted_strs (ss:List Str) (h:ss.length<64):q6O (.list (ss.map .str))=.ok (.list ((q43 ss).map .str)):=by
 have e:∀ ds,q6O (.list ds)=match q1Y ds with
  | some ss=>if ss.length<64 then .ok (.list ((q43 ss).map .str)) else .no
  | none=>.no:=fun _=>rfl
 rw [e,strsOf_map]
 simp only [if_pos h]
theorem q1C (ds:List D):q2y (.list ds)=.ok (.tuple ds):=id rfl
def w8y (ns:List Int) (k:Int) (n:Nat):List Str:=(List.range n).map fun (i:Nat)=>q4M ns (k + 1 + 8 * (i:Int))
def w8z (ns:List Int) (k m:Int):List Str:=q43 (q12 [] (w8y ns k (q2D ns k (m + 1)).toNat))
structure x9H (fs:List Str) (n:Nat):Prop where
 ok:∀ x∈fs,okW x=true
 up:fs.Pairwise fun a b=>ltS a b=true
 len:fs.length<=n
theorem x4d {α:Type}{a b:List α} (h:a.Perm b):a.length=b.length:=h.length_eq
theorem w9l (ns:List Int) (k m:Int) (hm:0<=m):x9H (w8z ns k m) m.toNat:=by
 have h0:=q19 ns k (m + 1) (by omega)
 have h1:=q1r ns k (m + 1) (by omega)
 have hp:=q1A (q12 [] (w8y ns k (q2D ns k (m + 1)).toNat))
 refine ⟨fun x hx=>?_,?_,?_⟩
 ·have hx:=hp.mem_iff.mp hx
  rw [q2j] at hx
  rcases hx with hx | hx
  ·cases hx
  ·obtain ⟨i,_,rfl⟩:=List.mem_map.mp hx
   exact w8v _ _
 ·exact q8M (q66 _) (hp.nodup_iff.mpr (q22 _ [] List.nodup_nil))
 ·unfold w8z
  rw [x4d hp]
  have:=q15 (w8y ns k (q2D ns k (m + 1)).toNat) []
  unfold w8y at this ⊢
  simp at this
  omega
theorem x2c (f:Nat->Str) (l:List Nat):∀ acc:List (Str×D),((l.foldl (fun (a:List (Str×D)) i=>w5j a (f i) (.bool true)) acc).map (·.1))=q12 (acc.map (·.1)) (l.map f):=by
 induction l with
 | nil=>intro acc;rfl
 | cons i r ih =>
  intro acc
  rw [List.foldl_cons,ih,List.map_cons,w3V]
  rfl
theorem x4e (ns:List Int) (k m:Int) (hk:0<=k) (hm:0<=m) (hm2:m<=20):q3l [.list (ns.map .int),.int k,.int m]=.ok (.tuple ((w8z ns k m).map .str)):=by
 have h0:=q19 ns k (m + 1) (by omega)
 have h1:=q1r ns k (m + 1) (by omega)
 unfold q3l
 refine q0F ?_
 unfold q4a q0r
 walk_at "zz"
 rw [q85 (ds:=(List.range (q2D ns k (m + 1)).toNat).map fun (i:Nat)=>PyData.int i)]
 ·refine w1W (fun (i:Nat)=>PyData.int i) (fun (a:List (Str×D)) i=>w5j a (q4M ns (k + 1 + 8 * (i:Int))) (.bool true)) (fun q0I a ρ=>a.length + q0I.length<=60/\∃ z,ρ=[.shr (.list (ns.map .int)),.shr (.int k),.shr (.int m),.own (.dict (q4z a)),z]) [] ?_ ⟨by simp;omega,_,rfl⟩ ?_
  ·rintro i q0I a ρ ⟨hl,z,rfl⟩
   simp only [List.length_cons] at hl
   refine ⟨_,[.shr (.list (ns.map .int)),.shr (.int k),.shr (.int m),.own (.dict (q4z (w5j a (q4M ns (k + 1 + 8 * (i:Int))) (.bool true)))),.shr (.int i)],rfl,?_,?_,_,rfl⟩
   ·refine (x99 (l:=a) (x:=q4M ns (k + 1 + 8 * (i:Int))) (d:=.bool true) rfl rfl ?_ (by omega)).trans rfl
    walk_at "zz"
    rw [q6V (by decide) (by decide)]
    walk_at "zz"
    rw [x29 ns _ (by omega)]
   ·have:=w8w a (q4M ns (k + 1 + 8 * (i:Int))) (.bool true)
    omega
  ·rintro ρ' ⟨hl,z,rfl⟩
   simp only [List.length_nil] at hl
   walk_at "zz"
   rw [w8x]
   walk_at "zz"
   have ek:=x2c (fun i=>q4M ns (k + 1 + 8 * (i:Int))) (List.range (q2D ns k (m + 1)).toNat) []
   rw [ek,sorted_strs]
   ·walk_at "zz"
    rw [q1C]
    walk_at "zz"
    rfl
   ·rw [<- ek,List.length_map];omega
 ·walk_at "zz"
  rw [q1i ns k (m + 1) hk (by omega)]
  walk_at "zz"
  have:=q92 (q2D ns k (m + 1)).toNat (by omega)
  rw [Int.toNat_of_nonneg h0] at this
  exact this
structure ErZ where
 name:Str
 needs:List Str
 bars:List Str
 makes:List Str
 ends:List Str
 price:Int
abbrev q0l (xs:List Str):D:=.tuple (xs.map .str)
def q14 (e:ErZ):D:=.tuple [.str e.name,q0l e.needs,q0l e.bars,q0l e.makes,q0l e.ends,.int e.price]
structure Sub (fs xs:List Str):Prop where
 up:xs.Pairwise fun a b=>ltS a b=true
 mem:∀ x∈xs,x∈fs
structure q6X (fs:List Str) (e:ErZ):Prop where
 name:okW e.name=true
 needs:Sub fs e.needs
 bars:Sub fs e.bars
 makes:Sub fs e.makes
 ends:Sub fs e.ends
 nb:∀ x∈e.needs,x∉e.bars
 me:∀ x∈e.makes,x∉e.ends
 p0:0<=e.price
 p9:e.price<=9
def srt (xs:List Str):List Str:=q43 (q12 [] xs)
theorem q31 {xs:List Str}{x:Str}:x∈srt xs↔x∈xs:=by
 unfold srt
 rw [(q1A _).mem_iff,q2j]
 simp
theorem x2d (xs:List Str):(srt xs).Pairwise fun a b=>ltS a b=true:=q8M (q66 _) ((q1A _).nodup_iff.mpr (q22 _ [] List.nodup_nil))
theorem q6Y {fs xs:List Str} (h:∀ x∈xs,x∈fs):Sub fs (srt xs):=⟨x2d xs,fun x hx=>h x (q31.mp hx)⟩
theorem w5N (fs:List Str) (j:Int) (h0:0<=j) (h1:j<fs.length):∃ x,x∈fs/\q0f (q0l fs) (.int j)=.ok (.str x):=by
 have hj:j.toNat<fs.length:=by omega
 refine ⟨fs[j.toNat],List.getElem_mem hj,?_⟩
 have e:∀ xs k,q0f (.tuple xs) k=ixD (.tuple xs) k:=fun _ _=>rfl
 rw [e]
 have hx:=q8C (xs:=fs.map PyData.str) (j:=j.toNat) (v:=.str fs[j.toNat]) (by rw [List.getElem?_map,List.getElem?_eq_getElem hj];rfl)
 rw [Int.toNat_of_nonneg h0] at hx
 unfold ixD
 simp only [hx]
theorem w1Y (x:Str):∀ ys:List Str,((ys.map PyData.str).any fun y=>PyData.eqv y (.str x))=decide (x∈ys)
 | []=>rfl
 | y::r=>by
  rw [List.map_cons,List.any_cons,w1Y x r,q6W]
  by_cases h:y=x
  ·subst h;simp
  ·simp [h,Ne.symm h]
theorem w0W (ys:List Str):(ys.map PyData.str).all q5k=true:=by
 rw [List.all_map,List.all_eq_true];intro _ _;rfl
theorem x6X (neg:Bool) (x:Str) (ys:List Str):inD neg (.str x) (.list (ys.map .str))=.ok (.bool (if neg then !decide (x∈ys) else decide (x∈ys))):=by
 have e:inD neg (.str x) (.list (ys.map .str))=if q5k (.str x) && (ys.map PyData.str).all q5k then .ok (.bool (if neg then !((ys.map PyData.str).any fun y=>PyData.eqv y (.str x)) else (ys.map PyData.str).any fun y=>PyData.eqv y (.str x))) else .no:=rfl
 rw [e,w0W,w1Y]
 rfl
theorem q7L (neg:Bool) (x:Str) (ys:List Str):inD neg (.str x) (q0l ys)=.ok (.bool (if neg then !decide (x∈ys) else decide (x∈ys))):=by
 have e:inD neg (.str x) (q0l ys)=if q5k (.str x) && (ys.map PyData.str).all q5k then .ok (.bool (if neg then !((ys.map PyData.str).any fun y=>PyData.eqv y (.str x)) else (ys.map PyData.str).any fun y=>PyData.eqv y (.str x))) else .no:=rfl
 rw [e,w0W,w1Y]
 rfl
theorem q4N (neg:Bool) (a b:Int):eqD neg (.int a) (.int b)=.ok (.bool (if neg then !decide (a=b) else decide (a=b))):=by
 have e:eqD neg (.int a) (.int b)=.ok (.bool (if neg then !(a == b) else (a == b))):=rfl
 rw [e,Bool.beq_eq_decide_eq]
theorem q6Z {x:Str} (h:okW x=true):(PyData.str x).canLay0=true:=by
 unfold okW at h
 simp only [Bool.and_eq_true,List.all_eq_true,decide_eq_true_eq] at h
 show PyData.strOk x=true
 unfold PyData.strOk
 rw [<- Array.all_toList,List.all_eq_true]
 intro c hc
 have:=h.2 c hc
 exact decide_eq_true (by omega)
theorem w5O (neg:Bool) {x y:Str} (hx:okW x=true) (hy:okW y=true):eqD neg (.str x) (.str y)=.ok (.bool (if neg then !decide (x=y) else decide (x=y))):=by
 unfold eqD
 rw [q6Z hx,q6Z hy,q6W]
 rfl
theorem w0X (ss:List Str) (h:ss.length<60):q8X (.list (ss.map .str))=.ok (q12 [] ss):=by
 have e:∀ ds,q8X (.list ds)=match q1Y ds with
  | some ss=>if ss.length<60 then .ok (q12 [] ss) else .no
  | none=>.no:=fun _=>rfl
 rw [e,strsOf_map]
 simp only [if_pos h]
theorem x2e (g:Rho->R D) (s:Sl) (ρ:Rho):q6f g (s::ρ)=(g (s::ρ)).bind q8X:=id rfl
def x9a:List Str->R D:=fun ss=>if ss.length<64 then .ok (.list ((q43 ss).map .str)) else .no
theorem q93 (g:Rho->R (List Str)) (s:Sl) (ρ:Rho):q3x g (s::ρ)=(g (s::ρ)).bind x9a:=id rfl
theorem w1Z (ss:List Str) (h:ss.length<64):x9a ss=.ok (.list ((q43 ss).map .str)):=if_pos h
theorem x2f (ss:List Str) (h:ss.length<60) (ρ:Rho):(q0O (J.q01 (q3x (q6f fun ρ=>rdB ρ 0)) J.q0e) (on1 q2y)) (.shr (.list (ss.map .str))::ρ)=.ok (q0l (srt ss)):=by
 walk_at "zz"
 rw [q93,x2e]
 walk_at "zz"
 rw [w0X ss h]
 walk_at "zz"
 rw [w1Z _ (by have:=q15 ss [];simp at this;omega)]
 walk_at "zz"
 rw [q1C]
 rfl
theorem w8A {ρ:Rho}{gt:Rho->R Bool}{x:Str}{b:Bool}{s:Sl}{r:Rho} (hρ:ρ=s::r) (h:gt (.shr (.str x)::r)=.ok b):q30 (q3H 1 ρ gt (fun ρ=>rdS ρ 0)) [.str x]=.ok ((if b then [x] else []).map .str):=by
 subst hρ
 have e:=w1Q (ρ:=s::r) (gt:=gt) (ge:=fun ρ=>rdS ρ 0) (d:=.str x) (y:=.str x) (b:=b) h fun _=>rfl
 unfold q30
 rw [e,x3h]
 unfold q30
 rw [x3h]
 cases b<;>rfl
theorem x9b (p q r t:List Str) (hp:p.length<60) (hq:q.length<60) (hr:r.length<60) (ht:t.length<60):q30 (q3H 1 [Sl.no] (fun _=>.ok true) (q0O (J.q01 (q3x (q6f fun ρ=>rdB ρ 0)) J.q0e) (on1 q2y))) [.list (p.map .str),.list (q.map .str),.list (r.map .str),.list (t.map .str)]=.ok [q0l (srt p),q0l (srt q),q0l (srt r),q0l (srt t)] :=
 q0L _ (fun ss:List Str=>PyData.list (ss.map .str)) (fun ss=>q0l (srt ss)) [p,q,r,t] fun ss hs=>q1h rfl (x2f ss (by simp at hs;rcases hs with h | h | h | h<;>(rw [h];assumption)) _)
theorem x9c (a b c d:D):q0f (.list [a,b,c,d]) (.int 0)=.ok a:=id rfl
theorem x9d (a b c d:D):q0f (.list [a,b,c,d]) (.int 1)=.ok b:=id rfl
theorem x9e (a b c d:D):q0f (.list [a,b,c,d]) (.int 2)=.ok c:=id rfl
theorem x9f (a b c d:D):q0f (.list [a,b,c,d]) (.int 3)=.ok d:=id rfl
theorem x6Y (ns:List Int) (k:Int) (hk:0<=k) (fs:List Str) (hf:∀ x∈fs,okW x=true) (h0:0<fs.length) (nm:Str) (hn:okW nm=true) :
  ∃ e,q3U [.list (ns.map .int),.int k,q0l fs,.str nm]=.ok (q14 e)/\q6X fs e/\e.name=nm:=by
 have hl:(0:Int)<(fs.length:Int):=by omega
 obtain ⟨a,ha,ea⟩:=w5N fs (q2D ns (k + 10) fs.length) (q19 _ _ _ hl) (q1r _ _ _ hl)
 obtain ⟨b,hb,eb⟩:=w5N fs (q2D ns (k + 11) fs.length) (q19 _ _ _ hl) (q1r _ _ _ hl)
 obtain ⟨c,hc,ec⟩:=w5N fs (q2D ns (k + 12) fs.length) (q19 _ _ _ hl) (q1r _ _ _ hl)
 have m13a:=q19 ns (k + 13) 3 (by decide)
 have m13b:=q1r ns (k + 13) 3 (by decide)
 obtain ⟨nd,hnd,hnl,end_⟩:∃ nd:List Str,(∀ x∈nd,x∈fs)/\nd.length<60/\slD (.list [.str a,.str b]) none (some (1 + q2D ns (k + 13) 3 / 2))=.ok (.list (nd.map .str)):=by
  by_cases h2:q2D ns (k + 13) 3=2
  ·exact ⟨[a,b],by simp [ha,hb],by simp,by rw [h2];rfl⟩
  ·have:q2D ns (k + 13) 3 / 2=0:=by omega
   exact ⟨[a],by simp [ha],by simp,by rw [this];rfl⟩
 let bb:Bool:=!decide (c∈nd) && decide (q2D ns (k + 14) 4=0)
 let be:Bool:=!decide (a=c) && decide (q2D ns (k + 15) 3=0)
 have p0:=q19 ns k 5 (by decide)
 have p1:=q1r ns k 5 (by decide)
 refine ⟨⟨nm,srt nd,srt (if bb then [c] else []),srt [c],srt (if be then [a] else []),q2D ns k 5⟩,?_,⟨hn,q6Y hnd,q6Y ?_,q6Y (by simp [hc]),q6Y ?_,fun x h1 h2=>?_,fun x h1 h2=>?_,p0,by show q2D ns k 5<=9;omega⟩,rfl⟩
 ·unfold q3U
  refine q0F ?_
  unfold q5a q0r
  walk_at "zz"
  rw [q1i ns _ _ (by omega) hl]
  walk_at "zz"
  rw [ea]
  walk_at "zz"
  rw [q1i ns (k + 11) _ (by omega) hl]
  walk_at "zz"
  rw [eb]
  walk_at "zz"
  rw [q1i ns (k + 12) _ (by omega) hl]
  walk_at "zz"
  rw [ec]
  walk_at "zz"
  rw [q1i ns (k + 13) 3 (by omega) (by decide)]
  walk_at "zz"
  simp only [Int.reduceLT,decide_true,Bool.and_self,if_true]
  walk_at "zz"
  rw [end_]
  walk_at "zz"
  rw [w8A (b:=bb) rfl]
  ·walk_at "zz"
   rw [w8A (b:=be) rfl]
   ·walk_at "zz"
    simp only [gAt]
    rw [x5J rfl,x5J rfl]
    walk_at "zz"
    have pk:=x9b nd (if bb then [c] else []) [c] (if be then [a] else []) hnl (by cases bb<;>simp) (by simp) (by cases be<;>simp)
    rw [show ([c].map PyData.str)=[PyData.str c] from rfl] at pk
    rw [pk]
    walk_at "zz"
    rw [x9c]
    walk_at "zz"
    rw [x9d]
    walk_at "zz"
    rw [x9e]
    walk_at "zz"
    rw [x9f]
    walk_at "zz"
    rw [q1i ns k 5 hk (by decide)]
    walk_at "zz"
    rfl
   ·walk_at "zz"
    rw [w5O true (hf a ha) (hf c hc)]
    walk_at "zz"
    by_cases hac:a=c
    ·simp only [be,hac,decide_true,Bool.not_true,Bool.false_and,if_true,cond_false]
    ·simp only [be,hac,decide_false,Bool.not_false,Bool.true_and,if_true,cond_true]
     rw [q1i ns (k + 15) 3 (by omega) (by decide)]
     walk_at "zz"
     rw [q4N]
     walk_at "zz"
  ·walk_at "zz"
   rw [x6X]
   walk_at "zz"
   by_cases hcn:c∈nd
   ·simp only [bb,hcn,decide_true,Bool.not_true,Bool.false_and,if_true,cond_false]
   ·simp only [bb,hcn,decide_false,Bool.not_false,Bool.true_and,if_true,cond_true]
    rw [q1i ns (k + 14) 4 (by omega) (by decide)]
    walk_at "zz"
    rw [q4N]
    walk_at "zz"
 ·intro x hx
  cases hbb:bb
  ·simp [hbb] at hx
  ·simp [hbb] at hx;rw [hx];exact hc
 ·intro x hx
  cases hbe:be
  ·simp [hbe] at hx
  ·simp [hbe] at hx;rw [hx];exact ha
 ·have h2:x∈(if bb then [c] else []):=q31.mp h2
  cases hbb:bb
  ·simp [hbb] at h2
  ·simp [hbb] at h2
   subst h2
   have:(!decide (x∈nd))=true:=by
    have:(!decide (x∈nd) && decide (q2D ns (k + 14) 4=0))=true:=hbb
    simp only [Bool.and_eq_true] at this
    exact this.1
   simp at this
   exact this (q31.mp h1)
 ·cases hbe:be
  ·have h2:x∈(if be then [a] else []):=q31.mp h2
   simp [hbe] at h2
  ·skip
   have h4:x∈[c]:=q31.mp h1
   have h5:x∈(if be then [a] else []):=q31.mp h2
   simp only [List.mem_singleton] at h4
   simp only [hbe,if_true,List.mem_singleton] at h5
   have:(!decide (a=c) && decide (q2D ns (k + 15) 3=0))=true:=hbe
   simp only [Bool.and_eq_true] at this
   have h3:=this.1
   simp at h3
   exact h3 (h5.symm.trans h4)
theorem w8B {i:Nat}{gi g:Rho->R D}{ρ:Rho}{dss:List (List D)}{ds:List D}{d:D}{j:Int} (hi:ρ[i]?=some (Sl.ow2 dss)) (hj:gi ρ=.ok (.int j)) (h0:0<=j) (hd:dss[j.toNat]?=some ds) (hg:g ρ=.ok d) (hl:ds.length<1000):q6S i gi g ρ=.ok (.nx (ρ.set i (.ow2 (dss.set j.toNat (ds++[d]))))):=by
 unfold q6S
 simp only [hi,hj,bind_ok,if_pos h0,hd,hg,if_pos hl]
def q6q (n:Nat):List Str->List (Nat×Str)
 | []=>[]
 | x::r=>(n,x)::q6q (n + 1) r
abbrev cI (p:Nat×Str):D:=.tuple [.int (p.1:Nat),.str p.2]
theorem w20:∀ (xs:List Str) (n:Nat),q3F n (xs.map .str)=(q6q n xs).map cI
 | [],_=>rfl
 | x::r,n=>by
  show PyData.tuple [.int n,.str x]::q3F (n + 1) (r.map .str)=cI (n,x)::(q6q (n + 1) r).map cI
  rw [w20 r (n + 1)]
theorem q6r:∀ (xs:List Str) (n:Nat),(q6q n xs).map (·.2)=xs
 | [],_=>rfl
 | x::r,n=>by
  show x::(q6q (n + 1) r).map (·.2)=x::r
  rw [q6r r]
theorem q6s:∀ (fs:List Str),(∀ x∈fs,okW x=true)->PyData.canLayAll0 (fs.map .str)=true
 | [],_=>rfl
 | x::r,h=>by
  have h1:=q6Z (h x List.mem_cons_self)
  have h2:=q6s r fun y hy=>h y (List.mem_cons_of_mem _ hy)
  simp only [List.map_cons,PyData.canLayAll0,h1,h2,Bool.and_self]
theorem x2g (fs:List Str) (hf:∀ x∈fs,okW x=true):eqD true (q0l fs) (.tuple [])=.ok (.bool (!decide (fs=[]))):=by
 unfold eqD
 have h1:(q0l fs).canLay0=true:=by simp only [PyData.canLay0];exact q6s fs hf
 have h2:(PyData.tuple []).canLay0=true:=rfl
 have h3:min (q0l fs).depth (PyData.tuple []).depth<=60:=Nat.le_trans (Nat.min_le_right _ _) (by decide)
 have h4:PyData.eqv (q0l fs) (.tuple [])=decide (fs=[]):=by
  cases fs with
  | nil=>rfl
  | cons x r=>simp [PyData.eqv,PyData.eqvAll]
 rw [h1,h2,decide_eq_true h3,h4]
 rfl
structure w07 (pre p q:List Str):Prop where
 sp:p.Sublist pre
 sq:q.Sublist pre
 d:∀ x∈p,x∉q
theorem w07.skip {pre p q:List Str} (h:w07 pre p q) (x:Str):w07 (pre++[x]) p q:=⟨h.sp.trans (List.sublist_append_left _ _),h.sq.trans (List.sublist_append_left _ _),h.d⟩
theorem w07.left {pre p q:List Str} (h:w07 pre p q) (x:Str) (hx:x∉pre):w07 (pre++[x]) (p++[x]) q:=⟨h.sp.append (List.Sublist.refl _),h.sq.trans (List.sublist_append_left _ _),fun y hy hq=>by
 rcases List.mem_append.mp hy with h1 | h1
 ·exact h.d y h1 hq
 ·rw [List.mem_singleton.mp h1] at hq
  exact hx (h.sq.subset hq)⟩
theorem w07.right {pre p q:List Str} (h:w07 pre p q) (x:Str) (hx:x∉pre):w07 (pre++[x]) p (q++[x]):=⟨h.sp.trans (List.sublist_append_left _ _),h.sq.append (List.Sublist.refl _),fun y hy hq=>by
 rcases List.mem_append.mp hq with h1 | h1
 ·exact h.d y hy h1
 ·rw [List.mem_singleton.mp h1] at hy
  exact hx (h.sp.subset hy)⟩
abbrev o4 (p q r t:List Str):Sl:=.ow2 [p.map .str,q.map .str,r.map .str,t.map .str]
theorem y0t (j:Int) (h0:0<=j) (h1:j<3):∃ b:Bool,q0f (.list [.int 0,.int 0,.int 1]) (.int j)=.ok (.int (if b then 0 else 1)):=by
 have:j=0\/j=1\/j=2:=by omega
 rcases this with h | h | h<;>subst h
 ·exact ⟨true,rfl⟩
 ·exact ⟨true,rfl⟩
 ·exact ⟨false,rfl⟩
theorem y0u (j:Int) (h0:0<=j) (h1:j<4):∃ b:Bool,q0f (.list [.int 2,.int 2,.int 3,.int 3]) (.int j)=.ok (.int (if b then 2 else 3)):=by
 have:j=0\/j=1\/j=2\/j=3:=by omega
 rcases this with h | h | h | h<;>subst h
 ·exact ⟨true,rfl⟩
 ·exact ⟨true,rfl⟩
 ·exact ⟨false,rfl⟩
 ·exact ⟨false,rfl⟩
theorem q8r (p:List Str) (x:Str):(p++[x]).map PyData.str=p.map .str++[.str x]:=by simp
theorem x4f {a b c d e f:Sl}{pre p q r t:List Str}{x:Str}{j:Int} (hp:w07 pre p q) (hx:x∉pre) (hl:pre.length<900) (h0:0<=j) :
  ∃ p' q',w07 (pre++[x]) p' q'/\q2l (asB (g2 (fun ρ=>rdB ρ 7) (fun _=>.ok (.int 3)) ltD)) (q6S 4 (g2 (q39 (J.q01 (fun _=>.ok (.int 0)) (J.q01 (fun _=>.ok (.int 0)) (J.q01 (fun _=>.ok (.int 1)) J.q0e))) .list) (fun ρ=>rdB ρ 7) q0f) (fun ρ=>rdS ρ 6)) (fun ρ=>.ok (.nx ρ)) [a,b,c,d,o4 p q r t,e,.shr (.str x),.shr (.int j),f]=.ok (.nx [a,b,c,d,o4 p' q' r t,e,.shr (.str x),.shr (.int j),f]):=by
 by_cases h3:j<3
 ·obtain ⟨bo,e3⟩:=y0t j h0 h3
  have lp:p.length<1000:=by have:=hp.sp.length_le;omega
  have lq:q.length<1000:=by have:=hp.sq.length_le;omega
  cases bo
  ·refine ⟨p,q++[x],hp.right x hx,?_⟩
   walk_at "zz"
   rw [decide_eq_true h3]
   walk_at "zz"
   simp only [o4,q8r]
   refine (w8B (j:=1) (ds:=q.map .str) (d:=.str x) rfl ?_ (by decide) rfl rfl (by rw [List.length_map];exact lq)).trans rfl
   walk_at "zz"
   rw [e3]
   rfl
  ·refine ⟨p++[x],q,hp.left x hx,?_⟩
   walk_at "zz"
   rw [decide_eq_true h3]
   walk_at "zz"
   simp only [o4,q8r]
   refine (w8B (j:=0) (ds:=p.map .str) (d:=.str x) rfl ?_ (by decide) rfl rfl (by rw [List.length_map];exact lp)).trans rfl
   walk_at "zz"
   rw [e3]
   rfl
 ·refine ⟨p,q,hp.skip x,?_⟩
  walk_at "zz"
  rw [decide_eq_false h3]
  walk_at "zz"
theorem x4g {a b c d e f:Sl}{pre p q r t:List Str}{x:Str}{j:Int} (hp:w07 pre r t) (hx:x∉pre) (hl:pre.length<900) (h0:0<=j) :
  ∃ r' t',w07 (pre++[x]) r' t'/\q2l (asB (g2 (fun ρ=>rdB ρ 7) (fun _=>.ok (.int 4)) ltD)) (q6S 4 (g2 (q39 (J.q01 (fun _=>.ok (.int 2)) (J.q01 (fun _=>.ok (.int 2)) (J.q01 (fun _=>.ok (.int 3)) (J.q01 (fun _=>.ok (.int 3)) J.q0e)))) .list) (fun ρ=>rdB ρ 7) q0f) (fun ρ=>rdS ρ 6)) (fun ρ=>.ok (.nx ρ)) [a,b,c,d,o4 p q r t,e,.shr (.str x),.shr (.int j),f]=.ok (.nx [a,b,c,d,o4 p q r' t',e,.shr (.str x),.shr (.int j),f]):=by
 by_cases h3:j<4
 ·obtain ⟨bo,e3⟩:=y0u j h0 h3
  have lp:r.length<1000:=by have:=hp.sp.length_le;omega
  have lq:t.length<1000:=by have:=hp.sq.length_le;omega
  cases bo
  ·refine ⟨r,t++[x],hp.right x hx,?_⟩
   walk_at "zz"
   rw [decide_eq_true h3]
   walk_at "zz"
   simp only [o4,q8r]
   refine (w8B (j:=3) (ds:=t.map .str) (d:=.str x) rfl ?_ (by decide) rfl rfl (by rw [List.length_map];exact lq)).trans rfl
   walk_at "zz"
   rw [e3]
   rfl
  ·refine ⟨r++[x],t,hp.left x hx,?_⟩
   walk_at "zz"
   rw [decide_eq_true h3]
   walk_at "zz"
   simp only [o4,q8r]
   refine (w8B (j:=2) (ds:=r.map .str) (d:=.str x) rfl ?_ (by decide) rfl rfl (by rw [List.length_map];exact lp)).trans rfl
   walk_at "zz"
   rw [e3]
   rfl
 ·refine ⟨r,t,hp.skip x,?_⟩
  walk_at "zz"
  rw [decide_eq_false h3]
  walk_at "zz"
theorem y0v (i:Nat) (ρ:Rho):x9D i ρ=.ok (.nx ((clear2 ρ).set i (.ow2 [[],[],[],[]]))):=id rfl
theorem w07.sub {fs p q:List Str} (up:fs.Pairwise fun a b=>ltS a b=true) (h:w07 fs p q):Sub fs p/\Sub fs q:=⟨⟨up.sublist h.sp,fun x hx=>h.sp.subset hx⟩,⟨up.sublist h.sq,fun x hx=>h.sq.subset hx⟩⟩
theorem x4h (p:List Str) (ρ:Rho):(q0O (J.q01 (fun ρ=>rdB ρ 0) J.q0e) (on1 q2y)) (.shr (.list (p.map .str))::ρ)=.ok (q0l p):=by
 walk_at "zz"
 rw [q1C]
theorem y0w (p q r t:List Str):q30 (q3H 1 [Sl.no] (fun _=>.ok true) (q0O (J.q01 (fun ρ=>rdB ρ 0) J.q0e) (on1 q2y))) [.list (p.map .str),.list (q.map .str),.list (r.map .str),.list (t.map .str)]=.ok [q0l p,q0l q,q0l r,q0l t] :=
 q0L _ (fun ss:List Str=>PyData.list (ss.map .str)) (fun ss=>q0l ss) [p,q,r,t] fun ss hs=>q1h rfl (x4h ss _)
theorem x2h (ns:List Int) (k:Int) (hk:0<=k) (fs:List Str) (hf:∀ x∈fs,okW x=true) (up:fs.Pairwise fun a b=>ltS a b=true) (nd:fs.Nodup) (hl:fs.length<=6) (nm:Str) (hn:okW nm=true) :
  ∃ e,q1M [.list (ns.map .int),.int k,q0l fs,.str nm]=.ok (q14 e)/\q6X fs e/\e.name=nm:=by
 have p0:=q19 ns k 5 (by decide)
 have p1:=q1r ns k 5 (by decide)
 have go:∀ ρ:Rho,ρ=[.shr (.list (ns.map .int)),.shr (.int k),.shr (q0l fs),.shr (.str nm),.no,.no,.no,.no,.no]->(!decide (fs=[]) && decide (q2D ns 97 2=0))=false->∃ e,q2b ρ=.ok (.rt (q14 e))/\q6X fs e/\e.name=nm:=by
  rintro ρ rfl hc
  obtain ⟨ρ',h1,p,q,r,t,h2,h3,h4⟩:∃ ρ',(w1H (x6J (J.q01 (fun ρ=>rdS ρ 2) J.q0e)) (q6P 2 (q0D (q0q 5) (q0D (q0q 6) q84))) (q0d (q2R 7 (gFn 3 q07 (J.q01 (fun ρ=>rdS ρ 0) (J.q01 (g2 (g2 (fun ρ=>rdB ρ 1) (fun _=>.ok (.int 10)) q2v) (fun ρ=>rdB ρ 5) q2v) (J.q01 (fun _=>.ok (.int 8)) J.q0e))))) (q0d (q2l (asB (g2 (fun ρ=>rdB ρ 7) (fun _=>.ok (.int 3)) ltD)) (q6S 4 (g2 (q39 (J.q01 (fun _=>.ok (.int 0)) (J.q01 (fun _=>.ok (.int 0)) (J.q01 (fun _=>.ok (.int 1)) J.q0e))) .list) (fun ρ=>rdB ρ 7) q0f) (fun ρ=>rdS ρ 6)) (fun ρ=>.ok (.nx ρ))) (q0d (q2R 7 (gFn 3 q07 (J.q01 (fun ρ=>rdS ρ 0) (J.q01 (g2 (g2 (fun ρ=>rdB ρ 1) (fun _=>.ok (.int 20)) q2v) (fun ρ=>rdB ρ 5) q2v) (J.q01 (fun _=>.ok (.int 8)) J.q0e))))) (q2l (asB (g2 (fun ρ=>rdB ρ 7) (fun _=>.ok (.int 4)) ltD)) (q6S 4 (g2 (q39 (J.q01 (fun _=>.ok (.int 2)) (J.q01 (fun _=>.ok (.int 2)) (J.q01 (fun _=>.ok (.int 3)) (J.q01 (fun _=>.ok (.int 3)) J.q0e)))) .list) (fun ρ=>rdB ρ 7) q0f) (fun ρ=>rdS ρ 6)) (fun ρ=>.ok (.nx ρ))))))) [.shr (.list (ns.map .int)),.shr (.int k),.shr (q0l fs),.shr (.str nm),o4 [] [] [] [],.no,.no,.no,.no]=.ok (.nx ρ')/\∃ p q r t,w07 fs p q/\w07 fs r t/\∃ z5 z6 z7,ρ'=[.shr (.list (ns.map .int)),.shr (.int k),.shr (q0l fs),.shr (.str nm),o4 p q r t,z5,z6,z7,.no]:=by
   rw [q85 (ds:=(q6q 0 fs).map cI)]
   ·have H:=q6p cI (fun (a:Unit) (_:Nat×Str)=>a) (fun q0I _ ρ=>∃ pre,pre++q0I.map (·.2)=fs/\∃ p q r t,w07 pre p q/\w07 pre r t/\∃ z5 z6 z7,ρ=[.shr (.list (ns.map .int)),.shr (.int k),.shr (q0l fs),.shr (.str nm),o4 p q r t,z5,z6,z7,.no]) (kt:=q6P 2 (q0D (q0q 5) (q0D (q0q 6) q84))) (gb:=(q0d (q2R 7 (gFn 3 q07 (J.q01 (fun ρ=>rdS ρ 0) (J.q01 (g2 (g2 (fun ρ=>rdB ρ 1) (fun _=>.ok (.int 10)) q2v) (fun ρ=>rdB ρ 5) q2v) (J.q01 (fun _=>.ok (.int 8)) J.q0e))))) (q0d (q2l (asB (g2 (fun ρ=>rdB ρ 7) (fun _=>.ok (.int 3)) ltD)) (q6S 4 (g2 (q39 (J.q01 (fun _=>.ok (.int 0)) (J.q01 (fun _=>.ok (.int 0)) (J.q01 (fun _=>.ok (.int 1)) J.q0e))) .list) (fun ρ=>rdB ρ 7) q0f) (fun ρ=>rdS ρ 6)) (fun ρ=>.ok (.nx ρ))) (q0d (q2R 7 (gFn 3 q07 (J.q01 (fun ρ=>rdS ρ 0) (J.q01 (g2 (g2 (fun ρ=>rdB ρ 1) (fun _=>.ok (.int 20)) q2v) (fun ρ=>rdB ρ 5) q2v) (J.q01 (fun _=>.ok (.int 8)) J.q0e))))) (q2l (asB (g2 (fun ρ=>rdB ρ 7) (fun _=>.ok (.int 4)) ltD)) (q6S 4 (g2 (q39 (J.q01 (fun _=>.ok (.int 2)) (J.q01 (fun _=>.ok (.int 2)) (J.q01 (fun _=>.ok (.int 3)) (J.q01 (fun _=>.ok (.int 3)) J.q0e)))) .list) (fun ρ=>rdB ρ 7) q0f) (fun ρ=>rdS ρ 6)) (fun ρ=>.ok (.nx ρ)))))))
    obtain ⟨ρ',h1,pre,h2,p,q,r,t,h3,h4,h5⟩:=H (by
     rintro ⟨i,x⟩ q0I _ ρ ⟨pre,h2,p,q,r,t,h3,h4,z5,z6,z7,rfl⟩
     have hx:x∉pre:=by
      rw [<- h2,List.map_cons] at nd
      have:=(List.nodup_append.mp nd).2.2
      intro hx
      exact this x hx x List.mem_cons_self rfl
     have hpl:pre.length<900:=by
      have:=congrArg List.length h2
      rw [List.length_append] at this
      omega
     obtain ⟨p',q',k1,k2⟩:=x4f (a:=.shr (.list (ns.map .int))) (b:=.shr (.int k)) (c:=.shr (q0l fs)) (d:=.shr (.str nm)) (e:=.shr (.int (i:Nat))) (f:=.no) (r:=r) (t:=t) (j:=q2D ns (k + 10 + i) 8) h3 hx hpl (q19 _ _ _ (by decide))
     obtain ⟨r',t',k3,k4⟩:=x4g (a:=.shr (.list (ns.map .int))) (b:=.shr (.int k)) (c:=.shr (q0l fs)) (d:=.shr (.str nm)) (e:=.shr (.int (i:Nat))) (f:=.no) (p:=p') (q:=q') (j:=q2D ns (k + 20 + i) 8) h4 hx hpl (q19 _ _ _ (by decide))
     refine ⟨[.shr (.list (ns.map .int)),.shr (.int k),.shr (q0l fs),.shr (.str nm),o4 p q r t,.shr (.int (i:Nat)),.shr (.str x),z7,.no],[.shr (.list (ns.map .int)),.shr (.int k),.shr (q0l fs),.shr (.str nm),o4 p' q' r' t',.shr (.int (i:Nat)),.shr (.str x),.shr (.int (q2D ns (k + 20 + i) 8)),.no],rfl,?_,pre++[x],?_,p',q',r',t',k1,k3,_,_,_,rfl⟩
     ·rw [w1P,x3W]
      walk_at "yy"
      rw [q1i ns _ 8 (by omega) (by decide)]
      walk_at "yy"
      rw [k2]
      walk_at "yy"
      rw [q1i ns _ 8 (by omega) (by decide)]
      walk_at "yy"
      rw [k4]
     ·rw [<- h2];simp) (q6q 0 fs) () [.shr (.list (ns.map .int)),.shr (.int k),.shr (q0l fs),.shr (.str nm),o4 [] [] [] [],.no,.no,.no,.no] ⟨[],by rw [q6r];rfl,[],[],[],[],⟨List.Sublist.refl _,List.Sublist.refl _,fun _ h=>nomatch h⟩,⟨List.Sublist.refl _,List.Sublist.refl _,fun _ h=>nomatch h⟩,_,_,_,rfl⟩
    refine ⟨ρ',h1,p,q,r,t,?_,?_,h5⟩
    ·simp only [List.map_nil,List.append_nil] at h2
     rw [<- h2];exact h3
    ·simp only [List.map_nil,List.append_nil] at h2
     rw [<- h2];exact h4
   ·walk_at "zz"
    rw [w20]
  obtain ⟨s1,s2⟩:=h2.sub up
  obtain ⟨s3,s4⟩:=h3.sub up
  obtain ⟨z5,z6,z7,rfl⟩:=h4
  refine ⟨⟨nm,p,q,r,t,q2D ns k 5⟩,?_,⟨hn,s1,s2,s3,s4,h2.d,h3.d,p0,by show q2D ns k 5<=9;omega⟩,rfl⟩
  unfold q2b
  have hand:x1n (asB (g2 (fun ρ=>rdB ρ 2) (q39 J.q0e .tuple) (eqD true))) (asB (g2 (gFn 3 q07 (J.q01 (fun ρ=>rdS ρ 0) (J.q01 (fun _=>.ok (.int 97)) (J.q01 (fun _=>.ok (.int 2)) J.q0e)))) (fun _=>.ok (.int 0)) (eqD false))) [.shr (.list (ns.map .int)),.shr (.int k),.shr (q0l fs),.shr (.str nm),.no,.no,.no,.no,.no]=.ok false:=by
   walk_at "zz"
   rw [x2g fs hf]
   walk_at "zz"
   by_cases h:fs=[]
   ·simp only [h,decide_true,Bool.not_true,cond_false]
   ·simp only [h,decide_false,Bool.not_false,cond_true,Bool.true_and] at hc ⊢
    rw [q1i ns 97 2 (by decide) (by decide)]
    walk_at "zz"
    rw [q4N]
    walk_at "zz"
    rw [hc]
  rw [w1P,y15,hand]
  simp only [x3h,x5b,y0v,clear2,List.map_cons,List.map_nil,List.set_cons_succ,List.set_cons_zero,x3h,q8n,w1P]
  rw [show Sl.ow2 [[],[],[],[]]=o4 [] [] [] [] from rfl,h1]
  walk_at "zz"
  rw [y0w]
  walk_at "zz"
  rw [x9c]
  walk_at "zz"
  rw [x9d]
  walk_at "zz"
  rw [x9e]
  walk_at "zz"
  rw [x9f]
  walk_at "zz"
  rw [q1i ns k 5 hk (by decide)]
  walk_at "zz"
  rfl
 by_cases hc:(!decide (fs=[]) && decide (q2D ns 97 2=0))=true
 ·have h0:0<fs.length:=by
   rcases fs with _ | ⟨x,r⟩
   ·simp at hc
   ·simp
  obtain ⟨e,h1,h2⟩:=x6Y ns k hk fs hf h0 nm hn
  refine ⟨e,?_,h2⟩
  unfold q1M
  refine q0F ?_
  unfold q2b q0r
  walk_at "zz"
  rw [x2g fs hf]
  walk_at "zz"
  simp only [Bool.and_eq_true] at hc
  rw [hc.1]
  walk_at "zz"
  rw [q1i ns 97 2 (by decide) (by decide)]
  walk_at "zz"
  rw [q4N]
  walk_at "zz"
  rw [hc.2]
  walk_at "zz"
  rw [h1]
  walk_at "zz"
 ·obtain ⟨e,h1,h2⟩:=go _ rfl (Bool.eq_false_iff.mpr hc)
  exact ⟨e,by unfold q1M;exact q0F h1,h2⟩
theorem x5L (ds:List D) (t:Nat) (h:t<=ds.length):x3f ds (some (t:Int)) none=ds.drop t:=by
 unfold x3f
 rw [HT.x0Y,HT.w7U,Nat.min_eq_left h,List.take_of_length_le (by rw [List.length_drop];exact Nat.le_refl _)]
theorem x9g (ds:List D) (t:Nat) (h:t<=ds.length):x3f ds none (some (t:Int))=ds.take t:=by
 unfold x3f
 rw [HT.x0Y,HT.w7U,Nat.min_eq_left h,List.drop_zero,Nat.sub_zero]
theorem y0x (ds:List D) (t:Nat) (h:t<=ds.length):slD (.list ds) (some (t:Int)) none=.ok (.list (ds.drop t)):=by
 rw [<- x5L ds t h];rfl
theorem y0y (ds:List D) (t:Nat) (h:t<=ds.length):slD (.list ds) none (some (t:Int))=.ok (.list (ds.take t)):=by
 rw [<- x9g ds t h];rfl
theorem x5M {l:List (Str×D)} (nd:(l.map (·.1)).Nodup) {p:Str×D} (hp:p∈l):q0f (.dict (q4z l)) (.str p.1)=.ok p.2:=by
 have e:∀ kvs x,q0f (.dict kvs) (.str x)=if q20 kvs=true then (match w5J kvs (.str x) with
   | some d=>.ok d
   | none=>.no) else .no:=fun _ _=>rfl
 rw [e,if_pos (w1X l)]
 have:w5J (q4z l) (.str p.1)=some p.2:=by
  unfold w5J q4z
  clear e
  induction l with
  | nil=>cases hp
  | cons q r ih =>
   rw [List.map_cons] at nd
   obtain ⟨n1,n2⟩:=List.nodup_cons.mp nd
   rw [List.map_cons,List.find?_cons,q6W]
   rcases List.mem_cons.mp hp with h | h
   ·subst h;simp
   ·have:q.1≠p.1:=fun z=>n1 (z ▸ List.mem_map_of_mem h)
    rw [decide_eq_false this]
    exact ih n2 h
 rw [this]
structure q2r (fs:List Str) (es:List ErZ):Prop where
 rise:x9H fs 6
 len:es.length<=6
 nd:(es.map (·.name)).Nodup
 ok:∀ e∈es,q6X fs e
def q2Z (fs:List Str) (es:List ErZ):D:=.tuple [q0l fs,.tuple (es.map q14)]
theorem y1n (fs:List Str):∀ (l:List (Str×D)),(∀ p∈l,∃ e,p.2=q14 e/\q6X fs e/\e.name=p.1)->∃ es:List ErZ,l.map (·.2)=es.map q14/\es.map (·.name)=l.map (·.1)/\∀ e∈es,q6X fs e
 | [],_=>⟨[],rfl,rfl,fun _ h=>nomatch h⟩
 | p::r,h=>by
  obtain ⟨e,h1,h2,h3⟩:=h p List.mem_cons_self
  obtain ⟨es,k1,k2,k3⟩:=y1n fs r fun q hq=>h q (List.mem_cons_of_mem _ hq)
  refine ⟨e::es,by rw [List.map_cons,List.map_cons,h1,k1],by rw [List.map_cons,List.map_cons,h3,k2],fun x hx=>?_⟩
  rcases List.mem_cons.mp hx with z | z
  ·rw [z];exact h2
  ·exact k3 x z
theorem x2i {α:Type} (l:List α) (t:Nat):(l.drop t++l.take t).Perm l:=by
 refine List.perm_append_comm.trans ?_
 rw [List.take_append_drop]
theorem q3m {l:List Str} (h:l.Pairwise fun a b=>ltS a b=true):l.Nodup:=h.imp fun hab z=>by
 rw [z,q6M] at hab
 cases hab
theorem x6Z (ns:List Int) (k:Int) (hk:0<=k) (m n:Int) (hm0:0<=m) (hm:m<=6) (hn0:0<=n) (hn:n<=6):∃ fs es,q3a [.list (ns.map .int),.int k,.int m,.int n]=.ok (q2Z fs es)/\q2r fs es:=by
 have hr:=w9l ns k m hm0
 generalize hfs:w8z ns k m=fs at hr
 have hr:x9H fs 6:=⟨hr.ok,hr.up,by have:=hr.len;omega⟩
 have nd:=q3m hr.up
 have m0:=q19 ns (k + 60) (n + 1) (by omega)
 have m1:=q1r ns (k + 60) (n + 1) (by omega)
 suffices H:∃ es,q3a [.list (ns.map .int),.int k,.int m,.int n]=.ok (q2Z fs es)/\q2r fs es from H.elim fun es h=>⟨fs,es,h⟩
 unfold q3a
 suffices H:∃ es,q3V (q0r 10 [.list (ns.map .int),.int k,.int m,.int n])=.ok (.rt (q2Z fs es))/\q2r fs es from H.elim fun es h=>⟨es,q0F h.1,h.2⟩
 have H:=q6p (fun (i:Nat)=>PyData.int i) (fun (a:Unit) (_:Nat)=>a) (fun q0I _ ρ=>∃ l,l.length + q0I.length<=6/\(l.map (·.1)).Nodup/\(∀ p∈l,∃ e,p.2=q14 e/\q6X fs e/\e.name=p.1)/\∃ z6 z7,ρ=[.shr (.list (ns.map .int)),.shr (.int k),.shr (.int m),.shr (.int n),.shr (q0l fs),.own (.dict (q4z l)),z6,z7,.no,.no]) (kt:=q0q 6) (gb:=q0d (q2R 7 (gFn 2 q2a (J.q01 (fun ρ=>rdS ρ 0) (J.q01 (g2 (g2 (fun ρ=>rdB ρ 1) (fun _=>.ok (.int 70)) q2v) (g2 (fun _=>.ok (.int 40)) (fun ρ=>rdB ρ 6) x0I) q2v) J.q0e)))) (x3Q 5 (fun ρ=>rdS ρ 7) (gFn 4 q1M (J.q01 (fun ρ=>rdS ρ 0) (J.q01 (g2 (g2 (fun ρ=>rdB ρ 1) (fun _=>.ok (.int 80)) q2v) (g2 (fun _=>.ok (.int 40)) (fun ρ=>rdB ρ 6) x0I) q2v) (J.q01 (fun ρ=>rdS ρ 4) (J.q01 (fun ρ=>rdS ρ 7) J.q0e)))))))
 obtain ⟨ρ',h1,l,h2,h3,h4,z6,z7,h5⟩:=H (by
  rintro i q0I _ ρ ⟨l,h2,h3,h4,z6,z7,rfl⟩
  simp only [List.length_cons] at h2
  have hw:=w8v ns (k + 70 + 40 * (i:Int))
  obtain ⟨e,e1,e2,e3⟩:=x2h ns (k + 80 + 40 * (i:Int)) (by omega) fs hr.ok hr.up nd hr.len (q4M ns (k + 70 + 40 * (i:Int))) hw
  have pl:=w8w l (q4M ns (k + 70 + 40 * (i:Int))) (q14 e)
  refine ⟨[.shr (.list (ns.map .int)),.shr (.int k),.shr (.int m),.shr (.int n),.shr (q0l fs),.own (.dict (q4z l)),.shr (.int i),z7,.no,.no],[.shr (.list (ns.map .int)),.shr (.int k),.shr (.int m),.shr (.int n),.shr (q0l fs),.own (.dict (q4z (w5j l (q4M ns (k + 70 + 40 * (i:Int))) (q14 e)))),.shr (.int i),.shr (.str (q4M ns (k + 70 + 40 * (i:Int)))),.no,.no],rfl,?_,w5j l (q4M ns (k + 70 + 40 * (i:Int))) (q14 e),by omega,?_,?_,_,_,rfl⟩
  ·walk_at "zz"
   rw [q6V (by decide) (by decide)]
   walk_at "zz"
   rw [x29 ns _ (by omega)]
   walk_at "zz"
   refine (x99 (l:=l) (x:=q4M ns (k + 70 + 40 * (i:Int))) (d:=q14 e) rfl ?_ rfl (by omega)).trans rfl
   walk_at "zz"
   rw [q6V (by decide) (by decide)]
   walk_at "zz"
   exact e1
  ·rw [w3V];exact x2b h3
  ·exact x4c (Q:=fun x d=>∃ e,d=q14 e/\q6X fs e/\e.name=x) h4 ⟨e,rfl,e2,e3⟩) (List.range (q2D ns (k + 60) (n + 1)).toNat) () [.shr (.list (ns.map .int)),.shr (.int k),.shr (.int m),.shr (.int n),.shr (q0l fs),.own (.dict (q4z [])),.no,.no,.no,.no] ⟨[],by rw [List.length_range];simp only [List.length_nil];omega,List.nodup_nil,fun _ h=>(nomatch h),_,_,rfl⟩
 simp only [List.length_nil,Nat.add_zero] at h2
 have t0:=q19 ns (k + 61) ((l.length:Int) + 1) (by omega)
 have t1:=q1r ns (k + 61) ((l.length:Int) + 1) (by omega)
 obtain ⟨t,ht⟩:∃ t:Nat,q2D ns (k + 61) ((l.length:Int) + 1)=t:=⟨_,(Int.toNat_of_nonneg t0).symm⟩
 have tl:t<=l.length:=by omega
 have pm:=x2i l t
 obtain ⟨es,k1,k2,k3⟩:=y1n fs (l.drop t++l.take t) fun p hp=>h4 p (pm.mem_iff.mp hp)
 have kl:es.length=l.length:=by
  have:=congrArg List.length k1
  rw [List.length_map,List.length_map,pm.length_eq] at this
  exact this.symm
 refine ⟨es,?_,hr,by omega,?_,k3⟩
 ·unfold q3V q0r
  walk_at "yy"
  rw [x4e ns k m hk hm0 (by omega),hfs]
  walk_at "yy"
  rw [q85 (ds:=(List.range (q2D ns (k + 60) (n + 1)).toNat).map fun (i:Nat)=>PyData.int i)]
  ·rw [show PyData.dict []=PyData.dict (q4z []) from rfl,h1,h5]
   walk_at "yy"
   rw [w8x]
   walk_at "yy"
   rw [q1i ns _ _ (by omega) (by omega),ht]
   walk_at "yy"
   clear H h1
   rw [y0x _ t (by simpa using tl)]
   walk_at "yy"
   rw [y0y _ t (by simpa using tl)]
   walk_at "yy"
   have e1:(List.drop t (List.map PyData.str (List.map (fun x=>x.fst) l))++List.take t (List.map PyData.str (List.map (fun x=>x.fst) l)))=(l.drop t++l.take t).map fun p=>PyData.str p.1:=by
    rw [List.map_append,List.map_drop,List.map_take,List.map_map];rfl
   rw [e1,if_pos (by rw [<- List.length_append,e1,List.length_map,pm.length_eq];omega)]
   have pl:=pm.length_eq
   have px:∀ p∈l.drop t++l.take t,p∈l:=fun p hp=>pm.mem_iff.mp hp
   clear e1 pm k2
   generalize l.drop t++l.take t=L at pl px k1 ⊢
   walk_at "yy"
   rw [if_pos (by omega)]
   rw [q0L _ (fun p:Str×D=>PyData.str p.1) (fun p=>p.2) L fun p hp=>q1h rfl (by
    walk_at "yy"
    exact x5M h3 (px p hp))]
   walk_at "yy"
   rw [q1C]
   walk_at "yy"
   rw [k1]
   rfl
  ·walk_at "yy"
   rw [q1i ns (k + 60) (n + 1) (by omega) (by omega)]
   walk_at "yy"
   have:=q92 (q2D ns (k + 60) (n + 1)).toNat (by omega)
   rw [Int.toNat_of_nonneg m0] at this
   exact this
 ·rw [k2]
  exact ((pm.map _).nodup_iff).mpr h3
theorem w3W {α:Type} (b:α->Bool):∀ xs:List α,q4G (xs.map fun x=>PyData.bool (b x))=some (xs.map b)
 | []=>rfl
 | x::r=>by
  show (q4G (r.map fun x=>PyData.bool (b x))).map (b x::·)=_
  rw [w3W b r]
  rfl
theorem q3n {α:Type} (k:List Bool->Bool) (b:α->Bool) (xs:List α):q2k k (.list (xs.map fun x=>PyData.bool (b x)))=.ok (.bool (k (xs.map b))):=by
 have e:∀ ds,q2k k (.list ds)=match q4G ds with
  | some bs=>.ok (.bool (k bs))
  | none=>.no:=fun _=>rfl
 rw [e,w3W]
theorem x4i {s s':Sl}{ρ:Rho}{gt:Rho->R Bool}{ge:Rho->R D}{d d' y:D} (h1:gt (.shr d::.shr d'::ρ)=.ok true) (h2:ge (.shr d::.shr d'::ρ)=.ok y):q3H 2 (s::s'::ρ) gt ge (.tuple [d,d'])=.ok (some y):=by
 have e:q3H 2 (s::s'::ρ) gt ge (.tuple [d,d'])=x7r ((gt (.shr d::.shr d'::ρ)).bind fun b=>if b then (ge (.shr d::.shr d'::ρ)).bind fun y=>.ok (some y) else .ok none):=id rfl
 rw [e,h1,bind_ok,if_pos rfl,h2];rfl
theorem x5N (x:Str):noD (.str x)=true:=id rfl
theorem x5O (i:Int):noD (.int i)=true:=id rfl
theorem q94 {α:Type} (c:α->D) (h:∀ x,noD (c x)=true):∀ xs:List α,noDs (xs.map c)=true
 | []=>rfl
 | x::r=>by
  show (noD (c x) && noDs (r.map c))=true
  rw [h x,q94 c h r];rfl
theorem x5P (xs:List D):noD (.tuple xs)=noDs xs:=id rfl
theorem q4b (xs:List Str):noD (q0l xs)=true:=by
 rw [x5P]
 exact q94 _ (fun _=>rfl) xs
theorem x2j (e:ErZ):noD (q14 e)=true:=by
 have:noD (q14 e)=(true && (noD (q0l e.needs) && (noD (q0l e.bars) && (noD (q0l e.makes) && (noD (q0l e.ends) && (true && true)))))):=rfl
 rw [this,q4b,q4b,q4b,q4b];rfl
theorem x9h (es:List ErZ):noD (.tuple (es.map q14))=true:=by
 rw [x5P]
 exact q94 _ x2j es
theorem x70 (fs:List Str) (es:List ErZ):noD (q2Z fs es)=true:=by
 have:noD (q2Z fs es)=(noD (q0l fs) && (noD (.tuple (es.map q14)) && true)):=rfl
 rw [this,q4b,x9h];rfl
theorem x5Q (x:Str):x1x "str" (.str x)=true:=id rfl
theorem w3X (x:List D):x1x "tuple" (.tuple x)=true:=id rfl
theorem x9i (x:Int):x1x "int" (.int x)=true:=id rfl
theorem x9j (x:Int):x1x "bool" (.int x)=false:=id rfl
theorem x71:∀ c:_root_.Fin 123,97<=c.val->(!ltS ⟨#[c.val]⟩ "a")=true/\(!ltS "z" ⟨#[c.val]⟩)=true:=by decide +kernel
theorem w3Y {x:Str} (h:okW x=true):q3g [.str x]=.ok (.bool true):=by
 have hw:=h
 unfold okW at h
 simp only [Bool.and_eq_true,decide_eq_true_eq,List.all_eq_true] at h
 obtain ⟨⟨h1,h2⟩,h3⟩:=h
 have hl:x.length=x.cps.size:=rfl
 unfold q3g
 refine q0F ?_
 unfold q6i q0r
 walk_at "zz"
 rw [x5N,x5Q]
 walk_at "zz"
 rw [if_pos (by omega)]
 walk_at "zz"
 rw [decide_eq_true (by omega)]
 walk_at "zz"
 rw [decide_eq_true (by omega)]
 walk_at "zz"
 unfold q5n
 walk_at "zz"
 rw [if_pos (by rw [Array.length_toList];omega)]
 rw [q0L _ (fun c:Nat=>PyData.str ⟨#[c]⟩) (fun _=>PyData.bool true) x.cps.toList fun c hc=>q1h rfl (by
  obtain ⟨a1,a2⟩:=h3 c hc
  obtain ⟨b1,b2⟩:=x71 ⟨c,by omega⟩ a1
  walk_at "zz"
  simp only at b1 b2
  rw [b1]
  walk_at "zz"
  rw [b2])]
 walk_at "zz"
 rw [q3n _ (fun _=>true)]
 walk_at "zz"
 simp
theorem w8C:∀ (xs ys:List Str),x0J (xs.map .str) (ys.map .str)=(xs.zip ys).map fun p=>PyData.tuple [.str p.1,.str p.2]
 | [],_=>rfl
 | _::_,[]=>rfl
 | x::r,y::r'=>by
  show PyData.tuple [.str x,.str y]::x0J (r.map .str) (r'.map .str)=_
  rw [w8C r r']
  rfl
theorem x5R:∀ {l:List Str},(l.Pairwise fun a b=>ltS a b=true)->∀ p∈l.zip (l.drop 1),ltS p.1 p.2=true
 | [],_,p,hp=>by cases hp
 | [_],_,p,hp=>by cases hp
 | a::b::r,h,p,hp=>by
  obtain ⟨h1,h2⟩:=List.pairwise_cons.mp h
  rcases List.mem_cons.mp hp with z | z
  ·rw [z];exact h1 b List.mem_cons_self
  ·exact x5R h2 p z
theorem x72 (xs:List Str):slD (q0l xs) (some 1) none=.ok (q0l (xs.drop 1)):=by
 have e:slD (q0l xs) (some 1) none=.ok (.tuple (x3f (xs.map .str) (some 1) none)):=rfl
 rw [e]
 cases xs with
 | nil=>rfl
 | cons x r =>
  rw [show (1:Int)=((1:Nat):Int) from rfl,x5L _ 1 (by simp)]
  rfl
theorem q95 {xs:List Str} (hw:∀ x∈xs,okW x=true) (up:xs.Pairwise fun a b=>ltS a b=true) (hl:xs.length<=6):q0H [q0l xs]=.ok (.bool true):=by
 unfold q0H
 refine q0F ?_
 unfold q1F q0r
 walk_at "zz"
 rw [q4b,w3X]
 walk_at "zz"
 rw [if_pos (by omega)]
 rw [q0L _ (fun x:Str=>PyData.str x) (fun _=>PyData.bool true) xs fun x hx=>q1h rfl (by
  walk_at "zz"
  rw [w3Y (hw x hx)])]
 walk_at "zz"
 rw [q3n _ (fun _=>true)]
 walk_at "zz"
 rw [show ((xs.map fun _=>true).all id)=true by simp]
 walk_at "zz"
 rw [x72]
 walk_at "zz"
 rw [w8C]
 walk_at "zz"
 rw [if_pos (by simp;omega)]
 rw [q0L _ (fun p:Str×Str=>PyData.tuple [.str p.1,.str p.2]) (fun _=>PyData.bool true) (xs.zip (xs.drop 1)) fun p hp=>x4i rfl (by
  walk_at "zz"
  rw [x5R up p hp])]
 walk_at "zz"
 rw [q3n _ (fun _=>true)]
 walk_at "zz"
 simp
theorem q2E {fs xs:List Str} (hw:∀ x∈fs,okW x=true) (h:Sub fs xs) (hl:xs.length<=6):q0N [q0l fs,q0l xs]=.ok (.bool true):=by
 unfold q0N
 refine q0F ?_
 unfold q45 q0r
 walk_at "zz"
 rw [q95 (fun x hx=>hw x (h.mem x hx)) h.up hl]
 walk_at "zz"
 rw [if_pos (by omega)]
 rw [q0L _ (fun x:Str=>PyData.str x) (fun _=>PyData.bool true) xs fun x hx=>q1h rfl (by
  walk_at "zz"
  rw [q7L,decide_eq_true (h.mem x hx)]
  rfl)]
 walk_at "zz"
 rw [q3n _ (fun _=>true)]
 walk_at "zz"
 simp
theorem q96 {xs ys:List Str} (h:∀ x∈xs,x∉ys) (hl:xs.length<=6):q0p [q0l xs,q0l ys]=.ok (.bool true):=by
 unfold q0p
 refine q0F ?_
 unfold q2U q0r
 walk_at "zz"
 rw [if_pos (by omega)]
 rw [q0L _ (fun x:Str=>PyData.str x) (fun _=>PyData.bool false) xs fun x hx=>q1h rfl (by
  walk_at "zz"
  rw [q7L,decide_eq_false (h x hx)]
  rfl)]
 walk_at "zz"
 rw [q3n _ (fun _=>false)]
 walk_at "zz"
 simp
theorem w9m {l i m:Int} (h0:l<=i) (h1:i<=m):q3S [.int i,.int l,.int m]=.ok (.bool true):=by
 unfold q3S
 refine q0F ?_
 unfold q55 q0r
 walk_at "zz"
 rw [x5O,x9i]
 walk_at "zz"
 rw [x5O,x9j]
 walk_at "zz"
 rw [decide_eq_true h0]
 walk_at "zz"
 rw [decide_eq_true h1]
theorem w8D:∀ (xs fs:List Str),xs.Nodup->(∀ x∈xs,x∈fs)->xs.length<=fs.length
 | [],_,_,_=>Nat.zero_le _
 | x::r,fs,nd,h=>by
  obtain ⟨n1,n2⟩:=List.nodup_cons.mp nd
  have hx:=h x List.mem_cons_self
  have:=w8D r (fs.erase x) n2 fun y hy=>(List.mem_erase_of_ne fun (z:y=x)=>n1 (z ▸ hy)).mpr (h y (List.mem_cons_of_mem _ hy))
  rw [List.length_erase_of_mem hx] at this
  have:0<fs.length:=List.length_pos_of_mem hx
  rw [List.length_cons]
  omega
theorem q13 {fs xs:List Str} (h:Sub fs xs) (hl:fs.length<=6):xs.length<=6:=by
 exact Nat.le_trans (w8D xs fs (q3m h.up) h.mem) hl
theorem y1Y (a b c d e f g:D):x6N (q6P 6 (q0D (q0q 2) (q0D (q0q 3) (q0D (q0q 4) (q0D (q0q 5) (q0D (q0q 6) (q0D (q0q 7) q84))))))) [Sl.shr a,Sl.shr (.tuple [b,c,d,e,f,g]),.no,.no,.no,.no,.no,.no] (.tuple [b,c,d,e,f,g])=.ok (.nx [Sl.shr a,Sl.shr (.tuple [b,c,d,e,f,g]),.shr b,.shr c,.shr d,.shr e,.shr f,.shr g]):=id rfl
theorem w5P {fs:List Str} (hr:x9H fs 6) {e:ErZ} (g:q6X fs e):q3h [q0l fs,q14 e]=.ok (.bool true):=by
 have l1:=q13 g.needs hr.len
 have l2:=q13 g.bars hr.len
 have l3:=q13 g.makes hr.len
 have l4:=q13 g.ends hr.len
 unfold q3h
 refine q0F ?_
 unfold q46 q0r
 walk_at "zz"
 rw [x2j]
 unfold q14
 walk_at "zz"
 rw [w3X]
 walk_at "zz"
 rw [q4N]
 walk_at "zz"
 rw [show decide (((6:Nat):Int)=6)=true from rfl]
 walk_at "zz"
 rw [y1Y]
 ·walk_at "zz"
  rw [w3Y g.name]
  walk_at "zz"
  rw [w9m g.p0 g.p9]
  walk_at "zz"
  have pk:=q0L (q3H 1 [Sl.no,Sl.shr (q0l fs)] (fun x=>R.ok true) (gFn 2 q0N (J.q01 (fun ρ=>rdS ρ 1) (J.q01 (fun ρ=>rdS ρ 0) J.q0e)))) (fun x:List Str=>q0l x) (fun _=>PyData.bool true) [e.needs,e.bars,e.makes,e.ends] fun x hx=>q1h rfl (by
   walk_at "zz"
   simp only [List.mem_cons,List.not_mem_nil,or_false] at hx
   rcases hx with z | z | z | z<;>rw [z]
   ·rw [q2E hr.ok g.needs l1]
   ·rw [q2E hr.ok g.bars l2]
   ·rw [q2E hr.ok g.makes l3]
   ·rw [q2E hr.ok g.ends l4])
  simp only [List.map_cons,List.map_nil] at pk
  rw [pk]
  walk_at "zz"
  rw [show q2k (fun bs=>bs.all id) (.list [.bool true,.bool true,.bool true,.bool true])=.ok (.bool true) from rfl]
  walk_at "zz"
  rw [q96 g.nb l1]
  walk_at "zz"
  rw [q96 g.me l3]
  walk_at "zz"
theorem x4j (l:List Str) (nd:l.Nodup):(q12 [] l).length=l.length:=by
 have h1:=w8D (q12 [] l) l (q22 l [] List.nodup_nil) fun x hx=>((q2j l [] x).mp hx).elim (fun h=>nomatch h) id
 have h2:=w8D l (q12 [] l) nd fun x hx=>(q2j l [] x).mpr (.inr hx)
 omega
theorem x2k (es:List ErZ) (hl:es.length<=6) (nd:(es.map (·.name)).Nodup) (s:Sl) (ρ:Rho) (h:(s::ρ)[2]?=some (.shr (.tuple (es.map q14)))):q8Y (w0N 1 [] (gIt (fun ρ=>rdB ρ 2)) (fun _=>.ok true) (g2 (fun ρ=>rdB ρ 0) (fun _=>.ok (.int 0)) q0f)) (s::ρ)=.ok (.int (es.length:Nat)):=by
 have hr:rdB (s::ρ) 2=.ok (.tuple (es.map q14)):=by unfold rdB;rw [h]
 unfold q8Y w0N
 rw [x9E,hr]
 walk_at "zz"
 rw [if_pos (by omega)]
 rw [q0L _ q14 (fun e=>PyData.str e.name) es fun e he=>q1h rfl (by
  walk_at "zz"
  rfl)]
 walk_at "zz"
 have:(es.map fun e=>PyData.str e.name)=(es.map (·.name)).map .str:=by rw [List.map_map];rfl
 rw [this,strsOf_map]
 simp only [x3h,x4j _ nd,List.length_map]
theorem y1Z (b c:D):x6N (q6P 2 (q0D (q0q 1) (q0D (q0q 2) q84))) [Sl.shr (.tuple [b,c]),.no,.no] (.tuple [b,c])=.ok (.nx [Sl.shr (.tuple [b,c]),.shr b,.shr c]):=id rfl
theorem x2l {fs:List Str}{es:List ErZ} (g:q2r fs es):q4K [q2Z fs es]=.ok (.bool true):=by
 have l1:=g.rise.len
 have l2:=g.len
 unfold q4K
 refine q0F ?_
 unfold q6j q0r
 walk_at "zz"
 rw [x70]
 unfold q2Z
 walk_at "zz"
 rw [w3X]
 walk_at "zz"
 rw [q4N]
 walk_at "zz"
 rw [show decide (((2:Nat):Int)=2)=true from rfl]
 walk_at "zz"
 rw [y1Z]
 walk_at "zz"
 rw [q95 g.rise.ok g.rise.up l1]
 walk_at "zz"
 rw [decide_eq_false (by omega)]
 walk_at "zz"
 rw [x9h,w3X]
 walk_at "zz"
 rw [decide_eq_false (by omega)]
 walk_at "zz"
 rw [if_pos (by omega)]
 rw [q0L _ q14 (fun _=>PyData.bool true) es fun e he=>q1h rfl (by
  walk_at "zz"
  rw [w5P g.rise (g.ok e he)])]
 walk_at "zz"
 rw [q3n _ (fun _=>true)]
 walk_at "zz"
 rw [show ((es.map fun _=>true).all id)=true by simp]
 walk_at "zz"
 rw [x2k es l2 g.nd _ _ rfl]
 walk_at "zz"
 rw [q4N,decide_eq_true rfl]
 rfl
theorem w0Y {fs:List Str}{es:List ErZ} (g:q2r fs es):q3j [q2Z fs es]=.ok (q2Z fs es):=by
 unfold q3j
 refine q0F ?_
 unfold q6m q0r
 walk_at "zz"
 rw [x2l g]
 walk_at "zz"
theorem w3Z {α:Type} (c:α->D) (h:∀ x,PyData.eqv (c x) (c x)=true):∀ xs:List α,PyData.eqvAll (xs.map c) (xs.map c)=true
 | []=>by simp [PyData.eqvAll]
 | x::r=>by simp [PyData.eqvAll,h x,w3Z c h r]
theorem w8E (xs:List Str):PyData.eqv (q0l xs) (q0l xs)=true:=by
 simp only [PyData.eqv]
 exact w3Z _ (fun x=>by rw [q6W];simp) xs
theorem q8s {α:Type} (c:α->D):∀ xs:List α,(∀ x∈xs,(c x).canLay0=true)->PyData.canLayAll0 (xs.map c)=true
 | [],_=>rfl
 | x::r,h=>by
  have h1:=h x List.mem_cons_self
  have h2:=q8s c r fun y hy=>h y (List.mem_cons_of_mem _ hy)
  simp only [List.map_cons,PyData.canLayAll0,h1,h2,Bool.and_self]
theorem q97 {α:Type} (c:α->D) (n:Nat) (h:∀ x,(c x).depth<=n):∀ xs:List α,PyData.depthAll (xs.map c)<=n
 | []=>by simp [PyData.depthAll]
 | x::r=>by
  simp only [List.map_cons,PyData.depthAll]
  exact Nat.max_le.mpr ⟨h x,q97 c n h r⟩
theorem q8t {fs xs:List Str} (hf:∀ x∈fs,okW x=true) (h:Sub fs xs):PyData.canLayAll0 (xs.map .str)=true:=q6s xs fun x hx=>hf x (h.mem x hx)
theorem x4k {fs:List Str} (hf:∀ x∈fs,okW x=true) {e:ErZ} (g:q6X fs e):(q14 e).canLay0=true:=by
 unfold q14
 simp only [PyData.canLay0,PyData.canLayAll0]
 have:=q6Z g.name
 simp only [PyData.canLay0] at this
 rw [q8t hf g.needs,q8t hf g.bars,q8t hf g.makes,q8t hf g.ends,this]
 rfl
theorem x2m {i:Nat}{g:Rho->R D}{ρ:Rho}{ds:List D}{d:D} (hi:ρ[i]?=some (Sl.own (.list ds))) (hg:g ρ=.ok d) (hl:ds.length<1000):w1J i g ρ=.ok (.nx (ρ.set i (.own (.list (ds++[d]))))):=by
 unfold w1J
 simp only [hi,hg,bind_ok,if_pos hl]
theorem x4l {s s':Sl}{ρ:Rho}{gt:Rho->R Bool}{ge:Rho->R D}{d d' y:D}{b:Bool} (h1:gt (.shr d::.shr d'::ρ)=.ok b) (h2:b=true->ge (.shr d::.shr d'::ρ)=.ok y):q3H 2 (s::s'::ρ) gt ge (.tuple [d,d'])=.ok (if b then some y else none):=by
 have e:q3H 2 (s::s'::ρ) gt ge (.tuple [d,d'])=x7r ((gt (.shr d::.shr d'::ρ)).bind fun b=>if b then (ge (.shr d::.shr d'::ρ)).bind fun y=>.ok (some y) else .ok none):=id rfl
 rw [e,h1,bind_ok]
 cases b with
 | true=>rw [if_pos rfl,h2 rfl];rfl
 | false=>rfl
theorem w40:∀ (xs:List Str) (n:Nat),(q6q n xs).length=xs.length
 | [],_=>rfl
 | x::r,n=>by
  show (q6q (n + 1) r).length + 1=r.length + 1
  rw [w40 r]
theorem x73 (ns:List Int) (k:Int) (hk:0<=k) (fs:List Str) (hl:fs.length<=6) (m:Int):∃ ss:List Str,q3T [.list (ns.map .int),.int k,q0l fs,.int m]=.ok (q0l ss)/\ss.Sublist fs:=by
 refine ⟨((q6q 0 fs).filter fun q=>decide (q2D ns (k + (q.1:Int)) 12<m)).map (·.2),?_,?_⟩
 ·unfold q3T
  refine q0F ?_
  unfold q59 q0r
  walk_at "zz"
  rw [w20]
  walk_at "zz"
  rw [if_pos (by rw [w40];omega)]
  rw [q2T _ cI (fun q=>PyData.str q.2) (fun q=>decide (q2D ns (k + (q.1:Int)) 12<m)) (q6q 0 fs) fun q hq=>x4l (by
   walk_at "zz"
   rw [q1i ns _ 12 (by omega) (by decide)]
   walk_at "zz") fun _=>rfl]
  walk_at "zz"
  rw [q1C]
  walk_at "zz"
  unfold q0l
  rw [List.map_map]
  rfl
 ·have:=(List.filter_sublist (l:=q6q 0 fs) (p:=fun q=>decide (q2D ns (k + (q.1:Int)) 12<m))).map (·.2)
  rw [q6r] at this
  exact this
theorem x2n {fs xs:List Str} (up:fs.Pairwise fun a b=>ltS a b=true) (h:xs.Sublist fs):Sub fs xs:=⟨up.sublist h,fun x hx=>h.subset hx⟩
def x9k (P:Rho->Prop) (r:R Fl):Prop:=∃ ρ',r=.ok (.nx ρ')/\P ρ'
theorem w8F {α:Type}{kt:D->Rho->R Rho}{gb:Rho->R Fl} (c:α->D) (p:α->Bool) (out:α->D) (P:Rho->Prop):∀ (xs:List α) (ρ:Rho),(∀ x∈xs,∀ ρ,P ρ->∃ ρ1,kt (c x) ρ=.ok ρ1/\(p x=true->gb ρ1=.ok (.rt (out x)))/\(p x=false->x9k P (gb ρ1)))->P ρ ->
  (∀ x,xs.find? p=some x->q54 kt gb (xs.map c) ρ=.ok (.rt (out x)))/\(xs.find? p=none->x9k P (q54 kt gb (xs.map c) ρ))
 | [],ρ,_,q=>⟨fun x h=>(nomatch h),fun _=>⟨ρ,rfl,q⟩⟩
 | x::r,ρ,h,q=>by
  obtain ⟨ρ1,h1,h2,h3⟩:=h x List.mem_cons_self ρ q
  rw [List.map_cons,List.find?_cons]
  unfold q54
  rw [h1]
  cases hp:p x with
  | true =>
   refine ⟨fun y hy=>?_,fun hn=>nomatch hn⟩
   cases hy
   simp only [h2 hp]
  | false =>
   obtain ⟨ρ2,h4,h5⟩:=h3 hp
   simp only [h4]
   exact w8F c p out P r ρ2 (fun y hy=>h y (List.mem_cons_of_mem _ hy)) h5
structure q5y (fs m b:List Str):Prop where
 must:Sub fs m
 bars:Sub fs b
 mb:∀ x∈m,x∉b
abbrev q3t (m b:List Str):D:=.tuple [q0l m,q0l b]
theorem x2o (p:List Str) (x:Str):p.map PyData.str++[PyData.str x]=(p++[x]).map .str:=by simp
theorem x74 (ns:List Int) (k:Int) (hk:0<=k) (fs:List Str) (up:fs.Pairwise fun a b=>ltS a b=true) (hl:fs.length<=6):∃ m b,q5b [.list (ns.map .int),.int k,q0l fs]=.ok (q3t m b)/\q5y fs m b:=by
 have nd:=q3m up
 suffices H:∃ p q,q3W (q0r 8 [.list (ns.map .int),.int k,q0l fs])=.ok (.rt (q3t p q))/\w07 fs p q by
  obtain ⟨p,q,h1,h2⟩:=H
  exact ⟨p,q,q0F h1,x2n up h2.sp,x2n up h2.sq,h2.d⟩
 unfold q3W q0r
 walk_at "yy"
 rw [q85 (ds:=(q6q 0 fs).map cI)]
 ·have H:=q6p cI (fun (a:Unit) (_:Nat×Str)=>a) (fun q0I _ ρ=>∃ pre,pre++q0I.map (·.2)=fs/\∃ p q,w07 pre p q/\∃ z5 z6 z7,ρ=[.shr (.list (ns.map .int)),.shr (.int k),.shr (q0l fs),.own (.list (p.map .str)),.own (.list (q.map .str)),z5,z6,z7]) (kt:=q6P 2 (q0D (q0q 5) (q0D (q0q 6) q84))) (gb:=q0d (q2R 7 (gFn 3 q07 (J.q01 (fun ρ=>rdS ρ 0) (J.q01 (g2 (fun ρ=>rdB ρ 1) (fun ρ=>rdB ρ 5) q2v) (J.q01 (fun _=>.ok (.int 8)) J.q0e))))) (q2l (asB (g2 (fun ρ=>rdB ρ 7) (fun _=>.ok (.int 2)) ltD)) (w1J 3 (fun ρ=>rdS ρ 6)) (q2l (asB (g2 (fun ρ=>rdB ρ 7) (fun _=>.ok (.int 2)) (eqD false))) (w1J 4 (fun ρ=>rdS ρ 6)) (fun ρ=>.ok (.nx ρ)))))
  obtain ⟨ρ',h1,pre,h2,p,q,h3,z5,z6,z7,h4⟩:=H (by
   rintro ⟨i,x⟩ q0I _ ρ ⟨pre,h2,p,q,h3,z5,z6,z7,rfl⟩
   have hx:x∉pre:=by
    rw [<- h2,List.map_cons] at nd
    have:=(List.nodup_append.mp nd).2.2
    intro hx
    exact this x hx x List.mem_cons_self rfl
   have hpl:pre.length<900:=by
    have:=congrArg List.length h2
    rw [List.length_append] at this
    omega
   have lp:=h3.sp.length_le
   have lq:=h3.sq.length_le
   refine ⟨[.shr (.list (ns.map .int)),.shr (.int k),.shr (q0l fs),.own (.list (p.map .str)),.own (.list (q.map .str)),.shr (.int (i:Nat)),.shr (.str x),z7],?_⟩
   by_cases c1:q2D ns (k + (i:Nat)) 8<2
   ·refine ⟨[.shr (.list (ns.map .int)),.shr (.int k),.shr (q0l fs),.own (.list ((p++[x]).map .str)),.own (.list (q.map .str)),.shr (.int (i:Nat)),.shr (.str x),.shr (.int (q2D ns (k + (i:Nat)) 8))],rfl,?_,pre++[x],by rw [<- h2];simp,_,_,h3.left x hx,_,_,_,rfl⟩
    walk_at "zz"
    rw [q1i ns _ 8 (by omega) (by decide)]
    walk_at "zz"
    rw [decide_eq_true c1]
    walk_at "zz"
    rw [<- x2o]
    exact x2m (ds:=p.map .str) rfl rfl (by rw [List.length_map];omega)
   ·by_cases c2:q2D ns (k + (i:Nat)) 8=2
    ·refine ⟨[.shr (.list (ns.map .int)),.shr (.int k),.shr (q0l fs),.own (.list (p.map .str)),.own (.list ((q++[x]).map .str)),.shr (.int (i:Nat)),.shr (.str x),.shr (.int (q2D ns (k + (i:Nat)) 8))],rfl,?_,pre++[x],by rw [<- h2];simp,_,_,h3.right x hx,_,_,_,rfl⟩
     walk_at "zz"
     rw [q1i ns _ 8 (by omega) (by decide)]
     walk_at "zz"
     rw [decide_eq_false c1]
     walk_at "zz"
     rw [q4N]
     walk_at "zz"
     rw [decide_eq_true c2]
     walk_at "zz"
     rw [<- x2o]
     exact x2m (ds:=q.map .str) rfl rfl (by rw [List.length_map];omega)
    ·refine ⟨[.shr (.list (ns.map .int)),.shr (.int k),.shr (q0l fs),.own (.list (p.map .str)),.own (.list (q.map .str)),.shr (.int (i:Nat)),.shr (.str x),.shr (.int (q2D ns (k + (i:Nat)) 8))],rfl,?_,pre++[x],by rw [<- h2];simp,_,_,h3.skip x,_,_,_,rfl⟩
     walk_at "zz"
     rw [q1i ns _ 8 (by omega) (by decide)]
     walk_at "zz"
     rw [decide_eq_false c1]
     walk_at "zz"
     rw [q4N]
     walk_at "zz"
     rw [decide_eq_false c2]
     walk_at "zz") (q6q 0 fs) () [.shr (.list (ns.map .int)),.shr (.int k),.shr (q0l fs),.own (.list []),.own (.list []),.no,.no,.no] ⟨[],by rw [q6r];rfl,[],[],⟨List.Sublist.refl _,List.Sublist.refl _,fun _ h=>nomatch h⟩,_,_,_,rfl⟩
  refine ⟨p,q,?_,?_⟩
  ·rw [h1,h4]
   walk_at "zz"
   rw [q1C]
   walk_at "zz"
   rw [q1C]
   walk_at "zz"
  ·simp only [List.map_nil,List.append_nil] at h2
   rw [<- h2];exact h3
 ·walk_at "zz"
  rw [w20]
theorem x9l (j:Int) (h0:0<=j) (h1:j<2):∃ m:Int,q0f (.list [.int 2,.int 4]) (.int j)=.ok (.int m):=by
 have:j=0\/j=1:=by omega
 rcases this with h | h<;>subst h
 ·exact ⟨2,rfl⟩
 ·exact ⟨4,rfl⟩
theorem x7u (fs:List Str) (es:List ErZ):q0f (q2Z fs es) (.int 0)=.ok (q0l fs):=id rfl
theorem x9I (fs:List Str) (es:List ErZ):q0f (q2Z fs es) (.int 1)=.ok (.tuple (es.map q14)):=id rfl
theorem x75 (ns:List Int) (m n:Int) (hm0:0<=m) (hm:m<=6) (hn0:0<=n) (hn:n<=6):∃ fs es ss wm wb,q3b [.list (ns.map .int),.int m,.int n]=.ok (.tuple [q2Z fs es,q0l ss,q3t wm wb])/\q2r fs es/\Sub fs ss/\q5y fs wm wb:=by
 obtain ⟨fs,es,hb,gb⟩:=x6Z ns 100 (by decide) m n hm0 hm hn0 hn
 obtain ⟨pt,hp⟩:=x9l (q2D ns 97 2) (q19 _ _ _ (by decide)) (q1r _ _ _ (by decide))
 obtain ⟨ss,hs,gs⟩:=x73 ns 20 (by decide) fs gb.rise.len pt
 obtain ⟨wm,wb,hw,gw⟩:=x74 ns 30 (by decide) fs gb.rise.up gb.rise.len
 refine ⟨fs,es,ss,wm,wb,?_,gb,x2n gb.rise.up gs,gw⟩
 unfold q3b
 refine q0F ?_
 unfold q5c q0r
 walk_at "zz"
 rw [hb]
 walk_at "zz"
 rw [x7u]
 walk_at "zz"
 rw [q1i ns 97 2 (by decide) (by decide)]
 walk_at "zz"
 rw [hp]
 walk_at "zz"
 rw [hs]
 walk_at "zz"
 rw [x7u]
 walk_at "zz"
 rw [hw]
 walk_at "zz"
theorem w8G {xs ys:List Str} (hl:xs.length<=60):q0p [q0l xs,q0l ys]=.ok (.bool (!xs.any fun x=>decide (x∈ys))):=by
 unfold q0p
 refine q0F ?_
 unfold q2U q0r
 walk_at "zz"
 rw [if_pos (by omega)]
 rw [q0L _ (fun x:Str=>PyData.str x) (fun x=>PyData.bool (decide (x∈ys))) xs fun x hx=>q1h rfl (by
  walk_at "zz"
  rw [q7L]
  rfl)]
 walk_at "zz"
 rw [q3n _ (fun x=>decide (x∈ys))]
 walk_at "zz"
 rw [List.any_map]
 rfl
theorem y0z (neg:Bool) (e:ErZ):isD neg (q14 e) .none=.ok (.bool neg):=by cases neg<;>rfl
theorem y0A (neg:Bool) (xs:List Str):isD neg (q0l xs) .none=.ok (.bool neg):=by cases neg<;>rfl
theorem x9m (neg:Bool):isD neg .none .none=.ok (.bool (!neg)):=by cases neg<;>rfl
theorem x9n (e:ErZ):q0f (q14 e) (.int 0)=.ok (.str e.name):=id rfl
theorem y20 (e:ErZ):q0f (q14 e) (.int 3)=.ok (q0l e.makes):=id rfl
theorem y21 (e:ErZ):q0f (q14 e) (.int 4)=.ok (q0l e.ends):=id rfl
theorem y0B (e:ErZ):slD (q14 e) (some 1) (some 3)=.ok (q3t e.needs e.bars):=id rfl
theorem q8D {xs:List D}{j:Nat}{v:D} (h:xs[j]?=some v):q0f (.list xs) (.int (j:Nat))=.ok v:=by
 have e:q0f (.list xs) (.int (j:Nat))=ixD (.list xs) (.int (j:Nat)):=rfl
 rw [e]
 unfold ixD
 simp only [q8C h]
theorem y22 (a x y z:D) (r:Rho):x6N (q6P 3 (q0D (q0q 1) (q0D (q0q 2) (q0D (q0q 3) q84)))) (Sl.shr a::.no::.no::.no::r) (.tuple [x,y,z])=.ok (.nx (.shr a::.shr x::.shr y::.shr z::r)):=id rfl
def q2w (st a b:List Str):Bool:=(a.all fun x=>decide (x∈st)) && !b.any fun x=>decide (x∈st)
theorem y23 (m b:List Str):q0f (q3t m b) (.int 0)=.ok (q0l m):=id rfl
theorem y24 (m b:List Str):q0f (q3t m b) (.int 1)=.ok (q0l b):=id rfl
theorem w5Q {st a b:List Str} (ha:a.length<=60) (hb:b.length<=60):q1B [q0l st,q3t a b]=.ok (.bool (q2w st a b)):=by
 unfold q1B
 refine q0F ?_
 unfold q5d q0r
 walk_at "zz"
 rw [y23]
 walk_at "zz"
 rw [if_pos (by omega)]
 rw [q0L _ (fun x:Str=>PyData.str x) (fun x=>PyData.bool (decide (x∈st))) a fun x hx=>q1h rfl (by
  walk_at "zz"
  rw [q7L]
  rfl)]
 walk_at "zz"
 rw [q3n _ (fun x=>decide (x∈st))]
 walk_at "zz"
 rw [y24]
 walk_at "zz"
 rw [if_pos (by omega)]
 rw [q0L _ (fun x:Str=>PyData.str x) (fun x=>PyData.bool (decide (x∈st))) b fun x hx=>q1h rfl (by
  walk_at "zz"
  rw [q7L]
  rfl)]
 walk_at "zz"
 rw [q3n _ (fun x=>decide (x∈st))]
 walk_at "zz"
 unfold q2w
 rw [List.all_map,List.any_map]
 have e:(id∘fun x=>decide (x∈st))=fun x=>decide (x∈st):=rfl
 rw [e]
 cases (a.all fun x=>decide (x∈st))<;>rfl
theorem w8H {n:Nat}{g:Rho->R Fl}{ds:List D}{ρ:Rho} (h:g (q0r n ds)=.ok (.nx ρ)):q34 n g ds=.ok .none:=by unfold q34;rw [h]
theorem y1o (a x y:D):x6N (q6P 2 (q0D (q0q 2) (q0D (q0q 3) q84))) [Sl.shr a,.shr (.tuple [x,y]),.no,.no] (.tuple [x,y])=.ok (.nx [.shr a,.shr (.tuple [x,y]),.shr x,.shr y]):=id rfl
theorem w0Z {st a b:List Str} (ha:a.length<=60) (hb:b.length<=60):q3i [q0l st,q3t a b]=.ok (.bool (q2w st a b)):=by
 unfold q3i
 refine q0F ?_
 unfold q6l q0r q3t
 walk_at "zz"
 rw [y1o]
 walk_at "zz"
 rw [if_pos (by omega)]
 rw [q0L _ (fun x:Str=>PyData.str x) (fun x=>PyData.bool (decide (x∈st))) a fun x hx=>q1h rfl (by
  walk_at "zz"
  rw [q7L]
  rfl)]
 walk_at "zz"
 rw [q3n _ (fun x=>decide (x∈st))]
 walk_at "zz"
 rw [w8G (by omega)]
 unfold q2w
 rw [List.all_map]
 have e:(id∘fun x=>decide (x∈st))=fun x=>decide (x∈st):=rfl
 rw [e]
 cases (a.all fun x=>decide (x∈st))<;>rfl
theorem x2p {fs ss:List Str}{es:List ErZ} (g:q2r fs es) (h:Sub fs ss):q2n [q2Z fs es,q0l ss]=.ok .none:=by
 unfold q2n
 refine w8H (ρ:=[.shr (q2Z fs es),.shr (q0l ss)]) ?_
 unfold q35 q0r
 walk_at "zz"
 rw [x7u]
 walk_at "zz"
 rw [q2E g.rise.ok h (q13 h g.rise.len)]
 walk_at "zz"
theorem x4m {fs ss:List Str}{es:List ErZ} (g:q2r fs es) (h:Sub fs ss):q2p [q2Z fs es,q0l ss]=.ok .none:=by
 unfold q2p
 refine w8H (ρ:=[.shr (q2Z fs es),.shr (q0l ss)]) ?_
 unfold q36 q0r
 walk_at "zz"
 rw [w0Y g]
 walk_at "zz"
 rw [x2p g h]
 walk_at "zz"
theorem x4n {fs:List Str}{es:List ErZ}{x y:D}{p q r:Bool} (n:noD (.tuple [x,y])=true) (hx:q0N [q0l fs,x]=.ok (.bool p)) (hy:p=true->q0N [q0l fs,y]=.ok (.bool q)) (hs:p=true->q=true->q0p [x,y]=.ok (.bool r)):q4L [q2Z fs es,.tuple [x,y]]=.ok (.bool (p && (q && r))):=by
 unfold q4L
 refine q0F ?_
 unfold q6k q0r
 walk_at "zz"
 rw [n,w3X]
 walk_at "zz"
 rw [q4N]
 walk_at "zz"
 rw [show decide (((2:Nat):Int)=2)=true from rfl]
 walk_at "zz"
 rw [y1o]
 walk_at "zz"
 rw [x7u]
 walk_at "zz"
 rw [hx]
 cases p with
 | false=>rfl
 | true =>
  walk_at "zz"
  rw [x7u]
  walk_at "zz"
  rw [hy rfl]
  cases q with
  | false=>rfl
  | true =>
   walk_at "zz"
   rw [hs rfl rfl]
   cases r<;>rfl
theorem w8I {fs m b:List Str}{es:List ErZ} (g:q2r fs es) (h:q5y fs m b):q1J [q2Z fs es,q3t m b]=.ok .none:=by
 have n:noD (q3t m b)=true:=by
  have:noD (q3t m b)=(noD (q0l m) && (noD (q0l b) && true)):=rfl
  rw [this,q4b,q4b];rfl
 have l1:=q13 h.must g.rise.len
 have l2:=q13 h.bars g.rise.len
 unfold q1J
 refine w8H (ρ:=[.shr (q2Z fs es),.shr (q3t m b)]) ?_
 unfold q3z q0r
 walk_at "zz"
 rw [x4n n (q2E g.rise.ok h.must l1) (fun _=>q2E g.rise.ok h.bars l2) (fun _ _=>q96 h.mb l1)]
 walk_at "zz"
 rfl
theorem x9o {fs ss m b:List Str}{es:List ErZ} (g:q2r fs es) (h:Sub fs ss) (w:q5y fs m b):q3k [q2Z fs es,q0l ss,q3t m b]=.ok .none:=by
 unfold q3k
 refine w8H (ρ:=[.shr (q2Z fs es),.shr (q0l ss),.shr (q3t m b)]) ?_
 unfold q48 q0r
 walk_at "zz"
 rw [x4m g h]
 walk_at "zz"
 rw [w8I g w]
 walk_at "zz"
theorem x4o (xs:List D):q3I (.tuple xs)=.ok (.list xs):=id rfl
def q98 (es:List ErZ) (nm:Str):Option ErZ:=es.find? fun e=>decide (e.name=nm)
def y1p:Option ErZ->D
 | none=>.none
 | some e=>q14 e
theorem w41 {fs:List Str}{es:List ErZ} (g:q2r fs es) {nm:Str} (hn:okW nm=true):q10 [q2Z fs es,.str nm]=.ok (y1p (q98 es nm)):=by
 unfold q10
 refine q0F ?_
 unfold q2o q0r
 walk_at "zz"
 rw [x5N,x5Q]
 walk_at "zz"
 rw [q85 (ds:=es.map q14)]
 ·obtain ⟨h1,h2⟩:=w8F q14 (fun e=>decide (e.name=nm)) q14 (fun ρ=>∃ z,ρ=[Sl.shr (q2Z fs es),.shr (.str nm),z]) (kt:=q0q 2) (gb:=q2l (asB (g2 (g2 (fun ρ=>rdB ρ 2) (fun _=>.ok (.int 0)) q0f) (fun ρ=>rdB ρ 1) (eqD false))) (q1k (fun ρ=>rdS ρ 2)) (fun ρ=>.ok (.nx ρ))) es [Sl.shr (q2Z fs es),.shr (.str nm),.no] (by
   rintro e he ρ ⟨z,rfl⟩
   refine ⟨[.shr (q2Z fs es),.shr (.str nm),.shr (q14 e)],rfl,fun hp=>?_,fun hp=>⟨[.shr (q2Z fs es),.shr (.str nm),.shr (q14 e)],?_,_,rfl⟩⟩
   ·walk_at "zz"
    rw [x9n]
    walk_at "zz"
    rw [w5O false (g.ok e he).name hn]
    walk_at "zz"
    rw [hp]
    walk_at "zz"
   ·walk_at "zz"
    rw [x9n]
    walk_at "zz"
    rw [w5O false (g.ok e he).name hn]
    walk_at "zz"
    rw [hp]
    walk_at "zz") ⟨_,rfl⟩
  cases hf:es.find? (fun e=>decide (e.name=nm)) with
  | some e =>
   rw [h1 e hf]
   walk_at "zz"
   unfold q98
   rw [hf]
   rfl
  | none =>
   obtain ⟨ρ',e1,z,rfl⟩:=h2 hf
   rw [e1]
   walk_at "zz"
   unfold q98
   rw [hf]
   rfl
 ·walk_at "zz"
  rw [x9I]
  walk_at "zz"
theorem q70:∀ {es:List ErZ},(es.map (·.name)).Nodup->∀ {e:ErZ},e∈es->q98 es e.name=some e
 | x::r,nd,e,he=>by
  obtain ⟨n1,n2⟩:=List.nodup_cons.mp nd
  unfold q98
  rw [List.find?_cons]
  rcases List.mem_cons.mp he with h | h
  ·subst h;simp
  ·have:x.name≠e.name:=fun z=>n1 (by show x.name∈_;rw [z];exact List.mem_map_of_mem h)
   rw [decide_eq_false this]
   exact q70 n2 h
structure x2q (e:ErZ):Prop where
 needs:e.needs.length<=6
 bars:e.bars.length<=6
 makes:e.makes.length<=6
 ends:e.ends.length<=6
theorem q6t {fs:List Str}{es:List ErZ} (g:q2r fs es) {e:ErZ} (he:e∈es):x2q e :=
 ⟨q13 (g.ok e he).needs g.rise.len,q13 (g.ok e he).bars g.rise.len,q13 (g.ok e he).makes g.rise.len,q13 (g.ok e he).ends g.rise.len⟩
theorem y25 (e:ErZ):q0f (q14 e) (.int 1)=.ok (q0l e.needs):=id rfl
theorem y26 (e:ErZ):q0f (q14 e) (.int 2)=.ok (q0l e.bars):=id rfl
def x2r (e:ErZ) (st:List Str):Option (List Str):=if q2w st e.needs e.bars then some (srt ((st.filter fun x=>!decide (x∈e.ends))++e.makes)) else none
def x9J:Option (List Str)->D
 | none=>.none
 | some s=>q0l s
theorem w21 {e:ErZ} (he:x2q e) {st:List Str} (hs:st.length<=30):q0Q [q14 e,q0l st]=.ok (x9J (x2r e st)):=by
 have:=he.needs
 have:=he.bars
 have:=he.makes
 unfold q0Q
 refine q0F ?_
 unfold q5e q0r
 walk_at "zz"
 rw [y0B]
 walk_at "zz"
 rw [w5Q (by omega) (by omega)]
 walk_at "zz"
 unfold x2r
 cases hg:q2w st e.needs e.bars with
 | false =>
  walk_at "zz"
  rfl
 | true =>
  walk_at "zz"
  rw [if_pos (by omega)]
  rw [q2T _ (fun x:Str=>PyData.str x) (fun x=>PyData.str x) (fun x=>!decide (x∈e.ends)) st fun x hx=>w1Q (by
   walk_at "zz"
   rw [y21]
   walk_at "zz"
   rw [q7L]
   rfl) fun _=>rfl]
  have hf:(st.filter fun x=>!decide (x∈e.ends)).length<=st.length:=List.length_filter_le _ _
  walk_at "zz"
  rw [q93,x2e]
  walk_at "zz"
  rw [y20]
  walk_at "zz"
  rw [x4o]
  walk_at "zz"
  rw [if_pos (by omega)]
  walk_at "zz"
  rw [<- List.map_append,w0X _ (by rw [List.length_append];omega)]
  walk_at "zz"
  rw [w1Z _ (by have:=q15 ((st.filter fun x=>!decide (x∈e.ends))++e.makes) [];simp only [List.length_nil,List.length_append] at this;omega)]
  walk_at "zz"
  rw [q1C]
  rfl
theorem x5S:∀ {a b:List Str},(a.Pairwise fun x y=>ltS x y=true)->(b.Pairwise fun x y=>ltS x y=true)->(∀ x,x∈a↔x∈b)->a=b:=by
 intro a b ha hb h
 have na:=q3m ha
 have nb:=q3m hb
 have p:a.Perm b:=(List.perm_ext_iff_of_nodup na nb).mpr h
 exact p.eq_of_pairwise (fun x y _ _ h1 h2=>by
  have:=q65 h1 h2
  rw [q6M] at this
  cases this) ha hb
def q0K (e:ErZ) (st:List Str):List Str:=srt ((st.filter fun x=>!decide (x∈e.ends))++e.makes)
theorem w10 {e:ErZ}{st:List Str}{x:Str}:x∈q0K e st↔(x∈st/\x∉e.ends)\/x∈e.makes:=by
 unfold q0K
 rw [q31]
 simp [List.mem_filter]
theorem q99 (e:ErZ) (st:List Str):x2r e st=if q2w st e.needs e.bars then some (q0K e st) else none:=rfl
theorem x2s (s:List Str):x9J (some s)=q0l s:=rfl
theorem x2t:x9J none=.none:=rfl
theorem y0C (ga gb:Rho->R (List Str)) (s:Sl) (ρ:Rho) {xs ys:List Str} (h1:ga (s::ρ)=.ok xs) (h2:gb (s::ρ)=.ok ys) (hl:xs.length + ys.length<=15):x90 ga gb (s::ρ)=.ok (q12 xs ys):=by
 unfold x90 J.y0r
 rw [h1,bind_ok,h2,bind_ok,if_pos hl]
theorem w42 (ss:List Str) (h:ss.length<60):q8X (q0l ss)=.ok (q12 [] ss):=by
 have e:∀ ds,q8X (.tuple ds)=match q1Y ds with
  | some ss=>if ss.length<60 then .ok (q12 [] ss) else .no
  | none=>.no:=fun _=>rfl
 rw [e,strsOf_map]
 simp only [if_pos h]
theorem x9p (xs ys:List Str):q43 (q12 (q12 [] xs) (q12 [] ys))=srt (xs++ys):=by
 refine x5S (q8M (q66 _) ((q1A _).nodup_iff.mpr (q22 _ _ (q22 _ [] List.nodup_nil)))) (x2d _) fun x=>?_
 rw [(q1A _).mem_iff,q2j,q2j,q2j,q31,List.mem_append]
 simp
theorem q9a {xs ys:List Str} (h:xs.length + ys.length<=12):q3y [q0l xs,q0l ys]=.ok (q0l (srt (xs++ys))):=by
 have l1:=q15 xs []
 have l2:=q15 ys []
 simp only [List.length_nil] at l1 l2
 have l3:=q15 (q12 [] ys) (q12 [] xs)
 unfold q3y
 refine q0F ?_
 unfold q8o q0r
 walk_at "zz"
 rw [q93,y0C _ _ _ _ (w42 xs (by omega)) (w42 ys (by omega)) (by omega)]
 walk_at "zz"
 rw [w1Z _ (by omega),x9p]
 walk_at "zz"
 rw [q1C]
 walk_at "zz"
theorem w11 {xs ys:List Str} (h:xs.length<=60):q2m [q0l xs,q0l ys]=.ok (q0l (xs.filter fun x=>!decide (x∈ys))):=by
 unfold q2m
 refine q0F ?_
 unfold q6h q0r
 walk_at "zz"
 rw [if_pos (by omega)]
 rw [q2T _ (fun x:Str=>PyData.str x) (fun x=>PyData.str x) (fun x=>!decide (x∈ys)) xs fun x hx=>w1Q (by
  walk_at "zz"
  rw [q7L]
  rfl) fun _=>rfl]
 walk_at "zz"
 rw [q1C]
 walk_at "zz"
theorem y0D {i j:Nat}{gs:Rho->R (List D)}{s:Sl}{ρ:Rho}{d e:D} (h:gs (s::ρ)=.ok [d,e]):x92 i j gs (s::ρ)=.ok (.nx (((s::ρ).set i (.shr d)).set j (.shr e))):=by
 unfold x92
 rw [h]
 rfl
theorem x2u {e:ErZ} (he:x2q e) {st:List Str} (hs:st.length<=6):q0X [q14 e,q0l st]=.ok (q0l (q0K e st)):=by
 have:=he.makes
 have hf:(st.filter fun x=>!decide (x∈e.ends)).length<=st.length:=List.length_filter_le _ _
 unfold q0X
 refine q0F ?_
 unfold q2Q q0r
 walk_at "zz"
 rw [y0D (d:=q0l e.makes) (e:=q0l e.ends) rfl]
 walk_at "zz"
 rw [w11 (by omega)]
 walk_at "zz"
 rw [q9a (by omega)]
 rfl
theorem w43 {e:ErZ} (he:x2q e) {st:List Str}:q1K [q14 e,q0l st]=.ok (.bool (q2w st e.needs e.bars)):=by
 have:=he.needs
 have:=he.bars
 unfold q1K
 refine q0F ?_
 unfold q47 q0r
 walk_at "zz"
 rw [y25]
 walk_at "zz"
 rw [y26]
 walk_at "zz"
 rw [w0Z (by omega) (by omega)]
 walk_at "zz"
def x76 (fs:List Str):List (List Str):=fs.foldl (fun acc f=>acc++acc.map (·++[f])) [[]]
theorem x2v:∀ (fs pre:List Str) (acc:List (List Str)),(∀ s∈acc,s.Sublist pre)->∀ s∈fs.foldl (fun acc f=>acc++acc.map (·++[f])) acc,s.Sublist (pre++fs)
 | [],pre,acc,h,s,hs=>by rw [List.append_nil];exact h s hs
 | f::r,pre,acc,h,s,hs=>by
  have:=x2v r (pre++[f]) (acc++acc.map (·++[f])) (fun t ht=>by
   rcases List.mem_append.mp ht with ht | ht
   ·exact (h t ht).trans (List.sublist_append_left _ _)
   ·obtain ⟨u,hu,rfl⟩:=List.mem_map.mp ht
    exact (h u hu).append (List.Sublist.refl _)) s hs
  rwa [List.append_assoc] at this
theorem w8J {fs s:List Str} (h:s∈x76 fs):s.Sublist fs:=x2v fs [] [[]] (fun t ht=>by rw [List.mem_singleton.mp ht];exact List.Sublist.refl _) s h
theorem x5T {i:Nat}{kt:D->Rho->R Rho}{gb:Rho->R Fl}{ρ:Rho}{d:D} (h:ρ[i]?=some (Sl.shr d)):w3C i kt gb ρ=w1H (gIt fun ρ=>rdS ρ i) kt gb ρ:=by
 unfold w3C
 rw [h]
theorem x9q {fs:List Str} (hl:fs.length<=6):q3X [q0l fs]=.ok (.list ((x76 fs).map q0l)):=by
 unfold q3X
 refine q0F ?_
 unfold q6o q0r
 walk_at "zz"
 rw [x5T (d:=q0l fs) rfl,q85 (ds:=fs.map .str)]
 ·refine w1W (fun x:Str=>PyData.str x) (fun (acc:List (List Str)) f=>acc++acc.map (·++[f])) (fun q0I acc ρ=>acc.length * 2 ^ q0I.length<=64/\(∀ s∈acc,s.length + q0I.length<=6)/\∃ o z,(o=Sl.own (.list (acc.map q0l))\/o=Sl.shr (.list (acc.map q0l)))/\ρ=[.shr (q0l fs),o,z]) [[]] ?_ ⟨?_,?_,_,_,.inl rfl,rfl⟩ ?_
  ·rintro x q0I acc ρ ⟨h1,h2,o,z,h3,rfl⟩
   simp only [List.length_cons,Nat.pow_succ] at h1 h2
   have hp:1<=2 ^ q0I.length:=Nat.one_le_two_pow
   have ha:acc.length * 2<=64:=by
    have:acc.length * 2<=acc.length * (2 ^ q0I.length * 2):=Nat.mul_le_mul_left _ (by omega)
    omega
   have hb:rdB [Sl.shr (q0l fs),o,Sl.shr (.str x)] 1=.ok (.list (acc.map q0l)):=by rcases h3 with h | h<;>rw [h]<;>rfl
   refine ⟨[.shr (q0l fs),o,.shr (.str x)],[.shr (q0l fs),.shr (.list ((acc++acc.map (·++[x])).map q0l)),.shr (.str x)],rfl,?_,?_,?_,_,_,.inr rfl,rfl⟩
   ·rw [x3W,y0q,hb]
    simp only [x3h,x6M]
    rw [x1R,x9E,hb]
    walk_at "yy"
    rw [if_pos (by omega)]
    rw [q0L _ (fun s:List Str=>q0l s) (fun s=>q0l (s++[x])) acc fun s hs=>q1h rfl (by
     have:=h2 s hs
     walk_at "yy"
     rw [if_pos (by omega)]
     unfold q0l
     rw [List.map_append]
     rfl)]
    walk_at "yy"
    rw [if_pos (by omega)]
    walk_at "yy"
    rw [List.map_append,List.map_map]
    rfl
   ·rw [List.length_append,List.length_map]
    have:(acc.length + acc.length) * 2 ^ q0I.length=acc.length * (2 ^ q0I.length * 2):=by rw [Nat.mul_comm (2 ^ q0I.length) 2,<- Nat.mul_assoc];congr 1;omega
    omega
   ·intro s hs
    rcases List.mem_append.mp hs with hs | hs
    ·have:=h2 s hs;omega
    ·obtain ⟨u,hu,rfl⟩:=List.mem_map.mp hs
     have:=h2 u hu
     rw [List.length_append,List.length_singleton]
     omega
  ·have:2 ^ fs.length<=2 ^ 6:=Nat.pow_le_pow_right (by decide) hl
   simp only [List.length_cons,List.length_nil]
   omega
  ·intro s hs
   rw [List.mem_singleton.mp hs]
   simpa using hl
  ·rintro ρ' ⟨_,_,o,z,h3,rfl⟩
   rcases h3 with h | h<;>subst h
   ·walk_at "zz"
    rfl
   ·walk_at "zz"
    rfl
 ·walk_at "zz"
def w9n:List ErZ->List Str->Option (List Str)
 | [],st=>some st
 | e::r,st=>if q2w st e.needs e.bars then w9n r (q0K e st) else none
def q2z:List ErZ->List Str->List (List Str)
 | [],st=>[st]
 | e::r,st=>if q2w st e.needs e.bars then st::q2z r (q0K e st) else [st]
def q2s (st m b:List Str) (rs:List ErZ):Bool:=match w9n rs st with
 | some s=>q2w s m b
 | none=>false
theorem q71 {fs st:List Str}{e:ErZ} (hf:fs.Pairwise fun a b=>ltS a b=true) (g:q6X fs e) (h:Sub fs st):Sub fs (q0K e st):=by
 refine ⟨x2d _,fun x hx=>?_⟩
 rcases w10.mp hx with z | z
 ·exact h.mem x z.1
 ·exact g.makes.mem x z
theorem x2w:∀ (rs:List ErZ) (st:List Str),(q2z rs st).length<=rs.length + 1
 | [],_=>Nat.le_refl _
 | e::r,st=>by
  unfold q2z
  split
  ·have:=x2w r (q0K e st)
   simp only [List.length_cons]
   omega
  ·simp
theorem w44:∀ (rs:List ErZ) (st:List Str),decide (((rs.length:Nat):Int)<((q2z rs st).length:Nat))=(w9n rs st).isSome
 | [],_=>rfl
 | e::r,st=>by
  unfold q2z w9n
  cases q2w st e.needs e.bars with
  | true =>
   rw [if_pos rfl,if_pos rfl,<- w44 r]
   simp only [List.length_cons]
   congr 1
   simp only [eq_iff_iff]
   omega
  | false =>
   rw [if_neg Bool.false_ne_true,if_neg Bool.false_ne_true]
   simp only [List.length_cons,List.length_nil]
   exact decide_eq_false (by omega)
theorem q72:∀ (rs:List ErZ) (st s:List Str),w9n rs st=some s->∃ pre,q2z rs st=pre++[s]
 | [],st,s,h=>by cases h;exact ⟨[],rfl⟩
 | e::r,st,s,h=>by
  unfold w9n at h
  unfold q2z
  cases hg:q2w st e.needs e.bars with
  | true =>
   rw [hg,if_pos rfl] at h
   rw [if_pos rfl]
   obtain ⟨pre,hp⟩:=q72 r _ _ h
   exact ⟨st::pre,by rw [hp];rfl⟩
  | false=>rw [hg] at h;cases h
theorem w22 (xs:List D) (x:D):q0f (.list (xs++[x])) (.int (-1))=.ok x:=by
 have e:q0f (.list (xs++[x])) (.int (-1))=ixD (.list (xs++[x])) (.int (-1)):=rfl
 rw [e]
 unfold ixD
 have:atI (xs++[x]) (-1)=some x:=by
  unfold atI ixN
  rw [if_neg (by decide),if_pos (by simp only [List.length_append,List.length_cons,List.length_nil];omega)]
  have hj:(-1 + ((xs++[x]).length:Int)).toNat=xs.length:=by simp only [List.length_append,List.length_cons,List.length_nil];omega
  simp only [Option.bind_some,hj]
  rw [List.getElem?_append_right (Nat.le_refl _)]
  simp
 simp only [this]
structure Row (es rs:List ErZ):Prop where
 mem:∀ e∈rs,e∈es
 len:rs.length<=20
abbrev q5l (rs:List ErZ):D:=.list (rs.map fun e=>PyData.str e.name)
theorem x4p (rs:List ErZ):noDs (rs.map fun e=>PyData.str e.name)=true:=q94 _ (fun _=>rfl) rs
theorem x4q {fs:List Str}{es rs:List ErZ} (g:q2r fs es) (h:Row es rs):q6n [q2Z fs es,q5l rs]=.ok (.bool true):=by
 have hl:=h.len
 unfold q6n
 refine q0F ?_
 unfold q8p q0r
 walk_at "zz"
 rw [show noD (q5l rs)=true from x4p rs,show x1x "list" (q5l rs)=true from rfl]
 walk_at "zz"
 rw [decide_eq_false (by omega)]
 walk_at "zz"
 rw [if_pos (by omega)]
 rw [q0L _ (fun e:ErZ=>PyData.str e.name) (fun _=>PyData.bool true) rs fun e he=>q1h rfl (by
  walk_at "zz"
  rw [w41 g (g.ok e (h.mem e he)).name,q70 g.nd (h.mem e he)]
  simp only [y1p]
  walk_at "zz"
  rw [y0z])]
 walk_at "zz"
 rw [q3n _ (fun _=>true)]
 walk_at "zz"
 simp
theorem w12 {fs:List Str}{es rs:List ErZ} (g:q2r fs es) (h:Row es rs):q1L [q2Z fs es,q5l rs]=.ok (.list (rs.map q14)):=by
 have hl:=h.len
 unfold q1L
 refine q0F ?_
 unfold q3A q0r
 walk_at "zz"
 rw [x4q g h]
 walk_at "zz"
 rw [if_pos (by omega)]
 rw [q0L _ (fun e:ErZ=>PyData.str e.name) q14 rs fun e he=>q1h rfl (by
  walk_at "zz"
  rw [w41 g (g.ok e (h.mem e he)).name,q70 g.nd (h.mem e he)]
  rfl)]
 walk_at "zz"
theorem q5z:y0n (.int 1)=.ok (.int (-1)):=rfl
theorem w5R (g:Rho->R D) (s:Sl) (ρ:Rho):w3D g (s::ρ)=(g (s::ρ)).bind y0n:=id rfl
theorem w23 {kt:D->Rho->R Rho}{gb:Rho->R Fl}{d:D}{r:List D}{ρ ρ1 ρ2:Rho} (h1:kt d ρ=.ok ρ1) (h2:gb ρ1=.ok (.nx ρ2)):q54 kt gb (d::r) ρ=q54 kt gb r ρ2:=by
 rw [q54,h1]
 simp only [h2]
theorem w24 {kt:D->Rho->R Rho}{gb:Rho->R Fl}{d x:D}{r:List D}{ρ ρ1:Rho} (h1:kt d ρ=.ok ρ1) (h2:gb ρ1=.ok (.rt x)):q54 kt gb (d::r) ρ=.ok (.rt x):=by
 rw [q54,h1]
 simp only [h2]
theorem q9b {fs:List Str}{es:List ErZ} (g:q2r fs es) (A B:D):∀ (rs:List ErZ) (pre:List (List Str)) (st:List Str) (z:Sl),(∀ e∈rs,e∈es)->Sub fs st->pre.length + rs.length<=100 ->
  (∃ z',q54 (q0q 3) (q0d (q2l (q5v (asB (gFn 2 q1K (J.q01 (fun ρ=>rdS ρ 3) (J.q01 (g2 (fun ρ=>rdB ρ 2) (w3D (fun _=>.ok (.int 1))) q0f) J.q0e))))) (q1k (fun ρ=>rdS ρ 2)) (fun ρ=>.ok (.nx ρ))) (w1J 2 (gFn 2 q0X (J.q01 (fun ρ=>rdS ρ 3) (J.q01 (g2 (fun ρ=>rdB ρ 2) (w3D (fun _=>.ok (.int 1))) q0f) J.q0e))))) (rs.map q14) [.shr A,.shr B,.own (.list ((pre++[st]).map q0l)),z]=.ok (.nx [.shr A,.shr B,.own (.list ((pre++q2z rs st).map q0l)),z'])) \/
  q54 (q0q 3) (q0d (q2l (q5v (asB (gFn 2 q1K (J.q01 (fun ρ=>rdS ρ 3) (J.q01 (g2 (fun ρ=>rdB ρ 2) (w3D (fun _=>.ok (.int 1))) q0f) J.q0e))))) (q1k (fun ρ=>rdS ρ 2)) (fun ρ=>.ok (.nx ρ))) (w1J 2 (gFn 2 q0X (J.q01 (fun ρ=>rdS ρ 3) (J.q01 (g2 (fun ρ=>rdB ρ 2) (w3D (fun _=>.ok (.int 1))) q0f) J.q0e))))) (rs.map q14) [.shr A,.shr B,.own (.list ((pre++[st]).map q0l)),z]=.ok (.rt (.list ((pre++q2z rs st).map q0l)))
 | [],pre,st,z,_,_,_=>.inl ⟨z,rfl⟩
 | e::r,pre,st,z,hm,hs,hl=>by
  have he:=hm e List.mem_cons_self
  have sh:=q6t g he
  simp only [List.length_cons] at hl
  have hix:q0f (.list ((pre++[st]).map q0l)) (.int (-1))=.ok (q0l st):=by
   rw [List.map_append]
   exact w22 _ _
  unfold q2z
  cases hg:q2w st e.needs e.bars with
  | true =>
   rw [if_pos rfl]
   have e2:pre++st::q2z r (q0K e st)=(pre++[st])++q2z r (q0K e st):=by simp
   rw [e2,List.map_cons]
   have hb:=q9b g A B r (pre++[st]) (q0K e st) (.shr (q14 e)) (fun x hx=>hm x (List.mem_cons_of_mem _ hx)) (q71 g.rise.up (g.ok e he) hs) (by rw [List.length_append];simp only [List.length_cons,List.length_nil];omega)
   have hbody:(q0d (q2l (q5v (asB (gFn 2 q1K (J.q01 (fun ρ=>rdS ρ 3) (J.q01 (g2 (fun ρ=>rdB ρ 2) (w3D (fun _=>.ok (.int 1))) q0f) J.q0e))))) (q1k (fun ρ=>rdS ρ 2)) (fun ρ=>.ok (.nx ρ))) (w1J 2 (gFn 2 q0X (J.q01 (fun ρ=>rdS ρ 3) (J.q01 (g2 (fun ρ=>rdB ρ 2) (w3D (fun _=>.ok (.int 1))) q0f) J.q0e))))) [.shr A,.shr B,.own (.list ((pre++[st]).map q0l)),.shr (q14 e)]=.ok (.nx [.shr A,.shr B,.own (.list ((pre++[st]++[q0K e st]).map q0l)),.shr (q14 e)]):=by
    walk_at "zz"
    rw [w5R]
    walk_at "zz"
    rw [q5z]
    walk_at "zz"
    rw [hix]
    walk_at "zz"
    rw [w43 sh,hg]
    walk_at "zz"
    rw [List.map_append (l₁:=pre++[st])]
    refine x2m (ds:=(pre++[st]).map q0l) (d:=q0l (q0K e st)) rfl ?_ (by rw [List.length_map,List.length_append];simp only [List.length_cons,List.length_nil];omega)
    walk_at "zz"
    rw [w5R]
    walk_at "zz"
    rw [q5z]
    walk_at "zz"
    rw [hix]
    walk_at "zz"
    rw [x2u sh (q13 hs g.rise.len)]
   rw [w23 (ρ1:=[.shr A,.shr B,.own (.list ((pre++[st]).map q0l)),.shr (q14 e)]) rfl hbody]
   exact hb
  | false =>
   rw [if_neg Bool.false_ne_true,List.map_cons]
   refine .inr (w24 (ρ1:=[.shr A,.shr B,.own (.list ((pre++[st]).map q0l)),.shr (q14 e)]) rfl ?_)
   walk_at "zz"
   rw [w5R]
   walk_at "zz"
   rw [q5z]
   walk_at "zz"
   rw [hix]
   walk_at "zz"
   rw [w43 sh,hg]
   walk_at "zz"
theorem w9o {fs st:List Str}{es rs:List ErZ} (g:q2r fs es) (h:Row es rs) (hs:Sub fs st):q1z [.list (rs.map q14),q0l st]=.ok (.list ((q2z rs st).map q0l)):=by
 have hl:=h.len
 unfold q1z
 refine q0F ?_
 unfold q21 q0r
 walk_at "zz"
 rw [x5T (d:=.list (rs.map q14)) rfl,q85 (ds:=rs.map q14)]
 ·rcases q9b g (.list (rs.map q14)) (q0l st) rs [] st .no h.mem hs (by simp only [List.length_nil];omega) with ⟨z,e⟩ | e
  ·rw [List.nil_append,List.nil_append] at e
   simp only [List.map_cons,List.map_nil] at e
   rw [e]
   walk_at "zz"
  ·rw [List.nil_append,List.nil_append] at e
   simp only [List.map_cons,List.map_nil] at e
   rw [e]
   walk_at "zz"
 ·walk_at "zz"
theorem x2x {fs st m b:List Str}{es rs:List ErZ} (g:q2r fs es) (h:Row es rs) (hs:Sub fs st) (hw:q5y fs m b):q57 [q2Z fs es,q0l st,q3t m b,q5l rs]=.ok (.bool (q2s st m b rs)):=by
 have l1:=q13 hw.must g.rise.len
 have l2:=q13 hw.bars g.rise.len
 unfold q57
 refine q0F ?_
 unfold q8q q0r
 walk_at "zz"
 rw [x9o g hs hw]
 walk_at "zz"
 rw [w12 g h]
 walk_at "zz"
 rw [w9o g h hs]
 walk_at "zz"
 rw [w44]
 unfold q2s
 cases hr:w9n rs st with
 | none =>
  rw [Option.isSome_none]
  walk_at "zz"
 | some s =>
  obtain ⟨pre,hp⟩:=q72 rs st s hr
  rw [Option.isSome_some,hp,List.map_append]
  walk_at "zz"
  rw [w5R]
  walk_at "zz"
  rw [q5z]
  walk_at "zz"
  rw [w22]
  walk_at "zz"
  rw [w0Z (by omega) (by omega)]
  walk_at "zz"
def q86 (xs ys:List Str):Bool:=xs.any fun x=>decide (x∈ys)
def q5A (xs ys:List Str):List Str:=xs.filter fun x=>!decide (x∈ys)
def w25 (e:ErZ) (w:List Str×List Str):Option (List Str×List Str) :=
 if q86 e.makes w.2 || q86 e.ends w.1 then none
 else if q86 (srt (e.needs++q5A w.1 e.makes)) (srt (e.bars++q5A w.2 e.ends)) then none
 else some (srt (e.needs++q5A w.1 e.makes),srt (e.bars++q5A w.2 e.ends))
def x2y:Option (List Str×List Str)->D
 | none=>.none
 | some w=>q3t w.1 w.2
theorem q3Y {xs ys:List Str}:q86 xs ys=true↔∃ x,x∈xs/\x∈ys:=by
 unfold q86
 simp only [List.any_eq_true,decide_eq_true_eq]
theorem q5h {xs ys:List Str}{x:Str}:x∈q5A xs ys↔x∈xs/\x∉ys:=by
 unfold q5A
 simp [List.mem_filter]
theorem w8K (xs ys:List Str):(q5A xs ys).length<=xs.length:=List.length_filter_le _ _
theorem x77 (xs:List Str):(srt xs).length<=xs.length:=by
 unfold srt
 rw [(q1A _).length_eq]
 have:=q15 xs []
 simpa using this
theorem y27 (a b x y u v:D):x6N (q6P 4 (q0D (q0q 2) (q0D (q0q 3) (q0D (q0q 4) (q0D (q0q 5) q84))))) [Sl.shr a,.shr b,.no,.no,.no,.no,.no,.no,.no,.no] (.tuple [x,y,u,v])=.ok (.nx [.shr a,.shr b,.shr x,.shr y,.shr u,.shr v,.no,.no,.no,.no]):=id rfl
theorem y0E (a x y u v d f:D):x6N (q6P 2 (q0D (q0q 6) (q0D (q0q 7) q84))) [Sl.shr a,.shr (.tuple [d,f]),.shr x,.shr y,.shr u,.shr v,.no,.no,.no,.no] (.tuple [d,f])=.ok (.nx [.shr a,.shr (.tuple [d,f]),.shr x,.shr y,.shr u,.shr v,.shr d,.shr f,.no,.no]):=id rfl
theorem y0F (e:ErZ):slD (q14 e) (some 1) (some 5)=.ok (.tuple [q0l e.needs,q0l e.bars,q0l e.makes,q0l e.ends]):=id rfl
theorem w5S {xs ys:List Str} (hl:xs.length<=60):q0p [q0l xs,q0l ys]=.ok (.bool (!q86 xs ys)):=w8G hl
theorem w45 {xs ys:List Str} (h:xs.length<=60):q2m [q0l xs,q0l ys]=.ok (q0l (q5A xs ys)):=w11 h
theorem w8L {e:ErZ} (he:x2q e) {m b:List Str} (hm:m.length<=6) (hb:b.length<=6):q2C [q14 e,q3t m b]=.ok (x2y (w25 e (m,b))):=by
 have h1:=he.needs
 have h2:=he.bars
 have h3:=he.makes
 have h4:=he.ends
 have h5:=w8K m e.makes
 have h6:=w8K b e.ends
 have h7:=x77 (e.needs++q5A m e.makes)
 rw [List.length_append] at h7
 unfold q2C
 refine q0F ?_
 unfold q56 q0r q3t
 walk_at "zz"
 rw [y0F]
 walk_at "zz"
 rw [y27]
 walk_at "zz"
 rw [y0E]
 walk_at "zz"
 rw [w5S (by omega)]
 walk_at "zz"
 unfold w25
 cases c1:q86 e.makes b with
 | true=>walk_at "zz";rfl
 | false =>
  walk_at "zz"
  rw [w5S (by omega)]
  cases c2:q86 e.ends m with
  | true=>walk_at "zz";rfl
  | false =>
   walk_at "zz"
   rw [w45 (by omega)]
   walk_at "zz"
   rw [q9a (by omega)]
   walk_at "zz"
   rw [w45 (by omega)]
   walk_at "zz"
   rw [q9a (by omega)]
   walk_at "zz"
   rw [w5S (by omega)]
   cases c3:q86 (srt (e.needs++q5A m e.makes)) (srt (e.bars++q5A b e.ends)) with
   | true =>
    walk_at "zz"
    rfl
   | false =>
    walk_at "zz"
    rfl
theorem q6u {st a b:List Str}:q2w st a b=true↔(∀ x∈a,x∈st)/\∀ x∈b,x∉st:=by
 unfold q2w
 simp only [Bool.and_eq_true,List.all_eq_true,decide_eq_true_eq,Bool.not_eq_true',List.any_eq_false]
def q4c:List ErZ->List Str×List Str->Option (List Str×List Str)
 | [],w=>some w
 | e::r,w=>(q4c r w).bind (w25 e)
theorem w8M {fs m b m' b':List Str}{e:ErZ} (g:q6X fs e) (h:q5y fs m b) (ha:w25 e (m,b)=some (m',b')):q5y fs m' b':=by
 unfold w25 at ha
 split at ha
 ·cases ha
 ·split at ha
  ·cases ha
  ·rename_i c1 c2
   cases ha
   refine ⟨q6Y fun x hx=>?_,q6Y fun x hx=>?_,fun x h1 h2=>c2 (q3Y.mpr ⟨x,h1,h2⟩)⟩
   ·rcases List.mem_append.mp hx with z | z
    ·exact g.needs.mem x z
    ·exact h.must.mem x (q5h.mp z).1
   ·rcases List.mem_append.mp hx with z | z
    ·exact g.bars.mem x z
    ·exact h.bars.mem x (q5h.mp z).1
theorem q9c {fs m b:List Str}{es:List ErZ} (g:q2r fs es) (h:q5y fs m b):∀ {rs:List ErZ}{w:List Str×List Str},(∀ e∈rs,e∈es)->q4c rs (m,b)=some w->q5y fs w.1 w.2
 | [],w,_,e=>by cases e;exact h
 | x::r,w,hm,e=>by
  unfold q4c at e
  cases hr:q4c r (m,b) with
  | none=>rw [hr] at e;cases e
  | some v =>
   rw [hr] at e
   obtain ⟨m1,b1⟩:=v
   obtain ⟨m2,b2⟩:=w
   exact w8M (g.ok x (hm x List.mem_cons_self)) (q9c g h (fun y hy=>hm y (List.mem_cons_of_mem _ hy)) hr) e
theorem x78 {fs st m b:List Str}{e:ErZ} (g:q6X fs e):(q2w st e.needs e.bars && q2w (q0K e st) m b)=(match w25 e (m,b) with
  | some w=>q2w st w.1 w.2
  | none=>false):=by
 rw [Bool.eq_iff_iff,Bool.and_eq_true,q6u,q6u]
 unfold w25
 have ng:∀ x,x∈q0K e st↔(x∈st/\x∉e.ends)\/x∈e.makes:=fun x=>w10
 by_cases c1:q86 e.makes b=true
 ·obtain ⟨x,x1,x2⟩:=q3Y.mp c1
  simp only [c1,Bool.true_or,if_true]
  constructor
  ·rintro ⟨_,_,h⟩
   exact absurd ((ng x).mpr (.inr x1)) (h x x2)
  ·exact fun h=>nomatch h
 by_cases c2:q86 e.ends m=true
 ·obtain ⟨x,x1,x2⟩:=q3Y.mp c2
  simp only [c2,Bool.or_true,if_true]
  constructor
  ·rintro ⟨_,h,_⟩
   rcases (ng x).mp (h x x2) with z | z
   ·exact absurd x1 z.2
   ·exact absurd x1 (g.me x z)
  ·exact fun h=>nomatch h
 have d1:∀ x,x∈e.makes->x∉b:=fun x h1 h2=>c1 (q3Y.mpr ⟨x,h1,h2⟩)
 have d2:∀ x,x∈e.ends->x∉m:=fun x h1 h2=>c2 (q3Y.mpr ⟨x,h1,h2⟩)
 have key:((∀ x∈e.needs,x∈st)/\∀ x∈e.bars,x∉st)/\((∀ x∈m,x∈q0K e st)/\∀ x∈b,x∉q0K e st)↔(∀ x∈srt (e.needs++q5A m e.makes),x∈st)/\∀ x∈srt (e.bars++q5A b e.ends),x∉st:=by
  constructor
  ·rintro ⟨⟨h1,h2⟩,h3,h4⟩
   refine ⟨fun x hx=>?_,fun x hx=>?_⟩
   ·rcases List.mem_append.mp (q31.mp hx) with z | z
    ·exact h1 x z
    ·obtain ⟨z1,z2⟩:=q5h.mp z
     rcases (ng x).mp (h3 x z1) with y | y
     ·exact y.1
     ·exact absurd y z2
   ·rcases List.mem_append.mp (q31.mp hx) with z | z
    ·exact h2 x z
    ·obtain ⟨z1,z2⟩:=q5h.mp z
     exact fun y=>h4 x z1 ((ng x).mpr (.inl ⟨y,z2⟩))
  ·rintro ⟨h1,h2⟩
   have k1:∀ x,x∈e.needs\/(x∈m/\x∉e.makes)->x∈st:=fun x hx=>h1 x (q31.mpr (List.mem_append.mpr (hx.imp id q5h.mpr)))
   have k2:∀ x,x∈e.bars\/(x∈b/\x∉e.ends)->x∉st:=fun x hx=>h2 x (q31.mpr (List.mem_append.mpr (hx.imp id q5h.mpr)))
   refine ⟨⟨fun x hx=>k1 x (.inl hx),fun x hx=>k2 x (.inl hx)⟩,fun x hx=>(ng x).mpr ?_,fun x hx z=>?_⟩
   ·by_cases y:x∈e.makes
    ·exact .inr y
    ·exact .inl ⟨k1 x (.inr ⟨hx,y⟩),fun q=>d2 x q hx⟩
   ·rcases (ng x).mp z with y | y
    ·exact k2 x (.inr ⟨hx,y.2⟩) y.1
    ·exact d1 x y hx
 rw [key]
 simp only [c1,c2,Bool.or_self,Bool.false_eq_true,if_false]
 by_cases c3:q86 (srt (e.needs++q5A m e.makes)) (srt (e.bars++q5A b e.ends))=true
 ·obtain ⟨x,x1,x2⟩:=q3Y.mp c3
  simp only [c3,if_true]
  constructor
  ·rintro ⟨h1,h2⟩
   exact absurd (h1 x x1) (h2 x x2)
  ·exact fun h=>nomatch h
 ·simp only [c3,Bool.false_eq_true,if_false]
  rw [q6u]
theorem q8u {fs m b:List Str}{es:List ErZ} (g:q2r fs es):∀ (rs:List ErZ) (st:List Str),(∀ e∈rs,e∈es)->q2s st m b rs=(match q4c rs (m,b) with
  | some w=>q2w st w.1 w.2
  | none=>false)
 | [],st,_=>rfl
 | e::r,st,hm=>by
  have ih:=q8u (m:=m) (b:=b) g r (q0K e st) fun x hx=>hm x (List.mem_cons_of_mem _ hx)
  have ge:=g.ok e (hm e List.mem_cons_self)
  have e1:q2s st m b (e::r)=(q2w st e.needs e.bars && q2s (q0K e st) m b r):=by
   unfold q2s
   rw [w9n]
   cases q2w st e.needs e.bars<;>rfl
  rw [e1,ih,show q4c (e::r) (m,b)=(q4c r (m,b)).bind (w25 e) from rfl]
  cases q4c r (m,b) with
  | none=>exact Bool.and_false _
  | some w =>
   obtain ⟨m1,b1⟩:=w
   exact x78 ge
theorem w5T:∀ (fs:List Str) (acc:List (List Str)) (t u:List Str),t∈acc->u.Sublist fs->t++u∈fs.foldl (fun acc f=>acc++acc.map (·++[f])) acc
 | [],acc,t,u,ht,hu=>by
  cases hu
  rw [List.append_nil]
  exact ht
 | f::r,acc,t,u,ht,hu=>by
  rw [List.foldl_cons]
  cases hu with
  | cons _ h=>exact w5T r _ t u (List.mem_append_left _ ht) h
  | cons_cons _ h =>
   rename_i u'
   have:=w5T r (acc++acc.map (·++[f])) (t++[f]) u' (List.mem_append_right _ (List.mem_map_of_mem ht)) h
   rwa [List.append_assoc] at this
theorem x4r {fs xs:List Str} (hf:fs.Pairwise fun a b=>ltS a b=true) (h:Sub fs xs):xs.Sublist fs:=by
 have e:xs=fs.filter fun x=>decide (x∈xs):=x5S h.up (hf.sublist List.filter_sublist) fun x=>by
  rw [List.mem_filter,decide_eq_true_eq]
  exact ⟨fun z=>⟨h.mem x z,z⟩,fun z=>z.2⟩
 rw [e]
 exact List.filter_sublist
theorem x4s {fs xs:List Str} (hf:fs.Pairwise fun a b=>ltS a b=true) (h:Sub fs xs):xs∈x76 fs:=w5T fs [[]] [] xs (List.mem_singleton.mpr rfl) (x4r hf h)
def x4t:List ErZ->List Str×List Str->Option (List Str×List Str)
 | [],w=>some w
 | e::r,w=>(w25 e w).bind (x4t r)
theorem w8N (e:ErZ):∀ (q:List ErZ) (w:List Str×List Str),x4t (q++[e]) w=(x4t q w).bind (w25 e)
 | [],w=>by
  show (w25 e w).bind (x4t [])=w25 e w
  cases w25 e w<;>rfl
 | x::q,w=>by
  show (w25 x w).bind (x4t (q++[e]))=((w25 x w).bind (x4t q)).bind (w25 e)
  cases w25 x w with
  | none=>rfl
  | some v=>exact w8N e q v
theorem w8O:∀ (rs:List ErZ) (w:List Str×List Str),x4t rs.reverse w=q4c rs w
 | [],_=>rfl
 | e::r,w=>by
  rw [List.reverse_cons,w8N,w8O r w]
  rfl
theorem y0G (neg:Bool) (m b:List Str):isD neg (q3t m b) .none=.ok (.bool neg):=by cases neg<;>rfl
theorem w13 {fs:List Str}{es:List ErZ} (g:q2r fs es) (A B D0:D):∀ (rs:List ErZ) (m b:List Str) (z:Sl),(∀ e∈rs,e∈es)->q5y fs m b ->
  (match x4t rs (m,b) with
  | some w=>∃ z',q54 (q0q 4) (q0d (q2R 3 (gFn 2 q2C (J.q01 (fun ρ=>rdS ρ 4) (J.q01 (fun ρ=>rdS ρ 3) J.q0e)))) (q2l (asB (g2 (fun ρ=>rdB ρ 3) (fun _=>.ok .none) (isD false))) (q1k (fun _=>.ok .none)) (fun ρ=>.ok (.nx ρ)))) (rs.map q14) [.shr A,.shr B,.shr D0,.shr (q3t m b),z]=.ok (.nx [.shr A,.shr B,.shr D0,.shr (q3t w.1 w.2),z'])
  | none=>q54 (q0q 4) (q0d (q2R 3 (gFn 2 q2C (J.q01 (fun ρ=>rdS ρ 4) (J.q01 (fun ρ=>rdS ρ 3) J.q0e)))) (q2l (asB (g2 (fun ρ=>rdB ρ 3) (fun _=>.ok .none) (isD false))) (q1k (fun _=>.ok .none)) (fun ρ=>.ok (.nx ρ)))) (rs.map q14) [.shr A,.shr B,.shr D0,.shr (q3t m b),z]=.ok (.rt .none))
 | [],m,b,z,_,_=>⟨z,rfl⟩
 | e::r,m,b,z,hm,hw=>by
  have he:=hm e List.mem_cons_self
  have sh:=q6t g he
  have l1:=q13 hw.must g.rise.len
  have l2:=q13 hw.bars g.rise.len
  show match (w25 e (m,b)).bind (x4t r) with
   | some w=>_
   | none=>_
  rw [List.map_cons]
  cases ha:w25 e (m,b) with
  | none =>
   rw [Option.bind_none]
   refine w24 (ρ1:=[.shr A,.shr B,.shr D0,.shr (q3t m b),.shr (q14 e)]) rfl ?_
   walk_at "zz"
   rw [w8L sh l1 l2,ha]
   simp only [x2y]
   walk_at "zz"
   rw [x9m]
   walk_at "zz"
  | some v =>
   obtain ⟨m1,b1⟩:=v
   have ih:=w13 g A B D0 r m1 b1 (.shr (q14 e)) (fun x hx=>hm x (List.mem_cons_of_mem _ hx)) (w8M (g.ok e he) hw ha)
   rw [Option.bind_some]
   rw [w23 (ρ1:=[.shr A,.shr B,.shr D0,.shr (q3t m b),.shr (q14 e)]) (ρ2:=[.shr A,.shr B,.shr D0,.shr (q3t m1 b1),.shr (q14 e)]) rfl (by
    walk_at "zz"
    rw [w8L sh l1 l2,ha]
    simp only [x2y]
    walk_at "zz"
    rw [y0G]
    walk_at "zz")]
   exact ih
theorem x9r (gs:Rho->R (List D)) (s:Sl) (ρ:Rho):J.x45 gs (s::ρ)=(gs (s::ρ)).bind J.x9G:=id rfl
theorem x79 (ds:List D):J.x9G [.list ds]=.ok ds.reverse:=rfl
theorem x4u {fs m b:List Str}{es rs:List ErZ} (g:q2r fs es) (h:Row es rs) (hw:q5y fs m b):q6U [q2Z fs es,q3t m b,q5l rs]=.ok (x2y (q4c rs (m,b))):=by
 unfold q6U
 refine q0F ?_
 unfold w1V q0r
 walk_at "zz"
 rw [w0Y g]
 walk_at "zz"
 rw [w8I g hw]
 walk_at "zz"
 rw [q85 (ds:=(rs.reverse).map q14)]
 ·have hl:=w13 g (q2Z fs es) (q3t m b) (q5l rs) rs.reverse m b .no (fun e he=>h.mem e (List.mem_reverse.mp he)) hw
  rw [w8O] at hl
  cases ha:q4c rs (m,b) with
  | none =>
   rw [ha] at hl
   simp only at hl
   rw [hl]
   walk_at "zz"
   rfl
  | some w =>
   rw [ha] at hl
   obtain ⟨z,hl⟩:=hl
   rw [hl]
   walk_at "zz"
   rfl
 ·rw [x9r]
  walk_at "zz"
  rw [w12 g h]
  walk_at "zz"
  rw [x79,List.map_reverse]
theorem x2z (neg:Bool) (ds:List D) (h:PyData.canLayAll0 ds=true):eqD neg (.list ds) (.list [])=.ok (.bool (neg != decide (ds=[]))):=by
 unfold eqD
 have h1:(PyData.list ds).canLay0=true:=by simp only [PyData.canLay0];exact h
 have h3:min (PyData.list ds).depth (PyData.list []).depth<=60:=Nat.le_trans (Nat.min_le_right _ _) (by decide)
 have h4:PyData.eqv (.list ds) (.list [])=decide (ds=[]):=by
  cases ds with
  | nil=>rfl
  | cons x r=>simp [PyData.eqv,PyData.eqvAll]
 rw [h1,show (PyData.list []).canLay0=true from rfl,decide_eq_true h3,h4]
 cases neg<;>cases decide (ds=[])<;>rfl
theorem w5U (ds:List D) (h:PyData.canLayAll0 ds=true):eqD false (.list ds) (.list [])=.ok (.bool (decide (ds=[]))):=by rw [x2z false ds h,Bool.false_bne]
theorem x7a (ds:List D) (h:PyData.canLayAll0 ds=true):eqD true (.list ds) (.list [])=.ok (.bool (!decide (ds=[]))):=by rw [x2z true ds h,Bool.true_bne]
theorem x4v (neg:Bool) (o:Option (List Str)):isD neg (x9J o) .none=.ok (.bool (neg == o.isSome)):=by cases o<;>cases neg<;>rfl
theorem x7b {L:List ErZ}{j:Int} (h0:0<=j) (h1:j<(L.length:Nat)):∃ e∈L,q0f (.list (L.map q14)) (.int j)=.ok (q14 e):=by
 obtain ⟨n,rfl⟩:=Int.eq_ofNat_of_zero_le h0
 have hn:n<L.length:=by omega
 refine ⟨L[n],List.getElem_mem hn,q8D ?_⟩
 rw [List.getElem?_map,List.getElem?_eq_getElem hn]
 rfl
theorem w9p (e:ErZ) (st:List Str):(x2r e st).isSome=q2w st e.needs e.bars:=by
 unfold x2r
 cases q2w st e.needs e.bars<;>rfl
theorem w46 {fs:List Str}{es:List ErZ} (g:q2r fs es) (ns:List Int) (at0:Int) (h0:0<=at0) (M:D):∀ (ks:List Nat) (rs:List ErZ) (st:List Str) (z7 z8 z9:Sl),(∀ e∈rs,e∈es)->Sub fs st->rs.length + ks.length<=20 ->
  ∃ rs',Row es rs'/\(q54 (q0q 6) (q0d (q2A 7 (q1T 1 [3] (gIt (g2 (fun ρ=>rdB ρ 2) (fun _=>.ok (.int 1)) q0f)) (asB (g2 (gFn 2 q0Q (J.q01 (fun ρ=>rdS ρ 0) (J.q01 (fun ρ=>rdS ρ 1) J.q0e))) (fun _=>.ok .none) (isD true))) (fun ρ=>rdS ρ 0))) (q0d (q2l (asB (g2 (fun ρ=>rdB ρ 7) (q39 J.q0e .list) (eqD false))) (q1k (fun ρ=>rdS ρ 5)) (fun ρ=>.ok (.nx ρ))) (q0d (q2R 8 (g2 (fun ρ=>rdB ρ 7) (gFn 3 q07 (J.q01 (fun ρ=>rdS ρ 0) (J.q01 (g2 (fun ρ=>rdB ρ 1) (fun ρ=>rdB ρ 6) q2v) (J.q01 (q0O (J.q01 (fun ρ=>rdB ρ 7) J.q0e) (on1 q83)) J.q0e)))) q0f)) (q0d (w1J 5 (g2 (fun ρ=>rdB ρ 8) (fun _=>.ok (.int 0)) q0f)) (q2R 3 (gFn 2 q0Q (J.q01 (fun ρ=>rdS ρ 8) (J.q01 (fun ρ=>rdS ρ 3) J.q0e)))))))) (ks.map fun (i:Nat)=>PyData.int (i:Int)) [.shr (.list (ns.map .int)),.shr (.int at0),.shr (q2Z fs es),.shr (q0l st),.shr M,.own (q5l rs),z7,z8,z9]).bind (x7t (q1k fun ρ=>rdS ρ 5))=.ok (.rt (q5l rs'))
 | [],rs,st,z7,z8,z9,hm,hs,hl=>by
  refine ⟨rs,⟨hm,by simpa using hl⟩,?_⟩
  rw [List.map_nil,q54]
  walk_at "zz"
 | k::ks,rs,st,z7,z8,z9,hm,hs,hl=>by
  have ls:=q13 hs g.rise.len
  have lg:=g.len
  simp only [List.length_cons] at hl
  let L:=es.filter fun e=>q2w st e.needs e.bars
  have hL:∀ e∈L,e∈es/\q2w st e.needs e.bars=true:=fun e he=>List.mem_filter.mp he
  have hc:∀ (z:Sl),q1T 1 [3] (gIt (g2 (fun ρ=>rdB ρ 2) (fun _=>.ok (.int 1)) q0f)) (asB (g2 (gFn 2 q0Q (J.q01 (fun ρ=>rdS ρ 0) (J.q01 (fun ρ=>rdS ρ 1) J.q0e))) (fun _=>.ok .none) (isD true))) (fun ρ=>rdS ρ 0) [.shr (.list (ns.map .int)),.shr (.int at0),.shr (q2Z fs es),.shr (q0l st),.shr M,.own (q5l rs),.shr (.int (k:Int)),z8,z]=.ok (.list (L.map q14)):=by
   intro z
   walk_at "zz"
   rw [x9I]
   walk_at "zz"
   rw [if_pos (by omega)]
   rw [q2T _ q14 q14 (fun e=>q2w st e.needs e.bars) es fun e he=>w1Q (by
    walk_at "zz"
    rw [w21 (q6t g he) (by omega)]
    walk_at "zz"
    rw [x4v,w9p]
    walk_at "zz"
    rw [Bool.true_beq]) fun _=>rfl]
   walk_at "zz"
   rfl
  have lay:PyData.canLayAll0 (L.map q14)=true:=q8s q14 L fun e he=>x4k g.rise.ok (g.ok e (hL e he).1)
  rw [List.map_cons]
  by_cases hn:L=[]
  ·refine ⟨rs,⟨hm,by omega⟩,?_⟩
   rw [w24 (x:=q5l rs) (ρ1:=[.shr (.list (ns.map .int)),.shr (.int at0),.shr (q2Z fs es),.shr (q0l st),.shr M,.own (q5l rs),.shr (.int (k:Int)),z8,z9]) rfl ?_]
   ·walk_at "zz"
   ·rw [w1P]
    unfold q2A
    rw [hc]
    walk_at "zz"
    rw [w5U _ lay,hn]
    walk_at "zz"
  ·have hp:0<L.length:=List.length_pos_iff.mpr hn
   have hk:((L.length:Nat):Int) > 0:=by omega
   obtain ⟨e,he,hix⟩:=x7b (L:=L) (q19 ns (at0 + k) (L.length:Nat) (by omega)) (q1r ns (at0 + k) (L.length:Nat) (by omega))
   obtain ⟨he1,he2⟩:=hL e he
   obtain ⟨rs',r1,r2⟩:=w46 g ns at0 h0 M ks (rs++[e]) (q0K e st) (.shr (.int (k:Int))) (.own (.list (L.map q14))) (.shr (q14 e)) (fun x hx=>by
    rcases List.mem_append.mp hx with h | h
    ·exact hm x h
    ·rw [List.mem_singleton.mp h];exact he1) (q71 g.rise.up (g.ok e he1) hs) (by rw [List.length_append,List.length_singleton];omega)
   refine ⟨rs',r1,?_⟩
   rw [w23 (ρ1:=[.shr (.list (ns.map .int)),.shr (.int at0),.shr (q2Z fs es),.shr (q0l st),.shr M,.own (q5l rs),.shr (.int (k:Int)),z8,z9]) (ρ2:=[.shr (.list (ns.map .int)),.shr (.int at0),.shr (q2Z fs es),.shr (q0l (q0K e st)),.shr M,.own (q5l (rs++[e])),.shr (.int (k:Int)),.own (.list (L.map q14)),.shr (q14 e)]) rfl ?_]
   ·exact r2
   ·rw [w1P]
    unfold q2A
    rw [hc]
    walk_at "zz"
    rw [w5U _ lay,decide_eq_false (by simpa using hn)]
    walk_at "zz"
    rw [q1i ns (at0 + k) (L.length:Nat) (by omega) (by omega)]
    walk_at "zz"
    rw [hix]
    walk_at "zz"
    rw [x2m (ds:=rs.map fun e=>PyData.str e.name) (d:=.str e.name) rfl (by
     walk_at "zz"
     rw [x9n]) (by rw [List.length_map];omega)]
    walk_at "zz"
    rw [w21 (q6t g he1) (by omega),q99,he2]
    walk_at "zz"
    simp only [q5l,List.map_append]
    rfl
theorem x7c {fs st:List Str}{es:List ErZ} (g:q2r fs es) (ns:List Int) (k n:Int) (h0:0<=k) (hn:0<=n) (h20:n<=20) (hs:Sub fs st):∃ rs,Row es rs/\q3c [.list (ns.map .int),.int k,q2Z fs es,q0l st,.int n]=.ok (q5l rs):=by
 obtain ⟨j,rfl⟩:=Int.eq_ofNat_of_zero_le hn
 obtain ⟨rs,h1,h2⟩:=w46 g ns k h0 (.int (j:Int)) (List.range j) [] st .no .no .no (fun _ h=>nomatch h) hs (by simp;omega)
 refine ⟨rs,h1,?_⟩
 unfold q3c
 refine q0F ?_
 unfold q5f q0r
 walk_at "zz"
 rw [q85 (ds:=(List.range j).map fun (i:Nat)=>PyData.int (i:Int))]
 ·exact h2
 ·walk_at "zz"
  exact q92 j (by omega)
def kvE (es:List ErZ):List (Str×D):=es.map fun e=>(e.name,q14 e)
theorem w8P:∀ es:List ErZ,J.q4J (es.map fun e=>PyData.tuple [.str e.name,q14 e])=some (es.map fun e=>(Sum.inr e.name,q14 e))
 | []=>rfl
 | e::r=>by
  show (w04 (.str e.name)).bind (fun y=>(J.q4J (r.map fun e=>PyData.tuple [.str e.name,q14 e])).map ((y,q14 e)::·))=_
  rw [w8P r]
  rfl
theorem w8Q:∀ (l acc:List (Str×D)),((acc++l).map (·.1)).Nodup->l.foldl (fun a p=>x3g a (.str p.1) p.2) (q4z acc)=q4z (acc++l)
 | [],acc,_=>by rw [List.append_nil];rfl
 | p::r,acc,nd=>by
  have hx:p.1∉acc.map (·.1):=by
   rw [List.map_append,List.map_cons] at nd
   intro h
   exact (List.nodup_append.mp nd).2.2 _ h _ List.mem_cons_self rfl
  have hp:w5j acc p.1 p.2=acc++[p]:=by
   unfold w5j
   rw [if_neg]
   rw [List.any_eq_true]
   rintro ⟨q,hq,e⟩
   exact hx (List.mem_map.mpr ⟨q,hq,of_decide_eq_true e⟩)
  rw [List.foldl_cons,x2a,hp]
  have:=w8Q r (acc++[p]) (by rwa [List.append_assoc])
  rwa [List.append_assoc] at this
theorem x7d {es:List ErZ} (nd:(es.map (·.name)).Nodup) (hl:es.length<=6):J.q91 (.list (es.map fun e=>PyData.tuple [.str e.name,q14 e]))=.ok (.dict (q4z (kvE es))):=by
 have e:J.q91 (.list (es.map fun e=>PyData.tuple [.str e.name,q14 e]))=if (es.map fun e=>PyData.tuple [.str e.name,q14 e]).length<=1000 then (match J.q4J (es.map fun e=>PyData.tuple [.str e.name,q14 e]) with
  | some ps=>.ok (.dict (ps.foldl (fun a p=>x3g a (kD p.1) p.2) []))
  | none=>.no) else .no:=rfl
 rw [e,if_pos (by rw [List.length_map];omega),w8P]
 have:=w8Q (kvE es) [] (by rw [List.nil_append];unfold kvE;rw [List.map_map];exact nd)
 rw [List.nil_append] at this
 rw [<- this]
 unfold kvE
 simp only [List.foldl_map]
 rfl
theorem x9s {es:List ErZ} (nd:(es.map (·.name)).Nodup) {e:ErZ} (he:e∈es):q0f (.dict (q4z (kvE es))) (.str e.name)=.ok (q14 e) :=
 x5M (l:=kvE es) (by unfold kvE;rw [List.map_map];exact nd) (p:=(e.name,q14 e)) (List.mem_map_of_mem (f:=fun e=>(e.name,q14 e)) he)
theorem q7M {fs:List Str}{es:List ErZ} (g:q2r fs es) (A B C:D):∀ (rs:List ErZ) (n:Nat) (pre:List (List Str)) (st:List Str) (x y z:Sl),(∀ e∈rs,e∈es)->Sub fs st->pre.length + rs.length<=100 ->
  match w9n rs st with
  | some _=>∃ x' y' z',q54 (q6P 2 (q0D (q0q 5) (q0D (q0q 6) q84))) (q0d (q2R 7 (gFn 2 q0Q (J.q01 (g2 (fun ρ=>rdB ρ 3) (fun ρ=>rdB ρ 6) q0f) (J.q01 (g2 (fun ρ=>rdB ρ 4) (w3D (fun _=>.ok (.int 1))) q0f) J.q0e)))) (q0d (q2l (asB (g2 (fun ρ=>rdB ρ 7) (fun _=>.ok .none) (isD false))) (q1k (fun ρ=>rdS ρ 5)) (fun ρ=>.ok (.nx ρ))) (w1J 4 (fun ρ=>rdS ρ 7)))) (q3F n (rs.map fun e=>PyData.str e.name)) [.shr A,.shr B,.shr C,.own (.dict (q4z (kvE es))),.own (.list ((pre++[st]).map q0l)),x,y,z]=.ok (.nx [.shr A,.shr B,.shr C,.own (.dict (q4z (kvE es))),.own (.list ((pre++q2z rs st).map q0l)),x',y',z'])
  | none=>∃ k,q54 (q6P 2 (q0D (q0q 5) (q0D (q0q 6) q84))) (q0d (q2R 7 (gFn 2 q0Q (J.q01 (g2 (fun ρ=>rdB ρ 3) (fun ρ=>rdB ρ 6) q0f) (J.q01 (g2 (fun ρ=>rdB ρ 4) (w3D (fun _=>.ok (.int 1))) q0f) J.q0e)))) (q0d (q2l (asB (g2 (fun ρ=>rdB ρ 7) (fun _=>.ok .none) (isD false))) (q1k (fun ρ=>rdS ρ 5)) (fun ρ=>.ok (.nx ρ))) (w1J 4 (fun ρ=>rdS ρ 7)))) (q3F n (rs.map fun e=>PyData.str e.name)) [.shr A,.shr B,.shr C,.own (.dict (q4z (kvE es))),.own (.list ((pre++[st]).map q0l)),x,y,z]=.ok (.rt (.int k))
 | [],n,pre,st,x,y,z,_,_,_=>⟨x,y,z,rfl⟩
 | e::r,n,pre,st,x,y,z,hm,hs,hl=>by
  have he:=hm e List.mem_cons_self
  have sh:=q6t g he
  have ls:=q13 hs g.rise.len
  simp only [List.length_cons] at hl
  have hix:q0f (.list ((pre++[st]).map q0l)) (.int (-1))=.ok (q0l st):=by
   rw [List.map_append]
   exact w22 _ _
  have hk:q0f (.dict (q4z (kvE es))) (.str e.name)=.ok (q14 e):=x9s g.nd he
  have en:q3F n ((e::r).map fun e=>PyData.str e.name)=.tuple [.int (n:Nat),.str e.name]::q3F (n + 1) (r.map fun e=>PyData.str e.name):=rfl
  rw [en]
  unfold q2z w9n
  cases hg:q2w st e.needs e.bars with
  | true =>
   rw [if_pos rfl,if_pos rfl]
   have e2:pre++st::q2z r (q0K e st)=(pre++[st])++q2z r (q0K e st):=by simp
   rw [e2]
   have ih:=q7M g A B C r (n + 1) (pre++[st]) (q0K e st) (.shr (.int (n:Nat))) (.shr (.str e.name)) (.shr (q0l (q0K e st))) (fun x hx=>hm x (List.mem_cons_of_mem _ hx)) (q71 g.rise.up (g.ok e he) hs) (by rw [List.length_append];simp only [List.length_cons,List.length_nil];omega)
   rw [w23 (ρ1:=[.shr A,.shr B,.shr C,.own (.dict (q4z (kvE es))),.own (.list ((pre++[st]).map q0l)),.shr (.int (n:Nat)),.shr (.str e.name),z]) (ρ2:=[.shr A,.shr B,.shr C,.own (.dict (q4z (kvE es))),.own (.list ((pre++[st]++[q0K e st]).map q0l)),.shr (.int (n:Nat)),.shr (.str e.name),.shr (q0l (q0K e st))]) rfl ?_]
   ·exact ih
   ·walk_at "zz"
    rw [hk]
    walk_at "zz"
    rw [w5R]
    walk_at "zz"
    rw [q5z]
    walk_at "zz"
    rw [hix]
    walk_at "zz"
    rw [w21 sh (by omega),q99,hg]
    walk_at "zz"
    rw [x2s,y0A]
    walk_at "zz"
    rw [List.map_append (l₁:=pre++[st])]
    exact x2m (ds:=(pre++[st]).map q0l) (d:=q0l (q0K e st)) rfl (by rfl) (by rw [List.length_map,List.length_append];simp only [List.length_cons,List.length_nil];omega)
  | false =>
   rw [if_neg Bool.false_ne_true]
   refine ⟨(n:Int),?_⟩
   rw [w24 (x:=.int (n:Nat)) (ρ1:=[.shr A,.shr B,.shr C,.own (.dict (q4z (kvE es))),.own (.list ((pre++[st]).map q0l)),.shr (.int (n:Nat)),.shr (.str e.name),z]) rfl ?_]
   walk_at "zz"
   rw [hk]
   walk_at "zz"
   rw [w5R]
   walk_at "zz"
   rw [q5z]
   walk_at "zz"
   rw [hix]
   walk_at "zz"
   rw [w21 sh (by omega),q99,hg]
   walk_at "zz"
   rw [x2t,x9m]
   walk_at "zz"
theorem x9t (gs:Rho->R (List D)) (s:Sl) (ρ:Rho):J.x44 gs (s::ρ)=(gs (s::ρ)).bind J.x9F:=id rfl
theorem x4w (g:Rho->R D) (s:Sl) (ρ:Rho):J.w1U g (s::ρ)=(g (s::ρ)).bind J.q91:=id rfl
theorem x7e (ds:List D):J.x9F [.list ds]=.ok (q3F 0 ds):=rfl
theorem w9q {fs st:List Str}{es rs:List ErZ} (g:q2r fs es) (h:Row es rs) (hs:Sub fs st):match w9n rs st with
  | some _=>q1N [q2Z fs es,q0l st,q5l rs]=.ok (.list ((q2z rs st).map q0l))
  | none=>∃ k,q1N [q2Z fs es,q0l st,q5l rs]=.ok (.int k):=by
 have hl:=h.len
 have lg:=g.len
 have L:=q7M g (q2Z fs es) (q0l st) (q5l rs) rs 0 [] st .no .no .no h.mem hs (by simp only [List.length_nil];omega)
 have K:∀ {x:D},(q54 (q6P 2 (q0D (q0q 5) (q0D (q0q 6) q84))) (q0d (q2R 7 (gFn 2 q0Q (J.q01 (g2 (fun ρ=>rdB ρ 3) (fun ρ=>rdB ρ 6) q0f) (J.q01 (g2 (fun ρ=>rdB ρ 4) (w3D (fun _=>.ok (.int 1))) q0f) J.q0e)))) (q0d (q2l (asB (g2 (fun ρ=>rdB ρ 7) (fun _=>.ok .none) (isD false))) (q1k (fun ρ=>rdS ρ 5)) (fun ρ=>.ok (.nx ρ))) (w1J 4 (fun ρ=>rdS ρ 7)))) (q3F 0 (rs.map fun e=>PyData.str e.name)) [.shr (q2Z fs es),.shr (q0l st),.shr (q5l rs),.own (.dict (q4z (kvE es))),.own (.list (([]++[st]).map q0l)),.no,.no,.no]).bind (x7t (q1k fun ρ=>rdS ρ 4))=.ok (.rt x)->q1N [q2Z fs es,q0l st,q5l rs]=.ok x:=by
  intro x hx
  unfold q1N
  refine q0F ?_
  unfold q3B q0r
  walk_at "zz"
  rw [x4w]
  walk_at "zz"
  rw [x9I]
  walk_at "zz"
  rw [if_pos (by omega)]
  rw [q0L _ q14 (fun e=>PyData.tuple [.str e.name,q14 e]) es fun e he=>q1h rfl (by
   walk_at "zz"
   rw [x9n]
   walk_at "zz")]
  walk_at "zz"
  rw [x7d g.nd lg]
  walk_at "zz"
  rw [q85 (ds:=q3F 0 (rs.map fun e=>PyData.str e.name))]
  ·exact hx
  ·rw [x9t]
   walk_at "zz"
   rw [x7e]
 cases hr:w9n rs st with
 | none =>
  rw [hr] at L
  obtain ⟨k,L⟩:=L
  refine ⟨k,K ?_⟩
  rw [L]
  walk_at "zz"
 | some s =>
  rw [hr] at L
  obtain ⟨x,y,z,L⟩:=L
  refine K ?_
  rw [L]
  walk_at "zz"
theorem x7f {fs st m b:List Str}{es rs:List ErZ} (g:q2r fs es) (h:Row es rs) (hs:Sub fs st) (hw:q5y fs m b):q3d [q2Z fs es,q0l st,q3t m b,q5l rs]=.ok (.bool (q2s st m b rs)):=by
 have l1:=q13 hw.must g.rise.len
 have l2:=q13 hw.bars g.rise.len
 have L:=w9q g h hs
 unfold q3d
 refine q0F ?_
 unfold q5g q0r
 walk_at "zz"
 unfold q2s
 cases hr:w9n rs st with
 | none =>
  rw [hr] at L
  obtain ⟨k,L⟩:=L
  rw [L]
  walk_at "zz"
  rw [show noD (.int k)=true from rfl,show x1x "int" (.int k)=true from rfl]
  walk_at "zz"
 | some s =>
  rw [hr] at L
  simp only at L
  rw [L]
  obtain ⟨pre,hp⟩:=q72 rs st s hr
  rw [hp]
  walk_at "zz"
  rw [show noD (.list ((pre++[s]).map q0l))=true from q94 _ q4b _,show x1x "int" (.list ((pre++[s]).map q0l))=false from rfl]
  walk_at "zz"
  rw [w5R]
  walk_at "zz"
  rw [q5z]
  walk_at "zz"
  rw [List.map_append,show List.map q0l [s]=[q0l s] from rfl]
  rw [w22]
  walk_at "zz"
  rw [w5Q (by omega) (by omega)]
  walk_at "zz"
theorem x2A {m b:List Str} (hm:∀ x∈m,okW x=true) (hb:∀ x∈b,okW x=true) (neg:Bool):eqD neg (q3t m b) (q3t m b)=.ok (.bool (!neg)):=by
 unfold eqD
 have h1:(q3t m b).canLay0=true:=by
  simp only [PyData.canLay0,PyData.canLayAll0]
  rw [q6s m hm,q6s b hb]
  rfl
 have h2:(q3t m b).depth<=60:=by
  have:=q97 PyData.str 0 (fun x=>by simp [PyData.depth]) m
  have:=q97 PyData.str 0 (fun x=>by simp [PyData.depth]) b
  simp only [PyData.depth,PyData.depthAll]
  omega
 have h3:PyData.eqv (q3t m b) (q3t m b)=true:=by
  simp only [PyData.eqv,PyData.eqvAll]
  have e1:=w8E m
  have e2:=w8E b
  simp only [PyData.eqv] at e1 e2
  rw [e1,e2]
  rfl
 rw [h1,h3,decide_eq_true (Nat.le_trans (Nat.min_le_left _ _) h2)]
 cases neg<;>rfl
theorem w8R {α:Type} (p:α->Bool):∀ (xs:List α) (b:Bool),xs.foldl (fun b x=>b || p x) b=(b || xs.any p)
 | [],b=>by simp
 | x::r,b=>by rw [List.foldl_cons,w8R p r,List.any_cons,Bool.or_assoc]
theorem x4x {fs m b:List Str}{es rs:List ErZ} (g:q2r fs es) (h:∀ e∈rs,e∈es) (hw:q5y fs m b):(x76 fs).any (fun x=>q2s x m b rs)=(q4c rs (m,b)).isSome:=by
 cases ha:q4c rs (m,b) with
 | none =>
  rw [Option.isSome_none,List.any_eq_false]
  intro x _
  rw [q8u g rs x h,ha]
  exact Bool.false_ne_true
 | some w =>
  have gw:=q9c g hw h ha
  rw [Option.isSome_some,List.any_eq_true]
  refine ⟨w.1,x4s g.rise.up gw.must,?_⟩
  rw [q8u g rs w.1 h,ha]
  exact q6u.mpr ⟨fun x hx=>hx,fun x hx hm=>gw.mb x hm hx⟩
theorem w8S (neg:Bool) (o:Option (List Str×List Str)):isD neg (x2y o) .none=.ok (.bool (if neg then o.isSome else !o.isSome)):=by cases o<;>cases neg<;>rfl
theorem x7g {fs x:List Str} (hf:fs.Pairwise fun a b=>ltS a b=true) (h:x∈x76 fs):Sub fs x:=⟨hf.sublist (w8J h),fun _ hy=>(w8J h).subset hy⟩
def y0H:Rho->R Fl:=(q0d (w1H (gIt (gFn 1 q3X (J.q01 (g2 (fun ρ=>rdB ρ 1) (fun _=>.ok (.int 0)) q0f) J.q0e))) (q0q 8) (q0d (gAt 5 (q2R 9 (gFn 4 q3d (J.q01 (fun ρ=>rdS ρ 1) (J.q01 (fun ρ=>rdS ρ 8) (J.q01 (fun ρ=>rdS ρ 3) (J.q01 (fun ρ=>rdS ρ 5) J.q0e))))))) (q0d (q2R 7 (x8k (fun ρ=>rdS ρ 7) (fun ρ=>rdS ρ 9))) (q2l (gOr (asB (g2 (gFn 4 q57 (J.q01 (fun ρ=>rdS ρ 1) (J.q01 (fun ρ=>rdS ρ 8) (J.q01 (fun ρ=>rdS ρ 3) (J.q01 (fun ρ=>rdS ρ 5) J.q0e))))) (fun ρ=>rdB ρ 9) (eqD true))) (asB (g2 (fun ρ=>rdB ρ 9) (q6N (g2 (fun ρ=>rdB ρ 6) (fun _=>.ok .none) (isD true)) (gFn 2 q1B (J.q01 (fun ρ=>rdS ρ 8) (J.q01 (fun ρ=>rdS ρ 6) J.q0e)))) (eqD true)))) (q1k (fun _=>.ok (.bool false))) (fun ρ=>.ok (.nx ρ)))))) (q1k (g2 (fun ρ=>rdB ρ 7) (g2 (fun ρ=>rdB ρ 6) (fun _=>.ok .none) (isD true)) (eqD false))))
def y0I:Rho->R Fl:=q0d (gAt 5 (q2R 6 (gFn 3 q6U (J.q01 (fun ρ=>rdS ρ 1) (J.q01 (fun ρ=>rdS ρ 3) (J.q01 (fun ρ=>rdS ρ 5) J.q0e)))))) (q0d (q2l (x1n (asB (g2 (fun ρ=>rdB ρ 5) (q39 J.q0e .list) (eqD false))) (asB (g2 (fun ρ=>rdB ρ 6) (fun ρ=>rdB ρ 3) (eqD true)))) (q1k (fun _=>.ok (.bool false))) (fun ρ=>.ok (.nx ρ))) (q0d (q2R 7 (fun _=>.ok (.bool false))) y0H))
theorem x2B:x47=q0d (w9f (gFn 3 q3b (J.q01 (fun ρ=>rdS ρ 0) (J.q01 (fun _=>.ok (.int 5)) (J.q01 (fun _=>.ok (.int 6)) J.q0e)))) (q6P 3 (q0D (q0q 1) (q0D (q0q 2) (q0D (q0q 3) q84))))) (q0d (q2A 4 (q1T 1 [] (gIt (g2 (fun ρ=>rdB ρ 1) (fun _=>.ok (.int 1)) q0f)) (fun _=>.ok true) (g2 (fun ρ=>rdB ρ 0) (fun _=>.ok (.int 0)) q0f))) (q0d (q2R 5 (gFn 5 q3c (J.q01 (fun ρ=>rdS ρ 0) (J.q01 (fun _=>.ok (.int 300)) (J.q01 (fun ρ=>rdS ρ 1) (J.q01 (fun ρ=>rdS ρ 2) (J.q01 (gFn 3 q07 (J.q01 (fun ρ=>rdS ρ 0) (J.q01 (fun _=>.ok (.int 0)) (J.q01 (fun _=>.ok (.int 5)) J.q0e)))) J.q0e))))))) (q0d (q2l (x1n (asB (g2 (fun ρ=>rdB ρ 4) (q39 J.q0e .list) (eqD true))) (asB (g2 (gFn 3 q07 (J.q01 (fun ρ=>rdS ρ 0) (J.q01 (fun _=>.ok (.int 1)) (J.q01 (fun _=>.ok (.int 3)) J.q0e)))) (fun _=>.ok (.int 0)) (eqD false)))) (q2A 5 (q1T 1 [4,0] (w1D (J.q01 (gFn 3 q07 (J.q01 (fun ρ=>rdS ρ 0) (J.q01 (fun _=>.ok (.int 10)) (J.q01 (fun _=>.ok (.int 4)) J.q0e)))) J.q0e)) (fun _=>.ok true) (g2 (fun ρ=>rdB ρ 1) (gFn 3 q07 (J.q01 (fun ρ=>rdS ρ 2) (J.q01 (g2 (fun _=>.ok (.int 2)) (fun ρ=>rdB ρ 0) q2v) (J.q01 (q0O (J.q01 (fun ρ=>rdB ρ 1) J.q0e) (on1 q83)) J.q0e)))) q0f))) (fun ρ=>.ok (.nx ρ))) y0I))):=rfl
theorem x2C (a:Bool):eqD true (.bool a) (.bool a)=.ok (.bool false):=by cases a<;>rfl
theorem x9u (a:Bool):eqD false (.bool a) (.bool a)=.ok (.bool true):=by cases a<;>rfl
theorem x7h {fs ss m b:List Str}{es rs:List ErZ} (g:q2r fs es) (h:Row es rs) (hw:q5y fs m b) (S N:D):y0H [.shr S,.shr (q2Z fs es),.shr (q0l ss),.shr (q3t m b),.own N,.shr (q5l rs),.shr (x2y (q4c rs (m,b))),.shr (.bool false),.no,.no]=.ok (.rt (.bool true)):=by
 have l0:=g.rise.len
 unfold y0H
 walk_at "zz"
 rw [q85 (ds:=(x76 fs).map q0l)]
 ·refine w1W (fun x:List Str=>q0l x) (fun (a:Bool) x=>a || q2s x m b rs) (fun q0I a ρ=>(∀ x∈q0I,x∈x76 fs)/\∃ y z,ρ=[.shr S,.shr (q2Z fs es),.shr (q0l ss),.shr (q3t m b),.own N,.shr (q5l rs),.shr (x2y (q4c rs (m,b))),.shr (.bool a),y,z]) false ?_ ⟨fun _ h=>h,_,_,rfl⟩ ?_
  ·rintro x q0I a ρ ⟨hx,y,z,rfl⟩
   have sx:=x7g g.rise.up (hx x List.mem_cons_self)
   refine ⟨[.shr S,.shr (q2Z fs es),.shr (q0l ss),.shr (q3t m b),.own N,.shr (q5l rs),.shr (x2y (q4c rs (m,b))),.shr (.bool a),.shr (q0l x),z],[.shr S,.shr (q2Z fs es),.shr (q0l ss),.shr (q3t m b),.own N,.shr (q5l rs),.shr (x2y (q4c rs (m,b))),.shr (.bool (a || q2s x m b rs)),.shr (q0l x),.shr (.bool (q2s x m b rs))],rfl,?_,fun w hw=>hx w (List.mem_cons_of_mem _ hw),_,_,rfl⟩
   rw [w1P]
   simp only [gAt]
   rw [show ∀ p q r s:Sl,shareAt 5 [.shr S,.shr (q2Z fs es),.shr (q0l ss),.shr (q3t m b),.own N,.shr (q5l rs),p,q,r,s]=[.shr S,.shr (q2Z fs es),.shr (q0l ss),.shr (q3t m b),.own N,.shr (q5l rs),p,q,r,s] from fun _ _ _ _=>rfl]
   walk_at "zz"
   rw [x7f g h sx hw]
   walk_at "zz"
   rw [show (bif a then R.ok (PyData.bool true) else R.ok (PyData.bool (q2s x m b rs)))=R.ok (PyData.bool (a || q2s x m b rs)) by cases a<;>rfl]
   walk_at "zz"
   rw [x2x g h sx hw]
   walk_at "zz"
   rw [x2C]
   walk_at "zz"
   rw [w8S]
   have ha:=q8u (m:=m) (b:=b) g rs x h.mem
   cases hq:q4c rs (m,b) with
   | none =>
    rw [hq] at ha
    simp only at ha
    rw [ha,Option.isSome_none]
    walk_at "zz"
    rw [x2C]
    walk_at "zz"
   | some w =>
    have gw:=q9c g hw h.mem hq
    have k1:=q13 gw.must g.rise.len
    have k2:=q13 gw.bars g.rise.len
    rw [hq] at ha
    simp only at ha
    rw [ha,Option.isSome_some]
    walk_at "zz"
    rw [show x2y (some w)=q3t w.1 w.2 from rfl]
    rw [w5Q (by omega) (by omega)]
    walk_at "zz"
    rw [x2C]
    walk_at "zz"
  ·rintro ρ' ⟨_,y,z,rfl⟩
   rw [w8R,Bool.false_or,x4x g h.mem hw]
   walk_at "zz"
   rw [w8S]
   walk_at "zz"
   rw [x9u]
   walk_at "zz"
 ·walk_at "zz"
  rw [x7u]
  walk_at "zz"
  rw [x9q l0]
  walk_at "zz"
theorem x7i {fs ss m b:List Str}{es rs:List ErZ} (g:q2r fs es) (h:Row es rs) (hw:q5y fs m b) (S N:D) (o:Sl) (ho:o=.shr (q5l rs)\/o=.own (q5l rs)):y0I [.shr S,.shr (q2Z fs es),.shr (q0l ss),.shr (q3t m b),.own N,o,.no,.no,.no,.no]=.ok (.rt (.bool true)):=by
 have ok:∀ {xs:List Str},Sub fs xs->∀ x∈xs,okW x=true:=fun hs x hx=>g.rise.ok x (hs.mem x hx)
 have lay:PyData.canLayAll0 (rs.map fun e=>PyData.str e.name)=true:=q8s _ rs fun e he=>q6Z (g.ok e (h.mem e he)).name
 have hsh:shareAt 5 [.shr S,.shr (q2Z fs es),.shr (q0l ss),.shr (q3t m b),.own N,o,.no,.no,.no,.no]=[.shr S,.shr (q2Z fs es),.shr (q0l ss),.shr (q3t m b),.own N,.shr (q5l rs),.no,.no,.no,.no]:=by rcases ho with h | h<;>subst h<;>rfl
 have hu:=x7h (ss:=ss) g h hw S N
 unfold y0I
 rw [w1P]
 simp only [gAt]
 rw [hsh]
 walk_at "zz"
 rw [x4u g h hw]
 walk_at "zz"
 rw [w5U _ lay]
 walk_at "zz"
 cases rs with
 | nil =>
  rw [show x2y (q4c [] (m,b))=q3t m b from rfl] at *
  walk_at "zz"
  rw [x2A (ok hw.must) (ok hw.bars)]
  walk_at "zz"
  exact hu
 | cons e r =>
  rw [decide_eq_false (by simp)]
  walk_at "zz"
  exact hu
theorem w47 {es:List ErZ}:∀ (xs:List Nat) (f:Nat->D),(∀ i∈xs,∃ e∈es,f i=.str e.name)->∃ rs:List ErZ,(∀ e∈rs,e∈es)/\rs.length=xs.length/\xs.map f=rs.map fun e=>PyData.str e.name
 | [],_,_=>⟨[],fun _ h=>(nomatch h),rfl,rfl⟩
 | x::r,f,h=>by
  obtain ⟨e,e1,e2⟩:=h x List.mem_cons_self
  obtain ⟨rs,h1,h2,h3⟩:=w47 r f fun i hi=>h i (List.mem_cons_of_mem _ hi)
  refine ⟨e::rs,fun y hy=>?_,by simp [h2],by rw [List.map_cons,List.map_cons,e2,h3]⟩
  rcases List.mem_cons.mp hy with h | h
  ·rw [h];exact e1
  ·exact h1 y h
theorem x7j {L:List ErZ}{j:Int} (h0:0<=j) (h1:j<(L.length:Nat)):∃ e∈L,q0f (.list (L.map fun e=>PyData.str e.name)) (.int j)=.ok (.str e.name):=by
 obtain ⟨n,rfl⟩:=Int.eq_ofNat_of_zero_le h0
 have hn:n<L.length:=by omega
 refine ⟨L[n],List.getElem_mem hn,q8D ?_⟩
 rw [List.getElem?_map,List.getElem?_eq_getElem hn]
 rfl
theorem x7k (a b:Int):eqD false (.int a) (.int b)=.ok (.bool (decide (a=b))):=q4N false a b
theorem law_true (ns:List Int):x25 [.list (ns.map .int)]=.ok (.bool true):=by
 obtain ⟨fs,es,ss,wm,wb,hc,gb,gs,gw⟩:=x75 ns 5 6 (by decide) (by decide) (by decide) (by decide)
 have lg:=gb.len
 have m0:=q19 ns 0 5 (by decide)
 have m1:=q1r ns 0 5 (by decide)
 obtain ⟨rs,r1,r2⟩:=x7c gb ns 300 (q2D ns 0 5) (by decide) m0 (by omega) gs
 have lay:PyData.canLayAll0 (es.map fun e=>PyData.str e.name)=true:=q8s _ es fun e he=>q6Z (gb.ok e he).name
 unfold x25
 refine q0F ?_
 rw [x2B]
 unfold q0r
 walk_at "zz"
 rw [hc]
 walk_at "zz"
 rw [y22]
 walk_at "zz"
 rw [x9I]
 walk_at "zz"
 rw [if_pos (by omega)]
 rw [q0L _ q14 (fun e=>PyData.str e.name) es fun e he=>q1h rfl (by
  walk_at "zz"
  rw [x9n])]
 walk_at "zz"
 rw [q1i ns 0 5 (by decide) (by decide)]
 walk_at "zz"
 rw [r2]
 walk_at "zz"
 rw [x7a _ lay]
 walk_at "zz"
 have fin:=fun (rs:List ErZ) (r1:Row es rs) (o:Sl) (ho:o=.shr (q5l rs)\/o=.own (q5l rs))=>x7i (ss:=ss) gb r1 gw (.list (ns.map .int)) (.list (es.map fun e=>PyData.str e.name)) o ho
 by_cases he:es=[]
 ·rw [decide_eq_true (by rw [he];rfl)]
  walk_at "zz"
  exact fin rs r1 _ (.inl rfl)
 ·have hp:0<es.length:=List.length_pos_iff.mpr he
  rw [decide_eq_false (by simpa using he)]
  walk_at "zz"
  rw [q1i ns 1 3 (by decide) (by decide)]
  walk_at "zz"
  rw [x7k]
  walk_at "zz"
  cases decide (q2D ns 1 3=0) with
  | false =>
   walk_at "zz"
   exact fin rs r1 _ (.inl rfl)
  | true =>
   walk_at "zz"
   rw [q1i ns 10 4 (by decide) (by decide)]
   walk_at "zz"
   have q0:=q19 ns 10 4 (by decide)
   have q1:=q1r ns 10 4 (by decide)
   have hr:=q92 (q2D ns 10 4).toNat (by omega)
   rw [Int.toNat_of_nonneg q0] at hr
   rw [hr]
   walk_at "zz"
   rw [if_pos (by rw [List.length_range];omega)]
   have hn:∀ i:Nat,∃ e∈es,q0f (.list (es.map fun e=>PyData.str e.name)) (.int (q2D ns (2 + i) (es.length:Nat)))=.ok (.str e.name):=fun i=>x7j (q19 ns _ _ (by omega)) (q1r ns _ _ (by omega))
   let f:Nat->D:=fun i=>.str (Classical.choose (hn i)).name
   have hf:∀ i:Nat,q0f (.list (es.map fun e=>PyData.str e.name)) (.int (q2D ns (2 + i) (es.length:Nat)))=.ok (f i):=fun i=>(Classical.choose_spec (hn i)).2
   obtain ⟨qs,k1,k2,k3⟩:=w47 (es:=es) (List.range (q2D ns 10 4).toNat) f fun i _=>⟨Classical.choose (hn i),(Classical.choose_spec (hn i)).1,rfl⟩
   rw [q0L _ (fun (i:Nat)=>PyData.int (i:Int)) f (List.range (q2D ns 10 4).toNat) fun i _=>q1h rfl (by
    walk_at "zz"
    rw [q1i ns (2 + i) (es.length:Nat) (by omega) (by omega)]
    walk_at "zz"
    rw [hf])]
   walk_at "zz"
   rw [k3]
   exact fin qs ⟨k1,by rw [k2,List.length_range];omega⟩ _ (.inr rfl)
end Z
end
section
namespace Z
open PySem L2 J
def top (i:Nat):Stmt:=PySem.Challenge.pw_errands_k06_whole_asked.main.body.getD i (.Pass ⟨0,0,0,0⟩)
section
variable {P:Program}{w:World}{K:PySem.W.Frag}{mg:Str->Option Value}{base:Heap}{cls:Str->Addr}
abbrev q1l:Stmt:=top 11
theorem w26:q0n ["one","other"] ["one","other"] (q02 q1l):=⟨rfl,rfl,rfl,by decide +kernel,rfl,by decide +kernel,by decide +kernel⟩
theorem w27 {f:Addr}{fd:FuncData} (F:Fun K "share_none" "share_none" q1l f fd) (hm:mg "share_none"=some (.ref f)) (hb:q0Y K fd ["one","other"] []) (B:Bi mg):Fn P w K mg base cls "share_none" 1 2 q0p:=by
 refine q1g (k:=0) (g:=q2U) F w26 hm hb fun cdv A outer s H E hr=>?_
 have hx:q0z (CXR P w) (q1X (CXR P w) P w K mg base ["one","other"] "share_none" (q02 q1l) f cdv A outer s H E) E:=q0c fun _ _ h=>h
 have hu1:=q1c hr
 have hu64:=hr.units
 unfold q2U
 exact (q09 (q0k (x1o (q0u (x55 rfl) rfl B.any PyProof.Rows.boot_any (q0i (JE.bor (JN.je (q1E (N':=["fact","other"]) (ix:=[1]) 1 (by decide) rfl (q0s (so:=q02 q1l) (N:=["one","other"]) (by decide +kernel)) (q1I (q04 0)) (fun cl A0 s0 H0 ex pn=>⟨q0G (i:=0) (by show (["fact","other"] : List Str).Nodup;decide +kernel) rfl (.inl rfl),q1f,(q4r (x1u) (q04 0) (q04 1))⟩)))) q0y)))))
abbrev q2V:Stmt:=top 12
theorem w9r:q0n ["facts","others"] ["facts","others"] (q02 q2V):=⟨rfl,rfl,rfl,by decide +kernel,rfl,by decide +kernel,by decide +kernel⟩
theorem w9s {f:Addr}{fd:FuncData} (F:Fun K "without" "without" q2V f fd) (hm:mg "without"=some (.ref f)) (hb:q0Y K fd ["facts","others"] []) (B:Bi mg):Fn P w K mg base cls "without" 1 2 q2m:=by
 refine q1g (k:=0) (g:=q6h) F w9r hm hb fun cdv A outer s H E hr=>?_
 have hx:q0z (CXR P w) (q1X (CXR P w) P w K mg base ["facts","others"] "without" (q02 q2V) f cdv A outer s H E) E:=q0c fun _ _ h=>h
 have hu1:=q1c hr
 have hu64:=hr.units
 unfold q6h
 exact (q09 (q0k (q1e (q2P rfl) rfl B.tuple PyProof.Rows.boot_tuple (q0i (JE.bor (JN.je (q1E (N':=["fact","others"]) (ix:=[1]) 1 (by decide) rfl (q0s (so:=q02 q2V) (N:=["facts","others"]) (by decide +kernel)) (q1I (q04 0)) (fun cl A0 s0 H0 ex pn=>⟨q0G (i:=0) (by show (["fact","others"] : List Str).Nodup;decide +kernel) rfl (.inl rfl),(q6Q (q0V (w1B) (q04 0) (q04 1))),(q03 0)⟩)))) q0y))))
abbrev q4d:Stmt:=top 13
theorem x2D:q0n ["one","other"] ["one","other"] (q02 q4d):=⟨rfl,rfl,rfl,by decide +kernel,rfl,by decide +kernel,by decide +kernel⟩
theorem x2E {f:Addr}{fd:FuncData} (F:Fun K "joined" "joined" q4d f fd) (hm:mg "joined"=some (.ref f)) (hb:q0Y K fd ["one","other"] []) (B:Bi mg):Fn P w K mg base cls "joined" 1 2 q3y:=by
 refine q1g (k:=0) (g:=q8o) F x2D hm hb fun cdv A outer s H E hr=>?_
 have hx:q0z (CXR P w) (q1X (CXR P w) P w K mg base ["one","other"] "joined" (q02 q4d) f cdv A outer s H E) E:=q0c fun _ _ h=>h
 have hu1:=q1c hr
 have hu64:=hr.units
 unfold q8o
 exact (q09 (q0k (q1e (q2P rfl) rfl B.tuple PyProof.Rows.boot_tuple (q0i (JE.bor (q6R rfl (x91 (w8g rfl (q04 0) rfl B.set) (w8g rfl (q04 1) rfl B.set)) rfl B.sorted)) q0y))))
abbrev q2W:Stmt:=top 14
theorem w9t:q0n ["thing"] ["thing"] (q02 q2W):=⟨rfl,rfl,rfl,by decide +kernel,rfl,by decide +kernel,by decide +kernel⟩
theorem w9u {f:Addr}{fd:FuncData} (F:Fun K "is_word" "is_word" q2W f fd) (hm:mg "is_word"=some (.ref f)) (hb:q0Y K fd ["thing"] []) (B:Bi mg) (q3J:∃ t,mg "MOST_LETTERS"=some (.int 6 t)):Fn P w K mg base cls "is_word" 1 1 q3g:=by
 refine q1g (k:=0) (g:=q6i) F w9t hm hb fun cdv A outer s H E hr=>?_
 have hx:q0z (CXR P w) (q1X (CXR P w) P w K mg base ["thing"] "is_word" (q02 q2W) f cdv A outer s H E) E:=q0c fun _ _ h=>h
 have hu1:=q1c hr
 have hu64:=hr.units
 unfold q6i
 exact (q05 (q1H (JW.t (q82 (q1y (q1x (q4F (q04 0) rfl B.isinstance rfl B.str PyProof.Rows.boot_str (by decide)))) (q4s (q1y (x3R (w9d) (w9d) (JE.bor q08) (JE.bor (q0u q2x rfl B.len PySem.boot_len (q0i (q04 0) q0y))) (JE.bor (q6b rfl q3J))))))) (q09 (q0k q5j)) q0B) (q09 (q0k (q0u (q6e rfl) rfl B.all PyProof.Rows.boot_all (q0i (JE.bor (JN.je (q1E (N':=["sign"]) (ix:=[]) 1 (by decide) rfl (q0s (so:=q02 q2W) (N:=["thing"]) (by decide +kernel)) (q1I (q04 0)) (fun cl A0 s0 H0 ex pn=>⟨q0G (i:=0) (by show (["sign"] : List Str).Nodup;decide +kernel) rfl (.inl rfl),q1f,(w8f (w9d) (w9d) (JE.bor q8Q) (q04 0) (JE.bor q8Q))⟩)))) q0y)))))
abbrev q0w:Stmt:=top 15
theorem q5B:q0n ["thing"] ["thing"] (q02 q0w):=⟨rfl,rfl,rfl,by decide +kernel,rfl,by decide +kernel,by decide +kernel⟩
theorem q5C {f:Addr}{fd:FuncData} (F:Fun K "are_rising_words" "are_rising_words" q0w f fd) (hm:mg "are_rising_words"=some (.ref f)) (hb:q0Y K fd ["thing"] []) (B:Bi mg) (q3Z:Fn P w K mg base cls "is_word" 1 1 q3g):Fn P w K mg base cls "are_rising_words" 2 1 q0H:=by
 refine q1g (k:=1) (g:=q1F) F q5B hm hb fun cdv A outer s H E hr=>?_
 have hx:q0z (CXR P w) (q1X (CXR P w) P w K mg base ["thing"] "are_rising_words" (q02 q0w) f cdv A outer s H E) E:=q0c fun _ _ h=>h
 have hu1:=q1c hr
 have hu64:=hr.units
 unfold q1F
 exact (q05 (q1H (JW.t (q82 (q1y (q1x (q4F (q04 0) rfl B.isinstance rfl B.tuple PyProof.Rows.boot_tuple (by decide)))) (q4s (q1y (q1x (q0u (q6e rfl) rfl B.all PyProof.Rows.boot_all (q0i (JE.bor (JN.je (q1E (N':=["word"]) (ix:=[]) 1 (by decide) rfl (q0s (so:=q02 q0w) (N:=["thing"]) (by decide +kernel)) (q1I (q04 0)) (fun cl A0 s0 H0 ex pn=>⟨q0G (i:=0) (by show (["word"] : List Str).Nodup;decide +kernel) rfl (.inl rfl),q1f,(q0a q3Z (hr.mono (by decide)) rfl q0Z (q00 (q03 0) q06))⟩)))) q0y))))))) (q09 (q0k q5j)) q0B) (q09 (q0k (q0u (q6e rfl) rfl B.all PyProof.Rows.boot_all (q0i (JE.bor (JN.je (q1E (N':=["low","high"]) (ix:=[]) 2 (by decide) rfl (q0s (so:=q02 q0w) (N:=["thing"]) (by decide +kernel)) (JIs.i (x6K rfl B.zip (q00 (q03 0) (q00 (q53 (q04 0) (q4E q08) w1C) q06)))) (fun cl A0 s0 H0 ex pn=>⟨x0O rfl (q60 (q0G (i:=0) (by show (["low","high"] : List Str).Nodup;decide +kernel) rfl (.inl rfl)) (q60 (q0G (i:=1) (by show (["low","high"] : List Str).Nodup;decide +kernel) rfl (.inl rfl)) w5p)),q1f,(q4r (w9c) (q04 0) (q04 1))⟩)))) q0y)))))
abbrev q1O:Stmt:=top 16
theorem w48:q0n ["book_facts","thing"] ["book_facts","thing"] (q02 q1O):=⟨rfl,rfl,rfl,by decide +kernel,rfl,by decide +kernel,by decide +kernel⟩
theorem w49 {f:Addr}{fd:FuncData} (F:Fun K "are_facts" "are_facts" q1O f fd) (hm:mg "are_facts"=some (.ref f)) (hb:q0Y K fd ["book_facts","thing"] []) (B:Bi mg) (q0R:Fn P w K mg base cls "are_rising_words" 2 1 q0H):Fn P w K mg base cls "are_facts" 3 2 q0N:=by
 refine q1g (k:=2) (g:=q45) F w48 hm hb fun cdv A outer s H E hr=>?_
 have hx:q0z (CXR P w) (q1X (CXR P w) P w K mg base ["book_facts","thing"] "are_facts" (q02 q1O) f cdv A outer s H E) E:=q0c fun _ _ h=>h
 have hu1:=q1c hr
 have hu64:=hr.units
 unfold q45
 exact (q09 (q0k (q6d (q0a q0R (hr.mono (by decide)) rfl hx (q00 (q03 1) q06)) (q6c (q0u (q6e rfl) rfl B.all PyProof.Rows.boot_all (q0i (JE.bor (JN.je (q1E (N':=["fact","book_facts"]) (ix:=[0]) 1 (by decide) rfl (q0s (so:=q02 q1O) (N:=["book_facts","thing"]) (by decide +kernel)) (q1I (q04 1)) (fun cl A0 s0 H0 ex pn=>⟨q0G (i:=0) (by show (["fact","book_facts"] : List Str).Nodup;decide +kernel) rfl (.inl rfl),q1f,(q4r (x1u) (q04 0) (q04 1))⟩)))) q0y))))))
abbrev q2F:Stmt:=top 17
theorem w5V:q0n ["thing","least","most"] ["thing","least","most"] (q02 q2F):=⟨rfl,rfl,rfl,by decide +kernel,rfl,by decide +kernel,by decide +kernel⟩
theorem w5W {f:Addr}{fd:FuncData} (F:Fun K "is_whole" "is_whole" q2F f fd) (hm:mg "is_whole"=some (.ref f)) (hb:q0Y K fd ["thing","least","most"] []) (B:Bi mg):Fn P w K mg base cls "is_whole" 1 3 q3S:=by
 refine q1g (k:=0) (g:=q55) F w5V hm hb fun cdv A outer s H E hr=>?_
 have hx:q0z (CXR P w) (q1X (CXR P w) P w K mg base ["thing","least","most"] "is_whole" (q02 q2F) f cdv A outer s H E) E:=q0c fun _ _ h=>h
 have hu1:=q1c hr
 have hu64:=hr.units
 unfold q55
 exact (q05 (q1H (JW.t (q82 (q1y (q1x (q4F (q04 0) rfl B.isinstance rfl B.int PyProof.Rows.boot_int (by decide)))) (q4s (q1x (q4F (q04 0) rfl B.isinstance rfl B.bool PyProof.Rows.boot_bool (by decide)))))) (q09 (q0k q5j)) q0B) (q09 (q0k (w8f (w9d) (w9d) (q04 1) (q04 0) (q04 2)))))
abbrev q1P:Stmt:=top 18
theorem q1Q:q0n ["book_facts","thing","name","needs","bars","makes","ends","price"] ["book_facts","thing"] (q02 q1P):=⟨rfl,rfl,rfl,by decide +kernel,rfl,by decide +kernel,by decide +kernel⟩
theorem w4a {f:Addr}{fd:FuncData} (F:Fun K "is_errand" "is_errand" q1P f fd) (hm:mg "is_errand"=some (.ref f)) (hb:q0Y K fd ["book_facts","thing"] []) (B:Bi mg) (q3Z:Fn P w K mg base cls "is_word" 1 1 q3g) (q73:Fn P w K mg base cls "is_whole" 1 3 q3S) (q1a:Fn P w K mg base cls "are_facts" 3 2 q0N) (q0A:Fn P w K mg base cls "share_none" 1 2 q0p) (q4O:∃ t,mg "MOST_PRICE"=some (.int 9 t)):Fn P w K mg base cls "is_errand" 4 2 q3h:=by
 refine q1g (k:=3) (g:=q46) F q1Q hm hb fun cdv A outer s H E hr=>?_
 have hx:q0z (CXR P w) (q1X (CXR P w) P w K mg base ["book_facts","thing","name","needs","bars","makes","ends","price"] "is_errand" (q02 q1P) f cdv A outer s H E) E:=q0c fun _ _ h=>h
 have hu1:=q1c hr
 have hu64:=hr.units
 unfold q46
 exact (q05 (q1H (JW.t (q82 (q1y (q1x (q4F (q04 1) rfl B.isinstance rfl B.tuple PyProof.Rows.boot_tuple (by decide)))) (q4s (q0V (w1A hu64) (JE.bor (q0u q2x rfl B.len PySem.boot_len (q0i (q04 1) q0y))) (JE.bor q08))))) (q09 (q0k q5j)) q0B) (q05 (q8T (q03 1) (q5o rfl (q0C (q0x 2 q1Q.nd) (q0C (q0x 3 q1Q.nd) (q0C (q0x 4 q1Q.nd) (q0C (q0x 5 q1Q.nd) (q0C (q0x 6 q1Q.nd) (q0C (q0x 7 q1Q.nd) q3E)))))))) (q05 (q1H (JW.t (q82 (q1y (q1x (q0a q3Z (hr.mono (by decide)) rfl hx (q00 (q03 2) q06)))) (q4s (q1y (q1x (q0a q73 (hr.mono (by decide)) rfl hx (q00 (q03 7) (q00 q08 (q00 (q6b rfl q4O) q06))))))))) (q09 (q0k q5j)) q0B) (q05 (q1H (q1y (q1x (q0u (q6e rfl) rfl B.all PyProof.Rows.boot_all (q0i (JE.bor (JN.je (q1E (N':=["facts","book_facts"]) (ix:=[0]) 1 (by decide) rfl (q0s (so:=q02 q1P) (N:=["book_facts","thing","name","needs","bars","makes","ends","price"]) (by decide +kernel)) (q1I (JE.bor (q3P (q00 (q03 3) (q00 (q03 4) (q00 (q03 5) (q00 (q03 6) q06))))))) (fun cl A0 s0 H0 ex pn=>⟨q0G (i:=0) (by show (["facts","book_facts"] : List Str).Nodup;decide +kernel) rfl (.inl rfl),q1f,(q0a q1a (hr.mono (by decide)) rfl q0Z (q00 (q03 1) (q00 (q03 0) q06)))⟩)))) q0y)))) (q09 (q0k q5j)) q0B) (q09 (q0k (q6d (q0a q0A (hr.mono (by decide)) rfl hx (q00 (q03 3) (q00 (q03 4) q06))) (q6c (q0a q0A (hr.mono (by decide)) rfl hx (q00 (q03 5) (q00 (q03 6) q06)))))))))))
abbrev q2t:Stmt:=top 19
theorem q74:q0n ["thing","facts","errands"] ["thing"] (q02 q2t):=⟨rfl,rfl,rfl,by decide +kernel,rfl,by decide +kernel,by decide +kernel⟩
theorem w9v {f:Addr}{fd:FuncData} (F:Fun K "is_book" "is_book" q2t f fd) (hm:mg "is_book"=some (.ref f)) (hb:q0Y K fd ["thing"] []) (B:Bi mg) (q0R:Fn P w K mg base cls "are_rising_words" 2 1 q0H) (q5D:Fn P w K mg base cls "is_errand" 4 2 q3h) (q4P:∃ t,mg "MOST_FACTS"=some (.int 6 t)) (q3K:∃ t,mg "MOST_ERRANDS"=some (.int 6 t)):Fn P w K mg base cls "is_book" 5 1 q4K:=by
 refine q1g (k:=4) (g:=q6j) F q74 hm hb fun cdv A outer s H E hr=>?_
 have hx:q0z (CXR P w) (q1X (CXR P w) P w K mg base ["thing","facts","errands"] "is_book" (q02 q2t) f cdv A outer s H E) E:=q0c fun _ _ h=>h
 have hu1:=q1c hr
 have hu64:=hr.units
 unfold q6j
 exact (q05 (q1H (JW.t (q82 (q1y (q1x (q4F (q04 0) rfl B.isinstance rfl B.tuple PyProof.Rows.boot_tuple (by decide)))) (q4s (q0V (w1A hu64) (JE.bor (q0u q2x rfl B.len PySem.boot_len (q0i (q04 0) q0y))) (JE.bor q08))))) (q09 (q0k q5j)) q0B) (q05 (q8T (q03 0) (q5o rfl (q0C (q0x 1 q74.nd) (q0C (q0x 2 q74.nd) q3E)))) (q05 (q1H (JW.t (q82 (q1y (q1x (q0a q0R (hr.mono (by decide)) rfl hx (q00 (q03 1) q06)))) (q4s (q0V (x3O) (JE.bor (q0u q2x rfl B.len PySem.boot_len (q0i (q04 1) q0y))) (JE.bor (q6b rfl q4P)))))) (q09 (q0k q5j)) q0B) (q05 (q1H (JW.t (q82 (q1y (q1x (q4F (q04 2) rfl B.isinstance rfl B.tuple PyProof.Rows.boot_tuple (by decide)))) (q4s (q0V (x3O) (JE.bor (q0u q2x rfl B.len PySem.boot_len (q0i (q04 2) q0y))) (JE.bor (q6b rfl q3K)))))) (q09 (q0k q5j)) q0B) (q05 (q1H (q1y (q1x (q0u (q6e rfl) rfl B.all PyProof.Rows.boot_all (q0i (JE.bor (JN.je (q1E (N':=["errand","facts"]) (ix:=[1]) 1 (by decide) rfl (q0s (so:=q02 q2t) (N:=["thing","facts","errands"]) (by decide +kernel)) (q1I (q04 2)) (fun cl A0 s0 H0 ex pn=>⟨q0G (i:=0) (by show (["errand","facts"] : List Str).Nodup;decide +kernel) rfl (.inl rfl),q1f,(q0a q5D (hr.mono (by decide)) rfl q0Z (q00 (q03 1) (q00 (q03 0) q06)))⟩)))) q0y)))) (q09 (q0k q5j)) q0B) (q09 (q0k (q4r (q8S hu64) (JE.bor (x1H (x3T (N':=["errand"]) (ix:=[]) 1 (by decide) rfl (q0s (so:=q02 q2t) (N:=["thing","facts","errands"]) (by decide +kernel)) (q1I (q04 2)) (fun cl A0 s0 H0 ex pn=>⟨q0G (i:=0) (by show (["errand"] : List Str).Nodup;decide +kernel) rfl (.inl rfl),q1f,(q0v hu1 (q04 0) (JE.bor q08))⟩)) rfl B.len)) (JE.bor (q0u q2x rfl B.len PySem.boot_len (q0i (q04 2) q0y)))))))))))
abbrev q3o:Stmt:=top 20
theorem q75:q0n ["book","thing","must","bars"] ["book","thing"] (q02 q3o):=⟨rfl,rfl,rfl,by decide +kernel,rfl,by decide +kernel,by decide +kernel⟩
theorem w9w {f:Addr}{fd:FuncData} (F:Fun K "is_want" "is_want" q3o f fd) (hm:mg "is_want"=some (.ref f)) (hb:q0Y K fd ["book","thing"] []) (B:Bi mg) (q1a:Fn P w K mg base cls "are_facts" 3 2 q0N) (q0A:Fn P w K mg base cls "share_none" 1 2 q0p):Fn P w K mg base cls "is_want" 4 2 q4L:=by
 refine q1g (k:=3) (g:=q6k) F q75 hm hb fun cdv A outer s H E hr=>?_
 have hx:q0z (CXR P w) (q1X (CXR P w) P w K mg base ["book","thing","must","bars"] "is_want" (q02 q3o) f cdv A outer s H E) E:=q0c fun _ _ h=>h
 have hu1:=q1c hr
 have hu64:=hr.units
 unfold q6k
 exact (q05 (q1H (JW.t (q82 (q1y (q1x (q4F (q04 1) rfl B.isinstance rfl B.tuple PyProof.Rows.boot_tuple (by decide)))) (q4s (q0V (w1A hu64) (JE.bor (q0u q2x rfl B.len PySem.boot_len (q0i (q04 1) q0y))) (JE.bor q08))))) (q09 (q0k q5j)) q0B) (q05 (q8T (q03 1) (q5o rfl (q0C (q0x 2 q75.nd) (q0C (q0x 3 q75.nd) q3E)))) (q09 (q0k (q6d (q0a q1a (hr.mono (by decide)) rfl hx (q00 (q0v hu1 (q04 0) (JE.bor q08)) (q00 (q03 2) q06))) (q6d (q0a q1a (hr.mono (by decide)) rfl hx (q00 (q0v hu1 (q04 0) (JE.bor q08)) (q00 (q03 3) q06))) (q6c (q0a q0A (hr.mono (by decide)) rfl hx (q00 (q03 2) (q00 (q03 3) q06))))))))))
abbrev q1s:Stmt:=top 21
theorem w08:q0n ["book","state"] ["book","state"] (q02 q1s):=⟨rfl,rfl,rfl,by decide +kernel,rfl,by decide +kernel,by decide +kernel⟩
theorem w09 {f:Addr}{fd:FuncData} (F:Fun K "check_state" "check_state" q1s f fd) (hm:mg "check_state"=some (.ref f)) (hb:q0Y K fd ["book","state"] []) (B:Bi mg) (q1a:Fn P w K mg base cls "are_facts" 3 2 q0N) (q9d:Er mg base cls "NoState"):Fn P w K mg base cls "check_state" 4 2 q2n:=by
 refine q1g (k:=3) (g:=q35) F w08 hm hb fun cdv A outer s H E hr=>?_
 have hx:q0z (CXR P w) (q1X (CXR P w) P w K mg base ["book","state"] "check_state" (q02 q1s) f cdv A outer s H E) E:=q0c fun _ _ h=>h
 have hu1:=q1c hr
 have hu64:=hr.units
 unfold q35
 exact (q09 (q1H (q1y (q1x (q0a q1a (hr.mono (by decide)) rfl hx (q00 (q0v hu1 (q04 0) (JE.bor q08)) (q00 (q03 1) q06))))) (q09 (w1N q9d rfl (q00 q8Q q06))) q0B))
abbrev q1R:Stmt:=top 22
theorem w28:q0n ["book","want"] ["book","want"] (q02 q1R):=⟨rfl,rfl,rfl,by decide +kernel,rfl,by decide +kernel,by decide +kernel⟩
theorem w29 {f:Addr}{fd:FuncData} (F:Fun K "check_want" "check_want" q1R f fd) (hm:mg "check_want"=some (.ref f)) (hb:q0Y K fd ["book","want"] []) (B:Bi mg) (q9e:Fn P w K mg base cls "is_want" 4 2 q4L) (w2a:Er mg base cls "NoWant"):Fn P w K mg base cls "check_want" 5 2 q1J:=by
 refine q1g (k:=4) (g:=q3z) F w28 hm hb fun cdv A outer s H E hr=>?_
 have hx:q0z (CXR P w) (q1X (CXR P w) P w K mg base ["book","want"] "check_want" (q02 q1R) f cdv A outer s H E) E:=q0c fun _ _ h=>h
 have hu1:=q1c hr
 have hu64:=hr.units
 unfold q3z
 exact (q09 (q1H (q1y (q1x (q0a q9e (hr.mono (by decide)) rfl hx (q00 (q03 0) (q00 (q03 1) q06))))) (q09 (w1N w2a rfl (q00 q8Q q06))) q0B))
abbrev q11:Stmt:=top 23
theorem q4u:q0n ["book","name","errand"] ["book","name"] (q02 q11):=⟨rfl,rfl,rfl,by decide +kernel,rfl,by decide +kernel,by decide +kernel⟩
theorem q87 {f:Addr}{fd:FuncData} (F:Fun K "errand_called" "errand_called" q11 f fd) (hm:mg "errand_called"=some (.ref f)) (hb:q0Y K fd ["book","name"] []) (B:Bi mg):Fn P w K mg base cls "errand_called" 1 2 q10:=by
 refine q1g (k:=0) (g:=q2o) F q4u hm hb fun cdv A outer s H E hr=>?_
 have hx:q0z (CXR P w) (q1X (CXR P w) P w K mg base ["book","name","errand"] "errand_called" (q02 q11) f cdv A outer s H E) E:=q0c fun _ _ h=>h
 have hu1:=q1c hr
 have hu64:=hr.units
 unfold q2o
 exact (q05 (q1H (q1y (q1x (q4F (q04 1) rfl B.isinstance rfl B.str PyProof.Rows.boot_str (by decide)))) (q09 (q0k q4q)) q0B) (q05 (q4H rfl (w5G (q0v hu1 (q04 0) (JE.bor q08))) (q0x 2 q4u.nd) (q09 (q1H (q0V (q8S hu64) (JE.bor (q0v hu1 (q04 2) (JE.bor q08))) (q04 1)) (q09 (q0k (q03 2))) q0B))) (q09 (q0k q4q))))
abbrev q2X:Stmt:=top 24
theorem q76:q0n ["state","want","must","bars"] ["state","want"] (q02 q2X):=⟨rfl,rfl,rfl,by decide +kernel,rfl,by decide +kernel,by decide +kernel⟩
theorem w9x {f:Addr}{fd:FuncData} (F:Fun K "fulfils" "fulfils" q2X f fd) (hm:mg "fulfils"=some (.ref f)) (hb:q0Y K fd ["state","want"] []) (B:Bi mg) (q0A:Fn P w K mg base cls "share_none" 1 2 q0p):Fn P w K mg base cls "fulfils" 2 2 q3i:=by
 refine q1g (k:=1) (g:=q6l) F q76 hm hb fun cdv A outer s H E hr=>?_
 have hx:q0z (CXR P w) (q1X (CXR P w) P w K mg base ["state","want","must","bars"] "fulfils" (q02 q2X) f cdv A outer s H E) E:=q0c fun _ _ h=>h
 have hu1:=q1c hr
 have hu64:=hr.units
 unfold q6l
 exact (q05 (q8T (q03 1) (q5o rfl (q0C (q0x 2 q76.nd) (q0C (q0x 3 q76.nd) q3E)))) (q09 (q0k (q6d (q0u (q6e rfl) rfl B.all PyProof.Rows.boot_all (q0i (JE.bor (JN.je (q1E (N':=["fact","state"]) (ix:=[0]) 1 (by decide) rfl (q0s (so:=q02 q2X) (N:=["state","want","must","bars"]) (by decide +kernel)) (q1I (q04 2)) (fun cl A0 s0 H0 ex pn=>⟨q0G (i:=0) (by show (["fact","state"] : List Str).Nodup;decide +kernel) rfl (.inl rfl),q1f,(q4r (x1u) (q04 0) (q04 1))⟩)))) q0y)) (q6c (q0a q0A (hr.mono (by decide)) rfl hx (q00 (q03 3) (q00 (q03 0) q06))))))))
abbrev q23:Stmt:=top 25
theorem w4b:q0n ["errand","state"] ["errand","state"] (q02 q23):=⟨rfl,rfl,rfl,by decide +kernel,rfl,by decide +kernel,by decide +kernel⟩
theorem w4c {f:Addr}{fd:FuncData} (F:Fun K "is_doable" "is_doable" q23 f fd) (hm:mg "is_doable"=some (.ref f)) (hb:q0Y K fd ["errand","state"] []) (B:Bi mg) (q40:Fn P w K mg base cls "fulfils" 2 2 q3i):Fn P w K mg base cls "is_doable" 3 2 q1K:=by
 refine q1g (k:=2) (g:=q47) F w4b hm hb fun cdv A outer s H E hr=>?_
 have hx:q0z (CXR P w) (q1X (CXR P w) P w K mg base ["errand","state"] "is_doable" (q02 q23) f cdv A outer s H E) E:=q0c fun _ _ h=>h
 have hu1:=q1c hr
 have hu64:=hr.units
 unfold q47
 exact (q09 (q0k (q0a q40 (hr.mono (by decide)) rfl hx (q00 (q03 1) (q00 (q3P (q00 (q0v hu1 (q04 0) (JE.bor q08)) (q00 (q0v hu1 (q04 0) (JE.bor q08)) q06))) q06)))))
abbrev q1b:Stmt:=top 26
theorem q4Q:q0n ["errand","state","makes","ends"] ["errand","state"] (q02 q1b):=⟨rfl,rfl,rfl,by decide +kernel,rfl,by decide +kernel,by decide +kernel⟩
theorem q9f {f:Addr}{fd:FuncData} (F:Fun K "state_behind" "state_behind" q1b f fd) (hm:mg "state_behind"=some (.ref f)) (hb:q0Y K fd ["errand","state"] []) (B:Bi mg) (q3p:Fn P w K mg base cls "without" 1 2 q2m) (q4e:Fn P w K mg base cls "joined" 1 2 q3y):Fn P w K mg base cls "state_behind" 2 2 q0X:=by
 refine q1g (k:=1) (g:=q2Q) F q4Q hm hb fun cdv A outer s H E hr=>?_
 have hx:q0z (CXR P w) (q1X (CXR P w) P w K mg base ["errand","state","makes","ends"] "state_behind" (q02 q1b) f cdv A outer s H E) E:=q0c fun _ _ h=>h
 have hu1:=q1c hr
 have hu64:=hr.units
 unfold q2Q
 exact (q05 (x93 2 3 rfl q4Q.nd (q00 (q0v hu1 (q04 0) (JE.bor q08)) (q00 (q0v hu1 (q04 0) (JE.bor q08)) q06))) (q09 (q0k (q0a q4e (hr.mono (by decide)) rfl hx (q00 (q0a q3p (hr.mono (by decide)) rfl hx (q00 (q03 1) (q00 (q03 3) q06))) (q00 (q03 2) q06))))))
abbrev q3q:Stmt:=top 27
theorem w9y:q0n ["book"] ["book"] (q02 q3q):=⟨rfl,rfl,rfl,by decide +kernel,rfl,by decide +kernel,by decide +kernel⟩
theorem w9z {f:Addr}{fd:FuncData} (F:Fun K "checked" "checked" q3q f fd) (hm:mg "checked"=some (.ref f)) (hb:q0Y K fd ["book"] []) (B:Bi mg) (q9g:Fn P w K mg base cls "is_book" 5 1 q4K) (w2b:Er mg base cls "NoBook"):Fn P w K mg base cls "checked" 6 1 q3j:=by
 refine q1g (k:=5) (g:=q6m) F w9y hm hb fun cdv A outer s H E hr=>?_
 have hx:q0z (CXR P w) (q1X (CXR P w) P w K mg base ["book"] "checked" (q02 q3q) f cdv A outer s H E) E:=q0c fun _ _ h=>h
 have hu1:=q1c hr
 have hu64:=hr.units
 unfold q6m
 exact (q05 (q1H (q1y (q1x (q0a q9g (hr.mono (by decide)) rfl hx (q00 (q03 0) q06)))) (q09 (w1N w2b rfl (q00 q8Q q06))) q0B) (q09 (q0k (q03 0))))
abbrev q1t:Stmt:=top 28
theorem w0a:q0n ["book","state"] ["book","state"] (q02 q1t):=⟨rfl,rfl,rfl,by decide +kernel,rfl,by decide +kernel,by decide +kernel⟩
theorem w0b {f:Addr}{fd:FuncData} (F:Fun K "check_place" "check_place" q1t f fd) (hm:mg "check_place"=some (.ref f)) (hb:q0Y K fd ["book","state"] []) (B:Bi mg) (q41:Fn P w K mg base cls "checked" 6 1 q3j) (q4f:Fn P w K mg base cls "check_state" 4 2 q2n):Fn P w K mg base cls "check_place" 7 2 q2p:=by
 refine q1g (k:=6) (g:=q36) F w0a hm hb fun cdv A outer s H E hr=>?_
 have hx:q0z (CXR P w) (q1X (CXR P w) P w K mg base ["book","state"] "check_place" (q02 q1t) f cdv A outer s H E) E:=q0c fun _ _ h=>h
 have hu1:=q1c hr
 have hu64:=hr.units
 unfold q36
 exact (q05 (q5x (q0a q41 (hr.mono (by decide)) rfl hx (q00 (q03 0) q06))) (q09 (q5x (q0a q4f (hr.mono (by decide)) rfl hx (q00 (q03 0) (q00 (q03 1) q06))))))
abbrev q24:Stmt:=top 29
theorem w4d:q0n ["book","state","want"] ["book","state","want"] (q02 q24):=⟨rfl,rfl,rfl,by decide +kernel,rfl,by decide +kernel,by decide +kernel⟩
theorem w4e {f:Addr}{fd:FuncData} (F:Fun K "check_aim" "check_aim" q24 f fd) (hm:mg "check_aim"=some (.ref f)) (hb:q0Y K fd ["book","state","want"] []) (B:Bi mg) (q4g:Fn P w K mg base cls "check_place" 7 2 q2p) (q2c:Fn P w K mg base cls "check_want" 5 2 q1J):Fn P w K mg base cls "check_aim" 8 3 q3k:=by
 refine q1g (k:=7) (g:=q48) F w4d hm hb fun cdv A outer s H E hr=>?_
 have hx:q0z (CXR P w) (q1X (CXR P w) P w K mg base ["book","state","want"] "check_aim" (q02 q24) f cdv A outer s H E) E:=q0c fun _ _ h=>h
 have hu1:=q1c hr
 have hu64:=hr.units
 unfold q48
 exact (q05 (q5x (q0a q4g (hr.mono (by decide)) rfl hx (q00 (q03 0) (q00 (q03 1) q06)))) (q09 (q5x (q0a q2c (hr.mono (by decide)) rfl hx (q00 (q03 0) (q00 (q03 2) q06))))))
abbrev q3C:Stmt:=top 32
theorem x2F:q0n ["book","thing"] ["book","thing"] (q02 q3C):=⟨rfl,rfl,rfl,by decide +kernel,rfl,by decide +kernel,by decide +kernel⟩
theorem x2G {f:Addr}{fd:FuncData} (F:Fun K "is_row" "is_row" q3C f fd) (hm:mg "is_row"=some (.ref f)) (hb:q0Y K fd ["book","thing"] []) (B:Bi mg) (q1j:Fn P w K mg base cls "errand_called" 1 2 q10) (q4h:∃ t,mg "MOST_IN_ROW"=some (.int 64 t)):Fn P w K mg base cls "is_row" 2 2 q6n:=by
 refine q1g (k:=1) (g:=q8p) F x2F hm hb fun cdv A outer s H E hr=>?_
 have hx:q0z (CXR P w) (q1X (CXR P w) P w K mg base ["book","thing"] "is_row" (q02 q3C) f cdv A outer s H E) E:=q0c fun _ _ h=>h
 have hu1:=q1c hr
 have hu64:=hr.units
 unfold q8p
 exact (q05 (q1H (JW.t (q82 (q1y (q1x (q4F (q04 1) rfl B.isinstance rfl B.list PyProof.Rows.boot_list (by decide)))) (q4s (q0V (x3O) (JE.bor (q0u q2x rfl B.len PySem.boot_len (q0i (q04 1) q0y))) (JE.bor (q6b rfl q4h)))))) (q09 (q0k q5j)) q0B) (q09 (q0k (q0u (q6e rfl) rfl B.all PyProof.Rows.boot_all (q0i (JE.bor (JN.je (q1E (N':=["name","book"]) (ix:=[0]) 1 (by decide) rfl (q0s (so:=q02 q3C) (N:=["book","thing"]) (by decide +kernel)) (q1I (q04 1)) (fun cl A0 s0 H0 ex pn=>⟨q0G (i:=0) (by show (["name","book"] : List Str).Nodup;decide +kernel) rfl (.inl rfl),q1f,(q4r (q8m) (JE.bor (q0a q1j (hr.mono (by decide)) rfl q0Z (q00 (q03 1) (q00 (q03 0) q06)))) (JE.bor q4q))⟩)))) q0y)))))
abbrev q1m:Stmt:=top 33
theorem w2c:q0n ["book","row"] ["book","row"] (q02 q1m):=⟨rfl,rfl,rfl,by decide +kernel,rfl,by decide +kernel,by decide +kernel⟩
theorem w2d {f:Addr}{fd:FuncData} (F:Fun K "errands_of" "errands_of" q1m f fd) (hm:mg "errands_of"=some (.ref f)) (hb:q0Y K fd ["book","row"] []) (B:Bi mg) (w2e:Fn P w K mg base cls "is_row" 2 2 q6n) (q1j:Fn P w K mg base cls "errand_called" 1 2 q10):Fn P w K mg base cls "errands_of" 3 2 q1L:=by
 refine q1g (k:=2) (g:=q3A) F w2c hm hb fun cdv A outer s H E hr=>?_
 have hx:q0z (CXR P w) (q1X (CXR P w) P w K mg base ["book","row"] "errands_of" (q02 q1m) f cdv A outer s H E) E:=q0c fun _ _ h=>h
 have hu1:=q1c hr
 have hu64:=hr.units
 unfold q3A
 exact (q05 (q1H (q1y (q1x (q0a w2e (hr.mono (by decide)) rfl hx (q00 (q03 0) (q00 (q03 1) q06))))) (q09 x46) q0B) (q09 (q0k (JN.je (q1E (N':=["name","book"]) (ix:=[0]) 1 (by decide) rfl (q0s (so:=q02 q1m) (N:=["book","row"]) (by decide +kernel)) (q1I (q04 1)) (fun cl A0 s0 H0 ex pn=>⟨q0G (i:=0) (by show (["name","book"] : List Str).Nodup;decide +kernel) rfl (.inl rfl),q1f,(q0a q1j (hr.mono (by decide)) rfl q0Z (q00 (q03 1) (q00 (q03 0) q06)))⟩))))))
abbrev q0S:Stmt:=top 34
theorem q2G:q0n ["errands","state","states","errand"] ["errands","state"] (q02 q0S):=⟨rfl,rfl,rfl,by decide +kernel,rfl,by decide +kernel,by decide +kernel⟩
theorem q77 {f:Addr}{fd:FuncData} (F:Fun K "states_through" "states_through" q0S f fd) (hm:mg "states_through"=some (.ref f)) (hb:q0Y K fd ["errands","state"] []) (B:Bi mg) (q5E:Fn P w K mg base cls "is_doable" 3 2 q1K) (q3L:Fn P w K mg base cls "state_behind" 2 2 q0X):Fn P w K mg base cls "states_through" 4 2 q1z:=by
 refine q1g (k:=3) (g:=q21) F q2G hm hb fun cdv A outer s H E hr=>?_
 have hx:q0z (CXR P w) (q1X (CXR P w) P w K mg base ["errands","state","states","errand"] "states_through" (q02 q0S) f cdv A outer s H E) E:=q0c fun _ _ h=>h
 have hu1:=q1c hr
 have hu64:=hr.units
 unfold q21
 exact (q05 (q3G 2 (w0K (q00 (q03 1) q06)) q2G.nd) (q05 (x1D 0 rfl (q0x 3 q2G.nd) (q05 (q1H (q1y (q1x (q0a q5E (hr.mono (by decide)) rfl q0Z (q00 (q03 3) (q00 (q0v hu1 (q04 2) (JE.bor (w3E q08))) q06))))) (q09 (q0k (q03 2))) q0B) (q09 (q4I 2 (q0a q3L (hr.mono (by decide)) rfl q0Z (q00 (q03 3) (q00 (q0v hu1 (q04 2) (JE.bor (w3E q08))) q06))))))) (q09 (q0k (q03 2)))))
abbrev q2H:Stmt:=top 35
theorem q1u:q0n ["errand","want","needs","bars","makes","ends","must","barred","must_ahead","barred_ahead"] ["errand","want"] (q02 q2H):=⟨rfl,rfl,rfl,by decide +kernel,rfl,by decide +kernel,by decide +kernel⟩
theorem w5X {f:Addr}{fd:FuncData} (F:Fun K "asked_by" "asked_by" q2H f fd) (hm:mg "asked_by"=some (.ref f)) (hb:q0Y K fd ["errand","want"] []) (B:Bi mg) (q0A:Fn P w K mg base cls "share_none" 1 2 q0p) (q3p:Fn P w K mg base cls "without" 1 2 q2m) (q4e:Fn P w K mg base cls "joined" 1 2 q3y):Fn P w K mg base cls "asked_by" 2 2 q2C:=by
 refine q1g (k:=1) (g:=q56) F q1u hm hb fun cdv A outer s H E hr=>?_
 have hx:q0z (CXR P w) (q1X (CXR P w) P w K mg base ["errand","want","needs","bars","makes","ends","must","barred","must_ahead","barred_ahead"] "asked_by" (q02 q2H) f cdv A outer s H E) E:=q0c fun _ _ h=>h
 have hu1:=q1c hr
 have hu64:=hr.units
 unfold q56
 exact (q05 (q8T (q53 (q04 0) (q4E q08) (q4E q08)) (q5o rfl (q0C (q0x 2 q1u.nd) (q0C (q0x 3 q1u.nd) (q0C (q0x 4 q1u.nd) (q0C (q0x 5 q1u.nd) q3E)))))) (q05 (q8T (q03 1) (q5o rfl (q0C (q0x 6 q1u.nd) (q0C (q0x 7 q1u.nd) q3E)))) (q05 (q1H (JW.t (q82 (q1y (q1x (q0a q0A (hr.mono (by decide)) rfl hx (q00 (q03 4) (q00 (q03 7) q06))))) (q4s (q1y (q1x (q0a q0A (hr.mono (by decide)) rfl hx (q00 (q03 5) (q00 (q03 6) q06)))))))) (q09 (q0k q4q)) q0B) (q05 (q0W 8 (q0a q4e (hr.mono (by decide)) rfl hx (q00 (q03 2) (q00 (q0a q3p (hr.mono (by decide)) rfl hx (q00 (q03 6) (q00 (q03 4) q06))) q06))) q1u.nd) (q05 (q0W 9 (q0a q4e (hr.mono (by decide)) rfl hx (q00 (q03 3) (q00 (q0a q3p (hr.mono (by decide)) rfl hx (q00 (q03 7) (q00 (q03 5) q06))) q06))) q1u.nd) (q05 (q1H (q1y (q1x (q0a q0A (hr.mono (by decide)) rfl hx (q00 (q03 8) (q00 (q03 9) q06))))) (q09 (q0k q4q)) q0B) (q09 (q0k (q3P (q00 (q03 8) (q00 (q03 9) q06)))))))))))
abbrev q4i:Stmt:=top 36
theorem q9h:q0n ["book","state","want","row","errands","states"] ["book","state","want","row"] (q02 q4i):=⟨rfl,rfl,rfl,by decide +kernel,rfl,by decide +kernel,by decide +kernel⟩
theorem x2H {f:Addr}{fd:FuncData} (F:Fun K "serves" "serves" q4i f fd) (hm:mg "serves"=some (.ref f)) (hb:q0Y K fd ["book","state","want","row"] []) (B:Bi mg) (q5F:Fn P w K mg base cls "check_aim" 8 3 q3k) (q2d:Fn P w K mg base cls "errands_of" 3 2 q1L) (q32:Fn P w K mg base cls "states_through" 4 2 q1z) (q40:Fn P w K mg base cls "fulfils" 2 2 q3i):Fn P w K mg base cls "serves" 9 4 q57:=by
 refine q1g (k:=8) (g:=q8q) F q9h hm hb fun cdv A outer s H E hr=>?_
 have hx:q0z (CXR P w) (q1X (CXR P w) P w K mg base ["book","state","want","row","errands","states"] "serves" (q02 q4i) f cdv A outer s H E) E:=q0c fun _ _ h=>h
 have hu1:=q1c hr
 have hu64:=hr.units
 unfold q8q
 exact (q05 (q5x (q0a q5F (hr.mono (by decide)) rfl hx (q00 (q03 0) (q00 (q03 1) (q00 (q03 2) q06))))) (q05 (q0W 4 (q0a q2d (hr.mono (by decide)) rfl hx (q00 (q03 0) (q00 (q03 3) q06))) q9h.nd) (q05 (q0W 5 (q0a q32 (hr.mono (by decide)) rfl hx (q00 (q03 4) (q00 (q03 1) q06))) q9h.nd) (q09 (q0k (q6d (q4r (x3O) (JE.bor (q0u q2x rfl B.len PySem.boot_len (q0i (q04 5) q0y))) (JE.bor (q0u q2x rfl B.len PySem.boot_len (q0i (q04 4) q0y)))) (q6c (q0a q40 (hr.mono (by decide)) rfl hx (q00 (q0v hu1 (q04 5) (JE.bor (w3E q08))) (q00 (q03 2) q06))))))))))
abbrev q5G:Stmt:=top 37
theorem q8v:q0n ["book","want","row","want_ahead","errand"] ["book","want","row"] (q02 q5G):=⟨rfl,rfl,rfl,by decide +kernel,rfl,by decide +kernel,by decide +kernel⟩
theorem x4y {f:Addr}{fd:FuncData} (F:Fun K "asked" "asked" q5G f fd) (hm:mg "asked"=some (.ref f)) (hb:q0Y K fd ["book","want","row"] []) (B:Bi mg) (q41:Fn P w K mg base cls "checked" 6 1 q3j) (q2c:Fn P w K mg base cls "check_want" 5 2 q1J) (q78:Fn P w K mg base cls "asked_by" 2 2 q2C) (q2d:Fn P w K mg base cls "errands_of" 3 2 q1L):Fn P w K mg base cls "asked" 7 3 q6U:=by
 refine q1g (k:=6) (g:=w1V) F q8v hm hb fun cdv A outer s H E hr=>?_
 have hx:q0z (CXR P w) (q1X (CXR P w) P w K mg base ["book","want","row","want_ahead","errand"] "asked" (q02 q5G) f cdv A outer s H E) E:=q0c fun _ _ h=>h
 have hu1:=q1c hr
 have hu64:=hr.units
 unfold w1V
 exact (q05 (q5x (q0a q41 (hr.mono (by decide)) rfl hx (q00 (q03 0) q06))) (q05 (q5x (q0a q2c (hr.mono (by decide)) rfl hx (q00 (q03 0) (q00 (q03 1) q06)))) (q05 (q0W 3 (q03 1) q8v.nd) (q05 (q4H rfl (x6S rfl B.reversed (q00 (q0a q2d (hr.mono (by decide)) rfl q0Z (q00 (q03 0) (q00 (q03 2) q06))) q06)) (q0x 4 q8v.nd) (q05 (q0W 3 (q0a q78 (hr.mono (by decide)) rfl q0Z (q00 (q03 4) (q00 (q03 3) q06))) q8v.nd) (q09 (q1H (q0V (x8l) (q04 3) (JE.bor q4q)) (q09 (q0k q4q)) q0B)))) (q09 (q0k (q03 3)))))))
abbrev q1v:Stmt:=top 39
theorem w0c:q0n ["_law_script","_law_k"] ["_law_script","_law_k"] (q02 q1v):=⟨rfl,rfl,rfl,by decide +kernel,rfl,by decide +kernel,by decide +kernel⟩
theorem w0d {f:Addr}{fd:FuncData} (F:Fun K "_law_cell_at" "_law_cell_at" q1v f fd) (hm:mg "_law_cell_at"=some (.ref f)) (hb:q0Y K fd ["_law_script","_law_k"] []) (B:Bi mg):Fn P w K mg base cls "_law_cell_at" 1 2 q2q:=by
 refine q1g (k:=0) (g:=q37) F w0c hm hb fun cdv A outer s H E hr=>?_
 have hx:q0z (CXR P w) (q1X (CXR P w) P w K mg base ["_law_script","_law_k"] "_law_cell_at" (q02 q1v) f cdv A outer s H E) E:=q0c fun _ _ h=>h
 have hu1:=q1c hr
 have hu64:=hr.units
 unfold q37
 exact (q05 (q1H (q0V (w9c) (q04 1) (JE.bor (q0u q2x rfl B.len PySem.boot_len (q0i (q04 0) q0y)))) (q09 (q0k (q0v hu1 (q04 0) (q04 1)))) q0B) (q05 (q1H (q0V (q8S hu64) (q04 0) (JE.bor (q4t q06))) (q09 (q0k q08)) q0B) (q09 (q0k (q0t q0J (JE.bor (q0t q7J (JE.bor (q0v hu1 (q04 0) (JE.bor (q0t w83 (q04 1) (JE.bor (q0u q2x rfl B.len PySem.boot_len (q0i (q04 0) q0y))))))) (JE.bor q08))) (q04 1))))))
abbrev q25:Stmt:=top 40
theorem q7N:q0n ["_law_script","_law_k","_law_many","_law_drawn"] ["_law_script","_law_k","_law_many"] (q02 q25):=⟨rfl,rfl,rfl,by decide +kernel,rfl,by decide +kernel,by decide +kernel⟩
theorem w4f {f:Addr}{fd:FuncData} (F:Fun K "_law_mixed" "_law_mixed" q25 f fd) (hm:mg "_law_mixed"=some (.ref f)) (hb:q0Y K fd ["_law_script","_law_k","_law_many"] []) (B:Bi mg) (q4j:Fn P w K mg base cls "_law_cell_at" 1 2 q2q):Fn P w K mg base cls "_law_mixed" 2 3 q07:=by
 refine q1g (k:=1) (g:=q49) F q7N hm hb fun cdv A outer s H E hr=>?_
 have hx:q0z (CXR P w) (q1X (CXR P w) P w K mg base ["_law_script","_law_k","_law_many","_law_drawn"] "_law_mixed" (q02 q25) f cdv A outer s H E) E:=q0c fun _ _ h=>h
 have hu1:=q1c hr
 have hu64:=hr.units
 unfold q49
 exact (q05 (q0W 3 (q0t w83 (JE.bor (q0t q7J (JE.bor (q0t q0J (JE.bor (q0t q0J (JE.bor (q0a q4j (hr.mono (by decide)) rfl hx (q00 (q03 0) (q00 (q03 1) q06)))) (JE.bor (q0t q7J (JE.bor q08) (q04 1))))) (JE.bor q08))) (JE.bor q08))) (JE.bor q08)) q7N.nd) (q09 (q0k (q0t w83 (JE.bor (q0t w83 (JE.bor (q0t q0J (JE.bor (q0t q0J (JE.bor (q0t q7J (q04 3) (q04 3))) (JE.bor (q0t q7J (JE.bor q08) (q04 3))))) (q04 1))) (JE.bor q08))) (q04 2)))))
abbrev q2I:Stmt:=top 41
theorem q4k:q0n ["_law_script","_law_at","_law_made","_law_k"] ["_law_script","_law_at"] (q02 q2I):=⟨rfl,rfl,rfl,by decide +kernel,rfl,by decide +kernel,by decide +kernel⟩
theorem w5Y {f:Addr}{fd:FuncData} (F:Fun K "_law_word" "_law_word" q2I f fd) (hm:mg "_law_word"=some (.ref f)) (hb:q0Y K fd ["_law_script","_law_at"] []) (B:Bi mg) (q0b:Fn P w K mg base cls "_law_mixed" 2 3 q07):Fn P w K mg base cls "_law_word" 3 2 q2a:=by
 refine q1g (k:=2) (g:=q58) F q4k hm hb fun cdv A outer s H E hr=>?_
 have hx:q0z (CXR P w) (q1X (CXR P w) P w K mg base ["_law_script","_law_at","_law_made","_law_k"] "_law_word" (q02 q2I) f cdv A outer s H E) E:=q0c fun _ _ h=>h
 have hu1:=q1c hr
 have hu64:=hr.units
 unfold q58
 exact (q05 (q0W 2 q8Q q4k.nd) (q05 (q4H rfl (q3Q rfl B.range (q0i (JE.bor (q0v hu1 (JE.bor (q4t (q00 q08 (q00 q08 (q00 q08 (q00 q08 (q00 q08 (q00 q08 q06)))))))) (JE.bor (q0a q0b (hr.mono (by decide)) rfl q0Z (q00 (q03 0) (q00 (q03 1) (q00 q08 q06))))))) q0y)) (q0x 3 q4k.nd) (q09 (q0W 2 (q0t q0J (q04 2) (JE.bor (q0v hu1 (JE.bor q8Q) (JE.bor (q0a q0b (hr.mono (by decide)) rfl q0Z (q00 (q03 0) (q00 (q0t q0J (JE.bor (q0t q0J (q04 1) (JE.bor q08))) (q04 3)) (q00 q08 q06)))))))) q4k.nd))) (q09 (q0k (q03 2)))))
abbrev q26:Stmt:=top 42
theorem q4R:q0n ["_law_script","_law_at","_law_most","_law_found","_law_k"] ["_law_script","_law_at","_law_most"] (q02 q26):=⟨rfl,rfl,rfl,by decide +kernel,rfl,by decide +kernel,by decide +kernel⟩
theorem w4g {f:Addr}{fd:FuncData} (F:Fun K "_law_facts" "_law_facts" q26 f fd) (hm:mg "_law_facts"=some (.ref f)) (hb:q0Y K fd ["_law_script","_law_at","_law_most"] []) (B:Bi mg) (q3e:Fn P w K mg base cls "_law_word" 3 2 q2a) (q0b:Fn P w K mg base cls "_law_mixed" 2 3 q07):Fn P w K mg base cls "_law_facts" 4 3 q3l:=by
 refine q1g (k:=3) (g:=q4a) F q4R hm hb fun cdv A outer s H E hr=>?_
 have hx:q0z (CXR P w) (q1X (CXR P w) P w K mg base ["_law_script","_law_at","_law_most","_law_found","_law_k"] "_law_facts" (q02 q26) f cdv A outer s H E) E:=q0c fun _ _ h=>h
 have hu1:=q1c hr
 have hu64:=hr.units
 unfold q4a
 exact (q05 (q3G 3 x1A q4R.nd) (q05 (q4H rfl (q3Q rfl B.range (q0i (JE.bor (q0a q0b (hr.mono (by decide)) rfl q0Z (q00 (q03 0) (q00 (q03 1) (q00 (q0t q0J (q04 2) (JE.bor q08)) q06))))) q0y)) (q0x 4 q4R.nd) (q09 (x1G 3 q5j (q0a q3e (hr.mono (by decide)) rfl q0Z (q00 (q03 0) (q00 (q0t q0J (JE.bor (q0t q0J (q04 1) (JE.bor q08))) (JE.bor (q0t q7J (JE.bor q08) (q04 4)))) q06))) hu1))) (q09 (q0k (q1e (q2P rfl) rfl B.tuple PyProof.Rows.boot_tuple (q0i (JE.bor (q0u x1z rfl B.sorted PyProof.Rows.boot_sorted (q0i (JE.bor (q1e (w1L rfl) rfl B.list PyProof.Rows.boot_list (q0i (q04 3) q0y))) q0y))) q0y))))))
abbrev q2e:Stmt:=top 43
theorem w5Z:q0n ["_law_script","_law_at","_law_facts_here","_law_part"] ["_law_script","_law_at","_law_facts_here","_law_part"] (q02 q2e):=⟨rfl,rfl,rfl,by decide +kernel,rfl,by decide +kernel,by decide +kernel⟩
theorem w60 {f:Addr}{fd:FuncData} (F:Fun K "_law_some" "_law_some" q2e f fd) (hm:mg "_law_some"=some (.ref f)) (hb:q0Y K fd ["_law_script","_law_at","_law_facts_here","_law_part"] []) (B:Bi mg) (q0b:Fn P w K mg base cls "_law_mixed" 2 3 q07):Fn P w K mg base cls "_law_some" 3 4 q3T:=by
 refine q1g (k:=2) (g:=q59) F w5Z hm hb fun cdv A outer s H E hr=>?_
 have hx:q0z (CXR P w) (q1X (CXR P w) P w K mg base ["_law_script","_law_at","_law_facts_here","_law_part"] "_law_some" (q02 q2e) f cdv A outer s H E) E:=q0c fun _ _ h=>h
 have hu1:=q1c hr
 have hu64:=hr.units
 unfold q59
 exact (q09 (q0k (q1e (q2P rfl) rfl B.tuple PyProof.Rows.boot_tuple (q0i (JE.bor (JN.je (q1E (N':=["_law_k","_law_fact","_law_script","_law_at","_law_part"]) (ix:=[0,1,3]) 2 (by decide) rfl (q0s (so:=q02 q2e) (N:=["_law_script","_law_at","_law_facts_here","_law_part"]) (by decide +kernel)) (JIs.i (w1E rfl B.enumerate (q00 (q03 2) q06))) (fun cl A0 s0 H0 ex pn=>⟨x0O rfl (q60 (q0G (i:=0) (by show (["_law_k","_law_fact","_law_script","_law_at","_law_part"] : List Str).Nodup;decide +kernel) rfl (.inl rfl)) (q60 (q0G (i:=1) (by show (["_law_k","_law_fact","_law_script","_law_at","_law_part"] : List Str).Nodup;decide +kernel) rfl (.inl rfl)) w5p)),(q6Q (q0V (w9c) (JE.bor (q0a q0b (hr.mono (by decide)) rfl q0Z (q00 (q03 2) (q00 (q0t q0J (q04 3) (q04 0)) (q00 q08 q06))))) (q04 4))),(q03 1)⟩)))) q0y))))
abbrev q1D:Stmt:=top 44
theorem q1S:q0n ["_law_script","_law_at","_law_facts_here","_law_name","_law_one","_law_two","_law_goal","_law_needs","_law_bars","_law_ends","_law_parts"] ["_law_script","_law_at","_law_facts_here","_law_name"] (q02 q1D):=⟨rfl,rfl,rfl,by decide +kernel,rfl,by decide +kernel,by decide +kernel⟩
theorem w61 {f:Addr}{fd:FuncData} (F:Fun K "_law_thin" "_law_thin" q1D f fd) (hm:mg "_law_thin"=some (.ref f)) (hb:q0Y K fd ["_law_script","_law_at","_law_facts_here","_law_name"] []) (B:Bi mg) (q0b:Fn P w K mg base cls "_law_mixed" 2 3 q07):Fn P w K mg base cls "_law_thin" 3 4 q3U:=by
 refine q1g (k:=2) (g:=q5a) F q1S hm hb fun cdv A outer s H E hr=>?_
 have hx:q0z (CXR P w) (q1X (CXR P w) P w K mg base ["_law_script","_law_at","_law_facts_here","_law_name","_law_one","_law_two","_law_goal","_law_needs","_law_bars","_law_ends","_law_parts"] "_law_thin" (q02 q1D) f cdv A outer s H E) E:=q0c fun _ _ h=>h
 have hu1:=q1c hr
 have hu64:=hr.units
 unfold q5a
 exact (q05 (q0W 4 (q0v hu1 (q04 2) (JE.bor (q0a q0b (hr.mono (by decide)) rfl hx (q00 (q03 0) (q00 (q0t q0J (q04 1) (JE.bor q08)) (q00 (q0u q2x rfl B.len PySem.boot_len (q0i (q04 2) q0y)) q06)))))) q1S.nd) (q05 (q0W 5 (q0v hu1 (q04 2) (JE.bor (q0a q0b (hr.mono (by decide)) rfl hx (q00 (q03 0) (q00 (q0t q0J (q04 1) (JE.bor q08)) (q00 (q0u q2x rfl B.len PySem.boot_len (q0i (q04 2) q0y)) q06)))))) q1S.nd) (q05 (q0W 6 (q0v hu1 (q04 2) (JE.bor (q0a q0b (hr.mono (by decide)) rfl hx (q00 (q03 0) (q00 (q0t q0J (q04 1) (JE.bor q08)) (q00 (q0u q2x rfl B.len PySem.boot_len (q0i (q04 2) q0y)) q06)))))) q1S.nd) (q05 (q0W 7 (q53 (JE.bor (q4t (q00 (q03 4) (q00 (q03 5) q06)))) w1C (q4E (q0t q0J (JE.bor q08) (JE.bor (q0t x6E (JE.bor (q0a q0b (hr.mono (by decide)) rfl hx (q00 (q03 0) (q00 (q0t q0J (q04 1) (JE.bor q08)) (q00 q08 q06))))) (JE.bor q08)))))) q1S.nd) (q05 (q2B 8 (N':=["_law_fact","_law_needs","_law_script","_law_at"]) (ix:=[7,0,1]) 1 (by decide) q1S.nd rfl (q0s (so:=q02 q1D) (N:=["_law_script","_law_at","_law_facts_here","_law_name","_law_one","_law_two","_law_goal","_law_needs","_law_bars","_law_ends","_law_parts"]) (by decide +kernel)) (q1I (JE.bor (q4t (q00 (q03 6) q06)))) (fun cl A0 s0 H0 ex pn=>⟨q0G (i:=0) (by show (["_law_fact","_law_needs","_law_script","_law_at"] : List Str).Nodup;decide +kernel) rfl (.inl rfl),(q6Q (JW.t (w3z (q0V (w1B) (q04 0) (q04 1)) (q8R (q0V (q8S hu64) (JE.bor (q0a q0b (hr.mono (by decide)) rfl q0Z (q00 (q03 2) (q00 (q0t q0J (q04 3) (JE.bor q08)) (q00 q08 q06))))) (JE.bor q08)))))),(q03 0)⟩)) (q05 (q2B 9 (N':=["_law_fact","_law_goal","_law_script","_law_at"]) (ix:=[6,0,1]) 1 (by decide) q1S.nd rfl (q0s (so:=q02 q1D) (N:=["_law_script","_law_at","_law_facts_here","_law_name","_law_one","_law_two","_law_goal","_law_needs","_law_bars","_law_ends","_law_parts"]) (by decide +kernel)) (q1I (JE.bor (q4t (q00 (q03 4) q06)))) (fun cl A0 s0 H0 ex pn=>⟨q0G (i:=0) (by show (["_law_fact","_law_goal","_law_script","_law_at"] : List Str).Nodup;decide +kernel) rfl (.inl rfl),(q6Q (JW.t (w3z (q0V (w1A hu64) (q04 0) (q04 1)) (q8R (q0V (q8S hu64) (JE.bor (q0a q0b (hr.mono (by decide)) rfl q0Z (q00 (q03 2) (q00 (q0t q0J (q04 3) (JE.bor q08)) (q00 q08 q06))))) (JE.bor q08)))))),(q03 0)⟩)) (q05 (w8i 8 (w8i 9 (q2B 10 (N':=["_law_part"]) (ix:=[]) 1 (by decide) q1S.nd rfl (q0s (so:=q02 q1D) (N:=["_law_script","_law_at","_law_facts_here","_law_name","_law_one","_law_two","_law_goal","_law_needs","_law_bars","_law_ends","_law_parts"]) (by decide +kernel)) (q1I (JE.bor (q3P (q00 (q03 7) (q00 (q03 8) (q00 (q4t (q00 (q03 6) q06)) (q00 (q03 9) q06))))))) (fun cl A0 s0 H0 ex pn=>⟨q0G (i:=0) (by show (["_law_part"] : List Str).Nodup;decide +kernel) rfl (.inl rfl),q1f,(q1e (q2P rfl) rfl B.tuple PyProof.Rows.boot_tuple (q0i (JE.bor (q6R rfl (w8g rfl (q04 0) rfl B.set) rfl B.sorted)) q0y))⟩)))) (q09 (q0k (q3P (q00 (q03 3) (q00 (q0v hu1 (q04 10) (JE.bor q08)) (q00 (q0v hu1 (q04 10) (JE.bor q08)) (q00 (q0v hu1 (q04 10) (JE.bor q08)) (q00 (q0v hu1 (q04 10) (JE.bor q08)) (q00 (q0a q0b (hr.mono (by decide)) rfl hx (q00 (q03 0) (q00 (q03 1) (q00 q08 q06)))) q06))))))))))))))))
abbrev q1n:Stmt:=top 45
theorem q1w:q0n ["_law_script","_law_at","_law_facts_here","_law_name","_law_parts","_law_k","_law_fact","_law_way","_law_some_here"] ["_law_script","_law_at","_law_facts_here","_law_name"] (q02 q1n):=⟨rfl,rfl,rfl,by decide +kernel,rfl,by decide +kernel,by decide +kernel⟩
theorem w2f {f:Addr}{fd:FuncData} (F:Fun K "_law_errand" "_law_errand" q1n f fd) (hm:mg "_law_errand"=some (.ref f)) (hb:q0Y K fd ["_law_script","_law_at","_law_facts_here","_law_name"] []) (B:Bi mg) (q0b:Fn P w K mg base cls "_law_mixed" 2 3 q07) (q79:Fn P w K mg base cls "_law_thin" 3 4 q3U):Fn P w K mg base cls "_law_errand" 4 4 q1M:=by
 refine q1g (k:=3) (g:=q2b) F q1w hm hb fun cdv A outer s H E hr=>?_
 have hx:q0z (CXR P w) (q1X (CXR P w) P w K mg base ["_law_script","_law_at","_law_facts_here","_law_name","_law_parts","_law_k","_law_fact","_law_way","_law_some_here"] "_law_errand" (q02 q1n) f cdv A outer s H E) E:=q0c fun _ _ h=>h
 have hu1:=q1c hr
 have hu64:=hr.units
 unfold q2b
 exact (q05 (q1H (JW.t (w3z (q0V (w1A hu64) (q04 2) (JE.bor (q3P q06))) (q8R (q0V (q8S hu64) (JE.bor (q0a q0b (hr.mono (by decide)) rfl hx (q00 (q03 0) (q00 q08 (q00 q08 q06))))) (JE.bor q08))))) (q09 (q0k (q0a q79 (hr.mono (by decide)) rfl hx (q00 (q03 0) (q00 (q03 1) (q00 (q03 2) (q00 (q03 3) q06))))))) q0B) (q05 (x8u 4 q1w.nd) (q05 (q4H rfl (w1E rfl B.enumerate (q00 (q03 2) q06)) (q5o rfl (q0C (q0x 5 q1w.nd) (q0C (q0x 6 q1w.nd) q3E))) (q05 (q0W 7 (q0a q0b (hr.mono (by decide)) rfl q0Z (q00 (q03 0) (q00 (q0t q0J (JE.bor (q0t q0J (q04 1) (JE.bor q08))) (q04 5)) (q00 q08 q06)))) q1w.nd) (q05 (q1H (q0V (w9c) (q04 7) (JE.bor q08)) (q09 (w0R 4 (q0v hu1 (JE.bor (q4t (q00 q08 (q00 q08 (q00 q08 q06))))) (q04 7)) (q03 6))) q0B) (q05 (q0W 7 (q0a q0b (hr.mono (by decide)) rfl q0Z (q00 (q03 0) (q00 (q0t q0J (JE.bor (q0t q0J (q04 1) (JE.bor q08))) (q04 5)) (q00 q08 q06)))) q1w.nd) (q09 (q1H (q0V (w9c) (q04 7) (JE.bor q08)) (q09 (w0R 4 (q0v hu1 (JE.bor (q4t (q00 q08 (q00 q08 (q00 q08 (q00 q08 q06)))))) (q04 7)) (q03 6))) q0B)))))) (q05 (x3U (q2B 8 (N':=["_law_part"]) (ix:=[]) 1 (by decide) q1w.nd rfl (q0s (so:=q02 q1n) (N:=["_law_script","_law_at","_law_facts_here","_law_name","_law_parts","_law_k","_law_fact","_law_way","_law_some_here"]) (by decide +kernel)) (q1I (q04 4)) (fun cl A0 s0 H0 ex pn=>⟨q0G (i:=0) (by show (["_law_part"] : List Str).Nodup;decide +kernel) rfl (.inl rfl),q1f,(q1e (q2P rfl) rfl B.tuple PyProof.Rows.boot_tuple (q0i (q04 0) q0y))⟩))) (q09 (q0k (q3P (q00 (q03 3) (q00 (q0v hu1 (q04 8) (JE.bor q08)) (q00 (q0v hu1 (q04 8) (JE.bor q08)) (q00 (q0v hu1 (q04 8) (JE.bor q08)) (q00 (q0v hu1 (q04 8) (JE.bor q08)) (q00 (q0a q0b (hr.mono (by decide)) rfl hx (q00 (q03 0) (q00 (q03 1) (q00 q08 q06)))) q06)))))))))))))
abbrev q2f:Stmt:=top 46
theorem q27:q0n ["_law_script","_law_at","_law_most","_law_many","_law_facts_here","_law_made","_law_k","_law_name","_law_names","_law_turn"] ["_law_script","_law_at","_law_most","_law_many"] (q02 q2f):=⟨rfl,rfl,rfl,by decide +kernel,rfl,by decide +kernel,by decide +kernel⟩
theorem w62 {f:Addr}{fd:FuncData} (F:Fun K "_law_book" "_law_book" q2f f fd) (hm:mg "_law_book"=some (.ref f)) (hb:q0Y K fd ["_law_script","_law_at","_law_most","_law_many"] []) (B:Bi mg) (q5H:Fn P w K mg base cls "_law_facts" 4 3 q3l) (q3e:Fn P w K mg base cls "_law_word" 3 2 q2a) (q4S:Fn P w K mg base cls "_law_errand" 4 4 q1M) (q0b:Fn P w K mg base cls "_law_mixed" 2 3 q07):Fn P w K mg base cls "_law_book" 5 4 q3a:=by
 refine q1g (k:=4) (g:=q3V) F q27 hm hb fun cdv A outer s H E hr=>?_
 have hx:q0z (CXR P w) (q1X (CXR P w) P w K mg base ["_law_script","_law_at","_law_most","_law_many","_law_facts_here","_law_made","_law_k","_law_name","_law_names","_law_turn"] "_law_book" (q02 q2f) f cdv A outer s H E) E:=q0c fun _ _ h=>h
 have hu1:=q1c hr
 have hu64:=hr.units
 unfold q3V
 exact (q05 (q0W 4 (q0a q5H (hr.mono (by decide)) rfl hx (q00 (q03 0) (q00 (q03 1) (q00 (q03 2) q06)))) q27.nd) (q05 (q3G 5 x1A q27.nd) (q05 (q4H rfl (q3Q rfl B.range (q0i (JE.bor (q0a q0b (hr.mono (by decide)) rfl q0Z (q00 (q03 0) (q00 (q0t q0J (q04 1) (JE.bor q08)) (q00 (q0t q0J (q04 3) (JE.bor q08)) q06))))) q0y)) (q0x 6 q27.nd) (q05 (q0W 7 (q0a q3e (hr.mono (by decide)) rfl q0Z (q00 (q03 0) (q00 (q0t q0J (JE.bor (q0t q0J (q04 1) (JE.bor q08))) (JE.bor (q0t q7J (JE.bor q08) (q04 6)))) q06))) q27.nd) (q09 (x1G 5 (q0a q4S (hr.mono (by decide)) rfl q0Z (q00 (q03 0) (q00 (q0t q0J (JE.bor (q0t q0J (q04 1) (JE.bor q08))) (JE.bor (q0t q7J (JE.bor q08) (q04 6)))) (q00 (q03 4) (q00 (q03 7) q06))))) (q03 7) hu1)))) (q05 (q0W 8 (q1e (w1L rfl) rfl B.list PyProof.Rows.boot_list (q0i (q04 5) q0y)) q27.nd) (q05 (q0W 9 (q0a q0b (hr.mono (by decide)) rfl hx (q00 (q03 0) (q00 (q0t q0J (q04 1) (JE.bor q08)) (q00 (q0t q0J (JE.bor (q0u q2x rfl B.len PySem.boot_len (q0i (q04 8) q0y))) (JE.bor q08)) q06)))) q27.nd) (q09 (q0k (q3P (q00 (q03 4) (q00 (q1e (q2P rfl) rfl B.tuple PyProof.Rows.boot_tuple (q0i (JE.bor (JN.je (q1E (N':=["_law_name","_law_made"]) (ix:=[5]) 1 (by decide) rfl (q0s (so:=q02 q2f) (N:=["_law_script","_law_at","_law_most","_law_many","_law_facts_here","_law_made","_law_k","_law_name","_law_names","_law_turn"]) (by decide +kernel)) (q1I (JE.bor (q0t q0J (JE.bor (q53 (q04 8) (q4E (q03 9)) w1C)) (JE.bor (q53 (q04 8) w1C (q4E (q03 9))))))) (fun cl A0 s0 H0 ex pn=>⟨q0G (i:=0) (by show (["_law_name","_law_made"] : List Str).Nodup;decide +kernel) rfl (.inl rfl),q1f,(q0v hu1 (q04 1) (q04 0))⟩)))) q0y)) q06))))))))))
abbrev q2J:Stmt:=top 47
theorem q2K:q0n ["_law_script","_law_at","_law_facts_here","_law_must","_law_bars","_law_k","_law_fact","_law_way"] ["_law_script","_law_at","_law_facts_here"] (q02 q2J):=⟨rfl,rfl,rfl,by decide +kernel,rfl,by decide +kernel,by decide +kernel⟩
theorem w63 {f:Addr}{fd:FuncData} (F:Fun K "_law_want" "_law_want" q2J f fd) (hm:mg "_law_want"=some (.ref f)) (hb:q0Y K fd ["_law_script","_law_at","_law_facts_here"] []) (B:Bi mg) (q0b:Fn P w K mg base cls "_law_mixed" 2 3 q07):Fn P w K mg base cls "_law_want" 3 3 q5b:=by
 refine q1g (k:=2) (g:=q3W) F q2K hm hb fun cdv A outer s H E hr=>?_
 have hx:q0z (CXR P w) (q1X (CXR P w) P w K mg base ["_law_script","_law_at","_law_facts_here","_law_must","_law_bars","_law_k","_law_fact","_law_way"] "_law_want" (q02 q2J) f cdv A outer s H E) E:=q0c fun _ _ h=>h
 have hu1:=q1c hr
 have hu64:=hr.units
 unfold q3W
 exact (q05 (q3G 3 (w0K q06) q2K.nd) (q05 (q3G 4 (w0K q06) q2K.nd) (q05 (q4H rfl (w1E rfl B.enumerate (q00 (q03 2) q06)) (q5o rfl (q0C (q0x 5 q2K.nd) (q0C (q0x 6 q2K.nd) q3E))) (q05 (q0W 7 (q0a q0b (hr.mono (by decide)) rfl q0Z (q00 (q03 0) (q00 (q0t q0J (q04 1) (q04 5)) (q00 q08 q06)))) q2K.nd) (q09 (q1H (q0V (w9c) (q04 7) (JE.bor q08)) (q09 (q4I 3 (q03 6))) (q09 (q1H (q0V (q8S hu64) (q04 7) (JE.bor q08)) (q09 (q4I 4 (q03 6))) q0B)))))) (q09 (q0k (q3P (q00 (q1e (q2P rfl) rfl B.tuple PyProof.Rows.boot_tuple (q0i (q04 3) q0y)) (q00 (q1e (q2P rfl) rfl B.tuple PyProof.Rows.boot_tuple (q0i (q04 4) q0y)) q06))))))))
abbrev q2L:Stmt:=top 48
theorem q5I:q0n ["_law_script","_law_most","_law_many","_law_book_here","_law_state"] ["_law_script","_law_most","_law_many"] (q02 q2L):=⟨rfl,rfl,rfl,by decide +kernel,rfl,by decide +kernel,by decide +kernel⟩
theorem w64 {f:Addr}{fd:FuncData} (F:Fun K "_law_case" "_law_case" q2L f fd) (hm:mg "_law_case"=some (.ref f)) (hb:q0Y K fd ["_law_script","_law_most","_law_many"] []) (B:Bi mg) (q7a:Fn P w K mg base cls "_law_book" 5 4 q3a) (q0b:Fn P w K mg base cls "_law_mixed" 2 3 q07) (q7b:Fn P w K mg base cls "_law_some" 3 4 q3T) (q7c:Fn P w K mg base cls "_law_want" 3 3 q5b):Fn P w K mg base cls "_law_case" 6 3 q3b:=by
 refine q1g (k:=5) (g:=q5c) F q5I hm hb fun cdv A outer s H E hr=>?_
 have hx:q0z (CXR P w) (q1X (CXR P w) P w K mg base ["_law_script","_law_most","_law_many","_law_book_here","_law_state"] "_law_case" (q02 q2L) f cdv A outer s H E) E:=q0c fun _ _ h=>h
 have hu1:=q1c hr
 have hu64:=hr.units
 unfold q5c
 exact (q05 (q0W 3 (q0a q7a (hr.mono (by decide)) rfl hx (q00 (q03 0) (q00 q08 (q00 (q03 1) (q00 (q03 2) q06))))) q5I.nd) (q05 (q0W 4 (q0a q7b (hr.mono (by decide)) rfl hx (q00 (q03 0) (q00 q08 (q00 (q0v hu1 (q04 3) (JE.bor q08)) (q00 (q0v hu1 (JE.bor (q4t (q00 q08 (q00 q08 q06)))) (JE.bor (q0a q0b (hr.mono (by decide)) rfl hx (q00 (q03 0) (q00 q08 (q00 q08 q06)))))) q06))))) q5I.nd) (q09 (q0k (q3P (q00 (q03 3) (q00 (q03 4) (q00 (q0a q7c (hr.mono (by decide)) rfl hx (q00 (q03 0) (q00 q08 (q00 (q0v hu1 (q04 3) (JE.bor q08)) q06)))) q06))))))))
abbrev q1U:Stmt:=top 49
theorem w65:q0n ["_law_state","_law_want_here"] ["_law_state","_law_want_here"] (q02 q1U):=⟨rfl,rfl,rfl,by decide +kernel,rfl,by decide +kernel,by decide +kernel⟩
theorem w66 {f:Addr}{fd:FuncData} (F:Fun K "_law_good" "_law_good" q1U f fd) (hm:mg "_law_good"=some (.ref f)) (hb:q0Y K fd ["_law_state","_law_want_here"] []) (B:Bi mg):Fn P w K mg base cls "_law_good" 1 2 q1B:=by
 refine q1g (k:=0) (g:=q5d) F w65 hm hb fun cdv A outer s H E hr=>?_
 have hx:q0z (CXR P w) (q1X (CXR P w) P w K mg base ["_law_state","_law_want_here"] "_law_good" (q02 q1U) f cdv A outer s H E) E:=q0c fun _ _ h=>h
 have hu1:=q1c hr
 have hu64:=hr.units
 unfold q5d
 exact (q09 (q0k (q6d (q0u (q6e rfl) rfl B.all PyProof.Rows.boot_all (q0i (JE.bor (JN.je (q1E (N':=["_law_fact","_law_state"]) (ix:=[0]) 1 (by decide) rfl (q0s (so:=q02 q1U) (N:=["_law_state","_law_want_here"]) (by decide +kernel)) (q1I (JE.bor (q0v hu1 (q04 1) (JE.bor q08)))) (fun cl A0 s0 H0 ex pn=>⟨q0G (i:=0) (by show (["_law_fact","_law_state"] : List Str).Nodup;decide +kernel) rfl (.inl rfl),q1f,(q4r (x1u) (q04 0) (q04 1))⟩)))) q0y)) (q6c (x1o (q0u (x55 rfl) rfl B.any PyProof.Rows.boot_any (q0i (JE.bor (JN.je (q1E (N':=["_law_fact","_law_state"]) (ix:=[0]) 1 (by decide) rfl (q0s (so:=q02 q1U) (N:=["_law_state","_law_want_here"]) (by decide +kernel)) (q1I (JE.bor (q0v hu1 (q04 1) (JE.bor q08)))) (fun cl A0 s0 H0 ex pn=>⟨q0G (i:=0) (by show (["_law_fact","_law_state"] : List Str).Nodup;decide +kernel) rfl (.inl rfl),q1f,(q4r (x1u) (q04 0) (q04 1))⟩)))) q0y)))))))
abbrev q2g:Stmt:=top 50
theorem q9i:q0n ["_law_errand_here","_law_state","_law_left"] ["_law_errand_here","_law_state"] (q02 q2g):=⟨rfl,rfl,rfl,by decide +kernel,rfl,by decide +kernel,by decide +kernel⟩
theorem w67 {f:Addr}{fd:FuncData} (F:Fun K "_law_step" "_law_step" q2g f fd) (hm:mg "_law_step"=some (.ref f)) (hb:q0Y K fd ["_law_errand_here","_law_state"] []) (B:Bi mg) (q1V:Fn P w K mg base cls "_law_good" 1 2 q1B):Fn P w K mg base cls "_law_step" 2 2 q0Q:=by
 refine q1g (k:=1) (g:=q5e) F q9i hm hb fun cdv A outer s H E hr=>?_
 have hx:q0z (CXR P w) (q1X (CXR P w) P w K mg base ["_law_errand_here","_law_state","_law_left"] "_law_step" (q02 q2g) f cdv A outer s H E) E:=q0c fun _ _ h=>h
 have hu1:=q1c hr
 have hu64:=hr.units
 unfold q5e
 exact (q05 (q1H (q1y (q1x (q0a q1V (hr.mono (by decide)) rfl hx (q00 (q03 1) (q00 (q53 (q04 0) (q4E q08) (q4E q08)) q06))))) (q09 (q0k q4q)) q0B) (q05 (q2B 2 (N':=["_law_fact","_law_errand_here"]) (ix:=[0]) 1 (by decide) q9i.nd rfl (q0s (so:=q02 q2g) (N:=["_law_errand_here","_law_state","_law_left"]) (by decide +kernel)) (q1I (q04 1)) (fun cl A0 s0 H0 ex pn=>⟨q0G (i:=0) (by show (["_law_fact","_law_errand_here"] : List Str).Nodup;decide +kernel) rfl (.inl rfl),(q6Q (q0V (w1B) (q04 0) (JE.bor (q0v hu1 (q04 1) (JE.bor q08))))),(q03 0)⟩)) (q09 (q0k (q1e (q2P rfl) rfl B.tuple PyProof.Rows.boot_tuple (q0i (JE.bor (q6R rfl (w8g rfl (JE.bor (q0t q0J (q04 2) (JE.bor (q1e (w1L rfl) rfl B.list PyProof.Rows.boot_list (q0i (JE.bor (q0v hu1 (q04 0) (JE.bor q08))) q0y))))) rfl B.set) rfl B.sorted)) q0y))))))
abbrev q2h:Stmt:=top 51
theorem q2M:q0n ["_law_script","_law_at","_law_book_here","_law_state","_law_many","_law_row","_law_k","_law_some_here","_law_errand_here"] ["_law_script","_law_at","_law_book_here","_law_state","_law_many"] (q02 q2h):=⟨rfl,rfl,rfl,by decide +kernel,rfl,by decide +kernel,by decide +kernel⟩
theorem w68 {f:Addr}{fd:FuncData} (F:Fun K "_law_walk" "_law_walk" q2h f fd) (hm:mg "_law_walk"=some (.ref f)) (hb:q0Y K fd ["_law_script","_law_at","_law_book_here","_law_state","_law_many"] []) (B:Bi mg) (q2N:Fn P w K mg base cls "_law_step" 2 2 q0Q) (q0b:Fn P w K mg base cls "_law_mixed" 2 3 q07):Fn P w K mg base cls "_law_walk" 3 5 q3c:=by
 refine q1g (k:=2) (g:=q5f) F q2M hm hb fun cdv A outer s H E hr=>?_
 have hx:q0z (CXR P w) (q1X (CXR P w) P w K mg base ["_law_script","_law_at","_law_book_here","_law_state","_law_many","_law_row","_law_k","_law_some_here","_law_errand_here"] "_law_walk" (q02 q2h) f cdv A outer s H E) E:=q0c fun _ _ h=>h
 have hu1:=q1c hr
 have hu64:=hr.units
 unfold q5f
 exact (q05 (q3G 5 (w0K q06) q2M.nd) (q05 (q4H rfl (q3Q rfl B.range (q0i (q04 4) q0y)) (q0x 6 q2M.nd) (q05 (q2B 7 (N':=["_law_errand_here","_law_state"]) (ix:=[3]) 1 (by decide) q2M.nd rfl (q0s (so:=q02 q2h) (N:=["_law_script","_law_at","_law_book_here","_law_state","_law_many","_law_row","_law_k","_law_some_here","_law_errand_here"]) (by decide +kernel)) (q1I (JE.bor (q0v hu1 (q04 2) (JE.bor q08)))) (fun cl A0 s0 H0 ex pn=>⟨q0G (i:=0) (by show (["_law_errand_here","_law_state"] : List Str).Nodup;decide +kernel) rfl (.inl rfl),(q6Q (q0V (q8m) (JE.bor (q0a q2N (hr.mono (by decide)) rfl q0Z (q00 (q03 0) (q00 (q03 1) q06)))) (JE.bor q4q))),(q03 0)⟩)) (q05 (q1H (q0V (q8S hu64) (q04 7) (JE.bor (q4t q06))) (q09 (q0k (q03 5))) q0B) (q05 (q0W 8 (q0v hu1 (q04 7) (JE.bor (q0a q0b (hr.mono (by decide)) rfl q0Z (q00 (q03 0) (q00 (q0t q0J (q04 1) (q04 6)) (q00 (q0u q2x rfl B.len PySem.boot_len (q0i (q04 7) q0y)) q06)))))) q2M.nd) (q05 (q4I 5 (q0v hu1 (q04 8) (JE.bor q08))) (q09 (q0W 3 (q0a q2N (hr.mono (by decide)) rfl q0Z (q00 (q03 8) (q00 (q03 3) q06))) q2M.nd))))))) (q09 (q0k (q03 5)))))
abbrev q1o:Stmt:=top 52
theorem q1W:q0n ["_law_book_here","_law_state","_law_row","_law_named","_law_found","_law_number","_law_name","_law_other"] ["_law_book_here","_law_state","_law_row"] (q02 q1o):=⟨rfl,rfl,rfl,by decide +kernel,rfl,by decide +kernel,by decide +kernel⟩
theorem w2g {f:Addr}{fd:FuncData} (F:Fun K "_law_states" "_law_states" q1o f fd) (hm:mg "_law_states"=some (.ref f)) (hb:q0Y K fd ["_law_book_here","_law_state","_law_row"] []) (B:Bi mg) (q2N:Fn P w K mg base cls "_law_step" 2 2 q0Q):Fn P w K mg base cls "_law_states" 3 3 q1N:=by
 refine q1g (k:=2) (g:=q3B) F q1W hm hb fun cdv A outer s H E hr=>?_
 have hx:q0z (CXR P w) (q1X (CXR P w) P w K mg base ["_law_book_here","_law_state","_law_row","_law_named","_law_found","_law_number","_law_name","_law_other"] "_law_states" (q02 q1o) f cdv A outer s H E) E:=q0c fun _ _ h=>h
 have hu1:=q1c hr
 have hu64:=hr.units
 unfold q3B
 exact (q05 (q3G 3 (x23 rfl (JN.je (q1E (N':=["_law_errand_here"]) (ix:=[]) 1 (by decide) rfl (q0s (so:=q02 q1o) (N:=["_law_book_here","_law_state","_law_row","_law_named","_law_found","_law_number","_law_name","_law_other"]) (by decide +kernel)) (q1I (JE.bor (q0v hu1 (q04 0) (JE.bor q08)))) (fun cl A0 s0 H0 ex pn=>⟨q0G (i:=0) (by show (["_law_errand_here"] : List Str).Nodup;decide +kernel) rfl (.inl rfl),q1f,(q3P (q00 (q0v hu1 (q04 0) (JE.bor q08)) (q00 (q03 0) q06)))⟩))) rfl B.dict) q1W.nd) (q05 (q3G 4 (w0K (q00 (q03 1) q06)) q1W.nd) (q05 (q4H rfl (x24 rfl B.enumerate (q00 (q03 2) q06)) (q5o rfl (q0C (q0x 5 q1W.nd) (q0C (q0x 6 q1W.nd) q3E))) (q05 (q0W 7 (q0a q2N (hr.mono (by decide)) rfl q0Z (q00 (q0v hu1 (q04 3) (q04 6)) (q00 (q0v hu1 (q04 4) (JE.bor (w3E q08))) q06))) q1W.nd) (q05 (q1H (q0V (x8l) (q04 7) (JE.bor q4q)) (q09 (q0k (q03 5))) q0B) (q09 (q4I 4 (q03 7)))))) (q09 (q0k (q03 4))))))
abbrev q2O:Stmt:=top 53
theorem q9j:q0n ["_law_book_here","_law_state","_law_want_here","_law_row","_law_found"] ["_law_book_here","_law_state","_law_want_here","_law_row"] (q02 q2O):=⟨rfl,rfl,rfl,by decide +kernel,rfl,by decide +kernel,by decide +kernel⟩
theorem w69 {f:Addr}{fd:FuncData} (F:Fun K "_law_does" "_law_does" q2O f fd) (hm:mg "_law_does"=some (.ref f)) (hb:q0Y K fd ["_law_book_here","_law_state","_law_want_here","_law_row"] []) (B:Bi mg) (q4T:Fn P w K mg base cls "_law_states" 3 3 q1N) (q1V:Fn P w K mg base cls "_law_good" 1 2 q1B):Fn P w K mg base cls "_law_does" 4 4 q3d:=by
 refine q1g (k:=3) (g:=q5g) F q9j hm hb fun cdv A outer s H E hr=>?_
 have hx:q0z (CXR P w) (q1X (CXR P w) P w K mg base ["_law_book_here","_law_state","_law_want_here","_law_row","_law_found"] "_law_does" (q02 q2O) f cdv A outer s H E) E:=q0c fun _ _ h=>h
 have hu1:=q1c hr
 have hu64:=hr.units
 unfold q5g
 exact (q05 (q0W 4 (q0a q4T (hr.mono (by decide)) rfl hx (q00 (q03 0) (q00 (q03 1) (q00 (q03 3) q06)))) q9j.nd) (q09 (q0k (q6d (x1o (q4F (q04 4) rfl B.isinstance rfl B.int PyProof.Rows.boot_int (by decide))) (q6c (q0a q1V (hr.mono (by decide)) rfl hx (q00 (q0v hu1 (q04 4) (JE.bor (w3E q08))) (q00 (q03 2) q06))))))))
abbrev q2Y:Stmt:=top 54
theorem q5i:q0n ["_law_facts_here","_law_made","_law_fact"] ["_law_facts_here"] (q02 q2Y):=⟨rfl,rfl,rfl,by decide +kernel,rfl,by decide +kernel,by decide +kernel⟩
theorem w9A {f:Addr}{fd:FuncData} (F:Fun K "_law_all" "_law_all" q2Y f fd) (hm:mg "_law_all"=some (.ref f)) (hb:q0Y K fd ["_law_facts_here"] []) (B:Bi mg):Fn P w K mg base cls "_law_all" 1 1 q3X:=by
 refine q1g (k:=0) (g:=q6o) F q5i hm hb fun cdv A outer s H E hr=>?_
 have hx:q0z (CXR P w) (q1X (CXR P w) P w K mg base ["_law_facts_here","_law_made","_law_fact"] "_law_all" (q02 q2Y) f cdv A outer s H E) E:=q0c fun _ _ h=>h
 have hu1:=q1c hr
 have hu64:=hr.units
 unfold q6o
 exact (q05 (q3G 1 (w0K (q00 (q3P q06) q06)) q5i.nd) (q05 (x1D 0 rfl (q0x 2 q5i.nd) (q09 (q0W 1 (q0t q0J (q04 1) (JE.bor (JN.je (q1E (N':=["_law_state","_law_fact"]) (ix:=[2]) 1 (by decide) rfl (q0s (so:=q02 q2Y) (N:=["_law_facts_here","_law_made","_law_fact"]) (by decide +kernel)) (q1I (q04 1)) (fun cl A0 s0 H0 ex pn=>⟨q0G (i:=0) (by show (["_law_state","_law_fact"] : List Str).Nodup;decide +kernel) rfl (.inl rfl),q1f,(q0t q0J (q04 0) (JE.bor (q3P (q00 (q03 1) q06))))⟩))))) q5i.nd))) (q09 (q0k (q03 1)))))
abbrev q88:Stmt:=top 55
theorem q4v:q0n ["_law_script","_law_book_here","_law_state","_law_want_here","_law_names","_law_row","_law_told","_law_some_here","_law_one","_law_due"] ["_law_script"] (q02 q88):=⟨rfl,rfl,rfl,by decide +kernel,rfl,by decide +kernel,by decide +kernel⟩
theorem x9v {f:Addr}{fd:FuncData} (F:Fun K "law" "law" q88 f fd) (B:Bi mg) (q7d:Fn P w K mg base cls "_law_case" 6 3 q3b) (q0b:Fn P w K mg base cls "_law_mixed" 2 3 q07) (q7e:Fn P w K mg base cls "_law_walk" 3 5 q3c) (w6a:Fn P w K mg base cls "asked" 7 3 q6U) (q7f:Fn P w K mg base cls "_law_does" 4 4 q3d) (w2h:Fn P w K mg base cls "serves" 9 4 q57) (q1V:Fn P w K mg base cls "_law_good" 1 2 q1B) (q9k:Fn P w K mg base cls "_law_all" 1 1 q3X):w90 P w K mg base (CXR P w) 10 f fd ["_law_script"] (spF K cls 1 x25):=by
 refine x8t (k:=9) (g:=x47) F q4v fun cdv A outer s H E hr=>?_
 have hx:q0z (CXR P w) (q1X (CXR P w) P w K mg base ["_law_script","_law_book_here","_law_state","_law_want_here","_law_names","_law_row","_law_told","_law_some_here","_law_one","_law_due"] "law" (q02 q88) f cdv A outer s H E) E:=q0c fun _ _ h=>h
 have hu1:=q1c hr
 have hu64:=hr.units
 unfold x47
 exact (q05 (q8T (q0a q7d (hr.mono (by decide)) rfl hx (q00 (q03 0) (q00 q08 (q00 q08 q06)))) (q5o rfl (q0C (q0x 1 q4v.nd) (q0C (q0x 2 q4v.nd) (q0C (q0x 3 q4v.nd) q3E))))) (q05 (q3G 4 (q1E (N':=["_law_errand_here"]) (ix:=[]) 1 (by decide) rfl (q0s (so:=q02 q88) (N:=["_law_script","_law_book_here","_law_state","_law_want_here","_law_names","_law_row","_law_told","_law_some_here","_law_one","_law_due"]) (by decide +kernel)) (q1I (JE.bor (q0v hu1 (q04 1) (JE.bor q08)))) (fun cl A0 s0 H0 ex pn=>⟨q0G (i:=0) (by show (["_law_errand_here"] : List Str).Nodup;decide +kernel) rfl (.inl rfl),q1f,(q0v hu1 (q04 0) (JE.bor q08))⟩)) q4v.nd) (q05 (q0W 5 (q0a q7e (hr.mono (by decide)) rfl hx (q00 (q03 0) (q00 q08 (q00 (q03 1) (q00 (q03 2) (q00 (q0a q0b (hr.mono (by decide)) rfl hx (q00 (q03 0) (q00 q08 (q00 q08 q06)))) q06)))))) q4v.nd) (q05 (q1H (JW.t (w3z (q0V (w1A hu64) (q04 4) (JE.bor (q4t q06))) (q8R (q0V (q8S hu64) (JE.bor (q0a q0b (hr.mono (by decide)) rfl hx (q00 (q03 0) (q00 q08 (q00 q08 q06))))) (JE.bor q08))))) (q09 (q2B 5 (N':=["_law_k","_law_names","_law_script"]) (ix:=[4,0]) 1 (by decide) q4v.nd rfl (q0s (so:=q02 q88) (N:=["_law_script","_law_book_here","_law_state","_law_want_here","_law_names","_law_row","_law_told","_law_some_here","_law_one","_law_due"]) (by decide +kernel)) (JIs.i (q3Q rfl B.range (q0i (JE.bor (q0a q0b (hr.mono (by decide)) rfl hx (q00 (q03 0) (q00 q08 (q00 q08 q06))))) q0y))) (fun cl A0 s0 H0 ex pn=>⟨q0G (i:=0) (by show (["_law_k","_law_names","_law_script"] : List Str).Nodup;decide +kernel) rfl (.inl rfl),q1f,(q0v hu1 (q04 1) (JE.bor (q0a q0b (hr.mono (by decide)) rfl q0Z (q00 (q03 2) (q00 (q0t q0J (JE.bor q08) (q04 0)) (q00 (q0u q2x rfl B.len PySem.boot_len (q0i (q04 1) q0y)) q06))))))⟩))) q0B) (q05 (w8i 5 (q0W 6 (q0a w6a (hr.mono (by decide)) rfl hx (q00 (q03 1) (q00 (q03 3) (q00 (q03 5) q06)))) q4v.nd)) (q05 (q1H (JW.t (w3z (q0V (q8S hu64) (q04 5) (JE.bor (q4t q06))) (q8R (q0V (w1A hu64) (q04 6) (q04 3))))) (q09 (q0k q5j)) q0B) (q05 (q0W 7 q5j q4v.nd) (q05 (q4H rfl (w5G (q0a q9k (hr.mono (by decide)) rfl q0Z (q00 (q0v hu1 (q04 1) (JE.bor q08)) q06))) (q0x 8 q4v.nd) (q05 (w8i 5 (q0W 9 (q0a q7f (hr.mono (by decide)) rfl q0Z (q00 (q03 1) (q00 (q03 8) (q00 (q03 3) (q00 (q03 5) q06))))) q4v.nd)) (q05 (q0W 7 (y0j (q03 7) (q6c (q03 9))) q4v.nd) (q09 (q1H (JW.t (q82 (q0V (w1A hu64) (JE.bor (q0a w2h (hr.mono (by decide)) rfl q0Z (q00 (q03 1) (q00 (q03 8) (q00 (q03 3) (q00 (q03 5) q06)))))) (q04 9)) (q4s (q0V (w1A hu64) (q04 9) (JE.bor (q6d (q4r (q8m) (q04 6) (JE.bor q4q)) (q6c (q0a q1V (hr.mono (by decide)) rfl q0Z (q00 (q03 8) (q00 (q03 6) q06)))))))))) (q09 (q0k q5j)) q0B))))) (q09 (q0k (q4r (q8S hu64) (q04 7) (JE.bor (q4r (q8m) (q04 6) (JE.bor q4q))))))))))))))
end
end Z
end
section
namespace Z
open PySem L2 J
theorem x9w {l:PySem.W.OpenLaw}{w:World}{K:PySem.W.Frag}{h:Heap}{mg:Str->Option Value}{fa:Addr}{q9l:Tok}{w2i:Tok}{w2j:Tok}{q9m:Tok}{w0e:Tok}{q6v:Addr}{q8w:Addr}{q8x:Addr}{q4U:Addr}{w2k w2l:Option Addr}{w2m:Array (Option Value)}{w2n w2o w2p w2q q6w w2r:Value}{q9n:Addr}{w9B w9C:Option Addr}{w9D:Array (Option Value)}{w9E w9F w9G w9H w14 w9I:Value}{w2s:Addr}{x2I x2J:Option Addr}{x2K:Array (Option Value)}{x2L x2M x2N x2O w4h x2P:Value}{q9o:Addr}{w9J w9K:Option Addr}{w9L:Array (Option Value)}{w9M w9N w9O w9P w15 w9Q:Value}{q2u:Addr}{q5J q5K:Option Addr}{q5L:Array (Option Value)}{q5M q5N q5O q5P q3r q5Q:Value}{q5R:Addr}{w4i w4j:Option Addr}{w4k:Array (Option Value)}{w4l w4m w4n w4o q7O w4p:Value}{q7g:Addr}{w6b w6c:Option Addr}{w6d:Array (Option Value)}{w6e w6f w6g w6h q9p w6i:Value}{q5S:Addr}{w4q w4r:Option Addr}{w4s:Array (Option Value)}{w4t w4u w4v w4w q7P w4x:Value}{q9q:Addr}{w9R w9S:Option Addr}{w9T:Array (Option Value)}{w9U w9V w9W w9X w16 w9Y:Value}{q9r:Addr}{w9Z x00:Option Addr}{x01:Array (Option Value)}{x02 x03 x04 x05 w17 x06:Value}{q4l:Addr}{w0f w0g:Option Addr}{w0h:Array (Option Value)}{w0i w0j w0k w0l q5p w0m:Value}{q4V:Addr}{w2t w2u:Option Addr}{w2v:Array (Option Value)}{w2w w2x w2y w2z q6x w2A:Value}{q3s:Addr}{q89 q8a:Option Addr}{q8b:Array (Option Value)}{q8c q8d q8e q8f q4w q8g:Value}{q9s:Addr}{x07 x08:Option Addr}{x09:Array (Option Value)}{x0a x0b x0c x0d w18 x0e:Value}{q5T:Addr}{w4y w4z:Option Addr}{w4A:Array (Option Value)}{w4B w4C w4D w4E q7Q w4F:Value}{q3M:Addr}{q9t q9u:Option Addr}{q9v:Array (Option Value)}{q9w q9x q9y q9z q4W q9A:Value}{q9B:Addr}{x0f x0g:Option Addr}{x0h:Array (Option Value)}{x0i x0j x0k x0l w19 x0m:Value}{q4m:Addr}{w0n w0o:Option Addr}{w0p:Array (Option Value)}{w0q w0r w0s w0t q5q w0u:Value}{q5U:Addr}{w4G w4H:Option Addr}{w4I:Array (Option Value)}{w4J w4K w4L w4M q7R w4N:Value}{w2B:Addr}{x2Q x2R:Option Addr}{x2S:Array (Option Value)}{x2T x2U x2V x2W w4O x2X:Value}{q4X:Addr}{w2C w2D:Option Addr}{w2E:Array (Option Value)}{w2F w2G w2H w2I q6y w2J:Value}{q33:Addr}{q7h q7i:Option Addr}{q7j:Array (Option Value)}{q7k q7l q7m q7n q42 q7o:Value}{q7p:Addr}{w6j w6k:Option Addr}{w6l:Array (Option Value)}{w6m w6n w6o w6p q9C w6q:Value}{w2K:Addr}{x2Y x2Z:Option Addr}{x30:Array (Option Value)}{x31 x32 x33 x34 w4P x35:Value}{w6r:Addr}{x4z x4A:Option Addr}{x4B:Array (Option Value)}{x4C x4D x4E x4F w8T x4G:Value}{q4n:Addr}{w0v w0w:Option Addr}{w0x:Array (Option Value)}{w0y w0z w0A w0B q5r w0C:Value}{q5V:Addr}{w4Q w4R:Option Addr}{w4S:Array (Option Value)}{w4T w4U w4V w4W q7S w4X:Value}{q7q:Addr}{w6s w6t:Option Addr}{w6u:Array (Option Value)}{w6v w6w w6x w6y q9D w6z:Value}{q5W:Addr}{w4Y w4Z:Option Addr}{w50:Array (Option Value)}{w51 w52 w53 w54 q7T w55:Value}{q7r:Addr}{w6A w6B:Option Addr}{w6C:Array (Option Value)}{w6D w6E w6F w6G q9E w6H:Value}{q7s:Addr}{w6I w6J:Option Addr}{w6K:Array (Option Value)}{w6L w6M w6N w6O q9F w6P:Value}{q4Y:Addr}{w2L w2M:Option Addr}{w2N:Array (Option Value)}{w2O w2P w2Q w2R q6z w2S:Value}{q7t:Addr}{w6Q w6R:Option Addr}{w6S:Array (Option Value)}{w6T w6U w6V w6W q9G w6X:Value}{q7u:Addr}{w6Y w6Z:Option Addr}{w70:Array (Option Value)}{w71 w72 w73 w74 q9H w75:Value}{q7v:Addr}{w76 w77:Option Addr}{w78:Array (Option Value)}{w79 w7a w7b w7c q9I w7d:Value}{q7w:Addr}{w7e w7f:Option Addr}{w7g:Array (Option Value)}{w7h w7i w7j w7k q9J w7l:Value}{q7x:Addr}{w7m w7n:Option Addr}{w7o:Array (Option Value)}{w7p w7q w7r w7s q9K w7t:Value}{q7y:Addr}{w7u w7v:Option Addr}{w7w:Array (Option Value)}{w7x w7y w7z w7A q9L w7B:Value}{q4Z:Addr}{w2T w2U:Option Addr}{w2V:Array (Option Value)}{w2W w2X w2Y w2Z q6A w30:Value}{q7z:Addr}{w7C w7D:Option Addr}{w7E:Array (Option Value)}{w7F w7G w7H w7I q9M w7J:Value}{q9N:Addr}{x0n x0o:Option Addr}{x0p:Array (Option Value)}{x0q x0r x0s x0t w1a x0u:Value}{x7l:Addr}{x9x x5U:Option Addr}{x9y:Array (Option Value)}{x9z x5V x5W x5X x36 x5Y:Value} (X:K.In h) (G:h.Ns mainGlobals mg) (hfa:mg "law"=some (.ref fa))
  (z_len:PySem.W.nsIn K mainGlobals "len"=some none)
  (z_isinstance:PySem.W.nsIn K mainGlobals "isinstance"=some none)
  (z_all:PySem.W.nsIn K mainGlobals "all"=some none)
  (z_any:PySem.W.nsIn K mainGlobals "any"=some none)
  (z_zip:PySem.W.nsIn K mainGlobals "zip"=some none)
  (z_tuple:PySem.W.nsIn K mainGlobals "tuple"=some none)
  (z_list:PySem.W.nsIn K mainGlobals "list"=some none)
  (z_sorted:PySem.W.nsIn K mainGlobals "sorted"=some none)
  (z_set:PySem.W.nsIn K mainGlobals "set"=some none)
  (z_range:PySem.W.nsIn K mainGlobals "range"=some none)
  (z_enumerate:PySem.W.nsIn K mainGlobals "enumerate"=some none)
  (z_dict:PySem.W.nsIn K mainGlobals "dict"=some none)
  (z_sum:PySem.W.nsIn K mainGlobals "sum"=some none)
  (z_max:PySem.W.nsIn K mainGlobals "max"=some none)
  (z_min:PySem.W.nsIn K mainGlobals "min"=some none)
  (z_reversed:PySem.W.nsIn K mainGlobals "reversed"=some none)
  (z_str:PySem.W.nsIn K mainGlobals "str"=some none)
  (z_int:PySem.W.nsIn K mainGlobals "int"=some none)
  (z_bool:PySem.W.nsIn K mainGlobals "bool"=some none)
  (q7U:PySem.W.nsIn K mainGlobals "ValueError"=some none)
  (q3N:PySem.W.nsIn K mainGlobals "MOST_LETTERS"=some (some (.int 6 q9l)))
  (q50:PySem.W.nsIn K mainGlobals "MOST_PRICE"=some (some (.int 9 w2i)))
  (q51:PySem.W.nsIn K mainGlobals "MOST_FACTS"=some (some (.int 6 w2j)))
  (q3O:PySem.W.nsIn K mainGlobals "MOST_ERRANDS"=some (some (.int 6 q9m)))
  (q4o:PySem.W.nsIn K mainGlobals "MOST_IN_ROW"=some (some (.int 64 w0e)))
  (q9O:PySem.W.nsIn K mainGlobals "NoState"=some (some (.ref q6v)))
  (w31:PySem.W.nsIn K mainGlobals "NoWant"=some (some (.ref q8w)))
  (w32:PySem.W.nsIn K mainGlobals "NoBook"=some (some (.ref q8x)))
  (q9P:PySem.W.excIn K q6v w1O "ValueError.__new__"=true)
  (q9Q:PySem.W.mroIn K q6v (.type "BaseException")=some true)
  (w33:PySem.W.excIn K q8w w1O "ValueError.__new__"=true)
  (w34:PySem.W.mroIn K q8w (.type "BaseException")=some true)
  (w35:PySem.W.excIn K q8x w1O "ValueError.__new__"=true)
  (w36:PySem.W.mroIn K q8x (.type "BaseException")=some true)
  (a_f_share_none:PySem.W.nsIn K mainGlobals "share_none"=some (some (.ref q4U)))
  (l_f_share_none:K.lookup q4U=some ⟨w2n,w2k,.func (PySem.W.fnOf "share_none" "share_none" (q0m q1l) (q0h q1l) (q02 q1l) .none w2o w2p w2q w2l q6w w2r),w2m⟩)
  (c_f_share_none:PySem.W.codeIn K q6w "share_none"=true)
  (k_f_share_none:PySem.W.keepIn K (.ref q4U)=true)
  (a_f_without:PySem.W.nsIn K mainGlobals "without"=some (some (.ref q9n)))
  (l_f_without:K.lookup q9n=some ⟨w9E,w9B,.func (PySem.W.fnOf "without" "without" (q0m q2V) (q0h q2V) (q02 q2V) .none w9F w9G w9H w9C w14 w9I),w9D⟩)
  (c_f_without:PySem.W.codeIn K w14 "without"=true)
  (k_f_without:PySem.W.keepIn K (.ref q9n)=true)
  (a_f_joined:PySem.W.nsIn K mainGlobals "joined"=some (some (.ref w2s)))
  (l_f_joined:K.lookup w2s=some ⟨x2L,x2I,.func (PySem.W.fnOf "joined" "joined" (q0m q4d) (q0h q4d) (q02 q4d) .none x2M x2N x2O x2J w4h x2P),x2K⟩)
  (c_f_joined:PySem.W.codeIn K w4h "joined"=true)
  (k_f_joined:PySem.W.keepIn K (.ref w2s)=true)
  (a_f_is_word:PySem.W.nsIn K mainGlobals "is_word"=some (some (.ref q9o)))
  (l_f_is_word:K.lookup q9o=some ⟨w9M,w9J,.func (PySem.W.fnOf "is_word" "is_word" (q0m q2W) (q0h q2W) (q02 q2W) .none w9N w9O w9P w9K w15 w9Q),w9L⟩)
  (c_f_is_word:PySem.W.codeIn K w15 "is_word"=true)
  (k_f_is_word:PySem.W.keepIn K (.ref q9o)=true)
  (a_f_are_rising_words:PySem.W.nsIn K mainGlobals "are_rising_words"=some (some (.ref q2u)))
  (l_f_are_rising_words:K.lookup q2u=some ⟨q5M,q5J,.func (PySem.W.fnOf "are_rising_words" "are_rising_words" (q0m q0w) (q0h q0w) (q02 q0w) .none q5N q5O q5P q5K q3r q5Q),q5L⟩)
  (c_f_are_rising_words:PySem.W.codeIn K q3r "are_rising_words"=true)
  (k_f_are_rising_words:PySem.W.keepIn K (.ref q2u)=true)
  (a_f_are_facts:PySem.W.nsIn K mainGlobals "are_facts"=some (some (.ref q5R)))
  (l_f_are_facts:K.lookup q5R=some ⟨w4l,w4i,.func (PySem.W.fnOf "are_facts" "are_facts" (q0m q1O) (q0h q1O) (q02 q1O) .none w4m w4n w4o w4j q7O w4p),w4k⟩)
  (c_f_are_facts:PySem.W.codeIn K q7O "are_facts"=true)
  (k_f_are_facts:PySem.W.keepIn K (.ref q5R)=true)
  (a_f_is_whole:PySem.W.nsIn K mainGlobals "is_whole"=some (some (.ref q7g)))
  (l_f_is_whole:K.lookup q7g=some ⟨w6e,w6b,.func (PySem.W.fnOf "is_whole" "is_whole" (q0m q2F) (q0h q2F) (q02 q2F) .none w6f w6g w6h w6c q9p w6i),w6d⟩)
  (c_f_is_whole:PySem.W.codeIn K q9p "is_whole"=true)
  (k_f_is_whole:PySem.W.keepIn K (.ref q7g)=true)
  (a_f_is_errand:PySem.W.nsIn K mainGlobals "is_errand"=some (some (.ref q5S)))
  (l_f_is_errand:K.lookup q5S=some ⟨w4t,w4q,.func (PySem.W.fnOf "is_errand" "is_errand" (q0m q1P) (q0h q1P) (q02 q1P) .none w4u w4v w4w w4r q7P w4x),w4s⟩)
  (c_f_is_errand:PySem.W.codeIn K q7P "is_errand"=true)
  (k_f_is_errand:PySem.W.keepIn K (.ref q5S)=true)
  (a_f_is_book:PySem.W.nsIn K mainGlobals "is_book"=some (some (.ref q9q)))
  (l_f_is_book:K.lookup q9q=some ⟨w9U,w9R,.func (PySem.W.fnOf "is_book" "is_book" (q0m q2t) (q0h q2t) (q02 q2t) .none w9V w9W w9X w9S w16 w9Y),w9T⟩)
  (c_f_is_book:PySem.W.codeIn K w16 "is_book"=true)
  (k_f_is_book:PySem.W.keepIn K (.ref q9q)=true)
  (a_f_is_want:PySem.W.nsIn K mainGlobals "is_want"=some (some (.ref q9r)))
  (l_f_is_want:K.lookup q9r=some ⟨x02,w9Z,.func (PySem.W.fnOf "is_want" "is_want" (q0m q3o) (q0h q3o) (q02 q3o) .none x03 x04 x05 x00 w17 x06),x01⟩)
  (c_f_is_want:PySem.W.codeIn K w17 "is_want"=true)
  (k_f_is_want:PySem.W.keepIn K (.ref q9r)=true)
  (a_f_check_state:PySem.W.nsIn K mainGlobals "check_state"=some (some (.ref q4l)))
  (l_f_check_state:K.lookup q4l=some ⟨w0i,w0f,.func (PySem.W.fnOf "check_state" "check_state" (q0m q1s) (q0h q1s) (q02 q1s) .none w0j w0k w0l w0g q5p w0m),w0h⟩)
  (c_f_check_state:PySem.W.codeIn K q5p "check_state"=true)
  (k_f_check_state:PySem.W.keepIn K (.ref q4l)=true)
  (a_f_check_want:PySem.W.nsIn K mainGlobals "check_want"=some (some (.ref q4V)))
  (l_f_check_want:K.lookup q4V=some ⟨w2w,w2t,.func (PySem.W.fnOf "check_want" "check_want" (q0m q1R) (q0h q1R) (q02 q1R) .none w2x w2y w2z w2u q6x w2A),w2v⟩)
  (c_f_check_want:PySem.W.codeIn K q6x "check_want"=true)
  (k_f_check_want:PySem.W.keepIn K (.ref q4V)=true)
  (a_f_errand_called:PySem.W.nsIn K mainGlobals "errand_called"=some (some (.ref q3s)))
  (l_f_errand_called:K.lookup q3s=some ⟨q8c,q89,.func (PySem.W.fnOf "errand_called" "errand_called" (q0m q11) (q0h q11) (q02 q11) .none q8d q8e q8f q8a q4w q8g),q8b⟩)
  (c_f_errand_called:PySem.W.codeIn K q4w "errand_called"=true)
  (k_f_errand_called:PySem.W.keepIn K (.ref q3s)=true)
  (a_f_fulfils:PySem.W.nsIn K mainGlobals "fulfils"=some (some (.ref q9s)))
  (l_f_fulfils:K.lookup q9s=some ⟨x0a,x07,.func (PySem.W.fnOf "fulfils" "fulfils" (q0m q2X) (q0h q2X) (q02 q2X) .none x0b x0c x0d x08 w18 x0e),x09⟩)
  (c_f_fulfils:PySem.W.codeIn K w18 "fulfils"=true)
  (k_f_fulfils:PySem.W.keepIn K (.ref q9s)=true)
  (a_f_is_doable:PySem.W.nsIn K mainGlobals "is_doable"=some (some (.ref q5T)))
  (l_f_is_doable:K.lookup q5T=some ⟨w4B,w4y,.func (PySem.W.fnOf "is_doable" "is_doable" (q0m q23) (q0h q23) (q02 q23) .none w4C w4D w4E w4z q7Q w4F),w4A⟩)
  (c_f_is_doable:PySem.W.codeIn K q7Q "is_doable"=true)
  (k_f_is_doable:PySem.W.keepIn K (.ref q5T)=true)
  (a_f_state_behind:PySem.W.nsIn K mainGlobals "state_behind"=some (some (.ref q3M)))
  (l_f_state_behind:K.lookup q3M=some ⟨q9w,q9t,.func (PySem.W.fnOf "state_behind" "state_behind" (q0m q1b) (q0h q1b) (q02 q1b) .none q9x q9y q9z q9u q4W q9A),q9v⟩)
  (c_f_state_behind:PySem.W.codeIn K q4W "state_behind"=true)
  (k_f_state_behind:PySem.W.keepIn K (.ref q3M)=true)
  (a_f_checked:PySem.W.nsIn K mainGlobals "checked"=some (some (.ref q9B)))
  (l_f_checked:K.lookup q9B=some ⟨x0i,x0f,.func (PySem.W.fnOf "checked" "checked" (q0m q3q) (q0h q3q) (q02 q3q) .none x0j x0k x0l x0g w19 x0m),x0h⟩)
  (c_f_checked:PySem.W.codeIn K w19 "checked"=true)
  (k_f_checked:PySem.W.keepIn K (.ref q9B)=true)
  (a_f_check_place:PySem.W.nsIn K mainGlobals "check_place"=some (some (.ref q4m)))
  (l_f_check_place:K.lookup q4m=some ⟨w0q,w0n,.func (PySem.W.fnOf "check_place" "check_place" (q0m q1t) (q0h q1t) (q02 q1t) .none w0r w0s w0t w0o q5q w0u),w0p⟩)
  (c_f_check_place:PySem.W.codeIn K q5q "check_place"=true)
  (k_f_check_place:PySem.W.keepIn K (.ref q4m)=true)
  (a_f_check_aim:PySem.W.nsIn K mainGlobals "check_aim"=some (some (.ref q5U)))
  (l_f_check_aim:K.lookup q5U=some ⟨w4J,w4G,.func (PySem.W.fnOf "check_aim" "check_aim" (q0m q24) (q0h q24) (q02 q24) .none w4K w4L w4M w4H q7R w4N),w4I⟩)
  (c_f_check_aim:PySem.W.codeIn K q7R "check_aim"=true)
  (k_f_check_aim:PySem.W.keepIn K (.ref q5U)=true)
  (a_f_is_row:PySem.W.nsIn K mainGlobals "is_row"=some (some (.ref w2B)))
  (l_f_is_row:K.lookup w2B=some ⟨x2T,x2Q,.func (PySem.W.fnOf "is_row" "is_row" (q0m q3C) (q0h q3C) (q02 q3C) .none x2U x2V x2W x2R w4O x2X),x2S⟩)
  (c_f_is_row:PySem.W.codeIn K w4O "is_row"=true)
  (k_f_is_row:PySem.W.keepIn K (.ref w2B)=true)
  (a_f_errands_of:PySem.W.nsIn K mainGlobals "errands_of"=some (some (.ref q4X)))
  (l_f_errands_of:K.lookup q4X=some ⟨w2F,w2C,.func (PySem.W.fnOf "errands_of" "errands_of" (q0m q1m) (q0h q1m) (q02 q1m) .none w2G w2H w2I w2D q6y w2J),w2E⟩)
  (c_f_errands_of:PySem.W.codeIn K q6y "errands_of"=true)
  (k_f_errands_of:PySem.W.keepIn K (.ref q4X)=true)
  (a_f_states_through:PySem.W.nsIn K mainGlobals "states_through"=some (some (.ref q33)))
  (l_f_states_through:K.lookup q33=some ⟨q7k,q7h,.func (PySem.W.fnOf "states_through" "states_through" (q0m q0S) (q0h q0S) (q02 q0S) .none q7l q7m q7n q7i q42 q7o),q7j⟩)
  (c_f_states_through:PySem.W.codeIn K q42 "states_through"=true)
  (k_f_states_through:PySem.W.keepIn K (.ref q33)=true)
  (a_f_asked_by:PySem.W.nsIn K mainGlobals "asked_by"=some (some (.ref q7p)))
  (l_f_asked_by:K.lookup q7p=some ⟨w6m,w6j,.func (PySem.W.fnOf "asked_by" "asked_by" (q0m q2H) (q0h q2H) (q02 q2H) .none w6n w6o w6p w6k q9C w6q),w6l⟩)
  (c_f_asked_by:PySem.W.codeIn K q9C "asked_by"=true)
  (k_f_asked_by:PySem.W.keepIn K (.ref q7p)=true)
  (a_f_serves:PySem.W.nsIn K mainGlobals "serves"=some (some (.ref w2K)))
  (l_f_serves:K.lookup w2K=some ⟨x31,x2Y,.func (PySem.W.fnOf "serves" "serves" (q0m q4i) (q0h q4i) (q02 q4i) .none x32 x33 x34 x2Z w4P x35),x30⟩)
  (c_f_serves:PySem.W.codeIn K w4P "serves"=true)
  (k_f_serves:PySem.W.keepIn K (.ref w2K)=true)
  (a_f_asked:PySem.W.nsIn K mainGlobals "asked"=some (some (.ref w6r)))
  (l_f_asked:K.lookup w6r=some ⟨x4C,x4z,.func (PySem.W.fnOf "asked" "asked" (q0m q5G) (q0h q5G) (q02 q5G) .none x4D x4E x4F x4A w8T x4G),x4B⟩)
  (c_f_asked:PySem.W.codeIn K w8T "asked"=true)
  (k_f_asked:PySem.W.keepIn K (.ref w6r)=true)
  (a_f_law_cell_at:PySem.W.nsIn K mainGlobals "_law_cell_at"=some (some (.ref q4n)))
  (l_f_law_cell_at:K.lookup q4n=some ⟨w0y,w0v,.func (PySem.W.fnOf "_law_cell_at" "_law_cell_at" (q0m q1v) (q0h q1v) (q02 q1v) .none w0z w0A w0B w0w q5r w0C),w0x⟩)
  (c_f_law_cell_at:PySem.W.codeIn K q5r "_law_cell_at"=true)
  (k_f_law_cell_at:PySem.W.keepIn K (.ref q4n)=true)
  (a_f_law_mixed:PySem.W.nsIn K mainGlobals "_law_mixed"=some (some (.ref q5V)))
  (l_f_law_mixed:K.lookup q5V=some ⟨w4T,w4Q,.func (PySem.W.fnOf "_law_mixed" "_law_mixed" (q0m q25) (q0h q25) (q02 q25) .none w4U w4V w4W w4R q7S w4X),w4S⟩)
  (c_f_law_mixed:PySem.W.codeIn K q7S "_law_mixed"=true)
  (k_f_law_mixed:PySem.W.keepIn K (.ref q5V)=true)
  (a_f_law_word:PySem.W.nsIn K mainGlobals "_law_word"=some (some (.ref q7q)))
  (l_f_law_word:K.lookup q7q=some ⟨w6v,w6s,.func (PySem.W.fnOf "_law_word" "_law_word" (q0m q2I) (q0h q2I) (q02 q2I) .none w6w w6x w6y w6t q9D w6z),w6u⟩)
  (c_f_law_word:PySem.W.codeIn K q9D "_law_word"=true)
  (k_f_law_word:PySem.W.keepIn K (.ref q7q)=true)
  (a_f_law_facts:PySem.W.nsIn K mainGlobals "_law_facts"=some (some (.ref q5W)))
  (l_f_law_facts:K.lookup q5W=some ⟨w51,w4Y,.func (PySem.W.fnOf "_law_facts" "_law_facts" (q0m q26) (q0h q26) (q02 q26) .none w52 w53 w54 w4Z q7T w55),w50⟩)
  (c_f_law_facts:PySem.W.codeIn K q7T "_law_facts"=true)
  (k_f_law_facts:PySem.W.keepIn K (.ref q5W)=true)
  (a_f_law_some:PySem.W.nsIn K mainGlobals "_law_some"=some (some (.ref q7r)))
  (l_f_law_some:K.lookup q7r=some ⟨w6D,w6A,.func (PySem.W.fnOf "_law_some" "_law_some" (q0m q2e) (q0h q2e) (q02 q2e) .none w6E w6F w6G w6B q9E w6H),w6C⟩)
  (c_f_law_some:PySem.W.codeIn K q9E "_law_some"=true)
  (k_f_law_some:PySem.W.keepIn K (.ref q7r)=true)
  (a_f_law_thin:PySem.W.nsIn K mainGlobals "_law_thin"=some (some (.ref q7s)))
  (l_f_law_thin:K.lookup q7s=some ⟨w6L,w6I,.func (PySem.W.fnOf "_law_thin" "_law_thin" (q0m q1D) (q0h q1D) (q02 q1D) .none w6M w6N w6O w6J q9F w6P),w6K⟩)
  (c_f_law_thin:PySem.W.codeIn K q9F "_law_thin"=true)
  (k_f_law_thin:PySem.W.keepIn K (.ref q7s)=true)
  (a_f_law_errand:PySem.W.nsIn K mainGlobals "_law_errand"=some (some (.ref q4Y)))
  (l_f_law_errand:K.lookup q4Y=some ⟨w2O,w2L,.func (PySem.W.fnOf "_law_errand" "_law_errand" (q0m q1n) (q0h q1n) (q02 q1n) .none w2P w2Q w2R w2M q6z w2S),w2N⟩)
  (c_f_law_errand:PySem.W.codeIn K q6z "_law_errand"=true)
  (k_f_law_errand:PySem.W.keepIn K (.ref q4Y)=true)
  (a_f_law_book:PySem.W.nsIn K mainGlobals "_law_book"=some (some (.ref q7t)))
  (l_f_law_book:K.lookup q7t=some ⟨w6T,w6Q,.func (PySem.W.fnOf "_law_book" "_law_book" (q0m q2f) (q0h q2f) (q02 q2f) .none w6U w6V w6W w6R q9G w6X),w6S⟩)
  (c_f_law_book:PySem.W.codeIn K q9G "_law_book"=true)
  (k_f_law_book:PySem.W.keepIn K (.ref q7t)=true)
  (a_f_law_want:PySem.W.nsIn K mainGlobals "_law_want"=some (some (.ref q7u)))
  (l_f_law_want:K.lookup q7u=some ⟨w71,w6Y,.func (PySem.W.fnOf "_law_want" "_law_want" (q0m q2J) (q0h q2J) (q02 q2J) .none w72 w73 w74 w6Z q9H w75),w70⟩)
  (c_f_law_want:PySem.W.codeIn K q9H "_law_want"=true)
  (k_f_law_want:PySem.W.keepIn K (.ref q7u)=true)
  (a_f_law_case:PySem.W.nsIn K mainGlobals "_law_case"=some (some (.ref q7v)))
  (l_f_law_case:K.lookup q7v=some ⟨w79,w76,.func (PySem.W.fnOf "_law_case" "_law_case" (q0m q2L) (q0h q2L) (q02 q2L) .none w7a w7b w7c w77 q9I w7d),w78⟩)
  (c_f_law_case:PySem.W.codeIn K q9I "_law_case"=true)
  (k_f_law_case:PySem.W.keepIn K (.ref q7v)=true)
  (a_f_law_good:PySem.W.nsIn K mainGlobals "_law_good"=some (some (.ref q7w)))
  (l_f_law_good:K.lookup q7w=some ⟨w7h,w7e,.func (PySem.W.fnOf "_law_good" "_law_good" (q0m q1U) (q0h q1U) (q02 q1U) .none w7i w7j w7k w7f q9J w7l),w7g⟩)
  (c_f_law_good:PySem.W.codeIn K q9J "_law_good"=true)
  (k_f_law_good:PySem.W.keepIn K (.ref q7w)=true)
  (a_f_law_step:PySem.W.nsIn K mainGlobals "_law_step"=some (some (.ref q7x)))
  (l_f_law_step:K.lookup q7x=some ⟨w7p,w7m,.func (PySem.W.fnOf "_law_step" "_law_step" (q0m q2g) (q0h q2g) (q02 q2g) .none w7q w7r w7s w7n q9K w7t),w7o⟩)
  (c_f_law_step:PySem.W.codeIn K q9K "_law_step"=true)
  (k_f_law_step:PySem.W.keepIn K (.ref q7x)=true)
  (a_f_law_walk:PySem.W.nsIn K mainGlobals "_law_walk"=some (some (.ref q7y)))
  (l_f_law_walk:K.lookup q7y=some ⟨w7x,w7u,.func (PySem.W.fnOf "_law_walk" "_law_walk" (q0m q2h) (q0h q2h) (q02 q2h) .none w7y w7z w7A w7v q9L w7B),w7w⟩)
  (c_f_law_walk:PySem.W.codeIn K q9L "_law_walk"=true)
  (k_f_law_walk:PySem.W.keepIn K (.ref q7y)=true)
  (a_f_law_states:PySem.W.nsIn K mainGlobals "_law_states"=some (some (.ref q4Z)))
  (l_f_law_states:K.lookup q4Z=some ⟨w2W,w2T,.func (PySem.W.fnOf "_law_states" "_law_states" (q0m q1o) (q0h q1o) (q02 q1o) .none w2X w2Y w2Z w2U q6A w30),w2V⟩)
  (c_f_law_states:PySem.W.codeIn K q6A "_law_states"=true)
  (k_f_law_states:PySem.W.keepIn K (.ref q4Z)=true)
  (a_f_law_does:PySem.W.nsIn K mainGlobals "_law_does"=some (some (.ref q7z)))
  (l_f_law_does:K.lookup q7z=some ⟨w7F,w7C,.func (PySem.W.fnOf "_law_does" "_law_does" (q0m q2O) (q0h q2O) (q02 q2O) .none w7G w7H w7I w7D q9M w7J),w7E⟩)
  (c_f_law_does:PySem.W.codeIn K q9M "_law_does"=true)
  (k_f_law_does:PySem.W.keepIn K (.ref q7z)=true)
  (a_f_law_all:PySem.W.nsIn K mainGlobals "_law_all"=some (some (.ref q9N)))
  (l_f_law_all:K.lookup q9N=some ⟨x0q,x0n,.func (PySem.W.fnOf "_law_all" "_law_all" (q0m q2Y) (q0h q2Y) (q02 q2Y) .none x0r x0s x0t x0o w1a x0u),x0p⟩)
  (c_f_law_all:PySem.W.codeIn K w1a "_law_all"=true)
  (k_f_law_all:PySem.W.keepIn K (.ref q9N)=true)
  (a_f_law:PySem.W.nsIn K mainGlobals "law"=some (some (.ref x7l)))
  (l_f_law:K.lookup x7l=some ⟨x9z,x9x,.func (PySem.W.fnOf "law" "law" (q0m q88) (q0h q88) (q02 q88) .none x5V x5W x5X x5U x36 x5Y),x9y⟩)
  (c_f_law:PySem.W.codeIn K x36 "law"=true)
  (k_f_law:PySem.W.keepIn K (.ref x7l)=true)
  : ∃ fd:FuncData,(∀ (s:Shared) (v:Value),BindsTo s fd ⟨[v],[]⟩ [("_law_script",v)])/\∀ base:Heap,K.In base->base.Ns mainGlobals mg->w90 l.prog w K mg base (CXR l.prog w) 10 fa fd ["_law_script"] (spO K x25):=by
 have e:=hfa.symm.trans (PySem.W.mg_of X G a_f_law)
 cases e
 refine ⟨PySem.W.fnOf "law" "law" (q0m q88) (q0h q88) (q02 q88) .none x5V x5W x5X x5U x36 x5Y,fun s v=>.of_eq rfl,fun base X G=>?_⟩
 have B:Bi mg:=⟨PySem.W.mg_none_of X G z_len,PySem.W.mg_none_of X G z_isinstance,PySem.W.mg_none_of X G z_all,PySem.W.mg_none_of X G z_any,PySem.W.mg_none_of X G z_zip,PySem.W.mg_none_of X G z_tuple,PySem.W.mg_none_of X G z_list,PySem.W.mg_none_of X G z_sorted,PySem.W.mg_none_of X G z_set,PySem.W.mg_none_of X G z_range,PySem.W.mg_none_of X G z_enumerate,PySem.W.mg_none_of X G z_dict,PySem.W.mg_none_of X G z_sum,PySem.W.mg_none_of X G z_max,PySem.W.mg_none_of X G z_min,PySem.W.mg_none_of X G z_reversed,PySem.W.mg_none_of X G z_str,PySem.W.mg_none_of X G z_int,PySem.W.mg_none_of X G z_bool⟩
 have q3J:∃ t,mg "MOST_LETTERS"=some (.int 6 t):=⟨_,PySem.W.mg_of X G q3N⟩
 have q4O:∃ t,mg "MOST_PRICE"=some (.int 9 t):=⟨_,PySem.W.mg_of X G q50⟩
 have q4P:∃ t,mg "MOST_FACTS"=some (.int 6 t):=⟨_,PySem.W.mg_of X G q51⟩
 have q3K:∃ t,mg "MOST_ERRANDS"=some (.int 6 t):=⟨_,PySem.W.mg_of X G q3O⟩
 have q4h:∃ t,mg "MOST_IN_ROW"=some (.int 64 t):=⟨_,PySem.W.mg_of X G q4o⟩
 let cls:Str->Addr:=y0o [("NoState",q6v),("NoWant",q8w),("NoBook",q8x)]
 have q9d:Er mg base cls "NoState":=x8w.er ⟨q9O,q9P,q9Q⟩ X G rfl
 have w2a:Er mg base cls "NoWant":=x8w.er ⟨w31,w33,w34⟩ X G rfl
 have w2b:Er mg base cls "NoBook":=x8w.er ⟨w32,w35,w36⟩ X G rfl
 have q7V:=q0E (st:=q1l) l_f_share_none c_f_share_none k_f_share_none
 have w56:=q7V.binds (ps:=["one","other"]) fun _ _ _ _ _ _ us hl=>by obtain ⟨_,_,rfl⟩:=ln2 hl;rfl
 have w57:=q0E (st:=q2V) l_f_without c_f_without k_f_without
 have x37:=w57.binds (ps:=["facts","others"]) fun _ _ _ _ _ _ us hl=>by obtain ⟨_,_,rfl⟩:=ln2 hl;rfl
 have w8U:=q0E (st:=q4d) l_f_joined c_f_joined k_f_joined
 have x4H:=w8U.binds (ps:=["one","other"]) fun _ _ _ _ _ _ us hl=>by obtain ⟨_,_,rfl⟩:=ln2 hl;rfl
 have w58:=q0E (st:=q2W) l_f_is_word c_f_is_word k_f_is_word
 have x38:=w58.binds (ps:=["thing"]) fun _ _ _ _ _ _ us hl=>by obtain ⟨_,rfl⟩:=ln1 hl;rfl
 have q3D:=q0E (st:=q0w) l_f_are_rising_words c_f_are_rising_words k_f_are_rising_words
 have q6B:=q3D.binds (ps:=["thing"]) fun _ _ _ _ _ _ us hl=>by obtain ⟨_,rfl⟩:=ln1 hl;rfl
 have q9R:=q0E (st:=q1O) l_f_are_facts c_f_are_facts k_f_are_facts
 have w7K:=q9R.binds (ps:=["book_facts","thing"]) fun _ _ _ _ _ _ us hl=>by obtain ⟨_,_,rfl⟩:=ln2 hl;rfl
 have w1b:=q0E (st:=q2F) l_f_is_whole c_f_is_whole k_f_is_whole
 have x0v:=w1b.binds (ps:=["thing","least","most"]) fun _ _ _ _ _ _ us hl=>by obtain ⟨_,_,_,rfl⟩:=ln3 hl;rfl
 have q9S:=q0E (st:=q1P) l_f_is_errand c_f_is_errand k_f_is_errand
 have w7L:=q9S.binds (ps:=["book_facts","thing"]) fun _ _ _ _ _ _ us hl=>by obtain ⟨_,_,rfl⟩:=ln2 hl;rfl
 have w59:=q0E (st:=q2t) l_f_is_book c_f_is_book k_f_is_book
 have x39:=w59.binds (ps:=["thing"]) fun _ _ _ _ _ _ us hl=>by obtain ⟨_,rfl⟩:=ln1 hl;rfl
 have w5a:=q0E (st:=q3o) l_f_is_want c_f_is_want k_f_is_want
 have x3a:=w5a.binds (ps:=["book","thing"]) fun _ _ _ _ _ _ us hl=>by obtain ⟨_,_,rfl⟩:=ln2 hl;rfl
 have q6C:=q0E (st:=q1s) l_f_check_state c_f_check_state k_f_check_state
 have w37:=q6C.binds (ps:=["book","state"]) fun _ _ _ _ _ _ us hl=>by obtain ⟨_,_,rfl⟩:=ln2 hl;rfl
 have q7W:=q0E (st:=q1R) l_f_check_want c_f_check_want k_f_check_want
 have w5b:=q7W.binds (ps:=["book","want"]) fun _ _ _ _ _ _ us hl=>by obtain ⟨_,_,rfl⟩:=ln2 hl;rfl
 have q52:=q0E (st:=q11) l_f_errand_called c_f_errand_called k_f_errand_called
 have q9T:=q52.binds (ps:=["book","name"]) fun _ _ _ _ _ _ us hl=>by obtain ⟨_,_,rfl⟩:=ln2 hl;rfl
 have w5c:=q0E (st:=q2X) l_f_fulfils c_f_fulfils k_f_fulfils
 have x3b:=w5c.binds (ps:=["state","want"]) fun _ _ _ _ _ _ us hl=>by obtain ⟨_,_,rfl⟩:=ln2 hl;rfl
 have q9U:=q0E (st:=q23) l_f_is_doable c_f_is_doable k_f_is_doable
 have w7M:=q9U.binds (ps:=["errand","state"]) fun _ _ _ _ _ _ us hl=>by obtain ⟨_,_,rfl⟩:=ln2 hl;rfl
 have q5s:=q0E (st:=q1b) l_f_state_behind c_f_state_behind k_f_state_behind
 have w0D:=q5s.binds (ps:=["errand","state"]) fun _ _ _ _ _ _ us hl=>by obtain ⟨_,_,rfl⟩:=ln2 hl;rfl
 have w5d:=q0E (st:=q3q) l_f_checked c_f_checked k_f_checked
 have x3c:=w5d.binds (ps:=["book"]) fun _ _ _ _ _ _ us hl=>by obtain ⟨_,rfl⟩:=ln1 hl;rfl
 have q6D:=q0E (st:=q1t) l_f_check_place c_f_check_place k_f_check_place
 have w38:=q6D.binds (ps:=["book","state"]) fun _ _ _ _ _ _ us hl=>by obtain ⟨_,_,rfl⟩:=ln2 hl;rfl
 have q9V:=q0E (st:=q24) l_f_check_aim c_f_check_aim k_f_check_aim
 have w7N:=q9V.binds (ps:=["book","state","want"]) fun _ _ _ _ _ _ us hl=>by obtain ⟨_,_,_,rfl⟩:=ln3 hl;rfl
 have w8V:=q0E (st:=q3C) l_f_is_row c_f_is_row k_f_is_row
 have x4I:=w8V.binds (ps:=["book","thing"]) fun _ _ _ _ _ _ us hl=>by obtain ⟨_,_,rfl⟩:=ln2 hl;rfl
 have q7X:=q0E (st:=q1m) l_f_errands_of c_f_errands_of k_f_errands_of
 have w5e:=q7X.binds (ps:=["book","row"]) fun _ _ _ _ _ _ us hl=>by obtain ⟨_,_,rfl⟩:=ln2 hl;rfl
 have q4x:=q0E (st:=q0S) l_f_states_through c_f_states_through k_f_states_through
 have q8h:=q4x.binds (ps:=["errands","state"]) fun _ _ _ _ _ _ us hl=>by obtain ⟨_,_,rfl⟩:=ln2 hl;rfl
 have w1c:=q0E (st:=q2H) l_f_asked_by c_f_asked_by k_f_asked_by
 have x0w:=w1c.binds (ps:=["errand","want"]) fun _ _ _ _ _ _ us hl=>by obtain ⟨_,_,rfl⟩:=ln2 hl;rfl
 have w8W:=q0E (st:=q4i) l_f_serves c_f_serves k_f_serves
 have x4J:=w8W.binds (ps:=["book","state","want","row"]) fun _ _ _ _ _ _ us hl=>by obtain ⟨_,_,_,_,rfl⟩:=ln4 hl;rfl
 have x3d:=q0E (st:=q5G) l_f_asked c_f_asked k_f_asked
 have x7m:=x3d.binds (ps:=["book","want","row"]) fun _ _ _ _ _ _ us hl=>by obtain ⟨_,_,_,rfl⟩:=ln3 hl;rfl
 have q6E:=q0E (st:=q1v) l_f_law_cell_at c_f_law_cell_at k_f_law_cell_at
 have w39:=q6E.binds (ps:=["_law_script","_law_k"]) fun _ _ _ _ _ _ us hl=>by obtain ⟨_,_,rfl⟩:=ln2 hl;rfl
 have q9W:=q0E (st:=q25) l_f_law_mixed c_f_law_mixed k_f_law_mixed
 have w7O:=q9W.binds (ps:=["_law_script","_law_k","_law_many"]) fun _ _ _ _ _ _ us hl=>by obtain ⟨_,_,_,rfl⟩:=ln3 hl;rfl
 have w1d:=q0E (st:=q2I) l_f_law_word c_f_law_word k_f_law_word
 have x0x:=w1d.binds (ps:=["_law_script","_law_at"]) fun _ _ _ _ _ _ us hl=>by obtain ⟨_,_,rfl⟩:=ln2 hl;rfl
 have q9X:=q0E (st:=q26) l_f_law_facts c_f_law_facts k_f_law_facts
 have w7P:=q9X.binds (ps:=["_law_script","_law_at","_law_most"]) fun _ _ _ _ _ _ us hl=>by obtain ⟨_,_,_,rfl⟩:=ln3 hl;rfl
 have w1e:=q0E (st:=q2e) l_f_law_some c_f_law_some k_f_law_some
 have x0y:=w1e.binds (ps:=["_law_script","_law_at","_law_facts_here","_law_part"]) fun _ _ _ _ _ _ us hl=>by obtain ⟨_,_,_,_,rfl⟩:=ln4 hl;rfl
 have w1f:=q0E (st:=q1D) l_f_law_thin c_f_law_thin k_f_law_thin
 have x0z:=w1f.binds (ps:=["_law_script","_law_at","_law_facts_here","_law_name"]) fun _ _ _ _ _ _ us hl=>by obtain ⟨_,_,_,_,rfl⟩:=ln4 hl;rfl
 have q7Y:=q0E (st:=q1n) l_f_law_errand c_f_law_errand k_f_law_errand
 have w5f:=q7Y.binds (ps:=["_law_script","_law_at","_law_facts_here","_law_name"]) fun _ _ _ _ _ _ us hl=>by obtain ⟨_,_,_,_,rfl⟩:=ln4 hl;rfl
 have w1g:=q0E (st:=q2f) l_f_law_book c_f_law_book k_f_law_book
 have x0A:=w1g.binds (ps:=["_law_script","_law_at","_law_most","_law_many"]) fun _ _ _ _ _ _ us hl=>by obtain ⟨_,_,_,_,rfl⟩:=ln4 hl;rfl
 have w1h:=q0E (st:=q2J) l_f_law_want c_f_law_want k_f_law_want
 have x0B:=w1h.binds (ps:=["_law_script","_law_at","_law_facts_here"]) fun _ _ _ _ _ _ us hl=>by obtain ⟨_,_,_,rfl⟩:=ln3 hl;rfl
 have w1i:=q0E (st:=q2L) l_f_law_case c_f_law_case k_f_law_case
 have x0C:=w1i.binds (ps:=["_law_script","_law_most","_law_many"]) fun _ _ _ _ _ _ us hl=>by obtain ⟨_,_,_,rfl⟩:=ln3 hl;rfl
 have w1j:=q0E (st:=q1U) l_f_law_good c_f_law_good k_f_law_good
 have x0D:=w1j.binds (ps:=["_law_state","_law_want_here"]) fun _ _ _ _ _ _ us hl=>by obtain ⟨_,_,rfl⟩:=ln2 hl;rfl
 have w1k:=q0E (st:=q2g) l_f_law_step c_f_law_step k_f_law_step
 have x0E:=w1k.binds (ps:=["_law_errand_here","_law_state"]) fun _ _ _ _ _ _ us hl=>by obtain ⟨_,_,rfl⟩:=ln2 hl;rfl
 have w1l:=q0E (st:=q2h) l_f_law_walk c_f_law_walk k_f_law_walk
 have x0F:=w1l.binds (ps:=["_law_script","_law_at","_law_book_here","_law_state","_law_many"]) fun _ _ _ _ _ _ us hl=>by obtain ⟨_,_,_,_,_,rfl⟩:=ln5 hl;rfl
 have q7Z:=q0E (st:=q1o) l_f_law_states c_f_law_states k_f_law_states
 have w5g:=q7Z.binds (ps:=["_law_book_here","_law_state","_law_row"]) fun _ _ _ _ _ _ us hl=>by obtain ⟨_,_,_,rfl⟩:=ln3 hl;rfl
 have w1m:=q0E (st:=q2O) l_f_law_does c_f_law_does k_f_law_does
 have x0G:=w1m.binds (ps:=["_law_book_here","_law_state","_law_want_here","_law_row"]) fun _ _ _ _ _ _ us hl=>by obtain ⟨_,_,_,_,rfl⟩:=ln4 hl;rfl
 have w5h:=q0E (st:=q2Y) l_f_law_all c_f_law_all k_f_law_all
 have x3e:=w5h.binds (ps:=["_law_facts_here"]) fun _ _ _ _ _ _ us hl=>by obtain ⟨_,rfl⟩:=ln1 hl;rfl
 have y0J:=q0E (st:=q88) l_f_law c_f_law k_f_law
 have q0A:=w27 (P:=l.prog) (w:=w) (base:=base) (cls:=cls) q7V (PySem.W.mg_of X G a_f_share_none) w56 B
 have q3p:=w9s (P:=l.prog) (w:=w) (base:=base) (cls:=cls) w57 (PySem.W.mg_of X G a_f_without) x37 B
 have q4e:=x2E (P:=l.prog) (w:=w) (base:=base) (cls:=cls) w8U (PySem.W.mg_of X G a_f_joined) x4H B
 have q3Z:=w9u (P:=l.prog) (w:=w) (base:=base) (cls:=cls) w58 (PySem.W.mg_of X G a_f_is_word) x38 B q3J
 have q0R:=q5C (P:=l.prog) (w:=w) (base:=base) (cls:=cls) q3D (PySem.W.mg_of X G a_f_are_rising_words) q6B B q3Z
 have q1a:=w49 (P:=l.prog) (w:=w) (base:=base) (cls:=cls) q9R (PySem.W.mg_of X G a_f_are_facts) w7K B q0R
 have q73:=w5W (P:=l.prog) (w:=w) (base:=base) (cls:=cls) w1b (PySem.W.mg_of X G a_f_is_whole) x0v B
 have q5D:=w4a (P:=l.prog) (w:=w) (base:=base) (cls:=cls) q9S (PySem.W.mg_of X G a_f_is_errand) w7L B q3Z q73 q1a q0A q4O
 have q9g:=w9v (P:=l.prog) (w:=w) (base:=base) (cls:=cls) w59 (PySem.W.mg_of X G a_f_is_book) x39 B q0R q5D q4P q3K
 have q9e:=w9w (P:=l.prog) (w:=w) (base:=base) (cls:=cls) w5a (PySem.W.mg_of X G a_f_is_want) x3a B q1a q0A
 have q4f:=w09 (P:=l.prog) (w:=w) (base:=base) (cls:=cls) q6C (PySem.W.mg_of X G a_f_check_state) w37 B q1a q9d
 have q2c:=w29 (P:=l.prog) (w:=w) (base:=base) (cls:=cls) q7W (PySem.W.mg_of X G a_f_check_want) w5b B q9e w2a
 have q1j:=q87 (P:=l.prog) (w:=w) (base:=base) (cls:=cls) q52 (PySem.W.mg_of X G a_f_errand_called) q9T B
 have q40:=w9x (P:=l.prog) (w:=w) (base:=base) (cls:=cls) w5c (PySem.W.mg_of X G a_f_fulfils) x3b B q0A
 have q5E:=w4c (P:=l.prog) (w:=w) (base:=base) (cls:=cls) q9U (PySem.W.mg_of X G a_f_is_doable) w7M B q40
 have q3L:=q9f (P:=l.prog) (w:=w) (base:=base) (cls:=cls) q5s (PySem.W.mg_of X G a_f_state_behind) w0D B q3p q4e
 have q41:=w9z (P:=l.prog) (w:=w) (base:=base) (cls:=cls) w5d (PySem.W.mg_of X G a_f_checked) x3c B q9g w2b
 have q4g:=w0b (P:=l.prog) (w:=w) (base:=base) (cls:=cls) q6D (PySem.W.mg_of X G a_f_check_place) w38 B q41 q4f
 have q5F:=w4e (P:=l.prog) (w:=w) (base:=base) (cls:=cls) q9V (PySem.W.mg_of X G a_f_check_aim) w7N B q4g q2c
 have w2e:=x2G (P:=l.prog) (w:=w) (base:=base) (cls:=cls) w8V (PySem.W.mg_of X G a_f_is_row) x4I B q1j q4h
 have q2d:=w2d (P:=l.prog) (w:=w) (base:=base) (cls:=cls) q7X (PySem.W.mg_of X G a_f_errands_of) w5e B w2e q1j
 have q32:=q77 (P:=l.prog) (w:=w) (base:=base) (cls:=cls) q4x (PySem.W.mg_of X G a_f_states_through) q8h B q5E q3L
 have q78:=w5X (P:=l.prog) (w:=w) (base:=base) (cls:=cls) w1c (PySem.W.mg_of X G a_f_asked_by) x0w B q0A q3p q4e
 have w2h:=x2H (P:=l.prog) (w:=w) (base:=base) (cls:=cls) w8W (PySem.W.mg_of X G a_f_serves) x4J B q5F q2d q32 q40
 have w6a:=x4y (P:=l.prog) (w:=w) (base:=base) (cls:=cls) x3d (PySem.W.mg_of X G a_f_asked) x7m B q41 q2c q78 q2d
 have q4j:=w0d (P:=l.prog) (w:=w) (base:=base) (cls:=cls) q6E (PySem.W.mg_of X G a_f_law_cell_at) w39 B
 have q0b:=w4f (P:=l.prog) (w:=w) (base:=base) (cls:=cls) q9W (PySem.W.mg_of X G a_f_law_mixed) w7O B q4j
 have q3e:=w5Y (P:=l.prog) (w:=w) (base:=base) (cls:=cls) w1d (PySem.W.mg_of X G a_f_law_word) x0x B q0b
 have q5H:=w4g (P:=l.prog) (w:=w) (base:=base) (cls:=cls) q9X (PySem.W.mg_of X G a_f_law_facts) w7P B q3e q0b
 have q7b:=w60 (P:=l.prog) (w:=w) (base:=base) (cls:=cls) w1e (PySem.W.mg_of X G a_f_law_some) x0y B q0b
 have q79:=w61 (P:=l.prog) (w:=w) (base:=base) (cls:=cls) w1f (PySem.W.mg_of X G a_f_law_thin) x0z B q0b
 have q4S:=w2f (P:=l.prog) (w:=w) (base:=base) (cls:=cls) q7Y (PySem.W.mg_of X G a_f_law_errand) w5f B q0b q79
 have q7a:=w62 (P:=l.prog) (w:=w) (base:=base) (cls:=cls) w1g (PySem.W.mg_of X G a_f_law_book) x0A B q5H q3e q4S q0b
 have q7c:=w63 (P:=l.prog) (w:=w) (base:=base) (cls:=cls) w1h (PySem.W.mg_of X G a_f_law_want) x0B B q0b
 have q7d:=w64 (P:=l.prog) (w:=w) (base:=base) (cls:=cls) w1i (PySem.W.mg_of X G a_f_law_case) x0C B q7a q0b q7b q7c
 have q1V:=w66 (P:=l.prog) (w:=w) (base:=base) (cls:=cls) w1j (PySem.W.mg_of X G a_f_law_good) x0D B
 have q2N:=w67 (P:=l.prog) (w:=w) (base:=base) (cls:=cls) w1k (PySem.W.mg_of X G a_f_law_step) x0E B q1V
 have q7e:=w68 (P:=l.prog) (w:=w) (base:=base) (cls:=cls) w1l (PySem.W.mg_of X G a_f_law_walk) x0F B q2N q0b
 have q4T:=w2g (P:=l.prog) (w:=w) (base:=base) (cls:=cls) q7Z (PySem.W.mg_of X G a_f_law_states) w5g B q2N
 have q7f:=w69 (P:=l.prog) (w:=w) (base:=base) (cls:=cls) w1m (PySem.W.mg_of X G a_f_law_does) x0G B q4T q1V
 have q9k:=w9A (P:=l.prog) (w:=w) (base:=base) (cls:=cls) w5h (PySem.W.mg_of X G a_f_law_all) x3e B
 exact (x9v (P:=l.prog) (w:=w) (base:=base) (cls:=cls) y0J B q7d q0b q7e w6a q7f w2h q1V q9k).imp x8x
end Z
end
section
open PySem PySem.W PyProof.Rows
def PySem.W.Fast.tw7230047319836824607:Nat:=0
def PySem.W.Fast.tw3038219627253978120:Nat:=0
def PySem.W.Fast.tw18116166955364997346:Nat:=0
def PySem.W.Fast.tw17827512449350643021:Nat:=0
def PySem.W.Fast.tw5722843896452736229:Nat:=0
def PySem.W.Fast.tw13718527947322146515:Nat:=0
def PySem.W.Fast.tw7785336058278752231:Nat:=0
def PySem.W.Fast.tw3296047395191601598:Nat:=0
def PySem.W.Fast.tw6405126201176485099:Nat:=0
def PySem.W.Fast.tw18134730227799844296:Nat:=0
def PySem.W.Fast.tw2767603811436362662:Nat:=0
def PySem.W.Fast.tw2265977950575294595:Nat:=0
def PySem.W.Fast.tw3809087479662463809:Nat:=0
def PySem.W.Fast.tw6875429234392320518:Nat:=0
def PySem.W.Fast.tw1310135087166346896:Nat:=0
def PySem.W.Fast.tw2926887072773000453:Nat:=0
def PySem.W.Fast.tw13653141643109552920:Nat:=0
def PySem.W.Fast.tw3605573629157524901:Nat:=0
def PySem.W.Fast.tw14391547776106491952:Nat:=0
def PySem.W.Fast.tw1695463312449629770:Nat:=0
def PySem.W.Fast.tw10870201754019639277:Nat:=0
def PySem.W.Fast.tw5757128563350072264:Nat:=0
def PySem.W.Fast.tw9248136964498702904:Nat:=0
def PySem.W.Fast.tw5104606454372698891:Nat:=0
def PySem.W.Fast.tw18185207583477463473:Nat:=0
def PySem.W.Fast.tw4072815428176838908:Nat:=0
def PySem.W.Fast.tw16643087518580559535:Nat:=0
def PySem.W.Fast.tw15458396825336147787:Nat:=0
def PySem.W.Fast.tw16891064977253787877:Nat:=0
def PySem.W.Fast.tw6691351328696041773:Nat:=0
def PySem.W.Fast.tw2543811479723592858:Nat:=0
def PySem.W.Fast.tw3151013745902167930:Nat:=0
def PySem.W.Fast.tw17176047339299416895:Nat:=0
def PySem.W.Fast.tw8920775350997685212:Nat:=0
def PySem.W.Fast.tw6882534986261784455:Nat:=0
def PySem.W.Fast.tw10813377876826302063:Nat:=0
def PySem.W.Fast.tw7650532747502766820:Nat:=0
def PySem.W.Fast.tw5706364734590015793:Nat:=0
theorem PySem.Challenge.cw_errands_k06_whole_asked_holds : PySem.Challenge.rw_errands_k06_whole_asked.Holds := by
 w_on;o_law;k_head;(case hw=>w_witness2)
 k_fill
 refine J.y0p (l:=PySem.Challenge.rw_errands_k06_whole_asked) (k:=10) (x:="_law_script") (F0:=Z.x25) rfl rfl ⟨rfl,by decide,by decide⟩ (fun w h Y=>PySem.W.kIn_of Y) ?F (fun ns _=>Z.law_true ns)
 case F =>
  intro w mg fa h KX G hmg
  refine' Z.x9w KX G hmg ?z_len ?z_isinstance ?z_all ?z_any ?z_zip ?z_tuple ?z_list ?z_sorted ?z_set ?z_range ?z_enumerate ?z_dict ?z_sum ?z_max ?z_min ?z_reversed ?z_str ?z_int ?z_bool ?q7U ?q3N ?q50 ?q51 ?q3O ?q4o ?q9O ?w31 ?w32 ?q9P ?q9Q ?w33 ?w34 ?w35 ?w36 ?a_f_share_none ?l_f_share_none ?c_f_share_none ?k_f_share_none ?a_f_without ?l_f_without ?c_f_without ?k_f_without ?a_f_joined ?l_f_joined ?c_f_joined ?k_f_joined ?a_f_is_word ?l_f_is_word ?c_f_is_word ?k_f_is_word ?a_f_are_rising_words ?l_f_are_rising_words ?c_f_are_rising_words ?k_f_are_rising_words ?a_f_are_facts ?l_f_are_facts ?c_f_are_facts ?k_f_are_facts ?a_f_is_whole ?l_f_is_whole ?c_f_is_whole ?k_f_is_whole ?a_f_is_errand ?l_f_is_errand ?c_f_is_errand ?k_f_is_errand ?a_f_is_book ?l_f_is_book ?c_f_is_book ?k_f_is_book ?a_f_is_want ?l_f_is_want ?c_f_is_want ?k_f_is_want ?a_f_check_state ?l_f_check_state ?c_f_check_state ?k_f_check_state ?a_f_check_want ?l_f_check_want ?c_f_check_want ?k_f_check_want ?a_f_errand_called ?l_f_errand_called ?c_f_errand_called ?k_f_errand_called ?a_f_fulfils ?l_f_fulfils ?c_f_fulfils ?k_f_fulfils ?a_f_is_doable ?l_f_is_doable ?c_f_is_doable ?k_f_is_doable ?a_f_state_behind ?l_f_state_behind ?c_f_state_behind ?k_f_state_behind ?a_f_checked ?l_f_checked ?c_f_checked ?k_f_checked ?a_f_check_place ?l_f_check_place ?c_f_check_place ?k_f_check_place ?a_f_check_aim ?l_f_check_aim ?c_f_check_aim ?k_f_check_aim ?a_f_is_row ?l_f_is_row ?c_f_is_row ?k_f_is_row ?a_f_errands_of ?l_f_errands_of ?c_f_errands_of ?k_f_errands_of ?a_f_states_through ?l_f_states_through ?c_f_states_through ?k_f_states_through ?a_f_asked_by ?l_f_asked_by ?c_f_asked_by ?k_f_asked_by ?a_f_serves ?l_f_serves ?c_f_serves ?k_f_serves ?a_f_asked ?l_f_asked ?c_f_asked ?k_f_asked ?a_f_law_cell_at ?l_f_law_cell_at ?c_f_law_cell_at ?k_f_law_cell_at ?a_f_law_mixed ?l_f_law_mixed ?c_f_law_mixed ?k_f_law_mixed ?a_f_law_word ?l_f_law_word ?c_f_law_word ?k_f_law_word ?a_f_law_facts ?l_f_law_facts ?c_f_law_facts ?k_f_law_facts ?a_f_law_some ?l_f_law_some ?c_f_law_some ?k_f_law_some ?a_f_law_thin ?l_f_law_thin ?c_f_law_thin ?k_f_law_thin ?a_f_law_errand ?l_f_law_errand ?c_f_law_errand ?k_f_law_errand ?a_f_law_book ?l_f_law_book ?c_f_law_book ?k_f_law_book ?a_f_law_want ?l_f_law_want ?c_f_law_want ?k_f_law_want ?a_f_law_case ?l_f_law_case ?c_f_law_case ?k_f_law_case ?a_f_law_good ?l_f_law_good ?c_f_law_good ?k_f_law_good ?a_f_law_step ?l_f_law_step ?c_f_law_step ?k_f_law_step ?a_f_law_walk ?l_f_law_walk ?c_f_law_walk ?k_f_law_walk ?a_f_law_states ?l_f_law_states ?c_f_law_states ?k_f_law_states ?a_f_law_does ?l_f_law_does ?c_f_law_does ?k_f_law_does ?a_f_law_all ?l_f_law_all ?c_f_law_all ?k_f_law_all ?a_f_law ?l_f_law ?c_f_law ?k_f_law
  (case z_len=>k_is)
  (case z_isinstance=>k_is)
  (case z_all=>k_is)
  (case z_any=>k_is)
  (case z_zip=>k_is)
  (case z_tuple=>k_is)
  (case z_list=>k_is)
  (case z_sorted=>k_is)
  (case z_set=>k_is)
  (case z_range=>k_is)
  (case z_enumerate=>k_is)
  (case z_dict=>k_is)
  (case z_sum=>k_is)
  (case z_max=>k_is)
  (case z_min=>k_is)
  (case z_reversed=>k_is)
  (case z_str=>k_is)
  (case z_int=>k_is)
  (case z_bool=>k_is)
  (case q7U=>k_is)
  (case q3N=>k_is)
  (case q50=>k_is)
  (case q51=>k_is)
  (case q3O=>k_is)
  (case q4o=>k_is)
  (case q9O=>k_is)
  (case w31=>k_is)
  (case w32=>k_is)
  (case q9P=>k_exc)
  (case q9Q=>k_is)
  (case w33=>k_exc)
  (case w34=>k_is)
  (case w35=>k_exc)
  (case w36=>k_is)
  (case a_f_share_none=>k_is)
  (case l_f_share_none=>k_is)
  (case c_f_share_none=>k_is)
  (case k_f_share_none=>k_is)
  (case a_f_without=>k_is)
  (case l_f_without=>k_is)
  (case c_f_without=>k_is)
  (case k_f_without=>k_is)
  (case a_f_joined=>k_is)
  (case l_f_joined=>k_is)
  (case c_f_joined=>k_is)
  (case k_f_joined=>k_is)
  (case a_f_is_word=>k_is)
  (case l_f_is_word=>k_is)
  (case c_f_is_word=>k_is)
  (case k_f_is_word=>k_is)
  (case a_f_are_rising_words=>k_is)
  (case l_f_are_rising_words=>k_is)
  (case c_f_are_rising_words=>k_is)
  (case k_f_are_rising_words=>k_is)
  (case a_f_are_facts=>k_is)
  (case l_f_are_facts=>k_is)
  (case c_f_are_facts=>k_is)
  (case k_f_are_facts=>k_is)
  (case a_f_is_whole=>k_is)
  (case l_f_is_whole=>k_is)
  (case c_f_is_whole=>k_is)
  (case k_f_is_whole=>k_is)
  (case a_f_is_errand=>k_is)
  (case l_f_is_errand=>k_is)
  (case c_f_is_errand=>k_is)
  (case k_f_is_errand=>k_is)
  (case a_f_is_book=>k_is)
  (case l_f_is_book=>k_is)
  (case c_f_is_book=>k_is)
  (case k_f_is_book=>k_is)
  (case a_f_is_want=>k_is)
  (case l_f_is_want=>k_is)
  (case c_f_is_want=>k_is)
  (case k_f_is_want=>k_is)
  (case a_f_check_state=>k_is)
  (case l_f_check_state=>k_is)
  (case c_f_check_state=>k_is)
  (case k_f_check_state=>k_is)
  (case a_f_check_want=>k_is)
  (case l_f_check_want=>k_is)
  (case c_f_check_want=>k_is)
  (case k_f_check_want=>k_is)
  (case a_f_errand_called=>k_is)
  (case l_f_errand_called=>k_is)
  (case c_f_errand_called=>k_is)
  (case k_f_errand_called=>k_is)
  (case a_f_fulfils=>k_is)
  (case l_f_fulfils=>k_is)
  (case c_f_fulfils=>k_is)
  (case k_f_fulfils=>k_is)
  (case a_f_is_doable=>k_is)
  (case l_f_is_doable=>k_is)
  (case c_f_is_doable=>k_is)
  (case k_f_is_doable=>k_is)
  (case a_f_state_behind=>k_is)
  (case l_f_state_behind=>k_is)
  (case c_f_state_behind=>k_is)
  (case k_f_state_behind=>k_is)
  (case a_f_checked=>k_is)
  (case l_f_checked=>k_is)
  (case c_f_checked=>k_is)
  (case k_f_checked=>k_is)
  (case a_f_check_place=>k_is)
  (case l_f_check_place=>k_is)
  (case c_f_check_place=>k_is)
  (case k_f_check_place=>k_is)
  (case a_f_check_aim=>k_is)
  (case l_f_check_aim=>k_is)
  (case c_f_check_aim=>k_is)
  (case k_f_check_aim=>k_is)
  (case a_f_is_row=>k_is)
  (case l_f_is_row=>k_is)
  (case c_f_is_row=>k_is)
  (case k_f_is_row=>k_is)
  (case a_f_errands_of=>k_is)
  (case l_f_errands_of=>k_is)
  (case c_f_errands_of=>k_is)
  (case k_f_errands_of=>k_is)
  (case a_f_states_through=>k_is)
  (case l_f_states_through=>k_is)
  (case c_f_states_through=>k_is)
  (case k_f_states_through=>k_is)
  (case a_f_asked_by=>k_is)
  (case l_f_asked_by=>k_is)
  (case c_f_asked_by=>k_is)
  (case k_f_asked_by=>k_is)
  (case a_f_serves=>k_is)
  (case l_f_serves=>k_is)
  (case c_f_serves=>k_is)
  (case k_f_serves=>k_is)
  (case a_f_asked=>k_is)
  (case l_f_asked=>k_is)
  (case c_f_asked=>k_is)
  (case k_f_asked=>k_is)
  (case a_f_law_cell_at=>k_is)
  (case l_f_law_cell_at=>k_is)
  (case c_f_law_cell_at=>k_is)
  (case k_f_law_cell_at=>k_is)
  (case a_f_law_mixed=>k_is)
  (case l_f_law_mixed=>k_is)
  (case c_f_law_mixed=>k_is)
  (case k_f_law_mixed=>k_is)
  (case a_f_law_word=>k_is)
  (case l_f_law_word=>k_is)
  (case c_f_law_word=>k_is)
  (case k_f_law_word=>k_is)
  (case a_f_law_facts=>k_is)
  (case l_f_law_facts=>k_is)
  (case c_f_law_facts=>k_is)
  (case k_f_law_facts=>k_is)
  (case a_f_law_some=>k_is)
  (case l_f_law_some=>k_is)
  (case c_f_law_some=>k_is)
  (case k_f_law_some=>k_is)
  (case a_f_law_thin=>k_is)
  (case l_f_law_thin=>k_is)
  (case c_f_law_thin=>k_is)
  (case k_f_law_thin=>k_is)
  (case a_f_law_errand=>k_is)
  (case l_f_law_errand=>k_is)
  (case c_f_law_errand=>k_is)
  (case k_f_law_errand=>k_is)
  (case a_f_law_book=>k_is)
  (case l_f_law_book=>k_is)
  (case c_f_law_book=>k_is)
  (case k_f_law_book=>k_is)
  (case a_f_law_want=>k_is)
  (case l_f_law_want=>k_is)
  (case c_f_law_want=>k_is)
  (case k_f_law_want=>k_is)
  (case a_f_law_case=>k_is)
  (case l_f_law_case=>k_is)
  (case c_f_law_case=>k_is)
  (case k_f_law_case=>k_is)
  (case a_f_law_good=>k_is)
  (case l_f_law_good=>k_is)
  (case c_f_law_good=>k_is)
  (case k_f_law_good=>k_is)
  (case a_f_law_step=>k_is)
  (case l_f_law_step=>k_is)
  (case c_f_law_step=>k_is)
  (case k_f_law_step=>k_is)
  (case a_f_law_walk=>k_is)
  (case l_f_law_walk=>k_is)
  (case c_f_law_walk=>k_is)
  (case k_f_law_walk=>k_is)
  (case a_f_law_states=>k_is)
  (case l_f_law_states=>k_is)
  (case c_f_law_states=>k_is)
  (case k_f_law_states=>k_is)
  (case a_f_law_does=>k_is)
  (case l_f_law_does=>k_is)
  (case c_f_law_does=>k_is)
  (case k_f_law_does=>k_is)
  (case a_f_law_all=>k_is)
  (case l_f_law_all=>k_is)
  (case c_f_law_all=>k_is)
  (case k_f_law_all=>k_is)
  (case a_f_law=>k_is)
  (case l_f_law=>k_is)
  (case c_f_law=>k_is)
  (case k_f_law=>k_is)
end
