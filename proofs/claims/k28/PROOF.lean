import PyProof.Rows.All
import Wide.All
import OpenK.AllK
import Wide.FinOn
import Lean
import PyProof.EqAt
import PyProof.EqKinds
import PyProof.TupleCall
import PySem.Challenge.RW_errands_k28_seen
set_option Elab.async false
set_option linter.all false
set_option maxRecDepth 100000
set_option maxHeartbeats 0
section
namespace L2
open PySem PySem.Spec PyProof.Rows
abbrev Key:=Sum Int Str
def w2U:Key->Value->Bool
 | .inl k,v=>Value.isInt k v
 | .inr x,v=>Value.isStrOf x v
def x7i (w:World):Key->Int
 | .inl k=>hashInt k
 | .inr x=>hashStr w x
theorem q17:∀ {k:Key}{v:Value},w2U k v=true->(∃ i t,k=Sum.inl i/\v=Value.int i t)\/(∃ x t,k=Sum.inr x/\v=Value.str x t)
 | .inl i,v,h=>by
  obtain ⟨t,e⟩:=Value.isInt_shape (k:=i) (v:=v) h
  exact .inl ⟨i,t,rfl,e⟩
 | .inr x,v,h=>by
  obtain ⟨t,e⟩:=Value.isStrOf_shape (x:=x) (v:=v) h
  exact .inr ⟨x,t,rfl,e⟩
theorem w6Y (i:Int) (t:Tok):w2U (.inl i) (.int i t)=true:=by simp [w2U,Value.isInt]
theorem w6Z (x:Str) (t:Tok):w2U (.inr x) (.str x t)=true:=by simp [w2U,Value.isStrOf]
theorem x3m (a b:Int):decide ((Sum.inl a:Key)=Sum.inl b)=(a == b):=by
 by_cases e:a=b
 ·subst e;simp
 ·have h:¬ (Sum.inl a:Key)=Sum.inl b:=fun q=>e (Sum.inl.inj q)
  rw [decide_eq_false h]
  exact (beq_eq_false_iff_ne.mpr e).symm
theorem x3n (a b:Str):decide ((Sum.inr a:Key)=Sum.inr b)=decide (a=b):=by
 by_cases e:a=b
 ·subst e;simp
 ·have h:¬ (Sum.inr a:Key)=Sum.inr b:=fun q=>e (Sum.inr.inj q)
  rw [decide_eq_false h,decide_eq_false e]
theorem x3o (a:Int) (b:Str):decide ((Sum.inl a:Key)=Sum.inr b)=false:=decide_eq_false (fun q=>nomatch q)
theorem x3p (a:Str) (b:Int):decide ((Sum.inr a:Key)=Sum.inl b)=false:=decide_eq_false (fun q=>nomatch q)
def q2a (prog:Program) (w:World):PySem.KeyKind prog w Key where
 is:=w2U
 hash:=x7i w
 inj:=fun v a b ha hb=>by
  rcases q17 ha with ⟨i,t,rfl,rfl⟩ | ⟨x,t,rfl,rfl⟩
  ·rcases q17 hb with ⟨j,u,rfl,e⟩ | ⟨y,u,rfl,e⟩
   ·injection e with e1 _;rw [e1]
   ·exact nomatch e
  ·rcases q17 hb with ⟨j,u,rfl,e⟩ | ⟨y,u,rfl,e⟩
   ·exact nomatch e
   ·injection e with e1 _;rw [e1]
 byValue:=fun k v h=>by
  rcases q17 h with ⟨i,t,rfl,rfl⟩ | ⟨x,t,rfl,rfl⟩<;>rfl
 pyHash:=fun hv h=>by
  rcases q17 hv with ⟨i,t,rfl,rfl⟩ | ⟨x,t,rfl,rfl⟩
  ·exact wpAny_pyHash_int h
  ·exact wpAny_pyHash_str h
 eqBool:=fun hu hv h=>by
  rcases q17 hu with ⟨i,t,rfl,rfl⟩ | ⟨x,t,rfl,rfl⟩
  ·rcases q17 hv with ⟨j,u,rfl,rfl⟩ | ⟨y,u,rfl,rfl⟩
   ·rw [x3m] at h;exact wpAny_eqBool_int h
   ·rw [x3o] at h;exact SeqAt.EqAt.int_str i t y u _ _ _ _ h
  ·rcases q17 hv with ⟨j,u,rfl,rfl⟩ | ⟨y,u,rfl,rfl⟩
   ·rw [x3p] at h;exact SeqAt.EqAt.str_int x t j u _ _ _ _ h
   ·rw [x3n] at h;exact wpAny_eqBool_str h
 «strs»:=fun k x t v h=>by
  rcases q17 h with ⟨i,u,rfl,e⟩ | ⟨y,u,rfl,e⟩
  ·exact nomatch e
  ·injection e with e1 _
   subst e1
   cases v<;>rfl
theorem w2V (prog:Program) (w:World) (i:Int) (t:Tok):(q2a prog w).is (.inl i) (.int i t)=true:=w6Y i t
theorem w2W (prog:Program) (w:World) (x:Str) (t:Tok):(q2a prog w).is (.inr x) (.str x t)=true:=w6Z x t
end L2
namespace L2
open PySem PySem.Spec PyProof.Rows
inductive V where
 | non | bl (b:Bool) | int (i:Int) | str (x:Str) | byt (b:Array UInt8) | flt (b:UInt64) | ref (a:Addr) | ty (n:String)
 deriving DecidableEq
def q1Q:V->Value->Prop
 | .non,u=>u=Value.none
 | .bl b,u=>u=Value.bool b
 | .int i,u=>∃ t,u=Value.int i t
 | .str x,u=>∃ t,u=Value.str x t
 | .byt b,u=>∃ t,u=Value.bytes b t
 | .flt b,u=>∃ t,u=Value.float b t
 | .ref a,u=>u=Value.ref a
 | .ty n,u=>u=Value.type n
abbrev q1x:List V->List Value->Prop:=Paired q1Q
theorem q1x.length {xs:List V}{us:List Value} (r:q1x xs us):xs.length=us.length:=Paired.length r
theorem q1x.get {xs:List V}{us:List Value} (h:q1x xs us):∀ {i:Nat}{x:V},xs[i]?=some x->∃ u,us[i]?=some u/\q1Q x u:=by
 induction h with
 | nil=>intro i x e;cases e
 | cons r t ih =>
  intro i x e
  cases i with
  | zero=>cases e;exact ⟨_,rfl,r⟩
  | succ i=>have q:=ih (i:=i) e;exact q
theorem q1x.append {xs ys:List V}{us ws:List Value} (h:q1x xs us) (s:q1x ys ws):q1x (xs++ys) (us++ws):=by
 induction h with
 | nil=>exact s
 | cons r t ih=>exact .cons r ih
theorem q1x.take:∀ {xs:List V}{us:List Value} (n:Nat),q1x xs us->q1x (xs.take n) (us.take n)
 | _,_,0,_=>.nil
 | _,_,_ + 1,.nil=>.nil
 | _,_,n + 1,.cons r t=>.cons r (q1x.take n t)
theorem q1x.drop:∀ {xs:List V}{us:List Value} (n:Nat),q1x xs us->q1x (xs.drop n) (us.drop n)
 | _,_,0,r=>r
 | _,_,_ + 1,.nil=>.nil
 | _,_,n + 1,.cons _ t=>q1x.drop n t
def w70:Option V->Option Value->Prop
 | some v,some u=>q1Q v u
 | none,none=>True
 | _,_=>False
def KV {κ:Type}:List (κ×V)->List (κ×Value)->Prop:=Paired fun (p:κ×V) (q:κ×Value)=>p.1=q.1/\q1Q p.2 q.2
def kV:Key->V
 | .inl i=>.int i
 | .inr x=>.str x
inductive HO where
 /-- a list -/
 | lst (xs:List V)
 /-- a tuple (never changes) -/
 | tup (xs:List V)
 /-- a dict whose keys are ints and texts;one whose keys are tuples of ints and texts (the empty one is both) -/
 | dK (kvs:List (Key×V)) | dT (kvs:List (List Key×V))
 /-- a set of ints: its members,its size -/
 | set (S:Int->Bool) (n:Nat)
 /-- an instance of the class at C,its dict at dx,its attributes -/
 | ins (C dx:Addr) (fs:List (Str×V))
 /-- the dict of the instance at x -/
 | own (x:Addr)
 /-- the dict of an exception -/
 | xd (fs:List (Str×V))
 /-- a bound method,f of x -/
 | met (f x:Addr)
 /-- a range object lo,lo + 1,.. below hi -/
 | rng (lo hi:Int)
 /-- a thing that is known to the object (the script;a dict while a loop walks it): read,never written while it is so -/
 | frz (o:Obj) (u:HO)
 /-- a code object's table -/
 | tbl (ps:Array Value)
 /-- any other thing,by what is true of its one object (a def of one's own: SetO a S n:=HO.ext fun h=>..) -/
 | ext (φ:Heap->Prop)
abbrev Hp:=Addr->Option HO
def upd (H:Hp) (a:Addr) (o:HO):Hp:=fun b=>if b=a then some o else H b
theorem q0d {H:Hp}{a:Addr}{o:HO}:upd H a o a=some o:=by unfold upd;rw [if_pos rfl]
theorem q0e {H:Hp}{a b:Addr}{o:HO} (h:b≠a):upd H a o b=H b:=by unfold upd;rw [if_neg h]
theorem x5I {H:Hp}{a b:Addr}{o u:HO} (h:H a=some o) (h':H b=some u) (d:o≠u):a≠b:=by
 intro e;subst e;rw [h] at h';exact d (Option.some.inj h')
theorem q0c {H:Hp}{a b:Addr}{o:HO} (h:H a=some o) (h':H b=none):a≠b:=by
 intro e;subst e;rw [h] at h';cases h'
section
variable (P:Program) (w:World)
def q1g (H:Hp) (h:Heap) (a:Addr):HO->Prop
 | .lst xs=>xs.length<=sizeLine/\∃ (its:List Value) (n:Nat),q1x xs its/\h.get? a=some { cls:=.type "list",data:=.seq its.toArray n }
 | .tup xs=>xs.length<=sizeLine/\∃ its:List Value,q1x xs its/\IsTup h a its.toArray
 | .dK kvs=>kvs.length<=sizeLine/\(a == sysModules)=false/\∃ vs,KV kvs vs/\h.DictOf (q2a P w) a vs
 | .dT kvs=>kvs.length<=sizeLine/\(a == sysModules)=false/\∃ xs:List (List Key×Addr×Value),
   Paired (fun (p:List Key×V) (q:List Key×Addr×Value)=>p.1=q.1/\H q.2.1=some (.tup (p.1.map kV))/\q1Q p.2 q.2.2) kvs xs /\
   ∃ o es ep,h.get? a=some o/\o.ExactDict/\o.data=.dict es ep/\es.toList=xs.map (entryOfKey (tupleKind (q2a P w)))/\(xs.map (·.1)).Nodup
 | .set S n=>h.SetOf (intKind P w) a S n
 | .ins C dx fs=>H dx=some (.own a)/\fs.length<=1000/\dx≠a/\h.get? a=some (PySem.W.instObj C dx) /\
   ∃ mA,h.Ns1 dx mA/\(∀ f,w70 (fs.lookup f) (mA f))/\PySem.Within mA (fs.map (·.1))
 | .own _=>∃ o,h.get? a=some o
 | .xd fs=>∃ mA,h.Ns1 a mA/\∀ f,w70 (fs.lookup f) (mA f)
 | .rng lo hi=>∃ t u v,h.get? a=some { cls:=.type "range",data:=.fields #[.int lo t,.int hi u,.int 1 v] }
 | .frz o u=>h.get? a=some o/\q1g H h a u
 | .tbl ps=>h.get? a=some { cls:=.none,data:=.fields ps }
 | .met f x=>h.get? a=some (PySem.W.methodObj (.ref f) (.ref x))
 | .ext φ=>φ h/\(∃ o,h.get? a=some o)/\∀ h1 h2:Heap,φ h1->(∀ o,h1.get? a=some o->h2.get? a=some o)->φ h2
def HOk (H:Hp) (h:Heap):Prop:=∀ a o,H a=some o->q1g P w H h a o
end
section
variable {P:Program}{w:World}{H H':Hp}{h h':Heap}{a:Addr}{o:HO}
theorem q1g.lt (x:q1g P w H h a o):a<h.objs.size:=by
 cases o with
 | lst xs=>obtain ⟨_,_,_,_,e⟩:=x;exact Heap.lt_size e
 | tup xs=>obtain ⟨_,_,_,p⟩:=x;exact p.lt
 | dK kvs=>obtain ⟨_,_,_,_,o,_,_,e,_⟩:=x;exact Heap.lt_size e
 | dT kvs=>obtain ⟨_,_,_,_,o,_,_,e,_⟩:=x;exact Heap.lt_size e
 | set S n=>obtain ⟨o,_,_,_,e,_⟩:=x;exact Heap.lt_size e
 | ins C dx fs=>obtain ⟨_,_,_,e,_⟩:=x;exact Heap.lt_size e
 | own y=>obtain ⟨_,e⟩:=x;exact Heap.lt_size e
 | xd fs=>obtain ⟨_,⟨_,_,_,e,_⟩,_⟩:=x;exact Heap.lt_size e
 | rng lo hi=>obtain ⟨_,_,_,e⟩:=x;exact Heap.lt_size e
 | frz ob u=>obtain ⟨e,_⟩:=x;exact Heap.lt_size e
 | tbl ps=>exact Heap.lt_size (show h.get? a=some _ from x)
 | met f y=>exact Heap.lt_size (show h.get? a=some _ from x)
 | ext φ=>obtain ⟨_,⟨_,e⟩,_⟩:=x;exact Heap.lt_size e
theorem Paired.mapP {α β:Type}{F G:α->β->Prop}{l₁:List α}{l₂:List β} (h:Paired F l₁ l₂) (f:∀ a b,F a b->G a b):Paired G l₁ l₂:=by
 induction h with
 | nil=>exact .nil
 | cons r t ih=>exact .cons (f _ _ r) ih
theorem q1g.stay (x:q1g P w H h a o) (k:∀ b u,(b=a\/H b=some (.own a))->h.get? b=some u->h'.get? b=some u)
  (ho:∀ b,H b=some (.own a)->H' b=some (.own a)) (ht:∀ b xs,H b=some (.tup xs)->H' b=some (.tup xs)):q1g P w H' h' a o:=by
 induction o with
 | lst xs=>obtain ⟨z,its,n,r,e⟩:=x;exact ⟨z,its,n,r,k _ _ (.inl rfl) e⟩
 | tup xs=>obtain ⟨z,its,r,ob,e,c⟩:=x;exact ⟨z,its,r,ob,k _ _ (.inl rfl) e,c⟩
 | dK kvs=>obtain ⟨z,y,vs,r,ob,es,ep,e,c⟩:=x;exact ⟨z,y,vs,r,ob,es,ep,k _ _ (.inl rfl) e,c⟩
 | dT kvs =>
  obtain ⟨z,y,xs,r,ob,es,ep,e,c⟩:=x
  exact ⟨z,y,xs,Paired.mapP r fun p q z=>⟨z.1,ht _ _ z.2.1,z.2.2⟩,ob,es,ep,k _ _ (.inl rfl) e,c⟩
 | set S n=>obtain ⟨ob,es,ep,t,e,c⟩:=x;exact ⟨ob,es,ep,t,k _ _ (.inl rfl) e,c⟩
 | ins C dx fs =>
  obtain ⟨d,z,ne,e,mA,⟨od,es,ep,e2,c⟩,r⟩:=x
  exact ⟨ho _ d,z,ne,k _ _ (.inl rfl) e,mA,⟨od,es,ep,k _ _ (.inr d) e2,c⟩,r⟩
 | own y=>obtain ⟨ob,e⟩:=x;exact ⟨ob,k _ _ (.inl rfl) e⟩
 | xd fs=>obtain ⟨mA,⟨od,es,ep,e,c⟩,r⟩:=x;exact ⟨mA,⟨od,es,ep,k _ _ (.inl rfl) e,c⟩,r⟩
 | rng lo hi=>obtain ⟨t,u,v,e⟩:=x;exact ⟨t,u,v,k _ _ (.inl rfl) e⟩
 | frz ob u ih=>obtain ⟨e,q⟩:=x;exact ⟨k _ _ (.inl rfl) e,ih q⟩
 | tbl ps =>
  have e:h.get? a=some { cls:=.none,data:=.fields ps }:=x
  show h'.get? a=some { cls:=.none,data:=.fields ps }
  exact k a _ (.inl rfl) e
 | met f y =>
  have e:h.get? a=some (PySem.W.methodObj (.ref f) (.ref y)):=x
  show h'.get? a=some (PySem.W.methodObj (.ref f) (.ref y))
  exact k a _ (.inl rfl) e
 | ext φ=>obtain ⟨p,⟨o,e⟩,st⟩:=x;exact ⟨st _ _ p fun o q=>k _ _ (.inl rfl) q,⟨o,k _ _ (.inl rfl) e⟩,st⟩
theorem HOk.lt (x:HOk P w H h) (e:H a=some o):a<h.objs.size:=(x a o e).lt
theorem HOk.fresh (x:HOk P w H h) (e:h.objs.size<=a):H a=none:=by
 cases q:H a with
 | none=>rfl
 | some u=>exact absurd (Nat.lt_of_lt_of_le (x.lt q) e) (Nat.lt_irrefl _)
theorem HOk.kept (x:HOk P w H h) (k:∀ b u,h.get? b=some u->h'.get? b=some u):HOk P w H h':=fun a o e =>
 (x a o e).stay (fun b u _ q=>k b u q) (fun _ q=>q) fun _ _ q=>q
theorem HOk.laid (x:HOk P w H h) (k:∀ b u,h.get? b=some u->h'.get? b=some u) (hp:h.objs.size<=a) (new:q1g P w (upd H a o) h' a o):HOk P w (upd H a o) h':=fun b u e=>by
 have hn:=x.fresh hp
 by_cases hb:b=a
 ·subst hb;rw [q0d] at e;cases e;exact new
 ·rw [q0e hb] at e
  exact (x b u e).stay (fun c v _ q=>k c v q) (fun c q=>by rw [q0e (q0c q hn)];exact q) fun c xs q=>by rw [q0e (q0c q hn)];exact q
end
def Rd (H:Hp) (a:Addr) (u:HO):Prop:=H a=some u\/∃ o,H a=some (.frz o u)
theorem Rd.ok {P:Program}{w:World}{H:Hp}{h:Heap}{a:Addr}{u:HO} (r:Rd H a u) (x:HOk P w H h):q1g P w H h a u:=by
 rcases r with r | ⟨o,r⟩
 ·exact x a u r
 ·obtain ⟨_,q⟩:=x a _ r
  exact q
def Mut:Option HO->Prop
 | some (.lst _)=>True
 | some (.dK _)=>True
 | some (.dT _)=>True
 | some (.set _ _)=>True
 | some (.ins _ _ _)=>True
 | some (.ext _)=>True
 | _=>False
section
variable {P:Program}{w:World}{H:Hp}{h h':Heap}{x e:Addr}{o':HO}
theorem HOk.write (ok:HOk P w H h) (mu:Mut (H x)) (he:e=x\/H e=some (.own x)) (k:∀ b u,b≠e->h.get? b=some u->h'.get? b=some u) (heo:∃ u,h'.get? e=some u)
  (new:q1g P w (upd H x o') h' x o'):HOk P w (upd H x o') h':=fun b u q=>by
 have nown:∀ c y,H c=some (.own y)->c≠x:=fun c y r z=>by subst z;rw [r] at mu;exact mu
 have ntup:∀ c xs,H c=some (.tup xs)->c≠x:=fun c xs r z=>by subst z;rw [r] at mu;exact mu
 by_cases hb:b=x
 ·subst hb;rw [q0d] at q;cases q;exact new
 ·rw [q0e hb] at q
  by_cases hbe:b=e
  ·have q':H b=some (.own x):=by
    rcases he with z | z
    ·exact absurd (hbe.trans z) hb
    ·rw [hbe];exact z
   rw [q] at q';cases q'
   obtain ⟨v,hv⟩:=heo
   exact ⟨v,by rw [hbe];exact hv⟩
  ·refine (ok b u q).stay (fun c v hc r=>k c v ?_ r) (fun c r=>by rw [q0e (nown c b r)];exact r) fun c xs r=>by rw [q0e (ntup c xs r)];exact r
   rcases hc with rfl | hc
   ·exact hbe
   ·rintro rfl
    rcases he with z | z
    ·exact nown c b hc z
    ·rw [hc] at z;cases z;exact hb rfl
end
structure Un (fs ex:List Addr) (H H':Hp) (h h':Heap):Prop where
 keep:∀ b o,h.get? b=some o->H b=none->b∉fs->b∉ex->h'.get? b=some o
 slot:∀ b o,h.get? b=some o->H b=none->b∈fs->b∉ex->∃ sl,h'.get? b=some { o with slots:=sl }
 free:∀ b o,h.get? b=some o->H b=none->b∉ex->H' b=none
 there:∀ b o,h.get? b=some o->b∉ex->∃ o',h'.get? b=some o'
 tups:∀ b xs,H b=some (.tup xs)->H' b=some (.tup xs)
 frzs:∀ b o u,H b=some (.frz o u)->H' b=some (.frz o u)
 tbls:∀ b ps,H b=some (.tbl ps)->∃ more,H' b=some (.tbl (ps++more))
section
variable {fs fs' ex ex':List Addr}{H H1 H2:Hp}{h h1 h2 h':Heap}{a x e:Addr}{o:HO}
theorem Un.any (u:Un fs ex H H1 h h1) {b:Addr}{ob:Obj} (q:h.get? b=some ob) (n:H b=none) (hx:b∉ex):∃ sl,h1.get? b=some { ob with slots:=sl }:=by
 by_cases hb:b∈fs
 ·exact u.slot b ob q n hb hx
 ·exact ⟨ob.slots,u.keep b ob q n hb hx⟩
theorem Un.kept (k:∀ b u,h.get? b=some u->h'.get? b=some u):Un fs ex H H h h' :=
 ⟨fun b ob q _ _ _=>k b ob q,fun b ob q _ _ _=>⟨ob.slots,k b ob q⟩,fun _ _ _ n _=>n,fun b ob q _=>⟨ob,k b ob q⟩,fun _ _ q=>q,fun _ _ _ q=>q,fun _ ps q=>⟨#[],by rw [q];simp⟩⟩
theorem Un.refl:Un fs ex H H h h:=Un.kept fun _ _ q=>q
theorem Un.laid (k:∀ b u,h.get? b=some u->h'.get? b=some u) (hp:h.objs.size<=a) (hn:H a=none):Un fs ex H (upd H a o) h h' where
 keep:=fun b u q _ _ _=>k b u q
 slot:=fun b u q _ _ _=>⟨u.slots,k b u q⟩
 free:=fun b u q n _=>by rw [q0e (Nat.ne_of_lt (Nat.lt_of_lt_of_le (Heap.lt_size q) hp))];exact n
 there:=fun b u q _=>⟨u,k b u q⟩
 tups:=fun b xs q=>by rw [q0e (q0c q hn)];exact q
 frzs:=fun b u xs q=>by rw [q0e (q0c q hn)];exact q
 tbls:=fun b ps q=>⟨#[],by rw [q0e (q0c q hn),q];simp⟩
theorem Un.write (mu:Mut (H x)) (he:e=x\/H e=some (.own x)) (k:∀ b u,b≠e->h.get? b=some u->h'.get? b=some u) (heo:∃ u,h'.get? e=some u):Un fs ex H (upd H x o) h h':=by
 have hx:∀ b,H b=none->b≠x:=fun b n z=>by subst z;rw [n] at mu;exact mu
 have hb:∀ b,H b=none->b≠e:=fun b n z=>by
  subst z
  rcases he with r | r
  ·exact hx b n r
  ·rw [n] at r;cases r
 have hm:∀ b u,H b=some u->¬ Mut (some u)->b≠x:=fun b u q nm z=>by subst z;rw [q] at mu;exact nm mu
 refine ⟨fun b u q n _ _=>k b u (hb b n) q,fun b u q n _ _=>⟨u.slots,k b u (hb b n) q⟩,fun b u q n _=>by rw [q0e (hx b n)];exact n,fun b u q _=>?_,
  fun b xs q=>by rw [q0e (hm b _ q fun z=>z)];exact q,fun b u xs q=>by rw [q0e (hm b _ q fun z=>z)];exact q,fun b ps q=>⟨#[],by rw [q0e (hm b _ q fun z=>z),q];simp⟩⟩
 by_cases hbe:b=e
 ·subst hbe;exact heo
 ·exact ⟨u,k b u hbe q⟩
end
def trk (h:Heap) (H:Hp):List Addr:=(List.range h.objs.size).filter fun a=>(H a).isSome
def w93 (h:Heap) (H:Hp):Heap:=PySem.W.hideAll h (trk h H)
theorem w71 (h:Heap) (H:Hp):(w93 h H).objs.size=h.objs.size:=PySem.W.hideAll_size _ _
theorem w94 {h:Heap}{H:Hp}{b:Addr}{o:Obj} (e:h.get? b=some o) (n:H b=none):(w93 h H).get? b=some o :=
 PySem.W.hideAll_get _ e fun hm=>by
  have q:(H b).isSome=true:=(List.mem_filter.mp hm).2
  rw [n] at q;simp at q
theorem x1z {h:Heap}{H:Hp}{b:Addr}{o:Obj} (e:(w93 h H).get? b=some o):h.get? b=some o/\H b=none:=by
 have e':h.get? b=some o:=PySem.W.of_hideAll (trk h H) e
 refine ⟨e',?_⟩
 cases q:H b with
 | none=>rfl
 | some x =>
  have hm:b∈trk h H:=List.mem_filter.mpr ⟨List.mem_range.mpr (Heap.lt_size e'),by simp [q]⟩
  have z:(w93 h H).get? b=none:=PySem.W.hideAll_none (trk h H) hm
  rw [z] at e;cases e
def x1A (g h:Heap) (L:Addr):List (Addr×Obj):=(List.range h.objs.size).filterMap fun a=>if a=L\/(g.get? a).isSome=true then none else (h.get? a).map fun o=>(a,o)
def q0V (g h:Heap) (L d:Addr):List (Addr×Obj):=(x1A g h L).filter fun p=>decide (p.1≠d)
end L2
namespace L2
open PySem PySem.Spec PyProof.Rows
structure Mod (K:PySem.W.Frag) (mg:Str->Option Value) (base:Heap):Prop where
 kin:K.In base
 glob:base.Ns mainGlobals mg
 blt:∃ mb,base.Ns builtinsNs mb/\∀ x:Str,x≠"__name__"->mb x=bootBuiltins x
 nolimit:base.NoLimit
/-- the context: a def's body (or a comprehension's block) running. base: fixed through the whole law;s₀,H₀: the entry;outer: the frames whose slots others may change (a def's callers);stack: all frames that run;
  ex: iterators that were made ahead of the entry and are walked here (a comprehension's);fn: the names whose cells were made at the entry (a def: all;a comprehension's block: its own);calm: not within an except suite;pn: pins that every state bears;xe: what is wanted of an exception that leaves the code -/
structure Cx where
 prog:Program
 w:World
 K:PySem.W.Frag
 mg:Str->Option Value
 base:Heap
 A:Around
 N:List Str
 s₀:Shared
 H₀:Hp
 env:Env
 outer:List Env
 stack:List Env
 ex:List Addr
 fn:Str->Bool
 calm:Bool
 pn:List (Addr×Obj)
 xe:Value->Shared->Prop
def frs (l:List Env):List Addr:=l.filterMap (·.frame)
abbrev Cx.fs (X:Cx):List Addr:=frs X.outer
def Vis (sc:Scope) (x:Str):Prop:=sc.names.lookup x=some .local\/sc.names.lookup x=some .cell\/sc.names.lookup x=some .free
def Loc (sc:Scope) (x:Str):Prop:=sc.names.lookup x=some .local\/sc.names.lookup x=some .cell
def x7j (env:Env) (h:Heap) (m:Str->Option Value) (x:Str) (u:Value):Prop :=
 (env.kindOf x=some .local/\m x=some u)\/((env.kindOf x=some .cell\/env.kindOf x=some .free)/\∃ c,env.cells.lookup x=some c/\h.IsCell c (some u))
structure Cx.Ok (X:Cx):Prop where
 mod:Mod X.K X.mg X.base
 kind:X.env.scope.kind=.function
 glob:X.env.globals=mainGlobals
 blt:X.env.builtins=builtinsNs
 above:X.s₀.heap.objs.size<=X.env.locals
 inj:∀ x y c,X.env.cells.lookup x=some c->X.env.cells.lookup y=some c->x=y
 has:∀ x,(X.env.kindOf x=some .cell\/X.env.kindOf x=some .free)->∃ c,X.env.cells.lookup x=some c
 cab:∀ x c,X.fn x=true->X.env.cells.lookup x=some c->X.s₀.heap.objs.size<=c
 hd:X.calm=true->X.A.handled=none
 frames:X.A.frames=some X.stack
 stk:X.stack=X.outer\/(X.stack=X.env::X.outer/\X.env.frame=some X.env.locals)
 exf:∀ b∈X.ex,b≠X.env.locals/\∀ x c,X.env.cells.lookup x=some c->c≠b
 bs:∀ b o,X.base.get? b=some o->X.s₀.heap.get? b=some o/\X.H₀ b=none
 bsz:X.base.objs.size<=X.s₀.heap.objs.size
 noex:∀ b o,X.base.get? b=some o->b∉X.ex
 exfs:∀ b∈X.ex,b∉X.fs
 funs:X.s₀.heap.FunFrames X.base X.outer
 frf:∀ b∈X.fs,X.H₀ b=none
structure Inv (X:Cx) (pins:List (Addr×Obj)) (σ:List (Option V)) (H:Hp) (s:Shared):Prop where
 ok:X.Ok
 os:s.os=X.s₀.os
 bare:AllBare s.gens
 base:Un X.fs X.ex X.H₀ H X.s₀.heap s.heap
 loc:∃ m,s.heap.Ns X.env.locals m/\∀ (i:Nat) (x:Str) (v:V),X.N[i]?=some x->σ[i]?=some (some v)->Vis X.env.scope x->∃ u,q1Q v u/\x7j X.env s.heap m x u
 cell:∀ x c,X.env.cells.lookup x=some c->∃ v,s.heap.IsCell c v
 free:H X.env.locals=none
 freeC:∀ x c,X.env.cells.lookup x=some c->H c=none
 pin:∀ p∈X.pn++pins,s.heap.get? p.1=some p.2/\H p.1=none/\p.1≠X.env.locals/\p.1∉X.fs/\∀ v,p.2.data≠.cell v
 hok:HOk X.prog X.w H s.heap
 len:σ.length=X.N.length
section
variable {X:Cx}{pins:List (Addr×Obj)}{σ:List (Option V)}{H H':Hp}{s:Shared}{h':Heap}
theorem Cx.Ok.nofr (ok:X.Ok) {b:Addr}{o:Obj} (e:X.base.get? b=some o):b∉X.fs:=fun hb=>by
 have:=(ok.funs.mem hb).1
 rw [e] at this;cases this
theorem Inv.bs (I:Inv X pins σ H s):∀ b o,X.base.get? b=some o->s.heap.get? b=some o/\H b=none:=fun b o e =>
 ⟨I.base.keep b o (I.ok.bs b o e).1 (I.ok.bs b o e).2 (I.ok.nofr e) (I.ok.noex b o e),I.base.free b o (I.ok.bs b o e).1 (I.ok.bs b o e).2 (I.ok.noex b o e)⟩
theorem Inv.bk (I:Inv X pins σ H s):∀ b o,X.base.get? b=some o->s.heap.get? b=some o:=fun b o e=>(I.bs b o e).1
theorem Inv.mod (I:Inv X pins σ H s):Mod X.K X.mg X.base:=I.ok.mod
theorem Inv.kIn (I:Inv X pins σ H s):X.K.In s.heap:=I.ok.mod.kin.keeps I.bk
theorem Inv.fr (I:Inv X pins σ H s):∃ m,Fr X.base X.env.locals s.heap m :=
 let ⟨m,hn,_⟩:=I.loc
 ⟨m,hn,I.bk,Nat.le_trans I.ok.bsz I.ok.above⟩
theorem Inv.lt (I:Inv X pins σ H s):X.env.locals<s.heap.objs.size:=let ⟨_,hn,_⟩:=I.loc;hn.lt
theorem Inv.sz (I:Inv X pins σ H s):X.s₀.heap.objs.size<=s.heap.objs.size:=Nat.le_trans I.ok.above (Nat.le_of_lt I.lt)
theorem Inv.nofs (I:Inv X pins σ H s) {a:Addr} (h:s.heap.objs.size<=a):a∉X.fs:=fun hb=>by
 obtain ⟨_,o,ho,_⟩:=I.ok.funs.mem hb
 exact absurd (Nat.lt_of_lt_of_le (Heap.lt_size ho) (Nat.le_trans I.sz h)) (Nat.lt_irrefl _)
theorem Inv.cne (I:Inv X pins σ H s):∀ x c,X.env.cells.lookup x=some c->c≠X.env.locals:=fun x c e z=>by
 obtain ⟨v,o,ho,hd⟩:=I.cell x c e
 obtain ⟨m,⟨o',es,ep,ho',hd',_⟩,_⟩:=I.loc
 rw [z,ho'] at ho;cases ho;rw [hd'] at hd;cases hd
theorem Inv.funs (I:Inv X pins σ H s):s.heap.FunFrames X.base X.outer:=by
 have all:∀ (l:List Env),(∀ b∈frs l,b∈X.fs)->X.s₀.heap.FunFrames X.base l->s.heap.FunFrames X.base l:=by
  intro l
  induction l with
  | nil=>intro _ _;trivial
  | cons env r ih =>
   intro hs hl
   obtain ⟨hk,⟨L,o,hf,hn,ho,hd⟩,hr⟩:=hl
   have hL:L∈X.fs:=hs L (by unfold frs;rw [List.filterMap_cons,hf];exact List.mem_cons_self)
   obtain ⟨sl,e⟩:=I.base.slot L o ho (I.ok.frf L hL) hL fun z=>I.ok.exfs L z hL
   exact ⟨hk,⟨L,_,hf,hn,e,hd⟩,ih (fun b hb=>hs b (by unfold frs;rw [List.filterMap_cons,hf];exact List.mem_cons_of_mem _ hb)) hr⟩
 exact all X.outer (fun _ hb=>hb) I.ok.funs
theorem Inv.stack (I:Inv X pins σ H s):s.heap.FunFrames X.base X.stack:=by
 rcases I.ok.stk with e | ⟨e,hf⟩
 ·rw [e];exact I.funs
 ·rw [e]
  obtain ⟨m,hn,_⟩:=I.loc
  refine .cons (by rw [I.ok.kind];decide) hf hn ?_ I.funs
  exact Heap.get?_none_of_le (Nat.le_trans I.ok.bsz I.ok.above)
theorem Inv.stkSub (I:Inv X pins σ H s):∀ b∈frs X.stack,b∈X.env.locals::X.fs:=fun b hb=>by
 rcases I.ok.stk with e | ⟨e,hf⟩
 ·rw [e] at hb;exact List.mem_cons_of_mem _ hb
 ·rw [e] at hb
  unfold frs at hb
  rw [List.filterMap_cons,hf] at hb
  exact hb
theorem Inv.stkFree (I:Inv X pins σ H s):∀ b∈frs X.stack,H b=none:=fun b hb=>by
 rcases List.mem_cons.mp (I.stkSub b hb) with e | hb
 ·rw [e];exact I.free
 ·obtain ⟨_,o,ho,_⟩:=I.ok.funs.mem hb
  exact I.base.free b o ho (I.ok.frf b hb) fun z=>I.ok.exfs b z hb
theorem Inv.step {g':Array GenState}{t':Nat}{d':Drawn}{ch:List Addr} (I:Inv X pins σ H s)
  (hch:∀ b∈ch,(b∈X.ex\/X.s₀.heap.objs.size<=b)/\b≠X.env.locals/\(∀ x c,X.env.cells.lookup x=some c->c≠b)/\∀ p∈X.pn++pins,p.1≠b)
  (keep:∀ b o,b≠X.env.locals->b∉X.fs->b∉ch->s.heap.get? b=some o->H b=none->h'.get? b=some o)
  (slot:∀ b o,b≠X.env.locals->b∈X.fs->b∉ch->s.heap.get? b=some o->H b=none->∃ sl,h'.get? b=some { o with slots:=sl }) (free:∀ b o,b∉ch->s.heap.get? b=some o->H b=none->H' b=none)
  (there:∀ b o,b∉ch->s.heap.get? b=some o->∃ o',h'.get? b=some o')
  (tups:∀ b xs,H b=some (.tup xs)->H' b=some (.tup xs)) (frzs:∀ b o u,H b=some (.frz o u)->H' b=some (.frz o u)) (tbls:∀ b ps,H b=some (.tbl ps)->∃ more,H' b=some (.tbl (ps++more)))
  (ns:∀ m,s.heap.Ns X.env.locals m->h'.Ns X.env.locals m) (hok:HOk X.prog X.w H' h') (hg:AllBare g') :
  Inv X pins σ H' { s with heap:=h',gens:=g',drawn:=d',toks:=t' }:=by
 have neL:∀ b o,X.s₀.heap.get? b=some o->b≠X.env.locals:=fun b o e=>Nat.ne_of_lt (Nat.lt_of_lt_of_le (Heap.lt_size e) I.ok.above)
 have neC:∀ b o,X.s₀.heap.get? b=some o->b∉X.ex->b∉ch:=fun b o e hx hb=>by
  rcases (hch b hb).1 with z | z
  ·exact hx z
  ·exact absurd (Nat.lt_of_lt_of_le (Heap.lt_size e) z) (Nat.lt_irrefl _)
 have cellK:∀ x c,X.env.cells.lookup x=some c->∀ v,s.heap.IsCell c v->h'.IsCell c v:=fun x c e v h_0=>by
  obtain ⟨o,ho,hd⟩:=h_0
  have nch:c∉ch:=fun z=>(hch c z).2.2.1 x c e rfl
  by_cases hc:c∈X.fs
  ·obtain ⟨sl,q⟩:=slot c o (I.cne x c e) hc nch ho (I.freeC x c e)
   exact ⟨_,q,hd⟩
  ·exact ⟨o,keep c o (I.cne x c e) hc nch ho (I.freeC x c e),hd⟩
 refine ⟨I.ok,I.os,hg,⟨fun b o e n hb hx=>?_,fun b o e n hb hx=>?_,fun b o e n hx=>?_,fun b o e hx=>?_,fun b xs e=>tups b xs (I.base.tups b xs e),fun b o xs e=>frzs b o xs (I.base.frzs b o xs e),fun b ps e=>?_⟩,?_,fun x c e=>?_,?_,fun x c e=>?_,fun p hp=>?_,hok,I.len⟩
 ·exact keep b o (neL b o e) hb (neC b o e hx) (I.base.keep b o e n hb hx) (I.base.free b o e n hx)
 ·obtain ⟨sl,e1⟩:=I.base.slot b o e n hb hx
  obtain ⟨sl',e2⟩:=slot b _ (neL b o e) hb (neC b o e hx) e1 (I.base.free b o e n hx)
  exact ⟨sl',e2⟩
 ·obtain ⟨o',e1⟩:=I.base.there b o e hx
  exact free b o' (neC b o e hx) e1 (I.base.free b o e n hx)
 ·obtain ⟨o',e1⟩:=I.base.there b o e hx
  exact there b o' (neC b o e hx) e1
 ·obtain ⟨m1,e1⟩:=I.base.tbls b ps e
  obtain ⟨m2,e2⟩:=tbls b _ e1
  exact ⟨m1++m2,by rw [e2,Array.append_assoc]⟩
 ·obtain ⟨m,hn,hl⟩:=I.loc
  refine ⟨m,ns m hn,fun i x v e1 e2 e3=>?_⟩
  obtain ⟨u,r,l⟩:=hl i x v e1 e2 e3
  refine ⟨u,r,?_⟩
  rcases l with l | ⟨k,c,e,z⟩
  ·exact .inl l
  ·exact .inr ⟨k,c,e,cellK x c e _ z⟩
 ·obtain ⟨v,z⟩:=I.cell x c e
  exact ⟨v,cellK x c e v z⟩
 ·obtain ⟨m,⟨o,_,_,ho,_⟩,_⟩:=I.loc
  exact free _ o (fun z=>(hch _ z).2.1 rfl) ho I.free
 ·obtain ⟨v,o,ho,hd⟩:=I.cell x c e
  exact free c o (fun z=>(hch c z).2.2.1 x c e rfl) ho (I.freeC x c e)
 ·obtain ⟨e,n,ne,nf,d⟩:=I.pin p hp
  have nch:p.1∉ch:=fun z=>(hch p.1 z).2.2.2 p hp rfl
  exact ⟨keep p.1 p.2 ne nf nch e n,free p.1 p.2 nch e n,ne,nf,d⟩
theorem Inv.un {t':Nat} (I:Inv X pins σ H s) (u:Un X.fs [] H H' s.heap h') (hok:HOk X.prog X.w H' h'):Inv X pins σ H' { s with heap:=h',toks:=t' }:=by
 obtain ⟨m,⟨o,es,ep,ho,r⟩,_⟩:=id I.loc
 obtain ⟨sl,hL⟩:=u.any ho I.free (by simp)
 exact I.step (g':=s.gens) (d':=s.drawn) (ch:=[]) (fun _ z=>nomatch z) (fun b o _ hb _ e n=>u.keep b o e n hb (by simp)) (fun b o _ hb _ e n=>u.slot b o e n hb (by simp)) (fun b o _ e n=>u.free b o e n (by simp)) (fun b o _ e=>u.there b o e (by simp)) u.tups u.frzs u.tbls (fun m' hm=>by
  obtain ⟨o',es',ep',ho',r'⟩:=hm
  rw [ho] at ho';cases ho'
  exact ⟨_,es',ep',hL,r'⟩) hok I.bare
theorem Inv.call {g':Array GenState}{t':Nat}{d':Drawn}{ch:List Addr} (I:Inv X pins σ H s) (u:Un (frs X.stack) ch H H' s.heap h') (hok:HOk X.prog X.w H' h') (hg:AllBare g')
  (hch:∀ b∈ch,(b∈X.ex\/X.s₀.heap.objs.size<=b)/\b≠X.env.locals/\(∀ x c,X.env.cells.lookup x=some c->c≠b)/\∀ p∈X.pn++pins,p.1≠b) :
  Inv X pins σ H' { s with heap:=h',gens:=g',drawn:=d',toks:=t' }:=by
 obtain ⟨m,⟨o,es,ep,ho,r⟩,_⟩:=id I.loc
 obtain ⟨sl,hL⟩:=u.any ho I.free fun z=>(hch _ z).2.1 rfl
 exact I.step (ch:=ch) hch (fun b o hL hb hc e n=>u.keep b o e n (fun z=>(List.mem_cons.mp (I.stkSub b z)).elim hL hb) hc) (fun b o _ _ hc e n=>u.any e n hc) (fun b o hc e n=>u.free b o e n hc) (fun b o hc e=>u.there b o e hc) u.tups u.frzs u.tbls (fun m' hm=>by
  obtain ⟨o',es',ep',ho',r'⟩:=hm
  rw [ho] at ho';cases ho'
  exact ⟨_,es',ep',hL,r'⟩) hok hg
theorem Inv.turned {t':Nat}{it:Addr} (I:Inv X pins σ H s) (k:∀ b o,b≠it->s.heap.get? b=some o->h'.get? b=some o) (hn:H it=none) (hL:it≠X.env.locals)
  (h1:it∈X.ex\/X.s₀.heap.objs.size<=it) (h2:∀ x c,X.env.cells.lookup x=some c->c≠it) (h3:∀ p∈X.pn++pins,p.1≠it):Inv X pins σ H { s with heap:=h',toks:=t' }:=by
 have nit:∀ b u,H b=some u->b≠it:=fun b u e z=>by rw [z,hn] at e;cases e
 refine I.step (g':=s.gens) (d':=s.drawn) (ch:=[it]) (fun b hb=>?_) (fun b o _ _ hc e _=>k b o (fun z=>hc (by simp [z])) e) (fun b o _ _ hc e _=>⟨o.slots,k b o (fun z=>hc (by simp [z])) e⟩) (fun _ _ _ _ n=>n)
  (fun b o hc e=>⟨o,k b o (fun z=>hc (by simp [z])) e⟩) (fun _ _ e=>e) (fun _ _ _ e=>e) (fun b ps e=>⟨#[],by rw [e];simp⟩) (fun m hm=>?_) (fun b u e=>?_) I.bare
 ·have e:b=it:=by simpa using hb
  subst e
  exact ⟨h1,hL,h2,h3⟩
 ·obtain ⟨o,es,ep,ho,r⟩:=hm
  exact ⟨o,es,ep,k _ o (Ne.symm hL) ho,r⟩
 ·refine (I.hok b u e).stay (fun c v hc q=>k c v ?_ q) (fun _ q=>q) fun _ _ q=>q
  rcases hc with z | z
  ·rw [z];exact nit b u e
  ·exact nit c _ z
theorem Inv.tok (I:Inv X pins σ H s) (t:Nat):Inv X pins σ H { s with toks:=t }:=I.un (h':=s.heap) (t':=t) Un.refl I.hok
theorem Inv.kept {t':Nat} (I:Inv X pins σ H s) (k:∀ b u,s.heap.get? b=some u->h'.get? b=some u):Inv X pins σ H { s with heap:=h',toks:=t' }:=I.un (Un.kept k) (I.hok.kept k)
theorem Inv.laid {a:Addr}{o:HO}{t':Nat} (I:Inv X pins σ H s) (k:∀ b u,s.heap.get? b=some u->h'.get? b=some u) (hp:s.heap.objs.size<=a) (new:q1g X.prog X.w (upd H a o) h' a o) :
  Inv X pins σ (upd H a o) { s with heap:=h',toks:=t' }:=I.un (Un.laid k hp (I.hok.fresh hp)) (I.hok.laid k hp new)
theorem Inv.write {x e:Addr}{o:HO}{t':Nat} (I:Inv X pins σ H s) (mu:Mut (H x)) (he:e=x\/H e=some (.own x)) (k:∀ b u,b≠e->s.heap.get? b=some u->h'.get? b=some u) (heo:∃ u,h'.get? e=some u)
  (new:q1g X.prog X.w (upd H x o) h' x o):Inv X pins σ (upd H x o) { s with heap:=h',toks:=t' }:=I.un (Un.write mu he k heo) (I.hok.write mu he k heo new)
theorem Inv.weak {σ':List (Option V)} (I:Inv X pins σ H s) (hl:σ'.length=σ.length) (w:∀ (i:Nat) v,σ'[i]?=some (some v)->σ[i]?=some (some v)):Inv X pins σ' H s :=
 ⟨I.ok,I.os,I.bare,I.base,let ⟨m,hn,hl'⟩:=I.loc;⟨m,hn,fun i x v e1 e2 e3=>hl' i x v e1 (w i v e2) e3⟩,I.cell,I.free,I.freeC,I.pin,I.hok,hl.trans I.len⟩
theorem Inv.pins_of {pins':List (Addr×Obj)} (I:Inv X pins σ H s) (h:∀ p∈pins',s.heap.get? p.1=some p.2/\H p.1=none/\p.1≠X.env.locals/\p.1∉X.fs/\∀ v,p.2.data≠.cell v):Inv X pins' σ H s :=
 ⟨I.ok,I.os,I.bare,I.base,I.loc,I.cell,I.free,I.freeC,fun p hp=>(List.mem_append.mp hp).elim (fun z=>I.pin p (List.mem_append_left _ z)) (h p),I.hok,I.len⟩
theorem w4P {N:List Str} (hN:N.Nodup) {i j:Nat}{x:Str} (a:N[i]?=some x) (b:N[j]?=some x):i=j:=by
 obtain ⟨h1,e1⟩:=List.getElem?_eq_some_iff.mp a
 obtain ⟨h2,e2⟩:=List.getElem?_eq_some_iff.mp b
 exact (List.getElem_inj hN).mp (e1.trans e2.symm)
theorem w1a {M:Model}{A:Around}{E:Value->Shared->Prop}{i:Nat}{x:Str}{v:V}{u:Value}{Q:Unit->Shared->Prop} (I:Inv X pins σ H s) (hN:X.N.Nodup) (hi:X.N[i]?=some x) (hx:Loc X.env.scope x) (r:q1Q v u)
  (h:∀ s',Inv X pins (σ.set i (some v)) H s'->(∃ a,Heap.SameBut a s.heap s'.heap/\(a=X.env.locals\/X.env.cells.lookup x=some a))->Q () s') (hf:X.fn x=true\/X.env.scope.names.lookup x=some .local:=by first | exact .inl rfl | exact .inr rfl | assumption):wpAny M A (storeName X.env x u) Q E s:=by
 obtain ⟨m,hn,hl⟩:=id I.loc
 have hcls:(X.env.scope.kind == .class || (X.env.scope.kind == .module && X.env.locals != X.env.globals))=false:=by rw [I.ok.kind];rfl
 have hiσ:i<σ.length:=by rw [I.len];exact (List.getElem?_eq_some_iff.mp hi).1
 have cne:=I.cne
 have tracked:∀ {a:Addr}{h':Heap},(∃ o,s.heap.get? a=some o/\H a=none)->Heap.SameBut a s.heap h'->HOk X.prog X.w H h':=fun {a h'} ha hs b ob e=>by
  obtain ⟨_,_,hfree⟩:=ha
  refine (I.hok b ob e).stay (fun c w' hc q=>(hs.2 c ?_).trans q) (fun _ q=>q) fun _ _ q=>q
  rintro rfl
  rcases hc with rfl | hc
  ·rw [hfree] at e;cases e
  ·rw [hfree] at hc;cases hc
 rcases hx with hk | hk
 ·refine wpAny_storeName_local hk hn (fun h' hn' hs=>?_) hcls
  obtain ⟨oL,_,_,hoL,_⟩:=id hn
  refine h _ ⟨I.ok,I.os,I.bare,⟨fun b o e n hb hx=>?_,fun b o e n hb hx=>?_,I.base.free,fun b o e hx=>?_,I.base.tups,I.base.frzs,I.base.tbls⟩,⟨_,hn',fun j y v' e1 e2 e3=>?_⟩,fun y c e=>?_,I.free,I.freeC,fun p hp=>?_,tracked ⟨oL,hoL,I.free⟩ hs,by simpa using I.len⟩ ⟨_,hs,.inl rfl⟩
  ·exact (hs.2 b (Nat.ne_of_lt (Nat.lt_of_lt_of_le (Heap.lt_size e) I.ok.above))).trans (I.base.keep b o e n hb hx)
  ·obtain ⟨sl,e1⟩:=I.base.slot b o e n hb hx
   exact ⟨sl,(hs.2 b (Nat.ne_of_lt (Nat.lt_of_lt_of_le (Heap.lt_size e) I.ok.above))).trans e1⟩
  ·obtain ⟨o',e1⟩:=I.base.there b o e hx
   exact ⟨o',(hs.2 b (Nat.ne_of_lt (Nat.lt_of_lt_of_le (Heap.lt_size e) I.ok.above))).trans e1⟩
  ·by_cases hj:j=i
   ·subst hj
    rw [hi] at e1;cases e1
    rw [List.getElem?_set_self hiσ] at e2
    cases e2
    exact ⟨u,r,.inl ⟨hk,by simp⟩⟩
   ·rw [List.getElem?_set_ne (Ne.symm hj)] at e2
    obtain ⟨u',r',q⟩:=hl j y v' e1 e2 e3
    refine ⟨u',r',?_⟩
    rcases q with ⟨k,e⟩ | ⟨k,c,e,z⟩
    ·refine .inl ⟨k,?_⟩
     have:y≠x:=fun e=>hj (w4P hN e1 (e ▸ hi))
     simp [this,e]
    ·exact .inr ⟨k,c,e,z.sameBut hs (cne y c e)⟩
  ·obtain ⟨w',z⟩:=I.cell y c e
   exact ⟨w',z.sameBut hs (cne y c e)⟩
  ·obtain ⟨e,n,ne,nf,d⟩:=I.pin p hp
   exact ⟨(hs.2 p.1 ne).trans e,n,ne,nf,d⟩
 ·have hfn:X.fn x=true:=by
   rcases hf with z | z
   ·exact z
   ·rw [z] at hk;cases hk
  obtain ⟨c,hc⟩:=I.ok.has x (.inl hk)
  obtain ⟨w',z⟩:=I.cell x c hc
  refine wpAny_storeName_cell I.ok.kind hk hc z (fun h' hc' hs=>?_)
  obtain ⟨oc,hoc,hocd⟩:=id z
  refine h { s with heap:=h' } ⟨I.ok,I.os,I.bare,⟨fun b o e n hb hx=>?_,fun b o e n hb hx=>?_,I.base.free,fun b o e hx=>?_,I.base.tups,I.base.frzs,I.base.tbls⟩,⟨m,hn.sameBut hs (Ne.symm (cne x c hc)),fun j y v' e1 e2 e3=>?_⟩,fun y c' e=>?_,I.free,I.freeC,fun p hp=>?_,tracked ⟨oc,hoc,I.freeC x c hc⟩ hs,by simpa using I.len⟩ ⟨c,hs,.inr hc⟩
  ·exact (hs.2 b (Nat.ne_of_lt (Nat.lt_of_lt_of_le (Heap.lt_size e) (I.ok.cab x c hfn hc)))).trans (I.base.keep b o e n hb hx)
  ·obtain ⟨sl,e1⟩:=I.base.slot b o e n hb hx
   exact ⟨sl,(hs.2 b (Nat.ne_of_lt (Nat.lt_of_lt_of_le (Heap.lt_size e) (I.ok.cab x c hfn hc)))).trans e1⟩
  ·obtain ⟨o',e1⟩:=I.base.there b o e hx
   exact ⟨o',(hs.2 b (Nat.ne_of_lt (Nat.lt_of_lt_of_le (Heap.lt_size e) (I.ok.cab x c hfn hc)))).trans e1⟩
  ·by_cases hj:j=i
   ·subst hj
    rw [hi] at e1;cases e1
    rw [List.getElem?_set_self hiσ] at e2
    cases e2
    exact ⟨u,r,.inr ⟨.inl hk,c,hc,hc'⟩⟩
   ·rw [List.getElem?_set_ne (Ne.symm hj)] at e2
    obtain ⟨u',r',q⟩:=hl j y v' e1 e2 e3
    refine ⟨u',r',?_⟩
    rcases q with q | ⟨k,c',e,z'⟩
    ·exact .inl q
    ·refine .inr ⟨k,c',e,z'.sameBut hs ?_⟩
     rintro rfl
     exact hj (w4P hN e1 (I.ok.inj _ _ _ e hc ▸ hi))
  ·by_cases hcc:c'=c
   ·subst hcc;exact ⟨_,hc'⟩
   ·obtain ⟨w2,z2⟩:=I.cell y c' e
    exact ⟨w2,z2.sameBut hs hcc⟩
  ·obtain ⟨e,n,ne,nf,d⟩:=I.pin p hp
   refine ⟨(hs.2 p.1 ?_).trans e,n,ne,nf,d⟩
   intro q
   rw [q,hoc] at e
   have q':oc=p.2:=Option.some.inj e
   exact d w' (by rw [<- q'];exact hocd)
theorem w09 {M:Model}{A:Around}{E:Value->Shared->Prop}{i:Nat}{x:Str}{v:V}{u:Value}{Q:Unit->Shared->Prop} (I:Inv X pins σ H s) (hN:X.N.Nodup) (hi:X.N[i]?=some x) (hx:Loc X.env.scope x) (r:q1Q v u)
  (h:∀ s',Inv X pins (σ.set i (some v)) H s'->Q () s') (hf:X.fn x=true\/X.env.scope.names.lookup x=some .local:=by first | exact .inl rfl | exact .inr rfl | assumption):wpAny M A (storeName X.env x u) Q E s :=
 w1a I hN hi hx r (fun s' I' _=>h s' I') hf
theorem Inv.call' {s':Shared}{ch:List Addr} (I:Inv X pins σ H s) (ho:s'.os=s.os) (u:Un (frs X.stack) ch H H' s.heap s'.heap) (hok:HOk X.prog X.w H' s'.heap) (hg:AllBare s'.gens)
  (hch:∀ b∈ch,(b∈X.ex\/X.s₀.heap.objs.size<=b)/\b≠X.env.locals/\(∀ x c,X.env.cells.lookup x=some c->c≠b)/\∀ p∈X.pn++pins,p.1≠b):Inv X pins σ H' s':=by
 obtain ⟨h',g',d',t',o'⟩:=s'
 have e:o'=s.os:=ho
 subst e
 exact I.call (g':=g') (t':=t') (d':=d') u hok hg hch
end
abbrev XK:=Value->Option Addr->Hp->Prop
abbrev St:=List (Option V)
abbrev VK:=V->Hp->Prop
abbrev TE:=St->Hp->VK->Prop
abbrev TT:=St->Hp->(Bool->Hp->Prop)->Prop
abbrev TA:=St->Hp->(List V->Hp->Prop)->Prop
structure w2X where
 nx:St->Hp->Prop
 rt:VK
 bk:St->Hp->Prop:=fun _ _=>False
 ct:St->Hp->Prop:=fun _ _=>False
abbrev TS:=w2X->St->Hp->Prop
inductive EP (X:Cx) (pins:List (Addr×Obj)) (σ:St) (Q:VK) (u:Value) (s':Shared):Prop
 | mk (v H':_) (h0:Inv X pins σ H' s') (h1:q1Q v u) (h2:Q v H'):EP X pins σ Q u s'
inductive TP (X:Cx) (pins:List (Addr×Obj)) (σ:St) (Q:Bool->Hp->Prop) (b:Bool) (s':Shared):Prop
 | mk (H':_) (h0:Inv X pins σ H' s') (h1:Q b H'):TP X pins σ Q b s'
inductive AP (X:Cx) (pins:List (Addr×Obj)) (σ:St) (Q:List V->Hp->Prop) (us:List Value) (s':Shared):Prop
 | mk (vs H':_) (h0:Inv X pins σ H' s') (h1:q1x vs us) (h2:Q vs H'):AP X pins σ Q us s'
inductive SN (X:Cx) (pins:List (Addr×Obj)) (k:St->Hp->Prop) (s':Shared):Prop
 | mk (σ':St) (H':Hp) (I:Inv X pins σ' H' s') (q:k σ' H'):SN X pins k s'
inductive SV (X:Cx) (pins:List (Addr×Obj)) (k:V->Hp->Prop) (u:Value) (s':Shared):Prop
 | mk (v:V) (σ':St) (H':Hp) (I:Inv X pins σ' H' s') (r:q1Q v u) (q:k v H'):SV X pins k u s'
def SP (X:Cx) (pins:List (Addr×Obj)) (D:w2X) (f:Flow) (s':Shared):Prop :=
 match f with
 | .next=>SN X pins D.nx s'
 | .brk=>SN X pins D.bk s'
 | .cont=>SN X pins D.ct s'
 | .ret u=>SV X pins D.rt u s'
def PE (X:Cx) (e:Expr) (t:TE):Prop :=
 ∀ (pins:List (Addr×Obj)) (s:Shared) (σ:St) (H:Hp) (Q:VK),Inv X pins σ H s->t σ H Q->wpAny (model X.prog X.w) X.A (eval e X.env) (EP X pins σ Q) X.xe s
def PT (X:Cx) (e:Expr) (t:TT):Prop :=
 ∀ (pins:List (Addr×Obj)) (s:Shared) (σ:St) (H:Hp) (Q:Bool->Hp->Prop),Inv X pins σ H s->t σ H Q->wpAny (model X.prog X.w) X.A (isTrue e X.env (eval e X.env)) (TP X pins σ Q) X.xe s
def PW (X:Cx) (e:Expr) (t:TT):Prop :=
 ∀ (whole:Sem Value) (pins:List (Addr×Obj)) (s:Shared) (σ:St) (H:Hp) (Q:Bool->Hp->Prop),Inv X pins σ H s->t σ H Q->wpAny (model X.prog X.w) X.A (isTrue e X.env whole) (TP X pins σ Q) X.xe s
theorem PW.pt {X:Cx}{e:Expr}{t:TT} (h:PW X e t):PT X e t:=h _
def PA (X:Cx) (es:List Expr) (t:TA):Prop :=
 ∀ (pos:Pos) (pins:List (Addr×Obj)) (s:Shared) (σ:St) (H:Hp) (Q:List V->Hp->Prop),Inv X pins σ H s->t σ H Q->wpAny (model X.prog X.w) X.A (spliced (backTo pos (starEach es X.env))) (AP X pins σ Q) X.xe s
def PS (X:Cx) (st:Stmt) (t:TS):Prop :=
 ∀ (pins:List (Addr×Obj)) (s:Shared) (σ:St) (H:Hp) (D:w2X),Inv X pins σ H s->t D σ H->wpAny (model X.prog X.w) X.A (exec st X.env) (SP X pins D) X.xe s
def PSs (X:Cx) (st:List Stmt) (t:TS):Prop :=
 ∀ (pins:List (Addr×Obj)) (s:Shared) (σ:St) (H:Hp) (D:w2X),Inv X pins σ H s->t D σ H->wpAny (model X.prog X.w) X.A (execs st X.env) (SP X pins D) X.xe s
theorem thn {α:Type}{t:Sem α}{Q Q':α->Shared->Prop}{M:Model}{A:Around}{E:Value->Shared->Prop}{s:Shared} (h:wpAny M A t Q E s) (hQ:∀ a s,Q a s->Q' a s):wpAny M A t Q' E s:=wpAny_mono h hQ fun _ _ x=>x
end L2
namespace L2
open PySem PySem.Spec PyProof.Rows
section
variable {X:Cx}
inductive x3q (i:Nat) (σ:St) (H:Hp) (Q:VK):Prop
 | mk (v:_) (h0:σ[i]?=some (some v)) (h1:Q v H):x3q i σ H Q
def x3d (i:Nat):TE:=x3q i
def tC (v:V):TE:=fun _ H Q=>Q v H
theorem q5C {i:Nat}{x:Str}{pos:Pos} (hN:X.N[i]?=some x) (hv:Vis X.env.scope x) (hd:(x == ("__debug__" : Str))=false:=by decide) (hcd:(x == ("__classdict__" : Str))=false:=by decide):PE X (.Name x pos) (x3d i):=by
 intro pins s σ H Q I h
 obtain ⟨v,e,h⟩:=h
 obtain ⟨m,hn,hl⟩:=I.loc
 obtain ⟨u,r,l⟩:=hl i x v hN e hv
 have fin:EP X pins σ Q u s:=⟨v,H,I,r,h⟩
 rcases l with ⟨hk,hm⟩ | ⟨hk,c,hc,hcell⟩
 ·exact wpAny_Name (wpAny_loadName_local I.ok.kind hk hn hm fin) hd
 ·rcases hk with hk | hk
  ·exact wpAny_Name (wpAny_loadName_cell I.ok.kind hk hc hcell fin) hd
  ·exact wpAny_Name (wpAny_loadName_free I.ok.kind hk hc hcell fin hcd) hd
theorem w4Q {i j pos}:PE X (.Constant (.int i) j pos) (tC (.int i)):=fun _ _ _ H _ I h=>wpAny_Constant_int ⟨.int i,H,I.tok _,⟨_,rfl⟩,h⟩
theorem x1B {b j pos}:PE X (.Constant (.bool b) j pos) (tC (.bl b)):=fun _ _ _ H _ I h=>Constant_bool ⟨.bl b,H,I,rfl,h⟩
theorem x3r {j pos}:PE X (.Constant .none j pos) (tC .non):=fun _ _ _ H _ I h=>Constant_none ⟨.non,H,I,rfl,h⟩
theorem x0h {x j pos}:PE X (.Constant (.str x) j pos) (tC (.str x)):=fun _ _ _ H _ I h=>Calls.Constant_str ⟨.str x,H,I.tok _,⟨_,rfl⟩,h⟩
def Gl (X:Cx) (x:Str):Prop:=X.env.kindOf x=some .globalImplicit
theorem w0a {E:Value->Shared->Prop}{pins:List (Addr×Obj)}{s:Shared}{σ:St}{H:Hp}{x:Str}{u:Value}{pos:Pos}{Q:Value->Shared->Prop} (I:Inv X pins σ H s) (hg:Gl X x) (hm:X.mg x=some u) (h:Q u s)
  (hd:(x == ("__debug__" : Str))=false:=by decide):wpAny (model X.prog X.w) X.A (eval (.Name x pos) X.env) Q E s :=
 Calls.Name_function_global I.ok.kind hg (Calls.loadGlobal_global (by rw [I.ok.glob];exact I.mod.glob.keeps I.bk) hm h) hd
theorem q9E {E:Value->Shared->Prop}{pins:List (Addr×Obj)}{s:Shared}{σ:St}{H:Hp}{x:Str}{u:Value}{pos:Pos}{Q:Value->Shared->Prop} (I:Inv X pins σ H s) (hg:Gl X x) (hm:X.mg x=none) (hv:bootBuiltins x=some u) (h:Q u s)
  (hn:x≠"__name__":=by decide) (hd:(x == ("__debug__" : Str))=false:=by decide):wpAny (model X.prog X.w) X.A (eval (.Name x pos) X.env) Q E s:=by
 obtain ⟨mb,h1,h2⟩:=I.mod.blt
 exact Calls.Name_function_global I.ok.kind hg (Calls.loadGlobal_builtin (by rw [I.ok.glob];exact I.mod.glob.keeps I.bk) hm (by rw [I.ok.blt];exact h1.keeps I.bk) ((h2 x hn).trans hv) h) hd
theorem w2Y {x:Str}{v:V}{u:Value}{pos:Pos} (hg:Gl X x) (hm:X.mg x=some u) (r:q1Q v u) (hd:(x == ("__debug__" : Str))=false:=by decide):PE X (.Name x pos) (tC v) :=
 fun _ _ _ H _ I h=>w0a I hg hm ⟨v,H,I,r,h⟩ hd
theorem w72 {x:Str}{v:V}{u:Value}{pos:Pos} (hg:Gl X x) (hm:X.mg x=none) (hv:bootBuiltins x=some u) (r:q1Q v u) (hn:x≠"__name__":=by decide) (hd:(x == ("__debug__" : Str))=false:=by decide):PE X (.Name x pos) (tC v) :=
 fun _ _ _ H _ I h=>q9E I hg hm hv ⟨v,H,I,r,h⟩ hn hd
variable {a b:Expr}{ta tb:TE}{pos:Pos}
def PC (X:Cx) (op:CmpOp) (a b:Expr) (t:TE):Prop :=
 ∀ (pins:List (Addr×Obj)) (s:Shared) (σ:St) (H:Hp) (Q:VK),Inv X pins σ H s->t σ H Q ->
  wpAny (model X.prog X.w) X.A (eval a X.env) (fun v s₁=>wpAny (model X.prog X.w) X.A (eval b X.env) (fun u s₂=>wpAny (model X.prog X.w) X.A (compareOp op v u) (EP X pins σ Q) X.xe s₂) X.xe s₁) X.xe s
theorem w95 (b:Expr) {op:CmpOp} (h:op≠.In) (h2:op≠.NotIn):behindInMarks op b=false:=by
 have e1:(op == CmpOp.In)=false:=by cases op<;>first | rfl | exact absurd rfl h
 have e2:(op == CmpOp.NotIn)=false:=by cases op<;>first | rfl | exact absurd rfl h2
 cases b<;>simp [behindInMarks,e1,e2]
def tB (t:TE):TT:=fun σ H Q=>t σ H fun x H1=>∃ c,x=.bl c/\Q c H1
theorem x6A {op:CmpOp}{t:TE} (h:PC X op a b t) (h1:behindInMarks op b=false:=by first | exact w95 _ (by decide) (by decide) | rfl):PT X (.Compare a [op] [b] pos) (tB t):=by
 intro pins s σ H Q I hw
 refine wpAny_isTrue_Compare1 (thn (h pins s σ H _ I hw) fun v s1 h1=>thn h1 fun u s2 h2=>thn h2 fun c s3 ⟨x,H1,I1,r1,q1⟩=>?_) h1
 obtain ⟨d,rfl,q⟩:=q1
 cases r1
 exact wpAny_truthy_bool ⟨H1,I1,q⟩
theorem x0i {e:Expr}{t:TE} (h:PE X e t) (he:∀ whole,isTrue e X.env whole=(do let v <- whole;standAt e.pos;holding [v] (truthy v)):=by intro _;rfl):PT X e (tB t):=by
 intro pins s σ H Q I hw
 refine isTrue_plain (thn (h pins s σ H _ I hw) fun v s1 ⟨x,H1,I1,r1,q1⟩=>?_) (he _)
 obtain ⟨d,rfl,q⟩:=q1
 cases r1
 exact wpAny_truthy_bool ⟨H1,I1,q⟩
variable {tA tB':TT}{q0V:List Expr}
def x7k (t u:TT):TT:=fun σ H Q=>t σ H fun c H1=>if c=true then u σ H1 Q else Q false H1
def tOr (t u:TT):TT:=fun σ H Q=>t σ H fun c H1=>if c=true then Q true H1 else u σ H1 Q
def x7l (t:TT):TT:=fun σ H Q=>t σ H fun c H1=>Q (!c) H1
theorem x1C (ha:PT X a tA):PW X (.BoolOp .And [a] pos) tA:=by
 intro wh pins s σ H Q I h
 refine isTrue_and (thn (ha pins s σ H Q I h) fun c s1 e=>?_)
 cases c with
 | true=>exact isTrue_and_nil e
 | false=>exact e
theorem x0j (ha:PT X a tA):PW X (.BoolOp .Or [a] pos) tA:=by
 intro wh pins s σ H Q I h
 refine isTrue_or (thn (ha pins s σ H Q I h) fun c s1 e=>?_)
 cases c with
 | false=>exact isTrue_or_nil e
 | true=>exact e
theorem x3s (ha:PT X a tA) (hb:PW X (.BoolOp .And (b::q0V) pos) tB'):PW X (.BoolOp .And (a::b::q0V) pos) (x7k tA tB'):=by
 intro wh pins s σ H Q I h
 refine isTrue_and (thn (ha pins s σ H _ I h) fun c s1 ⟨H1,I1,q1⟩=>?_)
 cases c with
 | true=>exact hb wh pins s1 σ H1 Q I1 q1
 | false=>exact ⟨H1,I1,q1⟩
theorem x3t (ha:PT X a tA) (hb:PW X (.BoolOp .Or (b::q0V) pos) tB'):PW X (.BoolOp .Or (a::b::q0V) pos) (tOr tA tB'):=by
 intro wh pins s σ H Q I h
 refine isTrue_or (thn (ha pins s σ H _ I h) fun c s1 ⟨H1,I1,q1⟩=>?_)
 cases c with
 | true=>exact ⟨H1,I1,q1⟩
 | false=>exact hb wh pins s1 σ H1 Q I1 q1
theorem x0k (ha:PT X a tA):PT X (.UnaryOp .Not a pos) (x7l tA):=by
 intro pins s σ H Q I h
 exact isTrue_not (thn (ha pins s σ H (fun c H1=>Q (!c) H1) I h) fun _ _ x=>by obtain ⟨a,b,c⟩:=x;exact ⟨a,b,c⟩)
def x5J (ta tb:TE):TE:=fun σ H Q=>ta σ H fun x H1=>∃ c,x=.bl c/\if c=true then tb σ H1 Q else Q (.bl false) H1
def x5K (ta:TE):TE:=fun σ H Q=>ta σ H fun x H1=>∃ c,x=.bl c/\Q (.bl (!c)) H1
theorem x3u {op}{t:TE} (h:PE X a t):PE X (.BoolOp op [a] pos) t:=fun pins s σ H Q I hw=>BoolOp_one (h pins s σ H Q I hw)
theorem x3v (ha:PE X a ta) (hb:PE X (.BoolOp .And (b::q0V) pos) tb):PE X (.BoolOp .And (a::b::q0V) pos) (x5J ta tb):=by
 intro pins s σ H Q I h
 refine BoolOp_and (thn (ha pins s σ H _ I h) fun v s1 ⟨x,H1,I1,r1,q1⟩=>?_)
 obtain ⟨c,rfl,q1⟩:=q1
 cases r1
 refine wpAny_truthy_bool ?_
 cases c with
 | true=>exact hb pins s1 σ H1 Q I1 q1
 | false=>exact ⟨.bl false,H1,I1,rfl,q1⟩
theorem x3w (ha:PE X a ta):PE X (.UnaryOp .Not a pos) (x5K ta):=by
 intro pins s σ H Q I h
 refine UnaryOp_ (thn (ha pins s σ H _ I h) fun v s1 ⟨x,H1,I1,r1,q1⟩=>?_)
 obtain ⟨c,rfl,q1⟩:=q1
 cases r1
 exact not_of (wpAny_truthy_bool ⟨.bl (!c),H1,I1,rfl,q1⟩)
def tIf (t:TT) (ta tb:TE):TE:=fun σ H Q=>t σ H fun c H1=>if c=true then ta σ H1 Q else tb σ H1 Q
theorem w96 {c:Expr} (hc:PT X c tA) (ha:PE X a ta) (hb:PE X b tb):PE X (.IfExp c a b pos) (tIf tA ta tb):=by
 intro pins s σ H Q I h
 refine wpAny_IfExp (thn (hc pins s σ H _ I h) fun d s1 ⟨H1,I1,q1⟩=>?_)
 cases d with
 | true=>exact ha pins s1 σ H1 Q I1 q1
 | false=>exact hb pins s1 σ H1 Q I1 q1
end
end L2
namespace L2
open PySem PySem.Spec PyProof.Rows
inductive KqL (K:PySem.W.Frag) (a:Addr) (xs:List V):Prop
 | mk (o:Obj) (its:Array Value) (n:Nat) (h0:K.lookup a=some o) (h1:o.cls=.type "list") (h2:o.dict=none) (h3:o.data=.seq its n) (h4:its.size<=sizeLine) (h5:q1x xs its.toList):KqL K a xs
def SqL (K:PySem.W.Frag) (H:Hp) (a:Addr) (xs:List V):Prop :=
 Rd H a (.lst xs)\/KqL K a xs
inductive KqT (K:PySem.W.Frag) (a:Addr) (xs:List V):Prop
 | mk (o:Obj) (its:Array Value) (n:Nat) (h0:K.lookup a=some o) (h1:o.cls=.type "tuple") (h3:o.data=.seq its n) (h4:its.size<=sizeLine) (h5:q1x xs its.toList):KqT K a xs
def SqT (K:PySem.W.Frag) (H:Hp) (a:Addr) (xs:List V):Prop :=
 Rd H a (.tup xs)\/KqT K a xs
def x7m:Value->Option V
 | .none=>some .non
 | .bool b=>some (.bl b)
 | .int i _=>some (.int i)
 | .str x _=>some (.str x)
 | .bytes b _=>some (.byt b)
 | .float b _=>some (.flt b)
 | .ref a=>some (.ref a)
 | .type n=>some (.ty n)
 | _=>none
theorem q1Q.abs {x:V}{u:Value} (r:q1Q x u):x7m u=some x:=by
 cases x with
 | non=>cases r;rfl
 | bl _=>cases r;rfl
 | int _=>obtain ⟨t,rfl⟩:=r;rfl
 | str _=>obtain ⟨t,rfl⟩:=r;rfl
 | byt _=>obtain ⟨t,rfl⟩:=r;rfl
 | flt _=>obtain ⟨t,rfl⟩:=r;rfl
 | ref _=>cases r;rfl
 | ty _=>cases r;rfl
theorem q1Q.inj {x y:V}{u:Value} (r:q1Q x u) (q:q1Q y u):x=y:=Option.some.inj (r.abs.symm.trans q.abs)
theorem q1x.inj {xs:List V}{us:List Value} (h:q1x xs us):∀ {ys:List V},q1x ys us->xs=ys:=by
 induction h with
 | nil=>intro ys k;cases k;rfl
 | cons r t ih=>intro ys k;cases k with | cons r' t'=>rw [r.inj r',ih t']
section
variable {X:Cx}{pins:List (Addr×Obj)}{σ:St}{H:Hp}{s:Shared}{a:Addr}{xs ys:List V}
theorem SqL.of {K:PySem.W.Frag} (h:H a=some (.lst xs)):SqL K H a xs:=.inl (.inl h)
theorem SqT.of {K:PySem.W.Frag} (h:H a=some (.tup xs)):SqT K H a xs:=.inl (.inl h)
inductive InL (h:Heap) (a:Addr) (xs:List V):Prop
 | mk (its:List Value) (r:q1x xs its) (p:PlainL h a its.toArray) (z:xs.length<=sizeLine):InL h a xs
inductive InT (h:Heap) (a:Addr) (xs:List V):Prop
 | mk (its:List Value) (r:q1x xs its) (p:IsTup h a its.toArray) (z:xs.length<=sizeLine):InT h a xs
inductive InM (h:Heap) (l:Addr) (xs:List V):Prop
 | mk (z:xs.length<=sizeLine) (its:List Value) (n:Nat) (r:q1x xs its) (hl:xs.length=its.length) (e:h.get? l=some { cls:=.type "list",data:=.seq its.toArray n }):InM h l xs
theorem Inv.list (I:Inv X pins σ H s) (h:SqL X.K H a xs):InL s.heap a xs:=by
 rcases h with h | ⟨o,its,n,hk,hc,hd,hs,hz,r⟩
 ·obtain ⟨z,its,n,r,e⟩:=h.ok I.hok
  exact ⟨its,r,⟨_,n,e,rfl,rfl,rfl⟩,z⟩
 ·refine ⟨its.toList,r,⟨o,n,I.kIn a o hk,hc,hd,by simpa using hs⟩,?_⟩
  have e:=r.length
  simp only [Array.length_toList] at e
  omega
theorem Inv.tuple (I:Inv X pins σ H s) (h:SqT X.K H a xs):InT s.heap a xs:=by
 rcases h with h | ⟨o,its,n,hk,hc,hs,hz,r⟩
 ·obtain ⟨z,its,r,p⟩:=h.ok I.hok
  exact ⟨its,r,p,z⟩
 ·refine ⟨its.toList,r,⟨o,I.kIn a o hk,hc,n,by simpa using hs⟩,?_⟩
  have e:=r.length
  simp only [Array.length_toList] at e
  omega
theorem Inv.list_inj (I:Inv X pins σ H s) (h:SqL X.K H a xs) (h':SqL X.K H a ys):xs=ys:=by
 obtain ⟨its,r,⟨o,n,e,_,_,d⟩,_⟩:=I.list h
 obtain ⟨its',r',⟨o',n',e',_,_,d'⟩,_⟩:=I.list h'
 rw [e] at e';cases e'
 rw [d] at d'
 injection d' with d1 _
 have:its=its':=by simpa using congrArg Array.toList d1
 subst this
 exact r.inj r'
theorem Inv.tuple_inj (I:Inv X pins σ H s) (h:SqT X.K H a xs) (h':SqT X.K H a ys):xs=ys:=by
 obtain ⟨its,r,⟨o,e,_,n,d⟩,_⟩:=I.tuple h
 obtain ⟨its',r',⟨o',e',_,n',d'⟩,_⟩:=I.tuple h'
 rw [e] at e';cases e'
 rw [d] at d'
 injection d' with d1 _
 have:its=its':=by simpa using congrArg Array.toList d1
 subst this
 exact r.inj r'
end
abbrev Cx.wish (X:Cx) (E:Value->Shared->Prop):Cx:={ X with xe:=E }
abbrev Cx.nox (X:Cx):Cx:=X.wish fun _ _=>False
theorem Cx.Ok.wish {X:Cx} (ok:X.Ok) (E:Value->Shared->Prop):(X.wish E).Ok :=
 ⟨ok.mod,ok.kind,ok.glob,ok.blt,ok.above,ok.inj,ok.has,ok.cab,ok.hd,ok.frames,ok.stk,ok.exf,ok.bs,ok.bsz,ok.noex,ok.exfs,ok.funs,ok.frf⟩
theorem Cx.Ok.unwish {X:Cx}{E:Value->Shared->Prop} (ok:(X.wish E).Ok):X.Ok :=
 ⟨ok.mod,ok.kind,ok.glob,ok.blt,ok.above,ok.inj,ok.has,ok.cab,ok.hd,ok.frames,ok.stk,ok.exf,ok.bs,ok.bsz,ok.noex,ok.exfs,ok.funs,ok.frf⟩
section
variable {X:Cx}{pins:List (Addr×Obj)}{σ:St}{H:Hp}{s:Shared}{E:Value->Shared->Prop}
theorem Inv.wish (I:Inv X pins σ H s) (E:Value->Shared->Prop):Inv (X.wish E) pins σ H s:=⟨I.ok.wish E,I.os,I.bare,I.base,I.loc,I.cell,I.free,I.freeC,I.pin,I.hok,I.len⟩
theorem Inv.unwish (I:Inv (X.wish E) pins σ H s):Inv X pins σ H s:=⟨I.ok.unwish,I.os,I.bare,I.base,I.loc,I.cell,I.free,I.freeC,I.pin,I.hok,I.len⟩
theorem SP.unwish {D:w2X}{f:Flow}{s':Shared} (h:SP (X.wish E) pins D f s'):SP X pins D f s':=by
 cases f with
 | next=>obtain ⟨σ',H',I,q⟩:=h;exact ⟨σ',H',I.unwish,q⟩
 | brk=>obtain ⟨σ',H',I,q⟩:=h;exact ⟨σ',H',I.unwish,q⟩
 | cont=>obtain ⟨σ',H',I,q⟩:=h;exact ⟨σ',H',I.unwish,q⟩
 | ret u=>obtain ⟨v,σ',H',I,r,q⟩:=h;exact ⟨v,σ',H',I.unwish,r,q⟩
end
section
variable {X:Cx}{st:Stmt}{q0V:List Stmt}{t u:TS}{e:Expr}{te:TE}{pos:Pos}
def x5L:TS:=fun D σ H=>D.nx σ H
def x7n (t u:TS):TS:=fun D σ H=>t { D with nx:=u D } σ H
theorem w73:PSs X [] x5L:=fun _ _ σ H _ I h=>wpAny_execs_nil ⟨σ,H,I,h⟩
theorem q2R (h1:PS X st t) (h2:PSs X q0V u):PSs X (st::q0V) (x7n t u):=by
 intro pins s σ H D I h
 refine wpAny_execs_cons (thn (h1 pins s σ H { D with nx:=u D } I h) fun f s1 q=>?_)
 cases f with
 | next =>
  obtain ⟨σ',H',I',q⟩:=q
  exact h2 pins s1 σ' H' D I' q
 | ret v=>exact q
 | brk=>exact q
 | cont=>exact q
theorem q7W (h1:PS X st t):PSs X [st] t:=by
 intro pins s σ H D I h
 refine wpAny_execs_cons (thn (h1 pins s σ H D I h) fun f s1 q=>?_)
 cases f with
 | next=>exact wpAny_execs_nil q
 | ret v=>exact q
 | brk=>exact q
 | cont=>exact q
theorem Inv.quiet {pins:List (Addr×Obj)}{σ:St}{H:Hp}{s:Shared} (I:Inv X pins σ H s):interactive X.env=false:=by simp [interactive,I.ok.kind]
def x5M (te:TE):TS:=fun D σ H=>te σ H fun _ H1=>D.nx σ H1
theorem q6c (he:PE X e te) (hs:swapsWith e none pos.line X.env=pure false:=by rfl):PS X (.Expr e pos) (x5M te):=by
 intro pins s σ H D I h
 exact wpAny_Expr_any (thn (he pins s σ H _ I h) fun v s1 h_7=>by obtain ⟨x,H1,I1,r1,q1⟩:=h_7;exact ⟨σ,H1,I1,q1⟩) I.quiet hs
def x6B (te:TE):TS:=fun D σ H=>te σ H D.rt
theorem w4R (he:PE X e te):PS X (.Return (some e) pos) (x6B te):=by
 intro pins s σ H D I h
 exact wpAny_Return_some (thn (he pins s σ H _ I h) fun v s1 h_8=>by obtain ⟨x,H1,I1,r1,q1⟩:=h_8;exact ⟨x,σ,H1,I1,r1,q1⟩)
def x7o (c:TT) (t u:TS):TS:=fun D σ H=>c σ H fun b H1=>if b=true then t D σ H1 else u D σ H1
theorem x3x {c:Expr}{a b:List Stmt}{tc:TT} (hc:PT X c tc) (ha:PSs X a t) (hb:PSs X b u):PS X (.If c a b pos) (x7o tc t u):=by
 intro pins s σ H D I h
 refine wpAny_If (thn (hc pins s σ H _ I h) fun d s1 ⟨H1,I1,q1⟩=>?_)
 cases d with
 | true=>exact ha pins s1 σ H1 D I1 q1
 | false=>exact hb pins s1 σ H1 D I1 q1
def x3y:TS:=fun _ _ _=>False
theorem q42 {sts:List Stmt}:PSs X sts x3y:=fun _ _ _ _ _ _ h=>h.elim
end
abbrev TG:=V->St->Hp->(St->Hp->Prop)->Prop
abbrev TGs:=List V->St->Hp->(St->Hp->Prop)->Prop
def PG (X:Cx) (target:Expr) (t:TG):Prop :=
 ∀ (pins:List (Addr×Obj)) (s:Shared) (σ:St) (H:Hp) (v:V) (u:Value) (Q:St->Hp->Prop),Inv X pins σ H s->q1Q v u->t v σ H Q ->
  wpAny (model X.prog X.w) X.A (assign target X.env u) (fun _ s'=>SN X pins Q s') X.xe s
def PGs (X:Cx) (ts:List Expr) (t:TGs):Prop :=
 ∀ (pins:List (Addr×Obj)) (s:Shared) (σ:St) (H:Hp) (vs:List V) (us:List Value) (Q:St->Hp->Prop),Inv X pins σ H s->q1x vs us->t vs σ H Q ->
  wpAny (model X.prog X.w) X.A (assignInOrder ((assignEach ts X.env).map (·.2)) us) (fun _ s'=>SN X pins Q s') X.xe s
section
variable {X:Cx}{pos:Pos}
def w1b (i:Nat):TG:=fun v σ H Q=>Q (σ.set i (some v)) H
theorem q0Q {i:Nat}{x:Str} (hN:X.N.Nodup) (hi:X.N[i]?=some x) (hx:Loc X.env.scope x) (hf:X.fn x=true\/X.env.scope.names.lookup x=some .local:=by first | exact .inl rfl | exact .inr rfl | assumption):PG X (.Name x pos) (w1b i):=by
 intro pins s σ H v u Q I r h
 exact wpAny_assign_Name (w09 I hN hi hx r (fun s' I'=>⟨_,H,I',h⟩) hf)
def q0k:TGs:=fun vs σ H Q=>vs=[]/\Q σ H
inductive x0l (t:TG) (u:TGs) (vs:List V) (σ:St) (H:Hp) (Q:St->Hp->Prop):Prop
 | mk (v r:_) (h0:vs=v::r) (h1:t v σ H fun σ' H'=>u r σ' H' Q):x0l t u vs σ H Q
def q01 (t:TG) (u:TGs):TGs:=x0l t u
theorem w2Z:PGs X [] q0k:=by
 intro pins s σ H vs us Q I r h
 obtain ⟨e,h⟩:=h
 subst e
 cases r
 exact assignInOrder_nil ⟨σ,H,I,h⟩
theorem q5D {e:Expr}{es:List Expr}{t:TG}{u:TGs} (h1:PG X e t) (h2:PGs X es u)
  (hs:(assignEach (e::es) X.env).map (·.2)=assign e X.env::(assignEach es X.env).map (·.2):=by rfl):PGs X (e::es) (q01 t u):=by
 intro pins s σ H vs us Q I r h
 obtain ⟨v,vr,e1,h⟩:=h
 subst e1
 cases r with
 | cons r rr =>
  rw [hs]
  refine assignInOrder_cons (thn (h1 pins s σ H _ _ _ I r h) fun _ s1 ⟨σ1,H1,I1,q1⟩=>?_)
  exact h2 pins s1 σ1 H1 _ _ Q I1 rr q1
inductive x3z (K:PySem.W.Frag) (n:Nat) (t:TGs) (v:V) (σ:St) (H:Hp) (Q:St->Hp->Prop):Prop
 | mk (a xs:_) (h0:v=.ref a) (h1:SqT K H a xs) (h2:xs.length=n) (h3:t xs σ H Q):x3z K n t v σ H Q
def x5N (K:PySem.W.Frag) (n:Nat) (t:TGs):TG:=x3z K n t
theorem w74 {es:List Expr}{k:Nat}{t:TGs}{n:Nat} (hc:X.calm=true) (h:PGs X es t)
  (hn:(assignEach es X.env).length=n:=by rfl) (hst:(assignEach es X.env).findIdx? (·.1)=none:=by rfl):PG X (.Tuple es k pos) (x5N X.K n t):=by
 intro pins s σ H v u Q I r hw
 obtain ⟨a,xs,e1,hq,hl,hw⟩:=hw
 subst e1
 cases r
 obtain ⟨its,rv,ht,hz⟩:=I.tuple hq
 refine assign_Tuple_tuple (I.ok.hd hc) ht (by simp [hn,<- hl,rv.length]) hst fun h' hx=>?_
 have I1:Inv X pins σ H { s with heap:=h' }:=I.kept (t':=s.toks) fun b o e=>hx b o (Nat.ne_of_lt (Heap.lt_size e)) e
 exact h pins _ σ H xs _ Q I1 (by simpa using rv) hw
def x6C (te:TE) (g:TG):TS:=fun D σ H=>te σ H fun x H1=>g x σ H1 D.nx
theorem x0m {tg e:Expr}{te:TE}{g:TG} (he:PE X e te) (hg:PG X tg g) (hs:swapsWithSole [tg] e pos.line X.env=pure false:=by rfl) (hw:swappedStores [tg] e X.env=pure none:=by rfl)
  (h1:(assignEach [tg] X.env).map (·.2)=[assign tg X.env]:=by rfl):PS X (.Assign [tg] e pos) (x6C te g):=by
 intro pins s σ H D I h
 refine wpAny_Assign_stores (thn (he pins s σ H _ I h) fun v s1 ⟨x,H1,I1,r1,q1⟩=>?_) hs hw
 rw [h1]
 exact thn (hg pins s1 σ H1 x v _ I1 r1 q1) fun _ s2 q=>q
theorem w4S {i:Nat}{x:Str}{e:Expr}{te:TE}{pos':Pos} (hN:X.N.Nodup) (hi:X.N[i]?=some x) (hx:Loc X.env.scope x) (he:PE X e te) (hs:swapsWith e (some (.Name x pos')) pos.line X.env=pure false:=by rfl) (hf:X.fn x=true\/X.env.scope.names.lookup x=some .local:=by first | exact .inl rfl | exact .inr rfl | assumption) :
  PS X (.Assign [.Name x pos'] e pos) (x6C te (w1b i)):=by
 intro pins s σ H D I h
 refine wpAny_Assign_Name (thn (he pins s σ H _ I h) fun v s1 ⟨y,H1,I1,r1,q1⟩=>?_) hs
 exact w09 I1 hN hi hx r1 (fun s2 I2=>⟨_,H1,I2,q1⟩) hf
end
section
variable {X:Cx}{pos:Pos}
end
structure It where
 go:Nat->Hp->Prop
 yld:Nat->Hp->V->Hp->Prop
 stop:Nat->Hp->Prop
structure w1c (X:Cx) (pins:List (Addr×Obj)) (H:Hp) (b:Addr):Prop where
 f0:H b=none
 f1:b≠X.env.locals
 f2:b∉X.fs
 f3:b∈X.ex\/X.s₀.heap.objs.size<=b
 f4:∀ x c,X.env.cells.lookup x=some c->c≠b
 f5:∀ p∈X.pn++pins,p.1≠b
theorem Inv.fpOk {X:Cx}{pins:List (Addr×Obj)}{σ:St}{H H':Hp}{s:Shared}{b:Addr} (I:Inv X pins σ H s) (hb:s.heap.objs.size<=b) (hn:H' b=none):w1c X pins H' b:=by
 refine ⟨hn,Nat.ne_of_gt (Nat.lt_of_lt_of_le I.lt hb),I.nofs hb,.inr (Nat.le_trans I.sz hb),fun x c e z=>?_,fun p hp z=>?_⟩
 ·obtain ⟨v,q⟩:=I.cell x c e
  exact absurd (Nat.lt_of_lt_of_le q.lt (by rw [z];exact hb)) (Nat.lt_irrefl _)
 ·exact absurd (Nat.lt_of_lt_of_le (Heap.lt_size (I.pin p hp).1) (by rw [z];exact hb)) (Nat.lt_irrefl _)
structure w97 (P:Program) (w:World) (K:PySem.W.Frag) (tg:Expr) (J:It) (fp:List Addr) (it:Addr) (tn:Nat->Heap->Prop):Prop where
 mem:it∈fp
 obj:∀ i h,tn i h->∀ b∈fp,∃ o,h.get? b=some o/\∀ v,o.data≠.cell v
 keep:∀ i h h',tn i h->(∀ b∈fp,∀ o,h.get? b=some o->h'.get? b=some o)->tn i h'
 item:∀ (X:Cx),X.prog=P->X.w=w->X.K=K->X.calm=true->∀ (i:Nat) (pins:List (Addr×Obj)) (s:Shared) (σ:St) (H:Hp) (E:Value->Shared->Prop),Inv X pins σ H s->(∀ b∈fp,w1c X pins H b)->tn i s.heap->J.go i H ->
  wpAny (model P w) X.A (pyNext (.ref it)) (fun r s1=>∃ u,r=some u /\
   wpAny (model P w) X.A (letOwnedTupleGo tg (.ref it) u) (fun _ s2=>∃ x H',Inv X pins σ H' s2/\q1Q x u/\J.yld i H x H'/\tn (i + 1) s2.heap/\∀ b∈fp,H' b=none) E s1) E s
 done:∀ (X:Cx),X.prog=P->X.w=w->X.K=K->X.calm=true->∀ (i:Nat) (pins:List (Addr×Obj)) (s:Shared) (σ:St) (H:Hp) (E:Value->Shared->Prop),Inv X pins σ H s->(∀ b∈fp,w1c X pins H b)->tn i s.heap->J.stop i H ->
  wpAny (model P w) X.A (pyNext (.ref it)) (fun r s1=>r=none/\Inv X pins σ H s1) E s
 self:∀ (A:Around) (i:Nat) (s:Shared) (Q:Value->Shared->Prop) (E:Value->Shared->Prop),tn i s.heap->Q (.ref it) s->wpAny (model P w) A (pyIter (.ref it)) Q E s
abbrev TI:=St->Hp->(It->Hp->Prop)->Prop
inductive PIE (X:Cx) (pins:List (Addr×Obj)) (σ:St) (tg:Expr) (R:It->Hp->Prop) (itv:Value) (s2:Shared):Prop
 | mk (it:Addr) (fp:List Addr) (tn:Nat->Heap->Prop) (J:It) (H':Hp) (h0:itv=.ref it) (I:Inv X pins σ H' s2) (T:w97 X.prog X.w X.K tg J fp it tn) (t0:tn 0 s2.heap) (f:∀ b∈fp,w1c X pins H' b) (q:R J H'):PIE X pins σ tg R itv s2
inductive FLI (X:Cx) (pins:List (Addr×Obj)) (tn:Nat->Heap->Prop) (fp:List Addr) (W:Nat->Nat->St->Hp->Prop) (n:Nat) (s':Shared):Prop
 | mk (i:Nat) (σ':St) (H':Hp) (I:Inv X pins σ' H' s') (t:tn i s'.heap) (f:∀ b∈fp,H' b=none) (q:W i n σ' H'):FLI X pins tn fp W n s'
def PI (X:Cx) (tg iter:Expr) (wi:TI):Prop :=
 ∀ (pins:List (Addr×Obj)) (s:Shared) (σ:St) (H:Hp) (R:It->Hp->Prop),Inv X pins σ H s->wi σ H R ->
  wpAny (model X.prog X.w) X.A (eval iter X.env) (fun v s1=>wpAny (model X.prog X.w) X.A (pyIter v) (PIE X pins σ tg R) X.xe s1) X.xe s
theorem x1D {M : Model} {A : Around} {E : Value -> Shared -> Prop} {s : Shared} {tg : Expr} {it : Addr} {u : Value} {o : Obj} {n : String} {vs : Array Value} {Q : Unit -> Shared -> Prop} (ho : s.heap.get? it = some o) (hc : o.cls = .type n) (hd : o.data = .fields vs)
    (hn : ["enumerate", "zip", "dict_itemiterator", "dict_reverseitemiterator", "odict_iterator", "itertools.zip_longest", "itertools.pairwise"].contains n = false) (hQ : Q () s) : wpAny M A (letOwnedTupleGo tg (.ref it) u) Q E s := by
  unfold letOwnedTupleGo
  cases tg <;> first
    | exact wpAny_pure hQ
    | (cases u <;> first
        | exact wpAny_pure hQ
        | (refine wpAny_bind (wpAny_load ho ?_)
           rw [hc, hd]
           show wpAny M A (if (["enumerate", "zip", "dict_itemiterator", "dict_reverseitemiterator", "odict_iterator", "itertools.zip_longest", "itertools.pairwise"].contains n && vs[0]? == some (rawInt _)) = true then _ else _) Q E s
           rw [if_neg (by intro h; rw [hn, Bool.false_and] at h; cases h)]
           exact wpAny_pure hQ))
def Itl (K:PySem.W.Frag) (a:Addr):It :=
 ⟨fun i H=>∃ xs x,SqL K H a xs/\xs[i]?=some x,fun i H x H'=>H'=H/\∀ xs,SqL K H a xs->xs[i]?=some x,fun i H=>∃ xs,SqL K H a xs/\xs.length<=i⟩
def Itt (K:PySem.W.Frag) (a:Addr):It :=
 ⟨fun i H=>∃ xs x,SqT K H a xs/\xs[i]?=some x,fun i H x H'=>H'=H/\∀ xs,SqT K H a xs->xs[i]?=some x,fun i H=>∃ xs,SqT K H a xs/\xs.length<=i⟩
def Itr (lo:Int) (n:Nat):It:=⟨fun i _=>i<n,fun i H x H'=>H'=H/\x=.int (lo + i),fun i _=>n<=i⟩
theorem w75 {P:Program}{w:World}{K:PySem.W.Frag}{tg:Expr} (a it:Addr):w97 P w K tg (Itl K a) [it] it (fun i h=>h.IsListIter it a i) where
 mem:=by simp
 obj:=fun i h st b hb=>by
  have e:b=it:=by simpa using hb
  subst e
  obtain ⟨o,e,c,d⟩:=st
  exact ⟨o,e,fun v z=>by rw [d] at z;cases z⟩
 keep:=fun i h h' st k=>st.at fun o e=>k it (by simp) o e
 item:=by
  intro X hP hw hK hc i pins s σ H E I hf st hg
  subst hP hw hK
  obtain ⟨xs,x,hq,hx⟩:=hg
  obtain ⟨its,rv,p,hz⟩:=I.list hq
  obtain ⟨u,hu,ru⟩:=rv.get hx
  obtain ⟨f0,f1,f2,f3,f4,f5⟩:=hf it (by simp)
  refine wpAny_pyNext_list_item st p.isList (x:=u) (by simpa using hu) fun h' st' sb=>?_
  have I1:Inv X pins σ H { s with heap:=h' }:=I.turned (t':=s.toks) (fun b o hb e=>(sb.2 b hb).trans e) f0 f1 f3 f4 f5
  obtain ⟨o,e,c,d⟩:=id st'
  exact ⟨u,rfl,x1D (s:={ s with heap:=h' }) e c d (by decide) ⟨x,H,I1,ru,⟨rfl,fun ys hy=>by rw [I.list_inj hy hq];exact hx⟩,st',fun b hb=>(hf b hb).1⟩⟩
 done:=by
  intro X hP hw hK hc i pins s σ H E I hf st hg
  subst hP hw hK
  obtain ⟨xs,hq,hx⟩:=hg
  obtain ⟨its,rv,p,hz⟩:=I.list hq
  obtain ⟨f0,f1,f2,f3,f4,f5⟩:=hf it (by simp)
  have hl:=rv.length
  exact wpAny_pyNext_list_end (I.ok.hd hc) st p.isList (by simp;omega) fun h' eb=>⟨rfl,I.turned (t':=s.toks) (fun b o hb e=>eb b o hb e) f0 f1 f3 f4 f5⟩
 self:=fun _ _ _ _ _ st h=>wpAny_pyIter_listiter st h
theorem w5H {P:Program}{w:World}{K:PySem.W.Frag}{tg:Expr} (a it:Addr):w97 P w K tg (Itt K a) [it] it (fun i h=>h.IsTupleIter it a i) where
 mem:=by simp
 obj:=fun i h st b hb=>by
  have e:b=it:=by simpa using hb
  subst e
  obtain ⟨o,e,c,d⟩:=st
  exact ⟨o,e,fun v z=>by rw [d] at z;cases z⟩
 keep:=fun i h h' st k=>st.at fun o e=>k it (by simp) o e
 item:=by
  intro X hP hw hK hc i pins s σ H E I hf st hg
  subst hP hw hK
  obtain ⟨xs,x,hq,hx⟩:=hg
  obtain ⟨its,rv,p,hz⟩:=I.tuple hq
  obtain ⟨u,hu,ru⟩:=rv.get hx
  obtain ⟨f0,f1,f2,f3,f4,f5⟩:=hf it (by simp)
  refine wpAny_pyNext_tuple_item st (show s.heap.IsTuple a its.toArray from p) (x:=u) (by simpa using hu) fun h' st' sb=>?_
  have I1:Inv X pins σ H { s with heap:=h' }:=I.turned (t':=s.toks) (fun b o hb e=>(sb.2 b hb).trans e) f0 f1 f3 f4 f5
  obtain ⟨o,e,c,d⟩:=id st'
  exact ⟨u,rfl,x1D (s:={ s with heap:=h' }) e c d (by decide) ⟨x,H,I1,ru,⟨rfl,fun ys hy=>by rw [I.tuple_inj hy hq];exact hx⟩,st',fun b hb=>(hf b hb).1⟩⟩
 done:=by
  intro X hP hw hK hc i pins s σ H E I hf st hg
  subst hP hw hK
  obtain ⟨xs,hq,hx⟩:=hg
  obtain ⟨its,rv,p,hz⟩:=I.tuple hq
  obtain ⟨f0,f1,f2,f3,f4,f5⟩:=hf it (by simp)
  have hl:=rv.length
  exact wpAny_pyNext_tuple_end (I.ok.hd hc) st (show s.heap.IsTuple a its.toArray from p) (by simp;omega) fun h' eb=>⟨rfl,I.turned (t':=s.toks) (fun b o hb e=>eb b o hb e) f0 f1 f3 f4 f5⟩
 self:=fun _ _ _ _ _ st h=>wpAny_pyIter_tupleiter st h
theorem w5I {P:Program}{w:World}{K:PySem.W.Frag}{tg:Expr} (it:Addr) (lo:Int) (n:Nat):w97 P w K tg (Itr lo n) [it] it (fun i h=>IsRangeIter h it (lo + (i:Nat) * 1) ((n:Int) - (i:Nat)) 1) where
 mem:=by simp
 obj:=fun i h st b hb=>by
  have e:b=it:=by simpa using hb
  subst e
  exact ⟨_,st,fun v z=>by
   have z':Data.fields _=Data.cell v:=z
   cases z'⟩
 keep:=fun i h h' st k=>k it (by simp) _ st
 item:=by
  intro X hP hw hK hc i pins s σ H E I hf st hg
  subst hP hw hK
  obtain ⟨f0,f1,f2,f3,f4,f5⟩:=hf it (by simp)
  have W:=Walks.range (prog:=X.prog) (w:=X.w) (I.ok.hd hc) it lo 1 n
  refine W.item i s _ _ hg st fun v h' tk hv st' kk=>?_
  obtain ⟨t,rfl⟩:=hv
  have I1:Inv X pins σ H { s with heap:=h',toks:=tk }:=I.turned (fun b o hb e=>kk b o (by simpa using hb) e) f0 f1 f3 f4 f5
  refine ⟨_,rfl,x1D (s:={ s with heap:=h',toks:=tk }) (n:="range_iterator") st' rfl rfl (by decide) ⟨.int (lo + i),H,I1,⟨t,?_⟩,⟨rfl,rfl⟩,st',fun b hb=>(hf b hb).1⟩⟩
  rw [Int.mul_one]
 done:=by
  intro X hP hw hK hc i pins s σ H E I hf st hg
  subst hP hw hK
  obtain ⟨f0,f1,f2,f3,f4,f5⟩:=hf it (by simp)
  exact wpAny_pyNext_range_end (I.ok.hd hc) st (by have:n<=i:=hg;omega) fun h' eb=>⟨rfl,I.turned (t':=s.toks) (fun b o hb e=>eb b o hb e) f0 f1 f3 f4 f5⟩
 self:=fun _ _ _ _ _ st h=>wpAny_pyIter_rangeiter st h
end L2
namespace L2
open PySem PySem.Spec PyProof.Rows
section
variable {X:Cx}{tg:Expr}
def x5O (K:PySem.W.Frag) (tl:TE):TI:=fun σ H R=>tl σ H fun x H1=>∃ a,x=.ref a/\(∃ xs,SqL K H1 a xs)/\R (Itl K a) H1
def x7p (K:PySem.W.Frag) (tl:TE):TI:=fun σ H R=>tl σ H fun x H1=>∃ a,x=.ref a/\(∃ xs,SqT K H1 a xs)/\R (Itt K a) H1
theorem w0b {l:Expr}{tl:TE} (hl:PE X l tl):PI X tg l (x5O X.K tl):=by
 intro pins s σ H R I h
 refine thn (hl pins s σ H _ I h) fun v s1 h_16=>?_
 obtain ⟨x,H1,I1,r1,q1⟩:=h_16
 obtain ⟨a,e,⟨xs,hq⟩,q⟩:=q1
 subst e
 cases r1
 obtain ⟨its,rv,p,hz⟩:=I1.list hq
 refine wpAny_pyIter_list p.isList ?_
 refine ⟨s1.heap.objs.size,[s1.heap.objs.size],_,_,H1,rfl,I1.kept (t':=s1.toks) fun b o e=>Heap.get?_push_of_some _ e,w75 a _,⟨_,Heap.get?_push_size _ rfl,rfl,rfl⟩,fun b hb=>?_,q⟩
 have e:b=s1.heap.objs.size:=by simpa using hb
 subst e
 exact I1.fpOk (Nat.le_refl _) (I1.hok.fresh (Nat.le_refl _))
theorem x0n {l:Expr}{tl:TE} (hl:PE X l tl):PI X tg l (x7p X.K tl):=by
 intro pins s σ H R I h
 refine thn (hl pins s σ H _ I h) fun v s1 h_17=>?_
 obtain ⟨x,H1,I1,r1,q1⟩:=h_17
 obtain ⟨a,e,⟨xs,hq⟩,q⟩:=q1
 subst e
 cases r1
 obtain ⟨its,rv,p,hz⟩:=I1.tuple hq
 refine wpAny_pyIter_tuple (show s1.heap.IsTuple a its.toArray from p) ?_
 refine ⟨s1.heap.objs.size,[s1.heap.objs.size],_,_,H1,rfl,I1.kept (t':=s1.toks) fun b o e=>Heap.get?_push_of_some _ e,w5H a _,⟨_,Heap.get?_push_size _ rfl,rfl,rfl⟩,fun b hb=>?_,q⟩
 have e:b=s1.heap.objs.size:=by simpa using hb
 subst e
 exact I1.fpOk (Nat.le_refl _) (I1.hok.fresh (Nat.le_refl _))
theorem w98 {pins:List (Addr×Obj)}{σ:St}{H:Hp}{s:Shared}{R:It->Hp->Prop}{E:Value->Shared->Prop}{lo hi:Int}{t u v:Tok}{tk:Nat} (I:Inv X pins σ H s) (h1:-(2 ^ 62)<=lo) (h2:lo<2 ^ 62) (h3:-(2 ^ 62)<=hi) (h4:hi<2 ^ 62)
  (q:R (Itr lo (hi - lo).toNat) H):wpAny (model X.prog X.w) X.A (pyIter (.ref s.heap.objs.size)) (PIE X pins σ tg R) E { s with heap:=s.heap.push { cls:=.type "range",data:=.fields #[.int lo t,.int hi u,.int 1 v] },toks:=tk }:=by
 refine wpAny_pyIter_range (IsRange.new ..) (small_one h1 h2 h3 h4) ?_
 have I1:Inv X pins σ H { s with heap:=s.heap.push { cls:=.type "range",data:=.fields #[.int lo t,.int hi u,.int 1 v] },toks:=tk }:=I.kept fun b o e=>Heap.get?_push_of_some _ e
 refine ⟨(s.heap.push { cls:=.type "range",data:=.fields #[.int lo t,.int hi u,.int 1 v] }).objs.size,[(s.heap.push { cls:=.type "range",data:=.fields #[.int lo t,.int hi u,.int 1 v] }).objs.size],_,_,H,rfl,
  I1.kept (t':=tk) fun b o e=>Heap.get?_push_of_some _ e,w5I _ lo (hi - lo).toNat,?_,fun b hb=>?_,q⟩
 ·have e1:lo + ((0:Nat):Int) * 1=lo:=by simp
  have e2:(((hi - lo).toNat:Nat):Int) - ((0:Nat):Int)=Builtin.Range.rangeSize lo hi 1:=by rw [rangeSize_one];split<;>omega
  show IsRangeIter _ _ (lo + ((0:Nat):Int) * 1) ((((hi - lo).toNat:Nat):Int) - ((0:Nat):Int)) 1
  rw [e1,e2]
  exact Heap.get?_push_size _ rfl
 ·have e:b=(s.heap.push { cls:=.type "range",data:=.fields #[.int lo t,.int hi u,.int 1 v] }).objs.size:=by simpa using hb
  subst e
  exact I1.fpOk (Nat.le_refl _) (I1.hok.fresh (Nat.le_refl _))
def x5P (ta:TA):TI:=fun σ H R=>ta σ H fun vs H1=>∃ j:Int,vs=[.int j]/\-(2 ^ 62)<=j/\j<2 ^ 62/\R (Itr 0 j.toNat) H1
theorem w76 {a:Expr}{ta:TA}{p pos:Pos} (hg:Gl X "range") (hm:X.mg "range"=none) (ha:PA X [a] ta) (hs:starEach [a] X.env=[(false,eval a X.env)]:=by rfl):PI X tg (.Call (.Name "range" p) [a] [] pos) (x5P ta):=by
 intro pins s σ H R I h
 refine Call_ (q9E I hg hm boot_range (PyProof.Rows.callWith_type1 (thn (ha pos pins s σ H _ I h) fun us s1 ⟨vs,H1,I1,r1,q1⟩=>?_) hs rfl))
 obtain ⟨j,e,q1,q2,q⟩:=q1
 subst e
 cases r1 with
 | cons r rr =>
  cases rr
  obtain ⟨t,rfl⟩:=r
  exact call_range_1 (w98 I1 (by omega) (by omega) q1 q2 (by simpa using q))
inductive TFI (g:TG) (tb:TS) (D:w2X) (σ:St) (J:It) (H1:Hp):Prop
 | mk (W:Nat->Nat->St->Hp->Prop) (w0:∃ m,W 0 m σ H1) (turn:∀ i m σ H,W i m σ H ->
 (J.stop i H/\D.nx σ H)\/(J.go i H/\∃ N:St->Hp->Prop,(∀ σ' H',N σ' H'->∃ m',m'<m/\W (i + 1) m' σ' H')/\∀ x H',J.yld i H x H'->g x σ H' fun σ2 H2=>tb { D with nx:=N,ct:=N,bk:=D.nx } σ2 H2)):TFI g tb D σ J H1
def x7q (wi:TI) (g:TG) (tb:TS):TS:=fun D σ H=>wi σ H (TFI g tb D σ)
def q9F (fp:List Addr) (h:Heap):List (Addr×Obj):=fp.filterMap fun b=>(h.get? b).map fun o=>(b,o)
theorem q2W {fp:List Addr}{h:Heap}{b:Addr}{o:Obj} (hb:b∈fp) (e:h.get? b=some o):(b,o)∈q9F fp h:=List.mem_filterMap.mpr ⟨b,hb,by rw [e];rfl⟩
theorem w77 {fp:List Addr}{h:Heap}{p:Addr×Obj} (hp:p∈q9F fp h):p.1∈fp/\h.get? p.1=some p.2:=by
 obtain ⟨b,hb,e⟩:=List.mem_filterMap.mp hp
 cases q:h.get? b with
 | none=>rw [q] at e;cases e
 | some o =>
  rw [q] at e
  have e':(b,o)=p:=Option.some.inj e
  subst e'
  exact ⟨hb,q⟩
theorem Inv.pinned {pins:List (Addr×Obj)}{σ:St}{H:Hp}{s:Shared}{fp:List Addr} (I:Inv X pins σ H s) (hf:∀ b∈fp,w1c X pins H b) (ho:∀ b∈fp,∃ o,s.heap.get? b=some o/\∀ v,o.data≠.cell v):Inv X (pins++q9F fp s.heap) σ H s :=
 I.pins_of fun p hp=>(List.mem_append.mp hp).elim (fun z=>I.pin p (List.mem_append_right _ z)) fun z=>by
  obtain ⟨hb,e⟩:=w77 z
  obtain ⟨f0,f1,f2,_⟩:=hf p.1 hb
  obtain ⟨o,e',d⟩:=ho p.1 hb
  rw [e] at e';cases e'
  exact ⟨e,f0,f1,f2,d⟩
theorem Inv.unpinned {pins pl:List (Addr×Obj)}{σ:St}{H:Hp}{s:Shared} (I:Inv X (pins++pl) σ H s):Inv X pins σ H s:=I.pins_of fun p hp=>I.pin p (List.mem_append_right _ (List.mem_append_left _ hp))
theorem x3A {iter:Expr}{body:List Stmt}{wi:TI}{g:TG}{tb:TS}{pos:Pos} (hp:PassesOwn (model X.prog X.w) X.A X.env X.xe) (hc:X.calm=true) (hi:PI X tg iter wi) (hg:PG X tg g) (hb:PSs X body tb)
  (hs:∀ x,foldedSetIterable iter X.env x=pure x:=by intro _;rfl):PS X (.For tg iter body [] pos) (x7q wi g tb):=by
 intro pins s σ H D I h
 refine wpAny_For (thn (hi pins s σ H _ I h) fun v s1 h1=>thn h1 fun itv s2 h2=>?_) hs
 obtain ⟨it,fp,tn,J,H2,e,I2,T,st2,f2,W,⟨m0,w0⟩,turn⟩:=h2
 subst e
 have stat:∀ {H':Hp},(∀ b∈fp,H' b=none)->∀ b∈fp,w1c X pins H' b:=fun hn b hb=>⟨hn b hb,(f2 b hb).f1,(f2 b hb).f2,(f2 b hb).f3,(f2 b hb).f4,(f2 b hb).f5⟩
 refine codeAny_forLoop_any (FLI X pins tn fp W) ?_ m0 ⟨0,σ,H2,I2,st2,fun b hb=>(f2 b hb).1,w0⟩
 rintro n s3 ⟨i,σ3,H3,I3,st3,fr3,w3⟩
 rcases turn i n σ3 H3 w3 with ⟨stop,qn⟩ | ⟨go,N,hN,step⟩
 ·refine wpAny_passesOwn hp (thn (T.done X rfl rfl rfl hc i pins s3 σ3 H3 X.xe I3 (stat fr3) st3 stop) fun r s4 ⟨hr,I4⟩=>?_)
  subst hr
  exact wpAny_execs_nil ⟨σ3,H3,I4,qn⟩
 ·refine wpAny_passesOwn hp (thn (T.item X rfl rfl rfl hc i pins s3 σ3 H3 X.xe I3 (stat fr3) st3 go) fun r s4 ⟨u,hr,h4⟩=>?_)
  subst hr
  refine wpAny_passesOwn hp (thn h4 fun _ s5 ⟨x,H5,I5,r5,y5,st5,fr5⟩=>?_)
  have I5':=I5.pinned (stat fr5) (T.obj _ _ st5)
  refine wpAny_passesOwn hp (thn (hg _ s5 σ3 H5 x u _ I5' r5 (step x H5 y5)) fun _ s6 ⟨σ6,H6,I6,q6⟩=>?_)
  refine wpAny_passesOwn hp (thn (hb _ s6 σ6 H6 _ I6 q6) fun f s7 q7=>?_)
  have again:∀ {σ7:St}{H7:Hp},Inv X (pins++q9F fp s5.heap) σ7 H7 s7->N σ7 H7->∃ m,m<n/\FLI X pins tn fp W m s7:=fun {σ7 H7} I7 n7=>by
   obtain ⟨m',hm,w7⟩:=hN σ7 H7 n7
   refine ⟨m',hm,i + 1,σ7,H7,I7.unpinned,T.keep _ _ _ st5 fun b hb o e=>(I7.pin (b,o) (List.mem_append_right _ (List.mem_append_right _ (q2W hb e)))).1,fun b hb=>?_,w7⟩
   obtain ⟨o,e,d⟩:=T.obj _ _ st5 b hb
   exact (I7.pin (b,o) (List.mem_append_right _ (List.mem_append_right _ (q2W hb e)))).2.1
  cases f with
  | next=>obtain ⟨σ7,H7,I7,n7⟩:=q7;exact again I7 n7
  | cont=>obtain ⟨σ7,H7,I7,n7⟩:=q7;exact again I7 n7
  | brk=>obtain ⟨σ7,H7,I7,q7⟩:=q7;exact ⟨σ7,H7,I7.unpinned,q7⟩
  | ret v=>obtain ⟨x7,σ7,H7,I7,r7,q7⟩:=q7;exact ⟨x7,σ7,H7,I7.unpinned,r7,q7⟩
end
end L2
namespace L2
open PySem PySem.Spec PyProof.Rows
abbrev R2:=V->V->Hp->VK->Prop
def OpR (X:Cx) (f:Value->Value->Sem Value) (r:R2):Prop :=
 ∀ (pins:List (Addr×Obj)) (s:Shared) (σ:St) (H:Hp) (x y:V) (v u:Value) (Q:VK),Inv X pins σ H s->q1Q x v->q1Q y u->r x y H Q ->
  wpAny (model X.prog X.w) X.A (f v u) (EP X pins σ Q) X.xe s
def UnR (X:Cx) (f:Value->Sem Value) (r:V->Hp->VK->Prop):Prop :=
 ∀ (pins:List (Addr×Obj)) (s:Shared) (σ:St) (H:Hp) (x:V) (v:Value) (Q:VK),Inv X pins σ H s->q1Q x v->r x H Q ->
  wpAny (model X.prog X.w) X.A (f v) (EP X pins σ Q) X.xe s
def q3E (X:Cx) (f:Value) (r:List V->Hp->VK->Prop):Prop :=
 ∀ (pins:List (Addr×Obj)) (s:Shared) (σ:St) (H:Hp) (xs:List V) (us:List Value) (Q:VK),Inv X pins σ H s->q1x xs us->r xs H Q ->
  wpAny (model X.prog X.w) X.A (call f us) (EP X pins σ Q) X.xe s
def tOp (r:R2) (ta tb:TE):TE:=fun σ H Q=>ta σ H fun x H1=>tb σ H1 fun y H2=>r x y H2 Q
def tUn (r:V->Hp->VK->Prop) (ta:TE):TE:=fun σ H Q=>ta σ H fun x H1=>r x H1 Q
inductive rII (C:Int->Int->Prop) (g:Int->Int->V) (x:V) (y:V) (H:Hp) (Q:VK):Prop
 | mk (i j:_) (h0:x=.int i) (h1:y=.int j) (h2:C i j) (h3:Q (g i j) H):rII C g x y H Q
def rI (C:Int->Int->Prop) (g:Int->Int->V):R2:=rII C g
inductive x6D (g:Int->Int->V) (x:V) (y:V) (H:Hp) (Q:VK):Prop
 | mk (i j:_) (h0:x=.int i) (h1:y=.int j) (h2:Q (g i j) H):x6D g x y H Q
def rI0 (g:Int->Int->V):R2:=x6D g
inductive rUI (g:Int->V) (x:V) (H:Hp) (Q:VK):Prop
 | mk (i:_) (h0:x=.int i) (h1:Q (g i) H):rUI g x H Q
def rU (g:Int->V):V->Hp->VK->Prop:=rUI g
section
variable {X:Cx}{a b c:Expr}{ta tb tc:TE}{pos:Pos}
theorem x5Q (ha:PE X a ta) (hb:PE X b tb) {pins:List (Addr×Obj)}{s:Shared}{σ:St}{H:Hp}{R:V->V->Hp->Prop} (I:Inv X pins σ H s)
  (h:ta σ H fun x H1=>tb σ H1 fun y H2=>R x y H2) {Q:Value->Shared->Prop}{f:Value->Value->Sem Value}
  (hf:∀ v u s2 x y H2,Inv X pins σ H2 s2->q1Q x v->q1Q y u->R x y H2->wpAny (model X.prog X.w) X.A (f v u) Q X.xe s2) :
  wpAny (model X.prog X.w) X.A (eval a X.env) (fun v s₁=>wpAny (model X.prog X.w) X.A (eval b X.env) (fun u s₂=>wpAny (model X.prog X.w) X.A (f v u) Q X.xe s₂) X.xe s₁) X.xe s:=by
 refine thn (ha pins s σ H _ I h) fun v s1 h_19=>?_
 obtain ⟨x,H1,I1,r1,q1⟩:=h_19
 refine thn (hb pins s1 σ H1 _ I1 q1) fun u s2 h_20=>?_
 obtain ⟨y,H2,I2,r2,q2⟩:=h_20
 exact hf v u s2 x y H2 I2 r1 r2 q2
theorem x3B {op:Operator}{r:R2} (ho:OpR X (binaryOp op) r) (ha:PE X a ta) (hb:PE X b tb):PE X (.BinOp a op b pos) (tOp r ta tb):=by
 intro pins s σ H Q I h
 exact wpAny_BinOp (x5Q ha hb I h fun v u s2 x y H2 I2 rx ry q=>ho pins s2 σ H2 x y v u Q I2 rx ry q)
theorem x5R {op:UnaryOp}{r:V->Hp->VK->Prop} (ho:UnR X (unaryOp op) r) (ha:PE X a ta):PE X (.UnaryOp op a pos) (tUn r ta):=by
 intro pins s σ H Q I h
 exact UnaryOp_ (thn (ha pins s σ H _ I h) fun v s1 h_21=>by obtain ⟨x,H1,I1,r1,q1⟩:=h_21;exact ho pins s1 σ H1 x v Q I1 r1 q1)
theorem opI {f:Value->Value->Sem Value}{C:Int->Int->Prop}{g:Int->Int->Int}
  (rule:∀ (i j:Int) (t u:Tok) (s:Shared) (Q:Value->Shared->Prop) (E:Value->Shared->Prop),C i j->Q (.int (g i j) s.toks) { s with toks:=s.toks + 1 }->wpAny (model X.prog X.w) X.A (f (.int i t) (.int j u)) Q E s) :
  OpR X f (rI C fun i j=>.int (g i j)):=by
 intro pins s σ H x y v u Q I rx ry h
 obtain ⟨i,j,rfl,rfl,hc,q⟩:=h
 obtain ⟨t,rfl⟩:=rx
 obtain ⟨t',rfl⟩:=ry
 exact rule i j t t' s _ _ hc ⟨.int (g i j),H,I.tok _,⟨_,rfl⟩,q⟩
theorem x7r {f:Value->Value->Sem Value}{g:Int->Int->Int}
  (rule:∀ (i j:Int) (t u:Tok) (s:Shared) (Q:Value->Shared->Prop) (E:Value->Shared->Prop),Q (.int (g i j) s.toks) { s with toks:=s.toks + 1 }->wpAny (model X.prog X.w) X.A (f (.int i t) (.int j u)) Q E s) :
  OpR X f (rI0 fun i j=>.int (g i j)):=by
 intro pins s σ H x y v u Q I rx ry h
 obtain ⟨i,j,rfl,rfl,q⟩:=h
 obtain ⟨t,rfl⟩:=rx
 obtain ⟨t',rfl⟩:=ry
 exact rule i j t t' s _ _ ⟨.int (g i j),H,I.tok _,⟨_,rfl⟩,q⟩
theorem x5S {f:Value->Value->Sem Value}{g:Int->Int->Bool}
  (rule:∀ (i j:Int) (t u:Tok) (s:Shared) (Q:Value->Shared->Prop) (E:Value->Shared->Prop),Q (.bool (g i j)) s->wpAny (model X.prog X.w) X.A (f (.int i t) (.int j u)) Q E s) :
  OpR X f (rI0 fun i j=>.bl (g i j)):=by
 intro pins s σ H x y v u Q I rx ry h
 obtain ⟨i,j,rfl,rfl,q⟩:=h
 obtain ⟨t,rfl⟩:=rx
 obtain ⟨t',rfl⟩:=ry
 exact rule i j t t' s _ _ ⟨.bl (g i j),H,I,rfl,q⟩
def x7s (i j:Int):Prop:=0<j/\j<1073741824
def x5T (i j:Int):Prop:=(-(2 ^ 64)<i/\i<2 ^ 64)\/(-(2 ^ 64)<j/\j<2 ^ 64)
theorem x5T.ok {i j:Int} (h:x5T i j):IntMulOk i j:=by
 rcases h with ⟨h1,h2⟩ | ⟨h1,h2⟩
 ·exact .of_left (intBits_le_64 h1 h2)
 ·exact .of_right (intBits_le_64 h1 h2)
theorem x3C:OpR X (binaryOp .Add) (rI0 fun i j=>.int (i + j)):=x7r fun _ _ _ _ _ _ _ q=>add_int q
theorem x3D:OpR X (binaryOp .Mult) (rI x5T fun i j=>.int (i * j)):=opI fun _ _ _ _ _ _ _ hc q=>mul_int q hc.ok
theorem x1E:OpR X (binaryOp .FloorDiv) (rI x7s fun i j=>.int (i / j)):=opI fun i j _ _ _ _ _ hc q=>by
 have h1:(0:Int)<j:=hc.1
 have h2:j<1073741824:=hc.2
 exact floordiv_int (by omega) (by rw [Int.fdiv_eq_ediv_of_nonneg i (by omega)];exact q) (.inl (PyProof.noPylong_small (by omega)))
theorem x3E:OpR X (binaryOp .Mod) (rI (fun _ j=>0<j) fun i j=>.int (i % j)):=opI fun i j _ _ _ _ _ hc q=>by
 have h1:(0:Int)<j:=hc
 exact mod_int' (by omega) (by rw [Int.fmod_eq_emod_of_nonneg i (by omega)];exact q)
theorem unI {f:Value->Sem Value}{g:Int->Int}
  (rule:∀ (i:Int) (t:Tok) (s:Shared) (Q:Value->Shared->Prop) (E:Value->Shared->Prop),Q (.int (g i) s.toks) { s with toks:=s.toks + 1 }->wpAny (model X.prog X.w) X.A (f (.int i t)) Q E s) :
  UnR X f (rU fun i=>.int (g i)):=by
 intro pins s σ H x v Q I rx h
 obtain ⟨i,rfl,q⟩:=h
 obtain ⟨t,rfl⟩:=rx
 exact rule i t s _ _ ⟨.int (g i),H,I.tok _,⟨_,rfl⟩,q⟩
theorem x3F:UnR X (unaryOp .USub) (rU fun i=>.int (-i)):=unI fun _ _ _ _ _ q=>neg_int q
end
def x7t:V->V->Bool
 | .non,.non=>true | .non,.int _=>true | .int _,.non=>true | .non,.bl _=>true | .bl _,.non=>true | .non,.str _=>true | .str _,.non=>true
 | .int _,.int _=>true | .bl _,.bl _=>true | .str _,.str _=>true | .byt _,.byt _=>true
 | .int _,.str _=>true | .str _,.int _=>true | .bl _,.str _=>true | .str _,.bl _=>true
 | _,_=>false
def rNe:R2:=fun x y H Q=>x7t x y=true/\Q (.bl (!decide (x=y))) H
theorem x1F {i j:Int}:decide (V.int i=V.int j)=(i == j):=by
 rw [Bool.eq_iff_iff]
 simp
theorem x3G {i j:Bool}:decide (V.bl i=V.bl j)=(i == j):=by
 rw [Bool.eq_iff_iff]
 simp
theorem x1G {i j:Str}:decide (V.str i=V.str j)=(i == j):=by
 rw [Bool.eq_iff_iff]
 simp
theorem x1H {i j:Array UInt8}:decide (V.byt i=V.byt j)=(i.toList == j.toList):=by
 rw [Bool.eq_iff_iff]
 cases i
 cases j
 simp
section
variable {X:Cx}{a b c:Expr}{ta tb tc:TE}{pos:Pos}
theorem q2b {pins:List (Addr×Obj)}{σ:St}{H:Hp}{s:Shared}{Q:VK}{k k':Bool} (I:Inv X pins σ H s) (q:Q (.bl k) H) (e:k=k'):EP X pins σ Q (.bool k') s:=by
 subst e
 exact ⟨.bl k,H,I,rfl,q⟩
theorem x5U:OpR X (compareOp .NotEq) rNe:=by
 intro pins s σ H x y v u Q I rx ry h
 obtain ⟨hs,q⟩:=h
 cases x with
 | non =>
  cases rx
  cases y with
  | non=>cases ry;exact PySem.EqNone.ne_none_none (q2b I q (by simp))
  | bl j=>cases ry;exact PySem.EqNone.ne_none_bool (q2b I q (by simp))
  | int j=>obtain ⟨t',rfl⟩:=ry;exact PySem.EqNone.ne_none_int (q2b I q (by simp))
  | str j=>obtain ⟨t',rfl⟩:=ry;exact PySem.EqNone.ne_none_str (q2b I q (by simp))
  | _=>exact absurd (show false=true from hs) Bool.false_ne_true
 | bl i =>
  cases rx
  cases y with
  | non=>cases ry;exact PySem.EqNone.ne_bool_none (q2b I q (by simp))
  | bl j=>cases ry;exact ne_bool (q2b I q (congrArg not x3G))
  | str j=>obtain ⟨t',rfl⟩:=ry;exact PySem.EqMixed.ne_bool_str (q2b I q (by simp))
  | _=>exact absurd (show false=true from hs) Bool.false_ne_true
 | int i =>
  obtain ⟨t,rfl⟩:=rx
  cases y with
  | non=>cases ry;exact PySem.EqNone.ne_int_none (q2b I q (by simp))
  | int j=>obtain ⟨t',rfl⟩:=ry;exact ne_int (q2b I q (congrArg not x1F))
  | str j=>obtain ⟨t',rfl⟩:=ry;exact PySem.EqMixed.ne_int_str (q2b I q (by simp))
  | _=>exact absurd (show false=true from hs) Bool.false_ne_true
 | str i =>
  obtain ⟨t,rfl⟩:=rx
  cases y with
  | non=>cases ry;exact PySem.EqNone.ne_str_none (q2b I q (by simp))
  | bl j=>cases ry;exact PySem.EqMixed.ne_str_bool (q2b I q (by simp))
  | int j=>obtain ⟨t',rfl⟩:=ry;exact PySem.EqMixed.ne_str_int (q2b I q (by simp))
  | str j=>obtain ⟨t',rfl⟩:=ry;exact ne_str (q2b I q (congrArg not x1G))
  | _=>exact absurd (show false=true from hs) Bool.false_ne_true
 | byt i =>
  obtain ⟨t,rfl⟩:=rx
  cases y with
  | byt j=>obtain ⟨t',rfl⟩:=ry;exact PySem.W.ne_bytes (q2b I q (congrArg not x1H))
  | _=>exact absurd (show false=true from hs) Bool.false_ne_true
 | _=>cases y<;>exact absurd (show false=true from hs) Bool.false_ne_true
theorem x5V:OpR X (compareOp .Lt) (rI0 fun i j=>.bl (decide (i<j))):=x5S fun _ _ _ _ _ _ _ q=>lt_int q
theorem x5W:OpR X (compareOp .LtE) (rI0 fun i j=>.bl (decide (i<=j))):=x5S fun _ _ _ _ _ _ _ q=>le_int q
theorem x5X:OpR X (compareOp .Gt) (rI0 fun i j=>.bl (decide (j<i))):=x5S fun _ _ _ _ _ _ _ q=>gt_int q
theorem w78:OpR X (compareOp .Lt) (fun x y H Q=>∃ i j,x=.str i/\y=.str j/\Q (.bl (decide (i.cps.toList<j.cps.toList))) H):=by
 intro pins s σ H x y v u Q I rx ry h
 obtain ⟨i,j,rfl,rfl,q⟩:=h
 obtain ⟨t,rfl⟩:=rx
 obtain ⟨t',rfl⟩:=ry
 exact lt_str (q2b I q rfl)
theorem x3H:OpR X (compareOp .Is) (fun x y H Q=>y=.non/\Q (.bl (decide (x=.non))) H):=by
 intro pins s σ H x y v u Q I rx ry h
 obtain ⟨rfl,q⟩:=h
 cases ry
 refine is_none_gen (q2b I q ?_)
 cases x<;>first
  | (cases rx;rfl)
  | (obtain ⟨t,rfl⟩:=rx;rfl)
theorem x1I:OpR X (compareOp .IsNot) (fun x y H Q=>y=.non/\Q (.bl (!decide (x=.non))) H):=by
 intro pins s σ H x y v u Q I rx ry h
 obtain ⟨rfl,q⟩:=h
 cases ry
 refine isnot_none_gen (q2b I q ?_)
 cases x<;>first
  | (cases rx;rfl)
  | (obtain ⟨t,rfl⟩:=rx;rfl)
theorem w79 (b:Expr) {op:CmpOp} (h:op≠.In:=by decide) (h2:op≠.NotIn:=by decide):behindInMarks op b=false:=by
 have e1:(op == CmpOp.In)=false:=by cases op<;>first | rfl | exact absurd rfl h
 have e2:(op == CmpOp.NotIn)=false:=by cases op<;>first | rfl | exact absurd rfl h2
 cases b<;>simp [behindInMarks,e1,e2]
theorem x1J {op:CmpOp}{r:R2} (ho:OpR X (compareOp op) r) (ha:PE X a ta) (hb:PE X b tb) (hm:behindInMarks op b=false):PE X (.Compare a [op] [b] pos) (tOp r ta tb):=by
 intro pins s σ H Q I h
 exact wpAny_Compare1 (x5Q ha hb I h fun v u s2 x y H2 I2 rx ry q=>ho pins s2 σ H2 x y v u Q I2 rx ry q) hm
def x3I (t:TE):TT:=fun σ H Q=>t σ H fun x H'=>∃ k,x=.bl k/\Q k H'
theorem w7a {op:CmpOp}{r:R2} (ho:OpR X (compareOp op) r) (ha:PE X a ta) (hb:PE X b tb) (hm:behindInMarks op b=false):PT X (.Compare a [op] [b] pos) (x3I (tOp r ta tb)):=by
 intro pins s σ H Q I h
 refine wpAny_isTrue_Compare1 (thn (ha pins s σ H _ I h) fun v s1 ⟨x,H1,I1,r1,q1⟩=>thn (hb pins s1 σ H1 _ I1 q1) fun u s2 ⟨y,H2,I2,r2,q2⟩ =>
  thn (ho pins s2 σ H2 x y v u _ I2 r1 r2 q2) fun c s3 ⟨z,H3,I3,r3,k,e,q3⟩=>?_) hm
 subst e
 cases r3
 exact wpAny_truthy_bool ⟨H3,I3,q3⟩
def w7b (r r':R2) (ta tb tc:TE):TE:=fun σ H Q=>ta σ H fun x H1=>tb σ H1 fun y H2=>r x y H2 fun z H3=>∃ k,z=.bl k /\
 (if k=true then tc σ H3 fun w' H4=>r' y w' H4 Q else Q (.bl false) H3)
theorem w99 {op op':CmpOp}{r r':R2} (ho:OpR X (compareOp op) r) (ho':OpR X (compareOp op') r') (ha:PE X a ta) (hb:PE X b tb) (hc:PE X c tc)
  (hm:lastMarks [op,op'] [b,c]=false:=by with_unfolding_all rfl):PE X (.Compare a [op,op'] [b,c] pos) (w7b r r' ta tb tc):=by
 intro pins s σ H Q I h
 refine Compare_chain (thn (ha pins s σ H _ I h) fun v s1 ⟨x,H1,I1,r1,q1⟩=>chain_link (thn (hb pins s1 σ H1 _ I1 q1) fun u s2 ⟨y,H2,I2,r2,q2⟩ =>
  thn (ho pins s2 σ H2 x y v u _ I2 r1 r2 q2) fun d s3 ⟨z,H3,I3,r3,k,e,q3⟩=>?_)) hm
 subst e
 cases r3
 refine wpAny_truthy_bool ?_
 cases k with
 | false=>exact ite_ff ⟨.bl false,H3,I3,rfl,q3⟩
 | true=>exact ite_tt (chain_last (thn (hc pins s3 σ H3 _ I3 q3) fun w' s4 h_22=>by obtain ⟨z',H4,I4,r4,q4⟩:=h_22;exact ho' pins s4 σ H4 y z' u w' Q I4 r2 r4 q4))
theorem w9a {op op':CmpOp}{r r':R2} (ho:OpR X (compareOp op) r) (ho':OpR X (compareOp op') r') (ha:PE X a ta) (hb:PE X b tb) (hc:PE X c tc)
  (hm:lastMarks [op,op'] [b,c]=false:=by with_unfolding_all rfl):PT X (.Compare a [op,op'] [b,c] pos) (x3I (w7b r r' ta tb tc)):=by
 intro pins s σ H Q I h
 refine isTrue_chain (thn (ha pins s σ H _ I h) fun v s1 ⟨x,H1,I1,r1,q1⟩=>test_link (thn (hb pins s1 σ H1 _ I1 q1) fun u s2 ⟨y,H2,I2,r2,q2⟩ =>
  thn (ho pins s2 σ H2 x y v u _ I2 r1 r2 q2) fun d s3 ⟨z,H3,I3,r3,k,e,q3⟩=>?_)) hm
 subst e
 cases r3
 refine wpAny_truthy_bool ?_
 cases k with
 | false =>
  obtain ⟨k',e',q'⟩:=q3
  cases e'
  exact ite_ff ⟨H3,I3,q'⟩
 | true =>
  refine ite_tt (test_last (thn (hc pins s3 σ H3 _ I3 q3) fun w' s4 ⟨z',H4,I4,r4,q4⟩=>thn (ho' pins s4 σ H4 y z' u w' _ I4 r2 r4 q4) fun d' s5 ⟨z2,H5,I5,r5,k2,e2,q5⟩=>?_))
  subst e2
  cases r5
  exact wpAny_truthy_bool ⟨H5,I5,q5⟩
theorem w1d:(sizeLine:Nat)<2 ^ 63:=by rw [sizeLine_eq];decide
theorem w5J:OpR X (binaryOp .Add) (fun x y H Q=>∃ i j,x=.str i/\y=.str j/\i.length + j.length<=sizeLine/\Q (.str (i++j)) H):=by
 intro pins s σ H x y v u Q I rx ry h
 obtain ⟨i,j,rfl,rfl,hz,q⟩:=h
 obtain ⟨t,rfl⟩:=rx
 obtain ⟨t',rfl⟩:=ry
 exact add_str (fun t' tk=>⟨.str (i++j),H,I.tok _,⟨_,rfl⟩,q⟩) hz
theorem q4N {x:V}{us:List Value} (r:q1x [x] us):∃ u,us=[u]/\q1Q x u:=by
 cases r with
 | cons r1 r2=>cases r2;exact ⟨_,rfl,r1⟩
theorem x1K {x y:V}{us:List Value} (r:q1x [x,y] us):∃ u w',us=[u,w']/\q1Q x u/\q1Q y w':=by
 cases r with
 | cons r1 r2 =>
  cases r2 with
  | cons r3 r4=>cases r4;exact ⟨_,_,rfl,r1,r3⟩
theorem w7c:q3E X (.type "int") (fun xs H Q=>(∃ i,xs=[.int i]/\Q (.int i) H)\/∃ k,xs=[.bl k]/\Q (.int (if k then 1 else 0)) H):=by
 intro pins s σ H xs us Q I r h
 rcases h with ⟨i,rfl,q⟩ | ⟨k,rfl,q⟩
 ·obtain ⟨u,rfl,t,rfl⟩:=q4N r
  exact call_int_int ⟨.int i,H,I,⟨_,rfl⟩,q⟩
 ·obtain ⟨u,rfl,r1⟩:=q4N r
  cases r1
  exact call_int_bool ⟨.int (if k then 1 else 0),H,I.tok _,⟨_,rfl⟩,q⟩
end
end L2
namespace L2
open PySem PySem.Spec PyProof.Rows
structure x5Y (h:Heap) (x dx C:Addr) (mA:Str->Option Value):Prop where
 obj:h.get? x=some (PySem.W.instObj C dx)
 ns:h.Ns1 dx mA
 ne:dx≠x
theorem w7d {h:Heap}{dx:Addr}{mA:Str->Option Value} (n:h.Ns1 dx mA):∃ od,h.get? dx=some od/\∀ name,PySem.W.lookIn name od=some (mA name):=by
 obtain ⟨o,es,ep,ho,hd,hk,_,hm⟩:=n
 refine ⟨o,ho,fun name=>?_⟩
 have e:=hm name
 unfold nsFind findBy at e
 rw [<- Array.find?_toList] at e
 unfold PySem.W.lookIn
 rw [hd]
 dsimp only
 split
 ·rename_i y q
  rw [q] at e
  exact congrArg some e
 ·rename_i q
  rw [q] at e
  have a:es.toList.any (·.refKey)=false:=by
   rw [List.any_eq_false]
   intro y hy
   obtain ⟨z,t,hkey⟩:=hk y (Array.mem_toList_iff.mp hy)
   simp [DictEntry.refKey,hkey]
  have a':¬ es.toList.any (·.refKey)=true:=by rw [a];exact Bool.false_ne_true
  rw [if_neg a']
  exact congrArg some e
theorem x5Y.look {h:Heap}{x dx C:Addr}{mA:Str->Option Value} (I:x5Y h x dx C mA):∃ od,PySem.W.InstAt h x (PySem.W.instObj C dx) C (some od)/\∀ name,PySem.W.lookIn name od=some (mA name) :=
 let ⟨od,ho,hl⟩:=w7d I.ns
 ⟨od,⟨I.obj,rfl,rfl,ho⟩,hl⟩
section
variable {prog:Program}{w:World}{A:Around}{E:Value->Shared->Prop}{s:Shared}{K:PySem.W.Frag}{x dx C f:Addr}{mA:Str->Option Value}{name:Str}{v:Value}
end
theorem w70.some_of {v:V}{o:Option Value} (r:w70 (some v) o):∃ u,o=some u/\q1Q v u:=by
 cases o with
 | none=>exact (show False from r).elim
 | some u=>exact ⟨u,rfl,r⟩
section
variable {P:Program}{w:World}{H H':Hp}{h h':Heap}{a C dx:Addr}{fs fs':List (Str×V)}
theorem x1L (hok:HOk P w H h) (e:H a=some (.ins C dx fs)):∃ mA,x5Y h a dx C mA/\(∀ f,w70 (fs.lookup f) (mA f))/\PySem.Within mA (fs.map (·.1))/\fs.length<=1000/\H dx=some (.own a):=by
 obtain ⟨d,z,ne,ob,mA,n,r,q⟩:=(show q1g P w H h a (.ins C dx fs) from hok a _ e)
 exact ⟨mA,⟨ob,n,ne⟩,r,q,z,d⟩
end
structure Cls (K:PySem.W.Frag) (C:Addr):Prop where
 pg:PySem.W.plainGet K C Str.empty=true
 hd:PySem.W.hasDictIn K C=true
 po:PySem.W.plainOver K C=true
 sa:PySem.W.findIn K (.ref C) "__setattr__"=some (some (.builtin "object.__setattr__"))
theorem Cls.get {K:PySem.W.Frag}{C:Addr} (c:Cls K C) (f:Str):PySem.W.plainGet K C f=true:=c.pg
section
variable {X:Cx}{pins:List (Addr×Obj)}{σ:St}{H:Hp}{s:Shared}{a C dx:Addr}{fs:List (Str×V)}{f:Str}{v:V}{A:Around}{E:Value->Shared->Prop}
end
section
variable {X:Cx}{o e value:Expr}{f:Str}{pos pos' tpos:Pos}{ta tv:TE}
end
section
variable {X:Cx}{pins:List (Addr×Obj)}{σ:St}{H:Hp}{s:Shared}{A:Around}{E:Value->Shared->Prop}{Q:Value->Shared->Prop}{c:Value}{b:Bool}
inductive w5K (K:PySem.W.Frag) (H:Hp):V->Value->Prop where
 | non:w5K K H .non (.type "NoneType")
 | bl (x:Bool):w5K K H (.bl x) (.type "bool")
 | int (i:Int):w5K K H (.int i) (.type "int")
 | str (x:Str):w5K K H (.str x) (.type "str")
 | flt (x:UInt64):w5K K H (.flt x) (.type "float")
 | lst {a:Addr}{xs:List V} (e:H a=some (.lst xs)):w5K K H (.ref a) (.type "list")
 | frz {a:Addr}{o:Obj}{xs:List V} (e:H a=some (.frz o (.lst xs))):w5K K H (.ref a) (.type "list")
 | tup {a:Addr}{xs:List V} (e:H a=some (.tup xs)):w5K K H (.ref a) (.type "tuple")
 | dK {a:Addr}{kvs:List (Key×V)} (e:H a=some (.dK kvs)):w5K K H (.ref a) (.type "dict")
 | dT {a:Addr}{kvs:List (List Key×V)} (e:H a=some (.dT kvs)):w5K K H (.ref a) (.type "dict")
 | ins {a C dx:Addr}{fs:List (Str×V)} (e:H a=some (.ins C dx fs)) (cl:Cls K C) (ha:PySem.W.findIn K (.ref C) "__class__"=some (some (.builtin "object.__class__")))
   (hn:PySem.W.specialIn K (.builtin "object.__class__") "__get__"=some (some (.builtin "getset_descriptor.__get__"))) (htk:PySem.W.takesIn K (.builtin "object.__class__")=some true)
   (hm:PySem.W.mroIn K C (.type "object")=some true):w5K K H (.ref a) (.ref C)
theorem q43 {x:V}{u t:Value} (I:Inv X pins σ H s) (rx:q1Q x u) (ty:w5K X.K H x t) (e:PySem.W.kitOne X.K t c=some b) (h:∀ tk,Q (.bool b) { s with toks:=tk }) :
  wpAny (model X.prog X.w) A (call (.builtin "isinstance") [u,c]) Q E s:=by
 cases ty with
 | non=>cases (show u=Value.none from rx);exact PySem.W.kia_one PySem.W.kitx_none I.kIn True.intro e (fun z=>nomatch z) h
 | bl y=>cases (show u=Value.bool y from rx);exact PySem.W.kia_one PySem.W.kitx_bool I.kIn True.intro e (fun z=>nomatch z) h
 | int i=>obtain ⟨t,q⟩:=(show ∃ t,u=Value.int i t from rx);cases q;exact PySem.W.kia_one PySem.W.kitx_int I.kIn True.intro e (fun z=>nomatch z) h
 | str y=>obtain ⟨t,q⟩:=(show ∃ t,u=Value.str y t from rx);cases q;exact PySem.W.kia_one PySem.W.kitx_str I.kIn True.intro e (fun z=>nomatch z) h
 | flt y=>obtain ⟨t,q⟩:=(show ∃ t,u=Value.float y t from rx);cases q;exact PySem.W.kia_one PySem.W.kitx_float I.kIn True.intro e (fun z=>nomatch z) h
 | @lst a xs ea =>
  cases (show u=Value.ref a from rx)
  obtain ⟨_,_,n,_,h1⟩:=(show q1g X.prog X.w H s.heap a (.lst xs) from I.hok a _ ea)
  exact PySem.W.kia_one PySem.W.kitx_list I.kIn ⟨_,h1,rfl⟩ e (fun z=>nomatch z) h
 | @frz a ob xs ea =>
  cases (show u=Value.ref a from rx)
  obtain ⟨_,_,_,n,_,h1⟩:=(show q1g X.prog X.w H s.heap a (.frz ob (.lst xs)) from I.hok a _ ea)
  exact PySem.W.kia_one PySem.W.kitx_list I.kIn ⟨_,h1,rfl⟩ e (fun z=>nomatch z) h
 | @tup a xs ea =>
  cases (show u=Value.ref a from rx)
  obtain ⟨_,_,_,p⟩:=(show q1g X.prog X.w H s.heap a (.tup xs) from I.hok a _ ea)
  obtain ⟨o,h1,h2,_⟩:=p
  exact PySem.W.kia_one PySem.W.kitx_tuple I.kIn ⟨o,h1,h2⟩ e (fun z=>nomatch z) h
 | @dK a kvs ea =>
  cases (show u=Value.ref a from rx)
  obtain ⟨_,_,vs,_,p⟩:=(show q1g X.prog X.w H s.heap a (.dK kvs) from I.hok a _ ea)
  obtain ⟨o,es,ep,h1,h2,_⟩:=p
  exact PySem.W.kia_one PySem.W.kitx_dict I.kIn ⟨o,h1,h2.1⟩ e (fun z=>nomatch z) h
 | @dT a kvs ea =>
  cases (show u=Value.ref a from rx)
  obtain ⟨_,_,xs,_,o,es,ep,h1,h2,_⟩:=(show q1g X.prog X.w H s.heap a (.dT kvs) from I.hok a _ ea)
  exact PySem.W.kia_one PySem.W.kitx_dict I.kIn ⟨o,h1,h2.1⟩ e (fun z=>nomatch z) h
 | @ins a C dx fs ea cl ha hn htk hm =>
  cases (show u=Value.ref a from rx)
  obtain ⟨mA,O,_⟩:=x1L I.hok ea
  obtain ⟨od,J,_⟩:=O.look
  exact PySem.W.kia_one (PySem.W.kitx_own (cl.get _) cl.hd ha hn htk hm) I.kIn J e (fun z=>nomatch z) h
end
end L2
namespace L2
open PySem PySem.Spec PyProof.Rows
structure q6d (k:Nat) (A:Around):Prop where
 hd:A.handled=none
 dp:A.depth + 3 * k + 5<recursionLimit
 un:A.units + 16 * k + 200<cLine
theorem q6d.mono {j k:Nat}{A:Around} (r:q6d k A) (h:j<=k):q6d j A:=⟨r.hd,by have:=r.dp;omega,by have:=r.un;omega⟩
theorem q6d.deeper {k:Nat}{A:Around} (r:q6d (k + 1) A) (env:Env):q6d k (A.deeper env) :=
 ⟨r.hd,by have:=r.dp;show A.depth + 1 + 3 * k + 5<_;omega,by have:=r.un;show A.units + 3 + 16 * k + 200<_;omega⟩
theorem q6d.depth {k:Nat}{A:Around} (r:q6d k A):A.depth<recursionLimit:=by have:=r.dp;omega
theorem q6d.units {k:Nat}{A:Around} (r:q6d k A):A.units + 64<cLine:=by have:=r.un;omega
def x5y:TA:=fun _ H Q=>Q [] H
def w9b (ta:TE) (tr:TA):TA:=fun σ H Q=>ta σ H fun x H1=>tr σ H1 fun xs H2=>Q (x::xs) H2
section
variable {X:Cx}{e:Expr}{es:List Expr}{te:TE}{t:TA}{pos:Pos}
theorem q1o:PA X [] x5y:=fun _ _ _ _ H Q I h=>Calls.spliced_nil ⟨[],H,I,.nil,h⟩
theorem q0t (ha:PE X e te) (hr:PA X es t) (hs:starEach (e::es) X.env=(false,eval e X.env)::starEach es X.env:=by rfl):PA X (e::es) (w9b te t):=by
 intro pos pins s σ H Q I h
 rw [hs]
 show wpAny _ _ (spliced ((false,eval e X.env)::backTo pos (starEach es X.env))) _ _ s
 refine Calls.spliced_cons (thn (ha pins s σ H _ I h) fun u s1 ⟨x,H1,I1,r1,q1⟩=>?_)
 exact thn (hr pos pins s1 σ H1 _ I1 q1) fun us s2 h_25=>by obtain ⟨xs,H2,I2,r2,q2⟩:=h_25;exact ⟨x::xs,H2,I2,.cons r1 r2,q2⟩
def x7u (t:TA):TE:=fun σ H Q=>t σ H fun xs H1=>xs.length<=sizeLine/\∀ p,H1 p=none->Q (.ref p) (upd H1 p (.tup xs))
def x7v (t:TA):TE:=fun σ H Q=>t σ H fun xs H1=>xs.length<=sizeLine/\∀ p,H1 p=none->Q (.ref p) (upd H1 p (.lst xs))
theorem x0o {x1} (h:PA X es t):PE X (.Tuple es x1 pos) (x7u t):=by
 intro pins s σ H Q I hq
 refine wpAny_Tuple_spliced (thn (h pos pins s σ H _ I hq) fun us s1 ⟨xs,H1,I1,r,z,q⟩=>⟨by rw [<- r.length];exact z,?_⟩)
 have hf:H1 s1.heap.objs.size=none:=I1.hok.fresh (Nat.le_refl _)
 refine ⟨.ref s1.heap.objs.size,upd H1 s1.heap.objs.size (.tup xs),I1.laid (t':=s1.toks) (fun b u e=>Heap.get?_push_of_some _ e) (Nat.le_refl _) ?_,rfl,q _ hf⟩
 exact ⟨z,us,r,⟨_,Heap.get?_push_size _ rfl,rfl,_,rfl⟩⟩
theorem q44 (h:PA X es t):PE X (.List es pos) (x7v t):=by
 intro pins s σ H Q I hq
 refine wpAny_List_spliced (thn (h pos pins s σ H _ I hq) fun us s1 ⟨xs,H1,I1,r,z,q⟩=>⟨by rw [<- r.length];exact z,?_⟩)
 have hf:H1 s1.heap.objs.size=none:=I1.hok.fresh (Nat.le_refl _)
 refine ⟨.ref s1.heap.objs.size,upd H1 s1.heap.objs.size (.lst xs),I1.laid (t':=s1.toks) (fun b u e=>Heap.get?_push_of_some _ e) (Nat.le_refl _) ?_,rfl,q _ hf⟩
 exact ⟨z,us,0,r,Heap.get?_push_size _ rfl⟩
end
abbrev Sp:=List V->Hp->VK->XK->Prop
abbrev CXT:=List Env->Hp->Shared->XK->Value->Shared->Prop
structure x1M (P:Program) (w:World) (K:PySem.W.Frag) (mg:Str->Option Value) (base:Heap) (A:Around) (outer:List Env) (s:Shared) (H:Hp):Prop where
 frames:A.frames=some outer
 mod:Mod K mg base
 bs:∀ b o,base.get? b=some o->s.heap.get? b=some o/\H b=none
 bsz:base.objs.size<=s.heap.objs.size
 funs:s.heap.FunFrames base outer
 frf:∀ b∈frs outer,H b=none
 hok:HOk P w H s.heap
 bare:AllBare s.gens
inductive CE (outer:List Env) (P:Program) (w:World) (H:Hp) (s:Shared) (Q:VK) (u:Value) (s':Shared):Prop
 | mk (v H':_) (h0:s'.os=s.os) (h1:AllBare s'.gens) (h2:Un (frs outer) [] H H' s.heap s'.heap) (h3:HOk P w H' s'.heap) (h4:q1Q v u) (h5:Q v H'):CE outer P w H s Q u s'
def CR (CX:CXT) (outer:List Env) (P:Program) (w:World) (H:Hp) (s:Shared) (Q:VK) (E:XK) (r:Result) (s':Shared):Prop :=
 match r with
 | .ok (.ret u)=>CE outer P w H s Q u s'
 | .ok _=>False
 | .error e=>CX outer H s E e s'
structure w2R (P:Program) (w:World) (K:PySem.W.Frag) (mg:Str->Option Value) (base:Heap) (CX:CXT) (k:Nat) (f:Addr) (fd:FuncData) (ps:List Str) (sp:Sp):Prop where
 len:∀ vs H Q E,sp vs H Q E->vs.length=ps.length
 run:∀ (A:Around) (outer:List Env) (s:Shared) (H:Hp) (args:Args) (us:List Value) (vs:List V) (Q:VK) (E:XK),q6d k A->x1M P w K mg base A outer s H->BindsTo s fd args (ps.zip us)->q1x vs us->sp vs H Q E ->
  codeAny (model P w) A (.call (.ref f) args) (CR CX outer P w H s Q E) s
theorem w2R.imp {P:Program}{w:World}{K:PySem.W.Frag}{mg:Str->Option Value}{base:Heap}{CX:CXT}{k:Nat}{f:Addr}{fd:FuncData}{ps:List Str}{sp sp':Sp} (F:w2R P w K mg base CX k f fd ps sp)
  (h:∀ vs H Q E,sp' vs H Q E->sp vs H Q E):w2R P w K mg base CX k f fd ps sp' :=
 ⟨fun vs H Q E q=>F.len vs H Q E (h _ _ _ _ q),fun A outer s H args us vs Q E hr he hb hv hs=>F.run A outer s H args us vs Q E hr he hb hv (h _ _ _ _ hs)⟩
section
variable {X:Cx}{pins:List (Addr×Obj)}{σ:St}{H:Hp}{s s':Shared}
theorem Inv.env0 (I:Inv X pins σ H s):x1M X.prog X.w X.K X.mg X.base X.A X.stack s H :=
 ⟨I.ok.frames,I.ok.mod,I.bs,Nat.le_trans I.ok.bsz I.sz,I.stack,I.stkFree,I.hok,I.bare⟩
theorem Inv.after {Q:VK}{u:Value} (I:Inv X pins σ H s) (h:CE X.stack X.prog X.w H s Q u s'):EP X pins σ Q u s':=by
 obtain ⟨v,H',os,bare,un,hok,r,q⟩:=h
 obtain ⟨hh,g,d,t,os'⟩:=s'
 obtain rfl:os'=s.os:=os
 exact ⟨v,H',I.call (h':=hh) (g':=g) (d':=d) (t':=t) (ch:=[]) un hok bare (fun b z=>absurd z (by simp)),r,q⟩
end
def w9c (sp:Sp) (dvs:List V) (E:XK) (t:TA):TE:=fun σ H Q=>t σ H fun vs H1=>sp (vs++dvs) H1 Q E
def q1p (K:PySem.W.Frag) (fd:FuncData) (ps:List Str) (ds:List Value):Prop :=
 ∀ (s:Shared) (us:List Value),K.In s.heap->(us++ds).length=ps.length->BindsTo s fd ⟨us,[]⟩ (ps.zip (us++ds))
theorem q1p.all {K:PySem.W.Frag}{fd:FuncData}{ps:List Str} (h:∀ us:List Value,us.length=ps.length->bindArgs fd ⟨us,[]⟩=pure (ps.zip us)):q1p K fd ps []:=fun s us _ hl=>by
 rw [List.append_nil] at hl ⊢
 exact .of_eq (h us hl)
def q0R (CX:CXT) (X:Cx) (E:XK):Prop:=∀ (pins:List (Addr×Obj)) (σ:St) (H:Hp) (s:Shared) (e:Value) (s':Shared),Inv X pins σ H s->CX X.stack H s E e s'->X.xe e s'
section
variable {X:Cx}{CX:CXT}{k:Nat}{f C:Addr}{fd:FuncData}{ps:List Str}{sp:Sp}{dvs:List V}{ds:List Value}{E:XK}{x m:Str}{p pos apos:Pos}{e o:Expr}{es:List Expr}{ta:TE}{t:TA}
theorem x0p {pins:List (Addr×Obj)}{σ:St}{H:Hp}{s:Shared}{Q:VK}{us:List Value}{vs:List V} (F:w2R X.prog X.w X.K X.mg X.base CX k f fd ps sp) (hr:q6d k X.A) (hb:q1p X.K fd ps ds) (hd:q1x dvs ds) (hx:q0R CX X E)
  (I:Inv X pins σ H s) (r:q1x vs us) (h:sp (vs++dvs) H Q E):wpAny (model X.prog X.w) X.A (call (.ref f) us) (EP X pins σ Q) X.xe s:=by
 have r2:q1x (vs++dvs) (us++ds):=r.append hd
 have hl:(us++ds).length=ps.length:=by rw [<- r2.length];exact F.len _ _ _ _ h
 refine wpAny_call (codeAny_mono (F.run X.A X.stack s H ⟨us,[]⟩ (us++ds) (vs++dvs) Q E hr I.env0 (hb s us I.kIn hl) r2 h) fun r s' hq=>?_)
 cases r with
 | error e=>exact hx pins σ H s e s' I hq
 | ok fl =>
  cases fl with
  | ret u=>exact I.after hq
  | next=>exact False.elim hq
  | brk=>exact False.elim hq
  | cont=>exact False.elim hq
theorem w7e (F:w2R X.prog X.w X.K X.mg X.base CX k f fd ps sp) (hr:q6d k X.A) (hg:Gl X x) (hm:X.mg x=some (.ref f)) (hk:PySem.W.keepIn X.K (.ref f)=true) (hb:q1p X.K fd ps ds) (hd:q1x dvs ds) (hx:q0R CX X E)
  (ha:PA X (e::es) t) (hdb:(x == ("__debug__" : Str))=false:=by decide) (he:starEach (e::es) X.env=(false,eval e X.env)::starEach es X.env:=by rfl) (hpl:(backTo pos (starEach es X.env)).any (·.1)=false:=by rfl) :
  PE X (.Call (.Name x p) (e::es) [] pos) (w9c sp dvs E t):=by
 intro pins s σ H Q I h
 refine wpAny_Call_Name_kw (w0a I hg hm ?_ hdb)
 refine PySem.W.callWith_K (h₀:=X.base) I.ok.mod.kin hk (thn (ha pos pins s σ H _ I h) fun us s1 ⟨vs,H1,I1,r,q⟩=>⟨I1.kIn,?_⟩) he hpl
 exact x0p F hr hb hd hx I1 r q
end
section
variable {X:Cx}{CX:CXT}{k:Nat}{f C:Addr}{fd:FuncData}{ps ks:List Str}{sp:Sp}{E:XK}{x m:Str}{p pos apos kpos:Pos}{e o:Expr}{es:List Expr}{kws:List Keyword}{te ta:TE}{t tk:TA}{nm:Option Str}
variable {g:List Value->List Value->List Value}{gV:List V->List V->List V}
end
structure q0y (N P:List Str) (sc:Scope):Prop where
 kind:sc.kind=.function
 co:sc.isCoroutine=false
 gen:sc.isGenerator=false
 nd:N.Nodup
 pre:N.take P.length=P
 par:∀ x∈P,sc.names.lookup x=some .local\/sc.names.lookup x=some .cell
 nofree:∀ y∈sc.names,y.2≠.free
theorem w1e {kindOf:Str->Option NameKind}{x:Str}:∀ {binds:List (Str×Value)}{m:Str->Option Value},(∀ v,(x,v)∉binds)->bindL kindOf binds m x=m x
 | [],_,_=>rfl
 | (n,v)::r,m,h=>by
  unfold bindL
  rw [w1e fun w hw=>h w (List.mem_cons_of_mem _ hw)]
  split
  ·have:x≠n:=by rintro rfl;exact h v List.mem_cons_self
   simp [this]
  ·rfl
theorem w1f {kindOf:Str->Option NameKind}{x:Str}:∀ {binds:List (Str×Value)}{m:Str->Option Value},(∀ v,(x,v)∉binds)->bindC kindOf binds m x=m x
 | [],_,_=>rfl
 | (n,v)::r,m,h=>by
  unfold bindC
  rw [w1f fun w hw=>h w (List.mem_cons_of_mem _ hw)]
  split
  ·rfl
  ·have:x≠n:=by rintro rfl;exact h v List.mem_cons_self
   simp [this]
theorem w1g {kindOf:Str->Option NameKind}{x:Str}{v:Value}:∀ {P:List Str}{vs:List Value}{i:Nat}{m:Str->Option Value},P.Nodup->P[i]?=some x->vs[i]?=some v->kindOf x=some .local ->
  bindL kindOf (P.zip vs) m x=some v
 | [],_,_,_,_,h,_,_=>by simp at h
 | _::_,[],_,_,_,_,h,_=>by simp at h
 | p::P,w::vs,0,m,nd,h1,h2,hk=>by
  simp at h1 h2;subst h1;subst h2
  show bindL kindOf ((p,w)::P.zip vs) m p=_
  unfold bindL
  rw [w1e fun v hv=>(List.nodup_cons.mp nd).1 (List.of_mem_zip hv).1,if_pos hk]
  simp
 | p::P,w::vs,i + 1,m,nd,h1,h2,hk=>by
  show bindL kindOf ((p,w)::P.zip vs) m x=_
  unfold bindL
  exact w1g (i:=i) (List.nodup_cons.mp nd).2 (by simpa using h1) (by simpa using h2) hk
theorem w1h {kindOf:Str->Option NameKind}{x:Str}{v:Value}:∀ {P:List Str}{vs:List Value}{i:Nat}{m:Str->Option Value},P.Nodup->P[i]?=some x->vs[i]?=some v->kindOf x≠some .local ->
  bindC kindOf (P.zip vs) m x=some v
 | [],_,_,_,_,h,_,_=>by simp at h
 | _::_,[],_,_,_,_,h,_=>by simp at h
 | p::P,w::vs,0,m,nd,h1,h2,hk=>by
  simp at h1 h2;subst h1;subst h2
  show bindC kindOf ((p,w)::P.zip vs) m p=_
  unfold bindC
  rw [w1f fun v hv=>(List.nodup_cons.mp nd).1 (List.of_mem_zip hv).1,if_neg hk]
  simp
 | p::P,w::vs,i + 1,m,nd,h1,h2,hk=>by
  show bindC kindOf ((p,w)::P.zip vs) m x=_
  unfold bindC
  exact w1h (i:=i) (List.nodup_cons.mp nd).2 (by simpa using h1) (by simpa using h2) hk
def start (N:List Str) (vs:List V):St:=vs.map some++List.replicate (N.length - vs.length) none
def q2B (CX:CXT) (P:Program) (w:World) (K:PySem.W.Frag) (mg:Str->Option Value) (base:Heap) (N:List Str) (qual:Str) (scope:Scope) (f:Addr) (cd:Value) (A:Around) (outer:List Env) (s:Shared) (H:Hp) (E:XK):Cx where
 prog:=P
 w:=w
 K:=K
 mg:=mg
 base:=base
 A:=A.deeper (envOfC qual scope s.heap.objs.size f cd)
 N:=N
 s₀:=s
 H₀:=H
 env:=envOfC qual scope s.heap.objs.size f cd
 outer:=outer
 stack:=envOfC qual scope s.heap.objs.size f cd::outer
 ex:=[]
 calm:=true
 fn:=fun _=>true
 pn:=[]
 xe:=fun e s'=>wpAny (model P w) (A.deeper (envOfC qual scope s.heap.objs.size f cd)) (leaving (envOfC qual scope s.heap.objs.size f cd) e) (fun _ s''=>CX outer H s E e s'') (fun e' s''=>CX outer H s E e' s'') s'
theorem w4T {sc:Scope}{n:Nat}{x:Str} (h:sc.names.lookup x=some .cell):∃ c,(cellsFrom n sc.names []).lookup x=some c:=by
 have q:=PySem.W.cellsFrom_some sc.names n [] (.inl h)
 exact Option.isSome_iff_exists.mp q
theorem w1i {CX:CXT}{P:Program}{w:World}{K:PySem.W.Frag}{mg:Str->Option Value}{base:Heap}{N ps:List Str}{qual:Str}{scope:Scope}{f:Addr}{cd:Value}{A:Around}{outer:List Env}{s s1:Shared}{H:Hp}{E:XK}{us:List Value}{vs:List V}
  (S:q0y N ps scope) (hd:A.handled=none) (e0:x1M P w K mg base A outer s H) (hl:vs.length=ps.length) (r:q1x vs us)
  (x:InCallC s s.heap.objs.size (bindL (envOfC qual scope s.heap.objs.size f cd).kindOf (ps.zip us) fun _=>none) (cellsFrom (s.heap.objs.size + 1) scope.names []) (bindC (envOfC qual scope s.heap.objs.size f cd).kindOf (ps.zip us) fun _=>none) s1) :
  Inv (q2B CX P w K mg base N qual scope f cd A outer s H E) [] (start N vs) H s1:=by
 have hpl:ps.length<=N.length:=by have:=congrArg List.length S.pre;rw [List.length_take] at this;omega
 obtain ⟨h1,tk,rfl,hk⟩:=x.done
 have noA:∀ b:Addr,b∉(q2B CX P w K mg base N qual scope f cd A outer s H E).ex:=fun b z=>absurd (show b∈([] : List Addr) from z) (by simp)
 refine ⟨⟨e0.mod,S.kind,rfl,rfl,Nat.le_refl _,fun y z c h1 h2=>?_,fun y hy=>?_,fun y c _ h=>?_,fun _=>hd,Around.frames_deeper e0.frames,.inr ⟨rfl,rfl⟩,fun b z=>absurd z (noA b),e0.bs,e0.bsz,fun b _ _=>noA b,fun b z=>absurd z (noA b),e0.funs,e0.frf⟩,
  rfl,e0.bare,Un.kept hk,⟨_,x.toInCall.ns,fun i y v h1 h2 h3=>?_⟩,fun y c h=>⟨_,x.cell y c h⟩,e0.hok.fresh (Nat.le_refl _),fun y c h=>?_,fun p hp=>absurd (show p∈([] : List (Addr×Obj)) from hp) (by simp),e0.hok.kept hk,?_⟩
 ·exact name_of_addr x.apart (PySem.mem_of_lookup h1) (PySem.mem_of_lookup h2)
 ·have hy:scope.names.lookup y=some .cell\/scope.names.lookup y=some .free:=hy
  rcases hy with hy | hy
  ·exact w4T hy
  ·exact absurd rfl (S.nofree _ (PySem.mem_of_lookup hy))
 ·exact Nat.le_of_lt (x.above y c (PySem.mem_of_lookup h))
 ·have hi:i<vs.length:=by
   unfold start at h2
   by_cases hi:i<vs.length
   ·exact hi
   ·rw [List.getElem?_append_right (by simpa using hi)] at h2
    rw [List.getElem?_replicate] at h2
    split at h2<;>cases h2
  have ha:vs[i]?=some v:=by
   unfold start at h2
   rw [List.getElem?_append_left (by simpa using hi),List.getElem?_map] at h2
   cases e:vs[i]? with
   | none=>rw [e] at h2;cases h2
   | some a=>rw [e] at h2;cases h2;rfl
  obtain ⟨u,hu,rv⟩:=r.get ha
  have hp:ps[i]?=some y:=by
   rw [<- S.pre,List.getElem?_take_of_lt (by omega)];exact h1
  have ndP:ps.Nodup:=by rw [<- S.pre];exact S.nd.sublist (List.take_sublist _ _)
  refine ⟨u,rv,?_⟩
  rcases S.par y (List.mem_of_getElem? hp) with k | k
  ·exact .inl ⟨k,w1g ndP hp hu k⟩
  ·obtain ⟨c,e⟩:=w4T (n:=s.heap.objs.size + 1) k
   refine .inr ⟨.inl k,c,e,?_⟩
   have q:=x.cell y c e
   rw [w1h ndP hp hu (by show scope.names.lookup y≠_;rw [k];decide)] at q
   exact q
 ·exact e0.hok.fresh (Nat.le_of_lt (x.above y c (PySem.mem_of_lookup h)))
 ·unfold start
  show _=N.length
  rw [List.length_append,List.length_map,List.length_replicate]
  omega
theorem x3J {CX:CXT}{P:Program}{w:World}{K:PySem.W.Frag}{mg:Str->Option Value}{base:Heap}{k:Nat}{f:Addr}{name qual:Str}{params:Arguments}{body:List Stmt}{scope:Scope}{dV kV doc pm cdv ct oc:Value}{an od:Option Addr}
  {osl:Array (Option Value)}{N ps:List Str}{sp:Sp} (lk:K.lookup f=some ⟨oc,od,.func (PySem.W.fnOf name qual params body scope dV kV doc pm an cdv ct),osl⟩) (hcd:PySem.W.codeIn K cdv qual=true) (S:q0y N ps scope)
  (len:∀ vs H Q E,sp vs H Q E->vs.length=ps.length)
  (hbody:∀ (A:Around) (outer:List Env) (s:Shared) (H:Hp) (vs:List V) (Q:VK) (E:XK),q6d k (A.deeper (envOfC qual scope s.heap.objs.size f cdv))->sp vs H Q E ->
   ∃ t,PSs (q2B CX P w K mg base N qual scope f cdv A outer s H E) body t/\t { nx:=fun _ H'=>Q .non H',rt:=Q } (start N vs) H) :
  w2R P w K mg base CX (k + 1) f (PySem.W.fnOf name qual params body scope dV kV doc pm an cdv ct) ps sp:=by
 refine ⟨len,fun A outer s H args us vs Q E hr e0 hb r hsp=>?_⟩
 have hl:=len _ _ _ _ hsp
 have KX:K.In s.heap:=e0.mod.kin.keeps fun b o e=>(e0.bs b o e).1
 have lim:s.heap.NoLimit:=e0.mod.nolimit.keeps fun b o e=>(e0.bs b o e).1
 have hkind:∀ y∈ps.zip us,scope.names.lookup y.1=some .local\/(scope.names.lookup y.1=some .cell/\((cellsFrom (s.heap.objs.size + 1) scope.names []).lookup y.1).isSome=true):=fun ⟨n,v⟩ hy=>by
  rcases S.par n (List.of_mem_zip hy).1 with q | q
  ·exact .inl q
  ·exact .inr ⟨q,PySem.W.cellsFrom_some _ _ _ (.inl q)⟩
 refine codeAny_call_function hr.depth (KX _ _ lk) rfl S.co S.gen rfl (PySem.W.codeRec_of KX hcd) (hb _ _ _ _ ?_)
 refine wpAny_newFunctionEnv_cells S.kind hkind fun env he s1 x=>?_
 subst he
 refine ⟨lim.keeps x.toInCall.keep,codeAny_func ?_⟩
 obtain ⟨t,ht,hq⟩:=hbody A outer s H vs Q E (hr.deeper _) hsp
 have I:Inv (q2B CX P w K mg base N qual scope f cdv A outer s H E) [] (start N vs) H s1:=w1i S hr.hd e0 hl r x
 refine wpAny_mono (ht [] s1 (start N vs) H _ I hq) (fun fl s' hs=>?_) fun e s' hs=>hs
 have fin:∀ {σ':St}{H':Hp}{v:V}{u:Value},Inv (q2B CX P w K mg base N qual scope f cdv A outer s H E) [] σ' H' s'->q1Q v u->Q v H'->CE outer P w H s Q u s' :=
  fun {σ' H' v u} J rv q=>⟨v,H',J.os,J.bare,J.base,J.hok,rv,q⟩
 cases fl with
 | ret u =>
  obtain ⟨v,σ',H',J,rv,q⟩:=hs
  exact fin J rv q
 | next =>
  obtain ⟨σ',H',J,q⟩:=hs
  exact fin (v:=V.non) (u:=Value.none) J rfl q
 | brk =>
  obtain ⟨_,_,_,q⟩:=hs
  exact False.elim q
 | cont =>
  obtain ⟨_,_,_,q⟩:=hs
  exact False.elim q
end L2
namespace L2
open PySem PySem.Spec PyProof.Rows
section
variable {X:Cx}{x:Str}{p pos:Pos}{e:Expr}{es:List Expr}{t:TA}{id T:String}{r:List V->Hp->VK->Prop}
def tCB (r:List V->Hp->VK->Prop) (t:TA):TE:=fun σ H Q=>t σ H fun vs H1=>r vs H1 Q
theorem q4B (hc:q3E X (.builtin id) r) (hg:Gl X x) (hm:X.mg x=none) (hv:bootBuiltins x=some (.builtin id)) (ha:PA X (e::es) t) (hn:x≠"__name__":=by decide) (hdb:(x == ("__debug__" : Str))=false:=by decide)
  (he:starEach (e::es) X.env=(false,eval e X.env)::starEach es X.env:=by rfl) (hpl:(backTo pos (starEach es X.env)).any (·.1)=false:=by rfl):PE X (.Call (.Name x p) (e::es) [] pos) (tCB r t):=by
 intro pins s σ H Q I h
 refine wpAny_Call_Name_kw (q9E I hg hm hv ?_ hn hdb)
 exact PyProof.Rows.callWith_builtin1 (thn (ha pos pins s σ H _ I h) fun us s1 h_27=>by obtain ⟨vs,H1,I1,r1,q1⟩:=h_27;exact hc pins s1 σ H1 vs us Q I1 r1 q1) he hpl
theorem w1j (hc:q3E X (.type T) r) (hg:Gl X x) (hm:X.mg x=none) (hv:bootBuiltins x=some (.type T)) (ha:PA X (e::es) t) (hn:x≠"__name__":=by decide) (hdb:(x == ("__debug__" : Str))=false:=by decide)
  (he:starEach (e::es) X.env=(false,eval e X.env)::starEach es X.env:=by rfl) (hpl:(backTo pos (starEach es X.env)).any (·.1)=false:=by rfl):PE X (.Call (.Name x p) (e::es) [] pos) (tCB r t):=by
 intro pins s σ H Q I h
 refine wpAny_Call_Name_kw (q9E I hg hm hv ?_ hn hdb)
 exact PyProof.Rows.callWith_type1 (thn (ha pos pins s σ H _ I h) fun us s1 h_28=>by obtain ⟨vs,H1,I1,r1,q1⟩:=h_28;exact hc pins s1 σ H1 vs us Q I1 r1 q1) he hpl
end
end L2
namespace HT
open PySem PyProof.Rows
section
open PySem.SeqAt
open PySem.AutoSeq1 (wpAny_loadPart')
open PySem.MeetsSeq PySem.MeetsSeq2 PySem.MeetsSeq3
end
section
variable {prog:Program}{w:World}{A:Around}{E:Value->Shared->Prop}{s:Shared}
theorem x1N {t b:Addr}{vs ws:List Value}{Q:Value->Shared->Prop} (ht:IsTup s.heap t vs.toArray) (hb:IsTup s.heap b ws.toArray) (hv:vs≠[])
  (h1:ws=[]->Q (.ref t) s) (h2:ws≠[]->Q (.ref s.heap.objs.size) { s with heap:=s.heap.push { cls:=.type "tuple",data:=.seq (vs++ws).toArray } })
  (hsz:vs.length + ws.length<=sizeLine):wpAny (model prog w) A (binaryOp .Add (.ref t) (.ref b)) Q E s:=by
 obtain ⟨⟨cls,dd,data,sl⟩,ho,hc,n,hd⟩:=id ht
 obtain ⟨⟨cls2,dd2,data2,sl2⟩,ho2,hc2,n2,hd2⟩:=id hb
 simp only at hc hd hc2 hd2
 subst hc hd hc2 hd2
 have e:vs.toArray++ws.toArray=(vs++ws).toArray:=by simp
 by_cases hw:ws=[]
 ·exact concat_meets ⟨_,ho,rfl⟩ ⟨_,ho2,rfl⟩ noFill_tuple_add seq_tuple_add PySem.F.slot_tuple_add PySem.F.entry_tuple_add (PySem.F.args_tuple_add_2 _ _)
   (tuple_addW1 t b vs.toArray ws.toArray n n2 dd dd2 sl sl2 (by simpa using hv) (by simp [hw])) ⟨ho,ho2,h1 hw⟩
 ·refine concat_meets ⟨_,ho,rfl⟩ ⟨_,ho2,rfl⟩ noFill_tuple_add seq_tuple_add PySem.F.slot_tuple_add PySem.F.entry_tuple_add (PySem.F.args_tuple_add_2 _ _)
   (tuple_addW2 t b vs.toArray ws.toArray n n2 dd dd2 sl sl2 (by simpa using hv) (by simpa using hw) (by rw [List.size_toArray,List.size_toArray];exact hsz)) ⟨ho,ho2,?_⟩
  rw [e]
  exact h2 hw
def sIx (n d:Nat):Option Int->Nat
 | none=>d
 | some v=>if v<0 then (v + (n:Int)).toNat else min v.toNat n
theorem w4U (n d:Nat):sIx n d none=d:=rfl
theorem w7f (n d k:Nat):sIx n d (some (k:Int))=min k n:=by
 show (if (k:Int)<0 then ((k:Int) + (n:Int)).toNat else min (k:Int).toNat n)=min k n
 rw [if_neg (by omega),Int.toNat_natCast]
theorem x3K (n d:Nat) (hd:d<=n) (o:Option Int):sIx n d o<=n:=by
 cases o with
 | none=>exact hd
 | some v =>
  show (if v<0 then (v + (n:Int)).toNat else min v.toNat n)<=n
  by_cases hv:v<0
  ·rw [if_pos hv];omega
  ·rw [if_neg hv];exact Nat.min_le_right _ _
theorem w7g (v:Int) (n d:Nat):(if v<0 then max (v + (n:Int)) 0 else min v (n:Int))=((sIx n d (some v):Nat):Int):=by
 show (if v<0 then max (v + (n:Int)) 0 else min v (n:Int))=(((if v<0 then (v + (n:Int)).toNat else min v.toNat n):Nat):Int)
 by_cases hv:v<0
 ·simp only [if_pos hv];omega
 ·simp only [if_neg hv];omega
theorem w5L (lo hi:Option Int) (n:Nat):Builtin.Slice.sliceAdjust lo hi 1 (n:Int)=(((sIx n 0 lo:Nat):Int),((sIx n n hi:Nat):Int)):=by
 have h1:¬ ((1:Int)<0):=by omega
 unfold Builtin.Slice.sliceAdjust
 simp only [h1,if_false]
 refine Prod.ext ?_ ?_
 ·cases lo with
  | none=>rfl
  | some v=>exact w7g v n 0
 ·cases hi with
  | none=>rfl
  | some v=>exact w7g v n n
theorem w5M (i j:Nat):Builtin.Slice.slicePlaces (i:Int) (j:Int) 1=j - i:=by
 unfold Builtin.Slice.slicePlaces
 have h1:(1:Int) > 0:=by omega
 simp only [h1,if_true,Int.ediv_one]
 split<;>omega
theorem q9G {v:Value}{o:Option Int}{Q:Option Int->Shared->Prop} (p:IsPart v o) (h:Q o s):wpAny (model prog w) A (Builtin.Slice.slicePartIndex v) Q E s:=by
 cases p with
 | none=>exact slicePart_none h
 | int i t=>exact slicePart_int h
theorem q3V {sl:Addr}{vl vu:Value}{lo hi:Option Int}{n:Nat}{Q:Int×Int×Nat->Shared->Prop} (hs:s.heap.IsSliceOf sl vl vu .none) (pl:IsPart vl lo) (pu:IsPart vu hi)
  (h:Q (((sIx n 0 lo:Nat):Int),1,sIx n n hi - sIx n 0 lo) s):wpAny (model prog w) A (Builtin.Slice.sliceApplied (.ref sl) (pure (n:Int))) Q E s:=by
 obtain ⟨os,hos,hcs,hds⟩:=id hs
 unfold Builtin.Slice.sliceApplied Builtin.Slice.sliceFields
 refine wpAny_bind (wpAny_bind (wpAny_field hos hds (x:=vl) rfl (wpAny_bind (wpAny_field hos hds (x:=vu) rfl (wpAny_bind (wpAny_field hos hds (x:=.none) rfl (wpAny_pure ?_)))))))
 refine wpAny_bind (slicePart_none ?_)
 show wpAny _ _ (if ((1:Int) == 0)=true then _ else _) _ _ s
 rw [if_neg (by decide)]
 refine wpAny_bind (q9G pl (wpAny_bind (q9G pu (wpAny_bind (wpAny_pure ?_)))))
 show wpAny _ _ (match Builtin.Slice.sliceAdjust lo hi 1 (n:Int) with | (lo,hi)=>pure (lo,(1:Int),Builtin.Slice.slicePlaces lo hi 1)) _ _ s
 rw [w5L lo hi n]
 show wpAny _ _ (pure (((sIx n 0 lo:Nat):Int),(1:Int),Builtin.Slice.slicePlaces ((sIx n 0 lo:Nat):Int) ((sIx n n hi:Nat):Int) 1)) _ _ s
 rw [w5M]
 exact wpAny_pure h
theorem w9d (xs:Array Value) (i k:Nat):((List.range k).filterMap fun (m:Nat)=>xs[((i:Int) + (m:Int) * 1).toNat]?).toArray=((xs.toList.drop i).take k).toArray:=by
 have e:(fun (m:Nat)=>xs[((i:Int) + (m:Int) * 1).toNat]?)=fun m=>xs[i + m]?:=by
  funext m
  have:((i:Int) + (m:Int) * 1).toNat=i + m:=by omega
  rw [this]
 rw [e]
 have:=pick_run xs i k
 rw [List.filterMap_map] at this
 have e2:((fun x=>xs[x]?)∘fun x=>i + x)=fun m=>xs[i + m]?:=rfl
 rw [e2] at this
 rw [this]
theorem q6e {t sl:Addr}{items:Array Value}{vl vu:Value}{lo hi:Option Int}{Q:Value->Shared->Prop} (ht:IsTup s.heap t items) (hs:s.heap.IsSliceOf sl vl vu .none) (pl:IsPart vl lo) (pu:IsPart vu hi)
  (hw:¬ (sIx items.size 0 lo=0/\sIx items.size items.size hi=items.size))
  (h:Q (.ref s.heap.objs.size) { s with heap:=s.heap.push { cls:=.type "tuple",data:=.seq ((items.toList.drop (sIx items.size 0 lo)).take (sIx items.size items.size hi - sIx items.size 0 lo)).toArray } })
  (hsz:items.size<=sizeLine):wpAny (model prog w) A (getItem (.ref t) (.ref sl)) Q E s:=by
 have htake:sizeOk (.seq ((items.toList.drop (sIx items.size 0 lo)).take (sIx items.size items.size hi - sIx items.size 0 lo)).toArray):=by
  show ((items.toList.drop (sIx items.size 0 lo)).take (sIx items.size items.size hi - sIx items.size 0 lo)).toArray.size<=sizeLine
  rw [List.size_toArray,List.length_take,List.length_drop,Array.length_toList]
  omega
 have hj:sIx items.size items.size hi<=items.size:=x3K _ _ (Nat.le_refl _) hi
 obtain ⟨os,hos,hcs,hds⟩:=id hs
 have hTs:s.TypeIs (.ref sl) "slice":=⟨os,hos,hcs⟩
 unfold getItem
 try with_reducible refine wpAny_holding ?_
 first | refine wpAny_bind (wpAny_pure ?_) | skip
 refine wpAny_bind (wpAny_sequenceKey ht.typeIs (by decide) ?_)
 refine wpAny_bind (wpAny_callSpecial?_slot (name:=Str.ofString "__getitem__") ht.typeIs PyProof.Rows.slot_tuple_getitem
  (wpAny_call_entry PyProof.Rows.slot_tuple_getitem ht.typeIs entry_tuple_getitem ?_ (args_tuple_getitem _ _)))
 show wpAny _ _ (Builtin.Tuple.tupleItemsOf (.ref t) >>= _) _ _ s
 refine wpAny_bind (tupleItemsOf_ ht ?_)
 refine wpAny_bind (wpAny_typeOf hTs ?_)
 rw [if_pos (by decide)]
 refine wpAny_bind (q3V hs pl pu ?_)
 have hno:¬ ((((sIx items.size 0 lo:Nat):Int) == 0 && (1:Int) == 1 && (sIx items.size items.size hi - sIx items.size 0 lo) == items.size)=true):=by
  intro q
  rw [Bool.and_eq_true,Bool.and_eq_true] at q
  have q1:((sIx items.size 0 lo:Nat):Int)=0:=eq_of_beq q.1.1
  have q2:sIx items.size items.size hi - sIx items.size 0 lo=items.size:=eq_of_beq q.2
  exact hw ⟨by omega,by omega⟩
 show wpAny _ _ (if (((sIx items.size 0 lo:Nat):Int) == 0 && (1:Int) == 1 && (sIx items.size items.size hi - sIx items.size 0 lo) == items.size)=true then _ else _) _ _ s
 rw [if_neg hno,w9d]
 first
  | exact wpAny_bind (m:=Builtin.Tuple.tupleExact _) (wpAny_newObj_type (wpAny_pure ⟨_,rfl,wpAny_pure h⟩) htake)
  | exact wpAny_bind (m:=Builtin.Tuple.tupleExact _) (wpAny_newObj_type (wpAny_bind (wpAny_pure (wpAny_pure ⟨_,rfl,wpAny_pure h⟩))) htake)
  | exact wpAny_bind (wpAny_bind (m:=Builtin.Tuple.tupleExact _) (wpAny_newObj_type (wpAny_pure (wpAny_pure ⟨_,rfl,wpAny_pure h⟩)) htake))
  | exact wpAny_bind (wpAny_bind (m:=Builtin.Tuple.tupleExact _) (wpAny_newObj_type (wpAny_pure ⟨_,rfl,wpAny_pure h⟩) htake))
end
end HT
namespace L2
open PySem PySem.Spec PyProof.Rows
abbrev TO:=St->Hp->(Option Int->Hp->Prop)->Prop
def PO (X:Cx) (e:Option Expr) (t:TO):Prop :=
 ∀ (pins:List (Addr×Obj)) (s:Shared) (σ:St) (H:Hp) (Q:Option Int->Hp->Prop),Inv X pins σ H s->t σ H Q ->
  wpAny (model X.prog X.w) X.A (evalPart e X.env) (fun u s'=>∃ o H',Inv X pins σ H' s'/\IsPart u o/\Q o H') X.xe s
def x1O:TO:=fun _ H Q=>Q none H
def x5Z (t:TE):TO:=fun σ H Q=>t σ H fun x H1=>∃ i,x=.int i/\Q (some i) H1
section
variable {X:Cx}{e:Expr}{te:TE}{lo hi:Option Expr}{tl th:TO}{pos p2:Pos}
theorem x1P:PO X none x1O:=by
 intro pins s σ H Q I h
 rw [evalPart_none]
 exact wpAny_pure ⟨none,H,I,.none,h⟩
theorem x1Q (h:PE X e te):PO X (some e) (x5Z te):=by
 intro pins s σ H Q I hw
 rw [evalPart_some]
 refine thn (h pins s σ H _ I hw) fun u s1 h_29=>?_
 obtain ⟨x,H1,I1,r1,q1⟩:=h_29
 obtain ⟨i,rfl,q⟩:=q1
 obtain ⟨t,rfl⟩:=r1
 exact ⟨some i,H1,I1,.int i t,q⟩
def SlR (X:Cx) (r:V->Option Int->Option Int->Hp->VK->Prop):Prop :=
 ∀ (pins:List (Addr×Obj)) (s:Shared) (σ:St) (H:Hp) (x:V) (v vl vu:Value) (lo hi:Option Int) (sl:Addr) (Q:VK),Inv X pins σ H s->q1Q x v->s.heap.IsSliceOf sl vl vu .none->IsPart vl lo->IsPart vu hi->r x lo hi H Q ->
  ∃ T id,typeLookup (.type T) "__getitem__"=pure (some (.builtin id))/\s.TypeIs v T/\wpAny (model X.prog X.w) X.A (getItem v (.ref sl)) (EP X pins σ Q) X.xe s
def tSl (r:V->Option Int->Option Int->Hp->VK->Prop) (te:TE) (tl th:TO):TE:=fun σ H Q=>te σ H fun x H1=>tl σ H1 fun l H2=>th σ H2 fun u H3=>r x l u H3 Q
theorem w9e {r:V->Option Int->Option Int->Hp->VK->Prop} (hr:SlR X r) (he:PE X e te) (hl:PO X lo tl) (hu:PO X hi th):PE X (.Subscript e (.Slice lo hi none p2) pos) (tSl r te tl th):=by
 intro pins s σ H Q I h
 refine Subscript_ (thn (he pins s σ H _ I h) fun v s1 ⟨x,H1,I1,r1,q1⟩=>?_)
 refine wpAny_Slice (thn (hl pins s1 σ H1 _ I1 q1) fun vl s2 ⟨l,H2,I2,pl,q2⟩=>thn (hu pins s2 σ H2 _ I2 q2) fun vu s3 ⟨u,H3,I3,pu,q3⟩=>?_)
 rw [evalPart_none]
 refine wpAny_pure ?_
 have I4:Inv X pins σ H3 { s3 with heap:=s3.heap.push { cls:=.type "slice",data:=.fields #[vl,vu,.none] } }:=I3.kept (t':=s3.toks) fun b ob q=>Heap.get?_push_of_some _ q
 obtain ⟨T,id,hT,ht,hg⟩:=hr pins { s3 with heap:=s3.heap.push { cls:=.type "slice",data:=.fields #[vl,vu,.none] } } σ H3 x v vl vu l u s3.heap.objs.size Q I4 r1 (Heap.IsSliceOf.new ..) pl pu q3
 show wpAny (model X.prog X.w) X.A (subscriptTail e (.Slice lo hi none p2) v (.ref s3.heap.objs.size)) (EP X pins σ Q) X.xe { s3 with heap:=s3.heap.push { cls:=.type "slice",data:=.fields #[vl,vu,.none] } }
 exact tail_any (ops:=[.ref s3.heap.objs.size,v]) ht hT hg (by with_unfolding_all rfl)
def x0q (xs:List V) (lo hi:Option Int):List V:=(xs.drop (HT.sIx xs.length 0 lo)).take (HT.sIx xs.length xs.length hi - HT.sIx xs.length 0 lo)
theorem q7X (xs:List V) (lo hi:Option Int):(x0q xs lo hi).length<=xs.length:=by
 unfold x0q
 rw [List.length_take,List.length_drop]
 omega
def x7w (K:PySem.W.Frag):V->Option Int->Option Int->Hp->VK->Prop:=fun x lo hi H Q=>∃ a xs,x=.ref a/\SqT K H a xs /\
 ¬ (HT.sIx xs.length 0 lo=0/\HT.sIx xs.length xs.length hi=xs.length)/\∀ p,H p=none->Q (.ref p) (upd H p (.tup (x0q xs lo hi)))
theorem x3L:SlR X (x7w X.K):=by
 intro pins s σ H x v vl vu lo hi sl Q I rx hs pl pu h
 obtain ⟨a,xs,rfl,hx,hw,q⟩:=h
 cases rx
 obtain ⟨its,r,ht,hz⟩:=I.tuple hx
 have hlen:its.toArray.size=xs.length:=by rw [List.size_toArray];exact r.length.symm
 refine ⟨"tuple",_,PyProof.Rows.slot_tuple_getitem.lookup,ht.typeIs,?_⟩
 refine HT.q6e ht hs pl pu (by rw [hlen];exact hw) ?_ (by rw [hlen];exact hz)
 rw [hlen]
 refine ⟨.ref s.heap.objs.size,_,I.laid (t':=s.toks) (o:=.tup (x0q xs lo hi)) (fun b ob q=>Heap.get?_push_of_some _ q) (Nat.le_refl _) ?_,rfl,q _ (I.hok.fresh (Nat.le_refl _))⟩
 exact ⟨Nat.le_trans (q7X xs lo hi) hz,_,(r.drop (HT.sIx xs.length 0 lo)).take (HT.sIx xs.length xs.length hi - HT.sIx xs.length 0 lo),IsTup.new _ _⟩
inductive x0r (K:PySem.W.Frag) (x:V) (y:V) (H:Hp) (Q:VK):Prop
 | mk (a b xs ys:_) (h0:x=.ref a) (h1:y=.ref b) (h2:SqT K H a xs) (h3:SqT K H b ys) (h4:xs≠[]) (h5:xs.length + ys.length<=sizeLine) (h6:(ys=[]->Q (.ref a) H)) (h7:(ys≠[]->∀ p,H p=none->Q (.ref p) (upd H p (.tup (xs++ys))))):x0r K x y H Q
def x60 (K:PySem.W.Frag):R2:=x0r K
theorem q1x.nil_iff {xs:List V}{us:List Value} (r:q1x xs us):us=[]↔xs=[]:=by
 cases r with
 | nil=>simp
 | cons _ _=>simp
theorem x1R:OpR X (binaryOp .Add) (x60 X.K):=by
 intro pins s σ H x y v u Q I rx ry h
 obtain ⟨a,b,xs,ys,rfl,rfl,ha,hb,hx,hz,q1,q2⟩:=h
 cases rx
 cases ry
 obtain ⟨its,r1,p1,_⟩:=I.tuple ha
 obtain ⟨its2,r2,p2,_⟩:=I.tuple hb
 refine HT.x1N p1 p2 (fun z=>hx (r1.nil_iff.mp z)) (fun z=>⟨.ref a,H,I,rfl,q1 (r2.nil_iff.mp z)⟩) (fun z=>?_) (by rw [<- r1.length,<- r2.length];exact hz)
 refine ⟨.ref s.heap.objs.size,_,I.laid (t':=s.toks) (o:=.tup (xs++ys)) (fun b ob q=>Heap.get?_push_of_some _ q) (Nat.le_refl _) ?_,rfl,q2 (fun w=>z (r2.nil_iff.mpr w)) _ (I.hok.fresh (Nat.le_refl _))⟩
 exact ⟨by rw [List.length_append];exact hz,_,r1.append r2,IsTup.new _ _⟩
end
end L2
namespace L2
open PySem PySem.Spec PyProof.Rows
def ixN (n:Nat) (i:Int):Option Nat:=if 0<=i then (if i<n then some i.toNat else none) else if -(n:Int)<=i then some (i + n).toNat else none
def atI {α:Type} (xs:List α) (i:Int):Option α:=(ixN xs.length i).bind fun j=>xs[j]?
theorem x1S {n:Nat}{i:Int}{j:Nat} (h:ixN n i=some j):seqIndex? i n=some j/\j<n/\-(n:Int)<=i/\i<n:=by
 unfold ixN at h
 by_cases h0:0<=i
 ·rw [if_pos h0] at h
  by_cases h1:i<n
  ·rw [if_pos h1] at h
   have e:i.toNat=j:=Option.some.inj h
   exact ⟨by rw [seqIndex_of h0 h1,e],by omega,by omega,h1⟩
  ·rw [if_neg h1] at h;cases h
 ·rw [if_neg h0] at h
  by_cases h1:-(n:Int)<=i
  ·rw [if_pos h1] at h
   have e:(i + n).toNat=j:=Option.some.inj h
   exact ⟨by rw [seqIndex_neg (by omega) h1,e],by omega,h1,by omega⟩
  ·rw [if_neg h1] at h;cases h
theorem w30 {α:Type}{xs:List α}{i:Int}{v:α} (h:atI xs i=some v):∃ j,seqIndex? i xs.length=some j/\xs[j]?=some v/\j<xs.length/\-(xs.length:Int)<=i/\i<xs.length:=by
 unfold atI at h
 cases e:ixN xs.length i with
 | none=>rw [e] at h;cases h
 | some j =>
  rw [e] at h
  obtain ⟨h1,h2,h3,h4⟩:=x1S e
  exact ⟨j,h1,h,h2,h3,h4⟩
theorem q6f {α:Type}{xs:List α}{j:Nat}{v:α} (h:xs[j]?=some v):atI xs (j:Int)=some v:=by
 have hj:j<xs.length:=(List.getElem?_eq_some_iff.mp h).1
 have e:ixN xs.length (j:Int)=some j:=by
  unfold ixN
  rw [if_pos (by omega),if_pos (by omega)];simp
 unfold atI;rw [e];exact h
def w0c (b:Expr):Prop:=∀ o i,subscripted b false o i=operate [o,i] (getItem o i)
def IxR (X:Cx) (r:R2):Prop :=
 ∀ (value slice:Expr) (pins:List (Addr×Obj)) (s:Shared) (σ:St) (H:Hp) (x y:V) (v u:Value) (Q:VK),Inv X pins σ H s->q1Q x v->q1Q y u->r x y H Q ->
  subscripted slice false v u=operate [v,u] (getItem v u)->wpAny (model X.prog X.w) X.A (subscriptTail value slice v u) (EP X pins σ Q) X.xe s
def MtR (X:Cx) (id:String) (r:V->List V->Hp->VK->Prop):Prop :=
 ∀ (pins:List (Addr×Obj)) (s:Shared) (σ:St) (H:Hp) (x:V) (xs:List V) (v:Value) (us:List Value) (Q:VK),Inv X pins σ H s->q1Q x v->q1x xs us->r x xs H Q ->
  wpAny (model X.prog X.w) X.A (call (.builtin id) (v::us)) (EP X pins σ Q) X.xe s
section
variable {X:Cx}{a b:Expr}{ta tb:TE}{pos:Pos}
theorem x3M {r:R2} (hr:IxR X r) (ha:PE X a ta) (hb:PE X b tb) (hs:w0c b):PE X (.Subscript a b pos) (tOp r ta tb):=by
 intro pins s σ H Q I h
 exact Subscript_ (x5Q ha hb I h fun v u s2 x y H2 I2 rx ry q=>hr a b pins s2 σ H2 x y v u Q I2 rx ry q (hs _ _))
inductive x3N (K:PySem.W.Frag) (x:V) (y:V) (H:Hp) (Q:VK):Prop
 | mk (p xs i v:_) (h0:x=.ref p) (h1:y=.int i) (h2:SqL K H p xs) (h3:atI xs i=some v) (h4:Q v H):x3N K x y H Q
def x7x (K:PySem.W.Frag):R2:=x3N K
inductive x3O (K:PySem.W.Frag) (x:V) (y:V) (H:Hp) (Q:VK):Prop
 | mk (p xs i v:_) (h0:x=.ref p) (h1:y=.int i) (h2:SqT K H p xs) (h3:atI xs i=some v) (h4:Q v H):x3O K x y H Q
def x7y (K:PySem.W.Frag):R2:=x3O K
inductive x3P (x:V) (y:V) (H:Hp) (Q:VK):Prop
 | mk (z i c:_) (h0:x=.str z) (h1:y=.int i) (h2:z.length<=sizeLine) (h3:atI z.cps.toList i=some c) (h4:Q (.str ⟨#[c]⟩) H):x3P  x y H Q
def x7z:R2:=x3P
theorem w0d:IxR X (x7x X.K):=by
 intro value slice pins s σ H x y v u Q I rx ry h hs
 obtain ⟨p,xs,i,z,rfl,rfl,hq,he,q⟩:=h
 cases rx
 obtain ⟨t,rfl⟩:=ry
 obtain ⟨its,r,pl,hz⟩:=I.list hq
 obtain ⟨j,h1,h2,h3,h4,h5⟩:=w30 he
 obtain ⟨w,ew,rw'⟩:=r.get h2
 have hl:=r.length
 have hn:=w1d
 have fin:EP X pins σ Q w s:=⟨z,H,I,rw',q⟩
 by_cases h0:0<=i
 ·have hj:i.toNat=j:=by
   rw [seqIndex_of h0 h5] at h1
   exact Option.some.inj h1
  exact item_listR pl.isList h0 (by omega) (by rw [hj];simpa using ew) fin hs
 ·have hj:(i + (its.toArray.size:Int)).toNat=j:=by
   rw [seqIndex_neg (by omega) h4] at h1
   rw [List.size_toArray,<- hl]
   exact Option.some.inj h1
  exact subscriptTail_builtinR (x:=w) pl.isList.typeIs slot_list_getitem.lookup
   (wpAny_getItem_list_neg (Q:=fun r s'=>r=w/\EP X pins σ Q r s') pl.isList (by omega) (by rw [List.size_toArray]<;>omega) (by omega) (by rw [hj];simpa using ew) ⟨rfl,fin⟩) hs
theorem x3Q:IxR X (x7y X.K):=by
 intro value slice pins s σ H x y v u Q I rx ry h hs
 obtain ⟨p,xs,i,z,rfl,rfl,hq,he,q⟩:=h
 cases rx
 obtain ⟨t,rfl⟩:=ry
 obtain ⟨its,r,pl,hz⟩:=I.tuple hq
 obtain ⟨j,h1,h2,h3,h4,h5⟩:=w30 he
 obtain ⟨w,ew,rw'⟩:=r.get h2
 have hl:=r.length
 have hn:=w1d
 have fin:EP X pins σ Q w s:=⟨z,H,I,rw',q⟩
 exact subscriptTail_builtinR (x:=w) pl.typeIs slot_tuple_getitem.lookup
  (getItem_tuple (j:=j) (Q:=fun r s'=>r=w/\EP X pins σ Q r s') pl (by omega) (by omega) (by rw [List.size_toArray,<- hl];exact h1) (by simpa using ew) ⟨rfl,fin⟩) hs
theorem x3R:IxR X x7z:=by
 intro value slice pins s σ H x y v u Q I rx ry h hs
 obtain ⟨z,i,c,rfl,rfl,hz,he,q⟩:=h
 obtain ⟨t,rfl⟩:=rx
 obtain ⟨t',rfl⟩:=ry
 obtain ⟨j,h1,h2,h3,h4,h5⟩:=w30 he
 have hl:z.cps.toList.length=z.length:=by simp [Str.length]
 rw [hl] at h1 h4 h5
 have hn:=w1d
 exact tail_any (typeIs_str s z t) slot_str_getitem.lookup (getItem_str (c:=c) (by
  have e1:decide (i < -(2 ^ 63:Int))=false:=decide_eq_false (by omega)
  have e2:decide (i ≥ 2 ^ 63)=false:=decide_eq_false (by omega)
  rw [e1,e2,Bool.or_false]) (by rw [h1];simpa using h2) ⟨.str ⟨#[c]⟩,H,I.tok _,⟨_,rfl⟩,q⟩) hs
theorem w1k (lo hi:Option Int) (n:Nat):(sliceBounds lo hi none n).1=((HT.sIx n 0 lo:Nat):Int)/\(sliceBounds lo hi none n).2.1=((HT.sIx n n hi:Nat):Int)/\(sliceBounds lo hi none n).2.2=1:=by
 refine ⟨?_,?_,rfl⟩
 ·cases lo with
  | none=>simp [sliceBounds,HT.sIx]
  | some i =>
   simp only [sliceBounds,HT.sIx,Option.getD_none,show (1:Int) > 0 by decide,if_true]
   by_cases h:i<0
   ·simp only [h,if_true]<;>omega
   ·simp only [h,if_false]<;>omega
 ·cases hi with
  | none=>simp [sliceBounds,HT.sIx]
  | some i =>
   simp only [sliceBounds,HT.sIx,Option.getD_none,show (1:Int) > 0 by decide,if_true]
   by_cases h:i<0
   ·simp only [h,if_true]<;>omega
   ·simp only [h,if_false]<;>omega
theorem w0e (its:List Value) (lo hi:Option Int):slicePick its.toArray lo hi none=((its.drop (HT.sIx its.length 0 lo)).take (HT.sIx its.length its.length hi - HT.sIx its.length 0 lo)).toArray:=by
 obtain ⟨h1,h2,h3⟩:=w1k lo hi its.toArray.size
 unfold slicePick
 rw [h1,h2,h3]
 simp only [sliceRange_one,pick_run,List.size_toArray]<;>rfl
def x7A (K:PySem.W.Frag):V->Option Int->Option Int->Hp->VK->Prop:=fun x lo hi H Q=>∃ a xs,x=.ref a/\SqL K H a xs/\∀ p,H p=none->Q (.ref p) (upd H p (.lst (x0q xs lo hi)))
theorem x1T:SlR X (x7A X.K):=by
 intro pins s σ H x v vl vu lo hi sl Q I rx hs pl pu h
 obtain ⟨a,xs,rfl,hx,q⟩:=h
 cases rx
 obtain ⟨its,r,ht,hz⟩:=I.list hx
 have hlen:=r.length
 refine ⟨"list",_,slot_list_getitem.lookup,ht.isList.typeIs,?_⟩
 refine wpAny_getItem_list_slice ht.isList hs pl pu .none (by simp) ?_ (by rw [List.size_toArray]<;>omega)
 rw [w0e,<- hlen]
 refine ⟨.ref s.heap.objs.size,_,I.laid (t':=s.toks) (o:=.lst (x0q xs lo hi)) (fun b ob q=>Heap.get?_push_of_some _ q) (Nat.le_refl _) ?_,rfl,q _ (I.hok.fresh (Nat.le_refl _))⟩
 exact ⟨Nat.le_trans (q7X xs lo hi) hz,_,0,(r.drop (HT.sIx xs.length 0 lo)).take (HT.sIx xs.length xs.length hi - HT.sIx xs.length 0 lo),Heap.get?_push_size _ rfl⟩
def q7Y:V->Bool
 | .non=>true
 | .bl _=>true
 | .int _=>true
 | .str _=>true
 | _=>false
def eqV:V->V->Bool
 | .non,.non=>true
 | .bl a,.bl b=>a == b
 | .bl a,.int b=>(if a then 1 else 0) == b
 | .int a,.bl b=>a == (if b then 1 else 0)
 | .int a,.int b=>a == b
 | .str a,.str b=>a == b
 | _,_=>false
theorem x3S {A:Around}{s:Shared}{y x:V}{u v:Value} (ry:q1Q y u) (rx:q1Q x v) (fy:q7Y y=true) (fx:q7Y x=true):SeqAt.EqAt A s u v (eqV y x):=by
 cases y with
 | non =>
  cases ry
  cases x with
  | non=>cases rx;exact SeqAt.EqAt.same _
  | bl b=>cases rx;exact SeqAt.EqAt.none_bool b
  | int b=>obtain ⟨t,rfl⟩:=rx;exact SeqAt.EqAt.none_int b t
  | str b=>obtain ⟨t,rfl⟩:=rx;exact SeqAt.EqAt.none_str b t
  | _=>exact absurd (show false=true from fx) Bool.false_ne_true
 | bl a =>
  cases ry
  cases x with
  | non=>cases rx;exact SeqAt.EqAt.bool_none a
  | bl b=>cases rx;exact SeqAt.EqAt.bool_bool a b
  | int b=>obtain ⟨t,rfl⟩:=rx;exact SeqAt.EqAt.bool_int a b t
  | str b=>obtain ⟨t,rfl⟩:=rx;exact SeqAt.EqAt.bool_str a b t
  | _=>exact absurd (show false=true from fx) Bool.false_ne_true
 | int a =>
  obtain ⟨t',rfl⟩:=ry
  cases x with
  | non=>cases rx;exact SeqAt.EqAt.int_none a t'
  | bl b=>cases rx;exact SeqAt.EqAt.int_bool a t' b
  | int b=>obtain ⟨t,rfl⟩:=rx;exact SeqAt.EqAt.int_int a t' b t
  | str b=>obtain ⟨t,rfl⟩:=rx;exact SeqAt.EqAt.int_str a t' b t
  | _=>exact absurd (show false=true from fx) Bool.false_ne_true
 | str a =>
  obtain ⟨t',rfl⟩:=ry
  cases x with
  | non=>cases rx;exact SeqAt.EqAt.str_none a t'
  | bl b=>cases rx;exact SeqAt.EqAt.str_bool a t' b
  | int b=>obtain ⟨t,rfl⟩:=rx;exact SeqAt.EqAt.str_int a t' b t
  | str b=>obtain ⟨t,rfl⟩:=rx;exact SeqAt.EqAt.str_str a t' b t
  | _=>exact absurd (show false=true from fx) Bool.false_ne_true
 | _=>exact absurd (show false=true from fy) Bool.false_ne_true
def eqU (x:V) (u:Value):Bool:=match u with
 | .none=>eqV .non x
 | .bool b=>eqV (.bl b) x
 | .int i _=>eqV (.int i) x
 | .str z _=>eqV (.str z) x
 | _=>false
theorem x0s {x y:V}{u:Value} (r:q1Q y u) (f:q7Y y=true):eqU x u=eqV y x:=by
 cases y with
 | non=>cases r;rfl
 | bl b=>cases r;rfl
 | int i=>obtain ⟨t,rfl⟩:=r;rfl
 | str z=>obtain ⟨t,rfl⟩:=r;rfl
 | _=>exact absurd (show false=true from f) Bool.false_ne_true
theorem q7Z {x:V}:∀ {xs:List V}{us:List Value},q1x xs us->xs.all q7Y=true->us.any (eqU x)=xs.any fun y=>eqV y x
 | _,_,.nil,_=>rfl
 | y::xs,u::us,.cons r t,f=>by
  rw [List.all_cons,Bool.and_eq_true] at f
  rw [List.any_cons,List.any_cons,x0s r f.1,q7Z t f.2]
theorem q5E {A:Around}{s:Shared}{x:V}{v:Value} (rx:q1Q x v) (fx:q7Y x=true):∀ {xs:List V}{us:List Value},q1x xs us->xs.all q7Y=true->∀ u∈us,SeqAt.EqAt A s u v (eqU x u)
 | _,_,.nil,_=>fun u hu=>by cases hu
 | y::xs,u::us,.cons r t,f=>fun u' hu=>by
  rw [List.all_cons,Bool.and_eq_true] at f
  rcases List.mem_cons.mp hu with rfl | hu
  ·rw [x0s r f.1];exact x3S r rx f.1 fx
  ·exact q5E rx fx t f.2 u' hu
def inV (x:V) (xs:List V):Bool:=xs.any fun y=>eqV y x
inductive x6E (K:PySem.W.Frag) (neg:Bool) (x:V) (y:V) (H:Hp) (Q:VK):Prop
 | mk (p xs:_) (h0:y=.ref p) (h1:(SqL K H p xs\/SqT K H p xs)) (h2:q7Y x=true) (h3:xs.all q7Y=true) (h4:Q (.bl (if neg then !inV x xs else inV x xs)) H):x6E K neg x y H Q
def rIn (K:PySem.W.Frag) (neg:Bool):R2:=x6E K neg
theorem w7h:OpR X (compareOp .In) (rIn X.K false):=by
 intro pins s σ H x y v u Q I rx ry h
 obtain ⟨p,xs,rfl,hq,fx,fs,q⟩:=h
 cases ry
 rcases hq with hq | hq
 ·obtain ⟨its,r,pl,hz⟩:=I.list hq
  refine SeqAt.in_listAt (eqU x) pl.isList (fun w hw=>q5E rx fx r fs w (by simpa using hw)) ⟨.bl _,H,I,rfl,?_⟩
  rw [show its.toArray.any (eqU x)=its.any (eqU x) by simp,q7Z r fs]
  exact q
 ·obtain ⟨its,r,pl,hz⟩:=I.tuple hq
  refine SeqAt.in_tupleAt (eqU x) pl (fun w hw=>q5E rx fx r fs w (by simpa using hw)) ⟨.bl _,H,I,rfl,?_⟩
  rw [show its.toArray.any (eqU x)=its.any (eqU x) by simp,q7Z r fs]
  exact q
theorem w1l:OpR X (compareOp .NotIn) (rIn X.K true):=by
 intro pins s σ H x y v u Q I rx ry h
 obtain ⟨p,xs,rfl,hq,fx,fs,q⟩:=h
 cases ry
 rcases hq with hq | hq
 ·obtain ⟨its,r,pl,hz⟩:=I.list hq
  refine SeqAt.notIn_listAt (eqU x) pl.isList (fun w hw=>q5E rx fx r fs w (by simpa using hw)) ⟨.bl _,H,I,rfl,?_⟩
  rw [show its.toArray.any (eqU x)=its.any (eqU x) by simp,q7Z r fs]
  exact q
 ·obtain ⟨its,r,pl,hz⟩:=I.tuple hq
  refine SeqAt.notIn_tupleAt (eqU x) pl (fun w hw=>q5E rx fx r fs w (by simpa using hw)) ⟨.bl _,H,I,rfl,?_⟩
  rw [show its.toArray.any (eqU x)=its.any (eqU x) by simp,q7Z r fs]
  exact q
theorem q73:q3E X (.builtin "len") (fun xs H Q=>∃ p ys,xs=[.ref p]/\(SqL X.K H p ys\/SqT X.K H p ys)/\Q (.int ys.length) H):=by
 intro pins s σ H xs us Q I r h
 obtain ⟨p,ys,rfl,hq,q⟩:=h
 obtain ⟨u,rfl,rx⟩:=q4N r
 cases rx
 have hn:=w1d
 rcases hq with hq | hq
 ·obtain ⟨its,r',pl,hz⟩:=I.list hq
  have hlen:=r'.length
  exact Calls.call_len_list pl.isList (by simp only [List.size_toArray]<;>omega) ⟨.int ys.length,H,I.tok _,⟨s.toks + 1,by rw [List.size_toArray,hlen]⟩,q⟩
 ·obtain ⟨its,r',pl,hz⟩:=I.tuple hq
  have hlen:=r'.length
  exact len_tuple pl (by simp only [List.size_toArray]<;>omega) ⟨.int ys.length,H,I.tok _,⟨s.toks + 1,by rw [List.size_toArray,hlen]⟩,q⟩
theorem w1m:q3E X (.builtin "len") (fun xs H Q=>∃ z,xs=[.str z]/\z.length<=sizeLine/\Q (.int z.length) H):=by
 intro pins s σ H xs us Q I r h
 obtain ⟨z,rfl,hz,q⟩:=h
 obtain ⟨u,rfl,t,rfl⟩:=q4N r
 have hn:=w1d
 exact len_str (by omega) ⟨.int z.length,H,I.tok _,⟨_,rfl⟩,q⟩
theorem q74:q3E X (.type "list") (fun xs H Q=>∃ p ys,xs=[.ref p]/\(SqL X.K H p ys\/SqT X.K H p ys)/\∀ l,H l=none->Q (.ref l) (upd H l (.lst ys))):=by
 intro pins s σ H xs us Q I r h
 obtain ⟨p,ys,rfl,hq,q⟩:=h
 obtain ⟨u,rfl,rx⟩:=q4N r
 cases rx
 have fin:∀ (its:List Value),q1x ys its->ys.length<=sizeLine->∀ (h':Heap) (c':Nat),(∀ b o',s.heap.get? b=some o'->h'.get? b=some o') ->
   h'.get? s.heap.objs.size=some { cls:=.type "list",dict:=none,data:=.seq its.toArray c',slots:=#[] }->EP X pins σ Q (.ref s.heap.objs.size) { s with heap:=h' }:=fun its r' hz h' c' kp e =>
  ⟨.ref s.heap.objs.size,_,I.laid (t':=s.toks) kp (Nat.le_refl _) (show q1g X.prog X.w _ h' _ (.lst ys) from ⟨hz,its,c',r',e⟩),rfl,q _ (I.hok.fresh (Nat.le_refl _))⟩
 rcases hq with hq | hq
 ·obtain ⟨its,r',pl,hz⟩:=I.list hq
  have hlen:=r'.length
  obtain ⟨o,ho,hc,n,hd⟩:=pl.isList
  exact call_list_seq p (.inl rfl) ho hc hd (fun h' c' kp e=>fin its r' hz h' c' kp e) (by simp only [List.size_toArray]<;>omega)
 ·obtain ⟨its,r',pl,hz⟩:=I.tuple hq
  have hlen:=r'.length
  obtain ⟨o,ho,hc,n,hd⟩:=pl
  exact call_list_seq p (.inr rfl) ho hc hd (fun h' c' kp e=>fin its r' hz h' c' kp e) (by simp only [List.size_toArray]<;>omega)
theorem q5F:q3E X (.type "tuple") (fun xs H Q=>∃ p ys,xs=[.ref p]/\((SqL X.K H p ys/\∀ l,H l=none->Q (.ref l) (upd H l (.tup ys)))\/(SqT X.K H p ys/\Q (.ref p) H))):=by
 intro pins s σ H xs us Q I r h
 obtain ⟨p,ys,rfl,h⟩:=h
 obtain ⟨u,rfl,rx⟩:=q4N r
 cases rx
 rcases h with ⟨hq,q⟩ | ⟨hq,q⟩
 ·obtain ⟨its,r',pl,hz⟩:=I.list hq
  have hlen:=r'.length
  refine call_tuple_list pl.isList (fun h' kp=>?_) (by simp only [List.size_toArray]<;>omega)
  have I1:Inv X pins σ H { s with heap:=h' }:=I.kept (t':=s.toks) kp
  have I2:Inv X pins σ (upd H h'.objs.size (.tup ys)) { s with heap:=h'.push { cls:=.type "tuple",data:=.seq its.toArray } } :=
   I1.laid (t':=s.toks) (fun b o e=>Heap.get?_push_of_some _ e) (Nat.le_refl _) (show q1g X.prog X.w _ _ _ (.tup ys) from ⟨hz,its,r',IsTup.new _ _⟩)
  exact ⟨.ref h'.objs.size,_,I2,rfl,q _ (I1.hok.fresh (Nat.le_refl _))⟩
 ·obtain ⟨its,r',pl,hz⟩:=I.tuple hq
  exact call_tuple_same pl ⟨.ref p,H,I,rfl,q⟩
def tyV (K:PySem.W.Frag) (T:String) (x:V) (H:Hp):Prop:=match x with
 | .str _=>T="str"
 | .int _=>T="int"
 | .ref p=>(T="list"/\∃ xs,SqL K H p xs)\/(T="tuple"/\∃ o,K.lookup p=some o/\o.cls=.type "tuple"/\o.dict=none) \/
   (T="dict"/\((∃ kvs,H p=some (.dK kvs))\/∃ kvs,H p=some (.dT kvs)))\/(T="set"/\∃ S n,H p=some (.set S n))
 | _=>False
theorem x3T {pins:List (Addr×Obj)}{σ:St}{H:Hp}{s:Shared}{T:String}{x:V}{v:Value} (I:Inv X pins σ H s) (r:q1Q x v) (ty:tyV X.K T x H) :
  s.TypeIs v T/\∀ a,v=.ref a->∃ ob,s.heap.get? a=some ob/\ob.dict=none:=by
 cases x with
 | str z =>
  obtain ⟨t,rfl⟩:=r
  cases (show T="str" from ty)
  exact ⟨typeIs_str s z t,fun _ e=>nomatch e⟩
 | int i =>
  obtain ⟨t,rfl⟩:=r
  cases (show T="int" from ty)
  exact ⟨typeIs_int s i t,fun _ e=>nomatch e⟩
 | ref p =>
  cases r
  rcases ty with ⟨rfl,xs,hq⟩ | ⟨rfl,o,hk,hc,hd⟩ | ⟨rfl,hk⟩ | ⟨rfl,S,n,hk⟩
  ·obtain ⟨its,_,pl,_⟩:=I.list hq
   refine ⟨pl.isList.typeIs,fun a e=>?_⟩
   cases e
   obtain ⟨o,n,e,c,hd,_⟩:=pl
   exact ⟨o,e,hd⟩
  ·refine ⟨⟨o,I.kIn p o hk,hc⟩,fun a e=>?_⟩
   cases e
   exact ⟨o,I.kIn _ o hk,hd⟩
  ·have z:∃ o,s.heap.get? p=some o/\o.ExactDict:=by
    rcases hk with ⟨kvs,hk⟩ | ⟨kvs,hk⟩
    ·obtain ⟨_,_,_,_,o,_,_,e,ex,_⟩:=I.hok p _ hk
     exact ⟨o,e,ex⟩
    ·obtain ⟨_,_,_,_,o,_,_,e,ex,_⟩:=I.hok p _ hk
     exact ⟨o,e,ex⟩
   obtain ⟨o,e,ex⟩:=z
   refine ⟨⟨o,e,ex.1⟩,fun a e2=>?_⟩
   cases e2
   exact ⟨o,e,ex.2.1⟩
  ·obtain ⟨o,_,_,_,e,ex,_⟩:=I.hok p _ hk
   refine ⟨⟨o,e,ex.1⟩,fun a e2=>?_⟩
   cases e2
   exact ⟨o,e,ex.2.1⟩
 | _=>exact False.elim ty
def tBM (K:PySem.W.Frag) (T:String) (r:V->List V->Hp->VK->Prop) (to:TE) (t:TA):TE:=fun σ H Q=>to σ H fun x H1=>tyV K T x H1/\t σ H1 fun xs H2=>r x xs H2 Q
variable {o e:Expr}{es:List Expr}{to:TE}{t:TA}{name:Str}{apos cpos:Pos}{T id:String}{r:V->List V->Hp->VK->Prop}
theorem w31 (pa:PlainAttrs T) (slot:Slot T name id) (hty:typeOf (.builtin id)=pure (.type "method_descriptor")) (hm:MtR X id r) (ho:PE X o to) (ha:PA X (e::es) t)
  (hbase:attributeBase o name X.env (eval o X.env)=eval o X.env:=by rfl)
  (hfew:((backTo cpos (starEach (e::es) X.env)).all (fun x=>!x.1) && (backToKw cpos (keywordEach [] X.env)).all (fun x=>x.1.isSome)
   && decide ((e::es).length + ([] : List Keyword).length + (if ([] : List Keyword).isEmpty then 0 else 1)<30))=true:=by rfl)
  (hline:(apos.endLine == cpos.line)=true:=by rfl) (hs:starEach (e::es) X.env=(false,eval e X.env)::starEach es X.env:=by rfl) (hplain:(backTo cpos (starEach es X.env)).any (·.1)=false:=by rfl) :
  PE X (.Call (.Attribute o name apos) (e::es) [] cpos) (tBM X.K T r to t):=by
 intro pins s σ H Q I h
 refine wpAny_Call_method_late hbase hfew hline rfl (thn (ho pins s σ H _ I h) fun v s1 ⟨x,H1,I1,r1,ty,q1⟩=>?_)
 obtain ⟨h1,h2⟩:=x3T I1 r1 ty
 refine ⟨T,id,pa,slot,hty,h1,h2,?_⟩
 have hA:=ha cpos pins s1 σ H1 _ I1 q1
 rw [hs] at hA ⊢
 refine Calls.callWith_builtin (by show (false || (backTo cpos (starEach es X.env)).any (·.1))=false;rw [hplain]<;>rfl) (Calls.evalArgs_plain ?_)
 exact thn hA fun us s2 h_30=>by obtain ⟨vs,H2,I2,r2,q2⟩:=h_30;exact hm pins s2 σ H2 x vs v us Q I2 r1 r2 q2
/- xs.append(e),list.index on a module's tuple .. are MtR facts of 06m -/
end
end L2
namespace L2
open PySem PySem.Spec PyProof.Rows
def MtM (X:Cx) (id:String) (r:V->List V->Hp->VK->Prop):Prop :=
 ∀ (pins:List (Addr×Obj)) (s:Shared) (σ:St) (H:Hp) (x:V) (xs:List V) (v:Value) (us:List Value) (Q:VK),Inv X pins σ H s->q1Q x v->q1x xs us->r x xs H Q ->
  wpAny (model X.prog X.w) X.A (call (.builtin id) (v::us)) (EP X pins σ Q) X.xe s
theorem q1x.one {x:V}{us:List Value} (h:q1x [x] us):∃ u,us=[u]/\q1Q x u:=by
 cases h with | cons r t=>cases t;exact ⟨_,rfl,r⟩
theorem q1x.rep {xs:List V}{us:List Value} (h:q1x xs us):∀ k:Nat,q1x (List.replicate k xs).flatten (List.replicate k us).flatten
 | 0=>.nil
 | k + 1=>by
  rw [List.replicate_succ,List.replicate_succ,List.flatten_cons,List.flatten_cons]
  exact q1x.append h (q1x.rep h k)
theorem w1n (its:List Value):∀ (k:Nat) (acc:List Value),
  List.foldl (fun x1 x2=>x1++x2) acc.toArray (List.replicate k its.toArray)=(acc++(List.replicate k its).flatten).toArray
 | 0,acc=>by simp
 | k + 1,acc=>by
  have e:acc.toArray++its.toArray=(acc++its).toArray:=by simp
  have e2:(acc++its)++(List.replicate k its).flatten=acc++(List.replicate (k + 1) its).flatten:=by
   rw [List.replicate_succ,List.flatten_cons,List.append_assoc]
  rw [<- e2,<- w1n its k (acc++its),<- e,List.replicate_succ,List.foldl_cons]
section
variable {X:Cx}{pins:List (Addr×Obj)}{σ:St}{H:Hp}{s:Shared}{l b:Addr}{xs ys zs:List V}
theorem Inv.lset {its its':List Value}{n:Nat}{f:Array Value->Array Value}{t':Nat} (I:Inv X pins σ H s) (hH:H l=some (.lst xs))
  (e:s.heap.get? l=some { cls:=.type "list",data:=.seq its.toArray n }) (hf:f its.toArray=its'.toArray) (hv:q1x ys its') (hz:ys.length<=sizeLine) :
  Inv X pins σ (upd H l (.lst ys)) { s with heap:=s.heap.update l (Obj.mapSeq f),toks:=t' }:=by
 have q:=PySem.IsL.update e f
 rw [hf] at q
 refine I.write (x:=l) (e:=l) (by rw [hH];exact trivial) (.inl rfl) (fun b' u hb hu=>(Heap.get?_update_other s.heap (Obj.mapSeq f) (Ne.symm hb)).trans hu) ⟨_,q⟩ ?_
 exact ⟨hz,its',_,hv,q⟩
theorem Inv.lnew {its:List Value}{t':Nat} (I:Inv X pins σ H s) (hv:q1x ys its) (hz:ys.length<=sizeLine) :
  Inv X pins σ (upd H s.heap.objs.size (.lst ys)) { s with heap:=s.heap.push { cls:=.type "list",data:=.seq its.toArray },toks:=t' } :=
 I.laid (fun _ _ q=>Heap.get?_push_of_some _ q) (Nat.le_refl _) ⟨hz,its,0,hv,Heap.get?_push_size _ rfl⟩
theorem Inv.fresh (I:Inv X pins σ H s):H s.heap.objs.size=none:=I.hok.fresh (Nat.le_refl _)
theorem Inv.lstM (I:Inv X pins σ H s) (hH:H l=some (.lst xs)):InM s.heap l xs:=by
 obtain ⟨z,its,n,r,e⟩:=I.hok l _ hH
 exact ⟨z,its,n,r,r.length,e⟩
theorem w0f {n:Nat} (h:n<=sizeLine):Builtin.List.listTooLong n=false:=by
 unfold Builtin.List.listTooLong
 exact decide_eq_false (by omega)
end
section
variable {X:Cx}
inductive w4V (x:V) (vs:List V) (H:Hp) (Q:VK):Prop
 | mk (l xs y:_) (h0:x=.ref l) (h1:vs=[y]) (h2:H l=some (.lst xs)) (h3:xs.length<sizeLine) (h4:Q .non (upd H l (.lst (xs++[y])))):w4V  x vs H Q
def x1U:V->List V->Hp->VK->Prop:=w4V
theorem w1o:MtM X "list.append" x1U:=by
 intro pins s σ H x vs v us Q I rx rv h
 obtain ⟨l,xs,y,rfl,rfl,hH,hz,q⟩:=h
 cases rx
 obtain ⟨u,rfl,ru⟩:=rv.one
 obtain ⟨z,its,n,r,hl,e⟩:=I.lstM hH
 refine call_meets F.slot_list_append ⟨_,e,rfl⟩ F.entry_list_append (F.args_list_append_2 _ _) (PySem.list_append l its.toArray n u (by rw [List.size_toArray];omega)) ⟨e,?_⟩
 refine ⟨.non,_,I.lset (its':=its++[u]) hH e (by simp) (r.append (.cons ru .nil)) ?_,rfl,q⟩
 rw [List.length_append,List.length_singleton]
 omega
inductive w4W (x:V) (vs:List V) (H:Hp) (Q:VK):Prop
 | mk (l b xs zs:_) (h0:x=.ref l) (h1:vs=[.ref b]) (h2:H l=some (.lst xs)) (h3:H b=some (.lst zs)) (h4:xs.length + zs.length<=sizeLine) (h5:Q .non (upd H l (.lst (xs++zs)))):w4W  x vs H Q
def x1V:V->List V->Hp->VK->Prop:=w4W
theorem w1p:MtM X "list.extend" x1V:=by
 intro pins s σ H x vs v us Q I rx rv h
 obtain ⟨l,b,xs,zs,rfl,rfl,hH,hB,hz,q⟩:=h
 cases rx
 obtain ⟨u,rfl,ru⟩:=rv.one
 cases ru
 obtain ⟨z,its,n,r,hl,e⟩:=I.lstM hH
 obtain ⟨z2,its2,n2,r2,hl2,e2⟩:=I.lstM hB
 have hsz:its.toArray.size + its2.toArray.size<=sizeLine:=by rw [List.size_toArray,List.size_toArray];omega
 have hlong:¬ (!its.toArray.isEmpty && Builtin.List.listTooLong (its.toArray.size + its2.toArray.size))=true:=by
  rw [w0f hsz,Bool.and_false]
  exact Bool.false_ne_true
 refine call_meets F.slot_list_extend ⟨_,e,rfl⟩ F.entry_list_extend (F.args_list_extend_2 _ _)
  (AutoSeq1.list_extend_list_list_0 l its.toArray n b its2.toArray n2 hlong (by rw [List.size_toArray];omega) (by omega)) ⟨e,e2,?_⟩
 refine ⟨.non,_,I.lset (its':=its++its2) hH e (by simp) (r.append r2) ?_,rfl,q⟩
 rw [List.length_append]
 omega
def x7B:R2:=fun x y H Q=>∃ l k xs,x=.ref l/\y=.int k/\H l=some (.lst xs)/\-(2 ^ 63)<=k/\k<2 ^ 63/\xs.length * k.toNat<=sizeLine /\
 ∀ p,H p=none->Q (.ref p) (upd H p (.lst (List.replicate k.toNat xs).flatten))
theorem x1W {α:Type} (xs:List α) (k:Nat):(List.replicate k xs).flatten.length=k * xs.length:=by
 induction k with
 | zero=>simp
 | succ k ih=>rw [List.replicate_succ,List.flatten_cons,List.length_append,ih,Nat.succ_mul,Nat.add_comm]
theorem x3U:OpR X (binaryOp .Mult) x7B:=by
 intro pins s σ H x y v u Q I rx ry h
 obtain ⟨l,k,xs,rfl,rfl,hH,h1,h2,hz,q⟩:=h
 cases rx
 obtain ⟨t,rfl⟩:=ry
 obtain ⟨z,its,n,r,hl,e⟩:=I.lstM hH
 have hlen:its.toArray.size * k.toNat<=sizeLine:=by rw [List.size_toArray,<- hl];exact hz
 have hcap:¬ its.toArray.size * k.toNat > (2 ^ 63 - 1) / 8:=by
  have:(sizeLine:Nat)<=(2 ^ 63 - 1) / 8:=by decide
  omega
 have hfit:¬ (!Builtin.List.listFitsIndex k)=true:=by
  rw [fitsIndex_both h1 h2]
  exact Bool.false_ne_true
 have hlong:¬ Builtin.List.listTooLong (its.toArray.size * k.toNat)=true:=by
  rw [w0f hlen]
  exact Bool.false_ne_true
 have hnew:List.foldl (fun x1 x2=>x1++x2) #[] (List.replicate (if its.toArray.isEmpty=true then 0 else k.toNat) its.toArray)=(List.replicate k.toNat its).flatten.toArray:=by
  have f0:∀ m:Nat,List.foldl (fun x1 x2=>x1++x2) #[] (List.replicate m its.toArray)=(List.replicate m its).flatten.toArray:=fun m=>by
   have:=w1n its m []
   rw [List.nil_append] at this
   exact this
  rw [f0]
  cases its with
  | nil=>simp
  | cons a r'=>rw [if_neg (by simp)]
 refine wpAny_binaryOp_repeat_ref (T:="list") (U:="int") (by decide) ⟨_,e,rfl⟩ (fun s'=>typeIs_int s' k t) noFill_list_mul F.fills_int_mul F.slot_int_rmul repeat_list F.slot_int_index.lookup
  (call_meets F.slot_int_rmul (typeIs_int s k t) F.entry_int_rmul (F.args_int_rmul_2 _ _) (int___rmul___int_list k t l its.toArray n)
   ⟨e,rfl,⟨_,e,rfl⟩,call_meets F.slot_list_mul ⟨_,e,rfl⟩ F.entry_list_mul (F.args_list_mul_2 _ _) (AutoListH.list___mul___list_int_3 l its.toArray n k t hfit hcap hlong) ⟨e,?_⟩⟩)
 rw [hnew]
 exact ⟨.ref _,_,I.lnew (t':=s.toks) (r.rep k.toNat) (by rw [x1W,Nat.mul_comm];exact hz),rfl,q _ I.fresh⟩
end
section
variable {prog:Program}{w:World}{A:Around}{E:Value->Shared->Prop}{s:Shared}
end
section
variable {X:Cx}
end
end L2
namespace Att
open PySem PySem.W PySem.Calls PyProof.Rows
theorem q80 {P:Params}{h:Heap}:∀ (ns:List Int) (vs:List Value),WellAll P h vs (ns.map WData.int)->IntsAre vs ns:=by
 intro ns
 induction ns with
 | nil =>
  intro vs w
  rw [List.map_nil] at w
  cases w
  exact .nil
 | cons n ns ih =>
  intro vs w
  rw [List.map_cons] at w
  cases w with
  | cons a b =>
   cases a
   exact .cons _ _ (ih _ b)
theorem w7i {l:OpenLaw}{n:Nat} (hn:l.most=some n) {P:Params}{h:Heap}{args:List WData}{vals:List Value}
  (hpre:l.row.toRowW.claim.pre args=true) (hwl:WellAll P h vals args) :
  ∃ a vs ns,vals=[Value.ref a]/\args=[WData.list (ns.map WData.int)]/\h.get? a=some { cls:=.type "list",data:=.seq vs.toArray }/\IntsAre vs ns/\ns.length<=n:=by
 have hsh:WShape.hasAll [] args [.list .int]=true:=(pre_splitW hpre).1
 have hc:l.pre.holds [] { args:=args }=true:=(pre_splitW hpre).2
 obtain ⟨d,r,rfl,h1,h2⟩:=hasAllW_cons hsh
 obtain rfl:=hasAllW_nil h2
 obtain ⟨xs,rfl,h3⟩:=hasW_list h1
 obtain ⟨ns,rfl⟩:=items_int h3
 have hlen:ns.length<=n:=by
  unfold OpenLaw.pre at hc
  have h4:(WTm.not (.lt (.lit (.int (n:Int))) (.len (.arg 0)))).holds [] { args:=[.list (ns.map .int)] }=true:=by
   have h4:=(holds_andW hc).1
   rw [hn] at h4
   exact h4
  have h5:=condW_of h4 (w_not (w_lt w_lit (w_len_list (w_arg rfl))))
  rw [List.length_map] at h5
  refine Nat.le_of_not_lt fun q=>?_
  have q':(n:Int)<((ns.length:Nat):Int):=by omega
  first
   | (rw [decide_eq_true q'] at h5;exact absurd h5 (by decide))
   | (simp at h5;omega)
 cases hwl with
 | cons w1 w2 =>
  cases w2
  cases w1 with
  | list ho hall=>exact ⟨_,_,ns,rfl,rfl,ho,q80 ns _ hall,hlen⟩
theorem w7j (l:OpenLaw) (args:List WData):l.row.toRowW.claim.post args (.bool true) args=true :=
 postW_of (r:=l.row.toRowW) (X:=(true == true))
  (show WShape.has [] (.bool true) .bool=true by first | rfl | decide | simp [WShape.has,WShape.arms,WShape.armsAll])
  (show (WTm.eq .res (.lit (.bool true))).value [] { args:=args,res:=some (.bool true),after:=args }=some (.bool (true == true)) from w_eq_bool (w_res rfl) w_lit) rfl
theorem attach_call {l:OpenLaw}{n:Nat}{q:Program}{loose:List Str}{XP:(Str->Option Value)->Heap->Prop}{YP:World->Heap->Prop}{d:DefRec}
  (hn:l.most=some n) (hdf:d.params.defaults=[])
  (call:∀ (w:World) (s₀ s₁:Shared) (mg mb:Str->Option Value) (fa:Addr) (o:Obj) (pm cd doc:Value) (a:Addr) (vs:List Value) (ns:List Int),
   Ground q loose [] XP w s₀ mg mb s₁.heap->YP w s₁.heap ->
   s₁.heap.get? fa=some o->o.data=.func (docDef d.name d.params d.body d.scope pm cd doc)->s₁.heap.CodeRec cd d.name->mg d.name=some (.ref fa) ->
   s₁.heap.get? a=some { cls:=.type "list",data:=.seq vs.toArray }->IntsAre vs ns->ns.length<=n->s₁.gens=#[] ->
   codeAny (model l.prog w) callerA (.call (.ref fa) ⟨[.ref a],[]⟩) (fun r s'=>r=.ok (.ret (.bool true))/\OldK s₁.heap s'.heap/\s'.os=s₁.os/\AllBare s'.gens) s₁) :
  WalkO q loose XP YP l.row.toRowW d [] (fun f vs=>PySem.call f vs):=by
 intro w s₀ s₁ mg mb G Y fa o pm cd doc dV kV ho hd hcd hD hmg hg args vals as hpre hlay hrd hwl hlo
 obtain rfl:dV=.none:=Dflts.none hD hdf
 obtain rfl:kV=.none:=Dflts.noKw hD
 obtain ⟨a,vs,ns,rfl,rfl,hobj,hints,hlen⟩:=w7i hn hpre hwl
 refine enter_call (codeAny_mono (call w s₀ s₁ mg mb fa o pm cd doc a vs ns G Y ho (fd_plain hd) hcd hmg hobj hints hlen hg) fun r s' hq=>?_)
 obtain ⟨rfl,h2,h3,h4⟩:=hq
 exact ⟨.inl ⟨.bool true,.bool true,[],rfl,fun _=>rfl,.bool true,w7j l _,fun _=>⟨List.Pairwise.nil,fun _ hm=>(nomatch hm)⟩⟩,h2,h3,h4⟩
section
variable {prog:Program}{w:World}{A:Around}{E:Value->Shared->Prop}{s:Shared}{K:Frag}
def x6F (h:Heap) (L d:Addr):List (Addr×Obj):=(List.range h.objs.size).filterMap fun a=>if a=L\/a=d then none else (h.get? a).map fun o=>(a,o)
end
end Att
namespace L2
open PySem PySem.Spec PyProof.Rows
theorem w7k {vs:List Value}{ns:List Int} (h:IntsAre vs ns):q1x (ns.map V.int) vs:=by
 induction h with
 | nil=>exact .nil
 | cons n t h ih=>exact .cons ⟨t,rfl⟩ ih
def x61 (H:Hp):Prop:=∀ b,H b=none\/∃ o xs,H b=some (.frz o (.lst xs))
theorem w9f {P:Program}{w:World}{K:PySem.W.Frag}{mg mb:Str->Option Value}{CX:CXT}{k:Nat}{fa a:Addr}{fd:FuncData}{x:Str}{sp:Sp}{s₁:Shared}{vs:List Value}{ns:List Int}
  (KX:K.In s₁.heap) (hns:s₁.heap.Ns mainGlobals mg) (hb:s₁.heap.Ns builtinsNs mb) (hbb:∀ x:Str,x≠"__name__"->mb x=bootBuiltins x) (hlim:s₁.heap.NoLimit) (hg:s₁.gens=#[])
  (ha:s₁.heap.get? a=some { cls:=.type "list",data:=.seq vs.toArray }) (hi:IntsAre vs ns) (hl:ns.length<=sizeLine) (hr:q6d k callerA)
  (F:∀ base:Heap,K.In base->base.Ns mainGlobals mg->w2R P w K mg base CX k fa fd [x] sp) (hbind:∀ (s:Shared) (u:Value),BindsTo s fd ⟨[u],[]⟩ [(x,u)])
  (hsp:∀ H:Hp,x61 H->SqL K H a (ns.map V.int)->sp [.ref a] H (fun v _=>v=.bl true) fun _ _ _=>False)
  (hCX:∀ H e s',CX [] H s₁ (fun _ _ _=>False) e s'->False) :
  codeAny (model P w) callerA (.call (.ref fa) ⟨[.ref a],[]⟩) (fun r s'=>r=.ok (.ret (.bool true))/\OldK s₁.heap s'.heap/\s'.os=s₁.os/\AllBare s'.gens) s₁:=by
 have rv:=w7k hi
 have lenV:=hi.length
 have core:∀ H:Hp,x61 H->SqL K H a (ns.map V.int)->HOk P w H s₁.heap->(∀ b,H b≠none->b=a)->(H a≠none->K.lookup a=none) ->
   codeAny (model P w) callerA (.call (.ref fa) ⟨[.ref a],[]⟩) (fun r s'=>r=.ok (.ret (.bool true))/\OldK s₁.heap s'.heap/\s'.os=s₁.os/\AllBare s'.gens) s₁:=by
  intro H hO hS hok hA hK
  have base_of:∀ {b:Addr}{o:Obj},s₁.heap.get? b=some o->H b=none->(w93 s₁.heap H).get? b=some o:=fun e n=>w94 e n
  have noA:∀ {b:Addr}{o:Obj}{es:Array DictEntry}{ep:Nat},s₁.heap.get? b=some o->o.data=.dict es ep->H b=none:=fun {b o es ep} e d=>by
   cases q:H b with
   | none=>rfl
   | some u =>
    have e':b=a:=hA b (by rw [q];simp)
    subst e'
    rw [ha] at e;cases e
    have d':Data.seq vs.toArray _=Data.dict es ep:=d
    cases d'
  have nsK:∀ {b:Addr}{m:Str->Option Value},s₁.heap.Ns b m->(w93 s₁.heap H).Ns b m:=fun {b m} ⟨o,es,ep,e,d,r⟩=>⟨o,es,ep,base_of e (noA e d),d,r⟩
  have hKb:K.In (w93 s₁.heap H):=fun b o e=>base_of (KX b o e) (by
   cases q:H b with
   | none=>rfl
   | some u =>
    have e':b=a:=hA b (by rw [q];simp)
    subst e'
    rw [hK (by rw [q];simp)] at e;cases e)
  have hM:Mod K mg (w93 s₁.heap H):=⟨hKb,nsK hns,⟨mb,nsK hb,hbb⟩,let ⟨mc,h1,h2⟩:=hlim;⟨mc,nsK h1,h2⟩⟩
  have e0:x1M P w K mg (w93 s₁.heap H) callerA [] s₁ H:=⟨rfl,hM,fun b o e=>x1z e,Nat.le_of_eq (w71 _ _),trivial,fun b hb=>absurd (show b∈([] : List Addr) from hb) (by simp),hok,.of_eq hg⟩
  refine codeAny_mono ((F _ hKb (nsK hns)).run callerA [] s₁ H ⟨[.ref a],[]⟩ [.ref a] [.ref a] _ _ hr e0 (hbind s₁ (.ref a)) (.cons rfl .nil) (hsp H hO hS)) fun r s' h=>?_
  cases r with
  | error e=>exact (hCX H e s' h).elim
  | ok fl =>
   cases fl with
   | next=>exact False.elim h
   | brk=>exact False.elim h
   | cont=>exact False.elim h
   | ret u =>
    obtain ⟨v,H',os,bare,un,hok',r',q⟩:=h
    have q':v=.bl true:=q
    subst q'
    obtain rfl:u=Value.bool true:=r'
    refine ⟨rfl,OldK.of_keep fun b o e=>?_,os,bare⟩
    cases q:H b with
    | none=>exact un.keep b o e q (by intro z;exact absurd (show b∈([] : List Addr) from z) (by simp)) (by simp)
    | some u =>
     rcases hO b with z | ⟨ob,xs,z⟩
     ·rw [q] at z;cases z
     ·have z2:=un.frzs b ob _ z
      obtain ⟨e1,_⟩:=hok b _ z
      obtain ⟨e2,_⟩:=hok' b _ z2
      rw [e] at e1;cases e1
      exact e2
 cases hk:K.lookup a with
 | some o =>
  have e:=KX a o hk
  rw [ha] at e
  cases e
  refine core (fun _=>none) (fun _=>.inl rfl) (.inr ⟨_,vs.toArray,_,hk,rfl,rfl,rfl,by rw [List.size_toArray,lenV];exact hl,by simpa using rv⟩) (fun b u z=>by have z':(none:Option HO)=some u:=z;cases z') (fun b z=>absurd rfl z) fun z=>absurd rfl z
 | none =>
  refine core (fun b=>if b=a then some (.frz { cls:=.type "list",data:=.seq vs.toArray } (.lst (ns.map V.int))) else none) (fun b=>?_) (.inl (.inr ⟨{ cls:=.type "list",data:=.seq vs.toArray },if_pos rfl⟩)) (fun b u z=>?_) (fun b z=>?_) fun _=>hk
  ·by_cases hb:b=a
   ·exact .inr ⟨_,_,if_pos hb⟩
   ·exact .inl (if_neg hb)
  ·by_cases hb:b=a
   ·have z':=(if_pos hb).symm.trans z
    cases z'
    subst hb
    exact ⟨ha,by rw [List.length_map];exact hl,vs,_,rv,ha⟩
   ·have z':=(if_neg hb).symm.trans z
    cases z'
  ·by_cases hb:b=a
   ·exact hb
   ·exact absurd (if_neg hb) z
end L2
namespace L2
open PySem PySem.Spec PyProof.Rows
abbrev KOf {K:PySem.W.Frag}{h:Heap} (_:K.In h):PySem.W.Frag:=K
theorem w7l {l:PySem.W.OpenLaw}{n k:Nat}{q:Program}{loose:List Str}{XP:(Str->Option Value)->Heap->Prop}{YP:World->Heap->Prop}{d:DefRec}{K:Params->PySem.W.Frag}{CX:World->CXT}{sp:World->Sp}{x:Str}
  (hn:l.most=some n) (hn2:n<=sizeLine) (hdf:d.params.defaults=[]) (hr:q6d k callerA)
  (hY:∀ (w:World) (h:Heap),YP w h->(K w.params).In h)
  (F:∀ (w:World) (mg:Str->Option Value) (fa:Addr) (h:Heap),(K w.params).In h->h.Ns mainGlobals mg->mg d.name=some (.ref fa) ->
   ∃ fd:FuncData,(∀ (s:Shared) (u:Value),BindsTo s fd ⟨[u],[]⟩ [(x,u)]) /\
    ∀ base:Heap,(K w.params).In base->base.Ns mainGlobals mg->w2R l.prog w (K w.params) mg base (CX w) k fa fd [x] (sp w))
  (hsp:∀ (w:World) (H:Hp) (a:Addr) (ns:List Int),ns.length<=n->x61 H->SqL (K w.params) H a (ns.map V.int)->sp w [.ref a] H (fun v _=>v=.bl true) fun _ _ _=>False)
  (hCX:∀ (w:World) (H:Hp) (s:Shared) (e:Value) (s':Shared),CX w [] H s (fun _ _ _=>False) e s'->False) :
  PySem.W.WalkO q loose XP YP l.row.toRowW d [] (fun f vs=>PySem.call f vs):=by
 refine Att.attach_call hn hdf fun w s₀ s₁ mg mb fa o pm cd doc a vs ns G Y ho hd hcd hmg hobj hints hlen hg=>?_
 have KX:=hY w _ Y
 obtain ⟨fd,hb,hF⟩:=F w mg fa _ KX G.T.g hmg
 exact w9f KX G.T.g G.T.b G.T.builtins G.T.nolimit hg hobj hints (Nat.le_trans hlen hn2) hr hF hb (fun H hO hS=>hsp w H a ns hlen hO hS) fun H e s'=>hCX w H s₁ e s'
end L2
/- THE LAST THEOREM (shape;LID,My.* are yours):
  My.Adr: a structure of the addresses that your layer names (classes,functions);My.Txt K t: a structure (Prop) of the equations over K;
  My.txt_mk:{K}{implicit addresses ..} (e1:nsIn K mainGlobals "law"=some (some (.ref f))) (e2:K.lookup f=some ⟨oc,od,.func (fnOf "law" "law" params body scope dV kV doc pm an cdv ct),sl⟩) (e3:codeIn K cdv "law"=true) .. : ∃ t,My.Txt K t
theorem PySem.Challenge.cw_LID_holds : PySem.Challenge.rw_LID.Holds := by
 w_on;o_law;k_head;(case hw=>w_witness2)
 k_fill
 refine L2.w7l (l:=PySem.Challenge.rw_LID) (n:=63) (k:=40) (x:="script") (CX:=fun w=>..) (sp:=fun _=>My.sp_law) rfl (by decide) rfl ⟨rfl,by decide,by decide⟩ (fun w h Y=>PySem.W.kIn_of Y) ?F ?S ?C
 case F =>
  intro w mg fa h KX G hmg
  have T:∃ t,My.Txt (L2.KOf KX) t:=by
   dsimp only [L2.KOf]                          -- K must stand as «<heap const> w.params» for k_is
   refine' My.txt_mk ?e1 ?e2 ?e3 ..
   (case e1=>PySem.W.k_is)                    -- in the order: a name->its address->its object->its parts
   (case e2=>PySem.W.k_is)
   ..
  obtain ⟨t,T⟩:=T
  have e0:=hmg.symm.trans (PySem.W.mg_of KX G T.law)
  cases e0                                       -- fa is the law's own address
  exact ⟨_,fun s u=>.of_eq rfl,fun base kb nb=>My.law_fn T kb nb⟩     -- if «.of_eq rfl» comes too early: refine' ⟨_,?b,fun base kb nb=>My.law_fn T kb nb⟩;exact fun s u=>.of_eq rfl
 case S=>exact fun w H a ns hl hO hS=>..
 case C=>exact ..
(the tactic k_is has no namespace: write k_is) -/
namespace L2
open PySem PySem.Spec PyProof.Rows
def q0E (s:Stmt):Arguments:=match s with
 | .FunctionDef _ a _ _ _ _ _ _ _ _=>a
 | _=>{ posonlyargs:=[],args:=[],vararg:=none,kwonlyargs:=[],kw_defaults:=[],kwarg:=none,defaults:=[] }
def q0x (s:Stmt):List Stmt:=match s with
 | .FunctionDef _ _ b _ _ _ _ _ _ _=>b
 | _=>[]
def q03 (s:Stmt):Scope:=match s with
 | .FunctionDef _ _ _ _ _ _ sc _ _ _=>sc
 | _=>{ kind:=.function,names:=[],isGenerator:=false,isCoroutine:=false }
abbrev CX0:CXT:=fun _ _ _ _ _ _=>False
abbrev E0:XK:=fun _ _ _=>False
structure Fun (K:PySem.W.Frag) (x qual:Str) (st:Stmt) (f:Addr) (fd:FuncData):Prop where
 ex:∃ (oc:Value) (od:Option Addr) (kV doc pm:Value) (an:Option Addr) (cdv ct:Value) (osl:Array (Option Value)),
  fd=PySem.W.fnOf x qual (q0E st) (q0x st) (q03 st) .none kV doc pm an cdv ct/\K.lookup f=some ⟨oc,od,.func fd,osl⟩/\PySem.W.codeIn K cdv qual=true
 kp:PySem.W.keepIn K (.ref f)=true
section
variable {P:Program}{w:World}{K:PySem.W.Frag}{mg:Str->Option Value}{base:Heap}
theorem Fun.binds {x qual:Str}{st:Stmt}{f:Addr}{fd:FuncData}{ps:List Str} (F:Fun K x qual st f fd)
  (h:∀ (kV doc pm:Value) (an:Option Addr) (cdv ct:Value) (us:List Value),us.length=ps.length->bindArgs (PySem.W.fnOf x qual (q0E st) (q0x st) (q03 st) .none kV doc pm an cdv ct) ⟨us,[]⟩=pure (ps.zip us)):q1p K fd ps []:=by
 obtain ⟨oc,od,kV,doc,pm,an,cdv,ct,osl,rfl,lk,hcd⟩:=F.ex
 exact .all (h kV doc pm an cdv ct)
theorem q1c {x qual:Str}{st:Stmt}{f:Addr}{oc:Value}{od an:Option Addr}{osl:Array (Option Value)}{kV doc pm cdv ct:Value} (l:K.lookup f=some ⟨oc,od,.func (PySem.W.fnOf x qual (q0E st) (q0x st) (q03 st) .none kV doc pm an cdv ct),osl⟩)
  (c:PySem.W.codeIn K cdv qual=true) (k:PySem.W.keepIn K (.ref f)=true):Fun K x qual st f (PySem.W.fnOf x qual (q0E st) (q0x st) (q03 st) .none kV doc pm an cdv ct):=⟨⟨oc,od,kV,doc,pm,an,cdv,ct,osl,rfl,l,c⟩,k⟩
end
theorem q2N {A:Around}{k:Nat} (hr:q6d k A):A.units + 1<cLine:=Nat.lt_of_le_of_lt (Nat.add_le_add_left (by decide:1<=64) _) hr.units
theorem q0u {n:Nat} (h:n<=1000):n<sizeLine:=Nat.lt_of_le_of_lt h (by decide)
section
variable {X:Cx}
theorem pv (i:Nat) {x:Str}{pos:Pos} (hN:X.N[i]?=some x:=by rfl) (hv:Vis X.env.scope x:=by first | exact Or.inl rfl | exact Or.inr (Or.inl rfl) | exact Or.inr (Or.inr rfl)) (hd:(x == ("__debug__" : Str))=false:=by decide)
  (hcd:(x == ("__classdict__" : Str))=false:=by decide):PE X (.Name x pos) (x3d i):=q5C hN hv hd hcd
end
theorem w90 {A B:Prop} (h:B):if false=true then A else B:=by
 rw [if_neg Bool.false_ne_true]
 exact h
theorem x0t {A B:Prop} (h:A):if true=true then A else B:=by
 rw [if_pos rfl]
 exact h
def q29 (H H':Hp):Prop:=∀ b o,H b=some o->H' b=some o
theorem q29.refl (H:Hp):q29 H H:=fun _ _ h=>h
theorem q29.trans {H H1 H2:Hp} (a:q29 H H1) (b:q29 H1 H2):q29 H H2:=fun c o h=>b c o (a c o h)
theorem q29.free {H H':Hp} (e:q29 H H') {l:Addr} (h:H' l=Option.none):H l=Option.none:=by
 cases q:H l with
 | none=>rfl
 | some o =>
  rw [e l o q] at h
  cases h
theorem q29.seq {K:PySem.W.Frag}{H H':Hp}{a:Addr}{xs:List V} (e:q29 H H') (h:SqL K H a xs):SqL K H' a xs:=by
 rcases h with (h | ⟨o,h⟩) | h
 ·exact .inl (.inl (e _ _ h))
 ·exact .inl (.inr ⟨o,e _ _ h⟩)
 ·exact .inr h
end L2
end
section
namespace L2
open PySem PySem.Spec PyProof.Rows
section
variable {κ:Type} [DecidableEq κ]
def w4X (kvs:List (κ×V)) (k:κ):Option V:=(kvs.find? fun kv=>decide (kv.1=k)).map (·.2)
def w5N (kvs:List (κ×V)) (k:κ) (v:V):List (κ×V) :=
 if (kvs.any fun kv=>decide (kv.1=k))=true then kvs.map (fun kv=>if kv.1=k then (kv.1,v) else kv) else kvs++[(k,v)]
def x1X (kvs:List (κ×V)) (k:κ):List (κ×V):=kvs.filter fun kv=>decide (kv.1≠k)
theorem w0g {p:κ×V}{r:List (κ×V)}{k:κ} (e:p.1=k):w4X (p::r) k=some p.2:=by simp [w4X,List.find?_cons,e]
theorem w0h {p:κ×V}{r:List (κ×V)}{k:κ} (e:¬ p.1=k):w4X (p::r) k=w4X r k:=by simp [w4X,List.find?_cons,e]
theorem w4Y (k:κ):∀ kvs:List (κ×V),(kvs.any fun kv=>decide (kv.1=k))=(w4X kvs k).isSome
 | []=>rfl
 | p::r=>by
  rw [List.any_cons]
  by_cases e:p.1=k
  ·simp only [w0g e,decide_eq_true e,Bool.true_or,Option.isSome_some]
  ·rw [w0h e,decide_eq_false e,Bool.false_or];exact w4Y k r
theorem q81 (kvs:List (κ×V)) (k:κ) (v:V):(w5N kvs k v).length<=kvs.length + 1:=by
 unfold w5N
 split
 ·rw [List.length_map];omega
 ·rw [List.length_append,List.length_cons,List.length_nil];omega
theorem w70.isSome_eq {o:Option V}{u:Option Value} (r:w70 o u):o.isSome=u.isSome:=by
 cases o with
 | none=>cases u with
  | none=>rfl
  | some _=>exact (show False from r).elim
 | some _=>cases u with
  | none=>exact (show False from r).elim
  | some _=>rfl
theorem KV.val {kvs:List (κ×V)}{vs:List (κ×Value)} (r:KV kvs vs) (k:κ):w70 (w4X kvs k) (valueAt vs k):=by
 unfold KV at r
 induction r with
 | nil=>exact True.intro
 | @cons p q ps qs h t ih =>
  obtain ⟨h1,h2⟩:=h
  by_cases e:p.1=k
  ·have e':q.1=k:=h1.symm.trans e
   have b:valueAt (q::qs) k=some q.2:=by simp [valueAt,List.find?_cons,e']
   rw [w0g e,b];exact h2
  ·have e':¬ q.1=k:=fun z=>e (h1.trans z)
   have b:valueAt (q::qs) k=valueAt qs k:=by simp [valueAt,List.find?_cons,e']
   rw [w0h e,b];exact ih
theorem KV.any {kvs:List (κ×V)}{vs:List (κ×Value)} (r:KV kvs vs) (k:κ):(kvs.any fun kv=>decide (kv.1=k))=vs.any fun kv=>decide (kv.1=k):=by
 unfold KV at r
 induction r with
 | nil=>rfl
 | cons h t ih=>rw [List.any_cons,List.any_cons,ih,h.1]
theorem KV.repl {kvs:List (κ×V)}{vs:List (κ×Value)} (r:KV kvs vs) (k:κ) {y:V}{u:Value} (ry:q1Q y u) :
  KV (kvs.map fun kv=>if kv.1=k then (kv.1,y) else kv) (vs.map fun kv=>if kv.1=k then (kv.1,u) else kv):=by
 unfold KV at r ⊢
 induction r with
 | nil=>exact .nil
 | @cons p q ps qs h t ih =>
  rw [List.map_cons,List.map_cons]
  refine .cons ?_ ih
  obtain ⟨h1,h2⟩:=h
  by_cases e:p.1=k
  ·rw [if_pos e,if_pos (h1.symm.trans e)];exact ⟨h1,ry⟩
  ·rw [if_neg e,if_neg (fun z=>e (h1.trans z))];exact ⟨h1,h2⟩
theorem KV.put {kvs:List (κ×V)}{vs:List (κ×Value)} (r:KV kvs vs) (k:κ) {y:V}{u:Value} (ry:q1Q y u):KV (w5N kvs k y) (stored vs k u):=by
 unfold w5N stored
 rw [r.any k]
 by_cases e:(vs.any fun kv=>decide (kv.1=k))=true
 ·rw [if_pos e,if_pos e];exact r.repl k ry
 ·rw [if_neg e,if_neg e];exact Paired.snoc r ⟨rfl,ry⟩
theorem KV.length {kvs:List (κ×V)}{vs:List (κ×Value)} (r:KV kvs vs):kvs.length=vs.length:=Paired.length r
end
theorem x1Y {P:Program}{w:World}{k:Key}{u:Value} (r:q1Q (kV k) u):(q2a P w).is k u=true:=by
 cases k with
 | inl i=>obtain ⟨t,e⟩:=(show ∃ t,u=Value.int i t from r);subst e;exact w2V P w i t
 | inr x=>obtain ⟨t,e⟩:=(show ∃ t,u=Value.str x t from r);subst e;exact w2W P w x t
theorem w1q {P:Program}{w:World}:∀ {ks:List Key}{us:List Value},q1x (ks.map kV) us->ItemsAre (q2a P w) ks us
 | [],_,r=>by rw [List.map_nil] at r;cases r;exact .nil
 | k::ks,_,r=>by
  rw [List.map_cons] at r
  cases r with
  | cons h t=>exact .cons (x1Y h) (w1q t)
abbrev KT (H:Hp):List (List Key×V)->List (List Key×Addr×Value)->Prop:=Paired fun p q=>p.1=q.1/\H q.2.1=some (.tup (p.1.map kV))/\q1Q p.2 q.2.2
theorem KT.val {H:Hp}{kvs:List (List Key×V)}{xs:List (List Key×Addr×Value)} (r:KT H kvs xs) (k:List Key):w70 (w4X kvs k) ((atKey xs k).map (·.2)):=by
 induction r with
 | nil=>exact True.intro
 | @cons p q ps qs h t ih =>
  obtain ⟨h1,_,h2⟩:=h
  by_cases e:p.1=k
  ·have e':q.1=k:=h1.symm.trans e
   have b:atKey (q::qs) k=some q.2:=by simp [atKey,List.find?_cons,e']
   rw [w0g e,b];exact h2
  ·have e':¬ q.1=k:=fun z=>e (h1.trans z)
   have b:atKey (q::qs) k=atKey qs k:=by simp [atKey,List.find?_cons,e']
   rw [w0h e,b];exact ih
theorem KT.repl {H:Hp}{kvs:List (List Key×V)}{xs:List (List Key×Addr×Value)} (r:KT H kvs xs) (k:List Key) {y:V}{u:Value} (ry:q1Q y u) :
  KT H (kvs.map fun kv=>if kv.1=k then (kv.1,y) else kv) (xs.map (putAt k u)):=by
 induction r with
 | nil=>exact .nil
 | @cons p q ps qs h t ih =>
  rw [List.map_cons,List.map_cons]
  refine .cons ?_ ih
  obtain ⟨h1,h2,h3⟩:=h
  unfold putAt
  by_cases e:p.1=k
  ·rw [if_pos e,if_pos (h1.symm.trans e)];exact ⟨h1,h2,ry⟩
  ·rw [if_neg e,if_neg (fun z=>e (h1.trans z))];exact ⟨h1,h2,h3⟩
theorem KT.put {H:Hp}{kvs:List (List Key×V)}{xs:List (List Key×Addr×Value)} (r:KT H kvs xs) (k:List Key) {b:Addr}{y:V}{u:Value} (hb:H b=some (.tup (k.map kV))) (ry:q1Q y u) :
  KT H (w5N kvs k y) (storedH xs k b u):=by
 have e:(kvs.any fun kv=>decide (kv.1=k))=(atKey xs k).isSome:=by
  rw [w4Y,(r.val k).isSome_eq,Option.isSome_map]
 unfold w5N storedH
 rw [e]
 by_cases q:(atKey xs k).isSome=true
 ·rw [if_pos q,if_pos q];exact r.repl k ry
 ·rw [if_neg q,if_neg q];exact Paired.snoc r ⟨rfl,hb,ry⟩
theorem KT.keeps {H H':Hp}{kvs:List (List Key×V)}{xs:List (List Key×Addr×Value)} (r:KT H kvs xs) (ht:∀ b ys,H b=some (.tup ys)->H' b=some (.tup ys)):KT H' kvs xs :=
 Paired.mapP r fun _ _ z=>⟨z.1,ht _ _ z.2.1,z.2.2⟩
section
variable {P:Program}{w:World}{H:Hp}{h:Heap}{a:Addr}
theorem x3V {u:HO} (ok:HOk P w H h) (e:Rd H a u):q1g P w H h a u:=e.ok ok
theorem x1Z {kvs:List (Key×V)} (ok:HOk P w H h) (e:Rd H a (.dK kvs)):kvs.length<=sizeLine/\(a == sysModules)=false/\∃ vs,KV kvs vs/\h.DictOf (q2a P w) a vs :=
 show q1g P w H h a (.dK kvs) from x3V ok e
theorem x62 {kvs:List (Key×V)} (ok:HOk P w H h) (e:H a=some (.dK kvs)):kvs.length<=sizeLine/\(a == sysModules)=false/\∃ vs,KV kvs vs/\h.DictOf (q2a P w) a vs:=x1Z ok (.inl e)
theorem w7m {ks:List Key} (ok:HOk P w H h) (e:H a=some (.tup (ks.map kV))):(tupleKind (q2a P w)).is h ks a:=by
 obtain ⟨_,its,r,o,h1,h2,n,h3⟩:=(show q1g P w H h a (.tup (ks.map kV)) from ok a _ e)
 exact ⟨o,its.toArray,n,h1,h2,h3,by simpa using w1q r⟩
theorem x20 {kvs:List (List Key×V)} (ok:HOk P w H h) (e:Rd H a (.dT kvs)):kvs.length<=sizeLine/\(a == sysModules)=false /\
  ∃ xs,KT H kvs xs/\h.DictOfH (tupleKind (q2a P w)) a xs:=by
 obtain ⟨z,y,xs,r,o,es,ep,h1,h2,h3,h4,h5⟩:=(show q1g P w H h a (.dT kvs) from x3V ok e)
 refine ⟨z,y,xs,r,o,es,ep,h1,h2,h3,h4,fun x hx=>?_,h5⟩
 have all:∀ {l:List (List Key×V)}{m:List (List Key×Addr×Value)},KT H l m->∀ x∈m,(tupleKind (q2a P w)).is h x.1 x.2.1:=by
  intro l m q
  induction q with
  | nil=>intro x hx;exact nomatch hx
  | @cons p q ps qs hq t ih =>
   intro x hx
   rcases List.mem_cons.mp hx with e | hx
   ·subst e
    exact w7m ok (by rw [<- hq.1];exact hq.2.1)
   ·exact ih x hx
 exact all r x hx
theorem x63 {kvs:List (List Key×V)} (ok:HOk P w H h) (e:H a=some (.dT kvs)):kvs.length<=sizeLine/\(a == sysModules)=false /\
  ∃ xs,KT H kvs xs/\h.DictOfH (tupleKind (q2a P w)) a xs:=x20 ok (.inl e)
end
def x3e (H:Hp) (a:Addr) (y:V) (r:Option V):Prop :=
 (∃ kvs k,Rd H a (.dK kvs)/\y=kV k/\r=w4X kvs k)\/∃ kvs k b,Rd H a (.dT kvs)/\y=.ref b/\H b=some (.tup (k.map kV))/\r=w4X kvs k
def x3W (H:Hp) (a:Addr) (y v:V) (H':Hp):Prop :=
 (∃ kvs k,H a=some (.dK kvs)/\y=kV k/\kvs.length<sizeLine/\H'=upd H a (.dK (w5N kvs k v))) \/
 ∃ kvs k b,H a=some (.dT kvs)/\y=.ref b/\H b=some (.tup (k.map kV))/\kvs.length<sizeLine/\H'=upd H a (.dT (w5N kvs k v))
theorem x3e.k {H:Hp}{a:Addr}{kvs:List (Key×V)}{k:Key} (e:H a=some (.dK kvs)):x3e H a (kV k) (w4X kvs k):=.inl ⟨kvs,k,.inl e,rfl,rfl⟩
theorem x3W.k {H:Hp}{a:Addr}{kvs:List (Key×V)}{k:Key}{v:V} (e:H a=some (.dK kvs)) (hl:kvs.length<sizeLine):x3W H a (kV k) v (upd H a (.dK (w5N kvs k v))):=.inl ⟨kvs,k,e,rfl,hl,rfl⟩
section
variable {X:Cx}{pins:List (Addr×Obj)}{σ:St}{H:Hp}{s:Shared}{a:Addr}{y v:V}{u r:Value}{o:Option V}{A:Around}{E:Value->Shared->Prop}
theorem Inv.big (I:Inv X pins σ H s):sysModules<s.heap.objs.size:=by
 have h:mainGlobals<s.heap.objs.size:=(I.mod.glob.keeps I.bk).lt
 exact Nat.lt_trans (by decide) h
theorem w7n {Q:Value->Shared->Prop} (hu:A.units + 1<cLine) (I:Inv X pins σ H s) (g:x3e H a y (some v)) (ry:q1Q y u) (h:∀ w' s',Inv X pins σ H s'->q1Q v w'->Q w' s') :
  wpAny (model X.prog X.w) A (getItem (.ref a) u) Q E s:=by
 rcases g with ⟨kvs,k,e,ey,l⟩ | ⟨kvs,k,b,e,ey,eb,l⟩
 ·subst ey
  obtain ⟨z,hd,vs,rel,dd⟩:=x1Z I.hok e
  obtain ⟨w',hw,rw'⟩:=w70.some_of (v:=v) (o:=valueAt vs k) (by rw [l];exact rel.val k)
  exact wpAny_getItem_of (x1Y ry) dd.mapOf hw (h w' _ (I.tok _) rw')
 ·subst ey
  cases (show u=Value.ref b from ry)
  obtain ⟨z,hd,xs,rel,dd⟩:=x20 I.hok e
  obtain ⟨w',hw,rw'⟩:=w70.some_of (v:=v) (o:=(atKey xs k).map (·.2)) (by rw [l];exact rel.val k)
  obtain ⟨p,hp,hp2⟩:=Option.map_eq_some_iff.mp hw
  refine wpAny_getItem_heap (tupleKind_room_in1 hu) (w7m I.hok eb) dd hp ?_
  rw [hp2]
  exact h w' _ (I.tok _) rw'
theorem w7o {h':Heap}{t':Nat}{ob:HO} (I:Inv X pins σ H s) (mu:Mut (H a)) (hs:Heap.SameBut a s.heap h') (he:∃ q,h'.get? a=some q) (new:q1g X.prog X.w (upd H a ob) h' a ob) :
  Inv X pins σ (upd H a ob) { s with heap:=h',toks:=t' } :=
 I.write (x:=a) (e:=a) mu (.inl rfl) (fun b q hb z=>(hs.2 b hb).trans z) he new
theorem x3X {P:Program}{w:World}{H':Hp}{h':Heap}{kvs:List (Key×V)}{vs:List (Key×Value)} (z:kvs.length<=sizeLine) (hd:(a == sysModules)=false) (rel:KV kvs vs) (dd:h'.DictOf (q2a P w) a vs) :
  q1g P w H' h' a (.dK kvs):=⟨z,hd,vs,rel,dd⟩
theorem w7p {H':Hp}{Q:Unit->Shared->Prop} (hu:A.units + 1<cLine) (I:Inv X pins σ H s) (g:x3W H a y v H') (ry:q1Q y u) (rv:q1Q v r) (h:∀ s',Inv X pins σ H' s'->Q () s') :
  wpAny (model X.prog X.w) A (setItem (.ref a) u r) Q E s:=by
 rcases g with ⟨kvs,k,e,ey,l,eH⟩ | ⟨kvs,k,b,e,ey,eb,l,eH⟩
 ·subst ey eH
  obtain ⟨z,hd,vs,rel,dd⟩:=x62 I.hok e
  have hz:vs.length<=sizeLine:=by rw [<- rel.length];exact z
  have hl:(w5N kvs k v).length<=sizeLine:=by have:=q81 kvs k v;omega
  refine wpAny_setItem_pairs (hsz:=hz) (x1Y ry) dd fun h' dd' hs=>h _ ?_
  have he:∃ q,h'.get? a=some q:=let ⟨q,_,_,hq,_⟩:=dd';⟨q,hq⟩
  exact w7o I (by rw [e];exact True.intro) hs he (x3X hl hd (rel.put k rv) dd')
 ·subst ey eH
  cases (show u=Value.ref b from ry)
  obtain ⟨z,hd,xs,rel,dd⟩:=x63 I.hok e
  have hz:xs.length<=sizeLine:=by rw [<- Paired.length rel];exact z
  have hl:(w5N kvs k v).length<=sizeLine:=by have:=q81 kvs k v;omega
  refine wpAny_setItem_heap (hsz:=hz) (tupleKind_room_in1 hu) (w7m I.hok eb) dd fun h' dd' hs=>h _ ?_
  obtain ⟨q,es,ep,hq,h2,h3,h4,_,h5⟩:=dd'
  refine w7o I (by rw [e];exact True.intro) hs ⟨q,hq⟩ ⟨hl,hd,_,(rel.put k eb rv).keeps fun c ys ec=>?_,q,es,ep,hq,h2,h3,h4,h5⟩
  rw [q0e (x5I ec e (fun z=>nomatch z))]
  exact ec
end
section
variable {X:Cx}{pins:List (Addr×Obj)}{σ:St}{H:Hp}{s:Shared}{a:Addr}{kvs:List (Key×V)}{k:Key}{u:Value}{A:Around}{E:Value->Shared->Prop}
end
def x6G (i:Expr):Prop:=∀ ov iv,subscripted i false ov iv=operate [ov,iv] (getItem ov iv)
theorem x21 {prog:Program}{w:World}{A:Around}{E:Value->Shared->Prop}{s:Shared}{env:Env}{value slice:Expr}{pos:Pos}{T id:String}{Q:Value->Shared->Prop}
  (hl:typeLookup (.type T) "__getitem__"=pure (some (.builtin id))) (hs:x6G slice)
  (h:wpAny (model prog w) A (eval value env) (fun o s₁=>wpAny (model prog w) A (eval slice env) (fun i s₂=>s₂.TypeIs o T/\wpAny (model prog w) A (getItem o i) Q E s₂) E s₁) E s) :
  wpAny (model prog w) A (eval (.Subscript value slice pos) env) Q E s:=by
 refine Subscript_ (wpAny_mono h (fun o s₁ h₁=>wpAny_mono h₁ (fun i s₂ h₂=>?_) fun _ _ x=>x) fun _ _ x=>x)
 obtain ⟨hT,h₂⟩:=h₂
 unfold subscriptTail
 refine wpAny_bind ?_
 rw [getitemInPython_of_ne hT.not_modules]
 refine wpAny_bind (wpAny_specialOf hT hl ?_)
 have fin:wpAny (model prog w) A (subscripted slice false o i) (fun r s₃=>wpAny (model prog w) A (letTemporaryGo value o r >>= fun _=>pure r) Q E s₃) E s₂:=by
  rw [hs o i]
  exact wpAny_operating (wpAny_mono h₂ (fun r s₃ h₃=>wpAny_bind (wpAny_letTemporaryGo (wpAny_pure h₃))) fun _ _ x=>x)
 first
  | exact wpAny_pure (wpAny_bind fin)
  | exact wpAny_bind (wpAny_pure (wpAny_bind fin))
  | exact wpAny_bind fin
theorem w32 {X:Cx}{pins:List (Addr×Obj)}{σ:St}{H:Hp}{s:Shared}{a:Addr}{y:V}{o:Option V} (I:Inv X pins σ H s) (g:x3e H a y o):s.TypeIs (.ref a) "dict":=by
 rcases g with ⟨kvs,k,e,_,_⟩ | ⟨kvs,k,b,e,_,_,_⟩
 ·obtain ⟨_,_,vs,_,dd⟩:=x1Z I.hok e
  exact dd.typeIs
 ·obtain ⟨_,_,xs,_,dd⟩:=x20 I.hok e
  exact dd.typeIs
def x64 (td ty:TE):TE:=fun σ H Q=>td σ H fun x H1=>ty σ H1 fun y H2=>∃ a v,x=.ref a/\x3e H2 a y (some v)/\Q v H2
def x3Y (td ty tv:TE):TS:=fun D σ H=>tv σ H fun v H1=>td σ H1 fun x H2=>ty σ H2 fun y H3=>∃ a H4,x=.ref a/\x3W H3 a y v H4/\D.nx σ H4
section
variable {X:Cx}{o i e value:Expr}{pos pos' tpos:Pos}{td ty tv:TE}
theorem x22 (hu:X.A.units + 1<cLine) (ho:PE X o td) (hi:PE X i ty) (hs:x6G i):PE X (.Subscript o i pos) (x64 td ty):=by
 intro pins s σ H Q I h
 refine x21 PySem.F.slot_dict_getitem.lookup hs (thn (ho pins s σ H _ I h) fun u s1 ⟨x,H1,I1,rx,q1⟩=>thn (hi pins s1 σ H1 _ I1 q1) fun iv s2 ⟨y,H2,I2,ry,a,v,ex,g,q2⟩=>?_)
 subst ex
 obtain rfl:u=Value.ref a:=rx
 exact ⟨w32 I2 g,w7n hu I2 g ry fun w' s3 I3 rw'=>⟨v,H2,I3,rw',q2⟩⟩
theorem x23 (hu:X.A.units + 1<cLine) (ho:PE X o td) (hi:PE X i ty) (hv:PE X value tv) (hs:swapsWith value (some (.Subscript o i pos')) pos.line X.env=pure false) :
  PS X (.Assign [.Subscript o i pos'] value pos) (x3Y td ty tv):=by
 intro pins s σ H D I h
 refine wpAny_Assign_Subscript (thn (hv pins s σ H _ I h) fun r s1 ⟨v,H1,I1,rv,q1⟩=>thn (ho pins s1 σ H1 _ I1 q1) fun u s2 ⟨x,H2,I2,rx,q2⟩=>thn (hi pins s2 σ H2 _ I2 q2) fun iv s3 ⟨y,H3,I3,ry,a,H4,ex,g,q3⟩=>?_) hs
 subst ex
 obtain rfl:u=Value.ref a:=rx
 exact w7p hu I3 g ry rv fun s4 I4=>⟨σ,H4,I4,q3⟩
end
theorem w9g {P:Program}{w:World}{H:Hp} (h:Heap) (hb:sysModules<h.objs.size):q1g P w H (h.push { cls:=.type "dict",data:=.dict #[] }) h.objs.size (.dK []) :=
 ⟨Nat.zero_le _,beq_eq_false_iff_ne.mpr (Ne.symm (Nat.ne_of_lt hb)),[],.nil,Heap.DictOf.new h⟩
def x3Z:TE:=fun _ H Q=>∀ p,H p=none->Q (.ref p) (upd H p (.dK []))
section
variable {X:Cx}{pos:Pos}
theorem w9h:PE X (.Dict [] [] pos) x3Z:=fun pins s σ H Q I h =>
 wpAny_Dict_empty ⟨.ref s.heap.objs.size,_,I.laid (a:=s.heap.objs.size) (o:=.dK []) (t':=s.toks) (fun _ _ q=>Heap.get?_push_of_some _ q) (Nat.le_refl _) (w9g s.heap I.big),rfl,h _ (I.hok.fresh (Nat.le_refl _))⟩
end
section
variable {X:Cx}{pins:List (Addr×Obj)}{σ:St}{H:Hp}{s:Shared}{a:Addr}{y d:V}{u r:Value}{o:Option V}{A:Around}{E:Value->Shared->Prop}
end
section
variable {X:Cx}{o e f:Expr}{apos cpos:Pos}{td ty tx:TE}
end
section
variable {X:Cx}{pins:List (Addr×Obj)}{σ:St}{H:Hp}{s:Shared}{a:Addr}{kvs:List (Key×V)}{A:Around}{E:Value->Shared->Prop}
end
section
variable {X:Cx}{pins:List (Addr×Obj)}{σ:St}{H:Hp}{s:Shared}{a:Addr}{y:V}{u:Value}{A:Around}{E:Value->Shared->Prop}
end
end L2
namespace L2
open PySem PySem.Spec PyProof.Rows
section
variable {X:Cx}
end
section
variable {κ:Type} [DecidableEq κ]
theorem w7q:∀ {l:List κ}{k:κ},l.Nodup->¬ k∈l->(l++[k]).Nodup
 | [],k,_,_=>by simp
 | a::r,k,h,hk=>by
  obtain ⟨h1,h2⟩:=List.nodup_cons.mp h
  show (a::(r++[k])).Nodup
  refine List.nodup_cons.mpr ⟨fun m=>?_,w7q h2 fun m=>hk (List.mem_cons.mpr (Or.inr m))⟩
  rcases List.mem_append.mp m with q | q
  ·exact h1 q
  ·exact hk (List.mem_cons.mpr (Or.inl (List.mem_singleton.mp q).symm))
end
end L2
end
section
namespace L2
open PySem PySem.Spec PyProof.Rows
section
variable {prog:Program}{w:World}{A:Around}{R:Result->Shared->Prop}{s:Shared}
theorem w1r {elt target iter:Expr}{ifs:List Expr}{scope:Scope}{pos:Pos}{it acc:Value}{env:Env} (I:Nat->Shared->Prop)
  (turn:∀ n s,I n s->wpAny (model prog w) A (pyNext it) (fun r s₁=>match r with
   | none=>R (.ok .next) s₁
   | some v=>wpAny (model prog w) A (letOwnedTupleGo target it v) (fun _ s₁'=>wpAny (model prog w) A (assign target env v) (fun _ s₂ =>
     wpAny (model prog w) A (forIn ifs true fun c r=>if r=true then do let ok <- isTrue c env (eval c env);pure (ForInStep.yield ok) else pure (ForInStep.yield r)) (fun ok s₃ =>
      if ok=true then wpAny (model prog w) A (eval elt env) (fun x s₄ =>
       wpAny (model prog w) A (call (.builtin "list.append") [acc,x]) (fun _ s₅=>∃ m,m<n/\I m s₅) (fun _ _=>False) s₄) (fun _ _=>False) s₃
      else ∃ m,m<n/\I m s₃) (fun _ _=>False) s₂) (fun _ _=>False) s₁') (fun _ _=>False) s₁) (fun _ _=>False) s)
  (n:Nat) (h:I n s) :
  codeAny (model prog w) A (.compLoop (.ListComp elt [⟨target,iter,ifs,0⟩] scope pos) 0 it acc env) R s:=by
 refine codeAny_loop rfl I (fun n s hI=>?_) n h
 show wpAny _ A ((compTurn (.ListComp elt [⟨target,iter,ifs,0⟩] scope pos) 0 it acc env).onRaise (fun x=>do noteFrame x env;theTreesLotGoes x)) _ _ s
 refine wpAny_noted ?_
 rw [compTurn_list]
 have nf:∀ {α:Type}{t:Sem α}{Q:α->Shared->Prop}{E':Value->Shared->Prop}{s:Shared},wpAny (model prog w) A t Q (fun _ _=>False) s->wpAny (model prog w) A t Q E' s :=
  fun h=>wpAny_mono h (fun _ _ q=>q) fun _ _ f=>f.elim
 refine wpAny_bind (wpAny_standAt (wpAny_bind (nf (wpAny_mono (turn n s hI) (fun r s₁ h₁=>?_) fun _ _ h'=>h'))))
 cases r with
 | none=>exact wpAny_pure h₁
 | some v =>
  refine wpAny_bind (nf (wpAny_mono h₁ (fun _ s₁' h₁'=>?_) fun _ _ h'=>h'))
  refine wpAny_bind (nf (wpAny_mono h₁' (fun _ s₂ h₂=>wpAny_bind (nf (wpAny_mono h₂ (fun ok s₃ h₃=>?_) fun _ _ h'=>h'))) fun _ _ h'=>h'))
  cases ok with
  | false=>exact wpAny_pure ⟨rfl,h₃⟩
  | true =>
   exact wpAny_bind (wpAny_bind (nf (wpAny_mono h₃ (fun x s₄ h₄=>wpAny_bind (nf (wpAny_mono h₄ (fun _ s₅ h₅=>wpAny_pure (wpAny_pure ⟨rfl,h₅⟩)) fun _ _ h'=>h'))) fun _ _ h'=>h')))
end
theorem w5O {env : Env} (names : List (Str × NameKind)) : ∀ (cs : List (Str × Addr)), (∀ y ∈ names, y.2 = .free -> ∃ c, env.cells.lookup y.1 = some c) ->
    (∀ x c, cs.lookup x = some c -> env.cells.lookup x = some c) ->
    ∃ cl, (forIn names cs fun (x : Str × NameKind) (cs : List (Str × Addr)) => match x with
        | (name, kind) => if (kind == NameKind.free) = true then do let a <- cellOf env name; pure (ForInStep.yield ((name, a) :: cs)) else pure (ForInStep.yield cs) : Sem (List (Str × Addr))) = pure cl /\
      (∀ x c, cl.lookup x = some c -> env.cells.lookup x = some c) /\ (∀ y ∈ names, y.2 = .free -> ∃ c, cl.lookup y.1 = some c) /\ (∀ x c, cs.lookup x = some c -> ∃ c', cl.lookup x = some c') := by
  induction names with
  | nil => intro cs _ h2; exact ⟨cs, rfl, h2, fun _ h => absurd h (by simp), fun x c h => ⟨c, h⟩⟩
  | cons nk r ih =>
    obtain ⟨n, k⟩ := nk
    intro cs h1 h2
    by_cases hk : k = .free
    · subst hk
      obtain ⟨a, ha⟩ := h1 (n, .free) List.mem_cons_self rfl
      have h2' : ∀ x c, ((n, a) :: cs).lookup x = some c -> env.cells.lookup x = some c := fun x c h => by
        rw [List.lookup_cons] at h
        cases e : x == n with
        | true => rw [e] at h; have : x = n := by simpa using e
                  subst this; cases h; exact ha
        | false => rw [e] at h; exact h2 x c h
      obtain ⟨cl, e1, e2, e3, e4⟩ := ih ((n, a) :: cs) (fun y hy => h1 y (List.mem_cons_of_mem _ hy)) h2'
      refine ⟨cl, ?_, e2, fun y hy hf => ?_, fun x c h => ?_⟩
      · rw [List.forIn_cons]
        have hc : cellOf env n = pure a := by unfold cellOf; rw [ha]
        simp only [beq_self_eq_true, if_true, hc]
        exact e1
      · rcases List.mem_cons.mp hy with rfl | hy
        · exact e4 n a (by simp)
        · exact e3 y hy hf
      · cases e : x == n with
        | true => exact e4 x a (by rw [List.lookup_cons, e])
        | false => exact e4 x c (by rw [List.lookup_cons, e]; exact h)
    · obtain ⟨cl, e1, e2, e3, e4⟩ := ih cs (fun y hy => h1 y (List.mem_cons_of_mem _ hy)) h2
      refine ⟨cl, ?_, e2, fun y hy hf => ?_, e4⟩
      · rw [List.forIn_cons]
        have hk' : (k == NameKind.free) = false := by simpa using hk
        simp only [hk', Bool.false_eq_true, if_false]
        exact e1
      · rcases List.mem_cons.mp hy with rfl | hy
        · exact absurd hf hk
        · exact e3 y hy hf
theorem q6g {scope:Scope}{env:Env} (h:∀ y∈scope.names,y.2=.free->∃ c,env.cells.lookup y.1=some c):∃ cl,closureFor scope env=pure cl /\
  (∀ x c,cl.lookup x=some c->env.cells.lookup x=some c)/\(∀ y∈scope.names,y.2=.free->∃ c,cl.lookup y.1=some c):=by
 obtain ⟨cl,e1,e2,e3,_⟩:=w5O (env:=env) scope.names [] h (fun x c h=>by simp at h)
 refine ⟨cl,?_,e2,e3⟩
 simp only [closureFor]
 rw [show (forIn scope.names ([] : List (Str×Addr)) fun x r=>_)=(pure cl:Sem (List (Str×Addr))) from e1]
 rfl
end L2
end
section
namespace L2
open PySem PySem.Spec PyProof.Rows
def q0O (X:Cx) (N':List Str) (scope:Scope) (cl:List (Str×Addr)) (C:Addr) (s₀:Shared) (H₀:Hp) (ex:List Addr) (pn:List (Addr×Obj)):Cx :=
 { X with N:=N',s₀:=s₀,H₀:=H₀,env:=compEnvC scope cl C X.env,outer:=X.stack,stack:=X.stack,ex:=ex,fn:=fun _=>false,pn:=pn,xe:=fun _ _=>False }
def PTs (X:Cx) (ifs:List Expr) (t:TT):Prop :=
 ∀ (pins:List (Addr×Obj)) (s:Shared) (σ:St) (H:Hp) (Q:Bool->Hp->Prop),Inv X pins σ H s->t σ H Q ->
  wpAny (model X.prog X.w) X.A (forIn ifs true fun c r=>if r=true then do let ok <- isTrue c X.env (eval c X.env);pure (ForInStep.yield ok) else pure (ForInStep.yield r)) (TP X pins σ Q) X.xe s
def x7C:TT:=fun _ H Q=>Q true H
theorem x24 {X:Cx}:PTs X [] x7C:=fun pins s σ H Q I h=>wpAny_tests_nil ⟨H,I,h⟩
theorem x25 {X:Cx}{c:Expr}{t:TT} (h:PT X c t):PTs X [c] t:=fun pins s σ H Q I hw=>wpAny_tests_one (h pins s σ H Q I hw)
structure q4P (X:Cx) (scope:Scope) (N':List Str) (nt:Nat) (ix:List Nat):Prop where
 kind:scope.kind=.function
 nocell:∀ y∈scope.names,y.2≠.cell
 loc:∀ y∈scope.names,y.2=.local->scope.names.lookup y.1=some .local
 free:∀ y∈scope.names,y.2=.free->X.env.scope.names.lookup y.1=some .cell\/X.env.scope.names.lookup y.1=some .free
 cap:∀ k i,ix[k]?=some i->∃ x,X.N[i]?=some x/\N'[nt + k]?=some x/\scope.names.lookup x=some .free
 len:N'.length=nt + ix.length
def q5B (nt:Nat) (ix:List Nat) (σ:St):St:=List.replicate nt none++ix.map fun i=>(σ[i]?).join
theorem q4Y {env:Env}{x:Str}{names:List (Str×NameKind)}:names.lookup x=some .free ->
  (names.map fun (n,k)=>if (k == NameKind.free && env.scope.kind == .function && env.kindOf n == some .cell) then (n,NameKind.cell) else (n,k)).lookup x=some .free \/
  (names.map fun (n,k)=>if (k == NameKind.free && env.scope.kind == .function && env.kindOf n == some .cell) then (n,NameKind.cell) else (n,k)).lookup x=some .cell:=by
 induction names with
 | nil=>intro h;simp at h
 | cons nk r ih =>
  obtain ⟨n,k⟩:=nk
  intro h
  show List.lookup x ((if (k == NameKind.free && env.scope.kind == .function && env.kindOf n == some .cell)=true then (n,NameKind.cell) else (n,k))::_)=_ \/
   List.lookup x ((if (k == NameKind.free && env.scope.kind == .function && env.kindOf n == some .cell)=true then (n,NameKind.cell) else (n,k))::_)=_
  cases hx:x == n with
  | true =>
   simp only [List.lookup_cons,hx] at h
   cases h
   by_cases hc:(NameKind.free == NameKind.free && env.scope.kind == .function && env.kindOf n == some .cell)=true
   ·rw [if_pos hc];right;simp [List.lookup_cons,hx]
   ·rw [if_neg hc];left;simp [List.lookup_cons,hx]
  | false =>
   simp only [List.lookup_cons,hx] at h
   by_cases hc:(k == NameKind.free && env.scope.kind == .function && env.kindOf n == some .cell)=true
   ·rw [if_pos hc];simp only [List.lookup_cons,hx];exact ih h
   ·rw [if_neg hc];simp only [List.lookup_cons,hx];exact ih h
theorem q6h {env:Env}{x:Str}{names:List (Str×NameKind)} :
  ((names.map fun (n,k)=>if (k == NameKind.free && env.scope.kind == .function && env.kindOf n == some .cell) then (n,NameKind.cell) else (n,k)).lookup x=some .free \/
  (names.map fun (n,k)=>if (k == NameKind.free && env.scope.kind == .function && env.kindOf n == some .cell) then (n,NameKind.cell) else (n,k)).lookup x=some .cell) ->
  (x,NameKind.free)∈names\/(x,NameKind.cell)∈names:=by
 induction names with
 | nil=>intro h;simp at h
 | cons nk r ih =>
  obtain ⟨n,k⟩:=nk
  intro h
  have h:List.lookup x ((if (k == NameKind.free && env.scope.kind == .function && env.kindOf n == some .cell)=true then (n,NameKind.cell) else (n,k))::_)=_ \/
   List.lookup x ((if (k == NameKind.free && env.scope.kind == .function && env.kindOf n == some .cell)=true then (n,NameKind.cell) else (n,k))::_)=_:=h
  cases hx:x == n with
  | true =>
   have e:x=n:=by simpa using hx
   subst e
   by_cases hc:(k == NameKind.free && env.scope.kind == .function && env.kindOf x == some .cell)=true
   ·have:k=.free:=by simp at hc;exact hc.1.1
    subst this;left;exact List.mem_cons_self
   ·rw [if_neg hc] at h;simp only [List.lookup_cons,hx] at h
    rcases h with h | h
    ·cases h;left;exact List.mem_cons_self
    ·cases h;right;exact List.mem_cons_self
  | false =>
   have h':=ih (by
    by_cases hc:(k == NameKind.free && env.scope.kind == .function && env.kindOf n == some .cell)=true
    ·rw [if_pos hc] at h;simp only [List.lookup_cons,hx] at h;exact h
    ·rw [if_neg hc] at h;simp only [List.lookup_cons,hx] at h;exact h)
   rcases h' with h' | h'
   ·left;exact List.mem_cons_of_mem _ h'
   ·right;exact List.mem_cons_of_mem _ h'
inductive x40 (nt:Nat) (ix:List Nat) (g:TG) (tt:TT) (te:TE) (σ:St) (Q:VK) (J:It) (H1:Hp):Prop
 | mk (W:Nat->Nat->List V->Hp->Prop) (w0:∃ m,W 0 m [] H1) (turn:∀ i m acc H,W i m acc H ->
 (J.stop i H/\∀ p,H p=none->Q (.ref p) (upd H p (.lst acc))) \/
 (J.go i H/\acc.length<sizeLine/\∀ x H',J.yld i H x H'->g x (q5B nt ix σ) H' fun σ2 H2=>tt σ2 H2 fun b H3 =>
  if b=true then te σ2 H3 fun y H4=>∃ m',m'<m/\W (i + 1) m' (acc++[y]) H4 else ∃ m',m'<m/\W (i + 1) m' acc H3)):x40 nt ix g tt te σ Q J H1
def x26 (nt:Nat) (ix:List Nat) (wi:TI) (g:TG) (tt:TT) (te:TE):TE:=fun σ H Q=>wi σ H (x40 nt ix g tt te σ Q)
section
variable {X:Cx}{pins:List (Addr×Obj)}{σ:St}{H:Hp}{s:Shared}
theorem w4Z {scope:Scope}{N':List Str}{nt:Nat}{ix:List Nat}{cl:List (Str×Addr)}{C:Addr}{fp:List Addr}{h₁:Heap}{t':Nat}{m:Str->Option Value}
  (S:q4P X scope N' nt ix) (I:Inv X pins σ H s) (c1:∀ x c,cl.lookup x=some c->X.env.cells.lookup x=some c) (c2:∀ y∈scope.names,y.2=.free->∃ c,cl.lookup y.1=some c)
  (hf:∀ b∈fp,w1c X pins H b) (ff:∀ b∈fp,b<s.heap.objs.size) (hC:s.heap.objs.size<=C) (hns:h₁.Ns C m) (old:∀ b o,s.heap.get? b=some o->h₁.get? b=some o) :
  Inv (q0O X N' scope cl C s H fp (X.pn++pins)) [] (q5B nt ix σ) H { s with heap:=h₁,toks:=t' }:=by
 have cellOld:∀ {c v},s.heap.IsCell c v->h₁.IsCell c v:=fun {c v} ⟨o,ho,hd⟩=>⟨o,old _ _ ho,hd⟩
 refine ⟨⟨I.ok.mod,S.kind,I.ok.glob,I.ok.blt,hC,fun x y c h1 h2=>I.ok.inj x y c (c1 x c h1) (c1 y c h2),fun x hx=>?_,fun x c h=>absurd h (by simp [q0O]),I.ok.hd,I.ok.frames,.inl rfl,fun b hb=>⟨?_,fun x c h=>?_⟩,I.bs,Nat.le_trans I.ok.bsz I.sz,fun b o h hb=>?_,fun b hb z=>?_,I.stack,I.stkFree⟩,
  rfl,I.bare,Un.kept old,⟨m,hns,fun i x v h1 h2 h3=>?_⟩,fun x c h=>?_,I.hok.fresh hC,fun x c h=>I.freeC x c (c1 x c h),fun p hp=>?_,I.hok.kept old,?_⟩
 ·have hx':(x,NameKind.free)∈scope.names\/(x,NameKind.cell)∈scope.names:=q6h (env:=X.env) (hx.elim .inr .inl)
  rcases hx' with z | z
  ·exact c2 _ z rfl
  ·exact absurd rfl (S.nocell _ z)
 ·exact Nat.ne_of_lt (Nat.lt_of_lt_of_le (ff b hb) hC)
 ·exact (hf b hb).f4 x c (c1 x c h)
 ·rcases (hf b hb).f3 with z | z
  ·exact I.ok.noex b o h z
  ·exact absurd (Nat.lt_of_lt_of_le (Heap.lt_size h) (Nat.le_trans I.ok.bsz z)) (Nat.lt_irrefl _)
 ·rcases List.mem_cons.mp (I.stkSub b z) with e | e
  ·exact (hf b hb).f1 e
  ·exact (hf b hb).f2 e
 ·have hnt:nt<=i:=by
   refine Nat.le_of_not_lt fun hlt=>?_
   have h2':(q5B nt ix σ)[i]?=some (some v):=h2
   unfold q5B at h2'
   rw [List.getElem?_append_left (by simpa using hlt),List.getElem?_replicate,if_pos hlt] at h2'
   cases h2'
  have h2':(q5B nt ix σ)[i]?=some (some v):=h2
  unfold q5B at h2'
  rw [List.getElem?_append_right (by simpa using hnt),List.length_replicate,List.getElem?_map] at h2'
  cases e:ix[i - nt]? with
  | none=>rw [e] at h2';cases h2'
  | some j =>
   rw [e] at h2'
   have hj:σ[j]?=some (some v):=by
    have q:(σ[j]?).join=some v:=Option.some.inj h2'
    cases e3:σ[j]? with
    | none=>rw [e3] at q;cases q
    | some o=>rw [e3] at q;cases o with
     | none=>cases q
     | some v'=>cases q;rfl
   obtain ⟨x',n1,n2,fr⟩:=S.cap _ _ e
   rw [Nat.add_sub_cancel' hnt] at n2
   have h1':N'[i]?=some x:=h1
   rw [h1'] at n2
   cases n2
   obtain ⟨mm,hn,hl⟩:=I.loc
   have hfree:=S.free (x,.free) (PySem.mem_of_lookup fr) rfl
   obtain ⟨u,r,l⟩:=hl j x v n1 hj (hfree.elim (fun z=>.inr (.inl z)) fun z=>.inr (.inr z))
   refine ⟨u,r,?_⟩
   rcases l with ⟨k,_⟩ | ⟨k,c,hc,hcell⟩
   ·have k:X.env.scope.names.lookup x=some .local:=k
    rcases hfree with z | z<;>(rw [z] at k;cases k)
   ·obtain ⟨c',hc'⟩:=c2 _ (PySem.mem_of_lookup fr) rfl
    have:=c1 x c' hc'
    rw [hc] at this
    cases this
    refine .inr ⟨?_,c,hc',cellOld hcell⟩
    rcases q4Y (env:=X.env) fr with z | z
    ·exact .inr z
    ·exact .inl z
 ·obtain ⟨v,q⟩:=I.cell x c (c1 x c h)
  exact ⟨v,cellOld q⟩
 ·have hp:p∈X.pn++pins:=(List.mem_append.mp hp).elim id fun z=>absurd z (by simp)
  obtain ⟨e,n,ne,nf,d⟩:=I.pin p hp
  refine ⟨old _ _ e,n,Nat.ne_of_lt (Nat.lt_of_lt_of_le (Heap.lt_size e) hC),fun z=>?_,d⟩
  rcases List.mem_cons.mp (I.stkSub p.1 z) with e | e
  ·exact ne e
  ·exact nf e
 ·show (q5B nt ix σ).length=N'.length
  rw [S.len];simp [q5B]
end
end L2
end
section
namespace L2
open PySem PySem.Spec PyProof.Rows
theorem Un.grow {fs ex:List Addr}{H H1:Hp}{h h1 h2:Heap} (u:Un fs ex H H1 h h1) {C D:Addr}{o:HO} (sb:Heap.SameBut C h1 h2) (hC:h.objs.size<=C) (hD:h.objs.size<=D) (hn:H1 D=none):Un fs ex H (upd H1 D o) h h2 where
 keep:=fun b ob q n hb hx=>(sb.2 b (Nat.ne_of_lt (Nat.lt_of_lt_of_le (Heap.lt_size q) hC))).trans (u.keep b ob q n hb hx)
 slot:=fun b ob q n hb hx=>by
  obtain ⟨sl,e⟩:=u.slot b ob q n hb hx
  exact ⟨sl,(sb.2 b (Nat.ne_of_lt (Nat.lt_of_lt_of_le (Heap.lt_size q) hC))).trans e⟩
 free:=fun b ob q n hx=>by rw [q0e (Nat.ne_of_lt (Nat.lt_of_lt_of_le (Heap.lt_size q) hD))];exact u.free b ob q n hx
 there:=fun b ob q hx=>by
  obtain ⟨o',e⟩:=u.there b ob q hx
  exact ⟨o',(sb.2 b (Nat.ne_of_lt (Nat.lt_of_lt_of_le (Heap.lt_size q) hC))).trans e⟩
 tups:=fun b xs q=>by have z:=u.tups b xs q;rw [q0e (q0c z hn)];exact z
 frzs:=fun b ob xs q=>by have z:=u.frzs b ob xs q;rw [q0e (q0c z hn)];exact z
 tbls:=fun b ps q=>by
  obtain ⟨m,z⟩:=u.tbls b ps q
  exact ⟨m,by rw [q0e (q0c z hn)];exact z⟩
theorem w0i {P:Program}{w:World}{H:Hp}{h h':Heap}{C:Addr} (k:HOk P w H h) (hC:H C=none) (sb:Heap.SameBut C h h'):HOk P w H h':=fun b ob e=>by
 refine (k b ob e).stay (fun c w' hc q=>(sb.2 c ?_).trans q) (fun _ q=>q) fun _ _ q=>q
 rintro rfl
 rcases hc with rfl | hc
 ·rw [hC] at e;cases e
 ·rw [hC] at hc;cases hc
theorem q5G {P:Program}{w:World}{H:Hp}{h:Heap}{D:Addr}{o:HO} (k:HOk P w H h) (hD:H D=none) (new:q1g P w (upd H D o) h D o):HOk P w (upd H D o) h:=fun b ob e=>by
 by_cases hb:b=D
 ·subst hb;rw [q0d] at e;cases e;exact new
 ·rw [q0e hb] at e
  exact (k b ob e).stay (fun c w' hc q=>q) (fun c q=>by rw [q0e (q0c q hD)];exact q) fun c x q=>by rw [q0e (q0c q hD)];exact q
theorem nf {M:Model}{A:Around}{α:Type}{t:Sem α}{Q:α->Shared->Prop}{E':Value->Shared->Prop}{s:Shared} (h:wpAny M A t Q (fun _ _=>False) s):wpAny M A t Q E' s :=
 wpAny_mono h (fun _ _ q=>q) fun _ _ f=>f.elim
theorem Inv.pin1 {X:Cx}{σ:St}{H:Hp}{s:Shared}{D:Addr}{o:Obj} (I:Inv X [] σ H s) (e:s.heap.get? D=some o) (n:H D=none) (ne:D≠X.env.locals) (nf:D∉X.fs) (d:∀ v,o.data≠.cell v):Inv X [(D,o)] σ H s :=
 I.pins_of fun p hp=>by
  have:p=(D,o):=by simpa using hp
  subst this
  exact ⟨e,n,ne,nf,d⟩
def Low (nt:Nat) (g:TG):Prop:=∀ x σ0 H (Q:St->Hp->Prop),g x σ0 H Q->g x σ0 H (fun σ2 H2=>Q σ2 H2/\σ2.length=σ0.length/\∀ j,nt<=j->σ2[j]?=σ0[j]?)
theorem w9i {nt i:Nat} (h:i<nt):Low nt (w1b i):=fun x σ0 H Q q=>⟨q,by simp,fun j hj=>List.getElem?_set_ne (by omega)⟩
theorem x27 {nt i k n:Nat}{K:PySem.W.Frag} (h:i<nt) (h':k<nt):Low nt (x5N K n (q01 (w1b i) (q01 (w1b k) q0k))):=by
 rintro x σ0 H Q ⟨a,xs,rfl,sq,hl,v,r,rfl,v',r',rfl,rfl,q⟩
 exact ⟨a,_,rfl,sq,hl,v,_,rfl,v',_,rfl,rfl,q,by simp,fun j hj=>by rw [List.getElem?_set_ne (by omega),List.getElem?_set_ne (by omega)]⟩
inductive CLI (X:Cx) (pins:List (Addr×Obj)) (N':List Str) (scope:Scope) (cl:List (Str×Addr)) (C:Addr) (s2:Shared) (H2:Hp) (fp:List Addr) (nt:Nat) (ix:List Nat) (σ:St) (tn:Nat->Heap->Prop) (W:Nat->Nat->List V->Hp->Prop) (n:Nat) (s':Shared):Prop
 | mk (i:Nat) (acc:List V) (its:List Value) (nn:Nat) (H':Hp) (I:Inv (q0O X N' scope cl C s2 H2 fp (X.pn++pins)) [(s2.heap.objs.size,{ cls:=.type "list",data:=.seq its.toArray nn })] (q5B nt ix σ) H' s') (v:q1x acc its) (l:acc.length<=sizeLine) (t:tn i s'.heap) (f:∀ b∈fp,H' b=none) (w:W i n acc H'):CLI X pins N' scope cl C s2 H2 fp nt ix σ tn W n s'
theorem q9H {X:Cx}{elt tg iter:Expr}{ifs:List Expr}{scope:Scope}{pos:Pos}{g:TG}{tt:TT}{te:TE}{N':List Str}{nt:Nat}{ix:List Nat}
  (hc:X.calm=true) (S:q4P X scope N' nt ix) (lo:Low nt g)
  (hb:∀ cl C s₀ H₀ ex pn,PG (q0O X N' scope cl C s₀ H₀ ex pn) tg g/\PTs (q0O X N' scope cl C s₀ H₀ ex pn) ifs tt/\PE (q0O X N' scope cl C s₀ H₀ ex pn) elt te)
  {cl:List (Str×Addr)} (c1:∀ x c,cl.lookup x=some c->X.env.cells.lookup x=some c) (c2:∀ y∈scope.names,y.2=.free->∃ c,cl.lookup y.1=some c)
  {pins:List (Addr×Obj)}{σ:St}{H2:Hp}{s2:Shared}{it:Addr}{fp:List Addr}{tn:Nat->Heap->Prop}{J:It}{Q:VK}{E:Value->Shared->Prop}
  (I2:Inv X pins σ H2 s2) (T:w97 X.prog X.w X.K tg J fp it tn) (st2:tn 0 s2.heap) (f2:∀ b∈fp,w1c X pins H2 b)
  {W:Nat->Nat->List V->Hp->Prop} (w0:∃ m,W 0 m [] H2)
  (turn:∀ i m acc H,W i m acc H->(J.stop i H/\∀ p,H p=none->Q (.ref p) (upd H p (.lst acc))) \/
   (J.go i H/\acc.length<sizeLine/\∀ x H',J.yld i H x H'->g x (q5B nt ix σ) H' fun σ2 H2=>tt σ2 H2 fun b H3 =>
    if b=true then te σ2 H3 fun y H4=>∃ m',m'<m/\W (i + 1) m' (acc++[y]) H4 else ∃ m',m'<m/\W (i + 1) m' acc H3))
  {RR:Value->Addr->Result->Shared->Prop}
  (hRR:∀ D C m s' (acc:List V) H',H' D=none->w1c X pins (upd H' D (.lst acc)) C->Q (.ref D) (upd H' D (.lst acc))->s'.heap.Ns C m->(∀ h',Heap.SameBut C s'.heap h'->Inv X pins σ (upd H' D (.lst acc)) { s' with heap:=h' })->RR (.ref D) C (.ok .next) s') :
  wpAny (model X.prog X.w) X.A (newList []) (fun acc s₃=>wpAny (model X.prog X.w) X.A (newFunctionEnv scope X.env.globals cl [] X.env.qual none .none (some X.env)) (fun cenv s₄ =>
   codeAny (model X.prog X.w) X.A (.compStart (.ListComp elt [⟨tg,iter,ifs,0⟩] scope pos) 0 (.ref it) acc { cenv with scope:=relabel scope X.env }) (RR acc cenv.locals) s₄) E s₃) E s2:=by
 refine wpAny_newObj_type (wpAny_newFunctionEnv S.nocell (by intro y hy;simp at hy) (fun h₁ hns₁ hsb₁=>?_) S.kind)
 dsimp only at hns₁ hsb₁ ⊢
 generalize hG2:s2.heap.push { cls:=.type "list",dict:=none,data:=.seq ([] : List Value).toArray }=G2 at hns₁ hsb₁ ⊢
 have hC:G2.objs.size=s2.heap.objs.size + 1:=by rw [<- hG2,Heap.size_push]
 have hDC:s2.heap.objs.size≠G2.objs.size:=by rw [hC];exact Nat.ne_of_lt (Nat.lt_succ_self _)
 have hCle:s2.heap.objs.size<=G2.objs.size:=by rw [hC];exact Nat.le_succ _
 have below:∀ b,b<s2.heap.objs.size->b≠G2.objs.size:=fun b hb=>by rw [hC];exact Nat.ne_of_lt (Nat.lt_succ_of_lt hb)
 have old:∀ b o,s2.heap.get? b=some o->h₁.get? b=some o:=fun b o e=>hsb₁.extBut b o (below b (Heap.lt_size e)) (Heap.get?_push_of_some _ (hG2 ▸ Heap.get?_push_of_some _ e))
 have hacc:h₁.get? s2.heap.objs.size=some { cls:=.type "list",dict:=none,data:=.seq ([] : List Value).toArray }:=hsb₁.extBut _ _ hDC (Heap.get?_push_of_some _ (hG2 ▸ Heap.get?_push_size _ rfl))
 have ff:∀ b∈fp,b<s2.heap.objs.size:=fun b hb=>by
  obtain ⟨o,e,_⟩:=T.obj _ _ st2 b hb
  exact Heap.lt_size e
 have I3:Inv (q0O X N' scope cl G2.objs.size s2 H2 fp (X.pn++pins)) [] (q5B nt ix σ) H2 { s2 with heap:=h₁,toks:=s2.toks + ([] : List (Str×Value)).length }:=w4Z S I2 c1 c2 f2 ff hCle hns₁ old
 obtain ⟨pg,pt,pe⟩:=hb cl G2.objs.size s2 H2 fp (X.pn++pins)
 have hDfs:s2.heap.objs.size∉frs X.stack:=fun z=>by
  rcases List.mem_cons.mp (I2.stkSub _ z) with e | e
  ·exact absurd I2.lt (by rw [<- e];exact Nat.lt_irrefl _)
  ·exact I2.nofs (Nat.le_refl _) e
 have nod:∀ (its:List Value) (n:Nat) v,({ cls:=.type "list",data:=.seq its.toArray n }:Obj).data≠.cell v:=fun _ _ _ z=>nomatch z
 have st1:tn 0 h₁:=T.keep _ _ _ st2 fun b _ o e=>old b o e
 have hDf:s2.heap.objs.size∉fp:=fun z=>absurd (ff _ z) (Nat.lt_irrefl _)
 have stat:∀ {H':Hp}{pl:List (Addr×Obj)},(∀ p∈pl,p.1∉fp)->(∀ b∈fp,H' b=none)->∀ b∈fp,w1c (q0O X N' scope cl G2.objs.size s2 H2 fp (X.pn++pins)) pl H' b:=fun hpl hn b hb=>by
  obtain ⟨f0,f1,f2',f3,f4,f5⟩:=f2 b hb
  refine ⟨hn b hb,below b (ff b hb),fun z=>?_,.inl hb,fun x c e=>f4 x c (c1 x c e),fun p hp z=>?_⟩
  ·rcases List.mem_cons.mp (I2.stkSub _ z) with e | e
   ·exact f1 e
   ·exact f2' e
  ·rcases List.mem_append.mp hp with q | q
   ·exact f5 p q z
   ·exact hpl p q (z ▸ hb)
 obtain ⟨m0,w0⟩:=w0
 have loop:codeAny (model X.prog X.w) X.A (.compLoop (.ListComp elt [⟨tg,iter,ifs,0⟩] scope pos) 0 (.ref it) (.ref s2.heap.objs.size) (compEnvC scope cl G2.objs.size X.env))
    (RR (.ref s2.heap.objs.size) G2.objs.size) { s2 with heap:=h₁,toks:=s2.toks + ([] : List (Str×Value)).length }:=by
  refine w1r (CLI X pins N' scope cl G2.objs.size s2 H2 fp nt ix σ tn W) ?_ m0
   ⟨0,[],[],0,H2,I3.pin1 hacc (I2.hok.fresh (Nat.le_refl _)) hDC hDfs (nod _ _),.nil,Nat.zero_le _,st1,fun b hb=>(f2 b hb).1,w0⟩
  rintro n s3 ⟨i,acc,its,nn,H3,J3,rv,hz,st3,fr3,w3⟩
  have plD:∀ p∈[(s2.heap.objs.size,({ cls:=.type "list",data:=.seq its.toArray nn }:Obj))],p.1∉fp:=fun p hp=>by
   have:p=(s2.heap.objs.size,({ cls:=.type "list",data:=.seq its.toArray nn }:Obj)):=by simpa using hp
   rw [this];exact hDf
  rcases turn i n acc H3 w3 with ⟨stop,qn⟩ | ⟨go,hlt,step⟩
  ·refine thn (T.done (q0O X N' scope cl G2.objs.size s2 H2 fp (X.pn++pins)) rfl rfl rfl hc i _ s3 _ H3 _ J3 (stat plD fr3) st3 stop) fun r s4 h_0=>?_
   obtain ⟨hr,I4⟩:=h_0
   subst hr
   obtain ⟨pD,pN,_⟩:=I4.pin (s2.heap.objs.size,_) (List.mem_append_right _ (List.mem_singleton.mpr rfl))
   obtain ⟨mm,hn,_⟩:=I4.loc
   have hCn:H3 G2.objs.size=none:=I4.free
   refine hRR _ _ mm s4 acc H3 pN (I2.fpOk hCle (by rw [q0e (Ne.symm hDC)];exact hCn)) (qn _ pN) hn fun h' sb=>?_
   have hu:Un (frs X.stack) fp H2 (upd H3 s2.heap.objs.size (.lst acc)) s2.heap h':=Un.grow I4.base sb hCle (Nat.le_refl _) pN
   refine I2.call' (s':={ s4 with heap:=h' }) (ch:=fp) I4.os hu ?_ I4.bare fun b hb=>?_
   ·refine q5G (w0i I4.hok hCn sb) pN ⟨hz,its,nn,rv,(sb.2 _ hDC).trans pD⟩
   ·obtain ⟨_,f1,_,f3,f4,f5⟩:=f2 b hb
    exact ⟨f3,f1,f4,f5⟩
  ·refine thn (T.item (q0O X N' scope cl G2.objs.size s2 H2 fp (X.pn++pins)) rfl rfl rfl hc i _ s3 _ H3 _ J3 (stat plD fr3) st3 go) fun r s4 h_1=>?_
   obtain ⟨u,hr,h4⟩:=h_1
   subst hr
   refine thn h4 fun _ s5 h_2=>?_
   obtain ⟨x,H5,I5,r5,y5,st5,fr5⟩:=h_2
   have I5':=I5.pinned (stat plD fr5) (T.obj _ _ st5)
   refine thn (pg _ s5 _ H5 x u _ I5' r5 (lo _ _ _ _ (step x H5 y5))) fun _ s6 h_3=>?_
   obtain ⟨σ6,H6,I6,q6,l6,k6⟩:=h_3
   have hw:∀ (j:Nat) v,(q5B nt ix σ)[j]?=some (some v)->σ6[j]?=some (some v):=fun j v e=>by
    by_cases hj:nt<=j
    ·rw [k6 j hj];exact e
    ·unfold q5B at e
     rw [List.getElem?_append_left (by simpa using hj),List.getElem?_replicate,if_pos (by omega)] at e
     cases e
   refine thn (pt _ s6 σ6 H6 _ I6 q6) fun b s7 h_4=>?_
   obtain ⟨H7,I7,q7⟩:=h_4
   have fpk:∀ {s8:Shared}{σ8:St}{H8:Hp},Inv (q0O X N' scope cl G2.objs.size s2 H2 fp (X.pn++pins)) ([(s2.heap.objs.size,{ cls:=.type "list",data:=.seq its.toArray nn })]++q9F fp s5.heap) σ8 H8 s8 ->
     tn (i + 1) s8.heap/\∀ b∈fp,H8 b=none:=fun {s8 σ8 H8} I8=>by
    refine ⟨T.keep _ _ _ st5 fun b hb o e=>(I8.pin (b,o) (List.mem_append_right _ (List.mem_append_right _ (q2W hb e)))).1,fun b hb=>?_⟩
    obtain ⟨o,e,d⟩:=T.obj _ _ st5 b hb
    exact (I8.pin (b,o) (List.mem_append_right _ (List.mem_append_right _ (q2W hb e)))).2.1
   cases b with
   | false =>
    simp only [Bool.false_eq_true,if_false] at q7 ⊢
    obtain ⟨m',hm,w7⟩:=q7
    obtain ⟨t7,f7⟩:=fpk I7
    exact ⟨m',hm,i + 1,acc,its,nn,H7,(I7.weak l6.symm hw).unpinned,rv,hz,t7,f7,w7⟩
   | true =>
    simp only [if_true] at q7 ⊢
    refine thn (pe _ s7 σ6 H7 _ I7 q7) fun u8 s8 h_5=>?_
    obtain ⟨y,H8,I8,r8,m',hm,w8⟩:=h_5
    obtain ⟨t8,f8⟩:=fpk I8
    obtain ⟨pD,pN,_⟩:=I8.pin (s2.heap.objs.size,_) (List.mem_append_right _ (List.mem_append_left _ (List.mem_singleton.mpr rfl)))
    have hl:=rv.length
    refine wpAny_list_append_plain ⟨nn,pD⟩ (hsz:=by rw [List.size_toArray];omega) ?_
    intro h9 pl9 sb9
    obtain ⟨n9,e9⟩:=pl9
    have e9':h9.get? s2.heap.objs.size=some { cls:=.type "list",data:=.seq (its++[u8]).toArray n9 }:=by rw [e9];simp
    refine ⟨m',hm,i + 1,acc++[y],its++[u8],n9,H8,?_,rv.append (.cons r8 .nil),by rw [List.length_append,List.length_singleton];omega,T.keep _ _ _ t8 fun b hb o e=>sb9.extBut b o (fun z=>hDf (z ▸ hb)) e,f8,w8⟩
    have I8':Inv (q0O X N' scope cl G2.objs.size s2 H2 fp (X.pn++pins)) [] (q5B nt ix σ) H8 s8:=(I8.weak l6.symm hw).pins_of fun p hp=>absurd hp (by simp)
    have I9:Inv (q0O X N' scope cl G2.objs.size s2 H2 fp (X.pn++pins)) [] (q5B nt ix σ) H8 { s8 with heap:=h9,toks:=s8.toks } :=
     I8'.turned (it:=s2.heap.objs.size) (fun b o hb e=>sb9.extBut b o hb e) pN hDC (.inr (Nat.le_refl _)) (fun x c e z=>by
      obtain ⟨v,q⟩:=I2.cell x c (c1 x c e)
      exact absurd q.lt (by rw [z];exact Nat.lt_irrefl _)) fun p hp z=>by
      have hp:p∈X.pn++pins:=(List.mem_append.mp hp).elim id fun z=>absurd z (by simp)
      exact absurd (Heap.lt_size (I2.pin p hp).1) (by rw [z];exact Nat.lt_irrefl _)
    exact I9.pin1 e9' pN hDC hDfs (nod _ _)
 exact codeAny_compStart_list loop (T.self _ 0 _ _ _ st1 loop)
end L2
end
section
namespace L2
open PySem PySem.Spec PyProof.Rows
theorem w33 {X:Cx}{elt tg iter:Expr}{ifs:List Expr}{scope:Scope}{pos:Pos}{wi:TI}{g:TG}{tt:TT}{te:TE}{N':List Str}{nt:Nat}{ix:List Nat}
  (hc:X.calm=true) (S:q4P X scope N' nt ix) (lo:Low nt g) (hi:PI X tg iter wi)
  (hb:∀ cl C s₀ H₀ ex pn,PG (q0O X N' scope cl C s₀ H₀ ex pn) tg g/\PTs (q0O X N' scope cl C s₀ H₀ ex pn) ifs tt/\PE (q0O X N' scope cl C s₀ H₀ ex pn) elt te)
  (hs:∀ x,foldedSetIterable iter X.env x=pure x:=by intro _;rfl):PE X (.ListComp elt [⟨tg,iter,ifs,0⟩] scope pos) (x26 nt ix wi g tt te):=by
 intro pins s σ H Q I h
 obtain ⟨cl,hcl,c1,c2⟩:=q6g (scope:=scope) (env:=X.env) fun y hy hf=>I.ok.has y.1 (S.free y hy hf)
 rw [eval_ListComp]
 refine wpAny_comprehension_free (use:=none) rfl hs hcl S.kind S.loc (thn (hi pins s σ H _ I h) fun v s1 h1=>thn h1 fun itv s2 h2=>?_)
 obtain ⟨it,fp,tn,J,H2,e,I2,T,st2,f2,W,w0,turn⟩:=h2
 subst e
 refine q9H (RR:=fun acc C=>compPost (model X.prog X.w) X.A X.xe none (EP X pins σ Q) acc C) hc S lo hb c1 c2 I2 T st2 f2 w0 turn ?_
 intro D C m s' acc H' hD _ q hn hI
 exact ⟨m,hn,fun h' sb=>⟨.ref D,_,hI h' sb,rfl,q⟩⟩
def x65 (i:Nat) (te:TE):TS:=fun D σ H=>te σ H fun x H1=>D.nx (σ.set i (some x)) H1
theorem w5P {X:Cx}{elt tg iter:Expr}{ifs:List Expr}{scope:Scope}{pos spos py:Pos}{wi:TI}{g:TG}{tt:TT}{te:TE}{N':List Str}{nt:Nat}{ix:List Nat}{i:Nat}{y:Str}
  (hN:X.N.Nodup) (hiN:X.N[i]?=some y) (hy:X.env.scope.names.lookup y=some .local)
  (hc:X.calm=true) (S:q4P X scope N' nt ix) (lo:Low nt g) (hi:PI X tg iter wi)
  (hb:∀ cl C s₀ H₀ ex pn,PG (q0O X N' scope cl C s₀ H₀ ex pn) tg g/\PTs (q0O X N' scope cl C s₀ H₀ ex pn) ifs tt/\PE (q0O X N' scope cl C s₀ H₀ ex pn) elt te)
  (hsw:swapsWith (.ListComp elt [⟨tg,iter,ifs,0⟩] scope pos) (some (.Name y py)) spos.line X.env=pure true:=by rfl)
  (hs:∀ x,foldedSetIterable iter X.env x=pure x:=by intro _;rfl):PS X (.Assign [.Name y py] (.ListComp elt [⟨tg,iter,ifs,0⟩] scope pos) spos) (x65 i (x26 nt ix wi g tt te)):=by
 intro pins s σ H D I h
 obtain ⟨cl,hcl,c1,c2⟩:=q6g (scope:=scope) (env:=X.env) fun y hy hf=>I.ok.has y.1 (S.free y hy hf)
 rw [exec_Assign_Name_used _ _ _ _ hsw]
 refine wpAny_bind (wpAny_standAt (wpAny_bind ?_))
 show wpAny _ X.A (do let _ <- comprehension (.ListComp elt [⟨tg,iter,ifs,0⟩] scope pos) scope X.env _ (newList []) false (eval iter X.env) (some (assign (.Name y py) X.env))) _ _ s
 refine wpAny_bind (wpAny_mono (wpAny_comprehension_free (use:=some (assign (.Name y py) X.env)) (Q:=fun _ s'=>SP X pins D .next s') rfl hs hcl S.kind S.loc
  (thn (hi pins s σ H _ I h) fun v s1 h1=>thn h1 fun itv s2 h2=>?_)) (fun _ s' hq=>wpAny_pure (wpAny_pure hq)) fun _ _ e=>e)
 obtain ⟨it,fp,tn,J,H2,e,I2,T,st2,f2,W,w0,turn⟩:=h2
 subst e
 refine q9H (Q:=fun x H1=>D.nx (σ.set i (some x)) H1) (RR:=fun acc C=>compPost (model X.prog X.w) X.A X.xe (some (assign (.Name y py) X.env)) (fun _ s'=>SP X pins D .next s') acc C) hc S lo hb c1 c2 I2 T st2 f2 w0 turn ?_
 intro L C m s' acc H' hD fC q hn hI
 show wpAny _ X.A (assign (.Name y py) X.env (.ref L)) _ _ _
 have I3:Inv X pins σ (upd H' L (.lst acc)) s':=hI s'.heap (.refl ..)
 refine wpAny_assign_Name (w1a I3 hN hiN (.inl hy) (v:=.ref L) rfl (fun s4 I4 ⟨a,sb,ha⟩=>?_) (.inr hy))
 obtain ⟨g0,g1,g2,g3,g4,g5⟩:=fC
 have hCa:C≠a:=by
  rcases ha with z | z
  ·rw [z];exact g1
  ·exact fun e=>g4 y a z e.symm
 refine ⟨m,hn.sameBut sb hCa,fun h5 sb5=>?_⟩
 exact ⟨_,_,I4.turned (t':=s4.toks) (fun b o hb e=>(sb5.2 b hb).trans e) g0 g1 g3 g4 g5,q⟩
end L2
end
section
namespace L2
open PySem PySem.Spec PyProof.Rows
def x28 (e:Int×Value):Str:=match e.2 with
 | .str x _=>x
 | _=>⟨#[]⟩
def w1s (w:World) (e:Int×Value):Prop:=∃ x tk,e=(hashStr w x,Value.str x tk)
structure q3F (w:World) (h:Heap) (a:Addr) (es:Array (Int×Value)) (ep:Nat) (t:SetTable):Prop where
 at_:h.get? a=some { cls:=.type "set",dict:=none,data:=.set es ep t }
 txt:∀ e∈es.toList,w1s w e
 nd:(es.toList.map x28).Nodup
 few:es.size<scanBound
 fits:t.fits es.size=true
 led:t.led=!w.params.followText "set-order"
 pl:es.size=0\/t.plain=false
inductive q92 (w:World) (h:Heap) (a:Addr) (ss:List Str):Prop
 | mk (es ep t:_) (h0:q3F w h a es ep t) (h1:(es.toList.map x28).Perm ss):q92 w h a ss
theorem w5Q (t:SetTable) (es:Array (Int×Value)) (h:Int) (x:Value):(layNew t es h x).2.1.led=t.led:=by
 unfold layNew
 cases t.freeSlot h with
 | none=>rfl
 | some p =>
  obtain ⟨slot,d⟩:=p
  show ((t.put slot).1.orStandIn _).led=_
  unfold SetTable.orStandIn
  split<;>rfl
theorem w1t (t:SetTable) (es:Array (Int×Value)) (h:Int) (x:Value):t.plain=false->(layNew t es h x).2.1.plain=false:=by
 intro hp
 unfold layNew
 cases t.freeSlot h with
 | none=>rfl
 | some p =>
  obtain ⟨slot,d⟩:=p
  show ((t.put slot).1.orStandIn _).plain=_
  unfold SetTable.orStandIn
  split
  ·exact hp
  ·rfl
theorem w34 {t t':SetTable}{hs:Array Int}{n:Nat}{o:Array Nat} (h:t.relaid hs n=some (t',o)):t'.led=t.led/\t'.plain=t.plain:=by
 unfold SetTable.relaid SetTable.laid at h
 cases e:SetTable.layClean (SetTable.sizeAbove n - 1) hs with
 | none=>rw [e] at h;cases h
 | some ow =>
  rw [e] at h
  have h:=Option.some.inj h
  have h1:=congrArg Prod.fst h
  subst h1
  exact ⟨rfl,rfl⟩
theorem w7r (t:SetTable) (es:Array (Int×Value)) (n:Nat):(relayAll t es n).2.1.led=t.led/\(t.plain=false->(relayAll t es n).2.1.plain=false):=by
 unfold relayAll
 cases e:t.relaid (es.map (·.1)) n with
 | none=>exact ⟨rfl,fun _=>rfl⟩
 | some p =>
  obtain ⟨t',o⟩:=p
  obtain ⟨h1,h2⟩:=w34 e
  dsimp only
  split
  ·exact ⟨h1,fun h=>h2.trans h⟩
  ·exact ⟨rfl,fun _=>rfl⟩
theorem w9j {w:World}{P:Program}{l:List (Int×Value)} (h:∀ e∈l,w1s w e):ElemsOf (strKind P w) l:=fun e he=>by
 obtain ⟨x,tk,rfl⟩:=h e he
 exact ⟨⟨x,by simp [PySem.strKind,Value.isStrOf],rfl⟩,rfl⟩
theorem isS (P:Program) (w:World) (x:Str) (tk:Tok):(strKind P w).is x (.str x tk)=true:=by simp [PySem.strKind,Value.isStrOf]
theorem w7s {P:Program}{w:World}{e:Int×Value} (h:w1s w e) (x:Str):(strKind P w).is x e.2=true↔x28 e=x:=by
 obtain ⟨y,tk,rfl⟩:=h
 constructor
 ·intro q
  have:=(strKind P w).inj _ _ _ q (isS P w y tk)
  rw [this];rfl
 ·rintro rfl
  exact isS P w _ tk
section
variable {P:Program}{w:World}{A:Around}{E:Value->Shared->Prop}{s:Shared}
theorem w7t {h:Heap}{a:Addr}{es es':Array (Int×Value)}{ep:Nat}{t t':SetTable} (I:q3F w h a es ep t):(h.update a (Obj.putSet es' t')).get? a=some { cls:=.type "set",dict:=none,data:=.set es' (ep + 1) t' }:=by
 have q:=Heap.get?_update_self (Obj.putSet es' t') I.at_ rfl
 exact q
theorem w7u {a:Addr}{ss:List Str}{x:Str}{tk:Tok}{Q:Bool->Shared->Prop} (hS:q92 w s.heap a ss) (hr:ss.length + 1<scanBound)
  (h:∀ h' tk',Heap.SameBut a s.heap h'->q92 w h' a (if x∈ss then ss else ss++[x])->Q (!decide (x∈ss)) { s with heap:=h',toks:=tk' }) :
  wpAny (model P w) A (setAddHashed a (.str x tk) ((strKind P w).hash x)) Q E s:=by
 obtain ⟨es,ep,t,I,pm⟩:=hS
 have hlen:es.size=ss.length:=by rw [<- pm.length_eq,List.length_map,Array.length_toList]
 have hel:ElemsOf (strKind P w) es.toList:=w9j I.txt
 unfold setAddHashed setAddHashedIn
 refine wpAny_holding (wpAny_bind (wpAny_setState_of (s:=s) I.at_ rfl I.fits ?_))
 dsimp only
 rw [byScan_of rfl I.few hel]
 rw [if_pos rfl]
 unfold setAddByScan
 refine wpAny_bind (wpAny_bind (wpAny_rule (wpAny_bind (wpAny_setScan_of (s:=s) (isS P w x tk) I.at_ rfl I.fits hel ?_))))
 have inmem:x∈ss↔∃ e∈es.toList,(strKind P w).is x e.2=true:=by
  rw [<- pm.mem_iff,List.mem_map]
  constructor
  ·rintro ⟨e,he,q⟩;exact ⟨e,he,(w7s (I.txt e he) x).mpr q⟩
  ·rintro ⟨e,he,q⟩;exact ⟨e,he,(w7s (I.txt e he) x).mp q⟩
 cases hf:List.findIdx? (fun e=>(strKind P w).is x e.2) es.toList with
 | some j =>
  obtain ⟨hj,hp,_⟩:=List.findIdx?_eq_some_iff_getElem.mp hf
  have hin:x∈ss:=inmem.mpr ⟨_,List.getElem_mem hj,hp⟩
  have q:=h s.heap s.toks (.refl ..) (by rw [if_pos hin];exact ⟨es,ep,t,I,pm⟩)
  rw [decide_eq_true hin] at q
  exact wpAny_pure (wpAny_pure q)
 | none =>
  have hout:x∉ss:=fun z=>by
   obtain ⟨e,he,q⟩:=inmem.mp z
   rw [List.findIdx?_eq_none_iff.mp hf e he] at q
   cases q
  have h:=fun h' tk' sb=>h h' tk' sb
  rw [decide_eq_false hout,if_neg hout] at h
  have p1:=layNew_perm t es ((strKind P w).hash x) (.str x tk)
  have f1:=layNew_fits t es ((strKind P w).hash x) (.str x tk)
  have l1:=w5Q t es ((strKind P w).hash x) (.str x tk)
  have q1:=w1t t es ((strKind P w).hash x) (.str x tk)
  generalize layNew t es ((strKind P w).hash x) (.str x tk)=L at p1 f1 l1 q1 ⊢
  obtain ⟨es1,t1,wd,gv⟩:=L
  dsimp only at p1 f1 l1 q1 ⊢
  rw [Array.toList_push] at p1
  have tx1:∀ e∈es1.toList,w1s w e:=fun e he=>by
   rcases List.mem_append.mp (p1.mem_iff.mp he) with z | z
   ·exact I.txt e z
   ·rw [List.mem_singleton] at z;exact ⟨x,tk,z⟩
  have km:(es1.toList.map x28).Perm (ss++[x]):=(p1.map x28).trans (by rw [List.map_append];exact pm.append_right _)
  have nd1:(ss++[x]).Nodup:=by
   rw [List.nodup_append]
   exact ⟨pm.nodup_iff.mp I.nd,by simp,fun y hy z hz e=>hout (by rw [List.mem_singleton] at hz;rw [<- hz,<- e];exact hy)⟩
  have sz1:es1.size=es.size + 1:=by rw [<- Array.length_toList,p1.length_eq,List.length_append,Array.length_toList];rfl
  have few1:es1.size<scanBound:=by omega
  have gw:∀ (b:Bool) {s₁:Shared}{Q':Unit->Shared->Prop},Q' () s₁->wpAny (model P w) A (match b with | true=>rule "set.scan.the-table-gave-way" | false=>pure ()) Q' E s₁ :=
   fun b _ _ z=>by cases b<;>first | exact wpAny_pure z | exact wpAny_rule z
  have tail:∀ t2:SetTable,t2.fits es1.size=true->t2.led=t.led->t2.plain=false->wpAny (model P w) A (do
    storeSet a es1 t2
    if (!wd && t2.tooFull)=true then do
      (match (relayAll t2 es1 (SetTable.grown es1.size)).2.2 with | true=>rule "set.scan.the-table-gave-way" | false=>pure ())
      storeSet a (relayAll t2 es1 (SetTable.grown es1.size)).1 (relayAll t2 es1 (SetTable.grown es1.size)).2.1
      pure (some true)
     else pure (some true)) (fun r s'=>r=some true/\Q true s') E s:=fun t2 f2 l2 n2=>by
   refine wpAny_bind (wpAny_storeSet_of (s:=s) I.at_ rfl ?_ (fits_of_scanBound few1))
   have at1:=w7t (es':=es1) (t':=t2) I
   have sb1:=Heap.SameBut.update s.heap a (Obj.putSet es1 t2)
   have I1:q3F w (s.heap.update a (Obj.putSet es1 t2)) a es1 (ep + 1) t2:=⟨at1,tx1,km.nodup_iff.mpr nd1,few1,f2,l2.trans I.led,.inr n2⟩
   split
   ·have p2:=relayAll_perm t2 es1 (SetTable.grown es1.size)
    have f3:=relayAll_fits t2 es1 (SetTable.grown es1.size)
    have l3:=w7r t2 es1 (SetTable.grown es1.size)
    generalize relayAll t2 es1 (SetTable.grown es1.size)=R3 at p2 f3 l3 ⊢
    obtain ⟨es2,t3,gv2⟩:=R3
    dsimp only at p2 f3 l3 ⊢
    have few2:es2.size<scanBound:=by rw [<- Array.length_toList,p2.length_eq,Array.length_toList];exact few1
    have km2:=(p2.map x28).trans km
    refine wpAny_bind (gw _ (wpAny_bind (wpAny_storeSet_of (s:={ s with heap:=s.heap.update a (Obj.putSet es1 t2) }) I1.at_ rfl ?_ (fits_of_scanBound few2))))
    refine wpAny_pure ⟨rfl,h _ _ (sb1.trans (Heap.SameBut.update _ a _)) ⟨es2,ep + 1 + 1,t3,⟨w7t I1,fun e he=>tx1 e (p2.mem_iff.mp he),km2.nodup_iff.mpr nd1,few2,f3,l3.1.trans (l2.trans I.led),.inr (l3.2 n2)⟩,km2⟩⟩
   ·exact wpAny_pure ⟨rfl,h _ _ sb1 ⟨es1,ep + 1,t2,I1,km⟩⟩
  refine wpAny_bind (gw gv ?_)
  cases hp:t1.plain with
  | true =>
   simp only [if_true]
   rw [hashByValue_scannable 8 (x:=.str x tk) rfl]
   refine wpAny_bind (wpAny_pure ?_)
   refine wpAny_mono (tail { t1 with plain:=false } (by cases t1;exact f1) l1 rfl) (fun r s' z=>?_) fun _ _ z=>z
   obtain ⟨rfl,z⟩:=z
   exact wpAny_pure z
  | false =>
   simp only [Bool.false_eq_true,if_false]
   refine wpAny_bind (wpAny_pure ?_)
   refine wpAny_mono (tail t1 f1 l1 hp) (fun r s' z=>?_) fun _ _ z=>z
   obtain ⟨rfl,z⟩:=z
   exact wpAny_pure z
theorem w50 {a:Addr}{ss:List Str}{x:Str}{tk:Tok}{Q:Bool->Shared->Prop} (hS:q92 w s.heap a ss) (hr:ss.length + 1<scanBound)
  (h:∀ h' tk',Heap.SameBut a s.heap h'->q92 w h' a (if x∈ss then ss else ss++[x])->Q (!decide (x∈ss)) { s with heap:=h',toks:=tk' }) :
  wpAny (model P w) A (setAdd a (.str x tk)) Q E s:=by
 unfold setAdd
 refine wpAny_holding (wpAny_bind ((strKind P w).pyHash (k:=x) (isS P w x tk) ?_))
 exact w7u (s:={ s with toks:=s.toks + 1 }) hS hr h
end
end L2
end
section
namespace L2
open PySem PySem.Spec PyProof.Rows
abbrev q2O (w:World):Obj:={ cls:=.type "set",dict:=none,data:=.set #[] 0 (.fresh 0 0 (!w.params.followText "set-order")) }
theorem w1u (w:World) {h:Heap}{a:Addr} (e:h.get? a=some (q2O w)):q92 w h a [] :=
 ⟨#[],0,_,⟨e,fun e he=>by simp at he,by simp,by decide,rfl,rfl,.inl rfl⟩,by simp⟩
def q1G:List Str->List Str->List Str
 | acc,[]=>acc
 | acc,x::r=>q1G (if x∈acc then acc else acc++[x]) r
theorem q45:∀ (l acc:List Str) (x:Str),x∈q1G acc l↔x∈acc\/x∈l
 | [],acc,x=>by simp [q1G]
 | y::r,acc,x=>by
  rw [q1G,q45 r]
  by_cases h:y∈acc
  ·rw [if_pos h];simp only [List.mem_cons]
   constructor
   ·exact fun z=>z.elim .inl fun z=>.inr (.inr z)
   ·rintro (z | z | z)
    ·exact .inl z
    ·exact .inl (z ▸ h)
    ·exact .inr z
  ·rw [if_neg h];simp [List.mem_append,or_assoc]
theorem q3G:∀ (l acc:List Str),acc.Nodup->(q1G acc l).Nodup
 | [],acc,h=>h
 | y::r,acc,h=>by
  rw [q1G]
  refine q3G r _ ?_
  by_cases hy:y∈acc
  ·rw [if_pos hy];exact h
  ·rw [if_neg hy,List.nodup_append]
   exact ⟨h,by simp,fun a ha b hb e=>hy (by rw [List.mem_singleton] at hb;rw [<- hb,<- e];exact ha)⟩
theorem q3c:∀ (l acc:List Str),(q1G acc l).length<=acc.length + l.length
 | [],acc=>by simp [q1G]
 | y::r,acc=>by
  rw [q1G]
  have:=q3c r (if y∈acc then acc else acc++[y])
  by_cases hy:y∈acc
  ·rw [if_pos hy] at this ⊢;simp only [List.length_cons];omega
  ·rw [if_neg hy] at this ⊢;simp only [List.length_cons,List.length_append,List.length_singleton,List.length_nil] at this ⊢;omega
section
variable {prog:Program}{w:World}{A:Around}{E:Value->Shared->Prop}{s:Shared}{R:Result->Shared->Prop}
theorem q92.keep {h h':Heap}{a:Addr}{ss:List Str} (x:q92 w h a ss) (k:∀ o,h.get? a=some o->h'.get? a=some o):q92 w h' a ss :=
 let ⟨es,ep,t,I,p⟩:=x;⟨es,ep,t,⟨k _ I.at_,I.txt,I.nd,I.few,I.fits,I.led,I.pl⟩,p⟩
theorem w0j {I:Addr}{fp wr:List Addr}{n:Nat}{Pv:Nat->Value->Prop}{St:Nat->Heap->Prop} (W:Walks prog w A.in1 I fp wr n Pv St) (D:Addr) (hD:D∉fp) (xs:List Str) (hx:xs.length=n)
  (hv:∀ i v,Pv i v->∃ x t,xs[i]?=some x/\v=.str x t) (hb:n + 1<scanBound) :
  ∀ (k i:Nat) (s:Shared) (acc:List Str),n - i=k->i<=n->acc.length<=i->St i s.heap->q92 w s.heap D acc ->
   (∀ h' tk,(∀ b o,b∉D::wr->s.heap.get? b=some o->h'.get? b=some o)->q92 w h' D (q1G acc (xs.drop i))->R (.ok (.ret .none)) { s with heap:=h',toks:=tk }) ->
   codeAny (model prog w) A (.builtin "set.update.loop" ⟨[.ref D,.ref I],[]⟩) R s:=by
 have hDw:D∉wr:=fun z=>hD (W.sub _ z)
 intro k
 induction k with
 | zero =>
  intro i s acc hk hi hl st hS hR
  obtain rfl:i=n:=by omega
  refine codeAny_builtin PyProof.Rows.F.entry_set_update_loop ?_
  rw [Around.under_plainId PyProof.Rows.F.plain_set_update_loop _]
  show wpAny _ A.in1 (pyNext (.ref I) >>= _) _ _ s
  refine wpAny_bind (W.done s _ _ st fun h' tk kp=>?_)
  refine wpAny_pure (hR h' tk (fun b o hb e=>kp b o (fun z=>hb (List.mem_cons_of_mem _ z)) e) ?_)
  rw [List.drop_of_length_le (by omega)]
  exact hS.keep fun o e=>kp D o hDw e
 | succ k ih =>
  intro i s acc hk hi hl st hS hR
  have hlt:i<n:=by omega
  refine codeAny_builtin PyProof.Rows.F.entry_set_update_loop ?_
  rw [Around.under_plainId PyProof.Rows.F.plain_set_update_loop _]
  show wpAny _ A.in1 (pyNext (.ref I) >>= _) _ _ s
  refine wpAny_bind (W.item i s _ _ hlt st fun v h' tk hP st' kp=>?_)
  obtain ⟨x,t,hxi,rfl⟩:=hv i v hP
  have hS':q92 w h' D acc:=hS.keep fun o e=>kp D o hDw e
  refine wpAny_bind (wpAny_holding (w50 (s:={ s with heap:=h',toks:=tk }) hS' (by omega) fun h2 tk2 sb hS2=>?_))
  refine wpAny_pure ⟨plainId_quiet PyProof.Rows.F.plain_set_update_loop _,ih (i + 1) _ (if x∈acc then acc else acc++[x]) (by omega) hlt ?_ (W.frame _ _ _ st' fun b hb o e=>?_) hS2 fun h3 tk3 k3 hS3=>?_⟩
  ·by_cases z:x∈acc
   ·rw [if_pos z];omega
   ·rw [if_neg z,List.length_append,List.length_singleton];omega
  ·rw [sb.2 b fun z=>hD (z ▸ hb)];exact e
  ·refine hR h3 tk3 (fun b o hb e=>k3 b o hb ?_) ?_
   ·rw [sb.2 b fun z=>hb (by rw [z];exact List.mem_cons_self)]
    exact kp b o (fun z=>hb (List.mem_cons_of_mem _ z)) e
   ·have hd:xs.drop i=x::xs.drop (i + 1):=by
     obtain ⟨h1,h2⟩:=List.getElem?_eq_some_iff.mp hxi
     rw [List.drop_eq_getElem_cons h1,h2]
    rw [hd,q1G];exact hS3
theorem w9k (a:Value) {Q₁:Value->Shared->Prop} (h:Q₁ (.ref s.heap.objs.size) { s with heap:=s.heap.push (q2O w) }) :
  codeAny (model prog w) A (.call (.builtin "set.__new__") ⟨[.type "set",a],[]⟩) (wants Q₁ E) s:=by
 refine codeAny_of_tree ?_
 show wpAny _ A.in1 (do checkBuiltinCall "set.__new__" ⟨[.type "set",a],[]⟩;again (.builtin "set.__new__" ⟨[.type "set",a],[]⟩)) _ _ s
 refine wpAny_bind (wpAny_of_eq (F.newCall_set_1 a) (wpAny_pure ⟨plainId_quiet F.plain_set_new _,codeAny_builtin F.entry_set_new ?_⟩))
 rw [Around.under_plainId F.plain_set_new _]
 unfold Builtin.«set.__new__» Builtin.Frozenset.newClass
 have hsub:=sub_set_self
 obtain ⟨hp,g,d,tk,os⟩:=s
 dsimp only
 wp_walk
 refine wpAny_askSetting (wpAny_pure ?_)
 dsimp only
 simp only [newObj]
 refine wpAny_bind (wpAny_alloc (wpAny_pure ?_))
 exact wpAny_pure h
structure x66 (prog:Program) (w:World) (A:Around) (T:String) (l:Addr) (o:Obj) (items:Array Value):Prop where
 ty:o.cls=.type T
 s1:isSubtype (.type T) (.type "set")=pure false
 s2:isSubtype (.type T) (.type "frozenset")=pure false
 nd:(Value.type T == Value.type "dict")=false
 iter:∀ (s:Shared) (Q:Value->Shared->Prop) (E:Value->Shared->Prop),s.heap.get? l=some o ->
  (∀ ob St,Walks prog w A.in1 s.heap.objs.size [s.heap.objs.size,l] [s.heap.objs.size] items.size (fun i v=>items[i]?=some v) St->St 0 (s.heap.push ob)->Q (.ref s.heap.objs.size) { s with heap:=s.heap.push ob })->wpAny (model prog w) A (pyIter (.ref l)) Q E s
theorem q75 {T:String}{l:Addr}{ol:Obj}{items:Array Value}{xs:List Str}{Q:Value->Shared->Prop}
  (src:x66 prog w A.in1.in1 T l ol items) (hol:s.heap.get? l=some ol) (hi:∀ (i:Nat) (v:Value),items[i]?=some v->∃ x t,xs[i]?=some x/\v=Value.str x t) (hx:xs.length=items.size) (hb:items.size + 1<scanBound)
  (h:∀ (h':Heap) (tk:Nat),q92 w h' s.heap.objs.size (q1G [] xs)->(∀ b o,s.heap.get? b=some o->h'.get? b=some o)->Q (.ref s.heap.objs.size) { s with heap:=h',toks:=tk }) :
  wpAny (model prog w) A (call (.type "set") [.ref l]) Q E s:=by
 obtain ⟨c,tl,hmro⟩:=F.called_set.mro
 have hmade:=F.called_set.made
 have hsub:=F.called_set.sub
 refine wpAny_call (codeAny_of_tree ?_)
 show wpAny _ _ (callAny (.type "set") _) _ _ _
 refine wpAny_pure ⟨Code.quiet_builtin _ (by decide +kernel),codeAny_builtin F.entry_type_call ?_⟩
 rw [Around.under_plain (weight_type_call_type "set" [.ref l] []) rfl]
 have h1:=F.called_set.notType
 have h2:=F.called_set.canCreate
 have hct:=F.typeCall_set_1 (.ref l)
 repeat (any_goals (first | assumption | wp_step))
 refine codeAny_mono (w9k (.ref l) (E:=E) (Q₁:=fun obj s₁=>obj=.ref s.heap.objs.size/\s₁={ s with heap:=s.heap.push (q2O w) }) ⟨rfl,rfl⟩) fun r s₁ hr=>?_
 cases r with
 | error e=>exact hr
 | ok fl =>
  cases fl with
  | ret obj =>
   obtain ⟨rfl,rfl⟩:=hr
   have hS:(s.heap.push (q2O w)).get? s.heap.objs.size=some (q2O w):=Heap.get?_push_size _ rfl
   have hT:Shared.TypeIs { s with heap:=s.heap.push (q2O w) } (.ref s.heap.objs.size) "set":=⟨_,hS,rfl⟩
   have hli:=F.called_set.init.lookup
   have hbi:=F.called_set.init.bind (.ref s.heap.objs.size)
   repeat (any_goals (first | assumption | wp_step))
   refine codeAny_mono (codeAny_call_builtin (R:=wants (fun r s₂=>r=.none/\∃ h' tk,s₂={ s with heap:=h',toks:=tk }/\q92 w h' s.heap.objs.size (q1G [] xs) /\
     (∀ b o,s.heap.get? b=some o->h'.get? b=some o)) E) F.called_set.init.plain F.entry_set_init (check_set_init_1 hT ?_)) fun r₂ s₂ hr₂=>?_
   ·obtain ⟨oc,od,odt,os'⟩:=ol
    obtain ⟨ty,s1,s2,nd,iter⟩:=src
    have ty:oc=.type T:=ty
    subst ty
    have hol':(s.heap.push (q2O w)).get? l=some { cls:=.type T,dict:=od,data:=odt,slots:=os' }:=Heap.get?_push_of_some _ hol
    unfold Builtin.«set.__init__» noKeywords Builtin.Frozenset.updateFrom
    generalize hPI:pyIter=PI
    wp_walk
    subst hPI
    refine iter { s with heap:=s.heap.push (q2O w) } _ _ hol' fun ob St W st=>?_
    have hlS:l<s.heap.objs.size:=Heap.lt_size hol
    refine wpAny_bind (wpAny_runValue ?_)
    have szp:(s.heap.push (q2O w)).objs.size=s.heap.objs.size + 1:=Heap.size_push ..
    refine w0j (A:=A.in1.in1) W s.heap.objs.size (by rw [szp];simp only [List.mem_cons,List.not_mem_nil,or_false,not_or];exact ⟨Nat.ne_of_lt (Nat.lt_succ_self _),Nat.ne_of_gt hlS⟩) xs hx hi hb items.size 0 _ [] (by omega) (Nat.zero_le _) (Nat.le_refl _) st (w1u w (Heap.get?_push_of_some _ hS)) fun h' tk kp hS'=>?_
    show wpAny _ _ _ _ _ _
    refine wpAny_pure ?_
    show wpAny _ _ (ret Value.none) _ _ _
    refine wpAny_pure ⟨rfl,h',tk,rfl,hS',fun b o e=>kp b o ?_ (Heap.get?_push_of_some _ (Heap.get?_push_of_some _ e))⟩
    have:=Heap.lt_size e
    rw [szp]
    simp only [List.mem_cons,List.not_mem_nil,or_false,not_or]
    exact ⟨Nat.ne_of_lt this,Nat.ne_of_lt (Nat.lt_succ_of_lt this)⟩
   ·cases r₂ with
    | error e=>exact hr₂
    | ok fl₂ =>
     cases fl₂ with
     | ret r =>
      obtain ⟨rfl,h',tk,rfl,hS',hk'⟩:=hr₂
      repeat (any_goals (first | assumption | wp_step))
      exact h _ _ hS' hk'
     | next=>exact hr₂.elim
     | brk=>exact hr₂.elim
     | cont=>exact hr₂.elim
  | next=>exact hr.elim
  | brk=>exact hr.elim
  | cont=>exact hr.elim
theorem w9l {l:Addr}{o:Obj}{its:List Value} (hh:A.handled=none) (e0:o.cls=.type "list") (e1:∃ n,o.data=.seq its.toArray n):x66 prog w A "list" l o its.toArray :=
 ⟨e0,F.sub_list_set,F.sub_list_frozenset,by decide,fun s Q E e h=>wpAny_pyIter_list ⟨_,e,e0,e1⟩
  (h _ _ (Walks.list (by simpa using hh) _ l (Nat.ne_of_lt (Heap.lt_size e)) its.toArray) ⟨⟨_,Heap.get?_push_size _ rfl,rfl,rfl⟩,⟨_,Heap.get?_push_of_some _ e,e0,e1⟩⟩)⟩
theorem x29 {l:Addr}{o:Obj}{its:List Value} (hh:A.handled=none) (e0:o.cls=.type "tuple") (e1:∃ n,o.data=.seq its.toArray n):x66 prog w A "tuple" l o its.toArray :=
 ⟨e0,F.sub_tuple_set,F.sub_tuple_frozenset,by decide,fun s Q E e h=>wpAny_pyIter_tuple ⟨_,e,e0,e1⟩
  (h _ _ (Walks.tuple (by simpa using hh) _ l (Nat.ne_of_lt (Heap.lt_size e)) its.toArray) ⟨⟨_,Heap.get?_push_size _ rfl,rfl,rfl⟩,⟨_,Heap.get?_push_of_some _ e,e0,e1⟩⟩)⟩
end
end L2
end
section
namespace L2
open PySem PySem.Spec PyProof.Rows
namespace SI
theorem entry_iter:entryFor table "set.__iter__"=some Builtin.«frozenset.__iter__» :=
 entryFor_alias (id':="frozenset.__iter__") (by kernel_rfl) rfl (by decide +kernel) (by kernel_rfl)
theorem slot_next:Slot "set_iterator" "__next__" "set_iterator.__next__":=by
 refine .of (owner:="set_iterator") (n:="__next__") ?_ ?_ ?_ ?_ ?_ ?_
 ·rw [typeLookup_type,builtinLookup_eq_fast];kernel_rfl
 ·decide +kernel
 ·decide +kernel
 ·decide +kernel
 ·first
   | exact .inl (by decide +kernel)
   | exact .inr (by decide +kernel)
 ·rw [isSubtype_type];kernel_rfl
theorem entry_next:entryFor table "set_iterator.__next__"=some Builtin.«set_iterator.__next__» :=
 entryFor_of_tree (by kernel_rfl)
theorem w51:Manifest.owners.lookup (String.ofList ['r','o','t','a','r','e','t','i','_','t','e','s'].reverse)=some Manifest.sig_set_iterator:=by kernel_rfl
theorem args_next (a:Value):argsOk "set_iterator.__next__" ⟨[a],[]⟩:=by
 unfold argsOk
 rw [signature?_of (id:="set_iterator.__next__") (n:=['_','_','t','x','e','n','_','_']) (o:=['r','o','t','a','r','e','t','i','_','t','e','s']) (by kernel_rfl) w51]
 kernel_rfl
theorem args_iter (a:Value):argsOk "set_iterator.__iter__" ⟨[a],[]⟩:=by
 unfold argsOk
 rw [signature?_of (id:="set_iterator.__iter__") (n:=['_','_','r','e','t','i','_','_']) (o:=['r','o','t','a','r','e','t','i','_','t','e','s']) (by kernel_rfl) w51]
 kernel_rfl
theorem entry_self:entryFor table "set_iterator.__iter__"=some Builtin.«dict_keyiterator.__iter__» :=
 entryFor_alias (id':="dict_keyiterator.__iter__") (by kernel_rfl) rfl (by decide +kernel) (by kernel_rfl)
theorem slot_iter:Slot "set_iterator" "__iter__" "set_iterator.__iter__":=by
 refine .of (owner:="set_iterator") (n:="__iter__") ?_ ?_ ?_ ?_ ?_ ?_
 ·rw [typeLookup_type,builtinLookup_eq_fast];kernel_rfl
 ·decide +kernel
 ·decide +kernel
 ·decide +kernel
 ·first
   | exact .inl (by decide +kernel)
   | exact .inr (by decide +kernel)
 ·rw [isSubtype_type];kernel_rfl
end SI
end L2
end
section
namespace L2
open PySem PySem.Spec PyProof.Rows
theorem q6i {α:Type}:∀ {l:List α}{i:Nat} (h:i<l.length),(l[i]::l.eraseIdx i).Perm l
 | x::r,0,_=>.refl _
 | x::r,i + 1,h=>by
  have q:=q6i (l:=r) (i:=i) (by simpa using h)
  rw [List.getElem_cons_succ,List.eraseIdx_cons_succ]
  exact (List.Perm.swap _ _ _).trans (q.cons x)
section
variable {M:Model}{A:Around}{E:Value->Shared->Prop}{s:Shared}
theorem w7v {src:Source}{n:Nat}{Q:Nat->Shared->Prop} (hn:n≠0) (h:∀ i d,i<n->Q i { s with drawn:=d }):wpAny M A (choose src n) Q E s :=
 fun _ _ _=>⟨hn,h _ _ (Nat.mod_lt _ (Nat.pos_of_ne_zero hn))⟩
theorem q76 {α:Type}:∀ (n:Nat) (xs:List α) (s:Shared) (Q:List α->Shared->Prop),n=xs.length->(∀ ys d,ys.Perm xs->Q ys { s with drawn:=d })->wpAny M A (drawOrder n xs) Q E s
 | 0,xs,s,Q,hn,h=>by
  obtain rfl:xs=[]:=List.length_eq_zero_iff.mp hn.symm
  exact wpAny_pure (h [] s.drawn .nil)
 | n + 1,[],s,Q,hn,h=>by cases hn
 | n + 1,x::r,s,Q,hn,h=>by
  show wpAny M A (choose .order (x::r).length >>= _) Q E s
  refine wpAny_bind (w7v (by simp) fun i d hi=>?_)
  rw [List.getElem?_eq_getElem hi]
  refine wpAny_bind (q76 n _ _ _ (by rw [List.length_eraseIdx_of_lt hi];omega) fun ys d' p=>wpAny_pure ?_)
  exact h _ _ ((p.cons _).trans (q6i hi))
end
theorem w7w {α:Type} (next:Nat->Nat):∀ (n k:Nat) (left:List α) (out:Array α),n=left.length->(pickOrder.go next n k left out).toList.Perm (out.toList++left)
 | 0,k,left,out,hn=>by
  obtain rfl:left=[]:=List.length_eq_zero_iff.mp hn.symm
  rw [pickOrder.go,List.append_nil]
 | n + 1,k,left,out,hn=>by
  have hl:next k % left.length<left.length:=Nat.mod_lt _ (by omega)
  rw [pickOrder.go,List.getElem?_eq_getElem hl]
  refine (w7w next n (k + 1) _ _ (by rw [List.length_eraseIdx_of_lt hl];omega)).trans ?_
  rw [Array.toList_push,List.append_assoc]
  exact (q6i hl).append_left _
theorem w1v {α:Type} (next:Nat->Nat) (xs:Array α):(pickOrder next xs).toList.Perm xs.toList:=by
 have:=w7w next xs.size 0 xs.toList #[] (by simp)
 simpa [pickOrder] using this
def SIt (h:Heap) (I S:Addr) (first:Value) (i n ep:Nat):Prop:=h.get? I=some { cls:=.type "set_iterator",data:=.fields #[first,.int i 0,.ref S,.int n 0,.int ep 0] }
section
variable {prog:Program}{w:World}{A:Around}{E:Value->Shared->Prop}{s:Shared}{I S:Addr}{es:Array (Int×Value)}{ep:Nat}{t:SetTable}{i n:Nat}{first:Value}
theorem SIt.put {f f':Value}{j j':Nat}{k:Nat}{x:Value}{h:Heap} (hit:SIt h I S f j n ep) (e:(#[f,.int j 0,.ref S,.int n 0,.int ep 0] : Array Value).setIfInBounds k x=#[f',.int j' 0,.ref S,.int n 0,.int ep 0]) :
  SIt (h.update I (Obj.mapFields (·.setIfInBounds k x))) I S f' j' n ep:=by
 have q:=Heap.get?_update_self (Obj.mapFields (·.setIfInBounds k x)) hit rfl
 unfold SIt
 rw [q]
 show some ({ cls:=.type "set_iterator",data:=.fields ((#[f,.int j 0,.ref S,.int n 0,.int ep 0] : Array Value).setIfInBounds k x) }:Obj)=_
 rw [e]
theorem q6j {Q:Option Value->Shared->Prop} (hit:SIt s.heap I S first i n ep) (hS:q3F w s.heap S es ep t) (hn:n=es.size)
  (h:wpAny (model prog w) A.in1 (do
   if let .int slot _:=first then
    match <- setNext S slot.toNat i ep with
    | some (x,next) =>
     setField (.ref I) 0 (rawInt next)
     setField (.ref I) 1 (rawInt (i + 1))
     ret x
    | none=>setField (.ref I) 2 .none;raiseNew (<- newExc (.type "StopIteration") [])
   else
    let some places <- seqItems? first | unsupported "internal:set_iterator"
    match places[i]? with
    | some (.int place _) =>
     let x <- setNextDrawn S place.toNat ep
     setField (.ref I) 1 (rawInt (i + 1))
     ret x
    | some _=>unsupported "internal:set_iterator"
    | none=>setField (.ref I) 0 (rawInt 0);setField (.ref I) 2 .none;raiseNew (<- newExc (.type "StopIteration") []))
   (fun fin s'=>∃ v,fin=.done (.ret v)/\Q (some v) s') (fun e s'=>wpAny (model prog w) A (isInstance e (.type "StopIteration")) (fun b s''=>b=true/\Q none s'') E s') s) :
  wpAny (model prog w) A (pyNext (.ref I)) Q E s:=by
 unfold pyNext
 refine wpAny_bind (wpAny_attempt ?_)
 refine wpAny_callSpecial?_slot (name:=Str.ofString "__next__") ⟨_,hit,rfl⟩ SI.slot_next ?_
 refine wpAny_call_entry SI.slot_next ⟨_,hit,rfl⟩ SI.entry_next ?_ (SI.args_next _)
 show wpAny _ _ (fieldsOf (.ref I) >>= _) _ _ s
 refine wpAny_bind (wpAny_fieldsOf hit rfl ?_)
 show wpAny _ _ (setEntries S >>= _) _ _ s
 refine wpAny_bind (wpAny_setEntries_of hS.at_ rfl hS.fits ?_)
 rw [if_neg (by rw [hn];simp)]
 refine wpAny_mono h (fun fin s' z=>?_) fun e s' z=>?_
 ·obtain ⟨v,rfl,q⟩:=z
  exact ⟨v,rfl,wpAny_pure q⟩
 ·refine wpAny_bind (wpAny_mono z (fun b s'' ⟨hb,q⟩=>?_) fun _ _ z=>z)
  subst hb
  exact wpAny_pure q
theorem w35 {B:Around}{Q:Option Value->Shared->Prop}{Q':Fin->Shared->Prop}{o:Obj}{vs:Array Value} (hh:B.handled=none) (ho:s.heap.get? I=some o) (hd:o.data=.fields vs) (hz:2<vs.size)
  (h:∀ h',Heap.ExtBut I s.heap h'->Q none { s with heap:=h' }) :
  wpAny (model prog w) B (do setField (.ref I) 2 .none;raiseNew (<- newExc (.type "StopIteration") []))
   Q' (fun e s'=>wpAny (model prog w) A (isInstance e (.type "StopIteration")) (fun b s''=>b=true/\Q none s'') E s') s:=by
 refine wpAny_bind (wpAny_setField ho hd hz ?_)
 show wpAny _ _ (newExc (.type "StopIteration") [] >>= _) _ _ _
 refine wpAny_bind ?_
 simp only [newExc,newTuple]
 refine wpAny_bind (wpAny_newObj_type ?_ (by size_fits))
 refine wpAny_bind (m:=firstArgMember _ _) (wpAny_of_eq (a:=Value.none) ?_ ?_)
 ·first
   | rfl
   | (simp only [firstArgMember];rfl)
 refine wpAny_newObj_type ?_ (by size_fits)
 simp only [raiseNew]
 refine wpAny_bind (wpAny_handled ?_)
 rw [hh]
 refine wpAny_bind (wpAny_pure (wpAny_throw ?_))
 refine wpAny_isInstance (T:="StopIteration") (b:=true) ⟨_,Heap.get?_push_size _ rfl,rfl⟩ isSubtype_stop ⟨rfl,?_⟩
 exact h _ (((Heap.SameBut.update ..).extBut.push _).push _)
end
end L2
end
section
namespace L2
open PySem PySem.Spec PyProof.Rows
section
variable {prog:Program}{w:World}{A:Around}{E:Value->Shared->Prop}{s:Shared}{I S:Addr}{es:Array (Int×Value)}{ep:Nat}{t:SetTable}{i n:Nat}{first:Value}
theorem q3F.keep {h h':Heap} (x:q3F w h S es ep t) (k:∀ o,h.get? S=some o->h'.get? S=some o):q3F w h' S es ep t:=⟨k _ x.at_,x.txt,x.nd,x.few,x.fits,x.led,x.pl⟩
theorem w36 {Q:Value->Shared->Prop} (hit:SIt s.heap I S first i n ep) (h:Q (.ref I) s):wpAny (model prog w) A (pyIter (.ref I)) Q E s:=by
 refine wpAny_pyIter_slot ⟨_,hit,rfl⟩ SI.slot_iter (wpAny_call_entry SI.slot_iter ⟨_,hit,rfl⟩ SI.entry_self ?_ (SI.args_iter _))
 show wpAny _ _ (ret (.ref I)) _ _ s
 exact wpAny_pure ⟨_,rfl,"set_iterator",_,⟨_,hit,rfl⟩,SI.slot_next.lookup,h⟩
theorem q1H {Q:Bool->Shared->Prop}{B:Around} (h:Q (w.params.followText "set-order") s):wpAny (model prog w) B setsByText Q E s:=by
 unfold setsByText
 exact wpAny_bind (wpAny_askSetting (wpAny_pure h))
theorem x0u {B:Around}{Q':Fin->Shared->Prop}{x:Value}{nx:Nat}{E':Value->Shared->Prop} (hit:SIt s.heap I S first i n ep)
  (h:∀ h',SIt h' I S (.int nx 0) (i + 1) n ep->Heap.SameBut I s.heap h'->Q' (.done (.ret x)) { s with heap:=h' }) :
  wpAny (model prog w) B (do setField (.ref I) 0 (rawInt nx);setField (.ref I) 1 (rawInt (i + 1));ret x) Q' E' s:=by
 refine wpAny_bind (wpAny_setField hit rfl (by simp) ?_)
 have h1:SIt (s.heap.update I (Obj.mapFields (·.setIfInBounds 0 (rawInt nx)))) I S (.int nx 0) i n ep:=hit.put (by simp [rawInt])
 refine wpAny_bind (wpAny_setField h1 rfl (by simp) ?_)
 have h2:SIt ((s.heap.update I (Obj.mapFields (·.setIfInBounds 0 (rawInt nx)))).update I (Obj.mapFields (·.setIfInBounds 1 (rawInt (i + 1))))) I S (.int nx 0) (i + 1) n ep:=h1.put (by simp [rawInt])
 exact wpAny_pure (h _ h2 ((Heap.SameBut.update ..).trans (Heap.SameBut.update ..)))
theorem q82 (f:Nat->Nat) (es:Array (Int×Value)):(pickOrder f es).size=es.size:=by
 rw [<- Array.length_toList,(w1v f es).length_eq,Array.length_toList]
theorem w5R (hh:A.handled=none) (hw:w.params.followText "set-order"=true) (hne:S≠I) :
  Walks prog w A I [I,S] [I] es.size (fun i v=>((pickOrder (w.params.setOrder S ep) es).toList.map (·.2))[i]?=some v) (fun i h=>SIt h I S (.int 0 0) i es.size ep/\q3F w h S es ep t) where
 sub:=fun b hb=>by simp at hb;simp [hb]
 frame:=fun i h h' st k=>⟨k I (by simp) _ st.1,st.2.keep fun o e=>k S (by simp) o e⟩
 item:=fun i s Q E hi st hQ=>by
  obtain ⟨hit,hS⟩:=st
  refine q6j hit hS rfl ?_
  dsimp only
  unfold setNext setWalk
  refine wpAny_bind (wpAny_bind (wpAny_setState_of hS.at_ rfl hS.fits (wpAny_bind (q1H ?_))))
  rw [hw]
  simp only [if_true,bne_self_eq_false,Bool.false_eq_true,if_false]
  refine wpAny_bind (wpAny_bind (wpAny_setState_of hS.at_ rfl hS.fits (wpAny_bind (q1H ?_))))
  rw [hw]
  simp only [if_true]
  refine wpAny_bind (wpAny_askSetting (wpAny_pure (wpAny_pure ?_)))
  have hi':i<(pickOrder (w.params.setOrder S ep) es).size:=by rw [q82];exact hi
  show wpAny _ _ (match ((pickOrder (w.params.setOrder S ep) es)[i]?).map fun e=>(e.2,(0:Int).toNat) with
   | some (x,next)=>do setField (.ref I) 0 (rawInt next);setField (.ref I) 1 (rawInt (i + 1));ret x
   | none=>do setField (.ref I) 2 .none;raiseNew (<- newExc (.type "StopIteration") [])) _ _ s
  rw [getElem?_pos _ i hi']
  refine x0u (nx:=0) hit fun h' h1 sb=>⟨_,rfl,hQ _ h' s.toks ?_ ⟨h1,hS.keep fun o e=>(sb.2 S hne).trans e⟩ fun b o hb e=>(sb.2 b fun z=>hb (by simp [z])).trans e⟩
  simp [hi']
 done:=fun s Q E st hQ=>by
  obtain ⟨hit,hS⟩:=st
  refine q6j hit hS rfl ?_
  dsimp only
  unfold setNext setWalk
  refine wpAny_bind (wpAny_bind (wpAny_setState_of hS.at_ rfl hS.fits (wpAny_bind (q1H ?_))))
  rw [hw]
  simp only [if_true,bne_self_eq_false,Bool.false_eq_true,if_false]
  refine wpAny_bind (wpAny_bind (wpAny_setState_of hS.at_ rfl hS.fits (wpAny_bind (q1H ?_))))
  rw [hw]
  simp only [if_true]
  refine wpAny_bind (wpAny_askSetting (wpAny_pure (wpAny_pure ?_)))
  show wpAny _ _ (match ((pickOrder (w.params.setOrder S ep) es)[es.size]?).map fun e=>(e.2,(0:Int).toNat) with
   | some (x,next)=>do setField (.ref I) 0 (rawInt next);setField (.ref I) 1 (rawInt (es.size + 1));ret x
   | none=>do setField (.ref I) 2 .none;raiseNew (<- newExc (.type "StopIteration") [])) _ _ s
  rw [getElem?_neg _ es.size (by rw [q82];exact Nat.lt_irrefl _)]
  exact w35 (by simpa using hh) hit rfl (by simp) fun h' eb=>hQ h' s.toks fun b o hb e=>eb b o (fun z=>hb (by simp [z])) e
 self:=fun i s Q E st h=>w36 st.1 h
inductive SPl (h:Heap) (T:Addr) (ps:List Nat):Prop
 | mk (o k:_) (h0:h.get? T=some o) (h1:o.data=.seq (ps.map fun (p:Nat)=>Value.int (p:Int) 0).toArray k):SPl h T ps
theorem w37 (hh:A.handled=none) {T:Addr}{ps:List Nat} (hne:S≠I) (hT:T≠I) (hp:∀ p∈ps,p<es.size) (hn:ps.length=es.size) :
  Walks prog w A I [I,S,T] [I] es.size (fun i v=>(ps.map fun p=>(es.getD p (0,.none)).2)[i]?=some v) (fun i h=>SIt h I S (.ref T) i es.size ep/\q3F w h S es ep t/\SPl h T ps) where
 sub:=fun b hb=>by simp at hb;simp [hb]
 frame:=fun i h h' st k=>⟨k I (by simp) _ st.1,st.2.1.keep fun o e=>k S (by simp) o e,let ⟨o,q,e,d⟩:=st.2.2;⟨o,q,k T (by simp) o e,d⟩⟩
 item:=fun i s Q E hi st hQ=>by
  obtain ⟨hit,hS,o,q,e,d⟩:=st
  refine q6j hit hS rfl ?_
  dsimp only
  refine wpAny_bind (wpAny_seqItems e d ?_)
  have hi':i<ps.length:=by omega
  dsimp only
  rw [show ((ps.map fun (p:Nat)=>Value.int (p:Int) 0).toArray)[i]?=some (.int (ps[i] : Nat) 0) by simp [hi']]
  dsimp only
  unfold setNextDrawn
  refine wpAny_bind (wpAny_bind (wpAny_setState_of hS.at_ rfl hS.fits ?_))
  have hlt:=hp ps[i] (List.getElem_mem hi')
  simp only [bne_self_eq_false,Bool.false_eq_true,if_false,Int.toNat_natCast]
  rw [getElem?_pos es ps[i] hlt]
  refine wpAny_pure ?_
  refine wpAny_bind (wpAny_setField hit rfl (by simp) ?_)
  have h1:SIt (s.heap.update I (Obj.mapFields (·.setIfInBounds 1 (rawInt (i + 1))))) I S (.ref T) (i + 1) es.size ep:=hit.put (by simp [rawInt])
  have sb:Heap.SameBut I s.heap (s.heap.update I (Obj.mapFields (·.setIfInBounds 1 (rawInt (i + 1))))):=Heap.SameBut.update ..
  refine wpAny_pure ⟨_,rfl,hQ _ _ s.toks ?_ ⟨h1,hS.keep fun o e=>(sb.2 S hne).trans e,o,q,(sb.2 T hT).trans e,d⟩ fun b o hb e=>(sb.2 b fun z=>hb (by simp [z])).trans e⟩
  simp [hi',hlt]
 done:=fun s Q E st hQ=>by
  obtain ⟨hit,hS,o,q,e,d⟩:=st
  refine q6j hit hS rfl ?_
  dsimp only
  refine wpAny_bind (wpAny_seqItems e d ?_)
  dsimp only
  rw [show ((ps.map fun (p:Nat)=>Value.int (p:Int) 0).toArray)[es.size]?=none by simp [<- hn]]
  dsimp only
  refine wpAny_bind (wpAny_setField hit rfl (by simp) ?_)
  have h1:SIt (s.heap.update I (Obj.mapFields (·.setIfInBounds 0 (rawInt 0)))) I S (.int 0 0) es.size es.size ep:=hit.put (by simp [rawInt])
  have sb:Heap.SameBut I s.heap (s.heap.update I (Obj.mapFields (·.setIfInBounds 0 (rawInt 0)))):=Heap.SameBut.update ..
  exact w35 (s:={ s with heap:=s.heap.update I (Obj.mapFields (·.setIfInBounds 0 (rawInt 0))) }) (by simpa using hh) h1 rfl (by simp) fun h' eb=>hQ h' s.toks fun b o hb e=>eb b o (fun z=>hb (by simp [z])) ((sb.2 b fun z=>hb (by simp [z])).trans e)
 self:=fun i s Q E st h=>w36 st.1 h
theorem w9m {p:Array Nat}{j:Nat} (h:p=#[j]):SetTable.below p 0=0:=by subst h;simp [SetTable.below,SetTable.below.go]
theorem w9n {p:Array Nat}{j:Nat} (h:p=#[j]):SetTable.below p (j + 1)=1:=by subst h;simp [SetTable.below,SetTable.below.go]
theorem w7x {t : SetTable} (h : t.fits 1 = true) : ∃ j, t.place = #[j] := by
  have h1 : t.place.size = 1 := by
    simp only [SetTable.fits, Bool.and_eq_true, beq_iff_eq] at h; exact h.1
  exact ⟨t.place[0], by apply Array.ext; · simp [h1]
                        · intro i h2 h3; have : i = 0 := by omega
                          subst this; simp⟩
theorem x41 {B:Around}{k:Unit->Sem (Option (Value×Nat))}{Q:Option (Value×Nat)->Shared->Prop} (hl:t.led=true) (h:wpAny (model prog w) B (k ()) Q E s) :
  wpAny (model prog w) B ((if (!t.led && !es.isEmpty)=true then unsupported "set:maker-not-led" else pure ()) >>= k) Q E s:=by
 rw [if_neg (by rw [hl];simp)]
 exact wpAny_bind (wpAny_pure h)
theorem q77 {B:Around}{slot g:Nat}{Q:Option (Value×Nat)->Shared->Prop} (hw:w.params.followText "set-order"=false) (hS:q3F w s.heap S es ep t) (h1:es.size<=1)
  (h:Q (match es[SetTable.below t.place slot]?,t.place[SetTable.below t.place slot]? with | some (_,x),some j=>some (x,j + 1) | _,_=>none) s):wpAny (model prog w) B (setNext S slot g ep) Q E s:=by
 unfold setNext
 refine wpAny_bind (wpAny_setState_of hS.at_ rfl hS.fits (wpAny_bind (q1H ?_)))
 rw [hw]
 simp only [Bool.false_eq_true,if_false]
 split
 ·rename_i z
  exact absurd (show (!t.plain && decide (es.size > 1))=true from z) (by simp;omega)
 ·have hl:t.led=true:=by rw [hS.led,hw];rfl
  exact x41 hl (wpAny_pure h)
theorem w7y (hh:A.handled=none) (hw:w.params.followText "set-order"=false) (hne:S≠I) (h1:es.size<=1) :
  Walks prog w A I [I,S] [I] es.size (fun i v=>(es.toList.map (·.2))[i]?=some v)
   (fun i h=>∃ k,SIt h I S (.int (k:Nat) 0) i es.size ep/\q3F w h S es ep t/\(i=0->k=0)/\(i=1->es.size=1->∃ j,t.place=#[j]/\k=j + 1)) where
 sub:=fun b hb=>by simp at hb;simp [hb]
 frame:=fun i h h' st k=>let ⟨c,a1,a2,a3⟩:=st;⟨c,k I (by simp) _ a1,a2.keep fun o e=>k S (by simp) o e,a3⟩
 item:=fun i s Q E hi st hQ=>by
  obtain ⟨c,hit,hS,c0,c1⟩:=st
  have hi0:i=0:=by omega
  subst hi0
  obtain rfl:c=0:=c0 rfl
  have e1:es.size=1:=by omega
  obtain ⟨j,hj⟩:=w7x (t:=t) (by rw [<- e1];exact hS.fits)
  refine q6j hit hS rfl ?_
  dsimp only
  refine wpAny_bind (q77 hw hS h1 ?_)
  rw [show (((0:Nat):Int).toNat)=0 from rfl,w9m hj,getElem?_pos es 0 (by omega),hj]
  refine x0u (nx:=j + 1) hit fun h' h1 sb=>⟨_,rfl,hQ _ h' s.toks ?_ ⟨j + 1,h1,hS.keep fun o e=>(sb.2 S hne).trans e,by simp,fun _ _=>⟨j,hj,rfl⟩⟩ fun b o hb e=>(sb.2 b fun z=>hb (by simp [z])).trans e⟩
  simp [e1]
 done:=fun s Q E st hQ=>by
  obtain ⟨c,hit,hS,c0,c1⟩:=st
  refine q6j hit hS rfl ?_
  dsimp only
  refine wpAny_bind (q77 hw hS h1 ?_)
  have hz:es[SetTable.below t.place ((c:Nat):Int).toNat]?=none:=by
   rcases Nat.eq_zero_or_pos es.size with z | z
   ·rw [getElem?_neg];omega
   ·have e1:es.size=1:=by omega
    obtain ⟨j,hj,hc⟩:=c1 e1 e1
    rw [hc,show (((j + 1:Nat):Int).toNat)=j + 1 from rfl,w9n hj,getElem?_neg];omega
  rw [hz]
  exact w35 (by simpa using hh) hit rfl (by simp) fun h' eb=>hQ h' s.toks fun b o hb e=>eb b o (fun z=>hb (by simp [z])) e
 self:=fun i s Q E st h=>let ⟨_,a1,_⟩:=st;w36 a1 h
theorem w5S {Q:Value->Shared->Prop} (hh:A.handled=none) (hS:q3F w s.heap S es ep t)
  (h:∀ (I:Addr) (fp:List Addr) (ord:List Value) (St:Nat->Heap->Prop) (h':Heap) (d:Drawn),s.heap.objs.size<=I->(∀ b∈fp,b=S\/s.heap.objs.size<=b)->(∀ b∈fp,b<h'.objs.size)->ord.Perm (es.toList.map (·.2))->(∀ B:Around,B.handled=none->Walks prog w B I fp [I] ord.length (fun i v=>ord[i]?=some v) St)->St 0 h' ->
   (∀ b o,s.heap.get? b=some o->h'.get? b=some o)->Shared.TypeIs { s with heap:=h',drawn:=d } (.ref I) "set_iterator"->Q (.ref I) { s with heap:=h',drawn:=d }):wpAny (model prog w) A (pyIter (.ref S)) Q E s:=by
 have hT:s.TypeIs (.ref S) "set":=⟨_,hS.at_,rfl⟩
 have hlt:=Heap.lt_size hS.at_
 refine wpAny_pyIter_slot hT F.slot_set_iter (wpAny_call_entry F.slot_set_iter hT SI.entry_iter ?_ (F.args_set_iter_1 _))
 show wpAny _ _ (Builtin.Frozenset.sizeOf S >>= _) _ _ s
 unfold Builtin.Frozenset.sizeOf
 refine wpAny_bind (wpAny_bind (wpAny_setEntries_of hS.at_ rfl hS.fits (wpAny_pure ?_)))
 show wpAny _ _ (setDrawn S >>= _) _ _ s
 unfold setDrawn
 refine wpAny_bind (wpAny_bind (wpAny_setState_of hS.at_ rfl hS.fits (wpAny_bind (q1H (wpAny_pure ?_)))))
 have fin:∀ (first:Value) (fp:List Addr) (ord:List Value) (St:Nat->Heap->Prop) (h':Heap) (d:Drawn),(∀ b o,s.heap.get? b=some o->h'.get? b=some o)->s.heap.objs.size<=h'.objs.size ->
   (∀ b∈fp,b=S\/b=h'.objs.size\/(s.heap.objs.size<=b/\b<h'.objs.size))->ord.Perm (es.toList.map (·.2))->(∀ B:Around,B.handled=none->Walks prog w B h'.objs.size fp [h'.objs.size] ord.length (fun i v=>ord[i]?=some v) St) ->
   (∀ h'':Heap,(∀ b o,h'.get? b=some o->h''.get? b=some o)->SIt h'' h'.objs.size S first 0 es.size ep->St 0 h'') ->
   wpAny (model prog w) A.in1 (setEpoch S >>= fun e=>newFields "set_iterator" [first,rawInt 0,.ref S,rawInt es.size,rawInt e] >>= fun x=>ret x) (fun fin s'=>∃ v,fin=.done (.ret v)/\∃ T' r,s'.TypeIs v T'/\typeLookup (.type T') "__next__"=pure (some r)/\Q v s') E { s with heap:=h',drawn:=d }:=by
  intro first fp ord St h' d kp hsz hfp pm W st
  have hS':q3F w h' S es ep t:=hS.keep fun o e=>kp S o e
  refine wpAny_bind (wpAny_setEpoch_of (s:={ s with heap:=h',drawn:=d }) hS'.at_ rfl hS'.fits ?_)
  refine wpAny_bind (wpAny_newObj_type ?_ (by size_fits))
  have gp:∀ b o,h'.get? b=some o->(h'.push { cls:=.type "set_iterator",dict:=none,data:=.fields #[first,rawInt 0,.ref S,rawInt es.size,rawInt ep] }).get? b=some o:=fun b o e=>Heap.get?_push_of_some _ e
  have it:(h'.push { cls:=.type "set_iterator",dict:=none,data:=.fields #[first,rawInt 0,.ref S,rawInt es.size,rawInt ep] }).get? h'.objs.size=some { cls:=.type "set_iterator",dict:=none,data:=.fields #[first,rawInt 0,.ref S,rawInt es.size,rawInt ep] }:=Heap.get?_push_size _ rfl
  refine wpAny_pure ⟨_,rfl,"set_iterator",_,⟨_,it,rfl⟩,SI.slot_next.lookup,h h'.objs.size fp ord St _ d hsz (fun b hb=>?_) (fun b hb=>?_) pm W (st _ gp it) (fun b o e=>gp b o (kp b o e)) ⟨_,it,rfl⟩⟩
  ·rcases hfp b hb with z | z | z
   ·exact .inl z
   ·exact .inr (by rw [z];exact hsz)
   ·exact .inr z.1
  ·rw [Heap.size_push]
   rcases hfp b hb with z | z | z
   ·rw [z];exact Nat.lt_succ_of_lt (Nat.lt_of_lt_of_le hlt hsz)
   ·rw [z];exact Nat.lt_succ_self _
   ·exact Nat.lt_succ_of_lt z.2
 dsimp only
 split
 ·rename_i z
  have z:(!w.params.followText "set-order" && (!t.plain && decide (es.size > 1)))=true:=z
  refine wpAny_bind (q76 _ _ _ _ (by simp) fun ys d pm=>?_)
  simp only [newTuple]
  have hyl:ys.length=es.size:=by have:=pm.length_eq;rwa [List.length_range] at this
  have zl:=fits_of_scanBound hS.few
  refine wpAny_bind (wpAny_newObj_type ?_ (by show (ys.map fun (i:Nat)=>rawInt i).toArray.size<=sizeLine;simp;omega))
  have tp:∀ ob:Obj,(s.heap.push ob).objs.size=s.heap.objs.size + 1:=fun ob=>Heap.size_push ..
  refine fin (.ref s.heap.objs.size) [s.heap.objs.size + 1,S,s.heap.objs.size] (ys.map fun p=>(es.getD p (0,.none)).2)
   (fun i h=>SIt h (s.heap.objs.size + 1) S (.ref s.heap.objs.size) i es.size ep/\q3F w h S es ep t/\SPl h s.heap.objs.size ys) (s.heap.push _) d
   (fun b o e=>Heap.get?_push_of_some _ e) (by rw [tp];exact Nat.le_succ _) (fun b hb=>?_) ?_ (fun B hB=>?_) (fun h'' k it=>⟨by rw [tp] at it;exact it,hS.keep fun o e=>k S o (Heap.get?_push_of_some _ e),_,_,k _ _ (Heap.get?_push_size _ rfl),rfl⟩)
  ·simp only [List.mem_cons,List.not_mem_nil,or_false] at hb
   rcases hb with y | y | y
   ·exact .inr (.inl (by rw [tp];exact y))
   ·exact .inl y
   ·exact .inr (.inr ⟨by rw [y];exact Nat.le_refl _,by rw [tp,y];exact Nat.lt_succ_self _⟩)
  ·refine (pm.map _).trans (.of_eq ?_)
   apply List.ext_getElem
   ·simp
   ·intro k h1 h2
    have:k<es.size:=by simpa using h1
    simp [this]
  ·rw [List.length_map,hyl,tp]
   exact w37 hB (Nat.ne_of_lt (Nat.lt_succ_of_lt hlt)) (Nat.ne_of_lt (Nat.lt_succ_self _)) (fun p hp=>List.mem_range.mp (pm.mem_iff.mp hp)) hyl
 ·rename_i z
  have z:¬ (!w.params.followText "set-order" && (!t.plain && decide (es.size > 1)))=true:=z
  refine wpAny_bind (wpAny_pure ?_)
  have hne:S≠s.heap.objs.size:=Nat.ne_of_lt hlt
  cases hw:w.params.followText "set-order" with
  | true =>
   refine fin (rawInt 0) [s.heap.objs.size,S] ((pickOrder (w.params.setOrder S ep) es).toList.map (·.2)) (fun i h=>SIt h s.heap.objs.size S (.int 0 0) i es.size ep/\q3F w h S es ep t) s.heap s.drawn (fun _ _ e=>e) (Nat.le_refl _) (fun b hb=>?_) ((w1v _ es).map _) (fun B hB=>?_) (fun h'' k it=>⟨it,hS.keep fun o e=>k S o e⟩)
   ·simp only [List.mem_cons,List.not_mem_nil,or_false] at hb
    exact hb.elim (fun z=>.inr (.inl z)) .inl
   ·rw [List.length_map,Array.length_toList,q82]
    exact w5R hB hw hne
  | false =>
   have h1:es.size<=1:=by
    rw [hw] at z
    rcases hS.pl with y | y
    ·omega
    ·rw [y] at z;simpa using z
   refine fin (rawInt 0) [s.heap.objs.size,S] (es.toList.map (·.2)) (fun i h=>∃ k,SIt h s.heap.objs.size S (.int (k:Nat) 0) i es.size ep/\q3F w h S es ep t/\(i=0->k=0)/\(i=1->es.size=1->∃ j,t.place=#[j]/\k=j + 1)) s.heap s.drawn (fun _ _ e=>e) (Nat.le_refl _) (fun b hb=>?_) (.refl _) (fun B hB=>?_) (fun h'' k it=>⟨0,it,hS.keep fun o e=>k S o e,fun _=>rfl,fun y=>by cases y⟩)
   ·simp only [List.mem_cons,List.not_mem_nil,or_false] at hb
    exact hb.elim (fun z=>.inr (.inl z)) .inl
   ·rw [List.length_map,Array.length_toList]
    exact w7y hB hw hne h1
end
end L2
end
section
namespace L2
open PySem PySem.Spec PyProof.Rows
section
variable {prog:Program}{w:World}{A:Around}{E:Value->Shared->Prop}{s:Shared}{S:Addr}{es:Array (Int×Value)}{ep:Nat}{t:SetTable}
theorem w38 {Q:List Value->Shared->Prop} (hh:A.handled=none) (hS:q3F w s.heap S es ep t)
  (h:∀ (ord:List Value) (h':Heap) (d:Drawn) (tk:Nat),ord.Perm (es.toList.map (·.2))->(∀ b o,s.heap.get? b=some o->h'.get? b=some o)->s.heap.objs.size<=h'.objs.size->Q ord { s with heap:=h',drawn:=d,toks:=tk }) :
  wpAny (model prog w) A (collect (.ref S)) Q E s:=by
 have hlt:=Heap.lt_size hS.at_
 unfold collect
 refine wpAny_bind (wpAny_runValue (codeAny_builtin F.entry_proto_collect ?_))
 rw [Around.under_plainId F.plain_proto_collect _]
 show wpAny _ A.in1 (newList [] >>= fun l=>again (.builtin "list.__iadd__" ⟨[l,.ref S],[]⟩)) _ _ s
 refine wpAny_bind (wpAny_newObj_type ?_)
 refine wpAny_pure ⟨plainId_quiet F.plain_list_iadd _,codeAny_builtin F.entry_list_iadd ?_⟩
 rw [Around.under_plainId F.plain_list_iadd _]
 let s1:Shared:={ s with heap:=s.heap.push { cls:=.type "list",data:=.seq ([] : List Value).toArray } }
 have sz1:s1.heap.objs.size=s.heap.objs.size + 1:=Heap.size_push ..
 have at1:s1.heap.get? s.heap.objs.size=some { cls:=.type "list",data:=.seq ([] : List Value).toArray }:=Heap.get?_push_size _ rfl
 have hS1:q3F w s1.heap S es ep t:=hS.keep fun o e=>Heap.get?_push_of_some _ e
 show wpAny _ A.in1 (Builtin.List.listExtendWith (.ref s.heap.objs.size) (.ref S) (.ref s.heap.objs.size)) _ _ s1
 have hT1:s1.TypeIs (.ref S) "set":=⟨_,hS1.at_,rfl⟩
 unfold Builtin.List.listExtendWith
 refine wpAny_bind (wpAny_typeOf hT1 ?_)
 have e1:Builtin.List.listSameRef (.ref s.heap.objs.size) (.ref S)=false:=by simp [Builtin.List.listSameRef,Nat.ne_of_gt hlt]
 have e2:(Value.type "set" == Value.type "list")=false:=by decide
 have e3:(Value.type "set" == Value.type "tuple")=false:=by decide
 simp only [e1,e2,e3,Bool.or_false,Bool.false_eq_true,if_false]
 refine wpAny_bind (w5S (A:=A.in1) (by simpa using hh) hS1 fun I fp ord St h' d hI hfp hfl pm W st kp tI=>?_)
 let s2:Shared:={ s1 with heap:=h',drawn:=d }
 have hS2:q3F w s2.heap S es ep t:=hS1.keep fun o e=>kp S o e
 have hT2:s2.TypeIs (.ref S) "set":=⟨_,hS2.at_,rfl⟩
 refine wpAny_bind (wpAny_holding ?_)
 unfold Builtin.List.listLengthHint
 refine wpAny_bind (wpAny_specialOf (s:=s2) hT2 F.slot_set_len.lookup ?_)
 dsimp only
 rw [show splitId "set.__len__"=some ("set","__len__") from by decide +kernel]
 dsimp only
 refine wpAny_bind (wpAny_isInstance (b:=true) (s:=s2) hT2 (by rw [isSubtype_type];kernel_rfl) ?_)
 rw [if_neg (by decide),if_pos (by decide)]
 refine wpAny_bind (wpAny_typeOf (s:=s2) hT2 (wpAny_pure ?_))
 rw [if_pos (by decide)]
 refine wpAny_bind (wpAny_rule ?_)
 have nS:s.heap.objs.size∉fp:=fun z=>by
  rcases hfp _ z with q | q
  ·exact absurd hlt (by rw [<- q];exact Nat.lt_irrefl _)
  ·rw [sz1] at q;exact absurd q (Nat.not_succ_le_self _)
 have at2:s2.heap.get? s.heap.objs.size=some { cls:=.type "list",data:=.seq ([] : List Value).toArray }:=kp _ _ at1
 refine wpAny_bind ?_
 show wpAny _ A.in1 (updateSeq s.heap.objs.size (·.push .none) >>= fun _=>updateSeq s.heap.objs.size (·.pop)) _ _ s2
 refine wpAny_bind (wpAny_updateSeq at2 rfl ?_)
 have at3:=Heap.get?_update_self (Obj.mapSeq (·.push Value.none)) at2 rfl
 refine wpAny_updateSeq at3 rfl ?_
 have at4:=Heap.get?_update_self (Obj.mapSeq (·.pop)) at3 rfl
 have oth:∀ b o,b≠s.heap.objs.size->s2.heap.get? b=some o->((s2.heap.update s.heap.objs.size (Obj.mapSeq (·.push Value.none))).update s.heap.objs.size (Obj.mapSeq (·.pop))).get? b=some o :=
  fun b o hb e=>(Heap.get?_update_other _ _ (Ne.symm hb)).trans ((Heap.get?_update_other _ _ (Ne.symm hb)).trans e)
 have zl:ord.length<=sizeLine:=by rw [pm.length_eq,List.length_map,Array.length_toList];exact fits_of_scanBound hS.few
 have W1:=W A.in1 (by simpa using hh)
 refine wpAny_pure ⟨plainId_quiet F.plain_extend_loop _,codeAny_extend_loopS (A:=A) W1.toS zl _ nS _ ord.length 0 { s2 with heap:=(s2.heap.update s.heap.objs.size (Obj.mapSeq (·.push Value.none))).update s.heap.objs.size (Obj.mapSeq (·.pop)) } _ _ rfl (Nat.zero_le _) (W1.frame 0 _ _ st fun b hb o e=>oth b o (fun z=>nS (z ▸ hb)) e) at4 (ItemsOf.nil _) fun s' acc' c' hm hS' hacc=>?_⟩
 show wpAny _ A (load s.heap.objs.size >>= _) _ _ s'
 refine wpAny_bind (wpAny_load hS' (wpAny_pure ?_))
 have hacc':acc'.toList=ord:=by
  apply List.ext_getElem?
  intro j
  rw [Array.getElem?_toList]
  by_cases hj:j<acc'.size
  ·have:=hacc.2 j acc'[j] (by simp [hj])
   rw [this];simp [hj]
  ·rw [getElem?_neg acc' j hj,List.getElem?_eq_none (by rw [<- hacc.1];omega)]
 rw [hacc']
 obtain ⟨h3,g3,d3,t3,o3⟩:=s'
 obtain rfl:g3=s.gens:=hm.gens
 obtain rfl:d3=d:=hm.drawn
 obtain rfl:o3=s.os:=hm.os
 have old:∀ b o,s.heap.get? b=some o->h3.get? b=some o:=fun b o e=>by
  have hb:=Heap.lt_size e
  refine hm.heap b o ?_ (oth b o (Nat.ne_of_lt hb) (kp b o (Heap.get?_push_of_some _ e)))
  simp only [List.mem_cons,List.not_mem_nil,or_false,not_or]
  exact ⟨Nat.ne_of_lt hb,Nat.ne_of_lt (Nat.lt_of_lt_of_le hb (by have q:=hI;rw [sz1] at q;exact Nat.le_of_succ_le q))⟩
 refine h ord h3 _ t3 pm old ?_
 have:=Heap.lt_size (show h3.get? s.heap.objs.size=some _ from hS')
 exact Nat.le_of_lt this
theorem w39 {x:Value}{Q:Value->Shared->Prop} (hc:wpAny (model prog w) A.in1 (collect x) (fun vs s1=>∃ ss,StrsAre vs ss/\vs.length<64 /\
   ∀ (h':Heap) (vs':List Value) (ss':List Str) (e:Nat),(∀ b o,s1.heap.get? b=some o->h'.get? b=some o)->h'.get? s1.heap.objs.size=some (seqObj "list" vs'.toArray e)->StrsAre vs' ss'->ss'.Perm ss->sortedS ss'=true ->
    Q (.ref s1.heap.objs.size) { s1 with heap:=h' }) E s):wpAny (model prog w) A (call (.builtin "sorted") [x]) Q E s:=by
 refine Calls.call_function_entry kind_sorted plain_sorted entry_sorted (args_sorted1 _) ?_
 unfold Builtin.«sorted»
 refine wpAny_bind (m:=checkCount "sorted" 1 1 _) (wpAny_pure ?_)
 refine wpAny_bind (wpAny_mono hc (fun vs s1 z=>?_) fun _ _ z=>z)
 obtain ⟨ss,hss,h64,hq⟩:=z
 refine wpAny_bind (wpAny_newList ?_)
 have at1:(s1.heap.push (seqObj "list" vs.toArray 0)).get? s1.heap.objs.size=some (seqObj "list" vs.toArray 0):=Heap.get?_push_size _ rfl
 show wpAny _ _ _ _ _ { s1 with heap:=s1.heap.push (seqObj "list" vs.toArray 0) }
 refine wpAny_bind (wpAny_holding (wpAny_call_entry slot_list_sort ⟨_,at1,rfl⟩ entry_list_sort (list_sort_treeK strKind_oneLt at1 hss.keysOf (fun v₁ v₂ q0V e=>keyKind_strs (by rw [<- e];exact hss)) h64 fun st' a1 a2=>⟨_,rfl,?_⟩) (args_list_sort _)))
 obtain ⟨ss',p1,p2,p3⟩:=sorted_out_str hss a1 a2
 obtain ⟨e,at2⟩:=sortedHeap_at (out:=(arrOf st').map (·.2)) at1
 refine wpAny_pure ⟨_,rfl,hq _ _ ss' e (fun b o q=>?_) at2 p1 p2 p3⟩
 have hb:=Heap.lt_size q
 rw [sortedHeap_old (Nat.ne_of_lt hb) (by rw [Heap.size_push];exact Nat.lt_succ_of_lt hb)]
 exact Heap.get?_push_of_some _ q
end
end L2
end
section
namespace L2
open PySem PySem.Spec PyProof.Rows
def ltS (x y:Str):Bool:=decide (x.cps.toList<y.cps.toList)
def x2a (x:Str):List Str->List Str
 | []=>[x]
 | y::r=>if ltS y x then y::x2a x r else x::y::r
def q41:List Str->List Str
 | []=>[]
 | x::r=>x2a x (q41 r)
theorem q83 (x:Str):∀ l,(x2a x l).Perm (x::l)
 | []=>.refl _
 | y::r=>by
  rw [x2a]
  split
  ·exact ((q83 x r).cons y).trans (.swap ..)
  ·exact .refl _
theorem q2n:∀ l,(q41 l).Perm l
 | []=>.refl _
 | x::r=>(q83 x _).trans ((q2n r).cons x)
theorem q4C (x:Str):ltS x x=false:=decide_eq_false (List.lt_irrefl _)
theorem q46 {x y z:Str} (h1:ltS x y=true) (h2:ltS y z=true):ltS x z=true :=
 decide_eq_true (List.lt_trans (of_decide_eq_true h1) (of_decide_eq_true h2))
theorem w0k {x y:Str} (h1:ltS x y=false) (h2:ltS y x=false):x=y:=by
 have h1:¬ x.cps.toList<y.cps.toList:=of_decide_eq_false h1
 have h2:¬ y.cps.toList<x.cps.toList:=of_decide_eq_false h2
 have:x.cps.toList=y.cps.toList:=List.le_antisymm (List.not_lt.mp h2) (List.not_lt.mp h1)
 cases x;cases y
 exact congrArg Str.mk (Array.toList_inj.mp this)
abbrev UpS (l:List Str):Prop:=l.Pairwise fun a b=>ltS b a=false
theorem x0v (x:Str):∀ l,UpS l->UpS (x2a x l)
 | [],_=>by simp [x2a,UpS]
 | y::r,h=>by
  obtain ⟨h1,h2⟩:=List.pairwise_cons.mp h
  rw [x2a]
  split
  ·rename_i hy
   refine List.pairwise_cons.mpr ⟨fun z hz=>?_,x0v x r h2⟩
   rcases List.mem_cons.mp ((q83 x r).mem_iff.mp hz) with e | e
   ·subst e
    cases q:ltS z y with
    | false=>rfl
    | true=>exact absurd (q46 q hy) (by rw [q4C];decide)
   ·exact h1 z e
  ·rename_i hy
   have hy:ltS y x=false:=by simpa using hy
   refine List.pairwise_cons.mpr ⟨fun z hz=>?_,h⟩
   rcases List.mem_cons.mp hz with e | e
   ·subst e;exact hy
   ·cases q:ltS z x with
    | false=>rfl
    | true =>
     have hzy:=h1 z e
     cases q2:ltS x y with
     | true=>rw [q46 q q2] at hzy;cases hzy
     | false=>rw [<- w0k hy q2,hzy] at q;cases q
theorem q7P:∀ l,UpS (q41 l)
 | []=>.nil
 | x::r=>x0v x _ (q7P r)
theorem q78:∀ (p:Str) (l:List Str),risingS p l=true->UpS (p::l)
 | p,[],_=>by simp [UpS]
 | p,x::r,h=>by
  rw [risingS,Bool.and_eq_true] at h
  obtain ⟨h1,h2⟩:=h
  have h1:ltS x p=false:=by
   rw [ltCps_eq] at h1
   simpa [ltS] using h1
  have ih:=q78 x r h2
  refine List.pairwise_cons.mpr ⟨fun z hz=>?_,ih⟩
  rcases List.mem_cons.mp hz with e | e
  ·rw [e];exact h1
  ·have hzx:=(List.pairwise_cons.mp ih).1 z e
   cases q:ltS z p with
   | false=>rfl
   | true =>
    cases q2:ltS p x with
    | true=>rw [q46 q q2] at hzx;cases hzx
    | false=>rw [w0k q2 h1,hzx] at q;cases q
theorem w1w:∀ (l:List Str),sortedS l=true->UpS l
 | [],_=>.nil
 | x::r,h=>q78 x r h
theorem w1x:∀ {l l':List Str},l.Perm l'->UpS l->UpS l'->l=l'
 | [],l',p,_,_=>by rw [List.nil_perm.mp p]
 | x::r,[],p,_,_=>by have:=p.length_eq;simp at this
 | x::r,y::r',p,h,h'=>by
  obtain ⟨a1,a2⟩:=List.pairwise_cons.mp h
  obtain ⟨b1,b2⟩:=List.pairwise_cons.mp h'
  have e:x=y:=by
   have hx:x∈y::r':=p.mem_iff.mp List.mem_cons_self
   have hy:y∈x::r:=p.mem_iff.mpr List.mem_cons_self
   rcases List.mem_cons.mp hx with e | e
   ·exact e
   ·rcases List.mem_cons.mp hy with e' | e'
    ·exact e'.symm
    ·exact w0k (b1 x e) (a1 y e')
  subst e
  rw [w1x (List.Perm.cons_inv p) a2 b2]
theorem w52 {l l':List Str} (p:l'.Perm l) (h:sortedS l'=true):l'=q41 l:=w1x (p.trans (q2n l).symm) (w1w _ h) (q7P l)
theorem w1y {l:List Str} (h:UpS l) (nd:l.Nodup):l.Pairwise fun a b=>ltS a b=true:=by
 induction l with
 | nil=>exact .nil
 | cons x r ih =>
  obtain ⟨a1,a2⟩:=List.pairwise_cons.mp h
  obtain ⟨n1,n2⟩:=List.nodup_cons.mp nd
  refine List.pairwise_cons.mpr ⟨fun y hy=>?_,ih a2 n2⟩
  cases q:ltS x y with
  | true=>rfl
  | false=>exact absurd (w0k q (a1 y hy) ▸ hy) n1
theorem q3d:∀ {ss:List Str}{us:List Value},q1x (ss.map V.str) us->StrsAre us ss
 | [],_,.nil=>.nil
 | x::r,_,.cons h t=>by obtain ⟨tk,rfl⟩:=h;exact .cons x tk (q3d t)
theorem q47:∀ {ss:List Str}{us:List Value},StrsAre us ss->q1x (ss.map V.str) us
 | _,_,.nil=>.nil
 | _,_,.cons x t h=>.cons ⟨t,rfl⟩ (q47 h)
theorem q18:∀ {ss:List Str}{us:List Value},StrsAre us ss->us.length=ss.length
 | _,_,.nil=>rfl
 | _,_,.cons x t h=>by simp [q18 h]
theorem q9I {ss:List Str}{us:List Value} (h:StrsAre us ss) (i:Nat) (v:Value) (e:us[i]?=some v):∃ x t,ss[i]?=some x/\v=Value.str x t:=by
 induction h generalizing i with
 | nil=>simp at e
 | cons y t _ ih =>
  cases i with
  | zero=>simp at e;exact ⟨y,t,by simp,e.symm⟩
  | succ i=>simp at e;simpa using ih i e
theorem q79 {w:World}:∀ {l:List (Int×Value)},(∀ e∈l,w1s w e)->StrsAre (l.map (·.2)) (l.map x28)
 | [],_=>.nil
 | e::r,h=>by
  obtain ⟨x,tk,rfl⟩:=h e List.mem_cons_self
  exact .cons x tk (q79 fun e he=>h e (List.mem_cons_of_mem _ he))
theorem w1z {us us':List Value}{ss:List Str} (h:StrsAre us ss) (p:us'.Perm us):∃ ss',StrsAre us' ss'/\ss'.Perm ss:=by
 refine ⟨us'.map strOf,strsAre_map _ fun v hv=>h.all v (p.mem_iff.mp hv),?_⟩
 rw [<- h.strs]
 exact p.map _
def SetO (w:World) (a:Addr) (ss:List Str):HO:=.ext fun h=>q92 w h a ss
theorem w7z {P:Program}{w:World}{H:Hp}{h:Heap}{a:Addr}{ss:List Str} (x:q92 w h a ss):q1g P w H h a (SetO w a ss) :=
 ⟨x,let ⟨_,_,_,I,_⟩:=x;⟨_,I.at_⟩,fun _ _ y k=>y.keep k⟩
section
variable {X:Cx}
theorem w3a (hc:X.calm=true):q3E X (.type "set") (fun xs H Q=>∃ p ss,xs=[.ref p]/\(SqL X.K H p (ss.map V.str)\/SqT X.K H p (ss.map V.str))/\ss.length + 1<scanBound/\∀ a,H a=none->Q (.ref a) (upd H a (SetO X.w a (q1G [] ss)))):=by
 intro pins s σ H xs us Q I r h
 obtain ⟨p,ss,rfl,hq,hz,q⟩:=h
 obtain ⟨u,rfl,rx⟩:=q4N r
 cases rx
 have hh:=I.ok.hd hc
 have fin:∀ (h':Heap) (tk:Nat),q92 X.w h' s.heap.objs.size (q1G [] ss)->(∀ b o,s.heap.get? b=some o->h'.get? b=some o)->EP X pins σ Q (.ref s.heap.objs.size) { s with heap:=h',toks:=tk }:=fun h' tk hS kp =>
  ⟨.ref s.heap.objs.size,_,I.laid (t':=tk) kp (Nat.le_refl _) (w7z hS),rfl,q _ (I.hok.fresh (Nat.le_refl _))⟩
 rcases hq with hq | hq
 ·obtain ⟨its,r',⟨o,n,ho,h1,h2,h3⟩,_⟩:=I.list hq
  have sa:=q3d r'
  exact q75 (w9l (by simpa using hh) h1 ⟨n,h3⟩) ho (fun i v e=>q9I sa i v (by simpa using e)) (by simp [q18 sa]) (by simp [q18 sa];exact hz) fin
 ·obtain ⟨its,r',⟨o,ho,h1,n,h3⟩,_⟩:=I.tuple hq
  have sa:=q3d r'
  exact q75 (x29 (by simpa using hh) h1 ⟨n,h3⟩) ho (fun i v e=>q9I sa i v (by simpa using e)) (by simp [q18 sa]) (by simp [q18 sa];exact hz) fin
theorem q7r:q3E X (.builtin "sorted") (fun xs H Q=>∃ p ss,xs=[.ref p]/\SqL X.K H p (ss.map V.str)/\ss.length<64/\∀ l,H l=none->Q (.ref l) (upd H l (.lst ((q41 ss).map V.str)))):=by
 intro pins s σ H xs us Q I r h
 obtain ⟨p,ss,rfl,hq,hz,q⟩:=h
 obtain ⟨u,rfl,rx⟩:=q4N r
 cases rx
 obtain ⟨its,r',pl,hl⟩:=I.list hq
 have sa:=q3d r'
 refine sorted_strs pl.isList sa (by rw [q18 sa];exact hz) fun out ss' a1 a2 a3=>?_
 obtain ⟨e,he⟩:=sortedAll_at s.heap its out
 have kp:∀ b o,s.heap.get? b=some o->(sortedAll s.heap its out).get? b=some o:=fun b o=>sortedAll_old
 obtain rfl:=w52 a2 a3
 refine ⟨.ref (s.heap.objs.size + 1),upd H (s.heap.objs.size + 1) (.lst ((q41 ss).map V.str)),I.laid (t':=s.toks) kp (Nat.le_succ _) (show q1g X.prog X.w _ _ _ (.lst _) from ⟨?_,out.toList,e,q47 a1,by simpa [seqObj] using he⟩),rfl,q _ (I.hok.fresh (Nat.le_succ _))⟩
 rw [List.length_map,(q2n ss).length_eq]
 have:=hl
 rw [List.length_map] at this
 exact this
theorem q84 (hc:X.calm=true):q3E X (.builtin "sorted") (fun xs H Q=>∃ p ss,xs=[.ref p]/\H p=some (SetO X.w p ss)/\ss.length<64/\∀ l,H l=none->Q (.ref l) (upd H l (.lst ((q41 ss).map V.str)))):=by
 intro pins s σ H xs us Q I r h
 obtain ⟨p,ss,rfl,hq,hz,q⟩:=h
 obtain ⟨u,rfl,rx⟩:=q4N r
 cases rx
 have hh:=I.ok.hd hc
 obtain ⟨⟨es,ep,t,S,pm⟩,_⟩:=(show q1g X.prog X.w H s.heap p (SetO X.w p ss) from I.hok p _ hq)
 refine w39 (w38 (by simpa using hh) S fun ord h' d tk po kp sz=>?_)
 obtain ⟨ss1,sa,p1⟩:=w1z (q79 S.txt) po
 have ln:ss1.length=ss.length:=(p1.trans pm).length_eq
 refine ⟨ss1,sa,by rw [q18 sa,ln];exact hz,fun h2 vs' ss' e kp2 at2 sa2 p2 s2=>?_⟩
 have kk:∀ b o,s.heap.get? b=some o->h2.get? b=some o:=fun b o e=>kp2 b o (kp b o e)
 have es':ss'=q41 ss:=w52 (p2.trans (p1.trans pm)) s2
 subst es'
 have fr:=I.hok.fresh sz
 have ok2:q1g X.prog X.w (upd H h'.objs.size (.lst ((q41 ss).map V.str))) h2 h'.objs.size (.lst ((q41 ss).map V.str)) :=
  ⟨by rw [List.length_map,(q2n ss).length_eq];exact Nat.le_trans (Nat.le_of_lt hz) (by rw [sizeLine_eq];decide),vs',e,q47 sa2,at2⟩
 exact ⟨.ref h'.objs.size,_,I.call' (s':={ s with heap:=h2,drawn:=d,toks:=tk }) (ch:=[]) rfl (Un.laid kk sz fr) (I.hok.laid kk sz ok2) I.bare (fun b z=>absurd z (by simp)),rfl,q _ fr⟩
end
end L2
end
section
namespace L2
open PySem PySem.Spec PyProof.Rows
section
variable {X:Cx}
theorem q85 {prog:Program}{w:World}{B:Around}{bs:List Bool}{its:List Value} (r:q1x (bs.map V.bl) its):TruthOf prog w B (fun i v=>its.toArray[i]?=some v) (fun i=>bs.getD i false):=by
 intro i v s Q E hv hq
 have hv:its[i]?=some v:=by simpa using hv
 have hl:=r.length
 rw [List.length_map] at hl
 obtain ⟨hi,_⟩:=List.getElem?_eq_some_iff.mp hv
 have hb:bs[i]?=some bs[i]:=List.getElem?_eq_getElem (by omega)
 obtain ⟨u,hu,ru⟩:=r.get (i:=i) (x:=.bl bs[i]) (by rw [List.getElem?_map,hb];rfl)
 rw [hv] at hu;cases hu
 cases ru
 have hq:Q (bs.getD i false) s:=hq
 rw [List.getD_eq_getElem?_getD,hb] at hq
 exact wpAny_truthy_bool hq
theorem w9o (bs:List Bool):(List.range bs.length).all (fun i=>bs.getD i false)=bs.all id:=by
 rw [Bool.eq_iff_iff,List.all_eq_true,List.all_eq_true]
 constructor
 ·intro h b hb
  obtain ⟨i,hi,rfl⟩:=List.getElem_of_mem hb
  have:=h i (List.mem_range.mpr hi)
  simpa [List.getD_eq_getElem?_getD,hi] using this
 ·intro h i hi
  have hi:=List.mem_range.mp hi
  have:=h bs[i] (List.getElem_mem hi)
  simpa [List.getD_eq_getElem?_getD,hi] using this
theorem w9p (bs:List Bool):(List.range bs.length).any (fun i=>bs.getD i false)=bs.any id:=by
 rw [Bool.eq_iff_iff,List.any_eq_true,List.any_eq_true]
 constructor
 ·rintro ⟨i,hi,h⟩
  have hi:=List.mem_range.mp hi
  exact ⟨bs[i],List.getElem_mem hi,by simpa [List.getD_eq_getElem?_getD,hi] using h⟩
 ·rintro ⟨b,hb,h⟩
  obtain ⟨i,hi,rfl⟩:=List.getElem_of_mem hb
  exact ⟨i,List.mem_range.mpr hi,by simpa [List.getD_eq_getElem?_getD,hi] using h⟩
theorem q93 (hc:X.calm=true):q3E X (.builtin "all") (fun xs H Q=>∃ p,∃ bs:List Bool,xs=[.ref p]/\SqL X.K H p (bs.map V.bl)/\Q (.bl (bs.all id)) H):=by
 intro pins s σ H xs us Q I r h
 obtain ⟨p,bs,rfl,hq,q⟩:=h
 obtain ⟨u,rfl,rx⟩:=q4N r
 cases rx
 obtain ⟨its,r',pl,hl⟩:=I.list hq
 have ln:its.toArray.size=bs.length:=by have:=r'.length;simp at this ⊢;omega
 obtain ⟨o,ho,hk⟩:=pl.isList
 refine call_all_walk (wpAny_pyIter_list pl.isList ⟨_,_,_,_,_,_,_,rfl,Walks.list (by simpa using I.ok.hd hc) _ p (Nat.ne_of_lt (Heap.lt_size ho)) its.toArray,⟨⟨_,Heap.get?_push_size _ rfl,rfl,rfl⟩,pl.isList.push _⟩,q85 r',fun h' tk kp=>?_⟩)
 rw [ln,w9o]
 refine ⟨.bl _,H,I.kept (t':=tk) fun b o e=>kp b o ?_ (Heap.get?_push_of_some _ e),rfl,q⟩
 simp only [List.mem_singleton]
 exact Nat.ne_of_lt (Heap.lt_size e)
theorem q94 (hc:X.calm=true):q3E X (.builtin "any") (fun xs H Q=>∃ p,∃ bs:List Bool,xs=[.ref p]/\SqL X.K H p (bs.map V.bl)/\Q (.bl (bs.any id)) H):=by
 intro pins s σ H xs us Q I r h
 obtain ⟨p,bs,rfl,hq,q⟩:=h
 obtain ⟨u,rfl,rx⟩:=q4N r
 cases rx
 obtain ⟨its,r',pl,hl⟩:=I.list hq
 have ln:its.toArray.size=bs.length:=by have:=r'.length;simp at this ⊢;omega
 obtain ⟨o,ho,hk⟩:=pl.isList
 refine call_any_walk (wpAny_pyIter_list pl.isList ⟨_,_,_,_,_,_,_,rfl,Walks.list (by simpa using I.ok.hd hc) _ p (Nat.ne_of_lt (Heap.lt_size ho)) its.toArray,⟨⟨_,Heap.get?_push_size _ rfl,rfl,rfl⟩,pl.isList.push _⟩,q85 r',fun h' tk kp=>?_⟩)
 rw [ln,w9p]
 refine ⟨.bl _,H,I.kept (t':=tk) fun b o e=>kp b o ?_ (Heap.get?_push_of_some _ e),rfl,q⟩
 simp only [List.mem_singleton]
 exact Nat.ne_of_lt (Heap.lt_size e)
theorem w7A:OpR X (compareOp .LtE) (fun x y H Q=>∃ i j,x=.str i/\y=.str j/\Q (.bl (!decide (j.cps.toList<i.cps.toList))) H):=by
 intro pins s σ H x y v u Q I rx ry h
 obtain ⟨i,j,rfl,rfl,q⟩:=h
 obtain ⟨t,rfl⟩:=rx
 obtain ⟨t',rfl⟩:=ry
 exact PySem.P.le_str (q2b I q rfl)
end
end L2
end
section
namespace L2
open PySem PySem.Spec PyProof.Rows
def Its (x:Str):It:=⟨fun i _=>i<x.cps.size,fun i H v H'=>H'=H/\∃ c,x.cps[i]?=some c/\v=.str ⟨#[c]⟩,fun i _=>x.cps.size<=i⟩
theorem w9q {P:Program}{w:World}{K:PySem.W.Frag}{tg:Expr} (x:Str) (t:Tok) (it:Addr):w97 P w K tg (Its x) [it] it (fun i h=>h.IsStrIter it (strIterType x) x t i) where
 mem:=by simp
 obj:=fun i h st b hb=>by
  obtain rfl:b=it:=by simpa using hb
  obtain ⟨o,e,c,d⟩:=st
  exact ⟨o,e,fun v z=>by rw [d] at z;cases z⟩
 keep:=fun i h h' st k=>let ⟨o,e,r⟩:=st;⟨o,k it (by simp) o e,r⟩
 item:=by
  intro X hP hw hK hc i pins s σ H E I hf st hg
  subst hP hw hK
  have hg:i<x.cps.size:=hg
  obtain ⟨f0,f1,f2,f3,f4,f5⟩:=hf it (by simp)
  have hx:x.cps[i]?=some x.cps[i]:=getElem?_pos _ i hg
  have go:∀ (h':Heap) (tk tk':Nat),h'.IsStrIter it (strIterType x) x t (i + 1)->Heap.SameBut it s.heap h'->∃ u,some (Value.str ⟨#[x.cps[i]]⟩ tk)=some u /\
    wpAny (model X.prog X.w) X.A (letOwnedTupleGo tg (.ref it) u) (fun _ s2=>∃ v H',Inv X pins σ H' s2/\q1Q v u/\(Its x).yld i H v H'/\s2.heap.IsStrIter it (strIterType x) x t (i + 1)/\∀ b∈[it],H' b=none) E { s with heap:=h',toks:=tk' }:=fun h' tk tk' st' sb=>by
   have I1:Inv X pins σ H { s with heap:=h',toks:=tk' }:=I.turned (fun b o hb e=>(sb.2 b hb).trans e) f0 f1 f3 f4 f5
   refine ⟨_,rfl,?_⟩
   have q:∃ v H',Inv X pins σ H' { s with heap:=h',toks:=tk' }/\q1Q v (Value.str ⟨#[x.cps[i]]⟩ tk)/\(Its x).yld i H v H'/\h'.IsStrIter it (strIterType x) x t (i + 1)/\∀ b∈[it],H' b=none :=
    ⟨.str ⟨#[x.cps[i]]⟩,H,I1,⟨tk,rfl⟩,⟨rfl,_,hx,rfl⟩,st',fun b hb=>(hf b hb).1⟩
   unfold letOwnedTupleGo
   cases tg<;>exact wpAny_pure q
  cases ha:x.cps.all (·<128)
  ·have ty:strIterType x="str_iterator":=by unfold strIterType;rw [ha];rfl
   rw [ty] at st
   exact wpAny_pyNext_wide_item st hx fun h' st' sb=>go h' _ _ (by rw [ty];exact st') sb
  ·have ty:strIterType x="str_ascii_iterator":=by unfold strIterType;rw [ha];rfl
   rw [ty] at st
   exact wpAny_pyNext_ascii_item st hx fun h' st' sb=>go h' _ _ (by rw [ty];exact st') sb
 done:=by
  intro X hP hw hK hc i pins s σ H E I hf st hg
  subst hP hw hK
  have hg:x.cps.size<=i:=hg
  obtain ⟨f0,f1,f2,f3,f4,f5⟩:=hf it (by simp)
  have hx:x.cps[i]?=none:=getElem?_neg _ i (Nat.not_lt.mpr hg)
  unfold strIterType at st
  cases ha:x.cps.all (·<128)
  ·rw [ha] at st
   exact wpAny_pyNext_wide_end (I.ok.hd hc) st hx fun h' eb=>⟨rfl,I.turned (t':=s.toks) (fun b o hb e=>eb b o hb e) f0 f1 f3 f4 f5⟩
  ·rw [ha] at st
   exact wpAny_pyNext_ascii_end (I.ok.hd hc) st hx fun h' eb=>⟨rfl,I.turned (t':=s.toks) (fun b o hb e=>eb b o hb e) f0 f1 f3 f4 f5⟩
 self:=fun _ _ _ _ _ st h=>by
  unfold strIterType at st
  cases ha:x.cps.all (·<128)
  ·rw [ha] at st;exact wpAny_pyIter_striter_wide st h
  ·rw [ha] at st;exact wpAny_pyIter_striter_ascii st h
def x7D (tl:TE):TI:=fun σ H R=>tl σ H fun v H1=>∃ x,v=.str x/\R (Its x) H1
theorem x0w {X:Cx}{tg l:Expr}{tl:TE} (hl:PE X l tl):PI X tg l (x7D tl):=by
 intro pins s σ H R I h
 refine thn (hl pins s σ H _ I h) fun v s1 h_0=>?_
 obtain ⟨y,H1,I1,r1,q1⟩:=h_0
 obtain ⟨x,rfl,q⟩:=q1
 obtain ⟨t,rfl⟩:=r1
 refine wpAny_pyIter_strU ?_
 refine ⟨s1.heap.objs.size,[s1.heap.objs.size],_,_,H1,rfl,I1.kept (t':=s1.toks) fun b o e=>Heap.get?_push_of_some _ e,w9q x t _,⟨_,Heap.get?_push_size _ rfl,rfl,rfl⟩,fun b hb=>?_,q⟩
 obtain rfl:b=s1.heap.objs.size:=by simpa using hb
 exact I1.fpOk (Nat.le_refl _) (I1.hok.fresh (Nat.le_refl _))
end L2
end
section
namespace L2
open PySem PySem.Spec PyProof.Rows
section
variable {X:Cx}{pins:List (Addr×Obj)}{σ:St}{H H':Hp}{s:Shared}{h':Heap}
theorem Inv.turnedL {t':Nat}{ch:List Addr} (I:Inv X pins σ H s) (k:∀ b o,b∉ch->s.heap.get? b=some o->h'.get? b=some o) (hf:∀ b∈ch,w1c X pins H b):Inv X pins σ H { s with heap:=h',toks:=t' }:=by
 have nt:∀ b u,H b=some u->b∉ch:=fun b u e z=>by rw [(hf b z).1] at e;cases e
 refine I.step (g':=s.gens) (d':=s.drawn) (ch:=ch) (fun b hb=>?_) (fun b o _ _ hc e _=>k b o hc e) (fun b o _ _ hc e _=>⟨o.slots,k b o hc e⟩) (fun _ _ _ _ n=>n)
  (fun b o hc e=>⟨o,k b o hc e⟩) (fun _ _ e=>e) (fun _ _ _ e=>e) (fun b ps e=>⟨#[],by rw [e];simp⟩) (fun m hm=>?_) (fun b u e=>?_) I.bare
 ·obtain ⟨f0,f1,f2,f3,f4,f5⟩:=hf b hb
  exact ⟨f3,f1,f4,f5⟩
 ·obtain ⟨o,es,ep,ho,r⟩:=hm
  exact ⟨o,es,ep,k _ o (fun z=>(hf _ z).f1 rfl) ho,r⟩
 ·refine (I.hok b u e).stay (fun c v hc q=>k c v ?_ q) (fun _ q=>q) fun _ _ q=>q
  rcases hc with z | z
  ·rw [z];exact nt b u e
  ·exact nt c _ z
theorem Inv.track {D:Addr}{ho:HO} (I:Inv X pins σ H s) (hf:w1c X pins H D) (new:q1g X.prog X.w (upd H D ho) s.heap D ho):Inv X pins σ (upd H D ho) s:=by
 obtain ⟨f0,f1,f2,f3,f4,f5⟩:=hf
 have I':Inv X pins σ (upd H D ho) { s with heap:=s.heap,gens:=s.gens,drawn:=s.drawn,toks:=s.toks }:=I.step (ch:=[D]) (fun b hb=>by
   obtain rfl:b=D:=by simpa using hb
   exact ⟨f3,f1,f4,f5⟩) (fun b o _ _ _ e _=>e) (fun b o _ _ _ e _=>⟨o.slots,e⟩) (fun b o hc e n=>by rw [q0e (fun z=>hc (by simp [z]))];exact n) (fun b o _ e=>⟨o,e⟩)
  (fun b xs e=>by rw [q0e (q0c e f0)];exact e) (fun b o xs e=>by rw [q0e (q0c e f0)];exact e) (fun b ps e=>⟨#[],by rw [q0e (q0c e f0),e];simp⟩) (fun m hm=>hm) (q5G I.hok f0 new) I.bare
 exact I'
end
section
variable {prog:Program}{w:World}{A:Around}{E:Value->Shared->Prop}{s:Shared}{it l:Addr}{i:Nat}{items:Array Value}
theorem q7Q {x:Value}{Q:Value->Shared->Prop} (ti:s.heap.IsTupleIter it l i) (tl:s.heap.IsTuple l items) (hx:items[i]?=some x)
  (q:∀ h',h'.IsTupleIter it l (i + 1)->Heap.SameBut it s.heap h'->Q x { s with heap:=h' }):wpAny (model prog w) A (Builtin.SmallTypes.nextOf (.ref it)) Q E s:=by
 obtain ⟨oi,ei,ci,di⟩:=id ti
 obtain ⟨ot,et,_,nt,dt⟩:=tl
 unfold Builtin.SmallTypes.nextOf
 refine wpAny_bind (wpAny_callSpecial?_slot (name:=Str.ofString "__next__") ti.typeIs F.slot_tuple_iterator_next ?_)
 refine wpAny_call_entry F.slot_tuple_iterator_next ti.typeIs F.entry_tuple_iterator_next ?_ (F.args_tuple_iterator_next_1 _)
 show wpAny _ _ (field (.ref it) 0 >>= _) _ _ s
 refine wpAny_bind (wpAny_field ei di (x:=.ref l) rfl ?_)
 show wpAny _ _ (if (Value.ref l == Value.none)=true then _ else _) _ _ s
 rw [if_neg (fun z:(Value.ref l == Value.none)=true=>Bool.false_ne_true z)]
 show wpAny _ _ (field (.ref it) 1 >>= _) _ _ s
 refine wpAny_bind (wpAny_field ei di (x:=.int i 0) rfl ?_)
 show wpAny _ _ (seqItems? (.ref l) >>= _) _ _ s
 refine wpAny_bind (wpAny_seqItems et dt ?_)
 simp only [Int.toNat_natCast,hx]
 refine wpAny_bind (wpAny_setField ei di (by simp) (wpAny_pure ⟨x,rfl,wpAny_pure (q _ ?_ (Heap.SameBut.update ..))⟩))
 refine ⟨_,Heap.get?_update_self _ ei (Obj.isFreed_of_fields (Obj.data_mapFields di _)),(Obj.cls_mapFields ..).trans ci,?_⟩
 rw [Obj.data_mapFields di];simp [rawInt]
theorem q7R {Q:Value->Shared->Prop} (hh:A.handled=none) (ti:s.heap.IsTupleIter it l i) (tl:s.heap.IsTuple l items) (hx:items[i]?=none)
  (q:∀ h' e,Heap.ExtBut it s.heap h'->(∃ o,h'.get? e=some o/\o.cls=.type "StopIteration")->E (.ref e) { s with heap:=h' }):wpAny (model prog w) A (Builtin.SmallTypes.nextOf (.ref it)) Q E s:=by
 obtain ⟨oi,ei,ci,di⟩:=id ti
 obtain ⟨ot,et,_,nt,dt⟩:=tl
 unfold Builtin.SmallTypes.nextOf
 refine wpAny_bind (wpAny_callSpecial?_slot (name:=Str.ofString "__next__") ti.typeIs F.slot_tuple_iterator_next ?_)
 refine wpAny_call_entry F.slot_tuple_iterator_next ti.typeIs F.entry_tuple_iterator_next ?_ (F.args_tuple_iterator_next_1 _)
 show wpAny _ _ (field (.ref it) 0 >>= _) _ _ s
 refine wpAny_bind (wpAny_field ei di (x:=.ref l) rfl ?_)
 show wpAny _ _ (if (Value.ref l == Value.none)=true then _ else _) _ _ s
 rw [if_neg (fun z:(Value.ref l == Value.none)=true=>Bool.false_ne_true z)]
 show wpAny _ _ (field (.ref it) 1 >>= _) _ _ s
 refine wpAny_bind (wpAny_field ei di (x:=.int i 0) rfl ?_)
 show wpAny _ _ (seqItems? (.ref l) >>= _) _ _ s
 refine wpAny_bind (wpAny_seqItems et dt ?_)
 simp only [Int.toNat_natCast,hx]
 refine wpAny_bind (wpAny_rule (wpAny_bind (wpAny_setField ei di (by simp) ?_)))
 show wpAny _ _ (newExc (.type "StopIteration") [] >>= _) _ _ _
 refine wpAny_bind ?_
 simp only [newExc,newTuple]
 refine wpAny_bind (wpAny_newObj_type ?_ (by size_fits))
 refine wpAny_bind (m:=firstArgMember _ _) (wpAny_of_eq (a:=Value.none) ?_ ?_)
 ·first
   | rfl
   | (simp only [firstArgMember];rfl)
 refine wpAny_newObj_type ?_ (by size_fits)
 simp only [raiseNew]
 refine wpAny_bind (wpAny_handled ?_)
 rw [show A.in1.handled=none from hh]
 refine wpAny_bind (wpAny_pure (wpAny_throw ?_))
 exact q _ _ (((Heap.SameBut.update ..).extBut.push _).push _) ⟨_,Heap.get?_push_size _ rfl,rfl⟩
theorem w7B (hh:A.handled=none) (it l:Addr) (hne:l≠it) (items:Array Value) :
  Draws prog w A it [it,l] items.size (fun i v=>items[i]?=some v) (fun i h=>h.IsTupleIter it l i/\h.IsTuple l items) where
 live:=fun i h st=>let ⟨o,e,_⟩:=st.1;⟨o,e⟩
 frame:=fun i h h' st k=>⟨let ⟨o,e,r⟩:=st.1;⟨o,k it (by simp) o e,r⟩,let ⟨o,e,r⟩:=st.2;⟨o,k l (by simp) o e,r⟩⟩
 item:=fun i s Q E hi st q=>q7Q st.1 st.2 (x:=items[i]) (by simp [hi]) fun h' t' sb=>q _ h' s.toks (by simp [hi]) ⟨t',st.2.extBut sb.extBut hne⟩ sb
 done:=fun s Q E st q=>q7R hh st.1 st.2 (by simp) q
end
theorem q95 (l:Addr) (items:Array Value) (n:Nat) (dct:Option Addr) (sl:Array (Option Value)) :
  Meets (Builtin.«enumerate.__new__» ⟨[.type "enumerate",.ref l],[]⟩) (fun _ R s=>s.heap.get? l=some { cls:=.type "tuple",dict:=dct,data:=.seq items n,slots:=sl } /\
   R (.ok (.ret (.ref (s.heap.push { cls:=.type "tuple_iterator",data:=.fields #[.ref l,.int 0 0] }).objs.size)))
    { s with heap:=(s.heap.push { cls:=.type "tuple_iterator",data:=.fields #[.ref l,.int 0 0] }).push { cls:=.type "enumerate",data:=.fields #[.none,.bool false,.ref s.heap.objs.size,rawInt 0,.none,.none] } }) :=
 .of_wp fun prog w A R s h=>by
  obtain ⟨hp,g,d,tk,os⟩:=s
  obtain ⟨hl,h⟩:=h
  have hsub:=PySem.sub_enumerate
  have hL:Heap.IsTuple (Shared.heap ⟨hp,g,d,tk,os⟩) l items:=⟨_,hl,rfl,n,rfl⟩
  wp_walk using PySem.AutoSeq1.wpAny_loadPart' hl
  refine wpAny_stack_any fun st=>wpAny_pure ?_
  split
  ·rename_i c _ _ _ _ _
   cases (c == Value.type "enumerate")
   ·wp_walk using PySem.AutoSeq1.wpAny_loadPart' hl,wpAny_pyIter_tuple hL
    exact ⟨_,rfl,h⟩
   ·wp_walk using PySem.AutoSeq1.wpAny_loadPart' hl,wpAny_pyIter_tuple hL
    exact ⟨_,rfl,h⟩
  ·wp_walk using PySem.AutoSeq1.wpAny_loadPart' hl,wpAny_pyIter_tuple hL
   exact ⟨_,rfl,h⟩
end L2
end
section
namespace L2
open PySem PySem.Spec PyProof.Rows
section
variable {prog:Program}{w:World}{A:Around}{E:Value->Shared->Prop}{s:Shared}
theorem w0l {l:Addr}{items:Array Value}{Q:Value->Shared->Prop} (hL:s.heap.IsTuple l items)
  (h:∀ h',IsEnum h' (s.heap.objs.size + 1) s.heap.objs.size 0 .none->h'.IsTupleIter s.heap.objs.size l 0->(∀ b o,s.heap.get? b=some o->h'.get? b=some o)->h'.objs.size=s.heap.objs.size + 2 ->
   Q (.ref (s.heap.objs.size + 1)) { s with heap:=h' }):wpAny (model prog w) A (call (.type "enumerate") [.ref l]) Q E s:=by
 obtain ⟨⟨c,dc,dt,sl⟩,hl,hc,n,hd⟩:=hL
 obtain rfl:c=.type "tuple":=hc
 obtain rfl:dt=.seq items n:=hd
 refine callType_new F.called_enumerate (by decide) (F.typeCall_enumerate_1 _) (F.newCall_enumerate_1 _) (fun obj=>F.args_object_init_2 obj _) F.entry_enumerate_new (q95 l items n dc sl) ⟨hl,?_⟩
 have z1:(s.heap.push { cls:=.type "tuple_iterator",data:=.fields #[.ref l,.int 0 0] }).objs.size=s.heap.objs.size + 1:=Heap.size_push ..
 show _/\_
 rw [z1]
 have he:IsEnum ((s.heap.push { cls:=.type "tuple_iterator",data:=.fields #[.ref l,.int 0 0] }).push { cls:=.type "enumerate",data:=.fields #[.none,.bool false,.ref s.heap.objs.size,rawInt 0,.none,.none] }) (s.heap.objs.size + 1) s.heap.objs.size 0 .none:=by
  have q:=Heap.get?_push_size (s.heap.push { cls:=.type "tuple_iterator",data:=.fields #[.ref l,.int 0 0] }) (o:={ cls:=.type "enumerate",data:=.fields #[.none,.bool false,.ref s.heap.objs.size,rawInt 0,.none,.none] }) rfl
  rw [z1] at q
  exact q
 exact ⟨⟨_,he,rfl⟩,h _ he ⟨_,Heap.get?_push_of_some _ (Heap.get?_push_size _ rfl),rfl,rfl⟩ (fun b o e=>Heap.get?_push_of_some _ (Heap.get?_push_of_some _ e)) (by rw [Heap.size_push,z1])⟩
end
def Ite (K:PySem.W.Frag) (a:Addr):It :=
 ⟨fun i H=>∃ xs x,SqT K H a xs/\xs[i]?=some x,fun i H v H'=>∃ p,H p=none/\v=.ref p/\∀ xs,SqT K H a xs->∃ x,xs[i]?=some x/\H'=upd H p (.tup [.int i,x]),fun i H=>∃ xs,SqT K H a xs/\xs.length<=i⟩
theorem w7C {P:Program}{w:World}{K:PySem.W.Frag}{elts:List Expr}{x1}{pos:Pos} (a e it:Addr) (hei:e≠it):w97 P w K (.Tuple elts x1 pos) (Ite K a) [e,it] e (fun i h=>(∃ old,IsEnum h e it i old)/\h.IsTupleIter it a i) where
 mem:=by simp
 obj:=fun i h st b hb=>by
  simp only [List.mem_cons,List.not_mem_nil,or_false] at hb
  rcases hb with rfl | rfl
  ·obtain ⟨⟨old,q⟩,_⟩:=st
   exact ⟨_,q,fun v z=>by cases z⟩
  ·obtain ⟨_,o,q,_,d⟩:=st
   exact ⟨o,q,fun v z=>by rw [d] at z;cases z⟩
 keep:=fun i h h' st k=>⟨let ⟨old,q⟩:=st.1;⟨old,k e (by simp) _ q⟩,let ⟨o,q,r⟩:=st.2;⟨o,k it (by simp) o q,r⟩⟩
 item:=by
  intro X hP hw hK hc i pins s σ H E I hf st hg
  subst hP hw hK
  obtain ⟨xs,x,hq,hx⟩:=hg
  obtain ⟨its,rv,p,hz⟩:=I.tuple hq
  obtain ⟨u,hu,ru⟩:=rv.get hx
  obtain ⟨⟨old,he⟩,hit⟩:=st
  have hit0:=hit
  obtain ⟨oi,ei,_⟩:=hit0
  have hai:a≠it:=fun z=>by
   obtain ⟨o1,e1,c1,_⟩:=p
   obtain ⟨o2,e2,c2,_⟩:=hit
   rw [z,e2] at e1;cases e1;rw [c2] at c1;exact absurd (Value.type.inj c1) (by decide)
  have hae:a≠e:=fun z=>by
   obtain ⟨o1,e1,c1,_⟩:=p
   rw [z,he] at e1;cases e1;exact absurd (Value.type.inj (show Value.type "enumerate"=Value.type "tuple" from c1)) (by decide)
  have hlt:i<its.toArray.size:=by simp;exact (List.getElem?_eq_some_iff.mp hu).1
  have he0:=Heap.lt_size he
  refine wpAny_pyNext_enum_itemD (w7B (by simpa using I.ok.hd hc) it a hai its.toArray) he ⟨hit,p⟩ hlt hei (by simp [hei,Ne.symm hae]) ?_
  intro x' h1 tk hx' eo st1 tup sz k1
  have hx'':its[i]?=some x':=by simpa using hx'
  rw [hu] at hx'';cases hx''
  refine ⟨_,rfl,wpAny_letOwnedTupleGo_enum eo fun h2 e2 sb2=>?_⟩
  have szn:s.heap.objs.size≠e:=Nat.ne_of_gt he0
  have I2:Inv X pins σ H { s with heap:=h2,toks:=tk + 1 }:=I.turnedL (ch:=[e,it]) (fun b o hb q=>by
   simp only [List.mem_cons,List.not_mem_nil,or_false,not_or] at hb
   exact (sb2.2 b hb.1).trans (k1 b o hb.1 hb.2 q)) hf
  have fT:=I.fpOk (H':=H) (Nat.le_refl _) (I.hok.fresh (Nat.le_refl _))
  have tup2:h2.get? s.heap.objs.size=some { cls:=.type "tuple",data:=.seq #[.int i tk,u] }:=(sb2.2 _ szn).trans tup
  have I3:=I2.track (ho:=.tup [.int i,x]) fT ⟨by show 2<=sizeLine;decide,[.int i tk,u],.cons ⟨tk,rfl⟩ (.cons ru .nil),⟨_,tup2,rfl,0,rfl⟩⟩
  refine ⟨.ref s.heap.objs.size,_,I3,rfl,⟨_,fT.1,rfl,fun ys hy=>?_⟩,⟨⟨u,?_⟩,?_⟩,fun b hb=>?_⟩
  ·rw [I.tuple_inj hy hq];exact ⟨x,hx,rfl⟩
  ·have:(((i + 1:Nat):Int))=(i:Int) + 1:=by omega
   rw [this];exact e2
  ·obtain ⟨o,q,r⟩:=st1.1
   exact ⟨o,(sb2.2 it (Ne.symm hei)).trans q,r⟩
  ·rw [q0e]
   ·exact (hf b hb).1
   ·simp only [List.mem_cons,List.not_mem_nil,or_false] at hb
    rcases hb with z | z
    ·rw [z];exact Nat.ne_of_lt he0
    ·rw [z];exact Nat.ne_of_lt (Heap.lt_size ei)
 done:=by
  intro X hP hw hK hc i pins s σ H E I hf st hg
  subst hP hw hK
  obtain ⟨xs,hq,hx⟩:=hg
  obtain ⟨its,rv,p,hz⟩:=I.tuple hq
  obtain ⟨⟨old,he⟩,hit⟩:=st
  have hl:=rv.length
  have hT:s.TypeIs (.ref e) "enumerate":=⟨_,he,rfl⟩
  unfold pyNext
  refine wpAny_bind (wpAny_attempt (wpAny_callSpecial?_slot (name:=Str.ofString "__next__") hT F.slot_enumerate_next ?_))
  refine wpAny_call_entry F.slot_enumerate_next hT F.entry_enumerate_next ?_ (F.args_enumerate_next_1 _)
  show wpAny _ _ (field (.ref e) 2 >>= _) _ _ _
  refine wpAny_bind (wpAny_field he rfl (x:=.ref it) rfl ?_)
  refine wpAny_bind (q7R (by simpa using I.ok.hd hc) hit (show s.heap.IsTuple a its.toArray from p) (by simp;omega) fun h' z eb hz'=>?_)
  obtain ⟨o,ho,hcl⟩:=hz'
  refine wpAny_bind (wpAny_isInstance (T:="StopIteration") (b:=true) ⟨o,ho,hcl⟩ isSubtype_stop ?_)
  exact wpAny_pure ⟨rfl,I.turnedL (t':=s.toks) (ch:=[e,it]) (fun b o hb q=>eb b o (by
   simp only [List.mem_cons,List.not_mem_nil,or_false,not_or] at hb;exact hb.2) q) hf⟩
 self:=fun _ _ _ _ _ st h=>let ⟨⟨_,q⟩,_⟩:=st;wpAny_pyIter_enum q h
def x67 (K:PySem.W.Frag) (ta:TA):TI:=fun σ H R=>ta σ H fun vs H1=>∃ a xs,vs=[.ref a]/\SqT K H1 a xs/\R (Ite K a) H1
theorem x2b {X:Cx}{elts:List Expr}{x1}{tpos p pos:Pos}{a:Expr}{ta:TA} (hg:Gl X "enumerate") (hm:X.mg "enumerate"=none) (ha:PA X [a] ta) (hs:starEach [a] X.env=[(false,eval a X.env)]:=by rfl) :
  PI X (.Tuple elts x1 tpos) (.Call (.Name "enumerate" p) [a] [] pos) (x67 X.K ta):=by
 intro pins s σ H R I h
 refine Call_ (q9E I hg hm boot_enumerate (PyProof.Rows.callWith_type1 (thn (ha pos pins s σ H _ I h) fun us s1 ⟨vs,H1,I1,r1,q1⟩=>?_) hs rfl))
 obtain ⟨ad,xs,rfl,hq,q⟩:=q1
 obtain ⟨u,rfl,rx⟩:=q4N r1
 cases rx
 obtain ⟨its,rv,tp,hz⟩:=I1.tuple hq
 refine w0l (show s1.heap.IsTuple ad its.toArray from tp) fun h' e1 t1 kp sz=>?_
 refine wpAny_pyIter_enum e1 ?_
 have I2:Inv X pins σ H1 { s1 with heap:=h' }:=I1.kept (t':=s1.toks) kp
 refine ⟨s1.heap.objs.size + 1,[s1.heap.objs.size + 1,s1.heap.objs.size],_,_,H1,rfl,I2,w7C ad _ _ (Nat.ne_of_gt (Nat.lt_succ_self _)),⟨⟨.none,e1⟩,t1⟩,fun b hb=>?_,q⟩
 simp only [List.mem_cons,List.not_mem_nil,or_false] at hb
 rcases hb with z | z
 ·rw [z];exact I1.fpOk (Nat.le_succ _) (I1.hok.fresh (Nat.le_succ _))
 ·rw [z];exact I1.fpOk (Nat.le_refl _) (I1.hok.fresh (Nat.le_refl _))
end L2
end
section
namespace L2
open PySem PySem.Spec PyProof.Rows
section
variable {prog:Program}{w:World}{A:Around}{E:Value->Shared->Prop}{s:Shared}{z TI TO i1 i2 l1 l2:Addr}{k1 k2:Nat}{xs ys:Array Value}{x y a b:Value}
theorem q33 {h h':Heap}{it l:Addr}{k:Nat}{c:Addr} (t:h.IsTupleIter it l k) (sb:Heap.SameBut c h h') (ne:it≠c):h'.IsTupleIter it l k:=t.extBut sb.extBut ne
theorem q5H {h h':Heap}{l:Addr}{xs:Array Value}{c:Addr} (t:h.IsTuple l xs) (sb:Heap.SameBut c h h') (ne:l≠c):h'.IsTuple l xs:=t.extBut sb.extBut ne
theorem w9r {Q:Value->Shared->Prop} (D:ZipApart z TI TO i1 i2 l1 l2) (za:IsZip s.heap z TI TO .none) (pa:IsPair s.heap TI (.ref i1) (.ref i2)) (pb:IsPair s.heap TO a b)
  (u1:s.heap.IsTupleIter i1 l1 k1) (u2:s.heap.IsTupleIter i2 l2 k2) (v1:s.heap.IsTuple l1 xs) (v2:s.heap.IsTuple l2 ys) (hx:xs[k1]?=some x) (hy:ys[k2]?=some y)
  (q:∀ h',IsZip h' z TI TO (rawInt s.heap.objs.size)->IsPair h' TO x y->h'.IsTupleIter i1 l1 (k1 + 1)->h'.IsTupleIter i2 l2 (k2 + 1)->IsPair h' s.heap.objs.size x y ->
   (∀ c o,c≠z->c≠TO->c≠i1->c≠i2->s.heap.get? c=some o->h'.get? c=some o)->Q (.ref s.heap.objs.size) { s with heap:=h' }) :
  wpAny (model prog w) A (Builtin.«zip.__next__» ⟨[.ref z],[]⟩) (fun fin s'=>∃ v,fin=.done (.ret v)/\Q v s') E s:=by
 show wpAny _ _ (field (.ref z) 2 >>= _) _ _ _
 refine wpAny_bind (wpAny_field za rfl (x:=.bool false) rfl ?_)
 show wpAny _ _ (field (.ref z) 3 >>= _) _ _ _
 refine wpAny_bind (wpAny_field za rfl (x:=.ref TI) rfl ?_)
 refine wpAny_bind (wpAny_seqItems pa rfl ?_)
 show wpAny _ _ (Builtin.SmallTypes.ownedTupleIsFree (.ref z) >>= _) _ _ _
 refine wpAny_bind ?_
 unfold Builtin.SmallTypes.ownedTupleIsFree
 refine wpAny_bind (wpAny_field za rfl (x:=.none) rfl (wpAny_pure ?_))
 simp only [if_true]
 refine wpAny_bind (wpAny_rule ?_)
 refine wpAny_bind (wpAny_field za rfl (x:=.ref TO) rfl ?_)
 refine wpAny_bind (wpAny_setField_rec za (by simp) fun g1 z1 b1=>?_)
 replace z1:IsZip g1 z TI TO .ellipsis:=z1
 refine wpAny_bind ?_
 simp only [List.zipIdx_cons,List.zipIdx_nil,List.forIn_cons,List.forIn_nil]
 refine wpAny_bind (wpAny_bind (wpAny_onRaise ?_))
 show wpAny _ _ (Builtin.SmallTypes.nextOf (.ref i1) >>= _) _ _ _
 refine wpAny_bind (q7Q (q33 u1 b1 D.i1z) (q5H v1 b1 D.l1z) hx fun g2 w1 b2=>wpAny_pure ?_)
 have p2:IsPair g2 TO a b:=b2.extBut _ _ D.TOi1 (b1.extBut _ _ D.TOz pb)
 refine wpAny_bind (wpAny_seqItems p2 rfl (wpAny_bind (wpAny_updateSeq_pair p2 fun g3 p3 b3=>?_)))
 replace p3:IsPair g3 TO x b:=p3
 refine wpAny_bind (wpAny_letGo (wpAny_pure (wpAny_bind (wpAny_bind (wpAny_onRaise ?_)))))
 show wpAny _ _ (Builtin.SmallTypes.nextOf (.ref i2) >>= _) _ _ _
 refine wpAny_bind (q7Q (q33 (q33 (q33 u2 b1 D.i2z) b2 D.i12.symm) b3 D.TOi2.symm) (q5H (q5H (q5H v2 b1 D.l2z) b2 D.l2i1) b3 D.l2TO) hy fun g4 w2 b4=>wpAny_pure ?_)
 have p4:IsPair g4 TO x b:=b4.extBut _ _ D.TOi2 p3
 refine wpAny_bind (wpAny_seqItems p4 rfl (wpAny_bind (wpAny_updateSeq_pair p4 fun g5 p5 b5=>?_)))
 replace p5:IsPair g5 TO x y:=p5
 refine wpAny_bind (wpAny_letGo (wpAny_pure (wpAny_pure ?_)))
 refine wpAny_bind (wpAny_seqItems p5 rfl (wpAny_bind (wpAny_newTuple ?_)))
 have sz:g5.objs.size=s.heap.objs.size:=by rw [b5.1,b4.1,b3.1,b2.1,b1.1]
 have z5:IsZip g5 z TI TO .ellipsis:=b5.extBut _ _ D.TOz.symm (b4.extBut _ _ D.i2z.symm (b3.extBut _ _ D.TOz.symm (b2.extBut _ _ D.i1z.symm z1)))
 have k5:∀ c o,c≠z->c≠TO->c≠i1->c≠i2->s.heap.get? c=some o->g5.get? c=some o:=fun c o n1 n2 n3 n4 e =>
  b5.extBut _ _ n2 (b4.extBut _ _ n4 (b3.extBut _ _ n2 (b2.extBut _ _ n3 (b1.extBut _ _ n1 e))))
 have y1:g5.IsTupleIter i1 l1 (k1 + 1):=q33 (q33 (q33 w1 b3 D.TOi1.symm) b4 D.i12) b5 D.TOi1.symm
 have y2:g5.IsTupleIter i2 l2 (k2 + 1):=q33 w2 b5 D.TOi2.symm
 have zl:z<g5.objs.size:=Heap.lt_size z5
 show wpAny _ _ (Builtin.SmallTypes.ownedTupleHandOut (.ref z) (.ref g5.objs.size) >>= _) _ _ _
 refine wpAny_bind ?_
 unfold Builtin.SmallTypes.ownedTupleHandOut
 have z6:IsZip (g5.push { cls:=.type "tuple",data:=.seq #[x,y] }) z TI TO .ellipsis:=Heap.get?_push_of_some _ z5
 refine wpAny_bind (wpAny_setField_rec z6 (by simp) fun g7 z7 b7=>?_)
 replace z7:IsZip g7 z TI TO (rawInt g5.objs.size):=z7
 refine wpAny_setField_rec z7 (by simp) fun g8 z8 b8=>?_
 replace z8:IsZip g8 z TI TO (rawInt g5.objs.size):=z8
 have up:∀ c o,c≠z->g5.get? c=some o->g8.get? c=some o:=fun c o n1 e=>b8.extBut _ _ n1 (b7.extBut _ _ n1 (Heap.get?_push_of_some _ e))
 have p8:IsPair g8 g5.objs.size x y:=b8.extBut _ _ (Nat.ne_of_gt zl) (b7.extBut _ _ (Nat.ne_of_gt zl) (Heap.get?_push_size _ rfl))
 rw [sz] at z8 p8
 refine wpAny_pure ⟨_,rfl,?_⟩
 show Q (.ref g5.objs.size) _
 rw [sz]
 exact q g8 z8 (up _ _ D.TOz p5) (let ⟨o,e,r⟩:=y1;⟨o,up _ o D.i1z e,r⟩) (let ⟨o,e,r⟩:=y2;⟨o,up _ o D.i2z e,r⟩) p8 fun c o n1 n2 n3 n4 e=>up c o n1 (k5 c o n1 n2 n3 n4 e)
theorem w9s {Q:Fin->Shared->Prop} (hh:A.handled=none) (D:ZipApart z TI TO i1 i2 l1 l2) (za:IsZip s.heap z TI TO .none) (pa:IsPair s.heap TI (.ref i1) (.ref i2)) (pb:IsPair s.heap TO a b)
  (u1:s.heap.IsTupleIter i1 l1 k1) (u2:s.heap.IsTupleIter i2 l2 k2) (v1:s.heap.IsTuple l1 xs) (v2:s.heap.IsTuple l2 ys) (hend:xs[k1]?=none\/ys[k2]?=none)
  (q:∀ h' e,(∀ c o,c≠z->c≠TO->c≠i1->c≠i2->s.heap.get? c=some o->h'.get? c=some o)->(∃ o,h'.get? e=some o/\o.cls=.type "StopIteration")->E (.ref e) { s with heap:=h' }) :
  wpAny (model prog w) A (Builtin.«zip.__next__» ⟨[.ref z],[]⟩) Q E s:=by
 show wpAny _ _ (field (.ref z) 2 >>= _) _ _ _
 refine wpAny_bind (wpAny_field za rfl (x:=.bool false) rfl ?_)
 show wpAny _ _ (field (.ref z) 3 >>= _) _ _ _
 refine wpAny_bind (wpAny_field za rfl (x:=.ref TI) rfl ?_)
 refine wpAny_bind (wpAny_seqItems pa rfl ?_)
 show wpAny _ _ (Builtin.SmallTypes.ownedTupleIsFree (.ref z) >>= _) _ _ _
 refine wpAny_bind ?_
 unfold Builtin.SmallTypes.ownedTupleIsFree
 refine wpAny_bind (wpAny_field za rfl (x:=.none) rfl (wpAny_pure ?_))
 simp only [if_true]
 refine wpAny_bind (wpAny_rule ?_)
 refine wpAny_bind (wpAny_field za rfl (x:=.ref TO) rfl ?_)
 refine wpAny_bind (wpAny_setField_rec za (by simp) fun g1 z1 b1=>?_)
 replace z1:IsZip g1 z TI TO .ellipsis:=z1
 refine wpAny_bind ?_
 simp only [List.zipIdx_cons,List.zipIdx_nil,List.forIn_cons,List.forIn_nil]
 refine wpAny_bind (wpAny_bind (wpAny_onRaise ?_))
 show wpAny _ _ (Builtin.SmallTypes.nextOf (.ref i1) >>= _) _ _ _
 cases hx:xs[k1]? with
 | none =>
  refine wpAny_bind (q7R hh (q33 u1 b1 D.i1z) (q5H v1 b1 D.l1z) hx fun g2 e b2 he=>?_)
  obtain ⟨oe,ee,ce⟩:=he
  have z2:IsZip g2 z TI TO .ellipsis:=b2 _ _ D.i1z.symm z1
  have ez:e≠z:=fun n=>by subst n;rw [z2] at ee;cases ee;simp at ce
  refine wpAny_setField_rec z2 (by simp) fun g3 _ b3=>q g3 e (fun c o n1 _ n3 _ m=>b3.extBut _ _ n1 (b2 _ _ n3 (b1.extBut _ _ n1 m))) ⟨oe,b3.extBut _ _ ez ee,ce⟩
 | some x =>
  have hy:ys[k2]?=none:=hend.resolve_left fun n=>by rw [hx] at n;cases n
  refine wpAny_bind (q7Q (q33 u1 b1 D.i1z) (q5H v1 b1 D.l1z) hx fun g2 w1 b2=>wpAny_pure ?_)
  have p2:IsPair g2 TO a b:=b2.extBut _ _ D.TOi1 (b1.extBut _ _ D.TOz pb)
  refine wpAny_bind (wpAny_seqItems p2 rfl (wpAny_bind (wpAny_updateSeq_pair p2 fun g3 p3 b3=>?_)))
  refine wpAny_bind (wpAny_letGo (wpAny_pure (wpAny_bind (wpAny_bind (wpAny_onRaise ?_)))))
  show wpAny _ _ (Builtin.SmallTypes.nextOf (.ref i2) >>= _) _ _ _
  refine wpAny_bind (q7R hh (q33 (q33 (q33 u2 b1 D.i2z) b2 D.i12.symm) b3 D.TOi2.symm) (q5H (q5H (q5H v2 b1 D.l2z) b2 D.l2i1) b3 D.l2TO) hy fun g4 e b4 he=>?_)
  obtain ⟨oe,ee,ce⟩:=he
  have z4:IsZip g4 z TI TO .ellipsis:=b4 _ _ D.i2z.symm (b3.extBut _ _ D.TOz.symm (b2.extBut _ _ D.i1z.symm z1))
  have ez:e≠z:=fun n=>by subst n;rw [z4] at ee;cases ee;simp at ce
  refine wpAny_setField_rec z4 (by simp) fun g5 _ b5=>q g5 e (fun c o n1 n2 n3 n4 m=>b5.extBut _ _ n1 (b4 _ _ n4 (b3.extBut _ _ n2 (b2.extBut _ _ n3 (b1.extBut _ _ n1 m))))) ⟨oe,b5.extBut _ _ ez ee,ce⟩
end
abbrev zt1 (h:Heap) (l1:Addr):Heap:=h.push { cls:=.type "tuple_iterator",data:=.fields #[.ref l1,.int 0 0] }
abbrev zt2 (h:Heap) (l1 l2:Addr):Heap:=(zt1 h l1).push { cls:=.type "tuple_iterator",data:=.fields #[.ref l2,.int 0 0] }
abbrev zt3 (h:Heap) (l1 l2:Addr):Heap:=(zt2 h l1 l2).push { cls:=.type "tuple",data:=.seq #[.ref h.objs.size,.ref (zt1 h l1).objs.size] }
abbrev zt4 (h:Heap) (l1 l2:Addr):Heap:=(zt3 h l1 l2).push { cls:=.type "tuple",data:=.seq #[.none,.none] }
abbrev zt5 (h:Heap) (l1 l2:Addr):Heap:=(zt4 h l1 l2).push { cls:=.type "zip",data:=.fields #[.none,.bool false,.bool false,.ref (zt2 h l1 l2).objs.size,.ref (zt3 h l1 l2).objs.size] }
theorem w0m (l1 l2:Addr) (xs ys:Array Value) :
  Meets (Builtin.«zip.__new__» ⟨[.type "zip",.ref l1,.ref l2],[]⟩) (fun _ R s=>s.heap.IsTuple l1 xs/\s.heap.IsTuple l2 ys/\R (.ok (.ret (.ref (zt4 s.heap l1 l2).objs.size))) { s with heap:=zt5 s.heap l1 l2 }) :=
 .of_wp fun prog w A R s h=>by
  obtain ⟨hp,g,d,tk,os⟩:=s
  obtain ⟨v1,v2,h⟩:=h
  have hsub:=PySem.sub_zip
  have L1:Heap.IsTuple (Shared.heap ⟨hp,g,d,tk,os⟩) l1 xs:=v1
  have L2:Heap.IsTuple (Shared.heap ⟨hp.push { cls:=.type "tuple_iterator",data:=.fields #[.ref l1,.int 0 0] },g,d,tk,os⟩) l2 ys:=Heap.IsTuple.push v2 _
  wp_walk using wpAny_pyIter_tuple L1,wpAny_pyIter_tuple L2
  exact ⟨_,rfl,h⟩
section
variable {prog:Program}{w:World}{A:Around}{E:Value->Shared->Prop}{s:Shared}
theorem w1A {l1 l2:Addr}{xs ys:Array Value}{Q:Value->Shared->Prop} (v1:s.heap.IsTuple l1 xs) (v2:s.heap.IsTuple l2 ys)
  (h:∀ h',IsZip h' (s.heap.objs.size + 4) (s.heap.objs.size + 2) (s.heap.objs.size + 3) .none->IsPair h' (s.heap.objs.size + 2) (.ref s.heap.objs.size) (.ref (s.heap.objs.size + 1)) ->
   IsPair h' (s.heap.objs.size + 3) .none .none->h'.IsTupleIter s.heap.objs.size l1 0->h'.IsTupleIter (s.heap.objs.size + 1) l2 0 ->
   (∀ c o,s.heap.get? c=some o->h'.get? c=some o)->Q (.ref (s.heap.objs.size + 4)) { s with heap:=h' }):wpAny (model prog w) A (call (.type "zip") [.ref l1,.ref l2]) Q E s:=by
 refine callType_new F.called_zip (by decide) (F.typeCall_zip_2 _ _) (F.newCall_zip_2 _ _) (fun obj=>F.args_object_init_3 obj _ _) F.entry_zip_new (w0m l1 l2 xs ys) ⟨v1,v2,?_⟩
 have n1:(zt1 s.heap l1).objs.size=s.heap.objs.size + 1:=Heap.size_push ..
 have n2:(zt2 s.heap l1 l2).objs.size=s.heap.objs.size + 2:=by rw [Heap.size_push,n1]
 have n3:(zt3 s.heap l1 l2).objs.size=s.heap.objs.size + 3:=by rw [Heap.size_push,n2]
 have n4:(zt4 s.heap l1 l2).objs.size=s.heap.objs.size + 4:=by rw [Heap.size_push,n3]
 have c5:(zt5 s.heap l1 l2).get? (zt4 s.heap l1 l2).objs.size=some _:=Heap.get?_push_size _ rfl
 have c4:(zt5 s.heap l1 l2).get? (zt3 s.heap l1 l2).objs.size=some _:=Heap.get?_push_of_some _ (Heap.get?_push_size _ rfl)
 have c3:(zt5 s.heap l1 l2).get? (zt2 s.heap l1 l2).objs.size=some _:=Heap.get?_push_of_some _ (Heap.get?_push_of_some _ (Heap.get?_push_size _ rfl))
 have c2:(zt5 s.heap l1 l2).get? (zt1 s.heap l1).objs.size=some _:=Heap.get?_push_of_some _ (Heap.get?_push_of_some _ (Heap.get?_push_of_some _ (Heap.get?_push_size _ rfl)))
 have c1:(zt5 s.heap l1 l2).get? s.heap.objs.size=some _:=Heap.get?_push_of_some _ (Heap.get?_push_of_some _ (Heap.get?_push_of_some _ (Heap.get?_push_of_some _ (Heap.get?_push_size _ rfl))))
 show _/\_
 rw [n2,n3,n4] at c5
 rw [n1,n2] at c3
 rw [n3] at c4
 rw [n1] at c2
 rw [n4]
 exact ⟨⟨_,c5,rfl⟩,h _ c5 c3 c4 ⟨_,c1,rfl,rfl⟩ ⟨_,c2,rfl,rfl⟩ fun c o e=>Heap.get?_push_of_some _ (Heap.get?_push_of_some _ (Heap.get?_push_of_some _ (Heap.get?_push_of_some _ (Heap.get?_push_of_some _ e))))⟩
end
theorem SqT.ne_fp {X:Cx}{pins:List (Addr×Obj)}{σ:St}{H:Hp}{s:Shared}{a b:Addr}{xs:List V} (I:Inv X pins σ H s) (hq:SqT X.K H a xs) (hf:w1c X pins H b):a≠b:=by
 rintro rfl
 rcases hq with (h | ⟨o,h⟩) | ⟨o,its,n,hk,_⟩
 ·rw [hf.1] at h;cases h
 ·rw [hf.1] at h;cases h
 ·have e:X.base.get? a=some o:=I.mod.kin a o hk
  rcases hf.f3 with z | z
  ·exact I.ok.noex a o e z
  ·exact absurd (Nat.lt_of_lt_of_le (Heap.lt_size e) (Nat.le_trans I.ok.bsz z)) (Nat.lt_irrefl _)
def Itz (K:PySem.W.Frag) (a b:Addr):It :=
 ⟨fun i H=>∃ xs ys x y,SqT K H a xs/\SqT K H b ys/\xs[i]?=some x/\ys[i]?=some y,
  fun i H v H'=>∃ p,H p=none/\v=.ref p/\∀ xs ys,SqT K H a xs->SqT K H b ys->∃ x y,xs[i]?=some x/\ys[i]?=some y/\H'=upd H p (.tup [x,y]),
  fun i H=>∃ xs ys,SqT K H a xs/\SqT K H b ys/\(xs.length<=i\/ys.length<=i)⟩
structure x7E (z TI TO i1 i2:Addr):Prop where
 d1:TI≠z
 d2:TO≠z
 d3:i1≠z
 d4:i2≠z
 d5:TI≠TO
 d6:TI≠i1
 d7:TI≠i2
 d8:TO≠i1
 d9:TO≠i2
 d0:i1≠i2
theorem w9t {P:Program}{w:World}{K:PySem.W.Frag}{elts:List Expr}{x1}{pos:Pos} (l1 l2 z TI TO i1 i2:Addr) (Z:x7E z TI TO i1 i2) :
  w97 P w K (.Tuple elts x1 pos) (Itz K l1 l2) [z,TI,TO,i1,i2] z (fun i h=>IsZip h z TI TO .none/\IsPair h TI (.ref i1) (.ref i2)/\(∃ a b,IsPair h TO a b)/\h.IsTupleIter i1 l1 i/\h.IsTupleIter i2 l2 i) where
 mem:=by simp
 obj:=fun i h st b hb=>by
  obtain ⟨s1,s2,⟨_,_,s3⟩,⟨o4,e4,_,f4⟩,⟨o5,e5,_,f5⟩⟩:=st
  simp only [List.mem_cons,List.not_mem_nil,or_false] at hb
  rcases hb with rfl | rfl | rfl | rfl | rfl
  ·exact ⟨_,s1,fun v q=>by cases q⟩
  ·exact ⟨_,s2,fun v q=>by cases q⟩
  ·exact ⟨_,s3,fun v q=>by cases q⟩
  ·exact ⟨o4,e4,fun v q=>by rw [f4] at q;cases q⟩
  ·exact ⟨o5,e5,fun v q=>by rw [f5] at q;cases q⟩
 keep:=fun i h h' st k=>by
  obtain ⟨s1,s2,⟨u,v,s3⟩,⟨o4,e4,r4⟩,⟨o5,e5,r5⟩⟩:=st
  exact ⟨k z (by simp) _ s1,k TI (by simp) _ s2,⟨u,v,k TO (by simp) _ s3⟩,⟨o4,k i1 (by simp) _ e4,r4⟩,⟨o5,k i2 (by simp) _ e5,r5⟩⟩
 item:=by
  intro X hP hw hK hc i pins s σ H E I hf st hg
  subst hP hw hK
  obtain ⟨xs,ys,x,y,hq1,hq2,hx,hy⟩:=hg
  obtain ⟨its1,rv1,p1,_⟩:=I.tuple hq1
  obtain ⟨its2,rv2,p2,_⟩:=I.tuple hq2
  obtain ⟨u,hu,ru⟩:=rv1.get hx
  obtain ⟨v,hv,rv⟩:=rv2.get hy
  obtain ⟨s1,s2,⟨a,b,s3⟩,s4,s5⟩:=st
  have ne1:∀ b∈[z,TI,TO,i1,i2],l1≠b:=fun b hb=>hq1.ne_fp I (hf b hb)
  have ne2:∀ b∈[z,TI,TO,i1,i2],l2≠b:=fun b hb=>hq2.ne_fp I (hf b hb)
  have D:ZipApart z TI TO i1 i2 l1 l2:=⟨Z.d1,Z.d2,Z.d3,Z.d4,Z.d5,Z.d6,Z.d7,Z.d8,Z.d9,Z.d0,ne1 z (by simp),ne1 TO (by simp),ne1 i1 (by simp),ne1 i2 (by simp),ne2 z (by simp),ne2 TO (by simp),ne2 i1 (by simp),ne2 i2 (by simp)⟩
  have zl:=Heap.lt_size s1
  have hT:s.TypeIs (.ref z) "zip":=⟨_,s1,rfl⟩
  unfold pyNext
  refine wpAny_bind (wpAny_attempt (wpAny_callSpecial?_slot (name:=Str.ofString "__next__") hT F.slot_zip_next ?_))
  refine wpAny_call_entry F.slot_zip_next hT F.entry_zip_next (w9r D s1 s2 s3 s4 s5 p1 p2 (by simpa using hu) (by simpa using hv) fun h1 z1 t1 y1 y2 pr k1=>?_) (F.args_zip_next_1 _)
  refine wpAny_pure ⟨_,rfl,wpAny_letOwnedTupleGo_zip z1 fun h2 z2 b2=>?_⟩
  have szn:s.heap.objs.size≠z:=Nat.ne_of_gt zl
  have TIk:IsPair h1 TI (.ref i1) (.ref i2):=k1 TI _ Z.d1 Z.d5 Z.d6 Z.d7 s2
  have I2:Inv X pins σ H { s with heap:=h2 }:=I.turnedL (t':=s.toks) (ch:=[z,TI,TO,i1,i2]) (fun b o hb q=>by
   simp only [List.mem_cons,List.not_mem_nil,or_false,not_or] at hb
   exact (b2.2 b hb.1).trans (k1 b o hb.1 hb.2.2.1 hb.2.2.2.1 hb.2.2.2.2 q)) hf
  have fT:=I.fpOk (H':=H) (Nat.le_refl _) (I.hok.fresh (Nat.le_refl _))
  have pr2:h2.get? s.heap.objs.size=some { cls:=.type "tuple",data:=.seq #[u,v] }:=(b2.2 _ szn).trans pr
  have I3:=I2.track (ho:=.tup [x,y]) fT ⟨by show 2<=sizeLine;decide,[u,v],.cons ru (.cons rv .nil),⟨_,pr2,rfl,0,rfl⟩⟩
  refine ⟨.ref s.heap.objs.size,_,I3,rfl,⟨_,fT.1,rfl,fun xs' ys' h1 h2=>?_⟩,⟨z2,(b2.2 TI Z.d1).trans TIk,⟨u,v,(b2.2 TO Z.d2).trans t1⟩,q33 y1 b2 Z.d3,q33 y2 b2 Z.d4⟩,fun b hb=>?_⟩
  ·rw [I.tuple_inj h1 hq1,I.tuple_inj h2 hq2];exact ⟨x,y,hx,hy,rfl⟩
  ·have bl:b<s.heap.objs.size:=by
    simp only [List.mem_cons,List.not_mem_nil,or_false] at hb
    rcases hb with q | q | q | q | q
    ·rw [q];exact zl
    ·rw [q];exact Heap.lt_size s2
    ·rw [q];exact Heap.lt_size s3
    ·obtain ⟨_,e,_⟩:=s4;rw [q];exact Heap.lt_size e
    ·obtain ⟨_,e,_⟩:=s5;rw [q];exact Heap.lt_size e
   rw [q0e (Nat.ne_of_lt bl)];exact (hf b hb).1
 done:=by
  intro X hP hw hK hc i pins s σ H E I hf st hg
  subst hP hw hK
  obtain ⟨xs,ys,hq1,hq2,hend⟩:=hg
  obtain ⟨its1,rv1,p1,_⟩:=I.tuple hq1
  obtain ⟨its2,rv2,p2,_⟩:=I.tuple hq2
  obtain ⟨s1,s2,⟨a,b,s3⟩,s4,s5⟩:=st
  have ne1:∀ b∈[z,TI,TO,i1,i2],l1≠b:=fun b hb=>hq1.ne_fp I (hf b hb)
  have ne2:∀ b∈[z,TI,TO,i1,i2],l2≠b:=fun b hb=>hq2.ne_fp I (hf b hb)
  have D:ZipApart z TI TO i1 i2 l1 l2:=⟨Z.d1,Z.d2,Z.d3,Z.d4,Z.d5,Z.d6,Z.d7,Z.d8,Z.d9,Z.d0,ne1 z (by simp),ne1 TO (by simp),ne1 i1 (by simp),ne1 i2 (by simp),ne2 z (by simp),ne2 TO (by simp),ne2 i1 (by simp),ne2 i2 (by simp)⟩
  have hT:s.TypeIs (.ref z) "zip":=⟨_,s1,rfl⟩
  have n1:=rv1.length
  have n2:=rv2.length
  unfold pyNext
  refine wpAny_bind (wpAny_attempt (wpAny_callSpecial?_slot (name:=Str.ofString "__next__") hT F.slot_zip_next ?_))
  refine wpAny_call_entry F.slot_zip_next hT F.entry_zip_next (w9s (by simpa using I.ok.hd hc) D s1 s2 s3 s4 s5 p1 p2 (hend.elim (fun q=>.inl (by simp;omega)) fun q=>.inr (by simp;omega)) fun h' e kp he=>?_) (F.args_zip_next_1 _)
  obtain ⟨o,eo,co⟩:=he
  refine wpAny_bind (wpAny_isInstance (T:="StopIteration") (b:=true) ⟨o,eo,co⟩ isSubtype_stop ?_)
  exact wpAny_pure ⟨rfl,I.turnedL (t':=s.toks) (ch:=[z,TI,TO,i1,i2]) (fun b o hb q=>by
   simp only [List.mem_cons,List.not_mem_nil,or_false,not_or] at hb
   exact kp b o hb.1 hb.2.2.1 hb.2.2.2.1 hb.2.2.2.2 q) hf⟩
 self:=fun _ _ _ _ _ st h=>wpAny_pyIter_zip st.1 h
def x7F (K:PySem.W.Frag) (ta:TA):TI:=fun σ H R=>ta σ H fun vs H1=>∃ a b xs ys,vs=[.ref a,.ref b]/\SqT K H1 a xs/\SqT K H1 b ys/\R (Itz K a b) H1
theorem x42 {X:Cx}{elts:List Expr}{x1}{tpos p pos:Pos}{a b:Expr}{ta:TA} (hg:Gl X "zip") (hm:X.mg "zip"=none) (ha:PA X [a,b] ta) (hs:starEach [a,b] X.env=[(false,eval a X.env),(false,eval b X.env)]:=by rfl)
  (hs2:starEach [b] X.env=[(false,eval b X.env)]:=by rfl):PI X (.Tuple elts x1 tpos) (.Call (.Name "zip" p) [a,b] [] pos) (x7F X.K ta):=by
 intro pins s σ H R I h
 refine Call_ (q9E I hg hm boot_zip (PyProof.Rows.callWith_type1 (thn (ha pos pins s σ H _ I h) fun us s1 ⟨vs,H1,I1,r1,q1⟩=>?_) (by rw [hs,hs2]) (by rw [hs2];rfl)))
 obtain ⟨a1,a2,xs,ys,rfl,hq1,hq2,q⟩:=q1
 obtain ⟨u1,u2,rfl,rx1,rx2⟩:=x1K r1
 cases rx1
 cases rx2
 obtain ⟨its1,rv1,p1,_⟩:=I1.tuple hq1
 obtain ⟨its2,rv2,p2,_⟩:=I1.tuple hq2
 refine w1A (show s1.heap.IsTuple a1 its1.toArray from p1) (show s1.heap.IsTuple a2 its2.toArray from p2) fun h' c1 c2 c3 c4 c5 kp=>?_
 refine wpAny_pyIter_zip c1 ?_
 have I2:Inv X pins σ H1 { s1 with heap:=h' }:=I1.kept (t':=s1.toks) kp
 have ad:∀ k j:Nat,k≠j->s1.heap.objs.size + k≠s1.heap.objs.size + j:=fun k j n e=>n (Nat.add_left_cancel e)
 refine ⟨s1.heap.objs.size + 4,[s1.heap.objs.size + 4,s1.heap.objs.size + 2,s1.heap.objs.size + 3,s1.heap.objs.size + 0,s1.heap.objs.size + 1],_,_,H1,rfl,I2,
  w9t a1 a2 _ _ _ _ _ ⟨ad _ _ (by decide),ad _ _ (by decide),ad _ _ (by decide),ad _ _ (by decide),ad _ _ (by decide),ad _ _ (by decide),ad _ _ (by decide),ad _ _ (by decide),ad _ _ (by decide),ad _ _ (by decide)⟩,
  ⟨c1,c2,⟨_,_,c3⟩,c4,c5⟩,fun b hb=>?_,q⟩
 have:∀ k:Nat,w1c X pins H1 (s1.heap.objs.size + k):=fun k=>I1.fpOk (Nat.le_add_right _ _) (I1.hok.fresh (Nat.le_add_right _ _))
 simp only [List.mem_cons,List.not_mem_nil,or_false] at hb
 rcases hb with q | q | q | q | q<;>(rw [q];exact this _)
end L2
end
section
namespace L2
open PySem PySem.Spec PyProof.Rows
mutual
inductive Rep (K:PySem.W.Frag) (H:Hp):V->PyData->Prop
 | none:Rep K H .non .none
 | bool (b:Bool):Rep K H (.bl b) (.bool b)
 | int (i:Int):Rep K H (.int i) (.int i)
 | str (x:Str):Rep K H (.str x) (.str x)
 | list {a:Addr}{xs:List V}{ds:List PyData}:SqL K H a xs->Reps K H xs ds->Rep K H (.ref a) (.list ds)
 | tuple {a:Addr}{xs:List V}{ds:List PyData}:SqT K H a xs->Reps K H xs ds->Rep K H (.ref a) (.tuple ds)
inductive Reps (K:PySem.W.Frag) (H:Hp):List V->List PyData->Prop
 | nil:Reps K H [] []
 | cons {x:V}{xs:List V}{d:PyData}{ds:List PyData}:Rep K H x d->Reps K H xs ds->Reps K H (x::xs) (d::ds)
end
theorem q29.tup {K:PySem.W.Frag}{H H':Hp}{a:Addr}{xs:List V} (e:q29 H H') (h:SqT K H a xs):SqT K H' a xs:=by
 rcases h with (h | ⟨o,h⟩) | h
 ·exact .inl (.inl (e _ _ h))
 ·exact .inl (.inr ⟨o,e _ _ h⟩)
 ·exact .inr h
section
variable {X:Cx}{pins:List (Addr×Obj)}{σ:St}{H:Hp}{s:Shared}
theorem x2c (I:Inv X pins σ H s) {a:Addr}{xs:List V}{ds:List PyData}{u:Value} (h:SqL X.K H a xs) (ih:∀ {us:List Value},q1x xs us->∃ as,ReadsAll s.heap us ds as) (r:q1Q (.ref a) u):∃ as,Reads s.heap u (.list ds) as:=by
 cases r
 obtain ⟨its,rv,⟨o,n,e,c,_,d⟩,_⟩:=I.list h
 obtain ⟨as,ra⟩:=ih rv
 exact ⟨_,.list e c d (by simpa using ra)⟩
theorem w9u (I:Inv X pins σ H s) {a:Addr}{xs:List V}{ds:List PyData}{u:Value} (h:SqT X.K H a xs) (ih:∀ {us:List Value},q1x xs us->∃ as,ReadsAll s.heap us ds as) (r:q1Q (.ref a) u):∃ as,Reads s.heap u (.tuple ds) as:=by
 cases r
 obtain ⟨its,rv,⟨o,e,c,n,d⟩,_⟩:=I.tuple h
 obtain ⟨as,ra⟩:=ih rv
 exact ⟨_,.tuple e c d (by simpa using ra)⟩
theorem q5I (I:Inv X pins σ H s) {v:V}{d:PyData} (h:Rep X.K H v d):∀ {u:Value},q1Q v u->∃ as,Reads s.heap u d as :=
 Rep.rec (motive_1:=fun v d _=>∀ {u:Value},q1Q v u->∃ as,Reads s.heap u d as) (motive_2:=fun vs ds _=>∀ {us:List Value},q1x vs us->∃ as,ReadsAll s.heap us ds as)
  (fun r=>by cases r;exact ⟨_,.none⟩) (fun b _ r=>by cases r;exact ⟨_,.bool b⟩) (fun i _ r=>by obtain ⟨t,rfl⟩:=r;exact ⟨_,.int i t⟩) (fun x _ r=>by obtain ⟨t,rfl⟩:=r;exact ⟨_,.str x t⟩)
  (fun h _ ih _ r=>x2c I h ih r) (fun h _ ih _ r=>w9u I h ih r) (fun r=>by cases r;exact ⟨_,.nil⟩) (fun _ _ a b _ r=>by
   cases r with
   | cons r rs =>
    obtain ⟨as,ra⟩:=a r
    obtain ⟨bs,rb⟩:=b rs
    exact ⟨_,.cons ra rb⟩) h
end
section
variable {X:Cx}
inductive x43 (K:PySem.W.Frag) (neg:Bool) (x:V) (y:V) (H:Hp) (Q:VK):Prop
 | mk (dx dy:_) (h0:Rep K H x dx) (h1:Rep K H y dy) (h2:dx.canLay0=true) (h3:dy.canLay0=true) (h4:min dx.depth dy.depth<=60) (h5:Q (.bl (if neg then !PyData.eqv dx dy else PyData.eqv dx dy)) H):x43 K neg x y H Q
def x68 (K:PySem.W.Frag) (neg:Bool):R2:=x43 K neg
theorem x44 (hu:X.A.units + 64<cLine):OpR X (compareOp .Eq) (x68 X.K false):=by
 intro pins s σ H x y v u Q I rx ry h
 obtain ⟨dx,dy,hx,hy,lx,ly,dp,q⟩:=h
 obtain ⟨as,ra⟩:=q5I I hx rx
 obtain ⟨bs,rb⟩:=q5I I hy ry
 exact PySem.SeqAt.compareEq_reads ra rb lx ly (by omega) ⟨.bl _,H,I,rfl,q⟩
theorem x45 (hu:X.A.units + 64<cLine):OpR X (compareOp .NotEq) (x68 X.K true):=by
 intro pins s σ H x y v u Q I rx ry h
 obtain ⟨dx,dy,hx,hy,lx,ly,dp,q⟩:=h
 obtain ⟨as,ra⟩:=q5I I hx rx
 obtain ⟨bs,rb⟩:=q5I I hy ry
 exact PySem.SeqAt.compareNe_reads ra rb lx ly (by omega) ⟨.bl _,H,I,rfl,q⟩
end
end L2
end
section
namespace L2
open PySem PySem.Spec PyProof.Rows
structure Air (P:Program) (w:World) (l:List Env) (H H':Hp) (h h' B:Heap) (ea C t:Addr):Prop where
 fly:Heap.FlyingW B l ea (.ref C) (.ref t) h'
 cov:∀ b u,H' b=some u->∃ o,B.get? b=some o
 old:∀ b o,h.get? b=some o->H b=none->b∉frs l->B.get? b=some o
 all:∀ b o,h.get? b=some o->b∉frs l->∃ o',B.get? b=some o'
 un:Un (frs l) [] H H' h h'
 hok:HOk P w H' h'
inductive x6H (P:Program) (w:World) (outer:List Env) (H:Hp) (s:Shared) (E:XK) (e:Value) (s':Shared):Prop
 | mk (ea C t H' B:_) (h0:e=.ref ea) (h1:s'.os=s.os) (h2:AllBare s'.gens) (h3:Air P w outer H H' s.heap s'.heap B ea C t) (h4:E (.ref C) none H'):x6H P w outer H s E e s'
def CXR (P:Program) (w:World):CXT:=x6H P w
theorem w9v {P:Program}{w:World}{H:Hp}{h:Heap}{b:Addr}{u:HO} (x:HOk P w H h) (e:H b=some u):∃ o,h.get? b=some o:=by
 have y:=x b u e
 cases u with
 | lst xs=>obtain ⟨_,_,_,_,k⟩:=y;exact ⟨_,k⟩
 | tup xs=>obtain ⟨_,_,_,o,k,_⟩:=y;exact ⟨o,k⟩
 | dK kvs=>obtain ⟨_,_,_,_,o,_,_,k,_⟩:=y;exact ⟨o,k⟩
 | dT kvs=>obtain ⟨_,_,_,_,o,_,_,k,_⟩:=y;exact ⟨o,k⟩
 | set S n=>obtain ⟨o,_,_,_,k,_⟩:=y;exact ⟨o,k⟩
 | ins C dx fs=>obtain ⟨_,_,_,k,_⟩:=y;exact ⟨_,k⟩
 | own y'=>exact y
 | xd fs=>obtain ⟨_,⟨o,_,_,k,_⟩,_⟩:=y;exact ⟨o,k⟩
 | rng lo hi=>obtain ⟨_,_,_,k⟩:=y;exact ⟨_,k⟩
 | frz o u=>exact ⟨o,y.1⟩
 | tbl ps=>exact ⟨_,y⟩
 | met f y'=>exact ⟨_,y⟩
 | ext φ=>exact y.2.1
theorem w7D {l:List Env}{env:Env}{b:Addr} (he:env∈l) (hf:env.frame=some b):b∈frs l:=List.mem_filterMap.mpr ⟨env,he,hf⟩
section
variable {P:Program}{w:World}{l:List Env}{H H':Hp}{h h' h'' B:Heap}{ea C t:Addr}
theorem Air.kp (x:Air P w l H H' h h' B ea C t) (st:B.StaysIn h'') (b:Addr) (u:HO) (o:Obj) (e:H' b=some u) (q:h'.get? b=some o):h''.get? b=some o:=by
 obtain ⟨o',e1⟩:=x.cov b u e
 have:=x.fly.1 b o' e1
 rw [q] at this;cases this
 exact st b o e1
theorem Air.on (x:Air P w l H H' h h' B ea C t) (fl:Heap.FlyingW B l ea (.ref C) (.ref t) h'') (up:h'.UpToSlots h''):Air P w l H H' h h'' B ea C t:=by
 have st:=fl.1
 refine ⟨fl,x.cov,x.old,x.all,⟨fun b o q n hb hx=>st b o (x.old b o q n hb),fun b o q n hb hx=>?_,x.un.free,fun b o q hx=>?_,x.un.tups,x.un.frzs,x.un.tbls⟩,fun b u e=>?_⟩
 ·obtain ⟨sl,e1⟩:=x.un.slot b o q n hb hx
  obtain ⟨_,o',k1,k2⟩:=Heap.FunFrames.mem x.fly.2.2.1 hb
  rw [e1] at k1;cases k1
  obtain ⟨sl',e2⟩:=up b _ e1 k2
  exact ⟨sl',e2⟩
 ·by_cases hb:b∈frs l
  ·obtain ⟨_,o',k1,_⟩:=Heap.FunFrames.mem fl.2.2.1 hb
   exact ⟨o',k1⟩
  ·obtain ⟨o',k⟩:=x.all b o q hb
   exact ⟨o',st b o' k⟩
 ·exact (x.hok b u e).stay (fun c o hc q=>by
   rcases hc with z | z
   ·rw [z] at q ⊢;exact x.kp st b u o e q
   ·exact x.kp st c _ o z q) (fun _ q=>q) fun _ _ q=>q
end
section
variable {P:Program}{w:World}{K:PySem.W.Frag}{mg:Str->Option Value}{base:Heap}{N:List Str}{qual:Str}{scope:Scope}{f:Addr}{cd:Value}{A:Around}{outer:List Env}{s:Shared}{H:Hp}{E:XK}
theorem w1B {pins:List (Addr×Obj)}{σ:St}{H1:Hp}{s1:Shared}{h':Heap}{ea C:Addr}{vs:List Value} (I:Inv (q2B (CXR P w) P w K mg base N qual scope f cd A outer s H E) pins σ H1 s1)
  (hx:Heap.MadeExcOf s1.heap h' ea (.ref C) vs) (q:E (.ref C) none H1):(q2B (CXR P w) P w K mg base N qual scope f cd A outer s H E).xe (.ref ea) { s1 with heap:=h' }:=by
 let X:=q2B (CXR P w) P w K mg base N qual scope f cd A outer s H E
 let B:=PySem.W.hideAll s1.heap (frs X.stack)
 have hin:∀ env∈X.stack,∀ a,env.frame=some a->a∈frs X.stack:=fun env he a hf=>w7D he hf
 have stB:B.StaysIn s1.heap:=fun b o e=>PySem.W.of_hideAll _ e
 have nS:∀ b,b∉frs X.stack->∀ o,s1.heap.get? b=some o->B.get? b=some o:=fun b n o e=>PySem.W.hideAll_get _ e n
 show wpAny _ X.A (leaving X.env (.ref ea)) _ _ _
 refine wpAny_leaves_madeW (s:={ s1 with heap:=h' }) (base:=B) (outer:=outer) (L:=X.env.locals) I.ok.frames rfl stB (PySem.W.funFrames_hide I.stack hin) hx fun h2 t fl tup tn up=>?_
 have st2:=fl.1
 have bl:∀ b o,s.heap.get? b=some o->b∉frs outer->b∉frs X.stack:=fun b o e n z=>by
  rcases List.mem_cons.mp (I.stkSub b z) with y | y
  ·exact absurd (Heap.lt_size e) (by rw [y];exact Nat.not_lt.mpr I.ok.above)
  ·exact n y
 have noex:∀ b:Addr,b∉X.ex:=fun b z=>absurd (show b∈([] : List Addr) from z) (by simp)
 have cov:∀ b u,H1 b=some u->∃ o,B.get? b=some o:=fun b u e=>by
  have hb:b∉frs X.stack:=fun z=>by have:=I.stkFree b z;rw [e] at this;cases this
  obtain ⟨o,k⟩:=w9v I.hok e
  exact ⟨o,nS b hb o k⟩
 refine ⟨ea,C,t,H1,B,rfl,I.os,I.bare,⟨fl,cov,fun b o e n hb=>?_,fun b o e hb=>?_,⟨fun b o e n hb hx'=>?_,fun b o e n hb hx'=>?_,fun b o e n _=>I.base.free b o e n (noex b),fun b o e _=>?_,I.base.tups,I.base.frzs,I.base.tbls⟩,fun b u e=>?_⟩,q⟩
 ·exact nS b (bl b o e hb) o (I.base.keep b o e n hb (noex b))
 ·obtain ⟨o',k⟩:=I.base.there b o e (noex b)
  exact ⟨o',nS b (bl b o e hb) o' k⟩
 ·exact st2 b o (nS b (bl b o e hb) o (I.base.keep b o e n hb (noex b)))
 ·obtain ⟨sl,k⟩:=I.base.slot b o e n hb (noex b)
  obtain ⟨_,o',k1,k2⟩:=Heap.FunFrames.mem I.funs hb
  rw [k] at k1;cases k1
  obtain ⟨sl',k3⟩:=up b _ (hx.keeps _ _ k) k2
  exact ⟨sl',k3⟩
 ·obtain ⟨o',k⟩:=I.base.there b o e (noex b)
  by_cases hb:b∈frs outer
  ·obtain ⟨_,o2,k1,_⟩:=Heap.FunFrames.mem fl.2.2.1 hb
   exact ⟨o2,k1⟩
  ·exact ⟨o',st2 b o' (nS b (bl b o e hb) o' k)⟩
 ·refine (I.hok b u e).stay (fun c o hc k=>?_) (fun _ q=>q) fun _ _ q=>q
  have hcs:c∉frs X.stack:=fun z=>by
   have:=I.stkFree c z
   rcases hc with y | y
   ·rw [y,e] at this;cases this
   ·rw [y] at this;cases this
  exact st2 c o (nS c hcs o k)
theorem q0h {E':XK} (hE:∀ c H',E' c none H'->E c none H'):q0R (CXR P w) (q2B (CXR P w) P w K mg base N qual scope f cd A outer s H E) E':=by
 intro pins σ H1 s1 e s' I h
 obtain ⟨ea,C,t,H',B,rfl,os,bare,x,q⟩:=h
 let X:=q2B (CXR P w) P w K mg base N qual scope f cd A outer s H E
 have noex:∀ b:Addr,b∉X.ex:=fun b z=>absurd (show b∈([] : List Addr) from z) (by simp)
 have bl:∀ b o,s.heap.get? b=some o->b∉frs outer->b∉frs X.stack:=fun b o e n z=>by
  rcases List.mem_cons.mp (I.stkSub b z) with y | y
  ·exact absurd (Heap.lt_size e) (by rw [y];exact Nat.not_lt.mpr I.ok.above)
  ·exact n y
 have sub:∀ b∈frs outer,b∈frs X.stack:=fun b hb=>by
  obtain ⟨env,he,hf⟩:=List.mem_filterMap.mp hb
  exact w7D (List.mem_cons_of_mem _ he) hf
 show wpAny _ X.A (leaving X.env (.ref ea)) _ _ _
 refine wpAny_leaves_onW (base:=B) (outer:=outer) (L:=X.env.locals) I.ok.frames rfl x.fly fun h2 fl up=>?_
 have st2:=fl.1
 refine ⟨ea,C,t,H',B,rfl,os.trans I.os,bare,⟨fl,x.cov,fun b o e n hb=>?_,fun b o e hb=>?_,⟨fun b o e n hb hx'=>?_,fun b o e n hb hx'=>?_,fun b o e n _=>?_,fun b o e _=>?_,fun b xs e=>x.un.tups b xs (I.base.tups b xs e),fun b o xs e=>x.un.frzs b o xs (I.base.frzs b o xs e),fun b ps e=>?_⟩,fun b u e=>?_⟩,hE _ _ q⟩
 ·exact x.old b o (I.base.keep b o e n hb (noex b)) (I.base.free b o e n (noex b)) (bl b o e hb)
 ·obtain ⟨o',k⟩:=I.base.there b o e (noex b)
  exact x.all b o' k (bl b o e hb)
 ·exact st2 b o (x.old b o (I.base.keep b o e n hb (noex b)) (I.base.free b o e n (noex b)) (bl b o e hb))
 ·obtain ⟨sl,k⟩:=I.base.slot b o e n hb (noex b)
  obtain ⟨sl1,k1⟩:=x.un.slot b _ k (I.base.free b o e n (noex b)) (sub b hb) (by simp)
  obtain ⟨_,o',k2,k3⟩:=Heap.FunFrames.mem x.fly.2.2.1 (sub b hb)
  rw [k1] at k2;cases k2
  obtain ⟨sl2,k4⟩:=up b _ k1 k3
  exact ⟨sl2,k4⟩
 ·obtain ⟨o',k⟩:=I.base.there b o e (noex b)
  exact x.un.free b o' k (I.base.free b o e n (noex b)) (by simp)
 ·obtain ⟨o',k⟩:=I.base.there b o e (noex b)
  by_cases hb:b∈frs outer
  ·obtain ⟨_,o2,k1,_⟩:=Heap.FunFrames.mem fl.2.2.1 hb
   exact ⟨o2,k1⟩
  ·obtain ⟨o2,k2⟩:=x.all b o' k (bl b o e hb)
   exact ⟨o2,st2 b o2 k2⟩
 ·obtain ⟨m1,e1⟩:=I.base.tbls b ps e
  obtain ⟨m2,e2⟩:=x.un.tbls b _ e1
  exact ⟨m1++m2,by rw [e2,Array.append_assoc]⟩
 ·exact (x.hok b u e).stay (fun c o hc k=>by
   rcases hc with z | z
   ·rw [z] at k ⊢;exact x.kp st2 b u o e k
   ·exact x.kp st2 c _ o z k) (fun _ q=>q) fun _ _ q=>q
end
end L2
end
section
namespace L2
open PySem PySem.Spec PyProof.Rows
section
variable {P:Program}{w:World}{K:PySem.W.Frag}{mg:Str->Option Value}{base:Heap}{N:List Str}{qual:Str}{scope:Scope}{f:Addr}{cd:Value}{A:Around}{outer:List Env}{s:Shared}{H:Hp}{E:XK}
theorem w9w {x:Str}{np cpos pos:Pos}{e0:Expr}{q0V:List Expr}{C:Addr}{bmB:List Value}{newId initId Bn:String}{ta:TA} (O:OwnCls x C bmB newId mg base) (FB:ExcBaseFacts Bn newId initId bmB)
  (hg:Gl (q2B (CXR P w) P w K mg base N qual scope f cd A outer s H E) x) (ha:PA (q2B (CXR P w) P w K mg base N qual scope f cd A outer s H E) (e0::q0V) ta)
  (he:starEach (e0::q0V) (q2B (CXR P w) P w K mg base N qual scope f cd A outer s H E).env=(false,eval e0 (q2B (CXR P w) P w K mg base N qual scope f cd A outer s H E).env)::starEach q0V (q2B (CXR P w) P w K mg base N qual scope f cd A outer s H E).env:=by rfl)
  (hdb:(x == ("__debug__" : Str))=false:=by decide) (hpl:(backTo cpos (starEach q0V (q2B (CXR P w) P w K mg base N qual scope f cd A outer s H E).env)).any (·.1)=false:=by rfl) :
  PS (q2B (CXR P w) P w K mg base N qual scope f cd A outer s H E) (.Raise (some (.Call (.Name x np) (e0::q0V) [] cpos)) none pos) (fun D σ H1=>ta σ H1 fun vs H2=>vs.length<=sizeLine/\E (.ref C) none H2):=by
 intro pins s1 σ H1 D I h
 obtain ⟨tl,Nn,nm,q,bs,hdct,sn,sub,ab,col,dd,k0,k1,k2,k3,k5,mN,hC,hN,hni,T⟩:=O.obj
 refine wpAny_Raise_call_subT (C:=C) (nm:=nm) (q:=q) (N:=Nn) (bs:=bs) (bm:=tl) (hdct:=hdct) (sn:=sn) (sub:=sub) (ab:=ab) (col:=col) (dd:=dd) (k0:=k0) (k1:=k1) (k2:=k2) (k3:=k3) (k5:=k5)
  FB (mN:=mN) (T.hasType FB.hasBase) (I.ok.hd rfl) ?_ hni (w0a I hg O.bound ⟨rfl,?_⟩ hdb)
 ·rw [he]
  show (false || _)=false
  rw [Bool.false_or];exact hpl
 ·have hx:=ha cpos pins s1 σ H1 _ I h
  rw [he] at hx ⊢
  refine Calls.evalArgs_plain (thn hx fun us s2 ⟨vs,H2,I2,r2,z,qE⟩=>?_)
  have kb:∀ b o,base.get? b=some o->s2.heap.get? b=some o:=I2.bk
  exact ⟨rfl,by show us.length<=sizeLine;rw [<- r2.length];exact z,kb _ _ hC,hN.keeps kb,T.keeps kb,fun h' ea hm=>w1B I2 hm qE⟩
end
structure x2d (base:Heap) (C:Addr) (bm:List Value):Prop where
 obj:∃ nm q N bs hdct sn sub ab col dd k0 k1 k2 k3 k5 newId,base.get? C=some (excClassObj nm q C N bs bm hdct sn sub ab col dd k0 k1 k2 k3 k5 newId)
 exc:bm.contains (.type "BaseException")=true
theorem q96 {M:Model}{A:Around}{E:Value->Shared->Prop}{s:Shared}{base:Heap}{ea C Cp:Addr}{bm bp:List Value}{oe:Obj}{Q:Bool->Shared->Prop} (kb:∀ b o,base.get? b=some o->s.heap.get? b=some o) (x:x2d base C bm) (y:x2d base Cp bp)
  (hm:bm.contains (.ref Cp)=true) (he:s.heap.get? ea=some oe) (hcls:oe.cls=.ref C) (h:Q true s):wpAny M A (excMatches (.ref ea) (.ref Cp)) Q E s:=by
 obtain ⟨⟨nm,q,Nn,bs,hdct,sn,sub,ab,col,dd,k0,k1,k2,k3,k5,newId,o1⟩,x2⟩:=x
 obtain ⟨⟨nm',q',Nn',bs',hdct',sn',sub',ab',col',dd',k0',k1',k2',k3',k5',newId',o2⟩,y2⟩:=y
 have hC:=kb _ _ o1
 have hP:=kb _ _ o2
 have c1:(Value.ref C::bm).contains (.ref Cp)=true:=by rw [List.contains_cons,hm,Bool.or_true]
 have c2:(Value.ref Cp::bp).contains (.type "BaseException")=true:=by rw [List.contains_cons,y2,Bool.or_true]
 have f:=tc_notTuple
 obtain ⟨hp,g,d,tk,os⟩:=s
 unfold excMatches
 repeat (first
  | (with_reducible refine wpAny_loadPart_at he ?_;rw [hcls])
  | with_reducible refine wpAny_loadPart_at hP ?_
  | (with_reducible refine wpAny_isSubtype_exc hC ?_;rw [c1])
  | (with_reducible refine wpAny_isSubtype_exc hP ?_;rw [c2])
  | wp_step)
 exact h
def w7E (ea C:Addr):HO:=.ext fun h=>∃ o,h.get? ea=some o/\o.cls=.ref C
theorem x2e {P:Program}{w:World}{H:Hp}{h:Heap}{ea C:Addr}{o:Obj} (e:h.get? ea=some o) (c:o.cls=.ref C):q1g P w H h ea (w7E ea C) :=
 ⟨⟨o,e,c⟩,⟨o,e⟩,fun h1 h2 ⟨o,e,c⟩ k=>⟨o,k o e,c⟩⟩
def cxH (X:Cx) (ea:Addr):Cx:={ X with A:=X.A.mark (some (.ref ea)),calm:=false,xe:=fun _ _=>False }
theorem Inv.inH {X:Cx}{pins:List (Addr×Obj)}{σ:St}{H:Hp}{s:Shared} (I:Inv X pins σ H s) (ea:Addr):Inv (cxH X ea) pins σ H s :=
 ⟨⟨I.ok.mod,I.ok.kind,I.ok.glob,I.ok.blt,I.ok.above,I.ok.inj,I.ok.has,I.ok.cab,(fun z=>Bool.noConfusion z),I.ok.frames,I.ok.stk,I.ok.exf,I.ok.bs,I.ok.bsz,I.ok.noex,I.ok.exfs,I.ok.funs,I.ok.frf⟩,I.os,I.bare,I.base,I.loc,I.cell,I.free,I.freeC,I.pin,I.hok,I.len⟩
theorem Inv.outH {X:Cx}{pins:List (Addr×Obj)}{σ:St}{H:Hp}{s:Shared}{ea:Addr} (ok:X.Ok) (I:Inv (cxH X ea) pins σ H s):Inv X pins σ H s :=
 ⟨ok,I.os,I.bare,I.base,I.loc,I.cell,I.free,I.freeC,I.pin,I.hok,I.len⟩
def w7F (X:Cx):St:=List.replicate X.N.length none
theorem Inv.forget {X:Cx}{pins:List (Addr×Obj)}{σ:St}{H:Hp}{s:Shared}{h':Heap}{t':Nat}{m':Str->Option Value} (I:Inv X pins σ H s) (hn:h'.Ns X.env.locals m') (sb:Heap.SameBut X.env.locals s.heap h'):Inv X pins (w7F X) H { s with heap:=h',toks:=t' }:=by
 have ne0:∀ b o,X.s₀.heap.get? b=some o->b≠X.env.locals:=fun b o e=>Nat.ne_of_lt (Nat.lt_of_lt_of_le (Heap.lt_size e) I.ok.above)
 refine ⟨I.ok,I.os,I.bare,⟨fun b o e n hb hx=>(sb.2 b (ne0 b o e)).trans (I.base.keep b o e n hb hx),fun b o e n hb hx=>?_,I.base.free,fun b o e hx=>?_,I.base.tups,I.base.frzs,I.base.tbls⟩,⟨m',hn,fun i x v h1 h2 h3=>?_⟩,fun x c e=>?_,I.free,I.freeC,fun p hp=>?_,w0i I.hok I.free sb,by simp [w7F]⟩
 ·obtain ⟨sl,k⟩:=I.base.slot b o e n hb hx
  exact ⟨sl,(sb.2 b (ne0 b o e)).trans k⟩
 ·obtain ⟨o',k⟩:=I.base.there b o e hx
  exact ⟨o',(sb.2 b (ne0 b o e)).trans k⟩
 ·have h2:(w7F X)[i]?=some (some v):=h2
  unfold w7F at h2
  rw [List.getElem?_replicate] at h2
  split at h2<;>cases h2
 ·obtain ⟨v,z⟩:=I.cell x c e
  exact ⟨v,z.sameBut sb (I.cne x c e)⟩
 ·obtain ⟨e,n,ne,nf,d⟩:=I.pin p hp
  exact ⟨(sb.2 p.1 ne).trans e,n,ne,nf,d⟩
def x46 (X:Cx) (Cp:Addr) (i:Nat) (ts:TS) (D:w2X):XK:=fun c _ H'=>∃ C bm,c=.ref C/\x2d X.base C bm/\bm.contains (.ref Cp)=true /\
 ∀ ea,H' ea=none->ts { nx:=fun _ H=>D.nx (w7F X) H,rt:=D.rt } ((w7F X).set i (some (.ref ea))) (upd H' ea (w7E ea C))
def x7G (X:Cx) (Cp:Addr) (i:Nat) (tb:XK->TS) (ts:TS):TS:=fun D σ H=>tb (x46 X Cp i ts D) D σ H
theorem w9x {X:Cx}{A:Around}{E:Value->Shared->Prop}{pins:List (Addr×Obj)}{s:Shared}{σ:St}{H:Hp}{x:Str}{u:Value}{pos:Pos}{Q:Value->Shared->Prop} (I:Inv X pins σ H s) (hg:Gl X x) (hm:X.mg x=some u) (h:Q u s)
  (hd:(x == ("__debug__" : Str))=false:=by decide):wpAny (model X.prog X.w) A (eval (.Name x pos) X.env) Q E s :=
 Calls.Name_function_global I.ok.kind hg (Calls.loadGlobal_global (by rw [I.ok.glob];exact I.mod.glob.keeps I.bk) hm h) hd
def cxT (X:Cx) (xe:Value->Shared->Prop) (pn:List (Addr×Obj)):Cx:={ X with xe:=xe,pn:=pn }
theorem Inv.inT {X:Cx}{pins:List (Addr×Obj)}{σ:St}{H:Hp}{s:Shared} (I:Inv X pins σ H s) (xe:Value->Shared->Prop):Inv (cxT X xe (X.pn++pins)) [] σ H s :=
 ⟨⟨I.ok.mod,I.ok.kind,I.ok.glob,I.ok.blt,I.ok.above,I.ok.inj,I.ok.has,I.ok.cab,I.ok.hd,I.ok.frames,I.ok.stk,I.ok.exf,I.ok.bs,I.ok.bsz,I.ok.noex,I.ok.exfs,I.ok.funs,I.ok.frf⟩,I.os,I.bare,I.base,I.loc,I.cell,I.free,I.freeC,
  fun p hp=>I.pin p ((List.mem_append.mp hp).elim id fun z=>absurd z (by simp)),I.hok,I.len⟩
theorem Inv.outT {X:Cx}{pins pins':List (Addr×Obj)}{σ:St}{H:Hp}{s:Shared}{xe:Value->Shared->Prop} (ok:X.Ok) (I:Inv (cxT X xe (X.pn++pins)) pins' σ H s):Inv X pins σ H s :=
 ⟨ok,I.os,I.bare,I.base,I.loc,I.cell,I.free,I.freeC,fun p hp=>I.pin p (List.mem_append_left _ hp),I.hok,I.len⟩
theorem Inv.track0 {X:Cx}{pins:List (Addr×Obj)}{σ:St}{H:Hp}{s:Shared}{D:Addr}{ho:HO} (I:Inv X pins σ H s) (h0:X.s₀.heap.get? D=none) (f0:H D=none) (f1:D≠X.env.locals) (f4:∀ x c,X.env.cells.lookup x=some c->c≠D) (f5:∀ p∈X.pn++pins,p.1≠D)
  (new:q1g X.prog X.w (upd H D ho) s.heap D ho):Inv X pins σ (upd H D ho) s :=
 ⟨I.ok,I.os,I.bare,⟨I.base.keep,I.base.slot,fun b o e n hx=>by rw [q0e (fun z=>by rw [z,h0] at e;cases e)];exact I.base.free b o e n hx,I.base.there,fun b xs e=>by have q:=I.base.tups b xs e;rw [q0e (q0c q f0)];exact q,
  fun b o xs e=>by have q:=I.base.frzs b o xs e;rw [q0e (q0c q f0)];exact q,fun b ps e=>by obtain ⟨m,q⟩:=I.base.tbls b ps e;exact ⟨m,by rw [q0e (q0c q f0)];exact q⟩⟩,I.loc,I.cell,
  by rw [q0e (Ne.symm f1)];exact I.free,fun x c e=>by rw [q0e (f4 x c e)];exact I.freeC x c e,fun p hp=>by
  obtain ⟨e,n,r⟩:=I.pin p hp
  exact ⟨e,by rw [q0e (f5 p hp)];exact n,r⟩,q5G I.hok f0 new,I.len⟩
theorem x47 {X:Cx}{body suite:List Stmt}{b0:Stmt}{x n:Str}{np hpos pos:Pos}{Cp:Addr}{bp:List Value}{i:Nat}{tb:XK->TS}{ts:TS} (hg:Gl X x) (hm:X.mg x=some (.ref Cp)) (y:x2d X.base Cp bp)
  (hN:X.N.Nodup) (hi:X.N[i]?=some n) (hn:X.env.scope.names.lookup n=some .local) (hst:∃ l,X.stack=X.env::l/\X.env.frame=some X.env.locals) (hex:X.ex=[])
  (hb:∀ (E:XK) (xe:Value->Shared->Prop) (pn:List (Addr×Obj)),q0R (CXR X.prog X.w) (cxT X xe pn) E->PSs (cxT X xe pn) body (tb E)) (hs:∀ ea,PSs (cxH X ea) (b0::suite) ts) (hdb:(x == ("__debug__" : Str))=false:=by decide) :
  PS X (.Try body [.ExceptHandler (some (.Name x np)) (some n) (b0::suite) hpos] [] [] pos) (x7G X Cp i tb ts):=by
 intro pins s σ H D I h
 obtain ⟨l,hl,hfr⟩:=hst
 have ok:=I.ok
 refine wpAny_Try_except ?_
 let xe:Value->Shared->Prop:=fun e s₁=>wpAny (model X.prog X.w) X.A (noteFrame e X.env) (fun _ s₂=>wpAny (model X.prog X.w) X.A (setFlight e none) (fun _ s₃ =>
  wpAny (model X.prog X.w) X.A (handleBy e X.env [.ExceptHandler (some (.Name x np)) (some n) (b0::suite) hpos]) (SP X pins D) X.xe s₃) X.xe s₂) X.xe s₁
 have hp:q0R (CXR X.prog X.w) (cxT X xe (X.pn++pins)) (x46 X Cp i ts D):=by
  intro pins' σ' H1 s1 e s' I' hx
  have I1:Inv X pins σ' H1 s1:=I'.outT ok
  obtain ⟨ea,C,t,H',B,rfl,os,bare,air,C',bm,hCe,ox,hcp,hts⟩:=hx
  cases hCe
  have air:Air X.prog X.w X.stack H1 H' s1.heap s'.heap B ea C t:=air
  have land:∀ h2,Air X.prog X.w X.stack H1 H' s1.heap h2 B ea C t->Inv X pins σ' H' { s' with heap:=h2 }:=fun h2 a =>
   I1.call' (s':={ s' with heap:=h2 }) (ch:=[]) os a.un a.hok bare (fun b z=>absurd z (by simp))
  have fly:=air.fly
  rw [hl] at fly
  show wpAny _ X.A (noteFrame (.ref ea) X.env) _ _ s'
  refine wpAny_looks_onW (base:=B) (outer:=l) (L:=X.env.locals) (by rw [ok.frames,hl]) hfr fly fun h2 hd2 up2=>?_
  refine wpAny_landsW hd2 fun h3 fl3 up3=>?_
  have up3':=up2.trans up3
  have a3:=air.on (by rw [hl];exact fl3) up3'
  have I3:=land h3 a3
  obtain ⟨oe,he,hcl⟩:=fl3.there
  refine wpAny_handleBy_cons (codeAny_handlers_test (w9x I3 hg hm ?_ hdb)) (by intro q;cases q)
  refine q96 (base:=X.base) (s:={ s' with heap:=h3 }) I3.bk ox y hcp he hcl (codeAny_handlers_suite_as ?_)
  refine lands_againW (s:={ s' with heap:=h3 }) fl3 fun h4 fl4 up4=>?_
  have a4:=air.on (by rw [hl];exact fl4) (up3'.trans up4)
  have I4:=land h4 a4
  obtain ⟨oe4,ws,he4,hcl4,hd4,_⟩:=fl4.first
  have nB:B.get? ea=none:=fl4.2.1
  have nfr:ea∉frs X.stack:=fun z=>by
   obtain ⟨_,o',k1,k2⟩:=Heap.FunFrames.mem fl4.2.2.1 (by rw [<- hl];exact z)
   rw [he4] at k1;cases k1
   exact k2 _ hd4
  have n1:s1.heap.get? ea=none:=by
   cases q:s1.heap.get? ea with
   | none=>rfl
   | some o =>
    obtain ⟨o',k⟩:=air.all ea o q nfr
    rw [nB] at k;cases k
  have nH:H' ea=none:=by
   cases q:H' ea with
   | none=>rfl
   | some u =>
    obtain ⟨o',k⟩:=air.cov ea u q
    rw [nB] at k;cases k
  have nloc:ea≠X.env.locals:=fun z=>by
   obtain ⟨m,⟨o,_,_,k,_⟩,_⟩:=I1.loc
   rw [<- z,n1] at k;cases k
  have ncell:∀ x c,X.env.cells.lookup x=some c->c≠ea:=fun x c e z=>by
   obtain ⟨v,o,k,_⟩:=I1.cell x c e
   rw [z,n1] at k;cases k
  have npin:∀ p∈X.pn++pins,p.1≠ea:=fun p hp z=>by
   have k:=(I1.pin p hp).1
   rw [z,n1] at k;cases k
  have n0:X.s₀.heap.get? ea=none:=by
   cases q:X.s₀.heap.get? ea with
   | none=>rfl
   | some o =>
    by_cases hx:ea∈X.ex
    ·rw [hex] at hx;cases hx
    ·obtain ⟨o',k⟩:=I1.base.there ea o q hx
     rw [n1] at k;cases k
  have I5:=(I4.weak (σ':=w7F X) (by rw [I4.len];simp [w7F]) (fun j v z=>by
   unfold w7F at z
   rw [List.getElem?_replicate] at z
   split at z<;>cases z)).track0 (ho:=w7E ea C) n0 nH nloc ncell npin (x2e he4 hcl4)
  refine w09 I5 hN hi (.inl hn) (v:=.ref ea) rfl (fun s6 I6=>?_) (.inr hn)
  refine wpAny_mono (hs ea pins s6 _ _ _ (I6.inH ea) (hts ea nH)) (fun f s7 q7=>?_) fun _ _ z=>z.elim
  have fin:∀ {σ7:St}{H7:Hp}{Q':St->Hp->Prop},Inv (cxH X ea) pins σ7 H7 s7->(∀ s8,Inv X pins (w7F X) H7 s8->SP X pins D f s8)->wpAny (model X.prog X.w) X.A (do bindName X.env n .none;unbindBehindTheSuite X.env n hpos) (fun _ s8=>SP X pins D f s8) X.xe s7:=fun {σ7 H7 Q'} J k=>by
   have J:=J.outH ok
   obtain ⟨m,hm7,_⟩:=J.loc
   exact wpAny_nameGoes hn hm7 (by rw [ok.kind];rfl) fun h8 m8 hn8 sb8=>k _ (J.forget hn8 sb8)
  cases f with
  | next=>obtain ⟨σ7,H7,J,q⟩:=q7;exact fin (Q':=fun _ _=>True) J fun s8 I8=>⟨_,_,I8,q⟩
  | brk=>obtain ⟨σ7,H7,J,q⟩:=q7;exact q.elim
  | cont=>obtain ⟨σ7,H7,J,q⟩:=q7;exact q.elim
  | ret v=>obtain ⟨z,σ7,H7,J,r,q⟩:=q7;exact fin (Q':=fun _ _=>True) J fun s8 I8=>⟨z,_,_,I8,r,q⟩
 refine wpAny_mono (hb _ xe (X.pn++pins) hp [] s σ H D (I.inT xe) h) (fun f s1 q=>?_) fun e s1 q=>q
 have q:SP X pins D f s1:=by
  cases f with
  | next=>obtain ⟨σ',H',J,q⟩:=q;exact ⟨σ',H',J.outT ok,q⟩
  | brk=>obtain ⟨σ',H',J,q⟩:=q;exact ⟨σ',H',J.outT ok,q⟩
  | cont=>obtain ⟨σ',H',J,q⟩:=q;exact ⟨σ',H',J.outT ok,q⟩
  | ret v=>obtain ⟨z,σ',H',J,r,q⟩:=q;exact ⟨z,σ',H',J.outT ok,r,q⟩
 cases f with
 | next=>exact wpAny_execs_nil q
 | brk=>exact q
 | cont=>exact q
 | ret v=>exact q
end L2
end
section
namespace L2
open PySem PySem.Spec PyProof.Rows
structure x48 (K:PySem.W.Frag) (C:Addr):Prop where
 ga:PySem.W.findIn K (.ref C) "__getattribute__"=some (some (.builtin "BaseException.__getattribute__"))
 gn:PySem.W.findIn K (.ref C) "__getattr__"=some none
 ca:PySem.W.findIn K (.ref C) "__class__"=some (some (.builtin "object.__class__"))
 gg:PySem.W.specialIn K (.builtin "object.__class__") "__get__"=some (some (.builtin "getset_descriptor.__get__"))
 tk:PySem.W.takesIn K (.builtin "object.__class__")=some true
 mo:PySem.W.mroIn K C (.type "object")=some true
 be:PySem.W.mroIn K C (.type "BaseException")=some true
 cl:(PySem.W.clsIn K C).isSome=true
def w5T (x C:Addr) (h:Heap):Prop:=∃ o,h.get? x=some o/\o.cls=.ref C
theorem w5T.type {M:Model}{x C:Addr}{h:Heap} (p:w5T x C h):PySem.W.Looks M h (typeOf (.ref x)) (.ref C):=by
 obtain ⟨o,e,c⟩:=p
 exact c ▸ (PySem.W.Looks.ld e).andThen .now
section
variable {prog:Program}{w:World}{A:Around}{E:Value->Shared->Prop}{s:Shared}{K:PySem.W.Frag}{x C:Addr}{R:Result->Shared->Prop}
open PySem.W Builtin Builtin.ObjectAttr Builtin.Getset_descriptor in
theorem x2f {tp:Value} (Z:x48 K C) (X:K.In s.heap) (p:w5T x C s.heap) (q:R (.ok (.ret (.ref C))) s):codeAny (model prog w) A (.call (.builtin "getset_descriptor.__get__") ⟨[.builtin "object.__class__",.ref x,tp],[]⟩) R s:=by
 obtain ⟨hp,gs,dr,tt,os⟩:=s
 have T0:=p.type (M:=model prog w)
 have T1:=looks_mroIn (M:=model prog w) X Z.mo
 refine codeAny_call_builtin KF.slot_gs.plain KF.entry_gs ?_
 refine KF.slot_gs.check _ _ _ _ _ _ _ _ KF.type_class (KF.args_gs _ _ _) ?_
 unfold Builtin.«getset_descriptor.__get__» descrGet
 rw [dga_obj]
 refine wpAny_bind (wpAny_pure ?_)
 unfold descrGetter descrCheckInstance descrNameAndClass isInstance
 simp only [KF.owner_class]
 repeat lk
 refine ⟨Code.quiet_builtin _ (by decide +kernel),codeAny_builtin KF.entry_class ?_⟩
 unfold Builtin.«object.__class__» shownTypeOf
 repeat lk
 exact q
theorem w7G {Q:Option Value->Shared->Prop} (Z:x48 K C) (X:K.In s.heap) (p:w5T x C s.heap) (h:Q (some (.ref C)) { s with toks:=s.toks + 1 }):wpAny (model prog w) A (getAttr? (.ref x) "__class__") Q E s:=by
 obtain ⟨hh,g,d,t,os⟩:=s
 have L0:=p.type (M:=model prog w)
 have L1:=PySem.W.looks_findIn (M:=model prog w) X Z.ga
 have L2:=PySem.W.looks_findIn (M:=model prog w) X Z.gn
 have F1:=PySem.W.looks_findIn (M:=model prog w) X Z.ca
 have F2:=PySem.W.looks_specialIn (M:=model prog w) X Z.gg
 have F3:=PySem.W.looks_takesIn (M:=model prog w) X Z.tk
 have L4:=PySem.W.looks_mroIn (M:=model prog w) X Z.be
 unfold getAttr? getAttrBy? getAttrBy
 refine wpAny_bind (wpAny_mkText (wpAny_bind (wpAny_attempt (wpAny_holding (wpAny_bind (L0.at (wpAny_bind (L1.at ?_))))))))
 show wpAny _ _ (getAttrByItsOwn (.ref x) (.str "__class__" t) (.ref C) (.builtin "BaseException.__getattribute__") false false) _ _ _
 unfold getAttrByItsOwn
 show wpAny _ _ (typeLookup (.ref C) "__getattr__" >>= _) _ _ _
 refine wpAny_bind (L2.at (wpAny_bind (wpAny_attempt (wpAny_holding ?_))))
 show wpAny _ _ (boundAndCalled (.builtin "BaseException.__getattribute__") (.ref x) (.str "__class__" t)) _ _ _
 unfold boundAndCalled
 refine wpAny_bind (wpAny_of_eq (F.excAttr_ValueError.ga.bind (.ref x)) ?_)
 show wpAny _ _ (call (.builtin "BaseException.__getattribute__") [.ref x,.str "__class__" t]) _ _ _
 refine wpAny_call (codeAny_call_builtin F.excAttr_ValueError.ga.plain F.entry_bexc_ga ?_)
 have hk:builtinKind "BaseException.__getattribute__"=some .slot:=by decide +kernel
 have hsp:splitId "BaseException.__getattribute__"=some ("BaseException","__getattribute__"):=by decide +kernel
 have hao:=F.args_bexc_ga (.ref x) (.str "__class__" t)
 simp only [checkBuiltinCall,hk,hsp]
 have LI:PySem.W.Looks (model prog w) hh (isInstance (.ref x) (.type "BaseException")) true:=L0.andThen L4
 refine wpAny_bind (LI.at ?_)
 rw [if_neg (by decide)]
 refine wpAny_of_eq (a:=()) (by unfold argsOk at hao;exact hao) ?_
 unfold Builtin.«object.__getattribute__»
 refine wpAny_bind (m:=slotArgs "__getattribute__" 1 _) (wpAny_pure ?_)
 refine wpAny_bind (m:=Builtin.ObjectAttr.attrName _) (wpAny_pure ?_)
 refine wpAny_bind (L0.at (wpAny_bind ?_))
 unfold Builtin.ObjectAttr.find
 refine wpAny_bind (F1.at (wpAny_bind (F2.at (wpAny_bind ?_))))
 refine wpAny_bind (F3.at ?_)
 refine wpAny_pure (wpAny_bind (wpAny_rule (wpAny_pure ?_)))
 show wpAny _ _ (holding [.builtin "object.__class__"] (call (.builtin "getset_descriptor.__get__") [.builtin "object.__class__",.ref x,.ref C]) >>= fun v=>ret v) _ _ _
 refine wpAny_bind (wpAny_holding (wpAny_call (x2f (s:=⟨hh,g,d,t + 1,os⟩) Z X p ?_)))
 exact wpAny_pure (PySem.W.handed_on rfl (wpAny_pure h))
theorem w9y (Z:x48 K C):PySem.W.KitX K (.ref x) (.ref C) (w5T x C) where
 ty:=fun _ _ _ p=>p.type
 it:=fun M h X _=>by
  obtain ⟨cd,hc⟩:=Option.isSome_iff_exists.mp Z.cl
  unfold PySem.W.clsIn at hc
  split at hc
  ·rename_i c' d' cd' sl' ho
   intro A' Q' E' s' k q
   unfold isType loadHead
   exact wpAny_bind (wpAny_loadPart (k _ _ (X _ _ ho)) (wpAny_pure q))
  ·cases hc
 ne:=fun h tp dd its n sl X htp=>by
  refine Bool.eq_false_iff.mpr fun q=>?_
  obtain rfl:C=tp:=Value.ref.inj (beq_iff_eq.mp q)
  obtain ⟨cd,hc⟩:=Option.isSome_iff_exists.mp Z.cl
  unfold PySem.W.clsIn at hc
  split at hc
  ·rename_i c' d' cd' sl' ho
   have z:=(X _ _ ho).symm.trans htp
   cases z
  ·cases hc
 ca:=fun X p k=>w7G Z X p k
end
section
variable {X:Cx}
theorem q86:q3E X (.builtin "isinstance") (fun xs H Q=>∃ x c cv b,xs=[x,c]/\((∃ n,c=.ty n/\cv=.type n)\/∃ C',c=.ref C'/\cv=.ref C')/\((∃ t,w5K X.K H x t/\PySem.W.kitOne X.K t cv=some b) \/
  ∃ ea C,x=.ref ea/\H ea=some (w7E ea C)/\x48 X.K C/\PySem.W.kitOne X.K (.ref C) cv=some b)/\Q (.bl b) H):=by
 intro pins s σ H xs us Q I r h
 obtain ⟨x,c,cv,b,rfl,rc,h,q⟩:=h
 obtain ⟨u,v,rfl,ru,rv⟩:=x1K r
 obtain rfl:v=cv:=by
  rcases rc with ⟨n,rfl,rfl⟩ | ⟨C',rfl,rfl⟩
  ·exact rv
  ·exact rv
 rcases h with ⟨t,ty,e⟩ | ⟨ea,C,rfl,hH,Z,e⟩
 ·exact q43 I ru ty e fun tk=>⟨.bl b,H,I.tok tk,rfl,q⟩
 ·cases ru
  have p:w5T ea C s.heap:=(show q1g X.prog X.w H s.heap ea (w7E ea C) from I.hok ea _ hH).1
  exact PySem.W.kia_one (w9y Z) I.kIn p e (fun z=>nomatch z) fun tk=>⟨.bl b,H,I.tok tk,rfl,q⟩
end
end L2
end
section
namespace L2
open PySem PySem.Spec PyProof.Rows
structure q4Z (k:Nat) (A:Around):Prop where
 dp:A.depth + 3 * k + 5<recursionLimit
 un:A.units + 16 * k + 200<cLine
theorem q6d.h {k:Nat}{A:Around} (r:q6d k A):q4Z k A:=⟨r.dp,r.un⟩
theorem q4Z.mark {k:Nat}{A:Around} (r:q4Z k A) (v:Option Value):q4Z k (A.mark v):=⟨r.dp,r.un⟩
theorem q4Z.deeper {k:Nat}{A:Around} (r:q4Z (k + 1) A) (env:Env):q4Z k (A.deeper env):=⟨by have:=r.dp;show A.depth + 1 + 3 * k + 5<_;omega,by have:=r.un;show A.units + 3 + 16 * k + 200<_;omega⟩
structure w7H (P:Program) (w:World) (K:PySem.W.Frag) (mg:Str->Option Value) (base:Heap) (k:Nat) (f:Addr) (fd:FuncData) (ps:List Str) (sp:Sp):Prop where
 len:∀ vs H Q E,sp vs H Q E->vs.length=ps.length
 run:∀ (A:Around) (outer:List Env) (s:Shared) (H:Hp) (args:Args) (us:List Value) (vs:List V) (Q:VK) (E:XK),q4Z k A->x1M P w K mg base A outer s H->BindsTo s fd args (ps.zip us)->q1x vs us->sp vs H Q E ->
  codeAny (model P w) A (.call (.ref f) args) (CR CX0 outer P w H s Q E) s
def cxF (P:Program) (w:World) (K:PySem.W.Frag) (mg:Str->Option Value) (base:Heap) (N:List Str) (qual:Str) (scope:Scope) (f:Addr) (cd:Value) (A:Around) (outer:List Env) (s:Shared) (H:Hp):Cx where
 prog:=P
 w:=w
 K:=K
 mg:=mg
 base:=base
 A:=A.deeper (envOfC qual scope s.heap.objs.size f cd)
 N:=N
 s₀:=s
 H₀:=H
 env:=envOfC qual scope s.heap.objs.size f cd
 outer:=outer
 stack:=envOfC qual scope s.heap.objs.size f cd::outer
 ex:=[]
 calm:=false
 fn:=fun _=>true
 pn:=[]
 xe:=fun _ _=>False
section
variable {P:Program}{w:World}{K:PySem.W.Frag}{mg:Str->Option Value}{base:Heap}
theorem w5U {N ps:List Str}{qual:Str}{scope:Scope}{f:Addr}{cd:Value}{A:Around}{outer:List Env}{s s1:Shared}{H:Hp}{us:List Value}{vs:List V}
  (S:q0y N ps scope) (e0:x1M P w K mg base A outer s H) (hl:vs.length=ps.length) (r:q1x vs us)
  (x:InCallC s s.heap.objs.size (bindL (envOfC qual scope s.heap.objs.size f cd).kindOf (ps.zip us) fun _=>none) (cellsFrom (s.heap.objs.size + 1) scope.names []) (bindC (envOfC qual scope s.heap.objs.size f cd).kindOf (ps.zip us) fun _=>none) s1) :
  Inv (cxF P w K mg base N qual scope f cd A outer s H) [] (start N vs) H s1:=by
 have e1:x1M P w K mg base { A with handled:=none } outer s H:=⟨e0.frames,e0.mod,e0.bs,e0.bsz,e0.funs,e0.frf,e0.hok,e0.bare⟩
 have I:=w1i (CX:=CX0) (E:=E0) S (A:={ A with handled:=none }) rfl e1 hl r x
 exact ⟨⟨I.ok.mod,I.ok.kind,I.ok.glob,I.ok.blt,I.ok.above,I.ok.inj,I.ok.has,I.ok.cab,(fun z=>Bool.noConfusion z),I.ok.frames,I.ok.stk,I.ok.exf,I.ok.bs,I.ok.bsz,I.ok.noex,I.ok.exfs,I.ok.funs,I.ok.frf⟩,I.os,I.bare,I.base,I.loc,I.cell,I.free,I.freeC,I.pin,I.hok,I.len⟩
theorem x49 {k:Nat}{f:Addr}{name qual:Str}{params:Arguments}{body:List Stmt}{scope:Scope}{dV kV doc pm cdv ct oc:Value}{an od:Option Addr}
  {osl:Array (Option Value)}{N ps:List Str}{sp:Sp} (lk:K.lookup f=some ⟨oc,od,.func (PySem.W.fnOf name qual params body scope dV kV doc pm an cdv ct),osl⟩) (hcd:PySem.W.codeIn K cdv qual=true) (S:q0y N ps scope)
  (len:∀ vs H Q E,sp vs H Q E->vs.length=ps.length)
  (hbody:∀ (A:Around) (outer:List Env) (s:Shared) (H:Hp) (vs:List V) (Q:VK) (E:XK),q4Z k (A.deeper (envOfC qual scope s.heap.objs.size f cdv))->sp vs H Q E ->
   ∃ t,PSs (cxF P w K mg base N qual scope f cdv A outer s H) body t/\t { nx:=fun _ H'=>Q .non H',rt:=Q } (start N vs) H) :
  w7H P w K mg base (k + 1) f (PySem.W.fnOf name qual params body scope dV kV doc pm an cdv ct) ps sp:=by
 refine ⟨len,fun A outer s H args us vs Q E hr e0 hb r hsp=>?_⟩
 have hl:=len _ _ _ _ hsp
 have KX:K.In s.heap:=e0.mod.kin.keeps fun b o e=>(e0.bs b o e).1
 have lim:s.heap.NoLimit:=e0.mod.nolimit.keeps fun b o e=>(e0.bs b o e).1
 have hkind:∀ y∈ps.zip us,scope.names.lookup y.1=some .local\/(scope.names.lookup y.1=some .cell/\((cellsFrom (s.heap.objs.size + 1) scope.names []).lookup y.1).isSome=true):=fun ⟨n,v⟩ hy=>by
  rcases S.par n (List.of_mem_zip hy).1 with q | q
  ·exact .inl q
  ·exact .inr ⟨q,PySem.W.cellsFrom_some _ _ _ (.inl q)⟩
 refine codeAny_call_function (by have:=hr.dp;omega) (KX _ _ lk) rfl S.co S.gen rfl (PySem.W.codeRec_of KX hcd) (hb _ _ _ _ ?_)
 refine wpAny_newFunctionEnv_cells S.kind hkind fun env he s1 x=>?_
 subst he
 refine ⟨lim.keeps x.toInCall.keep,codeAny_func ?_⟩
 obtain ⟨t,ht,hq⟩:=hbody A outer s H vs Q E (hr.deeper _) hsp
 have I:Inv (cxF P w K mg base N qual scope f cdv A outer s H) [] (start N vs) H s1:=w5U S e0 hl r x
 refine wpAny_mono (ht [] s1 (start N vs) H _ I hq) (fun fl s' hs=>?_) fun e s' hs=>(show False from hs).elim
 have fin:∀ {σ':St}{H':Hp}{v:V}{u:Value},Inv (cxF P w K mg base N qual scope f cdv A outer s H) [] σ' H' s'->q1Q v u->Q v H'->CE outer P w H s Q u s' :=
  fun {σ' H' v u} J rv q=>⟨v,H',J.os,J.bare,J.base,J.hok,rv,q⟩
 cases fl with
 | ret u =>
  obtain ⟨v,σ',H',J,rv,q⟩:=hs
  exact fin J rv q
 | next =>
  obtain ⟨σ',H',J,q⟩:=hs
  exact fin (v:=V.non) (u:=Value.none) J rfl q
 | brk =>
  obtain ⟨_,_,_,q⟩:=hs
  exact False.elim q
 | cont =>
  obtain ⟨_,_,_,q⟩:=hs
  exact False.elim q
theorem Fun.okH {x qual:Str}{st:Stmt}{f:Addr}{fd:FuncData}{N ps:List Str}{k:Nat}{sp:Sp} (F:Fun K x qual st f fd) (S:q0y N ps (q03 st)) (len:∀ vs H Q E,sp vs H Q E->vs.length=ps.length)
  (hbody:∀ (cdv:Value) (A:Around) (outer:List Env) (s:Shared) (H:Hp) (vs:List V) (Q:VK) (E:XK),q4Z k (A.deeper (envOfC qual (q03 st) s.heap.objs.size f cdv))->sp vs H Q E ->
   ∃ t,PSs (cxF P w K mg base N qual (q03 st) f cdv A outer s H) (q0x st) t/\t { nx:=fun _ H'=>Q .non H',rt:=Q } (start N vs) H):w7H P w K mg base (k + 1) f fd ps sp:=by
 obtain ⟨oc,od,kV,doc,pm,an,cdv,ct,osl,rfl,lk,hcd⟩:=F.ex
 exact x49 lk hcd S len fun A outer s H vs Q E hr hsp=>hbody cdv A outer s H vs Q E hr hsp
end
section
variable {X:Cx}{k:Nat}{f:Addr}{fd:FuncData}{ps:List Str}{sp:Sp}{x:Str}{p pos:Pos}{e:Expr}{es:List Expr}{t:TA}
theorem w9z (F:w7H X.prog X.w X.K X.mg X.base k f fd ps sp) (hr:q4Z k X.A) (hg:Gl X x) (hm:X.mg x=some (.ref f)) (hk:PySem.W.keepIn X.K (.ref f)=true) (hb:q1p X.K fd ps [])
  (ha:PA X (e::es) t) (hdb:(x == ("__debug__" : Str))=false:=by decide) (he:starEach (e::es) X.env=(false,eval e X.env)::starEach es X.env:=by rfl) (hpl:(backTo pos (starEach es X.env)).any (·.1)=false:=by rfl) :
  PE X (.Call (.Name x p) (e::es) [] pos) (w9c sp [] E0 t):=by
 intro pins s σ H Q I h
 refine wpAny_Call_Name_kw (w0a I hg hm ?_ hdb)
 refine PySem.W.callWith_K (h₀:=X.base) I.ok.mod.kin hk (thn (ha pos pins s σ H _ I h) fun us s1 ⟨vs,H1,I1,r,q⟩=>⟨I1.kIn,?_⟩) he hpl
 have q:sp (vs++[]) H1 Q E0:=q
 rw [List.append_nil] at q
 have hl:us.length=ps.length:=by rw [<- r.length];exact F.len _ _ _ _ q
 have hb':=hb s1 us I1.kIn (by rw [List.append_nil];exact hl)
 rw [List.append_nil] at hb'
 refine wpAny_call (codeAny_mono (F.run X.A X.stack s1 H1 ⟨us,[]⟩ us vs Q E0 hr I1.env0 hb' r q) fun r s' hq=>?_)
 cases r with
 | error e=>exact (show False from hq).elim
 | ok fl =>
  cases fl with
  | ret u=>exact I1.after hq
  | next=>exact False.elim hq
  | brk=>exact False.elim hq
  | cont=>exact False.elim hq
end
end L2
end
section
namespace L2
open PySem PySem.Spec PyProof.Rows
section
variable {X:Cx}
def tyD:PyData->String
 | .none=>"NoneType" | .bool _=>"bool" | .int _=>"int" | .str _=>"str" | .list _=>"list" | .tuple _=>"tuple" | .dict _=>"dict"
theorem w5V {pins:List (Addr×Obj)}{σ:St}{H:Hp}{s:Shared}{A:Around}{E:Value->Shared->Prop}{Q:Value->Shared->Prop}{c:Value}{b:Bool}{x:V}{d:PyData}{u:Value} (I:Inv X pins σ H s) (rx:q1Q x u) (r:Rep X.K H x d) (e:PySem.W.kitOne X.K (.type (tyD d)) c=some b) (h:∀ tk,Q (.bool b) { s with toks:=tk }) :
  wpAny (model X.prog X.w) A (call (.builtin "isinstance") [u,c]) Q E s:=by
 cases r with
 | none=>exact q43 I rx .non e h
 | bool y=>exact q43 I rx (.bl y) e h
 | int i=>exact q43 I rx (.int i) e h
 | str y=>exact q43 I rx (.str y) e h
 | list hq _ =>
  cases rx
  obtain ⟨its,rv,⟨o,n,ho,c,_,dd⟩,_⟩:=I.list hq
  exact PySem.W.kia_one PySem.W.kitx_list I.kIn ⟨o,ho,c⟩ e (fun z=>nomatch z) h
 | tuple hq _ =>
  cases rx
  obtain ⟨its,rv,⟨o,ho,c,n,dd⟩,_⟩:=I.tuple hq
  exact PySem.W.kia_one PySem.W.kitx_tuple I.kIn ⟨o,ho,c⟩ e (fun z=>nomatch z) h
theorem w9A:q3E X (.builtin "isinstance") (fun xs H Q=>∃ x d T b,xs=[x,.ty T]/\Rep X.K H x d/\PySem.W.kitOne X.K (.type (tyD d)) (.type T)=some b/\Q (.bl b) H):=by
 intro pins s σ H xs us Q I r h
 obtain ⟨x,d,T,b,rfl,rp,e,q⟩:=h
 obtain ⟨u,v,rfl,ru,rv⟩:=x1K r
 obtain rfl:v=.type T:=rv
 exact w5V I ru rp e fun tk=>⟨.bl b,H,I.tok tk,rfl,q⟩
end
end L2
end
section
namespace HT
open PySem PyProof.Rows
section
variable {prog:Program}{w:World}{A:Around}{E:Value->Shared->Prop}{s:Shared}
theorem w3b {t sl:Addr}{items:Array Value}{vl vu:Value}{lo hi:Option Int}{Q:Value->Shared->Prop} (ht:IsTup s.heap t items) (hs:s.heap.IsSliceOf sl vl vu .none) (pl:IsPart vl lo) (pu:IsPart vu hi)
  (hw:sIx items.size 0 lo=0/\sIx items.size items.size hi=items.size) (h:Q (.ref t) s):wpAny (model prog w) A (getItem (.ref t) (.ref sl)) Q E s:=by
 obtain ⟨os,hos,hcs,hds⟩:=id hs
 have hTs:s.TypeIs (.ref sl) "slice":=⟨os,hos,hcs⟩
 unfold getItem
 try with_reducible refine wpAny_holding ?_
 first | refine wpAny_bind (wpAny_pure ?_) | skip
 refine wpAny_bind (wpAny_sequenceKey ht.typeIs (by decide) ?_)
 refine wpAny_bind (wpAny_callSpecial?_slot (name:=Str.ofString "__getitem__") ht.typeIs PyProof.Rows.slot_tuple_getitem
  (wpAny_call_entry PyProof.Rows.slot_tuple_getitem ht.typeIs entry_tuple_getitem ?_ (args_tuple_getitem _ _)))
 show wpAny _ _ (Builtin.Tuple.tupleItemsOf (.ref t) >>= _) _ _ s
 refine wpAny_bind (tupleItemsOf_ ht ?_)
 refine wpAny_bind (wpAny_typeOf hTs ?_)
 rw [if_pos (by decide)]
 refine wpAny_bind (q3V hs pl pu ?_)
 have hyes:((((sIx items.size 0 lo:Nat):Int) == 0 && (1:Int) == 1 && (sIx items.size items.size hi - sIx items.size 0 lo) == items.size)=true):=by
  rw [hw.1,hw.2];simp
 show wpAny _ _ (if (((sIx items.size 0 lo:Nat):Int) == 0 && (1:Int) == 1 && (sIx items.size items.size hi - sIx items.size 0 lo) == items.size)=true then _ else _) _ _ s
 rw [if_pos hyes]
 refine wpAny_bind ?_
 unfold Builtin.Tuple.tupleIsExact
 refine wpAny_bind (wpAny_typeOf ht.typeIs (wpAny_pure ?_))
 rw [if_pos (by decide)]
 refine wpAny_bind (wpAny_rule ?_)
 first
  | exact wpAny_pure (wpAny_pure ⟨_,rfl,h⟩)
  | exact wpAny_pure ⟨_,rfl,wpAny_pure h⟩
  | exact wpAny_bind (wpAny_pure (wpAny_pure ⟨_,rfl,wpAny_pure h⟩))
  | exact wpAny_bind (wpAny_pure (wpAny_pure ⟨_,rfl,h⟩))
end
end HT
namespace L2
open PySem PySem.Spec PyProof.Rows
section
variable {X:Cx}
inductive x0x (K:PySem.W.Frag) (x:V) (lo:Option Int) (hi:Option Int) (H:Hp) (Q:VK):Prop
 | mk (a xs:_) (h0:x=.ref a) (h1:SqT K H a xs) (h2:(HT.sIx xs.length 0 lo=0/\HT.sIx xs.length xs.length hi=xs.length)) (h3:Q (.ref a) H):x0x K x lo hi H Q
def x69 (K:PySem.W.Frag):V->Option Int->Option Int->Hp->VK->Prop:=x0x K
theorem x2g:SlR X (x69 X.K):=by
 intro pins s σ H x v vl vu lo hi sl Q I rx hs pl pu h
 obtain ⟨a,xs,rfl,hx,hw,q⟩:=h
 cases rx
 obtain ⟨its,r,ht,hz⟩:=I.tuple hx
 have hlen:its.toArray.size=xs.length:=by rw [List.size_toArray];exact r.length.symm
 exact ⟨"tuple",_,PyProof.Rows.slot_tuple_getitem.lookup,ht.typeIs,HT.w3b ht hs pl pu (by rw [hlen];exact hw) ⟨.ref a,H,I,rfl,q⟩⟩
theorem q2C {H:Hp}{p:Addr}{o:HO} (h:H p=none):q29 H (upd H p o):=fun b u e=>by rw [q0e (q0c e h)];exact e
theorem q6k:∀ {bs:List Bool}{us:List Value},q1x (bs.map V.bl) us->us=bs.map Value.bool
 | [],_,.nil=>rfl
 | b::r,_,.cons h t=>by cases h;rw [q6k t];rfl
theorem q9J {A:Around}{s:Shared}{bs:List Bool}:∀ y,y∈(bs.map Value.bool).toArray->SeqAt.EqAt A s y (.bool true) (isBoolOf true y):=fun y hy=>by
 have hy:y∈bs.map Value.bool:=by simpa using hy
 obtain ⟨b,_,rfl⟩:=List.mem_map.mp hy
 exact SeqAt.EqAt.bool_bool b true
def x2h (K:PySem.W.Frag):V->List V->Hp->VK->Prop:=fun x vs H Q=>∃ l,∃ bs:List Bool,x=.ref l/\vs=[.bl true]/\SqL K H l (bs.map V.bl)/\Q (.int (bs.countP id:Nat)) H
theorem w7I:MtR X "list.count" (x2h X.K):=by
 intro pins s σ H x vs v us Q I rx rv h
 obtain ⟨l,bs,rfl,rfl,hq,q⟩:=h
 cases rx
 obtain ⟨u,rfl,ru⟩:=rv.one
 cases ru
 obtain ⟨its,r,⟨o,n,ho,c,hd,dt⟩,hz⟩:=I.list hq
 rw [q6k r] at dt
 obtain ⟨cls,dd,data,sl⟩:=o
 simp only at c dt
 subst c dt
 refine call_meets PySem.F.slot_list_count ⟨_,ho,rfl⟩ PySem.F.entry_list_count (PySem.F.args_list_count_2 _ _) (SeqAt.list_countAt l (bs.map Value.bool).toArray n dd sl (.bool true) (isBoolOf true)) ⟨ho,fun y hy=>q9J y hy,?_⟩
 refine ⟨.int _,H,I.tok _,⟨_,rfl⟩,?_⟩
 have e:(bs.map Value.bool).toArray.toList.countP (isBoolOf true)=bs.countP id:=by
  show (bs.map Value.bool).countP (isBoolOf true)=_
  rw [List.countP_map]
  congr 1
  funext b
  cases b<;>rfl
 rw [e]
 exact q
def x2i (K:PySem.W.Frag):V->List V->Hp->VK->Prop:=fun x vs H Q=>∃ l,∃ bs:List Bool,∃ j:Nat,x=.ref l/\vs=[.bl true]/\SqL K H l (bs.map V.bl)/\bs[j]?=some true/\(∀ m,m<j->bs[m]?=some false)/\j<=1000/\Q (.int (j:Nat)) H
theorem w7J:MtR X "list.index" (x2i X.K):=by
 intro pins s σ H x vs v us Q I rx rv h
 obtain ⟨l,bs,j,rfl,rfl,hq,hj,hno,hsm,q⟩:=h
 cases rx
 obtain ⟨u,rfl,ru⟩:=rv.one
 cases ru
 obtain ⟨its,r,⟨o,n,ho,c,hd,dt⟩,hz⟩:=I.list hq
 rw [q6k r] at dt
 obtain ⟨cls,dd,data,sl⟩:=o
 simp only at c dt
 subst c dt
 obtain ⟨hjl,hjv⟩:=List.getElem?_eq_some_iff.mp hj
 refine call_meets PySem.F.slot_list_index ⟨_,ho,rfl⟩ PySem.F.entry_list_index (PySem.F.args_list_index_2 _ _) (SeqAt.list_indexAt l (bs.map Value.bool).toArray n dd sl (.bool true) (isBoolOf true) j (by simpa using hjl) (by omega) ?_ ?_) ⟨ho,fun y hy=>q9J y hy,?_⟩
 ·simp [isBoolOf,hjv]
 ·intro m hm hlt
  have:=hno m hlt
  obtain ⟨_,hv⟩:=List.getElem?_eq_some_iff.mp this
  simp [isBoolOf,hv]
 ·exact ⟨.int _,H,I.tok _,⟨_,rfl⟩,q⟩
theorem q97 (hc:X.calm=true):q3E X (.type "list") (fun xs H Q=>∃ a kvs,xs=[.ref a]/\H a=some (.dK kvs)/\∀ l,H l=none->Q (.ref l) (upd H l (.lst (kvs.map fun p=>kV p.1)))):=by
 intro pins s σ H xs us Q I r h
 obtain ⟨a,kvs,rfl,hH,q⟩:=h
 obtain ⟨u,rfl,rx⟩:=q4N r
 cases rx
 obtain ⟨hz,hs,vs,rk,hd⟩:=(show q1g X.prog X.w H s.heap a (.dK kvs) from I.hok a _ hH)
 obtain ⟨ep,hat⟩:∃ ep,s.heap.DictAt (q2a X.prog X.w) a vs ep:=by
  obtain ⟨o,es,ep,h1,h2,h3,h4⟩:=hd
  exact ⟨ep,o,es,h1,h2,h3,h4⟩
 have hlen:kvs.length=vs.length:=Paired.length rk
 refine PySem.W.kdl_call (PySem.W.kdl_dict hs) (I.ok.hd hc) hat (by omega) fun h' tk acc' c' kp e hacc=>?_
 have rv:q1x (kvs.map fun p=>kV p.1) acc'.toList:=by
  have key:∀ {kvs:List (Key×V)}{vs:List (Key×Value)} (acc:List Value),KV kvs vs->acc.length=vs.length->(∀ (j:Nat) (v:Value),acc[j]?=some v->∃ k x,vs[j]?=some (k,x)/\w2U k v=true)->q1x (kvs.map fun p=>kV p.1) acc:=by
   intro kvs
   induction kvs with
   | nil=>intro vs acc rk hl _;cases rk;cases acc with
    | nil=>exact .nil
    | cons _ _=>simp at hl
   | cons p kvs ih =>
    intro vs acc rk hl hv
    cases rk with
    | cons h1 t1 =>
     cases acc with
     | nil=>simp at hl
     | cons v acc =>
      refine .cons ?_ (ih acc t1 (by simpa using hl) fun j v hj=>by simpa using hv (j + 1) v (by simpa using hj))
      obtain ⟨k,x,e1,e2⟩:=hv 0 v rfl
      simp only [List.getElem?_cons_zero,Option.some.injEq] at e1
      subst e1
      have hk:p.1=k:=h1.1
      rcases q17 e2 with ⟨i,t,e,rfl⟩ | ⟨i,t,e,rfl⟩
      ·show q1Q (kV p.1) _;rw [hk,e];exact ⟨t,rfl⟩
      ·show q1Q (kV p.1) _;rw [hk,e];exact ⟨t,rfl⟩
  exact key acc'.toList rk (by rw [Array.length_toList];exact hacc.1) fun j v hj=>hacc.2 j v (by rw [<- Array.getElem?_toList];exact hj)
 exact ⟨.ref s.heap.objs.size,_,I.laid (t':=tk) kp (Nat.le_refl _) (show q1g X.prog X.w _ h' _ (.lst _) from ⟨by simpa using hz,acc'.toList,c',rv,by rw [Array.toArray_toList];exact e⟩),rfl,q _ (I.hok.fresh (Nat.le_refl _))⟩
def w3c (x:Str):List V:=x.cps.toList.map fun c=>V.str ⟨#[c]⟩
theorem q87 (hc:X.calm=true):q3E X (.type "tuple") (fun xs H Q=>∃ x,xs=[.str x]/\x.cps.size<=sizeLine/\∀ l,H l=none->Q (.ref l) (upd H l (.tup (w3c x)))):=by
 intro pins s σ H xs us Q I r h
 obtain ⟨x,rfl,hz,q⟩:=h
 obtain ⟨u,rfl,rx⟩:=q4N r
 obtain ⟨t,rfl⟩:=rx
 refine call_tuple_str (I.ok.hd hc) x t (fun h' tk acc kp hacc=>?_) hz
 have I1:Inv X pins σ H { s with heap:=h',toks:=tk }:=I.kept (t':=tk) kp
 have rv:q1x (w3c x) acc.toList:=by
  have key:∀ (cs:List Nat) (acc:List Value),acc.length=cs.length->(∀ (j:Nat) (v:Value),acc[j]?=some v->∃ c u,cs[j]?=some c/\v=.str ⟨#[c]⟩ u)->q1x (cs.map fun c=>V.str ⟨#[c]⟩) acc:=by
   intro cs
   induction cs with
   | nil=>intro acc hl _;cases acc with
    | nil=>exact .nil
    | cons _ _=>simp at hl
   | cons c cs ih =>
    intro acc hl hv
    cases acc with
    | nil=>simp at hl
    | cons v acc =>
     obtain ⟨c',u,e1,rfl⟩:=hv 0 v rfl
     simp only [List.getElem?_cons_zero,Option.some.injEq] at e1
     subst e1
     exact .cons ⟨u,rfl⟩ (ih acc (by simpa using hl) fun j v hj=>by simpa using hv (j + 1) v (by simpa using hj))
  refine key x.cps.toList acc.toList (by rw [Array.length_toList,Array.length_toList];exact hacc.1) fun j v hj=>?_
  obtain ⟨c,u,e1,e2⟩:=hacc.2 j v (by rw [<- Array.getElem?_toList];exact hj)
  exact ⟨c,u,by rw [Array.getElem?_toList];exact e1,e2⟩
 have I2:Inv X pins σ (upd H h'.objs.size (.tup (w3c x))) { s with heap:=h'.push { cls:=.type "tuple",data:=.seq acc },toks:=tk } :=
  I1.laid (t':=tk) (fun b o e=>Heap.get?_push_of_some _ e) (Nat.le_refl _) (show q1g X.prog X.w _ _ _ (.tup (w3c x)) from ⟨by unfold w3c;simpa using hz,acc.toList,rv,by rw [Array.toArray_toList];exact IsTup.new _ _⟩)
 exact ⟨.ref h'.objs.size,_,I2,rfl,q _ (I1.hok.fresh (Nat.le_refl _))⟩
end
end L2
end
section
namespace L2
open PySem PySem.Spec PyProof.Rows
theorem w1C (elt target iter:Expr) (ifs:List Expr) (scope:Scope) (pos:Pos) (it acc:Value) (env:Env) :
  compTurn (.SetComp elt [⟨target,iter,ifs,0⟩] scope pos) 0 it acc env=(do
   standAt iter.pos
   let r <- pyNext it
   match r with
   | none=>pure (.done .next)
   | some v =>
    letOwnedTupleGo target it v
    assign target env v
    let mut ok:=true
    for c in ifs do
     if ok then ok <- isTrue c env (eval c env)
    if ok then
     (do let v <- eval elt env;standAt elt.pos;let _ <- call (.builtin "set.add") [acc,v])
    again (.compLoop (.SetComp elt [⟨target,iter,ifs,0⟩] scope pos) 0 it acc env)):=by rfl
section
variable {prog:Program}{w:World}{A:Around}{E:Value->Shared->Prop}{R:Result->Shared->Prop}{s:Shared}
theorem q48 {elt target iter ifs q0V scope pos it acc env}
  (h0:codeAny (model prog w) A (.compLoop (.SetComp elt (⟨target,iter,ifs,0⟩::q0V) scope pos) 0 it acc env) R s)
  (h:wpAny (model prog w) A (pyIter it) (fun it' s'=>codeAny (model prog w) A (.compLoop (.SetComp elt (⟨target,iter,ifs,0⟩::q0V) scope pos) 0 it' acc env) R s')
   (notedBy (model prog w) A env fun x s'=>R (.error x) s') s) :
  codeAny (model prog w) A (.compStart (.SetComp elt (⟨target,iter,ifs,0⟩::q0V) scope pos) 0 it acc env) R s:=by
 refine codeAny_of_tree ?_
 show wpAny _ _ ((compStart (.SetComp elt (⟨target,iter,ifs,0⟩::q0V) scope pos) 0 it acc env).onRaise (fun x=>do noteFrame x env;standAt theWindowsPlace)) _ _ s
 refine wpAny_notedAt ?_
 unfold compStart
 show wpAny _ _ (ask >>= _) _ _ s
 refine wpAny_bind (wpAny_askSetting (wpAny_ite ?_))
 split
 ·first
   | exact wpAny_bind (wpAny_pure (wpAny_pure (And.intro rfl h0)))
   | exact wpAny_pure (And.intro rfl h0)
 ·first
   | exact wpAny_bind (wpAny_rule (wpAny_bind (wpAny_standAt (wpAny_bind (wpAny_mono h (fun it' s' hq=>wpAny_pure (And.intro rfl hq)) fun _ _ x=>x)))))
   | (refine wpAny_bind (wpAny_rule ?_);show wpAny _ _ (standAt iter.pos >>= _) _ _ s;exact wpAny_bind (wpAny_standAt (wpAny_bind (wpAny_mono h (fun it' s' hq=>wpAny_pure (And.intro rfl hq)) fun _ _ x=>x))))
theorem w0n {Q:Value->Shared->Prop} (h:Q (.ref s.heap.objs.size) { s with heap:=s.heap.push (q2O w) }):wpAny (model prog w) A (newSet (.type "set")) Q E s:=by
 unfold newSet setsByText
 refine wpAny_bind (wpAny_bind (wpAny_askSetting (wpAny_pure ?_)))
 dsimp only
 simp only [newObj]
 exact wpAny_bind (wpAny_alloc (wpAny_pure h))
theorem w0o {a:Addr}{ss:List Str}{x:Str}{tk:Tok}{Q:Value->Shared->Prop} (hS:q92 w s.heap a ss) (hr:ss.length + 1<scanBound)
  (h:∀ h' tk',Heap.SameBut a s.heap h'->q92 w h' a (if x∈ss then ss else ss++[x])->Q .none { s with heap:=h',toks:=tk' }) :
  wpAny (model prog w) A (call (.builtin "set.add") [.ref a,.str x tk]) Q E s:=by
 have hT:s.TypeIs (.ref a) "set":=by obtain ⟨es,ep,t,I,_⟩:=id hS;exact ⟨_,I.at_,rfl⟩
 refine wpAny_call_entry F.slot_set_add hT F.entry_set_add ?_ (F.args_set_add_2 _ _)
 unfold Builtin.«set.add» Builtin.Frozenset.oneOther
 simp only [List.isEmpty_nil,bind_assoc]
 unfold Builtin.Frozenset.addrOf
 refine wpAny_bind (wpAny_pure ?_)
 try dsimp only
 refine wpAny_bind (wpAny_pure ?_)
 try dsimp only
 refine wpAny_bind ?_
 refine w50 hS hr fun h' tk' sb hS'=>?_
 exact wpAny_pure ⟨_,rfl,h h' tk' sb hS'⟩
end
section
variable {prog:Program}{w:World}{A:Around}{R:Result->Shared->Prop}{s:Shared}
theorem w3d {elt target iter:Expr}{ifs:List Expr}{scope:Scope}{pos:Pos}{it acc:Value}{env:Env} (I:Nat->Shared->Prop)
  (turn:∀ n s,I n s->wpAny (model prog w) A (pyNext it) (fun r s₁=>match r with
   | none=>R (.ok .next) s₁
   | some v=>wpAny (model prog w) A (letOwnedTupleGo target it v) (fun _ s₁'=>wpAny (model prog w) A (assign target env v) (fun _ s₂ =>
     wpAny (model prog w) A (forIn ifs true fun c r=>if r=true then do let ok <- isTrue c env (eval c env);pure (ForInStep.yield ok) else pure (ForInStep.yield r)) (fun ok s₃ =>
      if ok=true then wpAny (model prog w) A (eval elt env) (fun x s₄ =>
       wpAny (model prog w) A (call (.builtin "set.add") [acc,x]) (fun _ s₅=>∃ m,m<n/\I m s₅) (fun _ _=>False) s₄) (fun _ _=>False) s₃
      else ∃ m,m<n/\I m s₃) (fun _ _=>False) s₂) (fun _ _=>False) s₁') (fun _ _=>False) s₁) (fun _ _=>False) s)
  (n:Nat) (h:I n s) :
  codeAny (model prog w) A (.compLoop (.SetComp elt [⟨target,iter,ifs,0⟩] scope pos) 0 it acc env) R s:=by
 refine codeAny_loop rfl I (fun n s hI=>?_) n h
 show wpAny _ A ((compTurn (.SetComp elt [⟨target,iter,ifs,0⟩] scope pos) 0 it acc env).onRaise (fun x=>do noteFrame x env;theTreesLotGoes x)) _ _ s
 refine wpAny_noted ?_
 rw [w1C]
 have nf:∀ {α:Type}{t:Sem α}{Q:α->Shared->Prop}{E':Value->Shared->Prop}{s:Shared},wpAny (model prog w) A t Q (fun _ _=>False) s->wpAny (model prog w) A t Q E' s :=
  fun h=>wpAny_mono h (fun _ _ q=>q) fun _ _ f=>f.elim
 refine wpAny_bind (wpAny_standAt (wpAny_bind (nf (wpAny_mono (turn n s hI) (fun r s₁ h₁=>?_) fun _ _ h'=>h'))))
 cases r with
 | none=>exact wpAny_pure h₁
 | some v =>
  refine wpAny_bind (nf (wpAny_mono h₁ (fun _ s₁' h₁'=>?_) fun _ _ h'=>h'))
  refine wpAny_bind (nf (wpAny_mono h₁' (fun _ s₂ h₂=>wpAny_bind (nf (wpAny_mono h₂ (fun ok s₃ h₃=>?_) fun _ _ h'=>h'))) fun _ _ h'=>h'))
  cases ok with
  | false=>exact wpAny_pure ⟨rfl,h₃⟩
  | true =>
   exact wpAny_bind (wpAny_bind (nf (wpAny_mono h₃ (fun x s₄ h₄=>wpAny_bind (wpAny_standAt (wpAny_bind (nf (wpAny_mono h₄ (fun _ s₅ h₅=>wpAny_pure (wpAny_pure ⟨rfl,h₅⟩)) fun _ _ h'=>h'))))) fun _ _ h'=>h')))
end
inductive SLI (X:Cx) (pins:List (Addr×Obj)) (N':List Str) (scope:Scope) (cl:List (Str×Addr)) (C:Addr) (s2:Shared) (H2:Hp) (fp:List Addr) (nt:Nat) (ix:List Nat) (σ:St) (tn:Nat->Heap->Prop) (W:Nat->Nat->List Str->Hp->Prop) (n:Nat) (s':Shared):Prop
 | mk (i:Nat) (acc:List Str) (oD:Obj) (H':Hp) (I:Inv (q0O X N' scope cl C s2 H2 fp (X.pn++pins)) [(s2.heap.objs.size,oD)] (q5B nt ix σ) H' s') (S:q92 X.w s'.heap s2.heap.objs.size acc) (t:tn i s'.heap) (f:∀ b∈fp,H' b=none) (w:W i n acc H'):SLI X pins N' scope cl C s2 H2 fp nt ix σ tn W n s'
theorem w7K {X:Cx}{elt tg iter:Expr}{ifs:List Expr}{scope:Scope}{pos:Pos}{g:TG}{tt:TT}{te:TE}{N':List Str}{nt:Nat}{ix:List Nat}
  (hc:X.calm=true) (S:q4P X scope N' nt ix) (lo:Low nt g)
  (hb:∀ cl C s₀ H₀ ex pn,PG (q0O X N' scope cl C s₀ H₀ ex pn) tg g/\PTs (q0O X N' scope cl C s₀ H₀ ex pn) ifs tt/\PE (q0O X N' scope cl C s₀ H₀ ex pn) elt te)
  {cl:List (Str×Addr)} (c1:∀ x c,cl.lookup x=some c->X.env.cells.lookup x=some c) (c2:∀ y∈scope.names,y.2=.free->∃ c,cl.lookup y.1=some c)
  {pins:List (Addr×Obj)}{σ:St}{H2:Hp}{s2:Shared}{it:Addr}{fp:List Addr}{tn:Nat->Heap->Prop}{J:It}{Q:VK}{E:Value->Shared->Prop}
  (I2:Inv X pins σ H2 s2) (T:w97 X.prog X.w X.K tg J fp it tn) (st2:tn 0 s2.heap) (f2:∀ b∈fp,w1c X pins H2 b)
  {W:Nat->Nat->List Str->Hp->Prop} (w0:∃ m,W 0 m [] H2)
  (turn:∀ i m acc H,W i m acc H->(J.stop i H/\∀ p,H p=none->Q (.ref p) (upd H p (SetO X.w p acc))) \/
   (J.go i H/\acc.length + 1<scanBound/\∀ x H',J.yld i H x H'->g x (q5B nt ix σ) H' fun σ2 H2=>tt σ2 H2 fun b H3 =>
    if b=true then te σ2 H3 fun y H4=>∃ z m',y=.str z/\m'<m/\W (i + 1) m' (if z∈acc then acc else acc++[z]) H4 else ∃ m',m'<m/\W (i + 1) m' acc H3))
  {RR:Value->Addr->Result->Shared->Prop}
  (hRR:∀ D C m s' (acc:List Str) H',H' D=none->w1c X pins (upd H' D (SetO X.w D acc)) C->Q (.ref D) (upd H' D (SetO X.w D acc))->s'.heap.Ns C m->(∀ h',Heap.SameBut C s'.heap h'->Inv X pins σ (upd H' D (SetO X.w D acc)) { s' with heap:=h' })->RR (.ref D) C (.ok .next) s') :
  wpAny (model X.prog X.w) X.A (newSet (.type "set")) (fun acc s₃=>wpAny (model X.prog X.w) X.A (newFunctionEnv scope X.env.globals cl [] X.env.qual none .none (some X.env)) (fun cenv s₄ =>
   codeAny (model X.prog X.w) X.A (.compStart (.SetComp elt [⟨tg,iter,ifs,0⟩] scope pos) 0 (.ref it) acc { cenv with scope:=relabel scope X.env }) (RR acc cenv.locals) s₄) E s₃) E s2:=by
 refine w0n (wpAny_newFunctionEnv S.nocell (by intro y hy;simp at hy) (fun h₁ hns₁ hsb₁=>?_) S.kind)
 dsimp only at hns₁ hsb₁ ⊢
 generalize hG2:s2.heap.push (q2O X.w)=G2 at hns₁ hsb₁ ⊢
 have hC:G2.objs.size=s2.heap.objs.size + 1:=by rw [<- hG2,Heap.size_push]
 have hDC:s2.heap.objs.size≠G2.objs.size:=by rw [hC];exact Nat.ne_of_lt (Nat.lt_succ_self _)
 have hCle:s2.heap.objs.size<=G2.objs.size:=by rw [hC];exact Nat.le_succ _
 have below:∀ b,b<s2.heap.objs.size->b≠G2.objs.size:=fun b hb=>by rw [hC];exact Nat.ne_of_lt (Nat.lt_succ_of_lt hb)
 have old:∀ b o,s2.heap.get? b=some o->h₁.get? b=some o:=fun b o e=>hsb₁.extBut b o (below b (Heap.lt_size e)) (Heap.get?_push_of_some _ (hG2 ▸ Heap.get?_push_of_some _ e))
 have hacc:h₁.get? s2.heap.objs.size=some (q2O X.w):=hsb₁.extBut _ _ hDC (Heap.get?_push_of_some _ (hG2 ▸ Heap.get?_push_size _ rfl))
 have ff:∀ b∈fp,b<s2.heap.objs.size:=fun b hb=>by
  obtain ⟨o,e,_⟩:=T.obj _ _ st2 b hb
  exact Heap.lt_size e
 have I3:Inv (q0O X N' scope cl G2.objs.size s2 H2 fp (X.pn++pins)) [] (q5B nt ix σ) H2 { s2 with heap:=h₁,toks:=s2.toks + ([] : List (Str×Value)).length }:=w4Z S I2 c1 c2 f2 ff hCle hns₁ old
 obtain ⟨pg,pt,pe⟩:=hb cl G2.objs.size s2 H2 fp (X.pn++pins)
 have hDfs:s2.heap.objs.size∉frs X.stack:=fun z=>by
  rcases List.mem_cons.mp (I2.stkSub _ z) with e | e
  ·exact absurd I2.lt (by rw [<- e];exact Nat.lt_irrefl _)
  ·exact I2.nofs (Nat.le_refl _) e
 have st1:tn 0 h₁:=T.keep _ _ _ st2 fun b _ o e=>old b o e
 have hDf:s2.heap.objs.size∉fp:=fun z=>absurd (ff _ z) (Nat.lt_irrefl _)
 have stat:∀ {H':Hp}{pl:List (Addr×Obj)},(∀ p∈pl,p.1∉fp)->(∀ b∈fp,H' b=none)->∀ b∈fp,w1c (q0O X N' scope cl G2.objs.size s2 H2 fp (X.pn++pins)) pl H' b:=fun hpl hn b hb=>by
  obtain ⟨f0,f1,f2',f3,f4,f5⟩:=f2 b hb
  refine ⟨hn b hb,below b (ff b hb),fun z=>?_,.inl hb,fun x c e=>f4 x c (c1 x c e),fun p hp z=>?_⟩
  ·rcases List.mem_cons.mp (I2.stkSub _ z) with e | e
   ·exact f1 e
   ·exact f2' e
  ·rcases List.mem_append.mp hp with q | q
   ·exact f5 p q z
   ·exact hpl p q (z ▸ hb)
 obtain ⟨m0,w0⟩:=w0
 have loop:codeAny (model X.prog X.w) X.A (.compLoop (.SetComp elt [⟨tg,iter,ifs,0⟩] scope pos) 0 (.ref it) (.ref s2.heap.objs.size) (compEnvC scope cl G2.objs.size X.env))
    (RR (.ref s2.heap.objs.size) G2.objs.size) { s2 with heap:=h₁,toks:=s2.toks + ([] : List (Str×Value)).length }:=by
  refine w3d (SLI X pins N' scope cl G2.objs.size s2 H2 fp nt ix σ tn W) ?_ m0
   ⟨0,[],_,H2,I3.pin1 hacc (I2.hok.fresh (Nat.le_refl _)) hDC hDfs (fun v z=>nomatch z),w1u X.w hacc,st1,fun b hb=>(f2 b hb).1,w0⟩
  rintro n s3 ⟨i,acc,oD,H3,J3,hS3,st3,fr3,w3⟩
  have plD:∀ p∈[(s2.heap.objs.size,oD)],p.1∉fp:=fun p hp=>by
   have:p=(s2.heap.objs.size,oD):=by simpa using hp
   rw [this];exact hDf
  have stS:∀ {s8:Shared},s8.heap.get? s2.heap.objs.size=some oD->q92 X.w s8.heap s2.heap.objs.size acc:=fun {s8} e=>hS3.keep fun o eo=>by
   have q:=(J3.pin (s2.heap.objs.size,oD) (List.mem_append_right _ (List.mem_singleton.mpr rfl))).1
   rw [q] at eo;cases eo;exact e
  rcases turn i n acc H3 w3 with ⟨stop,qn⟩ | ⟨go,hlt,step⟩
  ·refine thn (T.done (q0O X N' scope cl G2.objs.size s2 H2 fp (X.pn++pins)) rfl rfl rfl hc i _ s3 _ H3 _ J3 (stat plD fr3) st3 stop) fun r s4 h_0=>?_
   obtain ⟨hr,I4⟩:=h_0
   subst hr
   obtain ⟨pD,pN,_⟩:=I4.pin (s2.heap.objs.size,_) (List.mem_append_right _ (List.mem_singleton.mpr rfl))
   obtain ⟨mm,hn,_⟩:=I4.loc
   have hCn:H3 G2.objs.size=none:=I4.free
   refine hRR _ _ mm s4 acc H3 pN (I2.fpOk hCle (by rw [q0e (Ne.symm hDC)];exact hCn)) (qn _ pN) hn fun h' sb=>?_
   have hu:Un (frs X.stack) fp H2 (upd H3 s2.heap.objs.size (SetO X.w s2.heap.objs.size acc)) s2.heap h':=Un.grow I4.base sb hCle (Nat.le_refl _) pN
   refine I2.call' (s':={ s4 with heap:=h' }) (ch:=fp) I4.os hu ?_ I4.bare fun b hb=>?_
   ·exact q5G (w0i I4.hok hCn sb) pN (w7z ((stS pD).keep fun o e=>(sb.2 _ hDC).trans e))
   ·obtain ⟨_,f1,_,f3,f4,f5⟩:=f2 b hb
    exact ⟨f3,f1,f4,f5⟩
  ·refine thn (T.item (q0O X N' scope cl G2.objs.size s2 H2 fp (X.pn++pins)) rfl rfl rfl hc i _ s3 _ H3 _ J3 (stat plD fr3) st3 go) fun r s4 h_1=>?_
   obtain ⟨u,hr,h4⟩:=h_1
   subst hr
   refine thn h4 fun _ s5 h_2=>?_
   obtain ⟨x,H5,I5,r5,y5,st5,fr5⟩:=h_2
   have I5':=I5.pinned (stat plD fr5) (T.obj _ _ st5)
   refine thn (pg _ s5 _ H5 x u _ I5' r5 (lo _ _ _ _ (step x H5 y5))) fun _ s6 h_3=>?_
   obtain ⟨σ6,H6,I6,q6,l6,k6⟩:=h_3
   have hw:∀ (j:Nat) v,(q5B nt ix σ)[j]?=some (some v)->σ6[j]?=some (some v):=fun j v e=>by
    by_cases hj:nt<=j
    ·rw [k6 j hj];exact e
    ·unfold q5B at e
     rw [List.getElem?_append_left (by simpa using hj),List.getElem?_replicate,if_pos (by omega)] at e
     cases e
   refine thn (pt _ s6 σ6 H6 _ I6 q6) fun b s7 h_4=>?_
   obtain ⟨H7,I7,q7⟩:=h_4
   have fpk:∀ {s8:Shared}{σ8:St}{H8:Hp},Inv (q0O X N' scope cl G2.objs.size s2 H2 fp (X.pn++pins)) ([(s2.heap.objs.size,oD)]++q9F fp s5.heap) σ8 H8 s8 ->
     tn (i + 1) s8.heap/\∀ b∈fp,H8 b=none:=fun {s8 σ8 H8} I8=>by
    refine ⟨T.keep _ _ _ st5 fun b hb o e=>(I8.pin (b,o) (List.mem_append_right _ (List.mem_append_right _ (q2W hb e)))).1,fun b hb=>?_⟩
    obtain ⟨o,e,d⟩:=T.obj _ _ st5 b hb
    exact (I8.pin (b,o) (List.mem_append_right _ (List.mem_append_right _ (q2W hb e)))).2.1
   cases b with
   | false =>
    simp only [Bool.false_eq_true,if_false] at q7 ⊢
    obtain ⟨m',hm,w7⟩:=q7
    obtain ⟨t7,f7⟩:=fpk I7
    obtain ⟨pD,_⟩:=I7.pin (s2.heap.objs.size,oD) (List.mem_append_right _ (List.mem_append_left _ (List.mem_singleton.mpr rfl)))
    exact ⟨m',hm,i + 1,acc,oD,H7,(I7.weak l6.symm hw).unpinned,stS pD,t7,f7,w7⟩
   | true =>
    simp only [if_true] at q7 ⊢
    refine thn (pe _ s7 σ6 H7 _ I7 q7) fun u8 s8 h_5=>?_
    obtain ⟨y,H8,I8,r8,z,m',hy,hm,w8⟩:=h_5
    obtain ⟨t8,f8⟩:=fpk I8
    obtain ⟨pD,pN,_⟩:=I8.pin (s2.heap.objs.size,_) (List.mem_append_right _ (List.mem_append_left _ (List.mem_singleton.mpr rfl)))
    subst hy
    obtain ⟨tz,rfl⟩:=r8
    refine w0o (stS pD) hlt fun h9 tk9 sb9 hS9=>?_
    obtain ⟨es9,ep9,t9,is9,pm9⟩:=id hS9
    have e9':=is9.at_
    refine ⟨m',hm,i + 1,_,{ cls:=.type "set",dict:=none,data:=.set es9 ep9 t9 },H8,?_,hS9,T.keep _ _ _ t8 fun b hb o e=>sb9.extBut b o (fun z=>hDf (z ▸ hb)) e,f8,w8⟩
    have I8':Inv (q0O X N' scope cl G2.objs.size s2 H2 fp (X.pn++pins)) [] (q5B nt ix σ) H8 s8:=(I8.weak l6.symm hw).pins_of fun p hp=>absurd hp (by simp)
    have I9:Inv (q0O X N' scope cl G2.objs.size s2 H2 fp (X.pn++pins)) [] (q5B nt ix σ) H8 { s8 with heap:=h9,toks:=tk9 } :=
     I8'.turned (it:=s2.heap.objs.size) (fun b o hb e=>sb9.extBut b o hb e) pN hDC (.inr (Nat.le_refl _)) (fun x c e z=>by
      obtain ⟨v,q⟩:=I2.cell x c (c1 x c e)
      exact absurd q.lt (by rw [z];exact Nat.lt_irrefl _)) fun p hp z=>by
      have hp:p∈X.pn++pins:=(List.mem_append.mp hp).elim id fun z=>absurd z (by simp)
      exact absurd (Heap.lt_size (I2.pin p hp).1) (by rw [z];exact Nat.lt_irrefl _)
    exact I9.pin1 e9' pN hDC hDfs (fun v z=>nomatch z)
 exact q48 loop (T.self _ 0 _ _ _ st1 loop)
inductive x4a (w:World) (nt:Nat) (ix:List Nat) (g:TG) (tt:TT) (te:TE) (σ:St) (Q:VK) (J:It) (H1:Hp):Prop
 | mk (W:Nat->Nat->List Str->Hp->Prop) (w0:∃ m,W 0 m [] H1) (turn:∀ i m acc H,W i m acc H ->
 (J.stop i H/\∀ p,H p=none->Q (.ref p) (upd H p (SetO w p acc))) \/
 (J.go i H/\acc.length + 1<scanBound/\∀ x H',J.yld i H x H'->g x (q5B nt ix σ) H' fun σ2 H2=>tt σ2 H2 fun b H3 =>
  if b=true then te σ2 H3 fun y H4=>∃ z m',y=.str z/\m'<m/\W (i + 1) m' (if z∈acc then acc else acc++[z]) H4 else ∃ m',m'<m/\W (i + 1) m' acc H3)):x4a w nt ix g tt te σ Q J H1
def x0y (w:World) (nt:Nat) (ix:List Nat) (wi:TI) (g:TG) (tt:TT) (te:TE):TE:=fun σ H Q=>wi σ H (x4a w nt ix g tt te σ Q)
theorem w5W {X:Cx}{elt tg iter:Expr}{ifs:List Expr}{scope:Scope}{pos:Pos}{wi:TI}{g:TG}{tt:TT}{te:TE}{N':List Str}{nt:Nat}{ix:List Nat}
  (hc:X.calm=true) (S:q4P X scope N' nt ix) (lo:Low nt g) (hi:PI X tg iter wi)
  (hb:∀ cl C s₀ H₀ ex pn,PG (q0O X N' scope cl C s₀ H₀ ex pn) tg g/\PTs (q0O X N' scope cl C s₀ H₀ ex pn) ifs tt/\PE (q0O X N' scope cl C s₀ H₀ ex pn) elt te)
  (hs:∀ x,foldedSetIterable iter X.env x=pure x:=by intro _;rfl):PE X (.SetComp elt [⟨tg,iter,ifs,0⟩] scope pos) (x0y X.w nt ix wi g tt te):=by
 intro pins s σ H Q I h
 obtain ⟨cl,hcl,c1,c2⟩:=q6g (scope:=scope) (env:=X.env) fun y hy hf=>I.ok.has y.1 (S.free y hy hf)
 show wpAny _ _ (comprehension (.SetComp elt [⟨tg,iter,ifs,0⟩] scope pos) scope X.env (firstIterPos [⟨tg,iter,ifs,0⟩] pos) (newSet (.type "set")) (firstAsync [⟨tg,iter,ifs,0⟩]) (firstIter [⟨tg,iter,ifs,0⟩] X.env)) _ _ _
 refine wpAny_comprehension_free (use:=none) rfl hs hcl S.kind S.loc (thn (hi pins s σ H _ I h) fun v s1 h1=>thn h1 fun itv s2 h2=>?_)
 obtain ⟨it,fp,tn,J,H2,e,I2,T,st2,f2,W,w0,turn⟩:=h2
 subst e
 refine w7K (RR:=fun acc C=>compPost (model X.prog X.w) X.A X.xe none (EP X pins σ Q) acc C) hc S lo hb c1 c2 I2 T st2 f2 w0 turn ?_
 intro D C m s' acc H' hD _ q hn hI
 exact ⟨m,hn,fun h' sb=>⟨.ref D,_,hI h' sb,rfl,q⟩⟩
section
variable {X:Cx}
theorem w0p:q3E X (.builtin "len") (fun xs H Q=>∃ p ss,xs=[.ref p]/\H p=some (SetO X.w p ss)/\Q (.int ss.length) H):=by
 intro pins s σ H xs us Q I r h
 obtain ⟨p,ss,rfl,hq,q⟩:=h
 obtain ⟨u,rfl,rx⟩:=q4N r
 cases rx
 obtain ⟨es,ep,t,is,pm⟩:=(show q1g X.prog X.w H s.heap p (SetO X.w p ss) from I.hok p _ hq).1
 have hlen:es.size=ss.length:=by rw [<- pm.length_eq,List.length_map,Array.length_toList]
 have hsm:(es.size:Int)<2 ^ 63:=by
  have h1:=is.few
  have h2:scanBound<=2 ^ 62:=by decide
  omega
 refine Calls.call_function_entry kind_len plain_len entry_len (args_len1 _) (wpAny_len_body_set is.at_ ⟨rfl,rfl,rfl⟩ rfl is.fits hsm ?_)
 refine ⟨.int _,H,I.tok _,⟨_,rfl⟩,?_⟩
 rw [hlen];exact q
end
end L2
end
section
namespace L2
open PySem PySem.Spec PyProof.Rows
section
variable {K:PySem.W.Frag}{nt:Nat}{ix:List Nat}{te:TE}{σ:St}{H1:Hp}{Q:VK}{a:Addr}{xs:List V}{i:Nat}
end
end L2
namespace L2
open PySem PySem.Spec PyProof.Rows
def w7L (so:Scope) (N:List Str) (scope:Scope) (N':List Str) (nt:Nat) (ix:List Nat):Bool :=
 (scope.kind == .function) && (scope.names.all fun y=>y.2 != .cell) && (scope.names.all fun y=>y.2 != .local || scope.names.lookup y.1 == some .local) &&
 (scope.names.all fun y=>y.2 != .free || so.names.lookup y.1 == some .cell || so.names.lookup y.1 == some .free) &&
 ((List.range ix.length).all fun k=>match ix[k]? with
  | none=>false
  | some i=>match N[i]? with
   | none=>false
   | some x=>N'[nt + k]? == some x && scope.names.lookup x == some .free) && (N'.length == nt + ix.length)
theorem q0v {X:Cx}{so:Scope}{N:List Str}{scope:Scope}{N':List Str}{nt:Nat}{ix:List Nat} (h:w7L so N scope N' nt ix=true) (h1:X.env.scope=so:=by rfl) (h2:X.N=N:=by rfl):q4P X scope N' nt ix:=by
 unfold w7L at h
 simp only [Bool.and_eq_true,List.all_eq_true] at h
 obtain ⟨⟨⟨⟨⟨a,b⟩,c⟩,d⟩,e⟩,l⟩:=h
 refine ⟨by simpa using a,fun y hy z=>?_,fun y hy z=>?_,fun y hy z=>?_,fun k i hk=>?_,by simpa using l⟩
 ·have:=b y hy;simp [z] at this
 ·have:=c y hy;simpa [z] using this
 ·have:=d y hy
  rw [h1]
  simpa [z] using this
 ·have hl:k<ix.length:=(List.getElem?_eq_some_iff.mp hk).1
  have:=e k (List.mem_range.mpr hl)
  rw [hk] at this
  rw [h2]
  simp only at this
  split at this
  ·cases this
  ·rename_i x hx
   simp only [Bool.and_eq_true] at this
   exact ⟨x,hx,by simpa using this.1,by simpa using this.2⟩
end L2
end
section
namespace L2
open PySem PySem.Spec PyProof.Rows
section
variable {K:PySem.W.Frag}{nt:Nat}{ix:List Nat}{te:TE}{σ:St}{H1:Hp}{Q:VK}{a b:Addr}{xs ys:List V}{i k:Nat}
end
end L2
end
section
namespace J
open PySem L2
abbrev D:=PyData
inductive R (α:Type) where
 | ok (a:α)
 | ex (c:Str) (n:Option D)
 | no
def R.bind {α β:Type}:R α->(α->R β)->R β
 | .ok a,f=>f a
 | .ex c n,_=>.ex c n
 | .no,_=>.no
@[simp] theorem bind_ok {α β:Type} (a:α) (f:α->R β):(R.ok a).bind f=f a:=rfl
@[simp] theorem bind_ex {α β:Type} (c:Str) (n:Option D) (f:α->R β):(R.ex c n).bind f=.ex c n:=rfl
@[simp] theorem bind_no {α β:Type} (f:α->R β):(R.no:R α).bind f=.no:=rfl
def kD:Key->D
 | .inl i=>.int i
 | .inr x=>.str x
def tD (ks:List Key):D:=.tuple (ks.map kD)
mutual
inductive RD (K:PySem.W.Frag) (H:Hp):V->D->Prop
 | none:RD K H .non .none
 | bool (b:Bool):RD K H (.bl b) (.bool b)
 | int (i:Int):RD K H (.int i) (.int i)
 | str (x:Str):RD K H (.str x) (.str x)
 | list {a:Addr}{xs:List V}{ds:List D}:SqL K H a xs->RDs K H xs ds->RD K H (.ref a) (.list ds)
 | tuple {a:Addr}{xs:List V}{ds:List D}:H a=some (.tup xs)->RDs K H xs ds->RD K H (.ref a) (.tuple ds)
 | dictK {a:Addr}{kvs:List (Key×V)}{ds:List (D×D)}:H a=some (.dK kvs)->RDk K H kvs ds->RD K H (.ref a) (.dict ds)
 | dictT {a:Addr}{kvs:List (List Key×V)}{ds:List (D×D)}:H a=some (.dT kvs)->kvs≠[]->RDt K H kvs ds->RD K H (.ref a) (.dict ds)
inductive RDs (K:PySem.W.Frag) (H:Hp):List V->List D->Prop
 | nil:RDs K H [] []
 | cons {x:V}{xs:List V}{d:D}{ds:List D}:RD K H x d->RDs K H xs ds->RDs K H (x::xs) (d::ds)
inductive RDk (K:PySem.W.Frag) (H:Hp):List (Key×V)->List (D×D)->Prop
 | nil:RDk K H [] []
 | cons {k:Key}{x:V}{xs:List (Key×V)}{d:D}{ds:List (D×D)}:RD K H x d->RDk K H xs ds->RDk K H ((k,x)::xs) ((kD k,d)::ds)
inductive RDt (K:PySem.W.Frag) (H:Hp):List (List Key×V)->List (D×D)->Prop
 | nil:RDt K H [] []
 | cons {k:List Key}{x:V}{xs:List (List Key×V)}{d:D}{ds:List (D×D)}:RD K H x d->RDt K H xs ds->RDt K H ((k,x)::xs) ((tD k,d)::ds)
end
section
variable {K:PySem.W.Frag}{H H':Hp}
theorem RD.same (e:q29 H H') {v:V}{d:D} (h:RD K H v d):RD K H' v d:=RD.rec (motive_1:=fun v d _=>RD K H' v d) (motive_2:=fun v d _=>RDs K H' v d) (motive_3:=fun v d _=>RDk K H' v d) (motive_4:=fun v d _=>RDt K H' v d) .none .bool .int .str (fun h _ r=>.list (e.seq h) r) (fun h _ r=>.tuple (e _ _ h) r) (fun h _ r=>.dictK (e _ _ h) r) (fun h n _ r=>.dictT (e _ _ h) n r) .nil (fun _ _ a b=>.cons a b) .nil (fun _ _ a b=>.cons a b) .nil (fun _ _ a b=>.cons a b) h
theorem RDs.same (e:q29 H H') {v:List V}{d:List D} (h:RDs K H v d):RDs K H' v d:=RDs.rec (motive_1:=fun v d _=>RD K H' v d) (motive_2:=fun v d _=>RDs K H' v d) (motive_3:=fun v d _=>RDk K H' v d) (motive_4:=fun v d _=>RDt K H' v d) .none .bool .int .str (fun h _ r=>.list (e.seq h) r) (fun h _ r=>.tuple (e _ _ h) r) (fun h _ r=>.dictK (e _ _ h) r) (fun h n _ r=>.dictT (e _ _ h) n r) .nil (fun _ _ a b=>.cons a b) .nil (fun _ _ a b=>.cons a b) .nil (fun _ _ a b=>.cons a b) h
theorem RDk.same (e:q29 H H') {v:List (Key×V)}{d:List (D×D)} (h:RDk K H v d):RDk K H' v d:=RDk.rec (motive_1:=fun v d _=>RD K H' v d) (motive_2:=fun v d _=>RDs K H' v d) (motive_3:=fun v d _=>RDk K H' v d) (motive_4:=fun v d _=>RDt K H' v d) .none .bool .int .str (fun h _ r=>.list (e.seq h) r) (fun h _ r=>.tuple (e _ _ h) r) (fun h _ r=>.dictK (e _ _ h) r) (fun h n _ r=>.dictT (e _ _ h) n r) .nil (fun _ _ a b=>.cons a b) .nil (fun _ _ a b=>.cons a b) .nil (fun _ _ a b=>.cons a b) h
theorem RDt.same (e:q29 H H') {v:List (List Key×V)}{d:List (D×D)} (h:RDt K H v d):RDt K H' v d:=RDt.rec (motive_1:=fun v d _=>RD K H' v d) (motive_2:=fun v d _=>RDs K H' v d) (motive_3:=fun v d _=>RDk K H' v d) (motive_4:=fun v d _=>RDt K H' v d) .none .bool .int .str (fun h _ r=>.list (e.seq h) r) (fun h _ r=>.tuple (e _ _ h) r) (fun h _ r=>.dictK (e _ _ h) r) (fun h n _ r=>.dictT (e _ _ h) n r) .nil (fun _ _ a b=>.cons a b) .nil (fun _ _ a b=>.cons a b) .nil (fun _ _ a b=>.cons a b) h
mutual
def noD:D->Bool
 | .dict _=>false
 | .list xs=>noDs xs
 | .tuple xs=>noDs xs
 | _=>true
def noDs:List D->Bool
 | []=>true
 | x::r=>noD x && noDs r
end
theorem x6a {a b:Bool} (h:(a && b)=true):a=true:=(Bool.and_eq_true_iff.mp h).1
theorem x6b {a b:Bool} (h:(a && b)=true):b=true:=(Bool.and_eq_true_iff.mp h).2
theorem RD.rep {v:V}{d:D} (h:RD K H v d):noD d=true->Rep K H v d:=RD.rec (motive_1:=fun v d _=>noD d=true->Rep K H v d) (motive_2:=fun v d _=>noDs d=true->Reps K H v d) (motive_3:=fun _ _ _=>True) (motive_4:=fun _ _ _=>True) (fun _=>.none) (fun b _=>.bool b) (fun i _=>.int i) (fun x _=>.str x) (fun h _ r e=>.list h (r e)) (fun h _ r e=>.tuple (.of h) (r e)) (fun _ _ _ e=>Bool.noConfusion e) (fun _ _ _ _ e=>Bool.noConfusion e) (fun _=>.nil) (fun _ _ a b e=>.cons (a (x6a e)) (b (x6b e))) trivial (fun _ _ _ _=>trivial) trivial (fun _ _ _ _=>trivial) h
theorem RDs.length {vs:List V}:∀ {ds:List D},RDs K H vs ds->vs.length=ds.length:=by
 induction vs with
 | nil=>intro ds h;cases h;rfl
 | cons x r ih=>intro ds h;cases h with | cons a b=>exact congrArg (· + 1) (ih b)
theorem RDs.get {vs:List V}:∀ {ds:List D}{i:Nat}{v:V},RDs K H vs ds->vs[i]?=some v->∃ d,ds[i]?=some d/\RD K H v d:=by
 induction vs with
 | nil=>intro ds i v _ e;cases e
 | cons x r ih =>
  intro ds i v h e
  cases h with
  | cons a b =>
   cases i with
   | zero=>cases e;exact ⟨_,rfl,a⟩
   | succ i=>have q:=ih (i:=i) b e;exact q
theorem RDs.get' {vs:List V}:∀ {ds:List D}{i:Nat}{d:D},RDs K H vs ds->ds[i]?=some d->∃ v,vs[i]?=some v/\RD K H v d:=by
 induction vs with
 | nil=>intro ds i v h e;cases h;cases e
 | cons x r ih =>
  intro ds i v h e
  cases h with
  | cons a b =>
   cases i with
   | zero=>cases e;exact ⟨_,rfl,a⟩
   | succ i=>have q:=ih (i:=i) b e;exact q
theorem RDs.append {vs ws:List V}{es:List D}:∀ {ds:List D},RDs K H vs ds->RDs K H ws es->RDs K H (vs++ws) (ds++es):=by
 induction vs with
 | nil=>intro ds h s;cases h;exact s
 | cons x r ih=>intro ds h s;cases h with | cons a b=>exact .cons a (ih b s)
theorem RDs.drop {vs:List V}:∀ {ds:List D} (n:Nat),RDs K H vs ds->RDs K H (vs.drop n) (ds.drop n):=by
 induction vs with
 | nil=>intro ds n h;cases h;cases n<;>exact .nil
 | cons x r ih =>
  intro ds n h
  cases n with
  | zero=>exact h
  | succ n=>cases h with | cons a b=>exact ih n b
theorem RDs.take {vs:List V}:∀ {ds:List D} (n:Nat),RDs K H vs ds->RDs K H (vs.take n) (ds.take n):=by
 induction vs with
 | nil=>intro ds n h;cases h;cases n<;>exact .nil
 | cons x r ih =>
  intro ds n h
  cases n with
  | zero=>exact .nil
  | succ n=>cases h with | cons a b=>exact .cons a (ih n b)
theorem RDs.reverse {vs:List V}{ds:List D} (h:RDs K H vs ds):RDs K H vs.reverse ds.reverse:=by
 induction vs generalizing ds with
 | nil=>cases h;exact .nil
 | cons x r ih=>cases h with | cons a b=>rw [List.reverse_cons,List.reverse_cons];exact (ih b).append (.cons a .nil)
theorem w0q:∀ (ss:List Str),RDs K H (ss.map V.str) (ss.map PyData.str)
 | []=>.nil
 | x::r=>.cons (.str x) (w0q r)
theorem RD.str_inv {v:V}{x:Str} (h:RD K H v (.str x)):v=.str x:=by cases h;rfl
theorem RD.bool_inv {v:V}{x:Bool} (h:RD K H v (.bool x)):v=.bl x:=by cases h;rfl
theorem RD.int_inv {v:V}{x:Int} (h:RD K H v (.int x)):v=.int x:=by cases h;rfl
theorem w7M {α:Type}{c:α->D}{k:α->V} (hc:∀ {v x},RD K H v (c x)->v=k x) {ss:List α}:∀ {vs:List V},RDs K H vs (ss.map c)->vs=ss.map k:=by
 induction ss with
 | nil=>intro vs h;cases h;rfl
 | cons x r ih=>intro vs h;cases h with | cons a b=>rw [hc a,ih b];rfl
theorem q49 {ss:List Str}{vs:List V}:RDs K H vs (ss.map PyData.str)->vs=ss.map V.str:=w7M RD.str_inv
theorem w0r {ss:List Bool}{vs:List V}:RDs K H vs (ss.map PyData.bool)->vs=ss.map V.bl:=w7M RD.bool_inv
end
structure q1I (H Hs H' Hs':Hp):Prop where
 all:q29 H H'
 sh:q29 Hs Hs'
 sub:q29 Hs' H'
 out:∀ a o,H a=some o->Hs a=none->Hs' a=none
theorem q1I.refl {H Hs:Hp} (h:q29 Hs H):q1I H Hs H Hs:=⟨.refl _,.refl _,h,fun _ _ _ e=>e⟩
theorem q1I.trans {H Hs H1 Hs1 H2 Hs2:Hp} (a:q1I H Hs H1 Hs1) (b:q1I H1 Hs1 H2 Hs2):q1I H Hs H2 Hs2 :=
 ⟨a.all.trans b.all,a.sh.trans b.sh,b.sub,fun c o e n=>b.out c o (a.all c o e) (a.out c o e n)⟩
theorem q1I.new {H Hs:Hp}{p:Addr}{o:HO} (h:q29 Hs H) (n:H p=none):q1I H Hs (upd H p o) (upd Hs p o):=by
 have n':Hs p=none:=h.free n
 refine ⟨q2C n,q2C n',fun b u e=>?_,fun a u e z=>?_⟩
 ·by_cases hb:b=p
  ·subst hb;rw [q0d] at e ⊢;exact e
  ·rw [q0e hb] at e ⊢;exact h b u e
 ·rw [q0e (q0c e n)];exact z
theorem q1I.mine {H Hs:Hp}{p:Addr}{o:HO} (h:q29 Hs H) (n:H p=none):q1I H Hs (upd H p o) Hs:=by
 refine ⟨q2C n,.refl _,fun b u e=>?_,fun a u e z=>z⟩
 have e':=h b u e
 rw [q0e (q0c e' n)];exact e'
inductive w2S (K:PySem.W.Frag) (Hs:Hp):HO->D->Prop
 | lst {vs:List V}{ds:List D}:RDs K Hs vs ds->w2S K Hs (.lst vs) (.list ds)
 | dK {kvs:List (Key×V)}{ds:List (D×D)}:RDk K Hs kvs ds->w2S K Hs (.dK kvs) (.dict ds)
 | dT {kvs:List (List Key×V)}{ds:List (D×D)}:kvs≠[]->RDt K Hs kvs ds->w2S K Hs (.dT kvs) (.dict ds)
theorem w2S.same {K:PySem.W.Frag}{Hs Hs':Hp}{o:HO}{d:D} (e:q29 Hs Hs') (h:w2S K Hs o d):w2S K Hs' o d:=by
 cases h with
 | lst r=>exact .lst (r.same e)
 | dK r=>exact .dK (r.same e)
 | dT n r=>exact .dT n (r.same e)
theorem w2S.share {K:PySem.W.Frag}{Hs:Hp}{o:HO}{d:D}{a:Addr} (n:Hs a=none) (h:w2S K Hs o d):RD K (upd Hs a o) (.ref a) d:=by
 have e:q29 Hs (upd Hs a o):=q2C n
 cases h with
 | lst r=>exact .list (.of q0d) (r.same e)
 | dK r=>exact .dictK q0d (r.same e)
 | dT n r=>exact .dictT q0d n (r.same e)
inductive Sl where
 | no
 | shr (d:D)
 | own (d:D)
 | lck (d:D)
 | ow2 (dss:List (List D))
abbrev Rho:=List Sl
inductive Inn (K:PySem.W.Frag) (H Hs:Hp):List Addr->List (List D)->Prop
 | nil:Inn K H Hs [] []
 | cons {a:Addr}{as:List Addr}{vs:List V}{ds:List D}{dss:List (List D)}:H a=some (.lst vs)->RDs K Hs vs ds->Inn K H Hs as dss->Inn K H Hs (a::as) (ds::dss)
theorem Inn.step {K:PySem.W.Frag}{H Hs H' Hs':Hp} (e:q29 H H') (e':q29 Hs Hs') {as:List Addr}{dss:List (List D)} (h:Inn K H Hs as dss):Inn K H' Hs' as dss:=by
 induction h with
 | nil=>exact .nil
 | cons h r t ih=>exact .cons (e _ _ h) (r.same e') ih
theorem Inn.upd {K:PySem.W.Frag}{H Hs:Hp}{b:Addr}{o:HO}{as:List Addr}{dss:List (List D)} (n:b∉as) (h:Inn K H Hs as dss):Inn K (upd H b o) Hs as dss:=by
 induction h with
 | nil=>exact .nil
 | cons h r t ih=>exact .cons (by rw [q0e (fun z=>n (by rw [<- z];exact List.mem_cons_self))];exact h) r (ih fun z=>n (List.mem_cons_of_mem _ z))
theorem Inn.there {K:PySem.W.Frag}{H Hs:Hp}{b:Addr}{as:List Addr}{dss:List (List D)} (h:Inn K H Hs as dss) (hb:b∈as):∃ o,H b=some o:=by
 induction h with
 | nil=>cases hb
 | cons h r t ih =>
  rcases List.mem_cons.mp hb with e | hb
  ·exact ⟨_,e ▸ h⟩
  ·exact ih hb
structure O2 (K:PySem.W.Frag) (H0 H Hs:Hp) (ρ:Rho) (σ:St) (i:Nat) (dss:List (List D)) (a:Addr) (as:List Addr):Prop where
 at_:σ[i]?=some (some (V.ref a))
 ob:H a=some (.lst (as.map V.ref))
 nd:(a::as).Nodup
 out:∀ b∈a::as,Hs b=none/\H0 b=none
 dj:∀ b∈a::as,∀ (j:Nat) (e:D),ρ[j]?=some (Sl.own e)->σ[j]?≠some (some (V.ref b))
 inn:Inn K H Hs as dss
structure Fr (K:PySem.W.Frag) (H0 Hs0:Hp) (la:Nat->Option Addr) (ρ:Rho) (σ:St) (H Hs:Hp):Prop where
 st:q1I H0 Hs0 H Hs
 len:ρ.length=σ.length
 sh:∀ (i:Nat) (d:D),ρ[i]?=some (Sl.shr d)->∃ v,σ[i]?=some (some v)/\RD K Hs v d
 ow:∀ (i:Nat) (d:D),ρ[i]?=some (Sl.own d)->∃ a o,σ[i]?=some (some (V.ref a))/\H a=some o/\Hs a=none/\H0 a=none/\w2S K Hs o d
 lk:∀ (i:Nat) (d:D),ρ[i]?=some (Sl.lck d)->∃ a o,σ[i]?=some (some (V.ref a))/\la i=some a/\H a=some o/\Hs a=none/\H0 a=some o/\w2S K Hs o d
 dj:∀ (i j:Nat) (d e:D) (a:Addr),ρ[i]?=some (Sl.own d)->ρ[j]?=some (Sl.own e)->σ[i]?=some (some (V.ref a))->σ[j]?=some (some (V.ref a))->i=j
 lh:∀ (i:Nat) (a:Addr),la i=some a->∃ o,H0 a=some o
 o2:∀ (i:Nat) (dss:List (List D)),ρ[i]?=some (Sl.ow2 dss)->∃ a as,O2 K H0 H Hs ρ σ i dss a as
 u2:∀ (i j:Nat) (d e:List (List D)),ρ[i]?=some (Sl.ow2 d)->ρ[j]?=some (Sl.ow2 e)->i=j
theorem Fr.step {K:PySem.W.Frag}{H0 Hs0 H Hs H' Hs':Hp}{la:Nat->Option Addr}{ρ:Rho}{σ:St} (f:Fr K H0 Hs0 la ρ σ H Hs) (s:q1I H Hs H' Hs'):Fr K H0 Hs0 la ρ σ H' Hs':=by
 refine ⟨f.st.trans s,f.len,fun i d e=>?_,fun i d e=>?_,fun i d e=>?_,f.dj,f.lh,fun i dss e=>?_,f.u2⟩
 ·obtain ⟨v,h1,h2⟩:=f.sh i d e
  exact ⟨v,h1,h2.same s.sh⟩
 ·obtain ⟨a,o,h1,h2,h3,h4,h5⟩:=f.ow i d e
  exact ⟨a,o,h1,s.all _ _ h2,s.out _ _ h2 h3,h4,h5.same s.sh⟩
 ·obtain ⟨a,o,h1,h2,h3,h4,h5,h6⟩:=f.lk i d e
  exact ⟨a,o,h1,h2,s.all _ _ h3,s.out _ _ h3 h4,h5,h6.same s.sh⟩
 ·obtain ⟨a,as,h⟩:=f.o2 i dss e
  refine ⟨a,as,h.at_,s.all _ _ h.ob,h.nd,fun b hb=>⟨?_,(h.out b hb).2⟩,h.dj,h.inn.step s.all s.sh⟩
  have there:∃ o,H b=some o:=by
   rcases List.mem_cons.mp hb with rfl | hb
   ·exact ⟨_,h.ob⟩
   ·exact h.inn.there hb
  obtain ⟨o,ho⟩:=there
  exact s.out b o ho (h.out b (by assumption)).1
inductive x6I (K:PySem.W.Frag) (H Hs:Hp) (v:V) (d:D):Prop
 | mk (a:Addr) (o:HO) (h0:v=.ref a) (h1:H a=some o) (h2:Hs a=none) (h3:w2S K Hs o d):x6I K H Hs v d
def RB (K:PySem.W.Frag) (H Hs:Hp) (v:V) (d:D):Prop:=RD K Hs v d\/x6I K H Hs v d
theorem RB.step {K:PySem.W.Frag}{H Hs H' Hs':Hp}{v:V}{d:D} (h:RB K H Hs v d) (s:q1I H Hs H' Hs'):RB K H' Hs' v d:=by
 rcases h with h | ⟨a,o,h1,h2,h3,h4⟩
 ·exact .inl (h.same s.sh)
 ·exact .inr ⟨a,o,h1,s.all _ _ h2,s.out _ _ h2 h3,h4.same s.sh⟩
theorem RB.full {K:PySem.W.Frag}{H Hs:Hp}{v:V}{d:D} (sub:q29 Hs H) (h:RB K H Hs v d):RD K H v d:=by
 rcases h with h | ⟨a,o,rfl,h2,h3,h4⟩
 ·exact h.same sub
 ·have e:q29 (upd Hs a o) H:=fun b u q=>by
   by_cases hb:b=a
   ·subst hb;rw [q0d] at q;cases q;exact h2
   ·rw [q0e hb] at q;exact sub b u q
  exact (h4.share h3).same e
theorem RB.list {K:PySem.W.Frag}{H Hs:Hp}{v:V}{ds:List D} (sub:q29 Hs H) (h:RB K H Hs v (.list ds)):∃ a vs,v=.ref a/\SqL K H a vs/\RDs K Hs vs ds:=by
 rcases h with h | ⟨a,o,rfl,h2,h3,h4⟩
 ·cases h with | list q r=>exact ⟨_,_,rfl,sub.seq q,r⟩
 ·cases h4 with | lst r=>exact ⟨a,_,rfl,.of h2,r⟩
theorem RB.tuple {K:PySem.W.Frag}{H Hs:Hp}{v:V}{ds:List D} (sub:q29 Hs H) (h:RB K H Hs v (.tuple ds)):∃ a vs,v=.ref a/\SqT K H a vs/\RDs K Hs vs ds/\Hs a=some (.tup vs):=by
 rcases h with h | ⟨a,o,rfl,h2,h3,h4⟩
 ·cases h with | tuple q r=>exact ⟨_,_,rfl,.of (sub _ _ q),r,q⟩
 ·cases h4
theorem RB.str {K:PySem.W.Frag}{H Hs:Hp}{v:V}{x:Str} (h:RB K H Hs v (.str x)):v=.str x:=by
 rcases h with h | ⟨a,o,rfl,h2,h3,h4⟩
 ·exact h.str_inv
 ·cases h4
theorem RB.int {K:PySem.W.Frag}{H Hs:Hp}{v:V}{i:Int} (h:RB K H Hs v (.int i)):v=.int i:=by
 rcases h with h | ⟨a,o,rfl,h2,h3,h4⟩
 ·exact h.int_inv
 ·cases h4
theorem RB.bool {K:PySem.W.Frag}{H Hs:Hp}{v:V}{b:Bool} (h:RB K H Hs v (.bool b)):v=.bl b:=by
 rcases h with h | ⟨a,o,rfl,h2,h3,h4⟩
 ·exact h.bool_inv
 ·cases h4
theorem RB.non {K:PySem.W.Frag}{H Hs:Hp}{v:V} (h:RB K H Hs v .none):v=.non:=by
 rcases h with h | ⟨a,o,rfl,h2,h3,h4⟩
 ·cases h;rfl
 ·cases h4
def XW (K:PySem.W.Frag) (cls:Str->Addr) (E:XK) (c:Str) (n:Option D) (H Hs:Hp):Prop:=match n with
 | none=>E (.ref (cls c)) none H
 | some d=>∀ dx v,H dx=some (.xd [("number",v)])->RD K Hs v d->E (.ref (cls c)) (some dx) H
def Fin {α:Type} (K:PySem.W.Frag) (cls:Str->Addr) (E:XK) (H Hs:Hp) (r:R α) (q:α->Prop):Prop:=match r with
 | .ok d=>q d
 | .ex c n=>∀ H' Hs',q1I H Hs H' Hs'->XW K cls E c n H' Hs'
 | .no=>False
inductive TRI (K:PySem.W.Frag) (cls:Str->Addr) (E:XK) (ρ:Rho) (r:R D) (σ:St) (H:Hp) (Q:VK):Prop
 | mk (H0 Hs0:Hp) (la:Nat->Option Addr) (Hs:Hp) (f:Fr K H0 Hs0 la ρ σ H Hs) (q:Fin K cls E H Hs r fun d=>∀ v H' Hs',q1I H Hs H' Hs'->RD K Hs' v d->Q v H'):TRI K cls E ρ r σ H Q
def TR (K:PySem.W.Frag) (cls:Str->Addr) (E:XK) (ρ:Rho) (r:R D):TE:=TRI K cls E ρ r
inductive TBI (K:PySem.W.Frag) (cls:Str->Addr) (E:XK) (ρ:Rho) (r:R D) (σ:St) (H:Hp) (Q:VK):Prop
 | mk (H0 Hs0:Hp) (la:Nat->Option Addr) (Hs:Hp) (f:Fr K H0 Hs0 la ρ σ H Hs) (q:Fin K cls E H Hs r fun d=>∀ v H' Hs',q1I H Hs H' Hs'->RB K H' Hs' v d->Q v H'):TBI K cls E ρ r σ H Q
def TB (K:PySem.W.Frag) (cls:Str->Addr) (E:XK) (ρ:Rho) (r:R D):TE:=TBI K cls E ρ r
inductive x6J (K:PySem.W.Frag) (cls:Str->Addr) (E:XK) (ρ:Rho) (r:R Bool) (σ:St) (H:Hp) (Q:Bool->Hp->Prop):Prop
 | mk (H0 Hs0:Hp) (la:Nat->Option Addr) (Hs:Hp) (f:Fr K H0 Hs0 la ρ σ H Hs) (q:Fin K cls E H Hs r fun b=>∀ H' Hs',q1I H Hs H' Hs'->Q b H'):x6J K cls E ρ r σ H Q
def TTT (K:PySem.W.Frag) (cls:Str->Addr) (E:XK) (ρ:Rho) (r:R Bool):TT:=x6J K cls E ρ r
inductive RBs (K:PySem.W.Frag) (H Hs:Hp):List V->List D->Prop
 | nil:RBs K H Hs [] []
 | cons {x:V}{xs:List V}{d:D}{ds:List D}:RB K H Hs x d->RBs K H Hs xs ds->RBs K H Hs (x::xs) (d::ds)
inductive x6K (K:PySem.W.Frag) (cls:Str->Addr) (E:XK) (ρ:Rho) (r:R (List D)) (σ:St) (H:Hp) (Q:List V->Hp->Prop):Prop
 | mk (H0 Hs0:Hp) (la:Nat->Option Addr) (Hs:Hp) (f:Fr K H0 Hs0 la ρ σ H Hs) (q:Fin K cls E H Hs r fun d=>∀ v H' Hs',q1I H Hs H' Hs'->RDs K Hs' v d->Q v H'):x6K K cls E ρ r σ H Q
def TAs (K:PySem.W.Frag) (cls:Str->Addr) (E:XK) (ρ:Rho) (r:R (List D)):TA:=x6K K cls E ρ r
inductive x6L (K:PySem.W.Frag) (cls:Str->Addr) (E:XK) (ρ:Rho) (r:R (List D)) (σ:St) (H:Hp) (Q:List V->Hp->Prop):Prop
 | mk (H0 Hs0:Hp) (la:Nat->Option Addr) (Hs:Hp) (f:Fr K H0 Hs0 la ρ σ H Hs) (q:Fin K cls E H Hs r fun d=>∀ v H' Hs',q1I H Hs H' Hs'->RBs K H' Hs' v d->Q v H'):x6L K cls E ρ r σ H Q
def TBs (K:PySem.W.Frag) (cls:Str->Addr) (E:XK) (ρ:Rho) (r:R (List D)):TA:=x6L K cls E ρ r
structure C where
 X:Cx
 cls:Str->Addr
 E:XK
structure JE (c:C) (e:Expr) (g:Rho->R D):Prop where of ::
 run:∀ ρ,PE c.X e (TR c.X.K c.cls c.E ρ (g ρ))
instance {c:C}{e:Expr}{g:Rho->R D}:CoeFun (JE c e g) (fun _=>∀ ρ,PE c.X e (TR c.X.K c.cls c.E ρ (g ρ))):=⟨JE.run⟩
structure JB (c:C) (e:Expr) (g:Rho->R D):Prop where of ::
 run:∀ ρ,PE c.X e (TB c.X.K c.cls c.E ρ (g ρ))
instance {c:C}{e:Expr}{g:Rho->R D}:CoeFun (JB c e g) (fun _=>∀ ρ,PE c.X e (TB c.X.K c.cls c.E ρ (g ρ))):=⟨JB.run⟩
structure JT (c:C) (e:Expr) (g:Rho->R Bool):Prop where of ::
 run:∀ ρ,PT c.X e (TTT c.X.K c.cls c.E ρ (g ρ))
instance {c:C}{e:Expr}{g:Rho->R Bool}:CoeFun (JT c e g) (fun _=>∀ ρ,PT c.X e (TTT c.X.K c.cls c.E ρ (g ρ))):=⟨JT.run⟩
structure JW (c:C) (e:Expr) (g:Rho->R Bool):Prop where of ::
 run:∀ ρ,PW c.X e (TTT c.X.K c.cls c.E ρ (g ρ))
instance {c:C}{e:Expr}{g:Rho->R Bool}:CoeFun (JW c e g) (fun _=>∀ ρ,PW c.X e (TTT c.X.K c.cls c.E ρ (g ρ))):=⟨JW.run⟩
structure JAs (c:C) (es:List Expr) (g:Rho->R (List D)):Prop where of ::
 run:∀ ρ,PA c.X es (TAs c.X.K c.cls c.E ρ (g ρ))
instance {c:C}{es:List Expr}{g:Rho->R (List D)}:CoeFun (JAs c es g) (fun _=>∀ ρ,PA c.X es (TAs c.X.K c.cls c.E ρ (g ρ))):=⟨JAs.run⟩
structure JBs (c:C) (es:List Expr) (g:Rho->R (List D)):Prop where of ::
 run:∀ ρ,PA c.X es (TBs c.X.K c.cls c.E ρ (g ρ))
instance {c:C}{es:List Expr}{g:Rho->R (List D)}:CoeFun (JBs c es g) (fun _=>∀ ρ,PA c.X es (TBs c.X.K c.cls c.E ρ (g ρ))):=⟨JBs.run⟩
section
variable {c:C}{e a b:Expr}{g ga gb:Rho->R D}{pos:Pos}
theorem mPE {X:Cx}{e:Expr}{t t':TE} (h:PE X e t) (m:∀ σ H Q,t' σ H Q->t σ H Q):PE X e t':=fun pins s σ H Q I q=>h pins s σ H Q I (m σ H Q q)
theorem mPT {X:Cx}{e:Expr}{t t':TT} (h:PT X e t) (m:∀ σ H Q,t' σ H Q->t σ H Q):PT X e t':=fun pins s σ H Q I q=>h pins s σ H Q I (m σ H Q q)
theorem mPW {X:Cx}{e:Expr}{t t':TT} (h:PW X e t) (m:∀ σ H Q,t' σ H Q->t σ H Q):PW X e t':=fun wh pins s σ H Q I q=>h wh pins s σ H Q I (m σ H Q q)
theorem mPA {X:Cx}{e:List Expr}{t t':TA} (h:PA X e t) (m:∀ σ H Q,t' σ H Q->t σ H Q):PA X e t':=fun pos pins s σ H Q I q=>h pos pins s σ H Q I (m σ H Q q)
theorem mPS {X:Cx}{e:Stmt}{t t':TS} (h:PS X e t) (m:∀ D σ H,t' D σ H->t D σ H):PS X e t':=fun pins s σ H Q I q=>h pins s σ H Q I (m Q σ H q)
theorem x7H {X:Cx}{e:List Stmt}{t t':TS} (h:PSs X e t) (m:∀ D σ H,t' D σ H->t D σ H):PSs X e t':=fun pins s σ H Q I q=>h pins s σ H Q I (m Q σ H q)
theorem JE.bor (h:JE c e g):JB c e g:=.of fun ρ=>mPE (h ρ) fun σ H Q ⟨H0,Hs0,la,Hs,f,q⟩=>⟨H0,Hs0,la,Hs,f,by
 cases hr:g ρ with
 | ok d=>rw [hr] at q;exact fun v H' Hs' s r=>q v H' Hs' s (.inl r)
 | ex c n=>rw [hr] at q;exact q
 | no=>rw [hr] at q;exact q⟩
theorem one {K:PySem.W.Frag}{cls:Str->Addr}{E:XK}{ρ:Rho}{r:R D}{β:Type}{k:D->R β}{σ:St}{H:Hp}{H0 Hs0 Hs:Hp}{la:Nat->Option Addr}{Q:V->Hp->Prop}{q:β->Prop} (f:Fr K H0 Hs0 la ρ σ H Hs)
  (h:Fin K cls E H Hs (r.bind k) q) (m:∀ d v H' Hs',r=.ok d->q1I H Hs H' Hs'->Fr K H0 Hs0 la ρ σ H' Hs'->RB K H' Hs' v d->Q v H'):TB K cls E ρ r σ H Q:=by
 refine ⟨H0,Hs0,la,Hs,f,?_⟩
 cases r with
 | ok d=>exact fun v H' Hs' s r=>m d v H' Hs' rfl s (f.step s) r
 | ex c n=>exact h
 | no=>exact h
theorem x2j {K:PySem.W.Frag}{cls:Str->Addr}{E:XK}{ρ:Rho}{r:R D}{β:Type}{k:D->R β}{σ:St}{H:Hp}{H0 Hs0 Hs:Hp}{la:Nat->Option Addr}{Q:V->Hp->Prop}{q:β->Prop} (f:Fr K H0 Hs0 la ρ σ H Hs)
  (h:Fin K cls E H Hs (r.bind k) q) (m:∀ d v H' Hs',r=.ok d->q1I H Hs H' Hs'->Fr K H0 Hs0 la ρ σ H' Hs'->RD K Hs' v d->Q v H'):TR K cls E ρ r σ H Q:=by
 refine ⟨H0,Hs0,la,Hs,f,?_⟩
 cases r with
 | ok d=>exact fun v H' Hs' s r=>m d v H' Hs' rfl s (f.step s) r
 | ex c n=>exact h
 | no=>exact h
theorem x3f {K:PySem.W.Frag}{cls:Str->Addr}{E:XK}{ρ:Rho}{r:R Bool}{β:Type}{k:Bool->R β}{σ:St}{H:Hp}{H0 Hs0 Hs:Hp}{la:Nat->Option Addr}{Q:Bool->Hp->Prop}{q:β->Prop} (f:Fr K H0 Hs0 la ρ σ H Hs)
  (h:Fin K cls E H Hs (r.bind k) q) (m:∀ d H' Hs',r=.ok d->q1I H Hs H' Hs'->Fr K H0 Hs0 la ρ σ H' Hs'->Q d H'):TTT K cls E ρ r σ H Q:=by
 refine ⟨H0,Hs0,la,Hs,f,?_⟩
 cases r with
 | ok d=>exact fun H' Hs' s=>m d H' Hs' rfl s (f.step s)
 | ex c n=>exact h
 | no=>exact h
theorem w91 {K:PySem.W.Frag}{cls:Str->Addr}{E:XK}{ρ:Rho}{r:R (List D)}{β:Type}{k:List D->R β}{σ:St}{H:Hp}{H0 Hs0 Hs:Hp}{la:Nat->Option Addr}{Q:List V->Hp->Prop}{q:β->Prop} (f:Fr K H0 Hs0 la ρ σ H Hs)
  (h:Fin K cls E H Hs (r.bind k) q) (m:∀ d v H' Hs',r=.ok d->q1I H Hs H' Hs'->Fr K H0 Hs0 la ρ σ H' Hs'->RDs K Hs' v d->Q v H'):TAs K cls E ρ r σ H Q:=by
 refine ⟨H0,Hs0,la,Hs,f,?_⟩
 cases r with
 | ok d=>exact fun v H' Hs' s r=>m d v H' Hs' rfl s (f.step s) r
 | ex c n=>exact h
 | no=>exact h
theorem x2k {K:PySem.W.Frag}{cls:Str->Addr}{E:XK}{ρ:Rho}{r:R (List D)}{β:Type}{k:List D->R β}{σ:St}{H:Hp}{H0 Hs0 Hs:Hp}{la:Nat->Option Addr}{Q:List V->Hp->Prop}{q:β->Prop} (f:Fr K H0 Hs0 la ρ σ H Hs)
  (h:Fin K cls E H Hs (r.bind k) q) (m:∀ d v H' Hs',r=.ok d->q1I H Hs H' Hs'->Fr K H0 Hs0 la ρ σ H' Hs'->RBs K H' Hs' v d->Q v H'):TBs K cls E ρ r σ H Q:=by
 refine ⟨H0,Hs0,la,Hs,f,?_⟩
 cases r with
 | ok d=>exact fun v H' Hs' s r=>m d v H' Hs' rfl s (f.step s) r
 | ex c n=>exact h
 | no=>exact h
theorem Fin.on {α:Type}{K:PySem.W.Frag}{cls:Str->Addr}{E:XK}{H Hs H' Hs':Hp}{r:R α}{q q':α->Prop} (h:Fin K cls E H Hs r q) (s:q1I H Hs H' Hs') (m:∀ a,q a->q' a):Fin K cls E H' Hs' r q':=by
 cases r with
 | ok a=>exact m a h
 | ex c n=>exact fun H2 Hs2 s2=>h H2 Hs2 (s.trans s2)
 | no=>exact h
end
end J
end
section
namespace J
open PySem L2
def rdS (ρ:Rho) (i:Nat):R D:=match ρ[i]? with
 | some (Sl.shr d)=>.ok d
 | _=>.no
def rdB (ρ:Rho) (i:Nat):R D:=match ρ[i]? with
 | some (Sl.shr d)=>.ok d
 | some (Sl.own d)=>.ok d
 | some (Sl.lck d)=>.ok d
 | _=>.no
section
variable {c:C}{e a b:Expr}{g ga gb:Rho->R D}{pos:Pos}
theorem q04 (i:Nat) {x:Str} (hN:c.X.N[i]?=some x:=by rfl) (hv:Vis c.X.env.scope x:=by first | exact Or.inl rfl | exact Or.inr (Or.inl rfl) | exact Or.inr (Or.inr rfl)) (hd:(x == ("__debug__" : Str))=false:=by decide)
  (hcd:(x == ("__classdict__" : Str))=false:=by decide):JE c (.Name x pos) (fun ρ=>rdS ρ i):=.of fun ρ=>mPE (q5C hN hv hd hcd) fun σ H Q h_0=>by
 obtain ⟨H0,Hs0,la,Hs,f,q⟩:=h_0
 cases hr:ρ[i]? with
 | none=>simp only [rdS,hr] at q;exact q.elim
 | some s =>
  cases s with
  | shr d =>
   obtain ⟨v,h1,h2⟩:=f.sh i d hr
   simp only [rdS,hr] at q
   exact ⟨v,h1,q v H Hs (.refl f.st.sub) h2⟩
  | no=>simp only [rdS,hr] at q;exact q.elim
  | own d=>simp only [rdS,hr] at q;exact q.elim
  | lck d=>simp only [rdS,hr] at q;exact q.elim
  | ow2 d=>simp only [rdS,hr] at q;exact q.elim
theorem q02 (i:Nat) {x:Str} (hN:c.X.N[i]?=some x:=by rfl) (hv:Vis c.X.env.scope x:=by first | exact Or.inl rfl | exact Or.inr (Or.inl rfl) | exact Or.inr (Or.inr rfl)) (hd:(x == ("__debug__" : Str))=false:=by decide)
  (hcd:(x == ("__classdict__" : Str))=false:=by decide):JB c (.Name x pos) (fun ρ=>rdB ρ i):=.of fun ρ=>mPE (q5C hN hv hd hcd) fun σ H Q h_1=>by
 obtain ⟨H0,Hs0,la,Hs,f,q⟩:=h_1
 cases hr:ρ[i]? with
 | none=>simp only [rdB,hr] at q;exact q.elim
 | some s =>
  cases s with
  | shr d =>
   obtain ⟨v,h1,h2⟩:=f.sh i d hr
   simp only [rdB,hr] at q
   exact ⟨v,h1,q v H Hs (.refl f.st.sub) (.inl h2)⟩
  | no=>simp only [rdB,hr] at q;exact q.elim
  | own d =>
   obtain ⟨a,o,h1,h2,h3,h4,h5⟩:=f.ow i d hr
   simp only [rdB,hr] at q
   exact ⟨_,h1,q _ H Hs (.refl f.st.sub) (.inr ⟨a,o,rfl,h2,h3,h5⟩)⟩
  | lck d =>
   obtain ⟨a,o,h1,h2,h3,h4,h5,h6⟩:=f.lk i d hr
   simp only [rdB,hr] at q
   exact ⟨_,h1,q _ H Hs (.refl f.st.sub) (.inr ⟨a,o,rfl,h3,h4,h6⟩)⟩
  | ow2 d=>simp only [rdB,hr] at q;exact q.elim
theorem q5J {v:V}{d:D} (h:PE c.X e (tC v)) (r:∀ Hs,RD c.X.K Hs v d):JE c e (fun _=>.ok d):=.of fun ρ=>mPE h fun σ H Q h_2=>by obtain ⟨H0,Hs0,la,Hs,f,q⟩:=h_2;exact q v H Hs (.refl f.st.sub) (r Hs)
theorem q05 {i:Int}{j:Nat}:JE c (.Constant (.int i) j pos) (fun _=>.ok (.int i)):=q5J w4Q fun _=>.int i
theorem q50 {i:Bool}{j:Nat}:JE c (.Constant (.bool i) j pos) (fun _=>.ok (.bool i)):=q5J x1B fun _=>.bool i
theorem q88 {j:Nat}:JE c (.Constant .none j pos) (fun _=>.ok .none):=q5J x3r fun _=>.none
theorem q2k {i:Str}{j:Nat}:JE c (.Constant (.str i) j pos) (fun _=>.ok (.str i)):=q5J x0h fun _=>.str i
theorem q5K {x:Str}{i:Int} (hg:Gl c.X x) (hm:∃ t,c.X.mg x=some (.int i t)) (hd:(x == ("__debug__" : Str))=false:=by decide):JE c (.Name x pos) (fun _=>.ok (.int i)):=by
 obtain ⟨t,hm⟩:=hm
 exact q5J (w2Y hg hm (v:=.int i) ⟨t,rfl⟩ hd) fun _=>.int i
inductive rDI (K:PySem.W.Frag) (h:D->D->R D) (x:V) (y:V) (H:Hp) (Q:VK):Prop
 | mk (Hs dx dy:_) (h0:q29 Hs H) (h1:RB K H Hs x dx) (h2:RB K H Hs y dy) (h3:∃ d,h dx dy=.ok d/\∀ v H' Hs',q1I H Hs H' Hs'->RD K Hs' v d->Q v H'):rDI K h x y H Q
def rD (K:PySem.W.Frag) (h:D->D->R D):R2:=rDI K h
def OpD (X:Cx) (f:Value->Value->Sem Value) (h:D->D->R D):Prop:=OpR X f (rD X.K h)/\∀ x y c n,h x y≠.ex c n
def g2 (ga gb:Rho->R D) (h:D->D->R D):Rho->R D:=fun ρ=>(ga ρ).bind fun x=>(gb ρ).bind fun y=>h x y
theorem two {K:PySem.W.Frag}{cls:Str->Addr}{E:XK}{h:D->D->R D}{ρ:Rho}{σ:St}{H:Hp}{Q:VK} (hx:∀ x y c n,h x y≠.ex c n) (q:TR K cls E ρ (g2 ga gb h ρ) σ H Q):tOp (rD K h) (TB K cls E ρ (ga ρ)) (TB K cls E ρ (gb ρ)) σ H Q:=by
 obtain ⟨H0,Hs0,la,Hs,f,q⟩:=q
 refine one f q fun x v H1 Hs1 e1 s1 f1 r1=>?_
 unfold g2 at q
 rw [e1,bind_ok] at q
 refine one f1 (q.on s1 (q':=fun _=>True) fun _ _=>trivial) fun y u H2 Hs2 e2 s2 f2 r2=>?_
 rw [e2,bind_ok] at q
 cases hr:h x y with
 | ok d =>
  rw [hr] at q
  exact ⟨Hs2,x,y,f2.st.sub,r1.step s2,r2,d,hr,fun w H3 Hs3 s3 r3=>q w H3 Hs3 (s1.trans (s2.trans s3)) r3⟩
 | ex c n=>exact (hx x y c n hr).elim
 | no=>rw [hr] at q;exact q.elim
theorem q0o {op:Operator}{h:D->D->R D} (ho:OpD c.X (binaryOp op) h) (ha:JB c a ga) (hb:JB c b gb):JE c (.BinOp a op b pos) (g2 ga gb h):=.of fun ρ=>mPE (x3B ho.1 (ha ρ) (hb ρ)) fun σ H Q q=>two ho.2 q
theorem q9K {op:CmpOp}{h:D->D->R D} (ho:OpD c.X (compareOp op) h) (ha:JB c a ga) (hb:JB c b gb) (hm:behindInMarks op b=false:=by first | exact w79 _ | rfl):JE c (.Compare a [op] [b] pos) (g2 ga gb h):=.of fun ρ=>mPE (x1J ho.1 (ha ρ) (hb ρ) hm) fun σ H Q q=>two ho.2 q
def asB (g:Rho->R D):Rho->R Bool:=fun ρ=>(g ρ).bind fun d=>match d with
 | .bool b=>.ok b
 | _=>.no
theorem asT {K:PySem.W.Frag}{cls:Str->Addr}{E:XK}{ρ:Rho}{σ:St}{H:Hp}{Q:Bool->Hp->Prop} (q:TTT K cls E ρ (asB g ρ) σ H Q):TR K cls E ρ (g ρ) σ H fun x H'=>∃ k,x=.bl k/\Q k H':=by
 obtain ⟨H0,Hs0,la,Hs,f,q⟩:=q
 refine x2j f q fun d v H1 Hs1 e1 s1 f1 r1=>?_
 unfold asB at q
 rw [e1,bind_ok] at q
 cases r1 with
 | bool b=>exact ⟨b,rfl,q H1 Hs1 s1⟩
 | _=>exact q.elim
theorem q0U {op:CmpOp}{h:D->D->R D} (ho:OpD c.X (compareOp op) h) (ha:JB c a ga) (hb:JB c b gb) (hm:behindInMarks op b=false:=by first | exact w79 _ | rfl):JT c (.Compare a [op] [b] pos) (asB (g2 ga gb h)):=.of fun ρ=>mPT (w7a ho.1 (ha ρ) (hb ρ) hm) fun σ H Q q=>two ho.2 (asT q)
theorem q2G (h:JE c e g) (he:∀ whole,isTrue e c.X.env whole=(do let v <- whole;standAt e.pos;holding [v] (truthy v)):=by intro _;rfl):JT c e (asB g):=.of fun ρ=>mPT (x0i (h ρ) he) fun σ H Q q=>asT q
def q9L (g:Rho->R Bool):Rho->R Bool:=fun ρ=>(g ρ).bind fun b=>.ok (!b)
def x2l (g h:Rho->R Bool):Rho->R Bool:=fun ρ=>(g ρ).bind fun b=>if b then h ρ else .ok false
def gOr (g h:Rho->R Bool):Rho->R Bool:=fun ρ=>(g ρ).bind fun b=>if b then .ok true else h ρ
variable {gt gu:Rho->R Bool}{q0V:List Expr}
theorem q2H (h:JT c e gt):JT c (.UnaryOp .Not e pos) (q9L gt):=.of fun ρ=>mPT (x0k (h ρ)) fun σ H Q q=>by
 obtain ⟨H0,Hs0,la,Hs,f,q⟩:=q
 refine x3f f q fun d H1 Hs1 e1 s1 f1=>?_
 unfold q9L at q
 rw [e1,bind_ok] at q
 exact q H1 Hs1 s1
theorem w3e (h:JT c a gt):JW c (.BoolOp .And [a] pos) gt:=.of fun ρ=>x1C (h ρ)
theorem q7a (h:JT c a gt):JW c (.BoolOp .Or [a] pos) gt:=.of fun ρ=>x0j (h ρ)
theorem w7N (h:JT c a gt) (h2:JW c (.BoolOp .And (b::q0V) pos) gu):JW c (.BoolOp .And (a::b::q0V) pos) (x2l gt gu):=.of fun ρ=>mPW (x3s (h ρ) (h2 ρ)) fun σ H Q q=>by
 obtain ⟨H0,Hs0,la,Hs,f,q⟩:=q
 refine x3f f q fun d H1 Hs1 e1 s1 f1=>?_
 unfold x2l at q
 rw [e1,bind_ok] at q
 cases d with
 | true=>exact x0t ⟨H0,Hs0,la,Hs1,f1,q.on s1 fun b k H2 Hs2 s2=>k H2 Hs2 (s1.trans s2)⟩
 | false=>exact w90 (q H1 Hs1 s1)
theorem w1D (h:JT c a gt) (h2:JW c (.BoolOp .Or (b::q0V) pos) gu):JW c (.BoolOp .Or (a::b::q0V) pos) (gOr gt gu):=.of fun ρ=>mPW (x3t (h ρ) (h2 ρ)) fun σ H Q q=>by
 obtain ⟨H0,Hs0,la,Hs,f,q⟩:=q
 refine x3f f q fun d H1 Hs1 e1 s1 f1=>?_
 unfold gOr at q
 rw [e1,bind_ok] at q
 cases d with
 | false=>exact w90 ⟨H0,Hs0,la,Hs1,f1,q.on s1 fun b k H2 Hs2 s2=>k H2 Hs2 (s1.trans s2)⟩
 | true=>exact x0t (q H1 Hs1 s1)
theorem JW.t (h:JW c e gt):JT c e gt:=.of fun ρ=>(h ρ).pt
def w9B (g:Rho->R D):Rho->R D:=fun ρ=>(asB g ρ).bind fun b=>.ok (.bool (!b))
theorem x4b (h:JE c e g):JE c (.UnaryOp .Not e pos) (w9B g):=.of fun ρ=>mPE (x3w (h ρ)) fun σ H Q q=>by
 refine asT ?_
 obtain ⟨H0,Hs0,la,Hs,f,q⟩:=q
 refine x3f f q fun d H1 Hs1 e1 s1 f1=>?_
 unfold w9B at q
 rw [e1,bind_ok] at q
 exact q _ H1 Hs1 s1 (.bool _)
def w7O (g h:Rho->R D):Rho->R D:=fun ρ=>(asB g ρ).bind fun b=>if b then h ρ else .ok (.bool false)
theorem x0z {op:BoolOp} (h:JE c a g):JE c (.BoolOp op [a] pos) g:=.of fun ρ=>x3u (h ρ)
theorem x0A (h:JE c a ga) (h2:JE c (.BoolOp .And (b::q0V) pos) gb):JE c (.BoolOp .And (a::b::q0V) pos) (w7O ga gb):=.of fun ρ=>mPE (x3v (h ρ) (h2 ρ)) fun σ H Q q=>by
 refine asT ?_
 obtain ⟨H0,Hs0,la,Hs,f,q⟩:=q
 refine x3f f q fun d H1 Hs1 e1 s1 f1=>?_
 unfold w7O at q
 rw [e1,bind_ok] at q
 cases d with
 | true=>exact x0t ⟨H0,Hs0,la,Hs1,f1,q.on s1 fun b k v H2 Hs2 s2 r2=>k v H2 Hs2 (s1.trans s2) r2⟩
 | false=>exact w90 (q _ H1 Hs1 s1 (.bool _))
def gIf (t:Rho->R Bool) (g h:Rho->R D):Rho->R D:=fun ρ=>(t ρ).bind fun b=>if b then g ρ else h ρ
theorem x6c {t:Expr} (ht:JT c t gt) (ha:JE c a ga) (hb:JE c b gb):JE c (.IfExp t a b pos) (gIf gt ga gb):=.of fun ρ=>mPE (w96 (ht ρ) (ha ρ) (hb ρ)) fun σ H Q q=>by
 obtain ⟨H0,Hs0,la,Hs,f,q⟩:=q
 refine x3f f q fun d H1 Hs1 e1 s1 f1=>?_
 unfold gIf at q
 rw [e1,bind_ok] at q
 cases d with
 | true=>exact x0t ⟨H0,Hs0,la,Hs1,f1,q.on s1 fun b k v H2 Hs2 s2 r2=>k v H2 Hs2 (s1.trans s2) r2⟩
 | false=>exact w90 ⟨H0,Hs0,la,Hs1,f1,q.on s1 fun b k v H2 Hs2 s2 r2=>k v H2 Hs2 (s1.trans s2) r2⟩
def q7b (ga gb gc:Rho->R D) (h h':D->D->R D):Rho->R D:=fun ρ=>(ga ρ).bind fun x=>(gb ρ).bind fun y=>(h x y).bind fun z=>match z with
 | .bool true=>(gc ρ).bind fun w=>h' y w
 | .bool false=>.ok (.bool false)
 | _=>.no
variable {es:List Expr}{gs:Rho->R (List D)}
def q01 (g:Rho->R D) (gs:Rho->R (List D)):Rho->R (List D):=fun ρ=>(g ρ).bind fun d=>(gs ρ).bind fun ds=>.ok (d::ds)
def q0k:Rho->R (List D):=fun _=>.ok []
theorem q07:JAs c [] q0k:=.of fun ρ=>mPA q1o fun σ H Q h_3=>by obtain ⟨H0,Hs0,la,Hs,f,q⟩:=h_3;exact q [] H Hs (.refl f.st.sub) .nil
theorem q0s:JBs c [] q0k:=.of fun ρ=>mPA q1o fun σ H Q h_4=>by obtain ⟨H0,Hs0,la,Hs,f,q⟩:=h_4;exact q [] H Hs (.refl f.st.sub) .nil
theorem q00 (h:JE c e g) (hr:JAs c es gs) (hs:starEach (e::es) c.X.env=(false,eval e c.X.env)::starEach es c.X.env:=by rfl):JAs c (e::es) (q01 g gs):=.of fun ρ=>mPA (q0t (h ρ) (hr ρ) hs) fun σ H Q h_5=>by
 obtain ⟨H0,Hs0,la,Hs,f,q⟩:=h_5
 refine x2j f q fun d v H1 Hs1 e1 s1 f1 r1=>?_
 unfold q01 at q
 rw [e1,bind_ok] at q
 refine w91 f1 (q.on s1 (q':=fun _=>True) fun _ _=>trivial) fun ds vs H2 Hs2 e2 s2 f2 r2=>?_
 rw [e2,bind_ok] at q
 exact q _ H2 Hs2 (s1.trans s2) (.cons (r1.same s2.sh) r2)
theorem q0i (h:JB c e g) (hr:JBs c es gs) (hs:starEach (e::es) c.X.env=(false,eval e c.X.env)::starEach es c.X.env:=by rfl):JBs c (e::es) (q01 g gs):=.of fun ρ=>mPA (q0t (h ρ) (hr ρ) hs) fun σ H Q h_6=>by
 obtain ⟨H0,Hs0,la,Hs,f,q⟩:=h_6
 refine one f q fun d v H1 Hs1 e1 s1 f1 r1=>?_
 unfold q01 at q
 rw [e1,bind_ok] at q
 refine x2k f1 (q.on s1 (q':=fun _=>True) fun _ _=>trivial) fun ds vs H2 Hs2 e2 s2 f2 r2=>?_
 rw [e2,bind_ok] at q
 exact q _ H2 Hs2 (s1.trans s2) (.cons (r1.step s2) r2)
def q1Y (gs:Rho->R (List D)) (k:List D->D):Rho->R D:=fun ρ=>(gs ρ).bind fun ds=>if ds.length<=1000 then .ok (k ds) else .no
theorem q0Z {x1} (h:JAs c es gs):JE c (.Tuple es x1 pos) (q1Y gs .tuple):=.of fun ρ=>mPE (x0o (h ρ)) fun σ H Q h_7=>by
 obtain ⟨H0,Hs0,la,Hs,f,q⟩:=h_7
 refine w91 f q fun ds vs H1 Hs1 e1 s1 f1 r1=>?_
 unfold q1Y at q
 rw [e1,bind_ok] at q
 by_cases hl:ds.length<=1000
 ·rw [if_pos hl] at q
  refine ⟨Nat.le_of_lt (q0u (by rw [r1.length];exact hl)),fun p hp=>q _ _ _ (s1.trans (.new f1.st.sub hp)) (.tuple q0d (r1.same (q1I.new f1.st.sub hp).sh))⟩
 ·rw [if_neg hl] at q;exact q.elim
theorem q3o (h:JAs c es gs):JE c (.List es pos) (q1Y gs .list):=.of fun ρ=>mPE (q44 (h ρ)) fun σ H Q h_8=>by
 obtain ⟨H0,Hs0,la,Hs,f,q⟩:=h_8
 refine w91 f q fun ds vs H1 Hs1 e1 s1 f1 r1=>?_
 unfold q1Y at q
 rw [e1,bind_ok] at q
 by_cases hl:ds.length<=1000
 ·rw [if_pos hl] at q
  refine ⟨Nat.le_of_lt (q0u (by rw [r1.length];exact hl)),fun p hp=>q _ _ _ (s1.trans (.new f1.st.sub hp)) (.list (.of q0d) (r1.same (q1I.new f1.st.sub hp).sh))⟩
 ·rw [if_neg hl] at q;exact q.elim
end
end J
end
section
namespace J
open PySem PySem.Spec PyProof.Rows L2
section
variable {X:Cx}
def q1R:D->D->R D
 | .int i,.int j=>.ok (.int (i + j))
 | .str x,.str y=>if x.length + y.length<=1000 then .ok (.str (x++y)) else .no
 | .tuple xs,.tuple ys=>if xs.length + ys.length<=1000 then .ok (.tuple (xs++ys)) else .no
 | .list xs,.list ys=>if xs.length + ys.length<=1000 then .ok (.list (xs++ys)) else .no
 | _,_=>.no
inductive x0B (K:PySem.W.Frag) (x:V) (y:V) (H:Hp) (Q:VK):Prop
 | mk (l b xs zs:_) (h0:x=.ref l) (h1:y=.ref b) (h2:SqL K H l xs) (h3:SqL K H b zs) (h4:xs.length + zs.length<=sizeLine) (h5:∀ p,H p=none->Q (.ref p) (upd H p (.lst (xs++zs)))):x0B K x y H Q
def x6d (K:PySem.W.Frag):R2:=x0B K
theorem x2m:OpR X (binaryOp .Add) (x6d X.K):=by
 intro pins s σ H x y v u Q I rx ry h
 obtain ⟨l,b,xs,zs,rfl,rfl,h1,h2,hz,q⟩:=h
 cases rx;cases ry
 obtain ⟨its,r,⟨o,n,e,c1,c2,c3⟩,z⟩:=I.list h1
 obtain ⟨its2,r2,⟨o2,n2,e2,d1,d2,d3⟩,z2⟩:=I.list h2
 obtain ⟨k1,k2,k3,k4⟩:=o
 obtain ⟨m1,m2,m3,m4⟩:=o2
 simp only at c1 c2 c3 d1 d2 d3
 subst c1 c2 c3 d1 d2 d3
 refine concat_meets ⟨_,e,rfl⟩ ⟨_,e2,rfl⟩ noFill_list_add seq_list_add PySem.F.slot_list_add PySem.F.entry_list_add (PySem.F.args_list_add_2 _ _) (PyProof.Rows.list_addW l b _ _ n n2 _ _ k4 m4 (by rw [List.size_toArray,List.size_toArray,<- r.length,<- r2.length];exact hz)) ⟨e,e2,?_⟩
 have ea:its.toArray++its2.toArray=(its++its2).toArray:=by simp
 rw [ea]
 exact ⟨.ref _,_,I.lnew (t':=s.toks) (r.append r2) (by rw [List.length_append];omega),rfl,q _ I.fresh⟩
inductive x0C (K:PySem.W.Frag) (x:V) (y:V) (H:Hp) (Q:VK):Prop
 | mk (a b ys:_) (h0:x=.ref a) (h1:y=.ref b) (h2:SqT K H a []) (h3:SqT K H b ys) (h4:Q (.ref b) H):x0C K x y H Q
def x6e (K:PySem.W.Frag):R2:=x0C K
theorem x2n:OpR X (binaryOp .Add) (x6e X.K):=by
 intro pins s σ H x y v u Q I rx ry h
 obtain ⟨a,b,ys,rfl,rfl,h1,h2,q⟩:=h
 cases rx;cases ry
 obtain ⟨its,r,⟨⟨k1,k2,k3,k4⟩,e,c1,n,c3⟩,z⟩:=I.tuple h1
 obtain ⟨its2,r2,⟨⟨m1,m2,m3,m4⟩,e2,d1,n2,d3⟩,z2⟩:=I.tuple h2
 simp only at c1 c3 d1 d3
 subst c1 c3 d1 d3
 cases r
 exact concat_meets ⟨_,e,rfl⟩ ⟨_,e2,rfl⟩ noFill_tuple_add seq_tuple_add PySem.F.slot_tuple_add PySem.F.entry_tuple_add (PySem.F.args_tuple_add_2 _ _)
  (PyProof.Rows.tuple_addW0 a b _ _ n n2 _ _ k4 m4 rfl) ⟨e,e2,⟨.ref b,H,I,rfl,q⟩⟩
theorem q0A:OpD X (binaryOp .Add) q1R:=by
 refine ⟨fun pins s σ H x y v u Q I rv ru ⟨Hs,dx,dy,sub,rx,ry,d,hd,q⟩=>?_,fun x y c n=>?_⟩
 ·unfold q1R at hd
  split at hd
  ·cases hd
   exact x3C pins s σ H x y v u Q I rv ru ⟨_,_,rx.int,ry.int,q _ H Hs (.refl sub) (.int _)⟩
  ·split at hd
   ·rename_i hz
    cases hd
    exact w5J pins s σ H x y v u Q I rv ru ⟨_,_,rx.str,ry.str,Nat.le_of_lt (q0u hz),q _ H Hs (.refl sub) (.str _)⟩
   ·cases hd
  ·split at hd
   ·rename_i xs ys hz
    cases hd
    obtain ⟨a,vs,rfl,qa,ra,_⟩:=rx.tuple sub
    obtain ⟨b,ws,rfl,qb,rb,_⟩:=ry.tuple sub
    have hz':vs.length + ws.length<=sizeLine:=by rw [ra.length,rb.length];exact Nat.le_of_lt (q0u hz)
    have big:∀ p,H p=none->Q (.ref p) (upd H p (.tup (vs++ws))):=fun p hp=>q _ _ _ (.new sub hp) (.tuple q0d ((ra.append rb).same (q1I.new sub hp).sh))
    cases vs with
    | nil =>
     cases ra
     refine x2n pins s σ H _ _ v u Q I rv ru ⟨a,b,ws,rfl,rfl,qa,qb,?_⟩
     rcases ry with ry | ⟨_,_,_,_,_,ow⟩
     ·exact q _ H Hs (.refl sub) (by simpa using ry)
     ·cases ow
    | cons v0 vr =>
     refine x1R pins s σ H _ _ v u Q I rv ru ⟨a,b,_,ws,rfl,rfl,qa,qb,by simp,hz',fun e=>?_,fun _=>big⟩
     subst e
     cases rb
     rcases rx with rx | ⟨_,_,_,_,_,ow⟩
     ·exact q _ H Hs (.refl sub) (by simpa using rx)
     ·cases ow
   ·cases hd
  ·split at hd
   ·rename_i xs ys hz
    cases hd
    obtain ⟨a,vs,rfl,qa,ra⟩:=rx.list sub
    obtain ⟨b,ws,rfl,qb,rb⟩:=ry.list sub
    have hz':vs.length + ws.length<=sizeLine:=by rw [ra.length,rb.length];exact Nat.le_of_lt (q0u hz)
    exact x2m pins s σ H _ _ v u Q I rv ru ⟨a,b,vs,ws,rfl,rfl,qa,qb,hz',fun p hp=>q _ _ _ (.new sub hp) (.list (.of q0d) ((ra.append rb).same (q1I.new sub hp).sh))⟩
   ·cases hd
  ·cases hd
 ·unfold q1R
  split<;>(try split)<;>exact fun h=>by cases h
def x2o (C:Int->Int->Bool) (k:Int->Int->D):D->D->R D
 | .int i,.int j=>if C i j then .ok (k i j) else .no
 | _,_=>.no
theorem w7P {f:Value->Value->Sem Value}{C:Int->Int->Bool}{P:Int->Int->Prop}{k:Int->Int->D}{kv:Int->Int->V} (h:OpR X f (rI P kv)) (hC:∀ i j,C i j=true->P i j) (hk:∀ Hs i j,RD X.K Hs (kv i j) (k i j)):OpD X f (x2o C k):=by
 refine ⟨fun pins s σ H x y v u Q I rv ru ⟨Hs,dx,dy,sub,rx,ry,d,hd,q⟩=>?_,fun x y c n=>?_⟩
 ·unfold x2o at hd
  split at hd
  ·split at hd
   ·rename_i hc
    cases hd
    exact h pins s σ H x y v u Q I rv ru ⟨_,_,rx.int,ry.int,hC _ _ hc,q _ H Hs (.refl sub) (hk _ _ _)⟩
   ·cases hd
  ·cases hd
 ·unfold x2o
  split<;>(try split)<;>exact fun h=>by cases h
def w5X (i j:Int):Bool:=(decide (-(2 ^ 64)<i) && decide (i<2 ^ 64)) || (decide (-(2 ^ 64)<j) && decide (j<2 ^ 64))
def w6T:=x2o w5X fun i j=>.int (i * j)
def x3g:=x2o (fun _ j=>decide (0<j)) fun i j=>.int (i % j)
def x2p:=x2o (fun _ j=>decide (0<j) && decide (j<1073741824)) fun i j=>.int (i / j)
theorem q7c:OpD X (binaryOp .Mult) w6T:=w7P x3D (fun i j h=>by
 unfold w5X at h
 simp only [Bool.or_eq_true,Bool.and_eq_true,decide_eq_true_eq] at h
 exact h) fun _ _ _=>.int _
theorem w53:OpD X (binaryOp .Mod) x3g:=w7P x3E (fun i j h=>of_decide_eq_true h) fun _ _ _=>.int _
theorem x2q:OpD X (binaryOp .FloorDiv) x2p:=w7P x1E (fun i j h=>by
 simp only [Bool.and_eq_true,decide_eq_true_eq] at h
 exact h) fun _ _ _=>.int _
def eqD (neg:Bool) (x y:D):R D:=if x.canLay0 && y.canLay0 && decide (min x.depth y.depth<=60) then .ok (.bool (if neg then !PyData.eqv x y else PyData.eqv x y)) else .no
mutual
theorem w3f:∀ d:D,d.canLay0=true->noD d=true
 | .none,_=>rfl
 | .bool _,_=>rfl
 | .int _,_=>rfl
 | .str _,_=>rfl
 | .list xs,h=>by
  simp only [PyData.canLay0] at h
  simp only [noD]
  exact lays_noD xs h
 | .tuple xs,h=>by
  simp only [PyData.canLay0] at h
  simp only [noD]
  exact lays_noD xs h
 | .dict _,h=>by simp [PyData.canLay0] at h
theorem lays_noD:∀ d:List D,PyData.canLayAll0 d=true->noDs d=true
 | [],_=>rfl
 | x::r,h=>by
  simp only [PyData.canLayAll0,Bool.and_eq_true] at h
  simp only [noDs,Bool.and_eq_true]
  exact ⟨w3f x h.1,lays_noD r h.2⟩
end
theorem x0D {neg:Bool}{f:Value->Value->Sem Value} (h:OpR X f (x68 X.K neg)):OpD X f (eqD neg):=by
 refine ⟨fun pins s σ H x y v u Q I rv ru ⟨Hs,dx,dy,sub,rx,ry,d,hd,q⟩=>?_,fun x y c n=>?_⟩
 ·unfold eqD at hd
  split at hd
  ·rename_i hc
   simp only [Bool.and_eq_true,decide_eq_true_eq] at hc
   cases hd
   exact h pins s σ H x y v u Q I rv ru ⟨dx,dy,(rx.full sub).rep (w3f _ hc.1.1),(ry.full sub).rep (w3f _ hc.1.2),hc.1.1,hc.1.2,hc.2,q _ H Hs (.refl sub) (.bool _)⟩
  ·cases hd
 ·unfold eqD
  split<;>exact fun h=>by cases h
theorem q89 (hu:X.A.units + 64<cLine):OpD X (compareOp .Eq) (eqD false):=x0D (x44 hu)
theorem q8a (hu:X.A.units + 64<cLine):OpD X (compareOp .NotEq) (eqD true):=x0D (x45 hu)
def x3h (k:Int->Int->Bool) (t:Str->Str->Bool):D->D->R D
 | .int i,.int j=>.ok (.bool (k i j))
 | .str x,.str y=>.ok (.bool (t x y))
 | _,_=>.no
theorem x0E {f:Value->Value->Sem Value}{k:Int->Int->Bool}{t:Str->Str->Bool} (h1:OpR X f (rI0 fun i j=>.bl (k i j))) (h2:OpR X f (fun x y H Q=>∃ i j,x=.str i/\y=.str j/\Q (.bl (t i j)) H)):OpD X f (x3h k t):=by
 refine ⟨fun pins s σ H x y v u Q I rv ru ⟨Hs,dx,dy,sub,rx,ry,d,hd,q⟩=>?_,fun x y c n=>?_⟩
 ·unfold x3h at hd
  split at hd
  ·cases hd
   exact h1 pins s σ H x y v u Q I rv ru ⟨_,_,rx.int,ry.int,q _ H Hs (.refl sub) (.bool _)⟩
  ·cases hd
   exact h2 pins s σ H x y v u Q I rv ru ⟨_,_,rx.str,ry.str,q _ H Hs (.refl sub) (.bool _)⟩
  ·cases hd
 ·unfold x3h
  split<;>exact fun h=>by cases h
def ltD:=x3h (fun i j=>decide (i<j)) ltS
def leD:=x3h (fun i j=>decide (i<=j)) fun x y=>!ltS y x
def gtD:D->D->R D
 | .int i,.int j=>.ok (.bool (decide (j<i)))
 | _,_=>.no
theorem w5Y:OpD X (compareOp .Lt) ltD:=x0E x5V w78
theorem w5Z:OpD X (compareOp .LtE) leD:=x0E x5W w7A
theorem w9C:OpD X (compareOp .Gt) gtD:=by
 refine ⟨fun pins s σ H x y v u Q I rv ru ⟨Hs,dx,dy,sub,rx,ry,d,hd,q⟩=>?_,fun x y c n=>?_⟩
 ·unfold gtD at hd
  split at hd
  ·cases hd
   exact x5X pins s σ H x y v u Q I rv ru ⟨_,_,rx.int,ry.int,q _ H Hs (.refl sub) (.bool _)⟩
  ·cases hd
 ·unfold gtD
  split<;>exact fun h=>by cases h
def w7Q:D->Bool
 | .none=>true
 | _=>false
def isD (neg:Bool):D->D->R D
 | x,.none=>.ok (.bool (if neg then !w7Q x else w7Q x))
 | _,_=>.no
theorem w7R {K:PySem.W.Frag}{H Hs:Hp}{v:V}{d:D} (h:RB K H Hs v d):decide (v=.non)=w7Q d:=by
 rcases h with h | ⟨a,o,rfl,_,_,h⟩
 ·cases h<;>rfl
 ·cases h<;>rfl
theorem x6f:OpD X (compareOp .Is) (isD false):=by
 refine ⟨fun pins s σ H x y v u Q I rv ru ⟨Hs,dx,dy,sub,rx,ry,d,hd,q⟩=>?_,fun x y c n=>?_⟩
 ·unfold isD at hd
  split at hd
  ·cases hd
   exact x3H pins s σ H x y v u Q I rv ru ⟨ry.non,by rw [w7R rx];exact q _ H Hs (.refl sub) (.bool _)⟩
  ·cases hd
 ·unfold isD
  split<;>exact fun h=>by cases h
theorem w9D:OpD X (compareOp .IsNot) (isD true):=by
 refine ⟨fun pins s σ H x y v u Q I rv ru ⟨Hs,dx,dy,sub,rx,ry,d,hd,q⟩=>?_,fun x y c n=>?_⟩
 ·unfold isD at hd
  split at hd
  ·cases hd
   exact x1I pins s σ H x y v u Q I rv ru ⟨ry.non,by rw [w7R rx];exact q _ H Hs (.refl sub) (.bool _)⟩
  ·cases hd
 ·unfold isD
  split<;>exact fun h=>by cases h
def q4O:D->Bool
 | .none=>true
 | .bool _=>true
 | .int _=>true
 | .str _=>true
 | _=>false
def inD (neg:Bool):D->D->R D
 | x,.list ys=>if q4O x && ys.all q4O then .ok (.bool (if neg then !(ys.any fun y=>PyData.eqv y x) else ys.any fun y=>PyData.eqv y x)) else .no
 | x,.tuple ys=>if q4O x && ys.all q4O then .ok (.bool (if neg then !(ys.any fun y=>PyData.eqv y x) else ys.any fun y=>PyData.eqv y x)) else .no
 | _,_=>.no
theorem w7S {K:PySem.W.Frag}{H:Hp}{v:V}{d:D} (h:RD K H v d) (f:q4O d=true):q7Y v=true:=by
 cases h<;>first | rfl | cases f
theorem w54 {K:PySem.W.Frag}{H Hs:Hp}{v:V}{d:D} (h:RB K H Hs v d) (f:q4O d=true):q7Y v=true:=by
 rcases h with h | ⟨a,o,rfl,_,_,h⟩
 ·exact w7S h f
 ·cases h<;>cases f
theorem w55 {K:PySem.W.Frag}{H:Hp}{vs:List V}:∀ {ds:List D},RDs K H vs ds->ds.all q4O=true->vs.all q7Y=true:=by
 induction vs with
 | nil=>intro ds _ _;rfl
 | cons x r ih =>
  intro ds h f
  cases h with
  | cons h t =>
   rw [List.all_cons,Bool.and_eq_true] at f ⊢
   exact ⟨w7S h f.1,ih t f.2⟩
theorem x4c {K:PySem.W.Frag}{H H2 Hs:Hp}{v u:V}{d e:D} (h:RD K H v d) (h2:RB K H2 Hs u e) (f:q4O d=true) (f2:q4O e=true):eqV v u=PyData.eqv d e:=by
 have h2':RD K Hs u e:=by
  rcases h2 with h2 | ⟨a,o,rfl,_,_,h2⟩
  ·exact h2
  ·cases h2<;>cases f2
 cases h with
 | list _ _=>cases f
 | tuple _ _=>cases f
 | dictK _ _=>cases f
 | dictT _ _ _=>cases f
 | none=>cases h2'<;>first | rfl | cases f2
 | bool b=>cases h2'<;>first | rfl | cases f2
 | int i=>cases h2'<;>first | rfl | cases f2
 | str x=>cases h2'<;>first | rfl | cases f2
theorem w7T {K:PySem.W.Frag}{H H2 Hs:Hp}{u:V}{e:D} (h2:RB K H2 Hs u e) (f2:q4O e=true):∀ {vs:List V}{ds:List D},RDs K H vs ds->ds.all q4O=true->inV u vs=ds.any fun y=>PyData.eqv y e
 | _,_,.nil,_=>rfl
 | _,_,.cons h t,f=>by
  rw [List.all_cons,Bool.and_eq_true] at f
  have:=w7T h2 f2 t f.2
  unfold inV at this ⊢
  rw [List.any_cons,List.any_cons,this,x4c h h2 f.1 f2]
theorem x0F {neg:Bool}{f:Value->Value->Sem Value} (h:OpR X f (rIn X.K neg)):OpD X f (inD neg):=by
 refine ⟨fun pins s σ H x y v u Q I rv ru ⟨Hs,dx,dy,sub,rx,ry,d,hd,q⟩=>?_,fun x y c n=>?_⟩
 ·unfold inD at hd
  split at hd
  ·split at hd
   ·rename_i hc
    simp only [Bool.and_eq_true] at hc
    cases hd
    obtain ⟨b,ws,rfl,qb,rb⟩:=ry.list sub
    refine h pins s σ H _ _ v u Q I rv ru ⟨b,ws,rfl,.inl qb,w54 rx hc.1,w55 rb hc.2,?_⟩
    rw [w7T rx hc.1 rb hc.2]
    exact q _ H Hs (.refl sub) (.bool _)
   ·cases hd
  ·split at hd
   ·rename_i hc
    simp only [Bool.and_eq_true] at hc
    cases hd
    obtain ⟨b,ws,rfl,qb,rb,_⟩:=ry.tuple sub
    refine h pins s σ H _ _ v u Q I rv ru ⟨b,ws,rfl,.inr qb,w54 rx hc.1,w55 rb hc.2,?_⟩
    rw [w7T rx hc.1 rb hc.2]
    exact q _ H Hs (.refl sub) (.bool _)
   ·cases hd
  ·cases hd
 ·unfold inD
  split<;>(try split)<;>exact fun h=>by cases h
theorem w60:OpD X (compareOp .In) (inD false):=x0F w7h
theorem w9E:OpD X (compareOp .NotIn) (inD true):=x0F w1l
end
end J
end
section
namespace J
open PySem L2
section
variable {c:C}{e a b:Expr}{g ga gb:Rho->R D}{pos:Pos}
def ixD:D->D->R D
 | .list xs,.int i=>match atI xs i with
  | some d=>.ok d
  | none=>.no
 | .tuple xs,.int i=>match atI xs i with
  | some d=>.ok d
  | none=>.no
 | .str x,.int i=>if x.length<=1000 then (match atI x.cps.toList i with
  | some k=>.ok (.str ⟨#[k]⟩)
  | none=>.no) else .no
 | _,_=>.no
theorem w7U {K:PySem.W.Frag}{H:Hp}{vs:List V}{ds:List D} (h:RDs K H vs ds) {i:Int}{d:D} (e:atI ds i=some d):∃ v,atI vs i=some v/\RD K H v d:=by
 unfold atI at e ⊢
 rw [h.length]
 cases hx:ixN ds.length i with
 | none=>rw [hx] at e;cases e
 | some j =>
  rw [hx] at e
  exact h.get' e
theorem x7I {X:Cx}:IxR X (rD X.K ixD):=by
 intro va sl pins s σ H x y v u Q I rv ru h
 obtain ⟨Hs,dx,dy,sub,rx,ry,d,hd,q⟩:=h
 unfold ixD at hd
 split at hd
 ·split at hd
  ·rename_i d' he
   cases hd
   obtain ⟨p,vs,rfl,qa,ra⟩:=rx.list sub
   obtain ⟨w,hw,rw'⟩:=w7U ra he
   exact w0d va sl pins s σ H _ _ v u Q I rv ru ⟨p,vs,_,w,rfl,ry.int,qa,hw,q _ H Hs (.refl sub) rw'⟩
  ·cases hd
 ·split at hd
  ·rename_i d' he
   cases hd
   obtain ⟨p,vs,rfl,qa,ra,_⟩:=rx.tuple sub
   obtain ⟨w,hw,rw'⟩:=w7U ra he
   exact x3Q va sl pins s σ H _ _ v u Q I rv ru ⟨p,vs,_,w,rfl,ry.int,qa,hw,q _ H Hs (.refl sub) rw'⟩
  ·cases hd
 ·split at hd
  ·rename_i hz
   split at hd
   ·rename_i k he
    cases hd
    exact x3R va sl pins s σ H _ _ v u Q I rv ru ⟨_,_,k,rx.str,ry.int,Nat.le_of_lt (q0u hz),he,q _ H Hs (.refl sub) (.str _)⟩
   ·cases hd
  ·cases hd
 ·cases hd
theorem x4d (x y:D) (c:Str) (n:Option D):ixD x y≠.ex c n:=by
 unfold ixD
 split<;>(try split)<;>(try split)<;>exact fun h=>by cases h
theorem x6g (ha:JB c a ga) (hb:JB c b gb) (hs:w0c b:=by exact fun _ _=>rfl):JE c (.Subscript a b pos) (g2 ga gb ixD):=.of fun ρ=>mPE (x3M x7I (ha ρ) (hb ρ) hs) fun σ H Q q=>two x4d q
def w7V (ds:List D) (lo hi:Option Int):List D:=(ds.drop (HT.sIx ds.length 0 lo)).take (HT.sIx ds.length ds.length hi - HT.sIx ds.length 0 lo)
theorem w7W {K:PySem.W.Frag}{H:Hp}{vs:List V}{ds:List D} (h:RDs K H vs ds) (lo hi:Option Int):RDs K H (x0q vs lo hi) (w7V ds lo hi):=by
 unfold x0q w7V
 rw [h.length]
 exact (h.drop _).take _
def slD:D->Option Int->Option Int->R D
 | .list xs,lo,hi=>.ok (.list (w7V xs lo hi))
 | .tuple xs,lo,hi=>.ok (.tuple (w7V xs lo hi))
 | _,_,_=>.no
inductive x4e (K:PySem.W.Frag) (x:V) (lo:Option Int) (hi:Option Int) (H:Hp) (Q:VK):Prop
 | mk (Hs dx:_) (h0:q29 Hs H) (h1:RB K H Hs x dx) (h2:∃ d,slD dx lo hi=.ok d/\∀ v H' Hs',q1I H Hs H' Hs'->RD K Hs' v d->Q v H'):x4e K x lo hi H Q
def x7J (K:PySem.W.Frag):V->Option Int->Option Int->Hp->VK->Prop:=x4e K
theorem x7K {X:Cx}:SlR X (x7J X.K):=by
 intro pins s σ H x v vl vu lo hi sl Q I rx hs pl pu h
 obtain ⟨Hs,dx,sub,rb,d,hd,q⟩:=h
 unfold slD at hd
 split at hd
 ·cases hd
  obtain ⟨p,vs,rfl,qa,ra⟩:=rb.list sub
  exact x1T pins s σ H _ v vl vu lo hi sl Q I rx hs pl pu ⟨p,vs,rfl,qa,fun l hl=>q _ _ _ (.new sub hl) (.list (.of q0d) ((w7W ra lo hi).same (q1I.new sub hl).sh))⟩
 ·cases hd
  obtain ⟨p,vs,rfl,qa,ra,_⟩:=rb.tuple sub
  by_cases hw:HT.sIx vs.length 0 lo=0/\HT.sIx vs.length vs.length hi=vs.length
  ·refine x2g pins s σ H _ v vl vu lo hi sl Q I rx hs pl pu ⟨p,vs,rfl,qa,hw,?_⟩
   rcases rb with rb | ⟨_,_,_,_,_,ow⟩
   ·refine q _ H Hs (.refl sub) ?_
    unfold w7V
    rw [<- ra.length,hw.1,hw.2,ra.length]
    simpa using rb
   ·cases ow
  ·exact x3L pins s σ H _ v vl vu lo hi sl Q I rx hs pl pu ⟨p,vs,rfl,qa,hw,fun l hl=>q _ _ _ (.new sub hl) (.tuple q0d ((w7W ra lo hi).same (q1I.new sub hl).sh))⟩
 ·cases hd
inductive x6M (K:PySem.W.Frag) (cls:Str->Addr) (E:XK) (ρ:Rho) (r:R (Option Int)) (σ:St) (H:Hp) (Q:Option Int->Hp->Prop):Prop
 | mk (H0 Hs0:Hp) (la:Nat->Option Addr) (Hs:Hp) (f:Fr K H0 Hs0 la ρ σ H Hs) (q:Fin K cls E H Hs r fun d=>∀ H' Hs',q1I H Hs H' Hs'->Q d H'):x6M K cls E ρ r σ H Q
def TOr (K:PySem.W.Frag) (cls:Str->Addr) (E:XK) (ρ:Rho) (r:R (Option Int)):TO:=x6M K cls E ρ r
structure JO (c:C) (e:Option Expr) (g:Rho->R (Option Int)):Prop where of ::
 run:∀ ρ,PO c.X e (TOr c.X.K c.cls c.E ρ (g ρ))
instance {c:C}{e:Option Expr}{g:Rho->R (Option Int)}:CoeFun (JO c e g) (fun _=>∀ ρ,PO c.X e (TOr c.X.K c.cls c.E ρ (g ρ))):=⟨JO.run⟩
theorem mPO {X:Cx}{e:Option Expr}{t t':TO} (h:PO X e t) (m:∀ σ H Q,t' σ H Q->t σ H Q):PO X e t':=fun pins s σ H Q I q=>h pins s σ H Q I (m σ H Q q)
def goN:Rho->R (Option Int):=fun _=>.ok none
def goS (g:Rho->R D):Rho->R (Option Int):=fun ρ=>(g ρ).bind fun d=>match d with
 | .int i=>.ok (some i)
 | _=>.no
theorem q3H:JO c none goN:=.of fun ρ=>mPO x1P fun σ H Q h_0=>by obtain ⟨H0,Hs0,la,Hs,f,q⟩:=h_0;exact q H Hs (.refl f.st.sub)
theorem q2o (h:JE c e g):JO c (some e) (goS g):=.of fun ρ=>mPO (x1Q (h ρ)) fun σ H Q h_1=>by
 obtain ⟨H0,Hs0,la,Hs,f,q⟩:=h_1
 refine x2j f q fun d v H1 Hs1 e1 s1 f1 r1=>?_
 unfold goS at q
 rw [e1,bind_ok] at q
 cases r1 with
 | int i=>exact ⟨i,rfl,q H1 Hs1 s1⟩
 | _=>exact q.elim
theorem x6N {K:PySem.W.Frag}{cls:Str->Addr}{E:XK}{ρ:Rho}{r:R (Option Int)}{β:Type}{k:Option Int->R β}{σ:St}{H:Hp}{H0 Hs0 Hs:Hp}{la:Nat->Option Addr}{Q:Option Int->Hp->Prop}{q:β->Prop} (f:Fr K H0 Hs0 la ρ σ H Hs)
  (h:Fin K cls E H Hs (r.bind k) q) (m:∀ d H' Hs',r=.ok d->q1I H Hs H' Hs'->Fr K H0 Hs0 la ρ σ H' Hs'->Q d H'):TOr K cls E ρ r σ H Q:=by
 refine ⟨H0,Hs0,la,Hs,f,?_⟩
 cases r with
 | ok d=>exact fun H' Hs' s=>m d H' Hs' rfl s (f.step s)
 | ex c n=>exact h
 | no=>exact h
def gSl (g:Rho->R D) (gl gh:Rho->R (Option Int)):Rho->R D:=fun ρ=>(g ρ).bind fun x=>(gl ρ).bind fun l=>(gh ρ).bind fun h=>slD x l h
theorem q2c {lo hi:Option Expr}{gl gh:Rho->R (Option Int)}{p2:Pos} (he:JB c e g) (hl:JO c lo gl) (hh:JO c hi gh):JE c (.Subscript e (.Slice lo hi none p2) pos) (gSl g gl gh):=.of fun ρ=>mPE (w9e x7K (he ρ) (hl ρ) (hh ρ)) fun σ H Q h_2=>by
 obtain ⟨H0,Hs0,la,Hs,f,q⟩:=h_2
 refine one f q fun d v H1 Hs1 e1 s1 f1 r1=>?_
 unfold gSl at q
 rw [e1,bind_ok] at q
 refine x6N f1 (q.on s1 (q':=fun _=>True) fun _ _=>trivial) fun l H2 Hs2 e2 s2 f2=>?_
 rw [e2,bind_ok] at q
 refine x6N f2 (q.on (s1.trans s2) (q':=fun _=>True) fun _ _=>trivial) fun h H3 Hs3 e3 s3 f3=>?_
 rw [e3,bind_ok] at q
 cases hr:slD d l h with
 | ok z=>rw [hr] at q;exact ⟨Hs3,d,f3.st.sub,(r1.step s2).step s3,z,hr,fun w H4 Hs4 s4 r4=>q w H4 Hs4 (s1.trans (s2.trans (s3.trans s4))) r4⟩
 | ex c n=>unfold slD at hr;split at hr<;>cases hr
 | no=>rw [hr] at q;exact q.elim
inductive rCI (K:PySem.W.Frag) (h:List D->R D) (xs:List V) (H:Hp) (Q:VK):Prop
 | mk (Hs ds:_) (h0:q29 Hs H) (h1:RBs K H Hs xs ds) (h2:∃ d,h ds=.ok d/\∀ v H' Hs',q1I H Hs H' Hs'->RD K Hs' v d->Q v H'):rCI K h xs H Q
def rC (K:PySem.W.Frag) (h:List D->R D):List V->Hp->VK->Prop:=rCI K h
def CaD (X:Cx) (f:Value) (h:List D->R D):Prop:=q3E X f (rC X.K h)/\∀ x c n,h x≠.ex c n
def q0J (gs:Rho->R (List D)) (h:List D->R D):Rho->R D:=fun ρ=>(gs ρ).bind h
theorem x4f {K:PySem.W.Frag}{cls:Str->Addr}{E:XK}{h:List D->R D}{gs:Rho->R (List D)}{ρ:Rho}{σ:St}{H:Hp}{Q:VK} (hx:∀ x c n,h x≠.ex c n) (q:TR K cls E ρ (q0J gs h ρ) σ H Q):tCB (rC K h) (TBs K cls E ρ (gs ρ)) σ H Q:=by
 obtain ⟨H0,Hs0,la,Hs,f,q⟩:=q
 refine x2k f q fun ds vs H1 Hs1 e1 s1 f1 r1=>?_
 unfold q0J at q
 rw [e1,bind_ok] at q
 cases hr:h ds with
 | ok d =>
  rw [hr] at q
  exact ⟨Hs1,ds,f1.st.sub,r1,d,hr,fun w H3 Hs3 s3 r3=>q w H3 Hs3 (s1.trans s3) r3⟩
 | ex c n=>exact (hx ds c n hr).elim
 | no=>rw [hr] at q;exact q.elim
variable {es:List Expr}{gs:Rho->R (List D)}{x:Str}{p:Pos}{id T:String}{h:List D->R D}
theorem q0F (hc:CaD c.X (.builtin id) h) (hg:Gl c.X x) (hm:c.X.mg x=none) (hv:bootBuiltins x=some (.builtin id)) (ha:JBs c (e::es) gs) (hn:x≠"__name__":=by decide) (hdb:(x == ("__debug__" : Str))=false:=by decide)
  (he:starEach (e::es) c.X.env=(false,eval e c.X.env)::starEach es c.X.env:=by rfl) (hpl:(backTo pos (starEach es c.X.env)).any (·.1)=false:=by rfl):JE c (.Call (.Name x p) (e::es) [] pos) (q0J gs h):=.of fun ρ=>mPE (q4B hc.1 hg hm hv (ha ρ) hn hdb he hpl) fun σ H Q q=>x4f hc.2 q
theorem q0z (hc:CaD c.X (.type T) h) (hg:Gl c.X x) (hm:c.X.mg x=none) (hv:bootBuiltins x=some (.type T)) (ha:JBs c (e::es) gs) (hn:x≠"__name__":=by decide) (hdb:(x == ("__debug__" : Str))=false:=by decide)
  (he:starEach (e::es) c.X.env=(false,eval e c.X.env)::starEach es c.X.env:=by rfl) (hpl:(backTo pos (starEach es c.X.env)).any (·.1)=false:=by rfl):JE c (.Call (.Name x p) (e::es) [] pos) (q0J gs h):=.of fun ρ=>mPE (w1j hc.1 hg hm hv (ha ρ) hn hdb he hpl) fun σ H Q q=>x4f hc.2 q
end
end J
end
section
namespace J
open PySem L2
section
variable {X:Cx}
theorem RBs.one {K:PySem.W.Frag}{H Hs:Hp}{xs:List V}{d:D} (h:RBs K H Hs xs [d]):∃ x,xs=[x]/\RB K H Hs x d:=by
 cases h with | cons a t=>cases t;exact ⟨_,rfl,a⟩
def on1 (h:D->R D):List D->R D
 | [d]=>h d
 | _=>.no
theorem q9M {f:Value}{h:D->R D} (hx:∀ d c n,h d≠.ex c n)
  (hr:∀ pins s σ H x u Q Hs d d',Inv X pins σ H s->q1Q x u->q29 Hs H->RB X.K H Hs x d->h d=.ok d'->(∀ v H' Hs',q1I H Hs H' Hs'->RD X.K Hs' v d'->Q v H')->wpAny (model X.prog X.w) X.A (call f [u]) (EP X pins σ Q) X.xe s):CaD X f (on1 h):=by
 refine ⟨fun pins s σ H xs us Q I r ⟨Hs,ds,sub,rb,d,hd,q⟩=>?_,fun x c n=>?_⟩
 ·unfold on1 at hd
  split at hd
  ·obtain ⟨x,rfl,rx⟩:=rb.one
   obtain ⟨u,rfl,ru⟩:=q4N r
   exact hr pins s σ H x u Q Hs _ _ I ru sub rx hd q
  ·cases hd
 ·unfold on1
  split
  ·exact hx _ _ _
  ·exact fun h=>by cases h
def q8b:D->R D
 | .list xs=>.ok (.int xs.length)
 | .tuple xs=>.ok (.int xs.length)
 | .str x=>if x.length<=1000 then .ok (.int x.length) else .no
 | _=>.no
theorem RDk.length {K:PySem.W.Frag}{H:Hp}{vs:List (Key×V)}:∀ {ds:List (D×D)},RDk K H vs ds->vs.length=ds.length:=by
 induction vs with
 | nil=>intro ds h;cases h;rfl
 | cons x r ih=>intro ds h;cases h with | cons a b=>exact congrArg (· + 1) (ih b)
theorem RB.dict {K:PySem.W.Frag}{H Hs:Hp}{v:V}{ds:List (D×D)} (sub:q29 Hs H) (h:RB K H Hs v (.dict ds)):∃ a,v=.ref a/\((∃ kvs,H a=some (.dK kvs)/\RDk K Hs kvs ds)\/∃ kvs,H a=some (.dT kvs)/\kvs≠[]/\RDt K Hs kvs ds):=by
 rcases h with h | ⟨a,o,rfl,h2,h3,h4⟩
 ·cases h with
  | dictK q r=>exact ⟨_,rfl,.inl ⟨_,sub _ _ q,r⟩⟩
  | dictT q n r=>exact ⟨_,rfl,.inr ⟨_,sub _ _ q,n,r⟩⟩
 ·cases h4 with
  | dK r=>exact ⟨a,rfl,.inl ⟨_,h2,r⟩⟩
  | dT n r=>exact ⟨a,rfl,.inr ⟨_,h2,n,r⟩⟩
theorem q2I:CaD X (.builtin "len") (on1 q8b):=by
 refine q9M (fun d c n=>?_) fun pins s σ H x u Q Hs d d' I ru sub rx hd q=>?_
 ·unfold q8b
  split<;>(try split)<;>exact fun h=>by cases h
 ·unfold q8b at hd
  split at hd
  ·cases hd
   obtain ⟨a,vs,rfl,qa,ra⟩:=rx.list sub
   refine q73 pins s σ H _ _ Q I (.cons ru .nil) ⟨a,vs,rfl,.inl qa,?_⟩
   rw [ra.length]
   exact q _ H Hs (.refl sub) (.int _)
  ·cases hd
   obtain ⟨a,vs,rfl,qa,ra,_⟩:=rx.tuple sub
   refine q73 pins s σ H _ _ Q I (.cons ru .nil) ⟨a,vs,rfl,.inr qa,?_⟩
   rw [ra.length]
   exact q _ H Hs (.refl sub) (.int _)
  ·split at hd
   ·rename_i hz
    cases hd
    exact w1m pins s σ H _ _ Q I (.cons ru .nil) ⟨_,by rw [rx.str],Nat.le_of_lt (q0u hz),q _ H Hs (.refl sub) (.int _)⟩
   ·cases hd
  ·cases hd
def w7X (T:String) (d:D):Bool:=match T,d with
 | "str",.str _=>true
 | "int",.int _=>true
 | "int",.bool _=>true
 | "bool",.bool _=>true
 | "list",.list _=>true
 | "tuple",.tuple _=>true
 | _,_=>false
def w7Y (g:Rho->R D) (T:String):Rho->R D:=fun ρ=>(g ρ).bind fun d=>if noD d then .ok (.bool (w7X T d)) else .no
theorem x2r {K:PySem.W.Frag}{d:D} (T:String) (hT:T="str"\/T="int"\/T="bool"\/T="list"\/T="tuple") (h:noD d=true):PySem.W.kitOne K (.type (tyD d)) (.type T)=some (w7X T d):=by
 rcases hT with rfl | rfl | rfl | rfl | rfl<;>cases d<;>first | rfl | simp [noD] at h
theorem q7d {c:C}{e:Expr}{g:Rho->R D}{p p2 pos:Pos}{T:Str}{Ts:String} (h:JB c e g) (hgi:Gl c.X "isinstance") (hi:c.X.mg "isinstance"=none) (hgT:Gl c.X T) (hT:c.X.mg T=none) (hv:bootBuiltins T=some (.type Ts))
  (hTs:Ts="str"\/Ts="int"\/Ts="bool"\/Ts="list"\/Ts="tuple")
  (hn:T≠"__name__":=by decide) (hdb:(T == ("__debug__" : Str))=false:=by decide)
  (he:starEach [e,.Name T p2] c.X.env=(false,eval e c.X.env)::starEach [.Name T p2] c.X.env:=by rfl) (hpl:(backTo pos (starEach [.Name T p2] c.X.env)).any (·.1)=false:=by rfl) :
  JE c (.Call (.Name "isinstance" p) [e,.Name T p2] [] pos) (w7Y g Ts):=.of fun ρ=>by
 refine mPE (q4B w9A hgi hi PyProof.Rows.boot_isinstance (q0t (h ρ) (q0t (w72 hgT hT hv (v:=.ty Ts) rfl hn hdb) q1o) he) (by decide) (by decide) he hpl) fun σ H Q h_0=>?_
 obtain ⟨H0,Hs0,la,Hs,f,q⟩:=h_0
 refine one f q fun d v H1 Hs1 e1 s1 f1 r1=>?_
 unfold w7Y at q
 rw [e1,bind_ok] at q
 by_cases hd:noD d=true
 ·rw [if_pos hd] at q
  exact ⟨v,d,Ts,_,rfl,(r1.full f1.st.sub).rep hd,x2r Ts hTs hd,q _ H1 Hs1 s1 (.bool _)⟩
 ·rw [if_neg hd] at q;exact q.elim
def q4a:List D->Option (List Bool)
 | []=>some []
 | .bool b::r=>(q4a r).map (b::·)
 | _::_=>none
theorem w1E {ds:List D}:∀ {bs:List Bool},q4a ds=some bs->ds=bs.map PyData.bool:=by
 induction ds with
 | nil=>intro bs h;cases h;rfl
 | cons d r ih =>
  intro bs h
  cases d with
  | bool b =>
   have h:(q4a r).map (b::·)=some bs:=h
   cases hr:q4a r with
   | none=>rw [hr] at h;cases h
   | some z=>rw [hr] at h;cases h;rw [ih hr];rfl
  | _=>cases h
def q2Q (k:List Bool->Bool):D->R D
 | .list ds=>match q4a ds with
  | some bs=>.ok (.bool (k bs))
  | none=>.no
 | _=>.no
theorem w56 {id:String}{k:List Bool->Bool} (h:q3E X (.builtin id) (fun xs H Q=>∃ p,∃ bs:List Bool,xs=[.ref p]/\SqL X.K H p (bs.map V.bl)/\Q (.bl (k bs)) H)):CaD X (.builtin id) (on1 (q2Q k)):=by
 refine q9M (fun d c n=>?_) fun pins s σ H x u Q Hs d d' I ru sub rx hd q=>?_
 ·unfold q2Q
  split<;>(try split)<;>exact fun h=>by cases h
 ·unfold q2Q at hd
  split at hd
  ·split at hd
   ·rename_i bs hb
    cases hd
    obtain ⟨a,vs,rfl,qa,ra⟩:=rx.list sub
    rw [w1E hb] at ra
    rw [w0r ra] at qa
    exact h pins s σ H _ _ Q I (.cons ru .nil) ⟨a,bs,rfl,qa,q _ H Hs (.refl sub) (.bool _)⟩
   ·cases hd
  ·cases hd
theorem q9N (hc:X.calm=true):CaD X (.builtin "all") (on1 (q2Q fun bs=>bs.all id)):=w56 (q93 hc)
theorem x4g (hc:X.calm=true):CaD X (.builtin "any") (on1 (q2Q fun bs=>bs.any id)):=w56 (q94 hc)
def q4Q (x:Str):List D:=x.cps.toList.map fun c=>PyData.str ⟨#[c]⟩
theorem w7Z {K:PySem.W.Frag}{H:Hp} (x:Str):RDs K H (w3c x) (q4Q x):=by
 unfold w3c q4Q
 induction x.cps.toList with
 | nil=>exact .nil
 | cons a r ih=>exact .cons (.str _) ih
def q1b:D->R D
 | .list xs=>.ok (.tuple xs)
 | .tuple xs=>.ok (.tuple xs)
 | .str x=>if x.cps.size<=1000 then .ok (.tuple (q4Q x)) else .no
 | _=>.no
theorem q12 (hc:X.calm=true):CaD X (.type "tuple") (on1 q1b):=by
 refine q9M (fun d c n=>?_) fun pins s σ H x u Q Hs d d' I ru sub rx hd q=>?_
 ·unfold q1b
  split<;>(try split)<;>exact fun h=>by cases h
 ·unfold q1b at hd
  split at hd
  ·cases hd
   obtain ⟨a,vs,rfl,qa,ra⟩:=rx.list sub
   exact q5F pins s σ H _ _ Q I (.cons ru .nil) ⟨a,vs,rfl,.inl ⟨qa,fun l hl=>q _ _ _ (.new sub hl) (.tuple q0d (ra.same (q1I.new sub hl).sh))⟩⟩
  ·cases hd
   obtain ⟨a,vs,rfl,qa,ra,_⟩:=rx.tuple sub
   refine q5F pins s σ H _ _ Q I (.cons ru .nil) ⟨a,vs,rfl,.inr ⟨qa,?_⟩⟩
   rcases rx with rx | ⟨_,_,_,_,_,ow⟩
   ·exact q _ H Hs (.refl sub) rx
   ·cases ow
  ·split at hd
   ·rename_i hz
    cases hd
    exact q87 hc pins s σ H _ _ Q I (.cons ru .nil) ⟨_,by rw [rx.str],Nat.le_of_lt (q0u hz),fun l hl=>q _ _ _ (.new sub hl) (.tuple q0d (w7Z _))⟩
   ·cases hd
  ·cases hd
def w61:D->R D
 | .list xs=>.ok (.list xs)
 | .tuple xs=>.ok (.list xs)
 | _=>.no
theorem x2s:CaD X (.type "list") (on1 w61):=by
 refine q9M (fun d c n=>?_) fun pins s σ H x u Q Hs d d' I ru sub rx hd q=>?_
 ·unfold w61
  split<;>exact fun h=>by cases h
 ·unfold w61 at hd
  split at hd
  ·cases hd
   obtain ⟨a,vs,rfl,qa,ra⟩:=rx.list sub
   exact q74 pins s σ H _ _ Q I (.cons ru .nil) ⟨a,vs,rfl,.inl qa,fun l hl=>q _ _ _ (.new sub hl) (.list (.of q0d) (ra.same (q1I.new sub hl).sh))⟩
  ·cases hd
   obtain ⟨a,vs,rfl,qa,ra,_⟩:=rx.tuple sub
   exact q74 pins s σ H _ _ Q I (.cons ru .nil) ⟨a,vs,rfl,.inr qa,fun l hl=>q _ _ _ (.new sub hl) (.list (.of q0d) (ra.same (q1I.new sub hl).sh))⟩
  ·cases hd
def q1Z:List D->Option (List Str)
 | []=>some []
 | .str b::r=>(q1Z r).map (b::·)
 | _::_=>none
theorem q51 {ds:List D}:∀ {bs:List Str},q1Z ds=some bs->ds=bs.map PyData.str:=by
 induction ds with
 | nil=>intro bs h;cases h;rfl
 | cons d r ih =>
  intro bs h
  cases d with
  | str b =>
   have h:(q1Z r).map (b::·)=some bs:=h
   cases hr:q1Z r with
   | none=>rw [hr] at h;cases h
   | some z=>rw [hr] at h;cases h;rw [ih hr];rfl
  | _=>cases h
@[simp] theorem strsOf_map:∀ bs:List Str,q1Z (bs.map PyData.str)=some bs
 | []=>rfl
 | b::r=>by show (q1Z (r.map PyData.str)).map (b::·)=_;rw [strsOf_map r];rfl
def q6l:D->R D
 | .list ds=>match q1Z ds with
  | some ss=>if ss.length<64 then .ok (.list ((q41 ss).map .str)) else .no
  | none=>.no
 | _=>.no
theorem w80:CaD X (.builtin "sorted") (on1 q6l):=by
 refine q9M (fun d c n=>?_) fun pins s σ H x u Q Hs d d' I ru sub rx hd q=>?_
 ·unfold q6l
  split<;>(try split)<;>(try split)<;>exact fun h=>by cases h
 ·unfold q6l at hd
  split at hd
  ·split at hd
   ·split at hd
    ·rename_i ss hs hz
     cases hd
     obtain ⟨a,vs,rfl,qa,ra⟩:=rx.list sub
     rw [q51 hs] at ra
     rw [q49 ra] at qa
     exact q7r pins s σ H _ _ Q I (.cons ru .nil) ⟨a,ss,rfl,qa,hz,fun l hl=>q _ _ _ (.new sub hl) (.list (.of q0d) (w0q _))⟩
    ·cases hd
   ·cases hd
  ·cases hd
end
end J
end
section
namespace J
open PySem L2
inductive x6O (K:PySem.W.Frag) (cls:Str->Addr) (n:Nat) (F:List D->R D) (vs:List V) (H:Hp) (Q:VK) (E:XK):Prop
 | mk (Hs ds:_) (h0:q29 Hs H) (h1:ds.length=n) (h2:RDs K Hs vs ds) (h3:Fin K cls E H Hs (F ds) fun d=>∀ v H' Hs',q1I H Hs H' Hs'->RD K Hs' v d->Q v H'):x6O K cls n F vs H Q E
def spF (K:PySem.W.Frag) (cls:Str->Addr) (n:Nat) (F:List D->R D):Sp:=x6O K cls n F
structure Fn (P:Program) (w:World) (K:PySem.W.Frag) (mg:Str->Option Value) (base:Heap) (cls:Str->Addr) (x:Str) (k n:Nat) (F:List D->R D):Prop where
 ex:∃ f fd ps,w2R P w K mg base (CXR P w) k f fd ps (spF K cls n F)/\mg x=some (.ref f)/\PySem.W.keepIn K (.ref f)=true/\q1p K fd ps []
section
variable {c:C}{e a b:Expr}{g ga gb:Rho->R D}{pos:Pos}{es:List Expr}{gs:Rho->R (List D)}{x:Str}{p:Pos}
def gFn (n:Nat) (F:List D->R D) (gs:Rho->R (List D)):Rho->R D:=fun ρ=>(gs ρ).bind fun ds=>if ds.length=n then F ds else .no
theorem q0g {k n:Nat}{F:List D->R D} (G:Fn c.X.prog c.X.w c.X.K c.X.mg c.X.base c.cls x k n F) (hr:q6d k c.X.A) (hg:Gl c.X x) (hx:q0R (CXR c.X.prog c.X.w) c.X c.E) (ha:JAs c (e::es) gs)
  (hdb:(x == ("__debug__" : Str))=false:=by decide) (he:starEach (e::es) c.X.env=(false,eval e c.X.env)::starEach es c.X.env:=by rfl) (hpl:(backTo pos (starEach es c.X.env)).any (·.1)=false:=by rfl) :
  JE c (.Call (.Name x p) (e::es) [] pos) (gFn n F gs):=.of fun ρ=>by
 obtain ⟨f,fd,ps,hf,hm,hk,hb⟩:=G.ex
 refine mPE (w7e (E:=c.E) hf hr hg hm hk hb .nil hx (ha ρ) hdb he hpl) fun σ H Q h_0=>?_
 obtain ⟨H0,Hs0,la,Hs,fr,q⟩:=h_0
 refine w91 fr q fun ds vs H1 Hs1 e1 s1 f1 r1=>?_
 unfold gFn at q
 rw [e1,bind_ok] at q
 by_cases hn:ds.length=n
 ·rw [if_pos hn] at q
  show spF _ _ _ _ (vs++[]) _ _ _
  rw [List.append_nil]
  exact ⟨Hs1,ds,f1.st.sub,hn,r1,q.on s1 fun d k v H2 Hs2 s2 r2=>k v H2 Hs2 (s1.trans s2) r2⟩
 ·rw [if_neg hn] at q;exact q.elim
end
inductive Fl where
 | nx (ρ:Rho)
 | rt (d:D)
 | bk (ρ:Rho)
 | ct (ρ:Rho)
def w19 (K:PySem.W.Frag) (cls:Str->Addr) (E:XK) (H0 Hs0:Hp) (la:Nat->Option Addr) (D:w2X) (r:R Fl):Prop:=match r with
 | .ok (.nx ρ')=>∀ σ' H' Hs',Fr K H0 Hs0 la ρ' σ' H' Hs'->D.nx σ' H'
 | .ok (.bk ρ')=>∀ σ' H' Hs',Fr K H0 Hs0 la ρ' σ' H' Hs'->D.bk σ' H'
 | .ok (.ct ρ')=>∀ σ' H' Hs',Fr K H0 Hs0 la ρ' σ' H' Hs'->D.ct σ' H'
 | .ok (.rt d)=>∀ v H' Hs',q1I H0 Hs0 H' Hs'->RD K Hs' v d->D.rt v H'
 | .ex c n=>∀ H' Hs',q1I H0 Hs0 H' Hs'->XW K cls E c n H' Hs'
 | .no=>False
inductive SRI (K:PySem.W.Frag) (cls:Str->Addr) (E:XK) (ρ:Rho) (r:R Fl) (D:w2X) (σ:St) (H:Hp):Prop
 | mk (H0 Hs0:Hp) (la:Nat->Option Addr) (Hs:Hp) (f:Fr K H0 Hs0 la ρ σ H Hs) (q:w19 K cls E H0 Hs0 la D r):SRI K cls E ρ r D σ H
def SR (K:PySem.W.Frag) (cls:Str->Addr) (E:XK) (ρ:Rho) (r:R Fl):TS:=SRI K cls E ρ r
structure JS (c:C) (s:Stmt) (g:Rho->R Fl):Prop where of ::
 run:∀ ρ,PS c.X s (SR c.X.K c.cls c.E ρ (g ρ))
instance {c:C}{s:Stmt}{g:Rho->R Fl}:CoeFun (JS c s g) (fun _=>∀ ρ,PS c.X s (SR c.X.K c.cls c.E ρ (g ρ))):=⟨JS.run⟩
structure JSs (c:C) (s:List Stmt) (g:Rho->R Fl):Prop where of ::
 run:∀ ρ,PSs c.X s (SR c.X.K c.cls c.E ρ (g ρ))
instance {c:C}{s:List Stmt}{g:Rho->R Fl}:CoeFun (JSs c s g) (fun _=>∀ ρ,PSs c.X s (SR c.X.K c.cls c.E ρ (g ρ))):=⟨JSs.run⟩
theorem Fr.set {K:PySem.W.Frag}{H0 Hs0 H Hs:Hp}{la:Nat->Option Addr}{ρ:Rho}{σ:St} (f:Fr K H0 Hs0 la ρ σ H Hs) (i:Nat) {v:V}{d:D} (r:RD K Hs v d):Fr K H0 Hs0 la (ρ.set i (.shr d)) (σ.set i (some v)) H Hs:=by
 have hl:=f.len
 have nx:∀ {j:Nat}{s:Sl},(∀ d,s≠.shr d)->(ρ.set i (.shr d))[j]?=some s->ρ[j]?=some s/\i≠j:=fun {j s} hs e=>by
  by_cases hj:i=j
  ·subst hj
   by_cases hi:i<ρ.length
   ·rw [List.getElem?_set_self hi] at e;exact absurd (Option.some.inj e).symm (hs d)
   ·rw [List.getElem?_eq_none (by simpa using hi)] at e;cases e
  ·rw [List.getElem?_set_ne hj] at e;exact ⟨e,hj⟩
 refine ⟨f.st,by simp [hl],fun j e h=>?_,fun j e h=>?_,fun j e h=>?_,fun j k d1 d2 a h1 h2 h3 h4=>?_,f.lh,fun j e h=>?_,fun j k d1 d2 h1 h2=>?_⟩
 ·by_cases hj:i=j
  ·subst hj
   by_cases hi:i<ρ.length
   ·rw [List.getElem?_set_self hi] at h
    cases h
    exact ⟨v,List.getElem?_set_self (by omega),r⟩
   ·rw [List.getElem?_eq_none (by simpa using hi)] at h;cases h
  ·rw [List.getElem?_set_ne hj] at h ⊢
   exact f.sh j e h
 ·obtain ⟨h,hj⟩:=nx (fun _ z=>by cases z) h
  rw [List.getElem?_set_ne hj]
  exact f.ow j e h
 ·obtain ⟨h,hj⟩:=nx (fun _ z=>by cases z) h
  rw [List.getElem?_set_ne hj]
  exact f.lk j e h
 ·obtain ⟨h1,n1⟩:=nx (fun _ z=>by cases z) h1
  obtain ⟨h2,n2⟩:=nx (fun _ z=>by cases z) h2
  rw [List.getElem?_set_ne n1] at h3
  rw [List.getElem?_set_ne n2] at h4
  exact f.dj j k d1 d2 a h1 h2 h3 h4
 ·obtain ⟨h,hj⟩:=nx (fun _ z=>by cases z) h
  obtain ⟨a,as,O⟩:=f.o2 j e h
  refine ⟨a,as,by rw [List.getElem?_set_ne hj];exact O.at_,O.ob,O.nd,O.out,fun b hb k e' hk=>?_,O.inn⟩
  obtain ⟨hk,nk⟩:=nx (fun _ z=>by cases z) hk
  rw [List.getElem?_set_ne nk]
  exact O.dj b hb k e' hk
 ·exact f.u2 j k d1 d2 (nx (fun _ z=>by cases z) h1).1 (nx (fun _ z=>by cases z) h2).1
theorem Fr.setO {K:PySem.W.Frag}{H0 Hs0 H Hs:Hp}{la:Nat->Option Addr}{ρ:Rho}{σ:St} (f:Fr K H0 Hs0 la ρ σ H Hs) (i:Nat) {a:Addr}{o:HO}{d:D} (n:H a=none) (r:w2S K Hs o d):Fr K H0 Hs0 la (ρ.set i (.own d)) (σ.set i (some (.ref a))) (upd H a o) Hs:=by
 have f':=f.step (q1I.mine (o:=o) f.st.sub n)
 have hl:=f.len
 have n0:H0 a=none:=f.st.all.free n
 have ns:Hs a=none:=f.st.sub.free n
 have nx:∀ {j:Nat}{s:Sl},(∀ d,s≠.own d)->(ρ.set i (.own d))[j]?=some s->ρ[j]?=some s/\i≠j:=fun {j s} hs e=>by
  by_cases hj:i=j
  ·subst hj
   by_cases hi:i<ρ.length
   ·rw [List.getElem?_set_self hi] at e;exact absurd (Option.some.inj e).symm (hs d)
   ·rw [List.getElem?_eq_none (by simpa using hi)] at e;cases e
  ·rw [List.getElem?_set_ne hj] at e;exact ⟨e,hj⟩
 have ne:∀ j e,ρ[j]?=some (Sl.own e)->σ[j]?≠some (some (V.ref a)):=fun j e h z=>by
  obtain ⟨b,o',h1,h2,_⟩:=f.ow j e h
  rw [z] at h1
  cases h1
  rw [n] at h2;cases h2
 refine ⟨f'.st,by simp [hl],fun j e h=>?_,fun j e h=>?_,fun j e h=>?_,fun j k d1 d2 b h1 h2 h3 h4=>?_,f.lh,fun j e h=>?_,fun j k d1 d2 h1 h2=>?_⟩
 ·obtain ⟨h,hj⟩:=nx (fun _ z=>by cases z) h
  rw [List.getElem?_set_ne hj]
  exact f'.sh j e h
 ·by_cases hj:i=j
  ·subst hj
   by_cases hi:i<ρ.length
   ·rw [List.getElem?_set_self hi] at h
    cases h
    exact ⟨a,o,List.getElem?_set_self (by omega),q0d,ns,n0,r⟩
   ·rw [List.getElem?_eq_none (by simpa using hi)] at h;cases h
  ·rw [List.getElem?_set_ne hj] at h ⊢
   exact f'.ow j e h
 ·obtain ⟨h,hj⟩:=nx (fun _ z=>by cases z) h
  rw [List.getElem?_set_ne hj]
  exact f'.lk j e h
 ·by_cases hj:i=j
  ·by_cases hk:i=k
   ·exact hj.symm.trans hk
   ·rw [List.getElem?_set_ne hk] at h2 h4
    subst hj
    by_cases hi:i<ρ.length
    ·rw [List.getElem?_set_self (by omega)] at h3
     cases h3
     exact (ne k d2 h2 h4).elim
    ·rw [List.getElem?_eq_none (by simpa using hi)] at h1;cases h1
  ·rw [List.getElem?_set_ne hj] at h1 h3
   by_cases hk:i=k
   ·subst hk
    by_cases hi:i<ρ.length
    ·rw [List.getElem?_set_self (by omega)] at h4
     cases h4
     exact (ne j d1 h1 h3).elim
    ·rw [List.getElem?_eq_none (by simpa using hi)] at h2;cases h2
   ·rw [List.getElem?_set_ne hk] at h2 h4
    exact f.dj j k d1 d2 b h1 h2 h3 h4
 ·obtain ⟨h,hj⟩:=nx (fun _ z=>by cases z) h
  obtain ⟨b,as,O⟩:=f.o2 j e h
  have nb:∀ c∈b::as,c≠a:=fun c hc z=>by
   subst z
   rcases List.mem_cons.mp hc with z | z
   ·have:=O.ob;rw [<- z,n] at this;cases this
   ·obtain ⟨o,ho⟩:=O.inn.there z;rw [n] at ho;cases ho
  refine ⟨b,as,by rw [List.getElem?_set_ne hj];exact O.at_,by rw [q0e (nb b List.mem_cons_self)];exact O.ob,O.nd,O.out,fun c hc k e' hk=>?_,O.inn.upd fun z=>nb a (List.mem_cons_of_mem _ z) rfl⟩
  by_cases nk:i=k
  ·subst nk
   intro z
   by_cases hi:i<ρ.length
   ·rw [List.getElem?_set_self (by omega)] at z
    cases z
    exact nb _ hc rfl
   ·rw [List.getElem?_eq_none (by simp;omega)] at hk;cases hk
  ·rw [List.getElem?_set_ne nk] at hk ⊢
   exact O.dj c hc k e' hk
 ·exact f.u2 j k d1 d2 (nx (fun _ z=>by cases z) h1).1 (nx (fun _ z=>by cases z) h2).1
theorem Fr.write {K:PySem.W.Frag}{H0 Hs0 H Hs:Hp}{la:Nat->Option Addr}{ρ:Rho}{σ:St} (f:Fr K H0 Hs0 la ρ σ H Hs) (i:Nat) {a:Addr}{o:HO}{d d':D} (hi:ρ[i]?=some (Sl.own d)) (hs:σ[i]?=some (some (V.ref a))) (r:w2S K Hs o d'):Fr K H0 Hs0 la (ρ.set i (.own d')) σ (upd H a o) Hs:=by
 obtain ⟨a',o',h1,h2,h3,h4,h5⟩:=f.ow i d hi
 rw [hs] at h1
 cases h1
 have hl:=f.len
 have hil:i<ρ.length:=(List.getElem?_eq_some_iff.mp hi).1
 have nx:∀ {j:Nat}{s:Sl},(∀ d,s≠.own d)->(ρ.set i (.own d'))[j]?=some s->ρ[j]?=some s/\i≠j:=fun {j s} hs e=>by
  by_cases hj:i=j
  ·subst hj
   rw [List.getElem?_set_self hil] at e;exact absurd (Option.some.inj e).symm (hs d')
  ·rw [List.getElem?_set_ne hj] at e;exact ⟨e,hj⟩
 refine ⟨⟨fun b u e=>?_,f.st.sh,fun b u e=>?_,f.st.out⟩,by simp [hl],fun j e h=>?_,fun j e h=>?_,fun j e h=>?_,fun j k d1 d2 b h1 h2 h3 h4=>?_,f.lh,fun j e h=>?_,fun j k d1 d2 h1 h2=>?_⟩
 ·rw [q0e (q0c e h4)];exact f.st.all b u e
 ·rw [q0e (q0c e h3)];exact f.st.sub b u e
 ·obtain ⟨h,hj⟩:=nx (fun _ z=>by cases z) h
  exact f.sh j e h
 ·by_cases hj:i=j
  ·subst hj
   rw [List.getElem?_set_self hil] at h
   cases h
   exact ⟨a,o,hs,q0d,h3,h4,r⟩
  ·rw [List.getElem?_set_ne hj] at h
   obtain ⟨b,u,k1,k2,k3,k4,k5⟩:=f.ow j e h
   refine ⟨b,u,k1,?_,k3,k4,k5⟩
   rw [q0e (fun z=>hj ?_)]
   ·exact k2
   ·subst z
    exact f.dj i j d e b hi h hs k1
 ·obtain ⟨h,hj⟩:=nx (fun _ z=>by cases z) h
  obtain ⟨b,u,k1,k2,k3,k4,k5,k6⟩:=f.lk j e h
  refine ⟨b,u,k1,k2,?_,k4,k5,k6⟩
  rw [q0e (q0c k5 h4)]
  exact k3
 ·have own:∀ {j:Nat}{e:D},(ρ.set i (.own d'))[j]?=some (Sl.own e)->∃ e',ρ[j]?=some (Sl.own e'):=fun {j e} h=>by
   by_cases hj:i=j
   ·subst hj;exact ⟨d,hi⟩
   ·rw [List.getElem?_set_ne hj] at h;exact ⟨e,h⟩
  obtain ⟨e1,h1⟩:=own h1
  obtain ⟨e2,h2⟩:=own h2
  exact f.dj j k e1 e2 b h1 h2 h3 h4
 ·obtain ⟨h,hj⟩:=nx (fun _ z=>by cases z) h
  obtain ⟨b,as,O⟩:=f.o2 j e h
  have nb:∀ c∈b::as,c≠a:=fun c hc z=>by
   subst z
   exact O.dj c hc i d hi hs
  refine ⟨b,as,O.at_,by rw [q0e (nb b List.mem_cons_self)];exact O.ob,O.nd,O.out,fun c hc k e' hk=>?_,O.inn.upd fun z=>nb a (List.mem_cons_of_mem _ z) rfl⟩
  by_cases nk:i=k
  ·subst nk
   exact O.dj c hc i d hi
  ·rw [List.getElem?_set_ne nk] at hk
   exact O.dj c hc k e' hk
 ·exact f.u2 j k d1 d2 (nx (fun _ z=>by cases z) h1).1 (nx (fun _ z=>by cases z) h2).1
def q0S (ρ:Rho):Rho:=ρ.map fun s=>match s with
 | .own d=>.shr d
 | .ow2 dss=>.shr (.list (dss.map .list))
 | s=>s
open Classical in
theorem Fr.share {K:PySem.W.Frag}{H0 Hs0 H Hs:Hp}{la:Nat->Option Addr}{ρ:Rho}{σ:St} (f:Fr K H0 Hs0 la ρ σ H Hs):∃ Hs',Fr K H0 Hs0 la (q0S ρ) σ H Hs'/\q1I H Hs H Hs'\/Fr K H0 Hs0 la (q0S ρ) σ H Hs':=by
 let P:Addr->Prop:=fun b=>(∃ (i:Nat) (d:D),ρ[i]?=some (Sl.own d)/\σ[i]?=some (some (V.ref b)))\/∃ (i:Nat) (dss:List (List D)) (a:Addr) (as:List Addr),ρ[i]?=some (Sl.ow2 dss)/\O2 K H0 H Hs ρ σ i dss a as/\b∈a::as
 let Hs':Hp:=fun b=>if P b then H b else Hs b
 have pos:∀ b,P b->Hs' b=H b:=fun b h=>if_pos h
 have neg:∀ b,¬ P b->Hs' b=Hs b:=fun b h=>if_neg h
 have up:q29 Hs Hs':=fun b o e=>by
  by_cases h:P b
  ·rw [pos b h];exact f.st.sub b o e
  ·rw [neg b h];exact e
 have none0:∀ b o,H0 b=some o->¬ P b:=fun b o e hP=>by
  rcases hP with ⟨i,d,h1,h2⟩ | ⟨i,dss,a,as,h1,O,hb⟩
  ·obtain ⟨a,o',k1,_,_,k4,_⟩:=f.ow i d h1
   rw [h2] at k1;cases k1
   rw [e] at k4;cases k4
  ·have:=(O.out b hb).2
   rw [e] at this;cases this
 have un:∀ {j:Nat}{s:Sl},(q0S ρ)[j]?=some s->(∃ d,s=.shr d/\ρ[j]?=some (Sl.own d))\/(∃ dss:List (List D),s=.shr (.list (dss.map .list))/\ρ[j]?=some (Sl.ow2 dss))\/((∀ d,s≠.own d)/\(∀ d,s≠.ow2 d)/\ρ[j]?=some s):=fun {j s} e=>by
  unfold q0S at e
  rw [List.getElem?_map] at e
  cases h:ρ[j]? with
  | none=>rw [h] at e;cases e
  | some t =>
   rw [h] at e
   cases t with
   | own d=>cases e;exact .inl ⟨d,rfl,rfl⟩
   | no=>cases e;exact .inr (.inr ⟨fun _ z=>(by cases z),fun _ z=>(by cases z),rfl⟩)
   | shr d=>cases e;exact .inr (.inr ⟨fun _ z=>(by cases z),fun _ z=>(by cases z),rfl⟩)
   | lck d=>cases e;exact .inr (.inr ⟨fun _ z=>(by cases z),fun _ z=>(by cases z),rfl⟩)
   | ow2 d=>cases e;exact .inr (.inl ⟨d,rfl,rfl⟩)
 refine ⟨Hs',.inr ⟨⟨f.st.all,f.st.sh.trans up,fun b o e=>?_,fun a o e z=>?_⟩,by simp [q0S,f.len],fun j d h=>?_,fun j d h=>?_,fun j d h=>?_,fun j k d1 d2 a h1 h2 _ _=>?_,f.lh,fun j d h=>?_,fun j k d1 d2 h1 h2=>?_⟩⟩
 ·by_cases h:P b
  ·rw [pos b h] at e;exact e
  ·rw [neg b h] at e;exact f.st.sub b o e
 ·rw [neg a (none0 a o e)];exact f.st.out a o e z
 ·rcases un h with ⟨d',e,h'⟩ | ⟨dss,e,h'⟩ | ⟨_,_,h'⟩
  ·cases e
   obtain ⟨a,o,k1,k2,k3,k4,k5⟩:=f.ow j d h'
   refine ⟨_,k1,?_⟩
   have hp:Hs' a=some o:=by rw [pos a (.inl ⟨j,d,h',k1⟩)];exact k2
   have e:q29 (upd Hs a o) Hs':=fun b u q=>by
    by_cases hb:b=a
    ·subst hb;rw [q0d] at q;cases q;exact hp
    ·rw [q0e hb] at q;exact up b u q
   exact (k5.share k3).same e
  ·cases e
   obtain ⟨a,as,O⟩:=f.o2 j dss h'
   refine ⟨_,O.at_,?_⟩
   have hp:∀ b∈a::as,∀ o,H b=some o->Hs' b=some o:=fun b hb o ho=>by rw [pos b (.inr ⟨j,dss,a,as,h',O,hb⟩)];exact ho
   refine .list (.of (hp a List.mem_cons_self _ O.ob)) ?_
   have go:∀ {as':List Addr}{dss':List (List D)},(∀ b∈as',b∈a::as)->Inn K H Hs as' dss'->RDs K Hs' (as'.map V.ref) (dss'.map .list):=fun {as' dss'} hs hi=>by
    induction hi with
    | nil=>exact .nil
    | cons h1 h2 _ ih=>exact .cons (.list (.of (hp _ (hs _ List.mem_cons_self) _ h1)) (h2.same up)) (ih fun b hb=>hs b (List.mem_cons_of_mem _ hb))
   exact go (fun b hb=>List.mem_cons_of_mem _ hb) O.inn
  ·obtain ⟨v,k1,k2⟩:=f.sh j d h'
   exact ⟨v,k1,k2.same up⟩
 ·rcases un h with ⟨d',e,h'⟩ | ⟨d',e,h'⟩ | ⟨n,_,h'⟩
  ·cases e
  ·cases e
  ·exact (n d rfl).elim
 ·rcases un h with ⟨d',e,h'⟩ | ⟨d',e,h'⟩ | ⟨_,_,h'⟩
  ·cases e
  ·cases e
  ·obtain ⟨a,o,k1,k2,k3,k4,k5,k6⟩:=f.lk j d h'
   exact ⟨a,o,k1,k2,k3,by rw [neg a (none0 a o k5)];exact k4,k5,k6.same up⟩
 ·rcases un h1 with ⟨d',e,h'⟩ | ⟨d',e,h'⟩ | ⟨n,_,h'⟩
  ·cases e
  ·cases e
  ·exact (n d1 rfl).elim
 ·rcases un h with ⟨d',e,h'⟩ | ⟨d',e,h'⟩ | ⟨_,n,h'⟩
  ·cases e
  ·cases e
  ·exact (n d rfl).elim
 ·rcases un h1 with ⟨d',e,h'⟩ | ⟨d',e,h'⟩ | ⟨_,n,h'⟩
  ·cases e
  ·cases e
  ·exact (n d1 rfl).elim
theorem Fr.shared {K:PySem.W.Frag}{H0 Hs0 H Hs:Hp}{la:Nat->Option Addr}{ρ:Rho}{σ:St} (f:Fr K H0 Hs0 la ρ σ H Hs):∃ Hs',Fr K H0 Hs0 la (q0S ρ) σ H Hs':=by
 obtain ⟨Hs',h | h⟩:=f.share
 ·exact ⟨Hs',h.1⟩
 ·exact ⟨Hs',h⟩
section
variable {c:C}{e a b:Expr}{g ga gb:Rho->R D}{pos:Pos}{x:Str}{st:Stmt}{q0V:List Stmt}{gs gr:Rho->R Fl}
def q0n (g h:Rho->R Fl):Rho->R Fl:=fun ρ=>(g ρ).bind fun fl=>match fl with
 | .nx ρ'=>h ρ'
 | fl=>.ok fl
theorem q0C:JSs c [] (fun ρ=>.ok (.nx ρ)):=.of fun ρ=>x7H w73 fun D σ H h_1=>by obtain ⟨H0,Hs0,la,Hs,f,q⟩:=h_1;exact q σ H Hs f
theorem q0b (h:JS c st gs):JSs c [st] gs:=.of fun ρ=>q7W (h ρ)
theorem q06 (h:JS c st gs) (hr:JSs c q0V gr):JSs c (st::q0V) (q0n gs gr):=.of fun ρ pins s σ H D I h_2=>by
 obtain ⟨H0,Hs0,la,Hs,f,q⟩:=h_2
 unfold q0n at q
 cases hg:gs ρ with
 | no=>rw [hg] at q;exact q.elim
 | ex x n =>
  rw [hg] at q
  refine q2R (h ρ) (q42 (X:=c.X) (sts:=q0V)) pins s σ H D I ⟨H0,Hs0,la,Hs,f,?_⟩
  rw [hg]
  exact q
 | ok fl =>
  rw [hg,bind_ok] at q
  cases fl with
  | nx ρ' =>
   refine q2R (h ρ) (hr ρ') pins s σ H D I ⟨H0,Hs0,la,Hs,f,?_⟩
   rw [hg]
   exact fun σ' H' Hs' f'=>⟨H0,Hs0,la,Hs',f',q⟩
  | rt d =>
   refine q2R (h ρ) (q42 (X:=c.X) (sts:=q0V)) pins s σ H D I ⟨H0,Hs0,la,Hs,f,?_⟩
   rw [hg]
   exact q
  | bk ρ' =>
   refine q2R (h ρ) (q42 (X:=c.X) (sts:=q0V)) pins s σ H D I ⟨H0,Hs0,la,Hs,f,?_⟩
   rw [hg]
   exact q
  | ct ρ' =>
   refine q2R (h ρ) (q42 (X:=c.X) (sts:=q0V)) pins s σ H D I ⟨H0,Hs0,la,Hs,f,?_⟩
   rw [hg]
   exact q
theorem sE {K:PySem.W.Frag}{cls:Str->Addr}{E:XK}{ρ:Rho}{r:R D}{k:D->R Fl}{σ:St}{H:Hp}{H0 Hs0 Hs:Hp}{la:Nat->Option Addr}{D':w2X}{Q:V->Hp->Prop} (f:Fr K H0 Hs0 la ρ σ H Hs)
  (h:w19 K cls E H0 Hs0 la D' (r.bind k)) (m:∀ d v H' Hs',r=.ok d->q1I H Hs H' Hs'->Fr K H0 Hs0 la ρ σ H' Hs'->RD K Hs' v d->Q v H'):TR K cls E ρ r σ H Q:=by
 refine ⟨H0,Hs0,la,Hs,f,?_⟩
 cases r with
 | ok d=>exact fun v H' Hs' s r=>m d v H' Hs' rfl s (f.step s) r
 | ex c n=>exact fun H' Hs' s=>h H' Hs' (f.st.trans s)
 | no=>exact h
theorem sT {K:PySem.W.Frag}{cls:Str->Addr}{E:XK}{ρ:Rho}{r:R Bool}{k:Bool->R Fl}{σ:St}{H:Hp}{H0 Hs0 Hs:Hp}{la:Nat->Option Addr}{D':w2X}{Q:Bool->Hp->Prop} (f:Fr K H0 Hs0 la ρ σ H Hs)
  (h:w19 K cls E H0 Hs0 la D' (r.bind k)) (m:∀ d H' Hs',r=.ok d->q1I H Hs H' Hs'->Fr K H0 Hs0 la ρ σ H' Hs'->Q d H'):TTT K cls E ρ r σ H Q:=by
 refine ⟨H0,Hs0,la,Hs,f,?_⟩
 cases r with
 | ok d=>exact fun H' Hs' s=>m d H' Hs' rfl s (f.step s)
 | ex c n=>exact fun H' Hs' s=>h H' Hs' (f.st.trans s)
 | no=>exact h
def q2l (g:Rho->R D):Rho->R Fl:=fun ρ=>(g (q0S ρ)).bind fun d=>.ok (.rt d)
theorem q0B (h:JE c e g):JS c (.Return (some e) pos) (q2l g):=.of fun ρ=>mPS (w4R (h (q0S ρ))) fun D σ H h_3=>by
 obtain ⟨H0,Hs0,la,Hs,f,q⟩:=h_3
 obtain ⟨Hs',f'⟩:=f.shared
 refine sE f' q fun d v H1 Hs1 e1 s1 f1 r1=>?_
 unfold q2l at q
 rw [e1,bind_ok] at q
 exact q v H1 Hs1 f1.st r1
def q3b (t:Rho->R Bool) (g h:Rho->R Fl):Rho->R Fl:=fun ρ=>(t ρ).bind fun b=>if b then g ρ else h ρ
theorem q1J {t:Expr}{gt:Rho->R Bool}{A B:List Stmt}{gA gB:Rho->R Fl} (ht:JT c t gt) (hA:JSs c A gA) (hB:JSs c B gB):JS c (.If t A B pos) (q3b gt gA gB):=.of fun ρ=>mPS (x3x (ht ρ) (hA ρ) (hB ρ)) fun D σ H h_5=>by
 obtain ⟨H0,Hs0,la,Hs,f,q⟩:=h_5
 refine sT f q fun d H1 Hs1 e1 s1 f1=>?_
 unfold q3b at q
 rw [e1,bind_ok] at q
 cases d with
 | true=>exact x0t ⟨H0,Hs0,la,Hs1,f1,q⟩
 | false=>exact w90 ⟨H0,Hs0,la,Hs1,f1,q⟩
def q4b (i:Nat) (g:Rho->R D):Rho->R Fl:=fun ρ=>(g ρ).bind fun d=>.ok (.nx (ρ.set i (.shr d)))
theorem q1h (i:Nat) {pos':Pos} (h:JE c e g) (hN:c.X.N.Nodup) (hi:c.X.N[i]?=some x:=by rfl) (hx:Loc c.X.env.scope x:=by first | exact Or.inl rfl | exact Or.inr rfl) (hs:swapsWith e (some (.Name x pos')) pos.line c.X.env=pure false:=by rfl)
  (hf:c.X.fn x=true\/c.X.env.scope.names.lookup x=some .local:=by first | exact .inl rfl | exact .inr rfl | assumption):JS c (.Assign [.Name x pos'] e pos) (q4b i g):=.of fun ρ=>mPS (w4S hN hi hx (h ρ) hs hf) fun D σ H h_6=>by
 obtain ⟨H0,Hs0,la,Hs,f,q⟩:=h_6
 refine sE f q fun d v H1 Hs1 e1 s1 f1 r1=>?_
 unfold q4b at q
 rw [e1,bind_ok] at q
 exact q _ H1 Hs1 (f1.set i r1)
def w62 (g:Rho->R D):Rho->R Fl:=fun ρ=>(g ρ).bind fun _=>.ok (.nx ρ)
theorem w3g (h:JE c e g) (hs:swapsWith e none pos.line c.X.env=pure false:=by rfl):JS c (.Expr e pos) (w62 g):=.of fun ρ=>mPS (q6c (h ρ) hs) fun D σ H h_7=>by
 obtain ⟨H0,Hs0,la,Hs,f,q⟩:=h_7
 refine sE f q fun d v H1 Hs1 e1 s1 f1 r1=>?_
 unfold w62 at q
 rw [e1,bind_ok] at q
 exact q _ H1 Hs1 f1
def TGq (K:PySem.W.Frag) (H0 Hs0:Hp) (la:Nat->Option Addr) (H Hs:Hp) (Q:St->Hp->Prop) (r:R Rho):Prop:=match r with
 | .ok ρ'=>∀ σ',Fr K H0 Hs0 la ρ' σ' H Hs->Q σ' H
 | _=>False
inductive x6P (K:PySem.W.Frag) (ρ:Rho) (d:D) (r:R Rho) (v:V) (σ:St) (H:Hp) (Q:St->Hp->Prop):Prop
 | mk (H0 Hs0:Hp) (la:Nat->Option Addr) (Hs:Hp) (f:Fr K H0 Hs0 la ρ σ H Hs) (rd:RD K Hs v d) (q:TGq K H0 Hs0 la H Hs Q r):x6P K ρ d r v σ H Q
def TGr (K:PySem.W.Frag) (ρ:Rho) (d:D) (r:R Rho):TG:=x6P K ρ d r
inductive x4h (K:PySem.W.Frag) (ρ:Rho) (ds:List D) (r:R Rho) (vs:List V) (σ:St) (H:Hp) (Q:St->Hp->Prop):Prop
 | mk (H0 Hs0:Hp) (la:Nat->Option Addr) (Hs:Hp) (f:Fr K H0 Hs0 la ρ σ H Hs) (rd:RDs K Hs vs ds) (q:TGq K H0 Hs0 la H Hs Q r):x4h K ρ ds r vs σ H Q
def x6Q (K:PySem.W.Frag) (ρ:Rho) (ds:List D) (r:R Rho):TGs:=x4h K ρ ds r
structure JG (c:C) (t:Expr) (k:D->Rho->R Rho):Prop where of ::
 run:∀ ρ d,PG c.X t (TGr c.X.K ρ d (k d ρ))
instance {c:C}{t:Expr}{k:D->Rho->R Rho}:CoeFun (JG c t k) (fun _=>∀ ρ d,PG c.X t (TGr c.X.K ρ d (k d ρ))):=⟨JG.run⟩
structure JGs (c:C) (t:List Expr) (k:List D->Rho->R Rho):Prop where of ::
 run:∀ ρ d,PGs c.X t (x6Q c.X.K ρ d (k d ρ))
instance {c:C}{t:List Expr}{k:List D->Rho->R Rho}:CoeFun (JGs c t k) (fun _=>∀ ρ d,PGs c.X t (x6Q c.X.K ρ d (k d ρ))):=⟨JGs.run⟩
theorem mPG {X:Cx}{e:Expr}{t t':TG} (h:PG X e t) (m:∀ v σ H Q,t' v σ H Q->t v σ H Q):PG X e t':=fun pins s σ H v u Q I r q=>h pins s σ H v u Q I r (m v σ H Q q)
theorem x7L {X:Cx}{e:List Expr}{t t':TGs} (h:PGs X e t) (m:∀ v σ H Q,t' v σ H Q->t v σ H Q):PGs X e t':=fun pins s σ H v u Q I r q=>h pins s σ H v u Q I r (m v σ H Q q)
def q19 (i:Nat):D->Rho->R Rho:=fun d ρ=>.ok (ρ.set i (.shr d))
theorem q1d (i:Nat) (hN:c.X.N.Nodup) (hi:c.X.N[i]?=some x:=by rfl) (hx:Loc c.X.env.scope x:=by first | exact Or.inl rfl | exact Or.inr rfl) (hf:c.X.fn x=true\/c.X.env.scope.names.lookup x=some .local:=by first | exact .inl rfl | exact .inr rfl | assumption) :
  JG c (.Name x pos) (q19 i):=.of fun ρ d=>mPG (q0Q hN hi hx hf) fun v σ H Q h_11=>by obtain ⟨H0,Hs0,la,Hs,f,r,q⟩:=h_11;exact q _ (f.set i r)
variable {kt:D->Rho->R Rho}{kts:List D->Rho->R Rho}{t:Expr}{ts:List Expr}
def w63:List D->Rho->R Rho:=fun ds ρ=>match ds with
 | []=>.ok ρ
 | _=>.no
def q1y (k:D->Rho->R Rho) (ks:List D->Rho->R Rho):List D->Rho->R Rho:=fun ds ρ=>match ds with
 | d::r=>(k d ρ).bind fun ρ'=>ks r ρ'
 | _=>.no
theorem q8c:JGs c [] w63:=.of fun ρ ds=>x7L w2Z fun vs σ H Q h_12=>by
 obtain ⟨H0,Hs0,la,Hs,f,r,q⟩:=h_12
 cases r with
 | nil=>exact ⟨rfl,q σ f⟩
 | cons _ _=>exact q.elim
theorem q1k (h:JG c t kt) (hr:JGs c ts kts) (hs:(assignEach (t::ts) c.X.env).map (·.2)=assign t c.X.env::(assignEach ts c.X.env).map (·.2):=by rfl):JGs c (t::ts) (q1y kt kts):=.of fun ρ ds pins s σ H vs us Q I rv h_13=>by
 obtain ⟨H0,Hs0,la,Hs,f,r,q⟩:=h_13
 cases r with
 | nil=>exact q.elim
 | @cons v vr d dr r1 r2 =>
  unfold q1y at q
  cases hk:kt d ρ with
  | ok ρ' =>
   simp only [hk,bind_ok] at q
   refine q5D (h ρ d) (hr ρ' dr) hs pins s σ H _ us Q I rv ⟨v,vr,rfl,H0,Hs0,la,Hs,f,r1,?_⟩
   rw [hk]
   exact fun σ' f'=>⟨H0,Hs0,la,Hs,f',r2,q⟩
  | ex x n=>simp only [hk,bind_ex] at q;exact q.elim
  | no=>simp only [hk,bind_no] at q;exact q.elim
def w3h (n:Nat) (ks:List D->Rho->R Rho):D->Rho->R Rho:=fun d ρ=>match d with
 | .tuple ds=>if ds.length=n then ks ds ρ else .no
 | _=>.no
theorem w1F {k n:Nat} (hc:c.X.calm=true) (h:JGs c ts kts) (hn:(assignEach ts c.X.env).length=n:=by rfl) (hst:(assignEach ts c.X.env).findIdx? (·.1)=none:=by rfl):JG c (.Tuple ts k pos) (w3h n kts):=.of fun ρ d=>by
 cases d with
 | tuple ds =>
  refine mPG (w74 hc (h ρ ds) hn hst) fun v σ H Q h_14=>?_
  obtain ⟨H0,Hs0,la,Hs,f,r,q⟩:=h_14
  cases r with
  | @tuple p xs _ hq rs =>
   unfold w3h at q
   by_cases hl:ds.length=n
   ·simp only [if_pos hl] at q
    exact ⟨p,xs,rfl,(SqT.of (f.st.sub _ _ hq)),by rw [rs.length];exact hl,H0,Hs0,la,Hs,f,rs,q⟩
   ·simp only [if_neg hl] at q;exact q.elim
 | _=>exact fun pins s σ H v u Q I rv h_15=>by obtain ⟨H0,Hs0,la,Hs,f,r,q⟩:=h_15;exact q.elim
def x0G (g:Rho->R D) (k:D->Rho->R Rho):Rho->R Fl:=fun ρ=>(g ρ).bind fun d=>match k d ρ with
 | .ok ρ'=>.ok (.nx ρ')
 | _=>.no
theorem w81 (h:JE c e g) (hg:JG c t kt) (hs:swapsWithSole [t] e pos.line c.X.env=pure false:=by rfl) (hw:swappedStores [t] e c.X.env=pure none:=by rfl) (h1:(assignEach [t] c.X.env).map (·.2)=[assign t c.X.env]:=by rfl) :
  JS c (.Assign [t] e pos) (x0G g kt):=.of fun ρ=>by
 cases hr:g ρ with
 | ok d =>
  refine mPS (x0m (h ρ) (hg ρ d) hs hw h1) fun D σ H h_16=>?_
  obtain ⟨H0,Hs0,la,Hs,f,q⟩:=h_16
  refine sE (k:=fun d=>match kt d ρ with | .ok ρ'=>.ok (.nx ρ') | _=>.no) f q fun d' v H1 Hs1 e1 s1 f1 r1=>?_
  rw [hr] at e1
  cases e1
  unfold x0G at q
  rw [hr,bind_ok] at q
  refine ⟨H0,Hs0,la,Hs1,f1,r1,?_⟩
  cases hk:kt d ρ with
  | ok ρ'=>rw [hk] at q;exact fun σ' f'=>q σ' H1 Hs1 f'
  | ex x n=>rw [hk] at q;exact q.elim
  | no=>rw [hk] at q;exact q.elim
 | ex x n =>
  refine mPS (x0m (h ρ) (hg ρ .none) hs hw h1) fun D σ H h_17=>?_
  obtain ⟨H0,Hs0,la,Hs,f,q⟩:=h_17
  refine sE (k:=fun _=>.no) (D':=D) f (by unfold x0G at q;rw [hr] at q ⊢;exact q) fun d' v H1 Hs1 e1 s1 f1 r1=>?_
  rw [hr] at e1;cases e1
 | no =>
  refine fun pins s σ H D I h_18=>?_
  obtain ⟨H0,Hs0,la,Hs,f,q⟩:=h_18
  unfold x0G at q
  rw [hr] at q
  exact q.elim
end
end J
end
section
namespace J
open PySem L2
def ItD (K:PySem.W.Frag) (J:It) (ds:List D) (Hn Hs:Hp):Prop:=∀ H2 Hs2,q29 Hn H2->q29 Hs Hs2->q29 Hs2 H2 ->
 (∀ i,i<ds.length->J.go i H2)/\(∀ i,ds.length<=i->J.stop i H2)/\∀ i x H3,i<ds.length->J.yld i H2 x H3->∃ d Hs3,ds[i]?=some d/\q1I H2 Hs2 H3 Hs3/\RD K Hs3 x d
theorem w82 {K:PySem.W.Frag}{Hn Hs:Hp}{a:Addr}{vs:List V}{ds:List D} (h:SqL K Hn a vs) (r:RDs K Hs vs ds):ItD K (Itl K a) ds Hn Hs:=fun H2 Hs2 e1 e2 e3=>by
 have q:=e1.seq h
 refine ⟨fun i hi=>?_,fun i hi=>⟨vs,q,by rw [r.length];exact hi⟩,fun i x H3 hi y=>?_⟩
 ·have hi':i<vs.length:=by rw [r.length];exact hi
  exact ⟨vs,vs[i],q,List.getElem?_eq_getElem hi'⟩
 ·obtain ⟨rfl,y⟩:=y
  obtain ⟨d,k1,k2⟩:=r.get (y vs q)
  exact ⟨d,Hs2,k1,.refl e3,k2.same e2⟩
theorem x0H {K:PySem.W.Frag}{Hn Hs:Hp}{a:Addr}{vs:List V}{ds:List D} (h:SqT K Hn a vs) (r:RDs K Hs vs ds):ItD K (Itt K a) ds Hn Hs:=fun H2 Hs2 e1 e2 e3=>by
 have q:=e1.tup h
 refine ⟨fun i hi=>?_,fun i hi=>⟨vs,q,by rw [r.length];exact hi⟩,fun i x H3 hi y=>?_⟩
 ·have hi':i<vs.length:=by rw [r.length];exact hi
  exact ⟨vs,vs[i],q,List.getElem?_eq_getElem hi'⟩
 ·obtain ⟨rfl,y⟩:=y
  obtain ⟨d,k1,k2⟩:=r.get (y vs q)
  exact ⟨d,Hs2,k1,.refl e3,k2.same e2⟩
theorem x0I {K:PySem.W.Frag}{Hn Hs:Hp} (x:Str):ItD K (Its x) (q4Q x) Hn Hs:=fun H2 Hs2 e1 e2 e3=>by
 have hl:(q4Q x).length=x.cps.size:=by simp [q4Q]
 refine ⟨fun i hi=>by rw [hl] at hi;exact hi,fun i hi=>by rw [hl] at hi;exact hi,fun i v H3 hi y=>?_⟩
 obtain ⟨rfl,c,k1,rfl⟩:=y
 refine ⟨.str ⟨#[c]⟩,Hs2,?_,.refl e3,.str _⟩
 unfold q4Q
 rw [List.getElem?_map,Array.getElem?_toList,k1]
 rfl
def q7e (lo:Int) (n:Nat):List D:=(List.range n).map fun (k:Nat)=>PyData.int (lo + k)
theorem w9F {K:PySem.W.Frag}{Hn Hs:Hp} (lo:Int) (n:Nat):ItD K (Itr lo n) (q7e lo n) Hn Hs:=fun H2 Hs2 e1 e2 e3=>by
 have hl:(q7e lo n).length=n:=by simp [q7e]
 refine ⟨fun i hi=>by rw [hl] at hi;exact hi,fun i hi=>by rw [hl] at hi;exact hi,fun i v H3 hi y=>?_⟩
 obtain ⟨rfl,rfl⟩:=y
 refine ⟨.int (lo + i),Hs2,?_,.refl e3,.int _⟩
 rw [hl] at hi
 unfold q7e
 rw [List.getElem?_map,List.getElem?_range hi]
 rfl
def q7s (n:Nat):List D->List D
 | []=>[]
 | d::r=>.tuple [.int n,d]::q7s (n + 1) r
theorem w1G:∀ (ds:List D) (n i:Nat),(q7s n ds)[i]?=(ds[i]?).map fun d=>PyData.tuple [.int ((n + i:Nat):Int),d]
 | [],_,_=>by simp [q7s]
 | d::r,n,0=>by simp [q7s]
 | d::r,n,i + 1=>by
  simp only [q7s,List.getElem?_cons_succ]
  rw [w1G r (n + 1) i,show n + 1 + i=n + (i + 1) by omega]
theorem w1H:∀ (ds:List D) (n:Nat),(q7s n ds).length=ds.length
 | [],_=>rfl
 | d::r,n=>by simp [q7s,w1H r]
theorem x2t {K:PySem.W.Frag}{Hn Hs:Hp}{a:Addr}{vs:List V}{ds:List D} (h:SqT K Hn a vs) (r:RDs K Hs vs ds):ItD K (Ite K a) (q7s 0 ds) Hn Hs:=fun H2 Hs2 e1 e2 e3=>by
 have q:=e1.tup h
 have hl:=w1H ds 0
 refine ⟨fun i hi=>?_,fun i hi=>⟨vs,q,by rw [r.length];omega⟩,fun i x H3 hi y=>?_⟩
 ·have hi':i<vs.length:=by rw [r.length];omega
  exact ⟨vs,vs[i],q,List.getElem?_eq_getElem hi'⟩
 ·obtain ⟨p,hp,rfl,y⟩:=y
  obtain ⟨x,k0,rfl⟩:=y vs q
  obtain ⟨d,k1,k2⟩:=r.get k0
  have st:=q1I.new (o:=.tup [.int i,x]) e3 hp
  refine ⟨.tuple [.int i,d],_,?_,st,.tuple q0d (.cons (.int _) (.cons ((k2.same e2).same st.sh) .nil))⟩
  rw [w1G,k1]
  simp
def w6U:List D->List D->List D
 | x::xs,y::ys=>.tuple [x,y]::w6U xs ys
 | _,_=>[]
theorem w57:∀ (xs ys:List D) (i:Nat) (x y:D),xs[i]?=some x->ys[i]?=some y->(w6U xs ys)[i]?=some (.tuple [x,y])
 | x::xs,y::ys,0,_,_,h1,h2=>by simp at h1 h2;subst h1 h2;rfl
 | _::xs,_::ys,i + 1,x,y,h1,h2=>by
  simp only [List.getElem?_cons_succ] at h1 h2
  simp only [w6U,List.getElem?_cons_succ]
  exact w57 xs ys i x y h1 h2
 | [],_,_,_,_,h1,_=>by simp at h1
 | _::_,[],_,_,_,_,h2=>by simp at h2
theorem w58:∀ (xs ys:List D),(w6U xs ys).length=min xs.length ys.length
 | x::xs,y::ys=>by simp [w6U,w58 xs ys]
 | [],_=>by simp [w6U]
 | _::_,[]=>by simp [w6U]
theorem x4i {K:PySem.W.Frag}{Hn Hs:Hp}{a b:Addr}{vs ws:List V}{ds es:List D} (h:SqT K Hn a vs) (r:RDs K Hs vs ds) (h':SqT K Hn b ws) (r':RDs K Hs ws es):ItD K (Itz K a b) (w6U ds es) Hn Hs:=fun H2 Hs2 e1 e2 e3=>by
 have q:=e1.tup h
 have q':=e1.tup h'
 have hl:=w58 ds es
 refine ⟨fun i hi=>?_,fun i hi=>⟨vs,ws,q,q',by rw [r.length,r'.length];omega⟩,fun i x H3 hi y=>?_⟩
 ·have h1:i<vs.length:=by rw [r.length];omega
  have h2:i<ws.length:=by rw [r'.length];omega
  exact ⟨vs,ws,vs[i],ws[i],q,q',List.getElem?_eq_getElem h1,List.getElem?_eq_getElem h2⟩
 ·obtain ⟨p,hp,rfl,y⟩:=y
  obtain ⟨x,z,k0,k0',rfl⟩:=y vs ws q q'
  obtain ⟨d,k1,k2⟩:=r.get k0
  obtain ⟨d',k1',k2'⟩:=r'.get k0'
  have st:=q1I.new (o:=.tup [x,z]) e3 hp
  exact ⟨.tuple [d,d'],_,w57 ds es i d d' k1 k1',st,.tuple q0d (.cons ((k2.same e2).same st.sh) (.cons ((k2'.same e2).same st.sh) .nil))⟩
inductive x6R (K:PySem.W.Frag) (cls:Str->Addr) (E:XK) (ρ:Rho) (r:R (List D)) (σ:St) (H:Hp) (Q:It->Hp->Prop):Prop
 | mk (H0 Hs0:Hp) (la:Nat->Option Addr) (Hs:Hp) (f:Fr K H0 Hs0 la ρ σ H Hs) (q:Fin K cls E H Hs r fun ds=>∀ J H' Hs' Hn,q1I H Hs H' Hs'->q29 Hn H'->ItD K J ds Hn Hs'->Q J H'):x6R K cls E ρ r σ H Q
def TIr (K:PySem.W.Frag) (cls:Str->Addr) (E:XK) (ρ:Rho) (r:R (List D)):TI:=x6R K cls E ρ r
inductive x6S (K:PySem.W.Frag) (cls:Str->Addr) (E:XK) (ρ:Rho) (r:R (List D)) (σ:St) (H:Hp) (Q:It->Hp->Prop):Prop
 | mk (H0 Hs0:Hp) (la:Nat->Option Addr) (Hs:Hp) (f:Fr K H0 Hs0 la ρ σ H Hs) (q:Fin K cls E H Hs r fun ds=>∀ J H' Hs',q1I H Hs H' Hs'->ItD K J ds Hs' Hs'->Q J H'):x6S K cls E ρ r σ H Q
def TIs (K:PySem.W.Frag) (cls:Str->Addr) (E:XK) (ρ:Rho) (r:R (List D)):TI:=x6S K cls E ρ r
structure JI (c:C) (tg it:Expr) (g:Rho->R (List D)):Prop where of ::
 run:∀ ρ,PI c.X tg it (TIr c.X.K c.cls c.E ρ (g ρ))
instance {c:C}{tg it:Expr}{g:Rho->R (List D)}:CoeFun (JI c tg it g) (fun _=>∀ ρ,PI c.X tg it (TIr c.X.K c.cls c.E ρ (g ρ))):=⟨JI.run⟩
structure JIs (c:C) (tg it:Expr) (g:Rho->R (List D)):Prop where of ::
 run:∀ ρ,PI c.X tg it (TIs c.X.K c.cls c.E ρ (g ρ))
instance {c:C}{tg it:Expr}{g:Rho->R (List D)}:CoeFun (JIs c tg it g) (fun _=>∀ ρ,PI c.X tg it (TIs c.X.K c.cls c.E ρ (g ρ))):=⟨JIs.run⟩
theorem mPI {X:Cx}{tg e:Expr}{t t':TI} (h:PI X tg e t) (m:∀ σ H Q,t' σ H Q->t σ H Q):PI X tg e t':=fun pins s σ H Q I q=>h pins s σ H Q I (m σ H Q q)
section
variable {c:C}{e a b l tg:Expr}{g ga gb:Rho->R D}{pos p:Pos}{gs:Rho->R (List D)}
def w1I:D->R (List D)
 | .list ds=>.ok ds
 | .tuple ds=>.ok ds
 | .str x=>.ok (q4Q x)
 | _=>.no
def gIt (g:Rho->R D):Rho->R (List D):=fun ρ=>(g ρ).bind w1I
theorem q1K (h:JB c l g):JI c tg l (gIt g):=.of fun ρ=>by
 cases hr:g ρ with
 | no=>exact fun pins s σ H Q I h_0=>by obtain ⟨H0,Hs0,la,Hs,f,q⟩:=h_0;exact by unfold gIt at q;rw [hr] at q;exact q.elim
 | ex x n =>
  refine mPI (w0b (h ρ)) fun σ H Q h_1=>?_
  obtain ⟨H0,Hs0,la,Hs,f,q⟩:=h_1
  refine one f q fun d v H1 Hs1 e1 s1 f1 r1=>?_
  rw [hr] at e1;cases e1
 | ok d =>
  cases d with
  | list ds =>
   refine mPI (w0b (h ρ)) fun σ H Q h_2=>?_
   obtain ⟨H0,Hs0,la,Hs,f,q⟩:=h_2
   refine one f q fun d v H1 Hs1 e1 s1 f1 r1=>?_
   rw [hr] at e1;cases e1
   unfold gIt at q
   rw [hr,bind_ok] at q
   obtain ⟨a,vs,rfl,qa,ra⟩:=r1.list f1.st.sub
   exact ⟨a,rfl,⟨vs,qa⟩,q _ H1 Hs1 H1 s1 (.refl _) (w82 qa ra)⟩
  | tuple ds =>
   refine mPI (x0n (h ρ)) fun σ H Q h_3=>?_
   obtain ⟨H0,Hs0,la,Hs,f,q⟩:=h_3
   refine one f q fun d v H1 Hs1 e1 s1 f1 r1=>?_
   rw [hr] at e1;cases e1
   unfold gIt at q
   rw [hr,bind_ok] at q
   obtain ⟨a,vs,rfl,qa,ra,_⟩:=r1.tuple f1.st.sub
   exact ⟨a,rfl,⟨vs,qa⟩,q _ H1 Hs1 H1 s1 (.refl _) (x0H qa ra)⟩
  | str x =>
   refine mPI (x0w (h ρ)) fun σ H Q h_4=>?_
   obtain ⟨H0,Hs0,la,Hs,f,q⟩:=h_4
   refine one f q fun d v H1 Hs1 e1 s1 f1 r1=>?_
   rw [hr] at e1;cases e1
   unfold gIt at q
   rw [hr,bind_ok] at q
   exact ⟨x,r1.str,q _ H1 Hs1 H1 s1 (.refl _) (x0I x)⟩
  | none=>exact fun pins s σ H Q I h_5=>by obtain ⟨H0,Hs0,la,Hs,f,q⟩:=h_5;exact by unfold gIt at q;rw [hr] at q;exact q.elim
  | bool _=>exact fun pins s σ H Q I h_6=>by obtain ⟨H0,Hs0,la,Hs,f,q⟩:=h_6;exact by unfold gIt at q;rw [hr] at q;exact q.elim
  | int _=>exact fun pins s σ H Q I h_7=>by obtain ⟨H0,Hs0,la,Hs,f,q⟩:=h_7;exact by unfold gIt at q;rw [hr] at q;exact q.elim
  | dict _=>exact fun pins s σ H Q I h_8=>by obtain ⟨H0,Hs0,la,Hs,f,q⟩:=h_8;exact by unfold gIt at q;rw [hr] at q;exact q.elim
theorem w83 (h:JE c l g):JIs c tg l (gIt g):=.of fun ρ=>by
 cases hr:g ρ with
 | no=>exact fun pins s σ H Q I h_9=>by obtain ⟨H0,Hs0,la,Hs,f,q⟩:=h_9;exact by unfold gIt at q;rw [hr] at q;exact q.elim
 | ex x n =>
  refine mPI (w0b (h ρ)) fun σ H Q h_10=>?_
  obtain ⟨H0,Hs0,la,Hs,f,q⟩:=h_10
  refine x2j f q fun d v H1 Hs1 e1 s1 f1 r1=>?_
  rw [hr] at e1;cases e1
 | ok d =>
  cases d with
  | list ds =>
   refine mPI (w0b (h ρ)) fun σ H Q h_11=>?_
   obtain ⟨H0,Hs0,la,Hs,f,q⟩:=h_11
   refine x2j f q fun d v H1 Hs1 e1 s1 f1 r1=>?_
   rw [hr] at e1;cases e1
   unfold gIt at q
   rw [hr,bind_ok] at q
   cases r1 with
   | list qa ra=>exact ⟨_,rfl,⟨_,f1.st.sub.seq qa⟩,q _ H1 Hs1 s1 (w82 qa ra)⟩
  | tuple ds =>
   refine mPI (x0n (h ρ)) fun σ H Q h_12=>?_
   obtain ⟨H0,Hs0,la,Hs,f,q⟩:=h_12
   refine x2j f q fun d v H1 Hs1 e1 s1 f1 r1=>?_
   rw [hr] at e1;cases e1
   unfold gIt at q
   rw [hr,bind_ok] at q
   cases r1 with
   | tuple qa ra=>exact ⟨_,rfl,⟨_,(SqT.of (f1.st.sub _ _ qa))⟩,q _ H1 Hs1 s1 (x0H (.of qa) ra)⟩
  | str x =>
   refine mPI (x0w (h ρ)) fun σ H Q h_13=>?_
   obtain ⟨H0,Hs0,la,Hs,f,q⟩:=h_13
   refine x2j f q fun d v H1 Hs1 e1 s1 f1 r1=>?_
   rw [hr] at e1;cases e1
   unfold gIt at q
   rw [hr,bind_ok] at q
   cases r1 with
   | str _=>exact ⟨x,rfl,q _ H1 Hs1 s1 (x0I x)⟩
  | none=>exact fun pins s σ H Q I h_14=>by obtain ⟨H0,Hs0,la,Hs,f,q⟩:=h_14;exact by unfold gIt at q;rw [hr] at q;exact q.elim
  | bool _=>exact fun pins s σ H Q I h_15=>by obtain ⟨H0,Hs0,la,Hs,f,q⟩:=h_15;exact by unfold gIt at q;rw [hr] at q;exact q.elim
  | int _=>exact fun pins s σ H Q I h_16=>by obtain ⟨H0,Hs0,la,Hs,f,q⟩:=h_16;exact by unfold gIt at q;rw [hr] at q;exact q.elim
  | dict _=>exact fun pins s σ H Q I h_17=>by obtain ⟨H0,Hs0,la,Hs,f,q⟩:=h_17;exact by unfold gIt at q;rw [hr] at q;exact q.elim
theorem JIs.i (h:JIs c tg l gs):JI c tg l gs:=.of fun ρ=>mPI (h ρ) fun σ H Q ⟨H0,Hs0,la,Hs,f,q⟩=>⟨H0,Hs0,la,Hs,f,by
 cases hr:gs ρ with
 | ok ds=>rw [hr] at q;exact fun J H' Hs' s i=>q J H' Hs' Hs' s s.sub i
 | ex x n=>rw [hr] at q;exact q
 | no=>rw [hr] at q;exact q⟩
def x2u:List D->R (List D)
 | [.int j]=>if -(2 ^ 62)<=j/\j<2 ^ 62 then .ok (q7e 0 j.toNat) else .no
 | _=>.no
def w64 (gs:Rho->R (List D)):Rho->R (List D):=fun ρ=>(gs ρ).bind x2u
theorem q6m (hg:Gl c.X "range") (hm:c.X.mg "range"=none) (ha:JBs c [a] gs) (hs:starEach [a] c.X.env=[(false,eval a c.X.env)]:=by rfl):JIs c tg (.Call (.Name "range" p) [a] [] pos) (w64 gs):=.of fun ρ=>mPI (w76 hg hm (ha ρ) hs) fun σ H Q h_18=>by
 obtain ⟨H0,Hs0,la,Hs,f,q⟩:=h_18
 refine x2k f q fun ds vs H1 Hs1 e1 s1 f1 r1=>?_
 unfold w64 at q
 rw [e1,bind_ok] at q
 unfold x2u at q
 split at q
 ·rename_i j
  by_cases hj:-(2 ^ 62)<=j/\j<2 ^ 62
  ·rw [if_pos hj] at q
   obtain ⟨x,rfl,rx⟩:=r1.one
   exact ⟨j,by rw [rx.int],hj.1,hj.2,q _ H1 Hs1 s1 (w9F 0 _)⟩
  ·rw [if_neg hj] at q;exact q.elim
 ·exact q.elim
def enm:List D->R (List D)
 | [.tuple ds]=>.ok (q7s 0 ds)
 | _=>.no
def x2v (gs:Rho->R (List D)):Rho->R (List D):=fun ρ=>(gs ρ).bind enm
theorem RDs.one {K:PySem.W.Frag}{H:Hp}{xs:List V}{d:D} (h:RDs K H xs [d]):∃ x,xs=[x]/\RD K H x d:=by
 cases h with | cons a t=>cases t;exact ⟨_,rfl,a⟩
theorem RDs.two {K:PySem.W.Frag}{H:Hp}{xs:List V}{d e:D} (h:RDs K H xs [d,e]):∃ x y,xs=[x,y]/\RD K H x d/\RD K H y e:=by
 cases h with | cons a t=>cases t with | cons b t=>cases t;exact ⟨_,_,rfl,a,b⟩
theorem w0s {elts:List Expr}{x1}{tpos:Pos} (hg:Gl c.X "enumerate") (hm:c.X.mg "enumerate"=none) (ha:JAs c [a] gs) (hs:starEach [a] c.X.env=[(false,eval a c.X.env)]:=by rfl):JIs c (.Tuple elts x1 tpos) (.Call (.Name "enumerate" p) [a] [] pos) (x2v gs):=.of fun ρ=>mPI (x2b hg hm (ha ρ) hs) fun σ H Q h_20=>by
 obtain ⟨H0,Hs0,la,Hs,f,q⟩:=h_20
 refine w91 f q fun ds vs H1 Hs1 e1 s1 f1 r1=>?_
 unfold x2v at q
 rw [e1,bind_ok] at q
 unfold enm at q
 split at q
 ·obtain ⟨x,rfl,rx⟩:=r1.one
  cases rx with
  | tuple qa ra=>exact ⟨_,_,rfl,(SqT.of (f1.st.sub _ _ qa)),q _ H1 Hs1 s1 (x2t (.of qa) ra)⟩
 ·exact q.elim
def zp:List D->R (List D)
 | [.tuple ds,.tuple es]=>.ok (w6U ds es)
 | _=>.no
def x5z (gs:Rho->R (List D)):Rho->R (List D):=fun ρ=>(gs ρ).bind zp
theorem x2w {elts:List Expr}{x1}{tpos:Pos} (hg:Gl c.X "zip") (hm:c.X.mg "zip"=none) (ha:JAs c [a,b] gs) (hs:starEach [a,b] c.X.env=[(false,eval a c.X.env),(false,eval b c.X.env)]:=by rfl) (hs2:starEach [b] c.X.env=[(false,eval b c.X.env)]:=by rfl) :
  JIs c (.Tuple elts x1 tpos) (.Call (.Name "zip" p) [a,b] [] pos) (x5z gs):=.of fun ρ=>mPI (x42 hg hm (ha ρ) hs hs2) fun σ H Q h_21=>by
 obtain ⟨H0,Hs0,la,Hs,f,q⟩:=h_21
 refine w91 f q fun ds vs H1 Hs1 e1 s1 f1 r1=>?_
 unfold x5z at q
 rw [e1,bind_ok] at q
 unfold zp at q
 split at q
 ·obtain ⟨x,y,rfl,rx,ry⟩:=r1.two
  cases rx with
  | tuple qa ra =>
   cases ry with
   | tuple qb rb=>exact ⟨_,_,_,_,rfl,(SqT.of (f1.st.sub _ _ qa)),(SqT.of (f1.st.sub _ _ qb)),q _ H1 Hs1 s1 (x4i (.of qa) ra (.of qb) rb)⟩
 ·exact q.elim
end
end J
end
section
namespace J
open PySem L2
inductive TNI (K:PySem.W.Frag) (cls:Str->Addr) (E:XK) (ρ:Rho) (r:R D) (σ:St) (H:Hp) (Q:VK):Prop
 | mk (H0 Hs0:Hp) (la:Nat->Option Addr) (Hs:Hp) (f:Fr K H0 Hs0 la ρ σ H Hs) (q:Fin K cls E H Hs r fun d=>∀ a o H' Hs',q1I H Hs H' Hs'->H' a=none->w2S K Hs' o d->Q (.ref a) (upd H' a o)):TNI K cls E ρ r σ H Q
def TN (K:PySem.W.Frag) (cls:Str->Addr) (E:XK) (ρ:Rho) (r:R D):TE:=TNI K cls E ρ r
structure JN (c:C) (e:Expr) (g:Rho->R D):Prop where of ::
 run:∀ ρ,PE c.X e (TN c.X.K c.cls c.E ρ (g ρ))
instance {c:C}{e:Expr}{g:Rho->R D}:CoeFun (JN c e g) (fun _=>∀ ρ,PE c.X e (TN c.X.K c.cls c.E ρ (g ρ))):=⟨JN.run⟩
section
variable {c:C}{e a b l tg:Expr}{g ga gb:Rho->R D}{pos p:Pos}{gs:Rho->R (List D)}{es:List Expr}{x:Str}
theorem x7M {K:PySem.W.Frag}{cls:Str->Addr}{E:XK}{ρ:Rho}{r:R D}{σ:St}{H:Hp}{Q:VK} (q:TR K cls E ρ r σ H Q):TN K cls E ρ r σ H Q:=by
 obtain ⟨H0,Hs0,la,Hs,f,q⟩:=q
 refine ⟨H0,Hs0,la,Hs,f,?_⟩
 cases r with
 | ok d=>exact fun a o H' Hs' s n r=>q _ _ _ (s.trans (.new s.sub n)) (r.share (s.sub.free n))
 | ex x n=>exact q
 | no=>exact q
theorem JN.je (h:JN c e g):JE c e g:=.of fun ρ=>mPE (h ρ) fun σ H Q q=>x7M q
theorem w59 (h:JAs c es gs):JN c (.List es pos) (q1Y gs .list):=.of fun ρ=>mPE (q44 (h ρ)) fun σ H Q h_0=>by
 obtain ⟨H0,Hs0,la,Hs,f,q⟩:=h_0
 refine w91 f q fun ds vs H1 Hs1 e1 s1 f1 r1=>?_
 unfold q1Y at q
 rw [e1,bind_ok] at q
 by_cases hl:ds.length<=1000
 ·rw [if_pos hl] at q
  exact ⟨Nat.le_of_lt (q0u (by rw [r1.length];exact hl)),fun p hp=>q p _ H1 Hs1 s1 hp (.lst r1)⟩
 ·rw [if_neg hl] at q;exact q.elim
theorem w84:JN c (.Dict [] [] pos) (fun _=>.ok (.dict [])):=.of fun ρ=>mPE w9h fun σ H Q h_1=>by obtain ⟨H0,Hs0,la,Hs,f,q⟩:=h_1;exact fun p hp=>q p _ H Hs (.refl f.st.sub) hp (.dK .nil)
def q3I (i:Nat) (g:Rho->R D):Rho->R Fl:=fun ρ=>(g ρ).bind fun d=>.ok (.nx (ρ.set i (.own d)))
theorem sN {K:PySem.W.Frag}{cls:Str->Addr}{E:XK}{ρ:Rho}{r:R D}{k:D->R Fl}{σ:St}{H:Hp}{H0 Hs0 Hs:Hp}{la:Nat->Option Addr}{D':w2X}{Q:V->Hp->Prop} (f:Fr K H0 Hs0 la ρ σ H Hs)
  (h:w19 K cls E H0 Hs0 la D' (r.bind k)) (m:∀ d a o H' Hs',r=.ok d->Fr K H0 Hs0 la ρ σ H' Hs'->H' a=none->w2S K Hs' o d->Q (.ref a) (upd H' a o)):TN K cls E ρ r σ H Q:=by
 refine ⟨H0,Hs0,la,Hs,f,?_⟩
 cases r with
 | ok d=>exact fun a o H' Hs' s n r=>m d a o H' Hs' rfl (f.step s) n r
 | ex c n=>exact fun H' Hs' s=>h H' Hs' (f.st.trans s)
 | no=>exact h
theorem q6n (i:Nat) {pos':Pos} (h:JN c e g) (hN:c.X.N.Nodup) (hi:c.X.N[i]?=some x:=by rfl) (hx:Loc c.X.env.scope x:=by first | exact Or.inl rfl | exact Or.inr rfl) (hs:swapsWith e (some (.Name x pos')) pos.line c.X.env=pure false:=by rfl)
  (hf:c.X.fn x=true\/c.X.env.scope.names.lookup x=some .local:=by first | exact .inl rfl | exact .inr rfl | assumption):JS c (.Assign [.Name x pos'] e pos) (q3I i g):=.of fun ρ=>mPS (w4S hN hi hx (h ρ) hs hf) fun D σ H h_2=>by
 obtain ⟨H0,Hs0,la,Hs,f,q⟩:=h_2
 refine sN f q fun d a o H1 Hs1 e1 f1 n1 r1=>?_
 unfold q3I at q
 rw [e1,bind_ok] at q
 exact q _ _ Hs1 (f1.setO i n1 r1)
def x3i {α:Type}:R α->R α
 | .ex _ _=>.no
 | r=>r
theorem w85 {α:Type}{r:R α}{a:α} (h:x3i r=.ok a):r=.ok a:=by
 cases r<;>first | exact h | cases h
def q2J (f:D->R (Option D)):List D->R (List D)
 | []=>.ok []
 | d::r=>(f d).bind fun o=>(q2J f r).bind fun ys=>.ok (match o with
  | some y=>y::ys
  | none=>ys)
theorem q9O {f:D->R (Option D)}{d:D}{r ys:List D} (h:q2J f (d::r)=.ok ys):∃ o zs,f d=.ok o/\q2J f r=.ok zs/\ys=o.toList++zs:=by
 unfold q2J at h
 cases hf:f d with
 | ok o =>
  rw [hf,bind_ok] at h
  cases hm:q2J f r with
  | ok zs =>
   rw [hm,bind_ok] at h
   cases h
   cases o<;>exact ⟨_,zs,rfl,rfl,rfl⟩
  | ex x n=>rw [hm] at h;cases h
  | no=>rw [hm] at h;cases h
 | ex x n=>rw [hf] at h;cases h
 | no=>rw [hf] at h;cases h
def see:Sl->Sl
 | .own d=>.lck d
 | .ow2 _=>.no
 | s=>s
def q9P (nt:Nat) (ix:List Nat) (ρ:Rho):Rho:=List.replicate nt Sl.no++ix.map fun i=>see ((ρ[i]?).getD .no)
def bnd (nt:Nat):D->Rho->R Rho:=match nt with
 | 1=>q19 0
 | 2=>w3h 2 (q1y (q19 0) (q1y (q19 1) w63))
 | _=>fun _ _=>.no
def q2S (nt:Nat) (ρ:Rho) (gt:Rho->R Bool) (ge:Rho->R D):D->R (Option D):=fun d=>x3i ((bnd nt d ρ).bind fun ρ'=>(gt ρ').bind fun b=>if b then (ge ρ').bind fun y=>.ok (some y) else .ok none)
def q1S (nt:Nat) (ix:List Nat) (gi:Rho->R (List D)) (gt:Rho->R Bool) (ge:Rho->R D):Rho->R D:=fun ρ=>(gi ρ).bind fun ds=>if ds.length<=1000 then (q2J (q2S nt (q9P nt ix ρ) gt ge) ds).bind fun ys=>.ok (.list ys) else .no
structure JTs (c:C) (ifs:List Expr) (g:Rho->R Bool):Prop where of ::
 run:∀ ρ,PTs c.X ifs (TTT c.X.K c.cls c.E ρ (g ρ))
instance {c:C}{ifs:List Expr}{g:Rho->R Bool}:CoeFun (JTs c ifs g) (fun _=>∀ ρ,PTs c.X ifs (TTT c.X.K c.cls c.E ρ (g ρ))):=⟨JTs.run⟩
theorem q1z:JTs c [] (fun _=>.ok true):=.of fun ρ pins s σ H Q I h_3=>by obtain ⟨H0,Hs0,la,Hs,f,q⟩:=h_3;exact x24 pins s σ H Q I (q H Hs (.refl f.st.sub))
theorem q52 {gt:Rho->R Bool} (h:JT c e gt):JTs c [e] gt:=.of fun ρ=>x25 (h ρ)
def x3j (K:PySem.W.Frag) (nt:Nat):TG:=match nt with
 | 1=>w1b 0
 | _=>x5N K 2 (L2.q01 (w1b 0) (L2.q01 (w1b 1) L2.q0k))
theorem w3i {K:PySem.W.Frag}{nt:Nat} (h:nt=1\/nt=2):Low nt (x3j K nt):=by
 rcases h with rfl | rfl
 ·exact w9i (by decide)
 ·exact x27 (by decide) (by decide)
theorem w5a {K:PySem.W.Frag}{nt:Nat}{H0 Hs0 H Hs:Hp}{la:Nat->Option Addr}{ρ ρ':Rho}{σ:St}{v:V}{d:D}{Q:St->Hp->Prop} (hnt:nt=1\/nt=2) (f:Fr K H0 Hs0 la ρ σ H Hs) (r:RD K Hs v d) (hb:bnd nt d ρ=.ok ρ')
  (q:∀ σ',Fr K H0 Hs0 la ρ' σ' H Hs->Q σ' H):x3j K nt v σ H Q:=by
 rcases hnt with rfl | rfl
 ·cases hb
  exact q _ (f.set 0 r)
 ·unfold bnd w3h at hb
  simp only at hb
  cases r with
  | @tuple p xs ds hq rs =>
   simp only at hb
   split at hb
   ·rename_i hl
    cases rs with
    | nil=>cases hl
    | cons r1 rs =>
     cases rs with
     | nil=>cases hl
     | cons r2 rs =>
      cases rs with
      | nil =>
       cases hb
       exact ⟨p,_,rfl,(SqT.of (f.st.sub _ _ hq)),rfl,_,_,rfl,_,_,rfl,rfl,q _ ((f.set 0 r1).set 1 r2)⟩
      | cons _ _=>simp at hl
   ·cases hb
  | none=>cases hb
  | bool _=>cases hb
  | int _=>cases hb
  | str _=>cases hb
  | list _ _=>cases hb
  | dictK _ _=>cases hb
  | dictT _ _ _=>cases hb
theorem Fr.block {K:PySem.W.Frag}{H0 Hs0 H Hs:Hp}{la:Nat->Option Addr}{ρ:Rho}{σ:St} (f:Fr K H0 Hs0 la ρ σ H Hs) (nt:Nat) (ix:List Nat):∃ la',Fr K H Hs la' (q9P nt ix ρ) (L2.q5B nt ix σ) H Hs:=by
 have lk:∀ (j:Nat) (d:D),(q9P nt ix ρ)[j]?=some (Sl.lck d)->∃ a o,(L2.q5B nt ix σ)[j]?=some (some (V.ref a))/\H a=some o/\Hs a=none/\w2S K Hs o d:=fun j d h=>by
  unfold q9P at h
  by_cases hj:j<nt
  ·rw [List.getElem?_append_left (by simpa using hj),List.getElem?_replicate,if_pos hj] at h;cases h
  ·have hj:nt<=j:=by omega
   rw [List.getElem?_append_right (by simpa using hj),List.length_replicate,List.getElem?_map] at h
   cases hi:ix[j - nt]? with
   | none=>rw [hi] at h;cases h
   | some i =>
    rw [hi] at h
    have at_:∀ v,σ[i]?=some (some v)->(L2.q5B nt ix σ)[j]?=some (some v):=fun v k1=>by
     unfold L2.q5B
     rw [List.getElem?_append_right (by simpa using hj),List.length_replicate,List.getElem?_map,hi]
     simp [k1]
    cases hr:ρ[i]? with
    | none=>simp only [Option.map_some,hr,Option.getD_none,see] at h;cases h
    | some s =>
     simp only [Option.map_some,hr,Option.getD_some] at h
     cases s with
     | own d' =>
      cases h
      obtain ⟨a,o,k1,k2,k3,k4,k5⟩:=f.ow i d hr
      exact ⟨a,o,at_ _ k1,k2,k3,k5⟩
     | lck d' =>
      cases h
      obtain ⟨a,o,k1,k2,k3,k4,k5,k6⟩:=f.lk i d hr
      exact ⟨a,o,at_ _ k1,k3,k4,k6⟩
     | no=>cases h
     | shr _=>cases h
     | ow2 _=>cases h
 have no2:∀ (j:Nat) (d:List (List D)),¬ (q9P nt ix ρ)[j]?=some (Sl.ow2 d):=fun j d h=>by
  unfold q9P at h
  by_cases hj:j<nt
  ·rw [List.getElem?_append_left (by simpa using hj),List.getElem?_replicate,if_pos hj] at h;cases h
  ·have hj:nt<=j:=by omega
   rw [List.getElem?_append_right (by simpa using hj),List.length_replicate,List.getElem?_map] at h
   cases hi:ix[j - nt]? with
   | none=>rw [hi] at h;cases h
   | some i =>
    rw [hi] at h
    cases hr:ρ[i]? with
    | none=>simp only [Option.map_some,hr,Option.getD_none,see] at h;cases h
    | some s =>
     simp only [Option.map_some,hr,Option.getD_some] at h
     cases s<;>cases h
 refine ⟨fun j=>match (q9P nt ix ρ)[j]?,(L2.q5B nt ix σ)[j]? with
  | some (Sl.lck _),some (some (V.ref a))=>some a
  | _,_=>none,.refl f.st.sub,by simp [q9P,L2.q5B],fun j d h=>?_,fun j d h=>?_,fun j d h=>?_,fun j k d1 d2 a h1 h2 _ _=>?_,fun j a h=>?_,fun j d h=>(no2 j d h).elim,fun j k d1 d2 h1 _=>(no2 j d1 h1).elim⟩
 case refine_3 =>
  obtain ⟨a,o,k1,k2,k3,k4⟩:=lk j d h
  exact ⟨a,o,k1,by rw [h,k1],k2,k3,k2,k4⟩
 case refine_5 =>
  split at h
  ·rename_i d a' h1 h2
   cases h
   obtain ⟨a',o,k1,k2,_⟩:=lk j d h1
   rw [h2] at k1
   cases k1
   exact ⟨o,k2⟩
  ·cases h
 all_goals
  unfold q9P at *
 ·have h:=h
  by_cases hj:j<nt
  ·rw [List.getElem?_append_left (by simpa using hj),List.getElem?_replicate,if_pos hj] at h;cases h
  ·have hj:nt<=j:=by omega
   rw [List.getElem?_append_right (by simpa using hj),List.length_replicate,List.getElem?_map] at h
   cases hi:ix[j - nt]? with
   | none=>rw [hi] at h;cases h
   | some i =>
    rw [hi] at h
    cases hr:ρ[i]? with
    | none=>simp only [Option.map_some,hr,Option.getD_none,see] at h;cases h
    | some s =>
     simp only [Option.map_some,hr,Option.getD_some] at h
     cases s with
     | shr d' =>
      cases h
      obtain ⟨v,k1,k2⟩:=f.sh i d hr
      refine ⟨v,?_,k2⟩
      unfold L2.q5B
      rw [List.getElem?_append_right (by simpa using hj),List.length_replicate,List.getElem?_map,hi]
      simp [k1]
     | no=>cases h
     | own _=>cases h
     | lck _=>cases h
     | ow2 _=>cases h
 ·have h:=h
  by_cases hj:j<nt
  ·rw [List.getElem?_append_left (by simpa using hj),List.getElem?_replicate,if_pos hj] at h;cases h
  ·have hj:nt<=j:=by omega
   rw [List.getElem?_append_right (by simpa using hj),List.length_replicate,List.getElem?_map] at h
   cases hi:ix[j - nt]? with
   | none=>rw [hi] at h;cases h
   | some i =>
    rw [hi] at h
    cases hr:ρ[i]? with
    | none=>simp only [Option.map_some,hr,Option.getD_none,see] at h;cases h
    | some s =>
     simp only [Option.map_some,hr,Option.getD_some] at h
     cases s<;>cases h
 ·have h1:=h1
  by_cases hj:j<nt
  ·rw [List.getElem?_append_left (by simpa using hj),List.getElem?_replicate,if_pos hj] at h1;cases h1
  ·have hj:nt<=j:=by omega
   rw [List.getElem?_append_right (by simpa using hj),List.length_replicate,List.getElem?_map] at h1
   cases hi:ix[j - nt]? with
   | none=>rw [hi] at h1;cases h1
   | some i =>
    rw [hi] at h1
    cases hr:ρ[i]? with
    | none=>simp only [Option.map_some,hr,Option.getD_none,see] at h1;cases h1
    | some s =>
     simp only [Option.map_some,hr,Option.getD_some] at h1
     cases s<;>cases h1
theorem w0t {f:D->R (Option D)} (h:∀ d c n,f d≠.ex c n):∀ (ds:List D) (c:Str) (n:Option D),q2J f ds≠.ex c n
 | [],c,n=>fun e=>by cases e
 | d::r,c,n=>fun e=>by
  unfold q2J at e
  cases hf:f d with
  | ok o =>
   rw [hf,bind_ok] at e
   cases hm:q2J f r with
   | ok zs=>rw [hm,bind_ok] at e;cases e
   | ex x k=>exact w0t h r x k hm
   | no=>rw [hm] at e;cases e
  | ex x k=>exact h d x k hf
  | no=>rw [hf] at e;cases e
theorem w5b (nt:Nat) (ρ:Rho) (gt:Rho->R Bool) (ge:Rho->R D) (d:D) (c:Str) (n:Option D):q2S nt ρ gt ge d≠.ex c n:=by
 unfold q2S x3i
 split<;>first | exact fun e=>by cases e | skip
 rename_i h
 exact fun e=>h c n e
inductive cnI (K:PySem.W.Frag) (f:D->R (Option D)) (ds ys:List D) (H1 Hs1:Hp) (i m:Nat) (acc:List V) (H':Hp):Prop
 | mk (done q0V zs ya Hs':_) (h0:ds=done++q0V) (h1:done.length=i) (h2:q0V.length=m) (h3:q1I H1 Hs1 H' Hs') (h4:RDs K Hs' acc ya) (h5:ya.length<=i) (h6:q2J f q0V=.ok zs) (h7:ys=ya++zs):cnI K f ds ys H1 Hs1 i m acc H'
theorem w86 {K:PySem.W.Frag}{cls:Str->Addr}{E:XK}{nt:Nat}{ix:List Nat}{gi:Rho->R (List D)}{gt:Rho->R Bool}{ge:Rho->R D}{ρ:Rho}{σ:St}{H:Hp}{Q:VK} (hnt:nt=1\/nt=2)
  (q:TN K cls E ρ (q1S nt ix gi gt ge ρ) σ H Q) :
  x26 nt ix (TIr K cls E ρ (gi ρ)) (x3j K nt) (fun σ H Q=>∃ ρ',TTT K cls E0 ρ' (gt ρ') σ H Q) (fun σ H Q=>∃ ρ',TR K cls E0 ρ' (ge ρ') σ H Q) σ H Q:=by
 obtain ⟨H0,Hs0,la,Hs,f,q⟩:=q
 refine ⟨H0,Hs0,la,Hs,f,?_⟩
 unfold q1S at q
 cases hi:gi ρ with
 | no=>rw [hi] at q;exact q
 | ex x n=>rw [hi] at q;exact q
 | ok ds =>
  rw [hi,bind_ok] at q
  intro J H1 Hs1 Hn s1 sn it
  by_cases hl:ds.length<=1000
  ·rw [if_pos hl] at q
   cases hm:q2J (q2S nt (q9P nt ix ρ) gt ge) ds with
   | no=>rw [hm] at q;exact q.elim
   | ex x n=>exact (w0t (w5b _ _ _ _) _ _ _ hm).elim
   | ok ys =>
    rw [hm,bind_ok] at q
    obtain ⟨lb,fb⟩:=(f.step s1).block nt ix
    refine ⟨cnI K (q2S nt (q9P nt ix ρ) gt ge) ds ys H1 Hs1,
     ⟨ds.length,[],ds,ys,[],Hs1,rfl,rfl,rfl,.refl s1.sub,.nil,Nat.zero_le _,hm,rfl⟩,?_⟩
    rintro i m acc H' ⟨done,q0V,zs,ya,Hs',hds,hdl,hrl,st,ra,yl,hz,hy⟩
    obtain ⟨igo,istop,iyld⟩:=it H' Hs' (sn.trans st.all) st.sh st.sub
    cases q0V with
    | nil =>
     left
     cases hz
     rw [List.append_nil] at hds hy
     subst hy hds
     exact ⟨istop i (by omega),fun p hp=>q p _ H' Hs' (s1.trans st) hp (.lst ra)⟩
    | cons d q0V =>
     right
     have hil:i<ds.length:=by rw [hds,List.length_append,List.length_cons];omega
     refine ⟨igo i hil,q0u (by rw [ra.length];omega),fun x H2 hyl=>?_⟩
     obtain ⟨d',Hs2,hd,s2,r2⟩:=iyld i x H2 hil hyl
     have hdd:d'=d:=by
      rw [hds,List.getElem?_append_right (by omega)] at hd
      simp [hdl] at hd
      exact hd.symm
     subst hdd
     obtain ⟨o,zs',hf,hz',rfl⟩:=q9O hz
     have hf:=w85 hf
     cases hb:bnd nt d' (q9P nt ix ρ) with
     | no=>rw [hb] at hf;cases hf
     | ex x n=>rw [hb] at hf;cases hf
     | ok ρ' =>
      rw [hb,bind_ok] at hf
      refine w5a hnt ((fb.step st).step s2) r2 hb fun σ2 f2=>⟨ρ',?_⟩
      refine ⟨_,_,_,Hs2,f2,?_⟩
      cases ht:gt ρ' with
      | no=>rw [ht] at hf;cases hf
      | ex x n=>rw [ht] at hf;cases hf
      | ok b =>
       rw [ht,bind_ok] at hf
       intro H3 Hs3 s3
       cases b with
       | false =>
        rw [if_neg Bool.false_ne_true] at hf
        cases hf
        refine w90 ⟨q0V.length,by rw [<- hrl];simp,done++[d'],q0V,zs',ya,Hs3,by rw [hds];simp,by simp [hdl],rfl,(st.trans s2).trans s3,ra.same (s2.trans s3).sh,by omega,hz',by simpa using hy⟩
       | true =>
        rw [if_pos rfl] at hf
        refine x0t ⟨ρ',_,_,_,Hs3,f2.step s3,?_⟩
        cases he:ge ρ' with
        | no=>rw [he] at hf;cases hf
        | ex x n=>rw [he] at hf;cases hf
        | ok y =>
         rw [he,bind_ok] at hf
         cases hf
         intro v H4 Hs4 s4 r4
         exact ⟨q0V.length,by rw [<- hrl];simp,done++[d'],q0V,zs',ya++[y],Hs4,by rw [hds];simp,by simp [hdl],rfl,((st.trans s2).trans s3).trans s4,(ra.same ((s2.trans s3).trans s4).sh).append (.cons r4 .nil),by simp;omega,hz',by rw [hy];simp⟩
  ·rw [if_neg hl] at q;exact q.elim
def C.comp (c:C) (N':List Str) (scope:Scope) (cl:List (Str×Addr)) (A:Addr) (s₀:Shared) (H₀:Hp) (ex:List Addr) (pn:List (Addr×Obj)):C:=⟨q0O c.X N' scope cl A s₀ H₀ ex pn,c.cls,E0⟩
variable {elt iter:Expr}{ifs:List Expr}{scope:Scope}{N':List Str}{nt:Nat}{ix:List Nat}{gi:Rho->R (List D)}{gt:Rho->R Bool}{ge:Rho->R D}
def q8d (c:C) (N':List Str) (scope:Scope) (nt:Nat) (tg:Expr) (ifs:List Expr) (elt:Expr) (gt:Rho->R Bool) (ge:Rho->R D):Prop :=
 ∀ cl A s₀ H₀ ex pn,PG (c.comp N' scope cl A s₀ H₀ ex pn).X tg (x3j c.X.K nt)/\JTs (c.comp N' scope cl A s₀ H₀ ex pn) ifs gt/\JE (c.comp N' scope cl A s₀ H₀ ex pn) elt ge
theorem q8d.at (h:q8d c N' scope nt tg ifs elt gt ge):∀ cl A s₀ H₀ ex pn,PG (q0O c.X N' scope cl A s₀ H₀ ex pn) tg (x3j c.X.K nt)/\PTs (q0O c.X N' scope cl A s₀ H₀ ex pn) ifs (fun σ H Q=>∃ ρ',TTT c.X.K c.cls E0 ρ' (gt ρ') σ H Q) /\
  PE (q0O c.X N' scope cl A s₀ H₀ ex pn) elt (fun σ H Q=>∃ ρ',TR c.X.K c.cls E0 ρ' (ge ρ') σ H Q):=fun cl A s₀ H₀ ex pn=>by
 obtain ⟨h1,h2,h3⟩:=h cl A s₀ H₀ ex pn
 exact ⟨h1,fun pins s σ H Q I h_4=>by obtain ⟨ρ',q⟩:=h_4;exact h2 ρ' pins s σ H Q I q,fun pins s σ H Q I h_5=>by obtain ⟨ρ',q⟩:=h_5;exact h3 ρ' pins s σ H Q I q⟩
theorem q1T (nt:Nat) (hnt:nt=1\/nt=2) (hc:c.X.calm=true) (S:q4P c.X scope N' nt ix) (hi:JI c tg iter gi) (hb:q8d c N' scope nt tg ifs elt gt ge) (hs:∀ x,foldedSetIterable iter c.X.env x=pure x:=by intro _;rfl) :
  JN c (.ListComp elt [⟨tg,iter,ifs,0⟩] scope pos) (q1S nt ix gi gt ge):=.of fun ρ=>mPE (w33 hc S (w3i hnt) (hi ρ) hb.at hs) fun σ H Q q=>w86 hnt q
theorem q20 (i:Nat) {spos py:Pos} (nt:Nat) (hnt:nt=1\/nt=2) (hN:c.X.N.Nodup) (hc:c.X.calm=true) (S:q4P c.X scope N' nt ix) (hi:JI c tg iter gi) (hb:q8d c N' scope nt tg ifs elt gt ge)
  (hiN:c.X.N[i]?=some x:=by rfl) (hy:c.X.env.scope.names.lookup x=some .local:=by rfl)
  (hsw:swapsWith (.ListComp elt [⟨tg,iter,ifs,0⟩] scope pos) (some (.Name x py)) spos.line c.X.env=pure true:=by rfl)
  (hs:∀ x,foldedSetIterable iter c.X.env x=pure x:=by intro _;rfl):JS c (.Assign [.Name x py] (.ListComp elt [⟨tg,iter,ifs,0⟩] scope pos) spos) (q3I i (q1S nt ix gi gt ge)):=.of fun ρ=>mPS (w5P hN hiN hy hc S (w3i hnt) (hi ρ) hb.at hsw hs) fun D σ H h_6=>by
 obtain ⟨H0,Hs0,la,Hs,f,q⟩:=h_6
 refine w86 (Q:=fun x H1=>D.nx (σ.set i (some x)) H1) hnt (sN f q fun d a o H1 Hs1 e1 f1 n1 r1=>?_)
 unfold q3I at q
 rw [e1,bind_ok] at q
 exact q _ _ Hs1 (f1.setO i n1 r1)
end
end J
end
section
namespace J
open PySem L2
theorem x6h {X:Cx}{st:Stmt}{t:TS} (h:PS X.nox st t):PS X st t:=fun pins s σ H D I hw =>
 wpAny_mono (h pins s σ H D (I.wish _) hw) (fun _ _ q=>q.unwish) fun _ _ z=>False.elim z
def C.nox (c:C):C:=⟨c.X.nox,c.cls,E0⟩
def w2T (k:D->Rho->R Rho) (b:Rho->R Fl):List D->Rho->R Fl
 | [],ρ=>.ok (.nx ρ)
 | d::r,ρ=>match k d ρ with
  | .ok ρ1=>match b ρ1 with
   | .ok (.nx ρ')=>w2T k b r ρ'
   | .ok (.ct ρ')=>w2T k b r ρ'
   | .ok (.bk ρ')=>.ok (.nx ρ')
   | .ok (.rt d)=>.ok (.rt d)
   | _=>.no
  | _=>.no
section
variable {K:PySem.W.Frag}{cls:Str->Addr}{E:XK}
inductive fgI (K:PySem.W.Frag) (cls:Str->Addr) (E:XK) (H0 Hs0:Hp) (la:Nat->Option Addr) (D':w2X) (kt:D->Rho->R Rho) (gb:Rho->R Fl) (ds:List D) (i m:Nat) (σ:St) (H:Hp):Prop
 | mk (done q0V ρ Hs:_) (h0:ds=done++q0V) (h1:done.length=i) (h2:q0V.length=m) (h3:Fr K H0 Hs0 la ρ σ H Hs) (h4:w19 K cls E H0 Hs0 la D' (w2T kt gb q0V ρ)):fgI K cls E H0 Hs0 la D' kt gb ds i m σ H
theorem x4j {J:It}{Hn H0 Hs0:Hp}{la:Nat->Option Addr}{ds:List D}{kt:D->Rho->R Rho}{gb:Rho->R Fl}{ρ:Rho}{σ:St}{H Hs:Hp}{D':w2X}{tg:TG}{tb:TS}
  (it:ItD K J ds Hn Hs0) (hn:q29 Hn H0) (f:Fr K H0 Hs0 la ρ σ H Hs)
  (htg:∀ ρ d v σ H Q,TGr K ρ d (kt d ρ) v σ H Q->tg v σ H Q) (htb:∀ ρ D σ H,SR K cls E0 ρ (gb ρ) D σ H->tb D σ H)
  (q:w19 K cls E H0 Hs0 la D' (w2T kt gb ds ρ)) :
  TFI tg tb D' σ J H:=by
 refine ⟨fgI K cls E H0 Hs0 la D' kt gb ds,⟨ds.length,[],ds,ρ,Hs,rfl,rfl,rfl,f,q⟩,?_⟩
 rintro i m σ H ⟨done,q0V,ρ,Hs,hds,hdl,hrl,f,q⟩
 obtain ⟨igo,istop,iyld⟩:=it H Hs (hn.trans f.st.all) f.st.sh f.st.sub
 cases q0V with
 | nil =>
  rw [List.append_nil] at hds
  subst hds
  exact .inl ⟨istop i (by omega),q σ H Hs f⟩
 | cons d q0V =>
  have hil:i<ds.length:=by rw [hds,List.length_append,List.length_cons];omega
  refine .inr ⟨igo i hil,fun σ' H'=>∃ ρ' Hs',Fr K H0 Hs0 la ρ' σ' H' Hs'/\w19 K cls E H0 Hs0 la D' (w2T kt gb q0V ρ'),fun σ' H' ⟨ρ',Hs',f',q'⟩=>⟨q0V.length,by rw [<- hrl];simp,done++[d],q0V,ρ',Hs',by rw [hds];simp,by simp [hdl],rfl,f',q'⟩,fun x H2 hyl=>?_⟩
  obtain ⟨d',Hs2,hd,s2,r2⟩:=iyld i x H2 hil hyl
  have hdd:d'=d:=by
   rw [hds,List.getElem?_append_right (by omega)] at hd
   simp [hdl] at hd
   exact hd.symm
  subst hdd
  unfold w2T at q
  refine htg ρ d' x σ H2 _ ⟨H0,Hs0,la,Hs2,f.step s2,r2,?_⟩
  cases hk:kt d' ρ with
  | ex c n=>rw [hk] at q;exact q
  | no=>rw [hk] at q;exact q
  | ok ρ1 =>
   rw [hk] at q
   intro σ2 f2
   refine htb ρ1 _ σ2 H2 ⟨H0,Hs0,la,Hs2,f2,?_⟩
   cases hg:gb ρ1 with
   | no=>simp only [hg] at q;exact q.elim
   | ex c n=>simp only [hg] at q;exact q.elim
   | ok fl =>
    simp only [hg] at q
    cases fl with
    | nx ρ'=>exact fun σ' H' Hs' f'=>⟨ρ',Hs',f',q⟩
    | ct ρ'=>exact fun σ' H' Hs' f'=>⟨ρ',Hs',f',q⟩
    | bk ρ'=>exact fun σ' H' Hs' f'=>q σ' H' Hs' f'
    | rt d=>exact q
def both (A B:Hp):Hp:=fun b=>match A b with
 | some o=>some o
 | none=>B b
theorem q8e {A B:Hp}:q29 A (both A B):=fun b o e=>by unfold both;rw [e]
theorem q5L {A B:Hp}{b:Addr} (h:A b=none):both A B b=B b:=by unfold both;rw [h]
theorem w9G {A B H:Hp} (h1:q29 A H) (h2:q29 B H):q29 (both A B) H:=fun b o e=>by
 cases h:A b with
 | some u=>unfold both at e;rw [h] at e;cases e;exact h1 b o h
 | none=>rw [q5L h] at e;exact h2 b o e
theorem x4k {A B H:Hp} (h1:q29 A H) (h2:q29 B H):q29 B (both A B):=fun b o e=>by
 cases h:A b with
 | some u =>
  unfold both
  rw [h]
  have:=h1 b u h
  rw [h2 b o e] at this
  exact this.symm
 | none=>rw [q5L h];exact e
theorem Fr.into {H0 Hs0 H Hs:Hp}{la:Nat->Option Addr}{ρ:Rho}{σ:St} (f:Fr K H0 Hs0 la ρ σ H Hs):Fr K (both H0 Hs) Hs la ρ σ H Hs:=by
 have sub:=w9G f.st.all f.st.sub
 refine ⟨⟨sub,.refl _,f.st.sub,fun a o e z=>z⟩,f.len,f.sh,fun i d h=>?_,fun i d h=>?_,f.dj,fun i a e=>let ⟨o,k⟩:=f.lh i a e;⟨o,q8e _ _ k⟩,fun i d h=>?_,f.u2⟩
 ·obtain ⟨a,o,h1,h2,h3,h4,h5⟩:=f.ow i d h
  exact ⟨a,o,h1,h2,h3,by rw [q5L h4];exact h3,h5⟩
 ·obtain ⟨a,o,h1,h2,h3,h4,h5,h6⟩:=f.lk i d h
  exact ⟨a,o,h1,h2,h3,h4,q8e _ _ h5,h6⟩
 ·obtain ⟨a,as,O⟩:=f.o2 i d h
  exact ⟨a,as,O.at_,O.ob,O.nd,fun b hb=>⟨(O.out b hb).1,by rw [q5L (O.out b hb).2];exact (O.out b hb).1⟩,O.dj,O.inn⟩
theorem q1I.outof {H0 Hs0 H1 Hs1 H' Hs':Hp} (s:q1I H0 Hs0 H1 Hs1) (t:q1I (both H0 Hs1) Hs1 H' Hs'):q1I H0 Hs0 H' Hs' :=
 ⟨q8e.trans t.all,s.sh.trans t.sh,t.sub,fun a o e z=>t.out a o (q8e _ _ e) (s.out a o e z)⟩
theorem Fr.outof {H0 Hs0 H1 Hs1 H' Hs':Hp}{la:Nat->Option Addr}{ρ1 ρ:Rho}{σ1 σ:St} (f1:Fr K H0 Hs0 la ρ1 σ1 H1 Hs1) (f:Fr K (both H0 Hs1) Hs1 la ρ σ H' Hs'):Fr K H0 Hs0 la ρ σ H' Hs':=by
 refine ⟨f1.st.outof f.st,f.len,f.sh,fun i d h=>?_,fun i d h=>?_,f.dj,f1.lh,fun i d h=>?_,f.u2⟩
 ·obtain ⟨a,o,h1,h2,h3,h4,h5⟩:=f.ow i d h
  exact ⟨a,o,h1,h2,h3,q8e.free h4,h5⟩
 ·obtain ⟨a,o,h1,h2,h3,h4,h5,h6⟩:=f.lk i d h
  obtain ⟨o',e⟩:=f1.lh i a h2
  have e':=q8e (B:=Hs1) _ _ e
  rw [h5] at e'
  cases e'
  exact ⟨a,o,h1,h2,h3,h4,e,h6⟩
 ·obtain ⟨a,as,O⟩:=f.o2 i d h
  exact ⟨a,as,O.at_,O.ob,O.nd,fun b hb=>⟨(O.out b hb).1,q8e.free (O.out b hb).2⟩,O.dj,O.inn⟩
end
end J
end
section
namespace J
open PySem L2
section
variable {K:PySem.W.Frag}{cls:Str->Addr}{E:XK}
theorem w19.into {H0 Hs0 H1 Hs1:Hp}{la:Nat->Option Addr}{ρ1:Rho}{σ1:St}{D':w2X}{r:R Fl} (f1:Fr K H0 Hs0 la ρ1 σ1 H1 Hs1) (q:w19 K cls E H0 Hs0 la D' r):w19 K cls E (both H0 Hs1) Hs1 la D' r:=by
 cases r with
 | no=>exact q
 | ex c n=>exact fun H' Hs' s=>q H' Hs' (f1.st.outof s)
 | ok fl =>
  cases fl with
  | nx ρ=>exact fun σ' H' Hs' f=>q σ' H' Hs' (f1.outof f)
  | bk ρ=>exact fun σ' H' Hs' f=>q σ' H' Hs' (f1.outof f)
  | ct ρ=>exact fun σ' H' Hs' f=>q σ' H' Hs' (f1.outof f)
  | rt d=>exact fun v H' Hs' s r=>q v H' Hs' (f1.st.outof s) r
end
section
variable {c:C}{e a b iter tg:Expr}{g ga gb:Rho->R D}{pos p:Pos}{gi:Rho->R (List D)}{body:List Stmt}{x:Str}{kt:D->Rho->R Rho}{gbd:Rho->R Fl}
def w6V (gi:Rho->R (List D)) (kt:D->Rho->R Rho) (gb:Rho->R Fl):Rho->R Fl:=fun ρ=>match gi ρ with
 | .ok ds=>w2T kt gb ds ρ
 | _=>.no
theorem q8f (hc:c.X.calm=true) (hi:JIs c.nox tg iter gi) (hg:JG c.nox tg kt) (hb:JSs c.nox body gbd) (hs:∀ x,foldedSetIterable iter c.X.env x=pure x:=by intro _;rfl):JS c (.For tg iter body [] pos) (w6V gi kt gbd):=.of fun ρ=>by
 refine x6h (mPS (x3A PassesOwn.never hc (hi ρ) (g:=fun v σ H Q=>∃ ρ d,TGr c.X.K ρ d (kt d ρ) v σ H Q) (tb:=fun D σ H=>∃ ρ,SR c.X.K c.cls E0 ρ (gbd ρ) D σ H) ?_ ?_ hs) fun D σ H ⟨H0,Hs0,la,Hs,f,q⟩=>?_)
 ·exact fun pins s σ H v u Q I r h_0=>by obtain ⟨ρ,d,q⟩:=h_0;exact hg ρ d pins s σ H v u Q I r q
 ·exact fun pins s σ H D I h_1=>by obtain ⟨ρ,q⟩:=h_1;exact hb ρ pins s σ H D I q
 ·refine ⟨H0,Hs0,la,Hs,f,?_⟩
  unfold w6V at q
  cases hr:gi ρ with
  | no=>rw [hr] at q;exact q
  | ex x n=>rw [hr] at q;exact q.elim
  | ok ds =>
   rw [hr] at q
   intro J H1 Hs1 s1 it
   have f1:=f.step s1
   exact x4j (E:=c.E) (cls:=c.cls) (kt:=kt) (gb:=gbd) (tg:=fun v σ H Q=>∃ ρ d,TGr c.X.K ρ d (kt d ρ) v σ H Q) (tb:=fun D σ H=>∃ ρ,SR c.X.K c.cls E0 ρ (gbd ρ) D σ H) it (x4k f1.st.all f1.st.sub) f1.into (fun ρ d v σ H Q h=>⟨ρ,d,h⟩) (fun ρ D σ H h=>⟨ρ,h⟩) (w19.into f1 q)
end
end J
end
section
namespace J
open PySem L2
section
variable {c:C}{e k:Expr}{g gk:Rho->R D}{pos p apos cpos:Pos}{x:Str}
def w92 (i:Nat) (g:Rho->R D):Rho->R Fl:=fun ρ=>match ρ[i]? with
 | some (Sl.own (.list ds))=>(g ρ).bind fun d=>if ds.length<1000 then .ok (.nx (ρ.set i (.own (.list (ds++[d]))))) else .no
 | _=>.no
theorem q8g (i:Nat) (h:JE c e g) (hN:c.X.N[i]?=some x:=by rfl) (hv:Vis c.X.env.scope x:=by first | exact Or.inl rfl | exact Or.inr (Or.inl rfl) | exact Or.inr (Or.inr rfl)) (hd:(x == ("__debug__" : Str))=false:=by decide)
  (hcd:(x == ("__classdict__" : Str))=false:=by decide)
  (hbase:attributeBase (.Name x p) "append" c.X.env (eval (.Name x p) c.X.env)=eval (.Name x p) c.X.env:=by rfl)
  (hfew:((backTo cpos (starEach [e] c.X.env)).all (fun x=>!x.1) && (backToKw cpos (keywordEach [] c.X.env)).all (fun x=>x.1.isSome)
   && decide ([e].length + ([] : List Keyword).length + (if ([] : List Keyword).isEmpty then 0 else 1)<30))=true:=by rfl)
  (hline:(apos.endLine == cpos.line)=true:=by rfl) (hst:starEach [e] c.X.env=(false,eval e c.X.env)::starEach [] c.X.env:=by rfl) (hplain:(backTo cpos (starEach [] c.X.env)).any (·.1)=false:=by rfl)
  (hs:swapsWith (.Call (.Attribute (.Name x p) "append" apos) [e] [] cpos) none pos.line c.X.env=pure false:=by rfl) :
  JS c (.Expr (.Call (.Attribute (.Name x p) "append" apos) [e] [] cpos) pos) (w92 i g):=.of fun ρ=>by
 refine mPS (q6c (w31 PySem.F.plainAttrs_list PySem.F.slot_list_append PySem.F.type_list_append w1o (q5C hN hv hd hcd) (q0t (h ρ) q1o hst) hbase hfew hline hst hplain) hs) fun D σ H h_0=>?_
 obtain ⟨H0,Hs0,la,Hs,f,q⟩:=h_0
 replace q:w19 c.X.K c.cls c.E H0 Hs0 la D (w92 i g ρ):=q
 unfold w92 at q
 split at q
 ·rename_i ds ho
  obtain ⟨a,o,k1,k2,k3,k4,k5⟩:=f.ow i _ ho
  cases k5 with
  | @lst vs _ r =>
   refine ⟨_,k1,.inl ⟨rfl,_,.of k2⟩,?_⟩
   refine sE f q fun d v H1 Hs1 e1 s1 f1 r1=>?_
   rw [e1,bind_ok] at q
   by_cases hl:ds.length<1000
   ·rw [if_pos hl] at q
    have r':=r.same s1.sh
    exact ⟨a,vs,v,rfl,rfl,s1.all _ _ k2,q0u (by rw [r.length];omega),q _ _ Hs1 (f1.write i ho k1 (.lst (r'.append (.cons r1 .nil))))⟩
   ·rw [if_neg hl] at q;exact q.elim
 ·exact q.elim
def w3j:D->Option Key
 | .int i=>some (.inl i)
 | .str x=>some (.inr x)
 | _=>none
theorem w5c {d:D}{y:Key} (h:w3j d=some y):d=kD y:=by
 cases d<;>cases h<;>rfl
def x3k (kvs:List (D×D)) (k d:D):List (D×D):=if kvs.any (fun kv=>PyData.eqv kv.1 k) then kvs.map (fun kv=>if PyData.eqv kv.1 k then (kv.1,d) else kv) else kvs++[(k,d)]
theorem w87 (a b:Key):PyData.eqv (kD a) (kD b)=decide (a=b):=by
 cases a<;>cases b<;>simp [kD,PyData.eqv,Bool.beq_eq_decide_eq]
theorem RDk.any {K:PySem.W.Frag}{H:Hp}{kvs:List (Key×V)} (y:Key):∀ {ds:List (D×D)},RDk K H kvs ds->(ds.any fun kv=>PyData.eqv kv.1 (kD y))=kvs.any fun kv=>decide (kv.1=y):=by
 induction kvs with
 | nil=>intro ds h;cases h;rfl
 | cons x r ih=>intro ds h;cases h with | cons h t=>rw [List.any_cons,List.any_cons,ih t,w87]
theorem RDk.repl {K:PySem.W.Frag}{H:Hp} (y:Key) {v:V}{d:D} (rv:RD K H v d):∀ {kvs:List (Key×V)}{ds:List (D×D)},RDk K H kvs ds ->
  RDk K H (kvs.map fun kv=>if kv.1=y then (kv.1,v) else kv) (ds.map fun kv=>if PyData.eqv kv.1 (kD y) then (kv.1,d) else kv)
 | _,_,.nil=>.nil
 | _,_,.cons (k:=k) h t=>by
  rw [List.map_cons,List.map_cons]
  have e:=w87 k y
  by_cases hk:k=y
  ·subst hk
   rw [show (if k=k then (k,v) else (k,_))=(k,v) from if_pos rfl,show (if PyData.eqv (kD k) (kD k)=true then (kD k,d) else (kD k,_))=(kD k,d) from if_pos (by rw [e];simp)]
   exact .cons rv (RDk.repl k rv t)
  ·simp only [e,hk,if_neg,decide_false,Bool.false_eq_true,not_false_eq_true]
   exact .cons h (RDk.repl y rv t)
theorem RDk.snoc {K:PySem.W.Frag}{H:Hp} (y:Key) {v:V}{d:D} (rv:RD K H v d):∀ {kvs:List (Key×V)}{ds:List (D×D)},RDk K H kvs ds->RDk K H (kvs++[(y,v)]) (ds++[(kD y,d)])
 | _,_,.nil=>.cons rv .nil
 | _,_,.cons h t=>.cons h (RDk.snoc y rv t)
theorem RDk.put {K:PySem.W.Frag}{H:Hp}{kvs:List (Key×V)}{ds:List (D×D)} (r:RDk K H kvs ds) (y:Key) {v:V}{d:D} (rv:RD K H v d):RDk K H (w5N kvs y v) (x3k ds (kD y) d):=by
 unfold w5N x3k
 rw [r.any y]
 split
 ·exact r.repl y rv
 ·exact r.snoc y rv
def q1P (kvs:List (D×D)):Bool:=kvs.all fun kv=>(w3j kv.1).isSome
def w9H (i:Nat) (gk g:Rho->R D):Rho->R Fl:=fun ρ=>match ρ[i]? with
 | some (Sl.own (.dict kvs))=>(g ρ).bind fun d=>(gk ρ).bind fun k=>match w3j k with
  | some _=>if kvs.length<1000/\q1P kvs=true then .ok (.nx (ρ.set i (.own (.dict (x3k kvs k d))))) else .no
  | none=>.no
 | _=>.no
theorem x0J {K:PySem.W.Frag}{H:Hp}{v:V}{y:Key} (h:RD K H v (kD y)):v=kV y:=by
 cases y<;>cases h<;>rfl
theorem RDt.flat {K:PySem.W.Frag}{H:Hp}{kvs:List (List Key×V)}{ds:List (D×D)} (h:RDt K H kvs ds) (f:q1P ds=true):kvs=[]/\ds=[]:=by
 cases h with
 | nil=>exact ⟨rfl,rfl⟩
 | cons h t=>simp [q1P,tD,w3j] at f
theorem w88 (i:Nat) (h:JE c e g) (hk:JE c k gk) (hu:c.X.A.units + 1<cLine) (hN:c.X.N[i]?=some x:=by rfl) (hv:Vis c.X.env.scope x:=by first | exact Or.inl rfl | exact Or.inr (Or.inl rfl) | exact Or.inr (Or.inr rfl)) (hd:(x == ("__debug__" : Str))=false:=by decide)
  (hcd:(x == ("__classdict__" : Str))=false:=by decide) (hs:swapsWith e (some (.Subscript (.Name x p) k apos)) pos.line c.X.env=pure false:=by rfl):JS c (.Assign [.Subscript (.Name x p) k apos] e pos) (w9H i gk g):=.of fun ρ=>by
 refine mPS (x23 hu (q5C hN hv hd hcd) (hk ρ) (h ρ) hs) fun D σ H h_1=>?_
 obtain ⟨H0,Hs0,la,Hs,f,q⟩:=h_1
 replace q:w19 c.X.K c.cls c.E H0 Hs0 la D (w9H i gk g ρ):=q
 unfold w9H at q
 split at q
 ·rename_i kvs ho
  obtain ⟨a,o,k1,k2,k3,k4,k5⟩:=f.ow i _ ho
  have main:∀ {H:Hp}{vs:List (Key×V)},Fr c.X.K H0 Hs0 la ρ σ H Hs->H a=some (.dK vs)->RDk c.X.K Hs vs kvs->x3Y (x3d i) (TR c.X.K c.cls c.E ρ (gk ρ)) (TR c.X.K c.cls c.E ρ (g ρ)) D σ H:=fun {H vs} f k2 r=>by
   refine sE f q fun d v H1 Hs1 e1 s1 f1 r1=>?_
   rw [e1,bind_ok] at q
   refine ⟨_,k1,sE f1 q fun y w H2 Hs2 e2 s2 f2 r2=>?_⟩
   rw [e2,bind_ok] at q
   split at q
   ·rename_i ky hy
    obtain rfl:=w5c hy
    by_cases hl:kvs.length<1000/\q1P kvs=true
    ·rw [if_pos hl] at q
     have ha:=s2.all _ _ (s1.all _ _ k2)
     have r':=(r.same s1.sh).same s2.sh
     rw [x0J r2]
     exact ⟨a,_,rfl,x3W.k ha (q0u (by rw [r.length];omega)),q _ _ Hs2 (f2.write i ho k1 (.dK (r'.put ky (r1.same s2.sh))))⟩
    ·rw [if_neg hl] at q;exact q.elim
   ·exact q.elim
  cases k5 with
  | dK r=>exact main f k2 r
  | dT n r =>
   refine sE f q fun d v H1 Hs1 e1 s1 f1 r1=>?_
   rw [e1,bind_ok] at q
   refine ⟨_,k1,sE f1 q fun y w H2 Hs2 e2 s2 f2 r2=>?_⟩
   rw [e2,bind_ok] at q
   split at q
   ·rw [if_neg (fun z=>n (r.flat z.2).1)] at q;exact q.elim
   ·exact q.elim
 ·exact q.elim
def w3k (kvs:List (D×D)) (k:D):Option D:=(kvs.find? fun kv=>PyData.eqv kv.1 k).map (·.2)
theorem RDk.val {K:PySem.W.Frag}{H:Hp}:∀ {kvs:List (Key×V)}{ds:List (D×D)},RDk K H kvs ds->∀ (y:Key),(w4X kvs y=none/\w3k ds (kD y)=none)\/∃ v d,w4X kvs y=some v/\w3k ds (kD y)=some d/\RD K H v d
 | _,_,.nil,y=>.inl ⟨rfl,rfl⟩
 | _,_,.cons (k:=k) h t,y=>by
  unfold w4X w3k
  rw [List.find?_cons,List.find?_cons,w87]
  by_cases hk:k=y
  ·simp only [hk,decide_true,Option.map_some]
   exact .inr ⟨_,_,rfl,rfl,h⟩
  ·simp only [hk,decide_false]
   exact RDk.val t y
def q0m:D->D->R D
 | .dict kvs,k=>match w3j k with
  | some _=>if q1P kvs=true then (match w3k kvs k with
   | some d=>.ok d
   | none=>.no) else .no
  | none=>.no
 | x,k=>ixD x k
variable {a b:Expr}{ga gb:Rho->R D}
theorem q0p (hu:c.X.A.units + 1<cLine) (ha:JB c a ga) (hb:JB c b gb) (hs:w0c b:=by exact fun _ _=>rfl):JE c (.Subscript a b pos) (g2 ga gb q0m):=.of fun ρ=>by
 by_cases hx:∃ kvs,ga ρ=.ok (.dict kvs)
 ·obtain ⟨kvs,hx⟩:=hx
  refine mPE (x22 hu (ha ρ) (hb ρ) hs) fun σ H Q h_2=>?_
  obtain ⟨H0,Hs0,la,Hs,f,q⟩:=h_2
  refine one f q fun d v H1 Hs1 e1 s1 f1 r1=>?_
  rw [hx] at e1
  cases e1
  unfold g2 at q
  rw [hx,bind_ok] at q
  refine one f1 (q.on s1 (q':=fun _=>True) fun _ _=>trivial) fun y w H2 Hs2 e2 s2 f2 r2=>?_
  rw [e2,bind_ok] at q
  unfold q0m at q
  simp only at q
  split at q
  ·rename_i ky hy
   obtain rfl:=w5c hy
   by_cases hf:q1P kvs=true
   ·rw [if_pos hf] at q
    obtain ⟨p,rfl,h⟩:=(r1.step s2).dict f2.st.sub
    have rk:w=kV ky:=by
     rcases r2 with r2 | ⟨_,o,rfl,_,_,ow⟩
     ·exact x0J r2
     ·cases ky<;>cases ow
    subst rk
    rcases h with ⟨vs,h1,h2⟩ | ⟨vs,h1,hn,h2⟩
    ·rcases h2.val ky with ⟨_,h3⟩ | ⟨u,d,h3,h4,h5⟩
     ·rw [h3] at q;exact q.elim
     ·rw [h4] at q
      exact ⟨p,u,rfl,by rw [<- h3];exact x3e.k h1,q _ H2 Hs2 (s1.trans s2) h5⟩
    ·exact (hn (h2.flat hf).1).elim
   ·rw [if_neg hf] at q;exact q.elim
  ·exact q.elim
 ·refine mPE (x6g ha hb hs ρ) fun σ H Q q=>?_
  have e:g2 ga gb q0m ρ=g2 ga gb ixD ρ:=by
   unfold g2
   cases hr:ga ρ with
   | ok d =>
    cases d with
    | dict kvs=>exact (hx ⟨kvs,hr⟩).elim
    | _=>rfl
   | _=>rfl
  rw [e] at q
  exact q
def q2p:D->R D
 | .dict kvs=>if q1P kvs=true then .ok (.list (kvs.map (·.1))) else .no
 | x=>w61 x
theorem w5d {K:PySem.W.Frag}{H:Hp}:∀ {kvs:List (Key×V)}{ds:List (D×D)},RDk K H kvs ds->RDs K H (kvs.map fun p=>kV p.1) (ds.map (·.1))
 | _,_,.nil=>.nil
 | _,_,.cons (k:=k) h t=>.cons (by cases k<;>constructor) (w5d t)
theorem q5M {X:Cx} (hc:X.calm=true):CaD X (.type "list") (on1 q2p):=by
 refine q9M (fun d c n=>?_) fun pins s σ H x u Q Hs d d' I ru sub rx hd q=>?_
 ·unfold q2p w61
  split<;>(try split)<;>(try split)<;>exact fun h=>by cases h
 ·by_cases hx:∃ kvs,d=.dict kvs
  ·obtain ⟨kvs,rfl⟩:=hx
   unfold q2p at hd
   simp only at hd
   split at hd
   ·rename_i hf
    cases hd
    obtain ⟨a,rfl,⟨vs,h1,h2⟩ | ⟨vs,h1,n,h2⟩⟩:=rx.dict sub
    ·exact q97 hc pins s σ H _ _ Q I (.cons ru .nil) ⟨a,vs,rfl,h1,fun l hl=>q _ _ _ (.new sub hl) (.list (.of q0d) ((w5d h2).same (q1I.new sub hl).sh))⟩
    ·exact (n (h2.flat hf).1).elim
   ·cases hd
  ·have e:q2p d=w61 d:=by
    cases d with
    | dict kvs=>exact (hx ⟨kvs,rfl⟩).elim
    | _=>rfl
   rw [e] at hd
   exact (x2s (X:=X)).1 pins s σ H [x] [u] Q I (.cons ru .nil) ⟨Hs,[d],sub,.cons rx .nil,d',hd,q⟩
end
end J
end
section
namespace J
open PySem L2
open PyProof.Rows (envOfC)
section
variable {c:C}{e a b d:Expr}{g ga gb gc:Rho->R D}{pos p cpos:Pos}{x:Str}
theorem x0K {K:PySem.W.Frag}{cls:Str->Addr}{E:XK}{h h':D->D->R D}{ρ:Rho}{σ:St}{H:Hp}{Q:VK} (hx:∀ x y c n,h x y≠.ex c n) (hx':∀ x y c n,h' x y≠.ex c n) (q:TR K cls E ρ (q7b ga gb gc h h' ρ) σ H Q) :
  w7b (rD K h) (rD K h') (TB K cls E ρ (ga ρ)) (TB K cls E ρ (gb ρ)) (TB K cls E ρ (gc ρ)) σ H Q:=by
 obtain ⟨H0,Hs0,la,Hs,f,q⟩:=q
 refine one f q fun x v H1 Hs1 e1 s1 f1 r1=>?_
 unfold q7b at q
 rw [e1,bind_ok] at q
 refine one f1 (q.on s1 (q':=fun _=>True) fun _ _=>trivial) fun y u H2 Hs2 e2 s2 f2 r2=>?_
 rw [e2,bind_ok] at q
 cases hr:h x y with
 | ex c n=>exact (hx x y c n hr).elim
 | no=>rw [hr] at q;exact q.elim
 | ok z =>
  rw [hr,bind_ok] at q
  refine ⟨Hs2,x,y,f2.st.sub,r1.step s2,r2,z,hr,fun w H3 Hs3 s3 r3=>?_⟩
  cases r3 with
  | bool k =>
   refine ⟨k,rfl,?_⟩
   have f3:=f2.step s3
   cases k with
   | false=>exact w90 (q _ H3 Hs3 (s1.trans (s2.trans s3)) (.bool _))
   | true =>
    refine x0t (one f3 (q.on (s1.trans (s2.trans s3)) (q':=fun _=>True) fun _ _=>trivial) fun t u' H4 Hs4 e4 s4 f4 r4=>?_)
    simp only [e4,bind_ok] at q
    cases hr':h' y t with
    | ex c n=>exact (hx' y t c n hr').elim
    | no=>rw [hr'] at q;exact q.elim
    | ok z' =>
     rw [hr'] at q
     exact ⟨Hs4,y,t,f4.st.sub,(r2.step s3).step s4,r4,z',hr',fun w H5 Hs5 s5 r5=>q w H5 Hs5 (s1.trans (s2.trans (s3.trans (s4.trans s5)))) r5⟩
  | none=>exact q.elim
  | int _=>exact q.elim
  | str _=>exact q.elim
  | list _ _=>exact q.elim
  | tuple _ _=>exact q.elim
  | dictK _ _=>exact q.elim
  | dictT _ _ _=>exact q.elim
theorem w5e {op op':CmpOp}{h h':D->D->R D} (ho:OpD c.X (compareOp op) h) (ho':OpD c.X (compareOp op') h') (ha:JB c a ga) (hb:JB c b gb) (hc:JB c d gc) (hm:lastMarks [op,op'] [b,d]=false:=by with_unfolding_all rfl):JE c (.Compare a [op,op'] [b,d] pos) (q7b ga gb gc h h') :=
 .of fun ρ=>mPE (w99 ho.1 ho'.1 (ha ρ) (hb ρ) (hc ρ) hm) fun σ H Q q=>x0K ho.2 ho'.2 q
theorem w9I {op op':CmpOp}{h h':D->D->R D} (ho:OpD c.X (compareOp op) h) (ho':OpD c.X (compareOp op') h') (ha:JB c a ga) (hb:JB c b gb) (hc:JB c d gc) (hm:lastMarks [op,op'] [b,d]=false:=by with_unfolding_all rfl):JT c (.Compare a [op,op'] [b,d] pos) (asB (q7b ga gb gc h h')) :=
 .of fun ρ=>mPT (w9a ho.1 ho'.1 (ha ρ) (hb ρ) (hc ρ) hm) fun σ H Q q=>x0K ho.2 ho'.2 (asT q)
inductive x6T (K:PySem.W.Frag) (w:World) (cls:Str->Addr) (E:XK) (ρ:Rho) (r:R (List Str)) (σ:St) (H:Hp) (Q:VK):Prop
 | mk (H0 Hs0:Hp) (la:Nat->Option Addr) (Hs:Hp) (f:Fr K H0 Hs0 la ρ σ H Hs) (q:Fin K cls E H Hs r fun ss=>∀ p H' Hs',q1I H Hs H' Hs'->H' p=none->Q (.ref p) (upd H' p (SetO w p ss))):x6T K w cls E ρ r σ H Q
def TSt (K:PySem.W.Frag) (w:World) (cls:Str->Addr) (E:XK) (ρ:Rho) (r:R (List Str)):TE:=x6T K w cls E ρ r
structure JSt (c:C) (e:Expr) (g:Rho->R (List Str)):Prop where of ::
 run:∀ ρ,PE c.X e (TSt c.X.K c.X.w c.cls c.E ρ (g ρ))
instance {c:C}{e:Expr}{g:Rho->R (List Str)}:CoeFun (JSt c e g) (fun _=>∀ ρ,PE c.X e (TSt c.X.K c.X.w c.cls c.E ρ (g ρ))):=⟨JSt.run⟩
theorem x4l {K:PySem.W.Frag}{w:World}{cls:Str->Addr}{E:XK}{ρ:Rho}{r:R (List Str)}{β:Type}{k:List Str->R β}{σ:St}{H:Hp}{H0 Hs0 Hs:Hp}{la:Nat->Option Addr}{Q:V->Hp->Prop}{q:β->Prop} (f:Fr K H0 Hs0 la ρ σ H Hs)
  (h:Fin K cls E H Hs (r.bind k) q) (m:∀ ss p H' Hs',r=.ok ss->q1I H Hs H' Hs'->Fr K H0 Hs0 la ρ σ H' Hs'->H' p=none->Q (.ref p) (upd H' p (SetO w p ss))):TSt K w cls E ρ r σ H Q:=by
 refine ⟨H0,Hs0,la,Hs,f,?_⟩
 cases r with
 | ok d=>exact fun p H' Hs' s n=>m d p H' Hs' rfl s (f.step s) n
 | ex c n=>exact h
 | no=>exact h
variable {gset:Rho->R (List Str)}
def w1J:D->R (List Str)
 | .list ds=>match q1Z ds with
  | some ss=>if ss.length<60 then .ok (q1G [] ss) else .no
  | none=>.no
 | .tuple ds=>match q1Z ds with
  | some ss=>if ss.length<60 then .ok (q1G [] ss) else .no
  | none=>.no
 | _=>.no
def q9Q (g:Rho->R D):Rho->R (List Str):=fun ρ=>(g ρ).bind w1J
theorem x4m (hc:c.X.calm=true) (h:JB c e g) (hg2:Gl c.X "set") (hm2:c.X.mg "set"=none) (he:starEach [e] c.X.env=(false,eval e c.X.env)::starEach [] c.X.env:=by rfl) :
  JSt c (.Call (.Name "set" p) [e] [] cpos) (q9Q g):=.of fun ρ=>by
 refine mPE (w1j (w3a hc) hg2 hm2 PyProof.Rows.boot_set (q0t (h ρ) q1o he) (he:=he)) fun σ H Q h_1=>?_
 obtain ⟨H0,Hs0,la,Hs,f,q⟩:=h_1
 refine one f q fun d v H1 Hs1 e1 s1 f1 r1=>?_
 unfold q9Q at q
 rw [e1,bind_ok] at q
 unfold w1J at q
 split at q
 ·split at q
  ·rename_i ss hs
   by_cases hz:ss.length<60
   ·rw [if_pos hz] at q
    obtain ⟨a,vs,rfl,qa,ra⟩:=r1.list f1.st.sub
    rw [q51 hs] at ra
    rw [q49 ra] at qa
    exact ⟨a,ss,rfl,.inl qa,Nat.lt_of_lt_of_le (Nat.add_lt_add_right hz 1) (by decide),fun p hp=>q p H1 Hs1 s1 hp⟩
   ·rw [if_neg hz] at q;exact q.elim
  ·exact q.elim
 ·split at q
  ·rename_i ss hs
   by_cases hz:ss.length<60
   ·rw [if_pos hz] at q
    obtain ⟨a,vs,rfl,qa,ra,_⟩:=r1.tuple f1.st.sub
    rw [q51 hs] at ra
    rw [q49 ra] at qa
    exact ⟨a,ss,rfl,.inr qa,Nat.lt_of_lt_of_le (Nat.add_lt_add_right hz 1) (by decide),fun p hp=>q p H1 Hs1 s1 hp⟩
   ·rw [if_neg hz] at q;exact q.elim
  ·exact q.elim
 ·exact q.elim
def q4D (g:Rho->R (List Str)):Rho->R D:=fun ρ=>(g ρ).bind fun ss=>if ss.length<64 then .ok (.list ((q41 ss).map .str)) else .no
theorem w65 (hc:c.X.calm=true) (h:JSt c e gset) (hg:Gl c.X "sorted") (hm:c.X.mg "sorted"=none) (he:starEach [e] c.X.env=(false,eval e c.X.env)::starEach [] c.X.env:=by rfl) :
  JE c (.Call (.Name "sorted" p) [e] [] cpos) (q4D gset):=.of fun ρ=>by
 refine mPE (q4B (q84 hc) hg hm PyProof.Rows.boot_sorted (q0t (h ρ) q1o he) (he:=he)) fun σ H Q h_2=>?_
 obtain ⟨H0,Hs0,la,Hs,f,q⟩:=h_2
 dsimp only [L2.tCB,L2.w9b,L2.x5y]
 refine x4l (w:=c.X.w) f q fun ss p H1 Hs1 e1 s1 f1 n1=>?_
 unfold q4D at q
 rw [e1,bind_ok] at q
 by_cases hz:ss.length<64
 ·rw [if_pos hz] at q
  have st1:q1I H1 Hs1 (upd H1 p (SetO c.X.w p ss)) Hs1:=.mine f1.st.sub n1
  exact ⟨p,ss,rfl,q0d,hz,fun l hl=>q _ _ _ (s1.trans (st1.trans (.new st1.sub hl))) (.list (.of q0d) (w0q _))⟩
 ·rw [if_neg hz] at q;exact q.elim
def q8h (g:Rho->R (List Str)):Rho->R D:=fun ρ=>(g ρ).bind fun ss=>.ok (.int ss.length)
theorem w89 (h:JSt c e gset) (hg:Gl c.X "len") (hm:c.X.mg "len"=none) (he:starEach [e] c.X.env=(false,eval e c.X.env)::starEach [] c.X.env:=by rfl) :
  JE c (.Call (.Name "len" p) [e] [] cpos) (q8h gset):=.of fun ρ=>by
 refine mPE (q4B w0p hg hm PySem.boot_len (q0t (h ρ) q1o he) (he:=he)) fun σ H Q h_3=>?_
 obtain ⟨H0,Hs0,la,Hs,f,q⟩:=h_3
 dsimp only [L2.tCB,L2.w9b,L2.x5y]
 refine x4l (w:=c.X.w) f q fun ss p H1 Hs1 e1 s1 f1 n1=>?_
 unfold q8h at q
 rw [e1,bind_ok] at q
 have st1:q1I H1 Hs1 (upd H1 p (SetO c.X.w p ss)) Hs1:=.mine f1.st.sub n1
 exact ⟨p,ss,rfl,q0d,q _ _ _ (s1.trans st1) (.int _)⟩
variable {elt iter tg:Expr}{ifs:List Expr}{scope:Scope}{N':List Str}{nt:Nat}{ix:List Nat}{gi:Rho->R (List D)}{gt:Rho->R Bool}{ge:Rho->R D}
def q9R (nt:Nat) (ix:List Nat) (gi:Rho->R (List D)) (gt:Rho->R Bool) (ge:Rho->R D):Rho->R (List Str):=fun ρ=>(gi ρ).bind fun ds=>if ds.length<=60 then (q2J (q2S nt (q9P nt ix ρ) gt ge) ds).bind fun ys=>match q1Z ys with
 | some ss=>.ok (q1G [] ss)
 | none=>.no else .no
theorem w0u {ys:List D}{xs:List D}:∀ {ss:List Str},q1Z (xs++ys)=some ss->∃ s1 s2,q1Z xs=some s1/\q1Z ys=some s2/\ss=s1++s2:=by
 induction xs with
 | nil=>intro ss h;exact ⟨[],ss,rfl,h,rfl⟩
 | cons d r ih =>
  intro ss h
  cases d with
  | str b =>
   have h:(q1Z (r++ys)).map (b::·)=some ss:=h
   cases hr:q1Z (r++ys) with
   | none=>rw [hr] at h;cases h
   | some z =>
    rw [hr] at h
    cases h
    obtain ⟨s1,s2,h1,h2,rfl⟩:=ih hr
    exact ⟨b::s1,s2,by show (q1Z r).map (b::·)=_;rw [h1];rfl,h2,rfl⟩
  | _=>cases h
theorem q9S (z:Str):∀ (l acc:List Str),q1G acc (l++[z])=if z∈q1G acc l then q1G acc l else q1G acc l++[z]
 | [],acc=>rfl
 | x::l,acc=>by
  show q1G _ (l++[z])=_
  rw [q9S z l]
  rfl
inductive scI (f:D->R (Option D)) (ds:List D) (ss:List Str) (H1 Hs1:Hp) (i m:Nat) (acc:List Str) (H':Hp):Prop
 | mk (done q0V zs sa sz Hs':_) (h0:ds=done++q0V) (h1:done.length=i) (h2:q0V.length=m) (h3:q1I H1 Hs1 H' Hs') (h4:acc=q1G [] sa) (h5:sa.length<=i) (h6:q2J f q0V=.ok zs) (h7:q1Z zs=some sz) (h8:ss=sa++sz):scI f ds ss H1 Hs1 i m acc H'
theorem x2x {K:PySem.W.Frag}{w:World}{cls:Str->Addr}{E:XK}{ρ:Rho}{σ:St}{H:Hp}{Q:VK} (hnt:nt=1\/nt=2)
  (q:TSt K w cls E ρ (q9R nt ix gi gt ge ρ) σ H Q) :
  x0y w nt ix (TIr K cls E ρ (gi ρ)) (x3j K nt) (fun σ H Q=>∃ ρ',TTT K cls E0 ρ' (gt ρ') σ H Q) (fun σ H Q=>∃ ρ',TR K cls E0 ρ' (ge ρ') σ H Q) σ H Q:=by
 obtain ⟨H0,Hs0,la,Hs,f,q⟩:=q
 refine ⟨H0,Hs0,la,Hs,f,?_⟩
 unfold q9R at q
 cases hi:gi ρ with
 | no=>rw [hi] at q;exact q
 | ex x n=>rw [hi] at q;exact q
 | ok ds =>
  rw [hi,bind_ok] at q
  intro J H1 Hs1 Hn s1 sn it
  by_cases hl:ds.length<=60
  ·rw [if_pos hl] at q
   cases hm:q2J (q2S nt (q9P nt ix ρ) gt ge) ds with
   | no=>rw [hm] at q;exact q.elim
   | ex x n=>exact (w0t (w5b _ _ _ _) _ _ _ hm).elim
   | ok ys =>
    rw [hm,bind_ok] at q
    cases hs:q1Z ys with
    | none=>rw [hs] at q;exact q.elim
    | some ss =>
     rw [hs] at q
     obtain ⟨lb,fb⟩:=(f.step s1).block nt ix
     refine ⟨scI (q2S nt (q9P nt ix ρ) gt ge) ds ss H1 Hs1,
      ⟨ds.length,[],ds,ys,[],ss,Hs1,rfl,rfl,rfl,.refl s1.sub,rfl,Nat.zero_le _,hm,hs,rfl⟩,?_⟩
     rintro i m acc H' ⟨done,q0V,zs,sa,sz,Hs',hds,hdl,hrl,st,rfl,yl,hz,hzs,hy⟩
     obtain ⟨igo,istop,iyld⟩:=it H' Hs' (sn.trans st.all) st.sh st.sub
     cases q0V with
     | nil =>
      left
      cases hz
      cases hzs
      rw [List.append_nil] at hds hy
      subst hy hds
      exact ⟨istop i (by omega),fun p hp=>q p H' Hs' (s1.trans st) hp⟩
     | cons d q0V =>
      right
      have hil:i<ds.length:=by rw [hds,List.length_append,List.length_cons];omega
      have hol:=q3c sa []
      simp at hol
      refine ⟨igo i hil,Nat.lt_of_le_of_lt (show (q1G [] sa).length + 1<=61 by omega) (by decide),fun x H2 hyl=>?_⟩
      obtain ⟨d',Hs2,hd,s2,r2⟩:=iyld i x H2 hil hyl
      have hdd:d'=d:=by
       rw [hds,List.getElem?_append_right (by omega)] at hd
       simp [hdl] at hd
       exact hd.symm
      subst hdd
      obtain ⟨o,zs',hf,hz',rfl⟩:=q9O hz
      have hf:=w85 hf
      obtain ⟨so,sz',hso,hsz,rfl⟩:=w0u hzs
      cases hb:bnd nt d' (q9P nt ix ρ) with
      | no=>rw [hb] at hf;cases hf
      | ex x n=>rw [hb] at hf;cases hf
      | ok ρ' =>
       rw [hb,bind_ok] at hf
       refine w5a hnt ((fb.step st).step s2) r2 hb fun σ2 f2=>⟨ρ',?_⟩
       refine ⟨_,_,_,Hs2,f2,?_⟩
       cases ht:gt ρ' with
       | no=>rw [ht] at hf;cases hf
       | ex x n=>rw [ht] at hf;cases hf
       | ok b =>
        rw [ht,bind_ok] at hf
        intro H3 Hs3 s3
        cases b with
        | false =>
         rw [if_neg Bool.false_ne_true] at hf
         cases hf
         cases hso
         refine w90 ⟨q0V.length,by rw [<- hrl];simp,done++[d'],q0V,zs',sa,sz',Hs3,by rw [hds];simp,by simp [hdl],rfl,(st.trans s2).trans s3,rfl,by omega,hz',hsz,by simpa using hy⟩
        | true =>
         rw [if_pos rfl] at hf
         refine x0t ⟨ρ',_,_,_,Hs3,f2.step s3,?_⟩
         cases he:ge ρ' with
         | no=>rw [he] at hf;cases hf
         | ex x n=>rw [he] at hf;cases hf
         | ok y =>
          rw [he,bind_ok] at hf
          cases hf
          intro v H4 Hs4 s4 r4
          cases r4 with
          | str z =>
           cases hso
           exact ⟨z,q0V.length,rfl,by rw [<- hrl];simp,done++[d'],q0V,zs',sa++[z],sz',Hs4,by rw [hds];simp,by simp [hdl],rfl,((st.trans s2).trans s3).trans s4,(q9S z sa []).symm,by simp;omega,hz',hsz,by rw [hy];simp⟩
          | none=>cases hso
          | bool _=>cases hso
          | int _=>cases hso
          | list _ _=>cases hso
          | tuple _ _=>cases hso
          | dictK _ _=>cases hso
          | dictT _ _ _=>cases hso
  ·rw [if_neg hl] at q;exact q.elim
theorem w9J (nt:Nat) (hnt:nt=1\/nt=2) (hc:c.X.calm=true) (S:q4P c.X scope N' nt ix) (hi:JI c tg iter gi) (hb:q8d c N' scope nt tg ifs elt gt ge) (hs:∀ x,foldedSetIterable iter c.X.env x=pure x:=by intro _;rfl) :
  JSt c (.SetComp elt [⟨tg,iter,ifs,0⟩] scope pos) (q9R nt ix gi gt ge):=.of fun ρ=>mPE (w5W hc S (w3i hnt) (hi ρ) hb.at hs) fun σ H Q q=>x2x hnt q
end
def q0r (n:Nat) (ds:List D):Rho:=ds.map Sl.shr++List.replicate (n - ds.length) Sl.no
def q4R (n:Nat) (g:Rho->R Fl):List D->R D:=fun ds=>match g (q0r n ds) with
 | .ok (.nx _)=>.ok .none
 | .ok (.rt d)=>.ok d
 | .ex c m=>.ex c m
 | _=>.no
theorem q9T {n:Nat}{ds:List D}{i:Nat}{s:Sl} (h:(q0r n ds)[i]?=some s):(∃ d,ds[i]?=some d/\s=.shr d)\/s=.no:=by
 unfold q0r at h
 by_cases hi:i<ds.length
 ·rw [List.getElem?_append_left (by simpa using hi),List.getElem?_map] at h
  cases hd:ds[i]? with
  | none=>rw [hd] at h;cases h
  | some z=>rw [hd] at h;cases h;exact .inl ⟨z,rfl,rfl⟩
 ·rw [List.getElem?_append_right (by simp;omega),List.getElem?_replicate] at h
  split at h<;>cases h
  exact .inr rfl
theorem w8a {N:List Str}{vs:List V}{i:Nat}{v:V} (h:vs[i]?=some v):(L2.start N vs)[i]?=some (some v):=by
 unfold L2.start
 have hi:i<vs.length:=(List.getElem?_eq_some_iff.mp h).1
 rw [List.getElem?_append_left (by simpa using hi),List.getElem?_map,h]
 rfl
theorem Fr.start {K : PySem.W.Frag} {H Hs : Hp} {N : List Str} {vs : List V} {ds : List D} (sub : q29 Hs H) (r : RDs K Hs vs ds) : Fr K H Hs (fun _ => none) (q0r N.length ds) (L2.start N vs) H Hs := by
  have hl := r.length
  refine ⟨.refl sub, by simp [q0r, L2.start, hl], fun i d h => ?_, fun i d h => ?_, fun i d h => ?_, fun i j d e a h _ _ _ => ?_, fun i a h => (nomatch h), fun i d h => ?_, fun i j d e h _ => ?_⟩
  · rcases q9T h with ⟨z, hz, e⟩ | e
    · cases e
      obtain ⟨v, k1, k2⟩ := r.get' hz
      exact ⟨v, w8a k1, k2⟩
    · cases e
  all_goals (rcases q9T h with ⟨z, _, e⟩ | e <;> cases e)
theorem x4n {P:Program}{w:World}{K:PySem.W.Frag}{mg:Str->Option Value}{base:Heap}{cls:Str->Addr}{x qual:Str}{st:Stmt}{f:Addr}{fd:FuncData}{N ps:List Str}{k:Nat}{g:Rho->R Fl} (F:Fun K x qual st f fd) (S:q0y N ps (q03 st))
  (h:∀ (cdv:Value) (A:Around) (outer:List Env) (s:Shared) (H:Hp) (E:XK),q6d k (A.deeper (envOfC qual (q03 st) s.heap.objs.size f cdv))->JSs ⟨q2B (CXR P w) P w K mg base N qual (q03 st) f cdv A outer s H E,cls,E⟩ (q0x st) g) :
  w2R P w K mg base (CXR P w) (k + 1) f fd ps (spF K cls ps.length (q4R N.length g)):=by
 obtain ⟨oc,od,kV,doc,pm,an,cdv,ct,osl,rfl,lk,hcd⟩:=F.ex
 refine x3J lk hcd S (fun vs H Q E h_4=>by obtain ⟨Hs,ds,sub,hn,r,q⟩:=h_4;exact by rw [r.length];exact hn) fun A outer s H vs Q E hr hsp=>?_
 obtain ⟨Hs,ds,sub,hn,r,q⟩:=hsp
 refine ⟨_,h cdv A outer s H E hr (q0r N.length ds),H,Hs,_,Hs,Fr.start sub r,?_⟩
 unfold q4R at q
 cases hg:g (q0r N.length ds) with
 | no=>rw [hg] at q;exact q
 | ex c n=>rw [hg] at q;exact q
 | ok fl =>
  rw [hg] at q
  cases fl with
  | nx ρ'=>exact fun σ' H' Hs' f'=>q .non H' Hs' f'.st .none
  | rt d=>exact fun v H' Hs' s r=>q v H' Hs' s r
  | bk ρ'=>exact q.elim
  | ct ρ'=>exact q.elim
theorem q2T {P:Program}{w:World}{K:PySem.W.Frag}{mg:Str->Option Value}{base:Heap}{cls:Str->Addr}{x qual:Str}{st:Stmt}{f:Addr}{fd:FuncData}{N ps:List Str}{k:Nat}{g:Rho->R Fl} (F:Fun K x qual st f fd) (S:q0y N ps (q03 st)) (hm:mg x=some (.ref f)) (hb:q1p K fd ps [])
  (h:∀ (cdv:Value) (A:Around) (outer:List Env) (s:Shared) (H:Hp) (E:XK),q6d k (A.deeper (envOfC qual (q03 st) s.heap.objs.size f cdv))->JSs ⟨q2B (CXR P w) P w K mg base N qual (q03 st) f cdv A outer s H E,cls,E⟩ (q0x st) g) :
  Fn P w K mg base cls x (k + 1) ps.length (q4R N.length g):=⟨f,fd,ps,x4n F S h,hm,F.kp,hb⟩
theorem q2K {X:Cx}:q0R (CXR X.prog X.w) X E0:=fun _ _ _ _ _ _ _ h=>by
 obtain ⟨_,_,_,_,_,_,_,_,_,q⟩:=h
 exact q.elim
end J
end
section
namespace J
open PySem L2
def clear2 (ρ:Rho):Rho:=ρ.map fun s=>match s with
 | .ow2 _=>.no
 | s=>s
section
variable {K:PySem.W.Frag}
theorem Fr.clear2 {H0 Hs0 H Hs:Hp}{la:Nat->Option Addr}{ρ:Rho}{σ:St} (f:Fr K H0 Hs0 la ρ σ H Hs):Fr K H0 Hs0 la (clear2 ρ) σ H Hs/\∀ (j:Nat) (d:List (List D)),¬ (J.clear2 ρ)[j]?=some (Sl.ow2 d):=by
 have un:∀ {j:Nat}{s:Sl},(J.clear2 ρ)[j]?=some s->(∀ d,s≠.ow2 d)/\(ρ[j]?=some s\/s=.no):=fun {j s} e=>by
  unfold J.clear2 at e
  rw [List.getElem?_map] at e
  cases h:ρ[j]? with
  | none=>rw [h] at e;cases e
  | some t =>
   rw [h] at e
   cases t with
   | ow2 d=>cases e;exact ⟨fun _ z=>(by cases z),.inr rfl⟩
   | no=>cases e;exact ⟨fun _ z=>(by cases z),.inl rfl⟩
   | shr d=>cases e;exact ⟨fun _ z=>(by cases z),.inl rfl⟩
   | lck d=>cases e;exact ⟨fun _ z=>(by cases z),.inl rfl⟩
   | own d=>cases e;exact ⟨fun _ z=>(by cases z),.inl rfl⟩
 have is:∀ {j:Nat}{s:Sl},s≠.no->(J.clear2 ρ)[j]?=some s->ρ[j]?=some s:=fun {j s} n e=>(un e).2.resolve_right n
 have no2:∀ (j:Nat) (d:List (List D)),¬ (J.clear2 ρ)[j]?=some (Sl.ow2 d):=fun j d e=>(un e).1 d rfl
 exact ⟨⟨f.st,by simp [J.clear2,f.len],fun j d h=>f.sh j d (is (fun z=>by cases z) h),fun j d h=>f.ow j d (is (fun z=>by cases z) h),fun j d h=>f.lk j d (is (fun z=>by cases z) h),fun j k d e a h1 h2=>f.dj j k d e a (is (fun z=>by cases z) h1) (is (fun z=>by cases z) h2),f.lh,fun j d h=>(no2 j d h).elim,fun j k d e h _=>(no2 j d h).elim⟩,no2⟩
end
def q8i:List Addr->Hp->Hp
 | [],H=>H
 | a::as,H=>q8i as (upd H a (.lst []))
section
variable {c:C}{e:Expr}{g gi:Rho->R D}{pos p apos cpos spos:Pos}{x:Str}
theorem q9U:∀ (as:List Addr) (H:Hp),(∀ a∈as,H a=none)->as.Nodup->q29 H (q8i as H)
 | [],H,_,_=>.refl H
 | a::as,H,h,nd=>by
  obtain ⟨n1,n2⟩:=List.nodup_cons.mp nd
  refine (q2C (h a List.mem_cons_self)).trans (q9U as _ (fun b hb=>?_) n2)
  rw [q0e (fun (z:b=a)=>n1 (z ▸ hb))]
  exact h b (List.mem_cons_of_mem _ hb)
theorem w5f:∀ (as:List Addr) (H:Hp),as.Nodup->∀ a∈as,q8i as H a=some (.lst [])
 | a::as,H,nd,b,hb=>by
  obtain ⟨n1,n2⟩:=List.nodup_cons.mp nd
  show q8i as (upd H a (.lst [])) b=_
  by_cases hm:b∈as
  ·exact w5f as _ n2 b hm
  ·have e:b=a:=(List.mem_cons.mp hb).resolve_right hm
   subst e
   have:∀ (as:List Addr) (H:Hp),b∉as->q8i as H b=H b:=by
    intro as
    induction as with
    | nil=>intro H _;rfl
    | cons c as ih =>
     intro H h
     show q8i as (upd H c (.lst [])) b=_
     rw [ih _ (fun z=>h (List.mem_cons_of_mem _ z)),q0e (fun (z:b=c)=>h (by rw [z];exact List.mem_cons_self))]
   rw [this as _ hm,q0d]
theorem q3p:∀ (as:List Addr) (H:Hp) (b:Addr),q8i as H b=none->H b=none/\b∉as
 | [],H,b,h=>⟨h,by simp⟩
 | a::as,H,b,h=>by
  obtain ⟨h1,h2⟩:=q3p as (upd H a (.lst [])) b h
  by_cases hb:b=a
  ·subst hb;rw [q0d] at h1;cases h1
  ·rw [q0e hb] at h1
   exact ⟨h1,fun z=>(List.mem_cons.mp z).elim hb h2⟩
def x5A (i:Nat):Rho->R Fl:=fun ρ=>.ok (.nx ((clear2 ρ).set i (.ow2 [[],[],[],[]])))
theorem x4o (i:Nat) {p1 p2 p3 p4:Pos}{pos':Pos} (hN:c.X.N.Nodup) (hi:c.X.N[i]?=some x:=by rfl) (hx:Loc c.X.env.scope x:=by first | exact Or.inl rfl | exact Or.inr rfl)
  (hs:swapsWith (.List [.List [] p1,.List [] p2,.List [] p3,.List [] p4] p) (some (.Name x pos')) spos.line c.X.env=pure false:=by rfl)
  (hf:c.X.fn x=true\/c.X.env.scope.names.lookup x=some .local:=by first | exact .inl rfl | exact .inr rfl | assumption)
  (h1:starEach [.List [] p1,.List [] p2,.List [] p3,.List [] p4] c.X.env=(false,eval (.List [] p1) c.X.env)::starEach [.List [] p2,.List [] p3,.List [] p4] c.X.env:=by rfl)
  (h2:starEach [.List [] p2,.List [] p3,.List [] p4] c.X.env=(false,eval (.List [] p2) c.X.env)::starEach [.List [] p3,.List [] p4] c.X.env:=by rfl)
  (h3:starEach [.List [] p3,.List [] p4] c.X.env=(false,eval (.List [] p3) c.X.env)::starEach [.List [] p4] c.X.env:=by rfl)
  (h4:starEach [.List [] p4] c.X.env=(false,eval (.List [] p4) c.X.env)::starEach [] c.X.env:=by rfl) :
  JS c (.Assign [.Name x pos'] (.List [.List [] p1,.List [] p2,.List [] p3,.List [] p4] p) spos) (x5A i):=.of fun ρ=>by
 refine mPS (w4S hN hi hx (q44 (q0t (q44 q1o) (q0t (q44 q1o) (q0t (q44 q1o) (q0t (q44 q1o) q1o h4) h3) h2) h1)) hs hf) fun D σ H h_0=>?_
 obtain ⟨H0,Hs0,la,Hs,f,q⟩:=h_0
 replace q:w19 c.X.K c.cls c.E H0 Hs0 la D (x5A i ρ):=q
 obtain ⟨f,no2⟩:=f.clear2
 refine ⟨Nat.zero_le _,fun a1 n1=>⟨Nat.zero_le _,fun a2 n2=>⟨Nat.zero_le _,fun a3 n3=>⟨Nat.zero_le _,fun a4 n4=>⟨Nat.le_of_lt (q0u (show 4<=1000 by decide)),fun a n=>?_⟩⟩⟩⟩⟩
 have N:=q3p [a1,a2,a3,a4] H a n
 have N4:=q3p [a1,a2,a3] H a4 n4
 have N3:=q3p [a1,a2] H a3 n3
 have N2:=q3p [a1] H a2 n2
 simp only [List.mem_cons,List.not_mem_nil,or_false,not_or] at N N4 N3 N2
 have nd:[a1,a2,a3,a4].Nodup:=by
  simp only [List.nodup_cons,List.mem_cons,List.not_mem_nil,or_false,not_or,List.nodup_nil,and_true,not_false_eq_true]
  exact ⟨⟨Ne.symm N2.2,Ne.symm N3.2.1,Ne.symm N4.2.1⟩,⟨Ne.symm N3.2.2,Ne.symm N4.2.2.1⟩,Ne.symm N4.2.2.2⟩
 have free:∀ b∈[a1,a2,a3,a4],H b=none:=fun b hb=>by
  simp only [List.mem_cons,List.not_mem_nil,or_false] at hb
  rcases hb with rfl | rfl | rfl | rfl
  ·exact n1
  ·exact N2.1
  ·exact N3.1
  ·exact N4.1
 have nd5:(a::[a1,a2,a3,a4]).Nodup:=List.nodup_cons.mpr ⟨by simp only [List.mem_cons,List.not_mem_nil,or_false,not_or];exact N.2,nd⟩
 have sm:q29 H (q8i [a1,a2,a3,a4] H):=q9U _ _ free nd
 have all:q29 H (upd (q8i [a1,a2,a3,a4] H) a (.lst [.ref a1,.ref a2,.ref a3,.ref a4])):=sm.trans (q2C n)
 have free5:∀ b∈a::[a1,a2,a3,a4],H b=none:=fun b hb=>(List.mem_cons.mp hb).elim (fun z=>z ▸ N.1) (free b)
 have st:q1I H Hs (upd (q8i [a1,a2,a3,a4] H) a (.lst [.ref a1,.ref a2,.ref a3,.ref a4])) Hs:=⟨all,.refl _,f.st.sub.trans all,fun _ _ _ z=>z⟩
 have f':=f.step st
 have hl:i<σ.length\/¬ i<σ.length:=Decidable.em _
 have nx:∀ {j:Nat}{s:Sl},(∀ d,s≠.ow2 d)->((clear2 ρ).set i (.ow2 [[],[],[],[]]))[j]?=some s->(clear2 ρ)[j]?=some s/\i≠j:=fun {j s} hs e=>by
  by_cases hj:i=j
  ·subst hj
   by_cases hi:i<(clear2 ρ).length
   ·rw [List.getElem?_set_self hi] at e;exact absurd (Option.some.inj e).symm (hs _)
   ·rw [List.getElem?_eq_none (by simpa using hi)] at e;cases e
  ·rw [List.getElem?_set_ne hj] at e;exact ⟨e,hj⟩
 refine q _ _ Hs ⟨f'.st,by simp [f'.len],fun j d h=>?_,fun j d h=>?_,fun j d h=>?_,fun j k d d' b h1 h2 h3 h4=>?_,f'.lh,fun j d h=>?_,fun j k d d' h1 h2=>?_⟩
 ·obtain ⟨h,hj⟩:=nx (fun _ z=>by cases z) h
  rw [List.getElem?_set_ne hj];exact f'.sh j d h
 ·obtain ⟨h,hj⟩:=nx (fun _ z=>by cases z) h
  rw [List.getElem?_set_ne hj];exact f'.ow j d h
 ·obtain ⟨h,hj⟩:=nx (fun _ z=>by cases z) h
  rw [List.getElem?_set_ne hj];exact f'.lk j d h
 ·obtain ⟨h1,hj⟩:=nx (fun _ z=>by cases z) h1
  obtain ⟨h2,hk⟩:=nx (fun _ z=>by cases z) h2
  rw [List.getElem?_set_ne hj] at h3
  rw [List.getElem?_set_ne hk] at h4
  exact f'.dj j k d d' b h1 h2 h3 h4
 ·by_cases hj:i=j
  ·subst hj
   by_cases hi:i<(clear2 ρ).length
   ·rw [List.getElem?_set_self hi] at h
    cases h
    have at4:=w5f [a1,a2,a3,a4] H nd
    have ne:∀ b∈[a1,a2,a3,a4],b≠a:=fun b hb z=>(List.nodup_cons.mp nd5).1 (z ▸ hb)
    have go:∀ b∈[a1,a2,a3,a4],upd (q8i [a1,a2,a3,a4] H) a (.lst [.ref a1,.ref a2,.ref a3,.ref a4]) b=some (.lst []):=fun b hb=>by rw [q0e (ne b hb)];exact at4 b hb
    refine ⟨a,[a1,a2,a3,a4],List.getElem?_set_self (by rw [<- f'.len];exact hi),q0d,nd5,fun b hb=>⟨f.st.sub.free (free5 b hb),f.st.all.free (free5 b hb)⟩,fun b hb k e hk=>?_,.cons (go _ (by simp)) .nil (.cons (go _ (by simp)) .nil (.cons (go _ (by simp)) .nil (.cons (go _ (by simp)) .nil .nil)))⟩
    obtain ⟨hk,nk⟩:=nx (fun _ z=>by cases z) hk
    rw [List.getElem?_set_ne nk]
    intro z
    obtain ⟨b',o,k1,k2,_⟩:=f.ow k e hk
    rw [z] at k1
    cases k1
    rw [free5 b hb] at k2;cases k2
   ·rw [List.getElem?_eq_none (by simpa using hi)] at h;cases h
  ·rw [List.getElem?_set_ne hj] at h;exact (no2 j d h).elim
 ·by_cases hj:i=j
  ·by_cases hk:i=k
   ·exact hj.symm.trans hk
   ·rw [List.getElem?_set_ne hk] at h2;exact (no2 k d' h2).elim
  ·rw [List.getElem?_set_ne hj] at h1;exact (no2 j d h1).elim
theorem w9K {st:Stmt}{gs:Rho->R Fl} (h:JS c st gs):JS c st (fun ρ=>gs (q0S ρ)):=.of fun ρ=>mPS (h (q0S ρ)) fun D σ H h_1=>by
 obtain ⟨H0,Hs0,la,Hs,f,q⟩:=h_1
 obtain ⟨Hs',f'⟩:=f.shared
 exact ⟨H0,Hs0,la,Hs',f',q⟩
def shareAt (i:Nat) (ρ:Rho):Rho:=match ρ[i]? with
 | some (Sl.own d)=>ρ.set i (.shr d)
 | _=>ρ
theorem Fr.shareAt {K:PySem.W.Frag}{H0 Hs0 H Hs:Hp}{la:Nat->Option Addr}{ρ:Rho}{σ:St} (f:Fr K H0 Hs0 la ρ σ H Hs) (i:Nat):∃ Hs',Fr K H0 Hs0 la (J.shareAt i ρ) σ H Hs':=by
 unfold J.shareAt
 split
 ·rename_i d ho
  obtain ⟨a,o,k1,k2,k3,k4,k5⟩:=f.ow i d ho
  have hil:i<ρ.length:=(List.getElem?_eq_some_iff.mp ho).1
  have up:q29 Hs (upd Hs a o):=q2C k3
  have nx:∀ {j:Nat}{s:Sl},(∀ d,s≠.shr d)->(ρ.set i (.shr d))[j]?=some s->ρ[j]?=some s/\i≠j:=fun {j s} hs e=>by
   by_cases hj:i=j
   ·subst hj
    rw [List.getElem?_set_self hil] at e;exact absurd (Option.some.inj e).symm (hs d)
   ·rw [List.getElem?_set_ne hj] at e;exact ⟨e,hj⟩
  have ne:∀ (j:Nat) (e:D) (b:Addr),i≠j->ρ[j]?=some (Sl.own e)->σ[j]?=some (some (V.ref b))->b≠a:=fun j e b hj h hb z=>by
   subst z
   exact hj (f.dj i j d e b ho h k1 hb)
  refine ⟨upd Hs a o,⟨f.st.all,f.st.sh.trans up,fun b u e=>?_,fun b u e z=>?_⟩,by simp [f.len],fun j e h=>?_,fun j e h=>?_,fun j e h=>?_,fun j k d1 d2 b h1 h2 h3 h4=>?_,f.lh,fun j e h=>?_,fun j k d1 d2 h1 h2=>?_⟩
  ·by_cases hb:b=a
   ·subst hb;rw [q0d] at e;cases e;exact k2
   ·rw [q0e hb] at e;exact f.st.sub b u e
  ·rw [q0e (q0c e k4)];exact f.st.out b u e z
  ·by_cases hj:i=j
   ·subst hj
    rw [List.getElem?_set_self hil] at h
    cases h
    exact ⟨_,k1,k5.share k3⟩
   ·rw [List.getElem?_set_ne hj] at h
    obtain ⟨v,q1,q2⟩:=f.sh j e h
    exact ⟨v,q1,q2.same up⟩
  ·obtain ⟨h,hj⟩:=nx (fun _ z=>by cases z) h
   obtain ⟨b,u,q1,q2,q3,q4,q5⟩:=f.ow j e h
   exact ⟨b,u,q1,q2,by rw [q0e (ne j e b hj h q1)];exact q3,q4,q5.same up⟩
  ·obtain ⟨h,hj⟩:=nx (fun _ z=>by cases z) h
   obtain ⟨b,u,q1,q2,q3,q4,q5,q6⟩:=f.lk j e h
   exact ⟨b,u,q1,q2,q3,by rw [q0e (q0c q5 k4)];exact q4,q5,q6.same up⟩
  ·exact f.dj j k d1 d2 b (nx (fun _ z=>by cases z) h1).1 (nx (fun _ z=>by cases z) h2).1 h3 h4
  ·obtain ⟨h,hj⟩:=nx (fun _ z=>by cases z) h
   obtain ⟨b,as,O⟩:=f.o2 j e h
   refine ⟨b,as,O.at_,O.ob,O.nd,fun c hc=>⟨?_,(O.out c hc).2⟩,fun c hc k e' hk=>O.dj c hc k e' (nx (fun _ z=>by cases z) hk).1,O.inn.step (.refl _) up⟩
   rw [q0e (fun z=>O.dj c hc i d ho (by rw [z];exact k1))]
   exact (O.out c hc).1
  ·exact f.u2 j k d1 d2 (nx (fun _ z=>by cases z) h1).1 (nx (fun _ z=>by cases z) h2).1
 ·exact ⟨Hs,f⟩
theorem w66 (i:Nat) {st:Stmt}{gs:Rho->R Fl} (h:JS c st gs):JS c st (fun ρ=>gs (shareAt i ρ)):=.of fun ρ=>mPS (h (shareAt i ρ)) fun D σ H h_2=>by
 obtain ⟨H0,Hs0,la,Hs,f,q⟩:=h_2
 obtain ⟨Hs',f'⟩:=f.shareAt i
 exact ⟨H0,Hs0,la,Hs',f',q⟩
theorem Inn.get {K:PySem.W.Frag}{H Hs:Hp}{as:List Addr}{dss:List (List D)} (h:Inn K H Hs as dss):∀ {j:Nat}{ds:List D},dss[j]?=some ds->∃ b vs,as[j]?=some b/\H b=some (.lst vs)/\RDs K Hs vs ds:=by
 induction h with
 | nil=>intro j ds e;cases e
 | cons h r t ih =>
  intro j ds e
  cases j with
  | zero=>cases e;exact ⟨_,_,rfl,h,r⟩
  | succ j=>have q:=ih (j:=j) e;exact q
theorem Inn.set {K:PySem.W.Frag}{H Hs:Hp}{vs':List V}{ds':List D} (r':RDs K Hs vs' ds'):∀ {as:List Addr}{dss:List (List D)}{j:Nat}{b:Addr},Inn K H Hs as dss->as[j]?=some b->as.Nodup->Inn K (L2.upd H b (.lst vs')) Hs as (dss.set j ds')
 | _,_,_,_,.nil,h,_=>by simp at h
 | _,_,0,b,.cons h r t,e,nd=>by
  simp at e
  subst e
  exact .cons q0d r' (t.upd (List.nodup_cons.mp nd).1)
 | _,_,j + 1,b,.cons (a:=a) h r t,e,nd=>by
  have e':_:=e
  simp only [List.getElem?_cons_succ] at e'
  obtain ⟨n1,n2⟩:=List.nodup_cons.mp nd
  have hb:b∈_:=List.mem_of_getElem? e'
  exact .cons (by rw [q0e (fun z=>n1 (by rw [z];exact hb))];exact h) r (Inn.set r' t e' n2)
def q6o (i:Nat) (gi g:Rho->R D):Rho->R Fl:=fun ρ=>match ρ[i]? with
 | some (Sl.ow2 dss)=>(gi ρ).bind fun k=>match k with
  | .int j=>if 0<=j then (match dss[j.toNat]? with
   | some ds=>(g ρ).bind fun d=>if ds.length<1000 then .ok (.nx (ρ.set i (.ow2 (dss.set j.toNat (ds++[d]))))) else .no
   | none=>.no) else .no
  | _=>.no
 | _=>.no
variable {ie:Expr}
theorem q9V (i:Nat) (hie:JE c ie gi) (h:JE c e g) (hN:c.X.N[i]?=some x:=by rfl) (hv:Vis c.X.env.scope x:=by first | exact Or.inl rfl | exact Or.inr (Or.inl rfl) | exact Or.inr (Or.inr rfl)) (hd:(x == ("__debug__" : Str))=false:=by decide)
  (hcd:(x == ("__classdict__" : Str))=false:=by decide) {p3:Pos} (hpx:w0c ie:=by exact fun _ _=>rfl)
  (hbase:attributeBase (.Subscript (.Name x p) ie p3) "append" c.X.env (eval (.Subscript (.Name x p) ie p3) c.X.env)=eval (.Subscript (.Name x p) ie p3) c.X.env:=by rfl)
  (hfew:((backTo cpos (starEach [e] c.X.env)).all (fun x=>!x.1) && (backToKw cpos (keywordEach [] c.X.env)).all (fun x=>x.1.isSome)
   && decide ([e].length + ([] : List Keyword).length + (if ([] : List Keyword).isEmpty then 0 else 1)<30))=true:=by rfl)
  (hline:(apos.endLine == cpos.line)=true:=by rfl) (hst:starEach [e] c.X.env=(false,eval e c.X.env)::starEach [] c.X.env:=by rfl) (hplain:(backTo cpos (starEach [] c.X.env)).any (·.1)=false:=by rfl)
  (hs:swapsWith (.Call (.Attribute (.Subscript (.Name x p) ie p3) "append" apos) [e] [] cpos) none pos.line c.X.env=pure false:=by rfl) :
  JS c (.Expr (.Call (.Attribute (.Subscript (.Name x p) ie p3) "append" apos) [e] [] cpos) pos) (q6o i gi g):=.of fun ρ=>by
 refine mPS (q6c (w31 PySem.F.plainAttrs_list PySem.F.slot_list_append PySem.F.type_list_append w1o (x3M w0d (q5C hN hv hd hcd) (hie ρ) hpx) (q0t (h ρ) q1o hst) hbase hfew hline hst hplain) hs) fun D σ H h_3=>?_
 obtain ⟨H0,Hs0,la,Hs,f,q⟩:=h_3
 replace q:w19 c.X.K c.cls c.E H0 Hs0 la D (q6o i gi g ρ):=q
 unfold q6o at q
 split at q
 ·rename_i dss ho
  obtain ⟨a,as,O⟩:=f.o2 i dss ho
  refine ⟨_,O.at_,?_⟩
  refine sE f q fun k v H1 Hs1 e1 s1 f1 r1=>?_
  rw [e1,bind_ok] at q
  cases r1 with
  | int j =>
   simp only at q
   by_cases hj:0<=j
   ·rw [if_pos hj] at q
    split at q
    ·rename_i ds hds
     obtain ⟨b,vs,hb,hH,rv⟩:=O.inn.get hds
     have hix:atI (as.map V.ref) j=some (.ref b):=by
      have:=q6f (xs:=as.map V.ref) (j:=j.toNat) (v:=V.ref b) (by rw [List.getElem?_map,hb];rfl)
      rwa [Int.toNat_of_nonneg hj] at this
     refine ⟨a,_,j,_,rfl,rfl,.of (s1.all _ _ O.ob),hix,.inl ⟨rfl,_,.of (s1.all _ _ hH)⟩,?_⟩
     refine sE f1 q fun d w H2 Hs2 e2 s2 f2 r2=>?_
     rw [e2,bind_ok] at q
     by_cases hl:ds.length<1000
     ·rw [if_pos hl] at q
      have st:=s1.trans s2
      refine ⟨b,vs,w,rfl,rfl,st.all _ _ hH,q0u (by rw [rv.length];omega),?_⟩
      have hil:i<ρ.length:=(List.getElem?_eq_some_iff.mp ho).1
      obtain ⟨a',as',O2'⟩:=f2.o2 i dss ho
      have ea:a'=a:=by
       have:=O2'.at_
       rw [O.at_] at this
       cases this;rfl
      subst ea
      have eas:as'=as:=by
       have h1:=O2'.ob
       rw [st.all _ _ O.ob] at h1
       injection h1 with h1
       injection h1 with h1
       exact (List.map_inj_right (fun x y z=>by cases z;rfl) |>.mp h1).symm
      subst eas
      have hbm:b∈a'::as':=List.mem_cons_of_mem _ (List.mem_of_getElem? hb)
      have nb:b≠a':=fun z=>(List.nodup_cons.mp O.nd).1 (z ▸ List.mem_of_getElem? hb)
      obtain ⟨bs,b0⟩:=O2'.out b hbm
      have nx:∀ {j':Nat}{s:Sl},(∀ d,s≠.ow2 d)->(ρ.set i (.ow2 (dss.set j.toNat (ds++[d]))))[j']?=some s->ρ[j']?=some s/\i≠j':=fun {j' s} hs e=>by
       by_cases hj:i=j'
       ·subst hj
        rw [List.getElem?_set_self hil] at e;exact absurd (Option.some.inj e).symm (hs _)
       ·rw [List.getElem?_set_ne hj] at e;exact ⟨e,hj⟩
      refine q _ _ Hs2 ⟨⟨fun c u e=>?_,f2.st.sh,fun c u e=>?_,f2.st.out⟩,by simp [f2.len],fun j' d' h=>f2.sh j' d' (nx (fun _ z=>by cases z) h).1,fun j' d' h=>?_,fun j' d' h=>?_,fun j' k' d' e' a h1 h2=>f2.dj j' k' d' e' a (nx (fun _ z=>by cases z) h1).1 (nx (fun _ z=>by cases z) h2).1,f2.lh,fun j' d' h=>?_,fun j' k' d' e' h1 h2=>?_⟩
      ·rw [q0e (q0c e b0)];exact f2.st.all c u e
      ·rw [q0e (q0c e bs)];exact f2.st.sub c u e
      ·obtain ⟨h,_⟩:=nx (fun _ z=>by cases z) h
       obtain ⟨c',u,k1,k2,k3,k4,k5⟩:=f2.ow j' d' h
       refine ⟨c',u,k1,?_,k3,k4,k5⟩
       rw [q0e (fun z=>O2'.dj b hbm j' d' h (by rw [<- z];exact k1))]
       exact k2
      ·obtain ⟨h,_⟩:=nx (fun _ z=>by cases z) h
       obtain ⟨c',u,k1,k2,k3,k4,k5,k6⟩:=f2.lk j' d' h
       refine ⟨c',u,k1,k2,?_,k4,k5,k6⟩
       rw [q0e (q0c k5 b0)]
       exact k3
      ·by_cases hj':i=j'
       ·subst hj'
        rw [List.getElem?_set_self hil] at h
        cases h
        refine ⟨a',as',O2'.at_,by rw [q0e (Ne.symm nb)];exact O2'.ob,O2'.nd,O2'.out,fun c hc k e' hk=>O2'.dj c hc k e' (nx (fun _ z=>by cases z) hk).1,?_⟩
        exact Inn.set ((rv.same st.sh).append (.cons r2 .nil)) O2'.inn hb (List.nodup_cons.mp O2'.nd).2
       ·rw [List.getElem?_set_ne hj'] at h
        exact (hj' (f2.u2 i j' _ _ ho h)).elim
      ·by_cases hj':i=j'
       ·by_cases hk':i=k'
        ·exact hj'.symm.trans hk'
        ·rw [List.getElem?_set_ne hk'] at h2
         exact (hk' (f2.u2 i k' _ _ ho h2)).elim
       ·rw [List.getElem?_set_ne hj'] at h1
        exact (hj' (f2.u2 i j' _ _ ho h1)).elim
     ·rw [if_neg hl] at q;exact q.elim
    ·exact q.elim
   ·rw [if_neg hj] at q;exact q.elim
  | none=>exact q.elim
  | bool _=>exact q.elim
  | str _=>exact q.elim
  | list _ _=>exact q.elim
  | tuple _ _=>exact q.elim
  | dictK _ _=>exact q.elim
  | dictT _ _ _=>exact q.elim
 ·exact q.elim
end
end J
end
section
namespace J
open PySem L2
open PyProof.Rows (OwnCls)
theorem x2y (l:Addr) (items:Array Value) (n:Nat) (b:Addr) (dd:Option Addr) (items2:Array Value) (n2:Nat) (sl:Array (Option Value)) (door:¬(!items.isEmpty && Builtin.List.listTooLong (items.size + items2.size))=true) (z1:items.size<=sizeLine) (z2:items.size + items2.size<=sizeLine + 1) :
  Meets (Builtin.«list.extend» ⟨[.ref l,.ref b],[]⟩) (fun _ R s=>s.heap.get? l=some { cls:=.type "list",data:=.seq items n }/\s.heap.get? b=some { cls:=.type "list",dict:=dd,data:=.seq items2 n2,slots:=sl } /\
   R (.ok (.ret Value.none)) { s with heap:=s.heap.update l (Obj.mapSeq fun xs=>xs++items2),toks:=s.toks }) :=
 .of_wp fun prog w A R s h=>by
  obtain ⟨hp,gg,dr,tk,os⟩:=s
  obtain ⟨hl,hb,h⟩:=h
  have f1:=AutoSeq1.idx_int
  have f2:=AutoSeq1.sub_tuple_tuple
  have f3:=AutoSeq1.sub_list_list
  have f4:=AutoSeq1.sub_tuple_list
  have f5:=AutoSeq1.sub_list_tuple
  have both:(items++items2).size<=sizeLine + 1:=by rw [Array.size_append];exact z2
  wp_walk using (wpAny_updateSeq hl rfl (hz:=z1) (_hz':=both)),wpAny_loadPart' hl,wpAny_loadPart' hb
  exact ⟨_,rfl,h⟩
section
variable {X:Cx}
inductive x4p (K:PySem.W.Frag) (x:V) (vs:List V) (H:Hp) (Q:VK):Prop
 | mk (l b xs zs:_) (h0:x=.ref l) (h1:vs=[.ref b]) (h2:H l=some (.lst xs)) (h3:SqL K H b zs) (h4:xs.length + zs.length<=sizeLine) (h5:Q .non (upd H l (.lst (xs++zs)))):x4p K x vs H Q
def x7N (K:PySem.W.Frag):V->List V->Hp->VK->Prop:=x4p K
theorem x4q:MtM X "list.extend" (x7N X.K):=by
 intro pins s σ H x vs v us Q I rx rv h
 obtain ⟨l,b,xs,zs,rfl,rfl,hH,hB,hz,q⟩:=h
 cases rx
 obtain ⟨u,rfl,ru⟩:=rv.one
 cases ru
 obtain ⟨z,its,n,r,hl,e⟩:=I.lstM hH
 obtain ⟨its2,r2,⟨⟨m1,m2,m3,m4⟩,n2,e2,d1,d2,d3⟩,z2⟩:=I.list hB
 simp only at d1 d2 d3
 subst d1 d2 d3
 have len2:=r2.length
 have fit:its.toArray.size + its2.toArray.size<=sizeLine:=by rw [List.size_toArray,List.size_toArray];omega
 refine call_meets F.slot_list_extend ⟨_,e,rfl⟩ F.entry_list_extend (F.args_list_extend_2 _ _) (x2y l its.toArray n b _ its2.toArray n2 m4 ?_ (by omega) (by omega)) ⟨e,e2,?_⟩
 ·rw [w0f fit,Bool.and_false]
  exact Bool.false_ne_true
 ·refine ⟨.non,_,I.lset (its':=its++its2) hH e (by simp) (r.append r2) ?_,rfl,q⟩
  rw [List.length_append]
  omega
end
section
variable {c:C}{e:Expr}{g:Rho->R D}{pos p apos cpos:Pos}{x:Str}
def x2z (i:Nat) (g:Rho->R D):Rho->R Fl:=fun ρ=>match ρ[i]? with
 | some (Sl.own (.list ds))=>(g ρ).bind fun d=>match d with
  | .list es=>if ds.length + es.length<=1000 then .ok (.nx (ρ.set i (.own (.list (ds++es))))) else .no
  | _=>.no
 | _=>.no
theorem w1K (i:Nat) (h:JE c e g) (hN:c.X.N[i]?=some x:=by rfl) (hv:Vis c.X.env.scope x:=by first | exact Or.inl rfl | exact Or.inr (Or.inl rfl) | exact Or.inr (Or.inr rfl)) (hd:(x == ("__debug__" : Str))=false:=by decide)
  (hcd:(x == ("__classdict__" : Str))=false:=by decide)
  (hbase:attributeBase (.Name x p) "extend" c.X.env (eval (.Name x p) c.X.env)=eval (.Name x p) c.X.env:=by rfl)
  (hfew:((backTo cpos (starEach [e] c.X.env)).all (fun x=>!x.1) && (backToKw cpos (keywordEach [] c.X.env)).all (fun x=>x.1.isSome)
   && decide ([e].length + ([] : List Keyword).length + (if ([] : List Keyword).isEmpty then 0 else 1)<30))=true:=by rfl)
  (hline:(apos.endLine == cpos.line)=true:=by rfl) (hst:starEach [e] c.X.env=(false,eval e c.X.env)::starEach [] c.X.env:=by rfl) (hplain:(backTo cpos (starEach [] c.X.env)).any (·.1)=false:=by rfl)
  (hs:swapsWith (.Call (.Attribute (.Name x p) "extend" apos) [e] [] cpos) none pos.line c.X.env=pure false:=by rfl) :
  JS c (.Expr (.Call (.Attribute (.Name x p) "extend" apos) [e] [] cpos) pos) (x2z i g):=.of fun ρ=>by
 refine mPS (q6c (w31 PySem.F.plainAttrs_list PySem.F.slot_list_extend PySem.F.type_list_extend x4q (q5C hN hv hd hcd) (q0t (h ρ) q1o hst) hbase hfew hline hst hplain) hs) fun D σ H h_0=>?_
 obtain ⟨H0,Hs0,la,Hs,f,q⟩:=h_0
 replace q:w19 c.X.K c.cls c.E H0 Hs0 la D (x2z i g ρ):=q
 unfold x2z at q
 split at q
 ·rename_i ds ho
  obtain ⟨a,o,k1,k2,k3,k4,k5⟩:=f.ow i _ ho
  cases k5 with
  | @lst vs _ r =>
   refine ⟨_,k1,.inl ⟨rfl,_,.of k2⟩,?_⟩
   refine sE f q fun d v H1 Hs1 e1 s1 f1 r1=>?_
   rw [e1,bind_ok] at q
   cases r1 with
   | @list b zs es sq rs =>
    simp only at q
    by_cases hl:ds.length + es.length<=1000
    ·rw [if_pos hl] at q
     have r':=r.same s1.sh
     exact ⟨a,b,vs,zs,rfl,rfl,s1.all _ _ k2,f1.st.sub.seq sq,Nat.le_of_lt (q0u (by rw [r.length,rs.length];exact hl)),q _ _ Hs1 (f1.write i ho k1 (.lst (r'.append rs)))⟩
    ·rw [if_neg hl] at q;exact q.elim
   | none=>exact q.elim
   | bool _=>exact q.elim
   | int _=>exact q.elim
   | str _=>exact q.elim
   | tuple _ _=>exact q.elim
   | dictK _ _=>exact q.elim
   | dictT _ _ _=>exact q.elim
 ·exact q.elim
end
structure Er (mg:Str->Option Value) (base:Heap) (cls:Str->Addr) (x:Str):Prop where
 ex:∃ bmB newId initId Bn,OwnCls x (cls x) bmB newId mg base/\ExcBaseFacts Bn newId initId bmB
def q4S (x:Str) (gs:Rho->R (List D)):Rho->R Fl:=fun ρ=>(gs ρ).bind fun ds=>if ds.length<=1000 then .ex x none else .no
section
variable {P:Program}{w:World}{K:PySem.W.Frag}{mg:Str->Option Value}{base:Heap}{N:List Str}{qual:Str}{scope:Scope}{f:Addr}{cd:Value}{A:Around}{outer:List Env}{s:Shared}{H:Hp}{E:XK}{cls:Str->Addr}
theorem q5N {x:Str}{np cpos pos:Pos}{e0:Expr}{q0V:List Expr}{gs:Rho->R (List D)} (R0:Er mg base cls x)
  (hg:Gl (q2B (CXR P w) P w K mg base N qual scope f cd A outer s H E) x) (ha:JAs ⟨q2B (CXR P w) P w K mg base N qual scope f cd A outer s H E,cls,E⟩ (e0::q0V) gs)
  (he:starEach (e0::q0V) (q2B (CXR P w) P w K mg base N qual scope f cd A outer s H E).env=(false,eval e0 (q2B (CXR P w) P w K mg base N qual scope f cd A outer s H E).env)::starEach q0V (q2B (CXR P w) P w K mg base N qual scope f cd A outer s H E).env:=by rfl)
  (hdb:(x == ("__debug__" : Str))=false:=by decide) (hpl:(backTo cpos (starEach q0V (q2B (CXR P w) P w K mg base N qual scope f cd A outer s H E).env)).any (·.1)=false:=by rfl) :
  JS ⟨q2B (CXR P w) P w K mg base N qual scope f cd A outer s H E,cls,E⟩ (.Raise (some (.Call (.Name x np) (e0::q0V) [] cpos)) none pos) (q4S x gs):=.of fun ρ=>by
 obtain ⟨bmB,newId,initId,Bn,O,FB⟩:=R0.ex
 refine mPS (w9w O FB hg (ha ρ) he hdb hpl) fun D σ H1 h_1=>?_
 obtain ⟨H0,Hs0,la,Hs,f,q⟩:=h_1
 replace q:w19 K cls E H0 Hs0 la D (q4S x gs ρ):=q
 refine ⟨H0,Hs0,la,Hs,f,?_⟩
 unfold q4S at q
 cases hr:gs ρ with
 | no=>rw [hr] at q;exact q
 | ex y n=>rw [hr] at q;exact fun H' Hs' s=>q H' Hs' (f.st.trans s)
 | ok ds =>
  rw [hr,bind_ok] at q
  intro vs H2 Hs2 s2 r2
  by_cases hl:ds.length<=1000
  ·rw [if_pos hl] at q
   exact ⟨Nat.le_of_lt (q0u (by rw [r2.length];exact hl)),q H2 Hs2 (f.st.trans s2)⟩
  ·rw [if_neg hl] at q;exact q.elim
end
end J
end
section
namespace J
open PySem L2
structure Bi (mg:Str->Option Value):Prop where
 len:mg "len"=none
 isinstance:mg "isinstance"=none
 all:mg "all"=none
 any:mg "any"=none
 zip:mg "zip"=none
 tuple:mg "tuple"=none
 list:mg "list"=none
 sorted:mg "sorted"=none
 set:mg "set"=none
 range:mg "range"=none
 enumerate:mg "enumerate"=none
 dict:mg "dict"=none
 sum:mg "sum"=none
 max:mg "max"=none
 min:mg "min"=none
 reversed:mg "reversed"=none
 str:mg "str"=none
 int:mg "int"=none
 bool:mg "bool"=none
end J
end
section
namespace J
open PySem L2
structure Xf (K:PySem.W.Frag) (base:Heap) (cls:Str->Addr) (names:List Str) (C:Addr) (j:Nat):Prop where
 ek:x48 K C
 is:∀ i n,names[i]?=some n->PySem.W.kitOne K (.ref C) (.ref (cls n))=some (decide (i=j))
 ve:PySem.W.kitOne K (.ref C) (.type "ValueError")=some true
 ox:∃ bm,x2d base C bm/\bm.contains (.ref (cls "PlanError"))=true
 lt:j<11
inductive x4r (K:PySem.W.Frag) (base:Heap) (cls:Str->Addr) (names:List Str) (vs:List V) (H:Hp) (Q:VK) (z_3:XK):Prop
 | mk (ea C j:_) (h0:vs=[.ref ea]) (h1:H ea=some (w7E ea C)) (h2:Xf K base cls names C j) (h3:∀ t H',q29 H H'->H t=none->H' t=some (.tup [.str "refused",.int (j:Nat)])->Q (.ref t) H'):x4r K base cls names vs H Q z_3
def x6i (K:PySem.W.Frag) (base:Heap) (cls:Str->Addr) (names:List Str):Sp:=x4r K base cls names
def x0L (j:Nat):List Bool:=[decide (0=j),decide (1=j),decide (2=j),decide (3=j),decide (4=j),decide (5=j),decide (6=j),decide (7=j),decide (8=j),decide (9=j),decide (10=j)]
theorem w67:∀ j,j<11->(x0L j).countP id=1:=by
 intro j h
 have:∀ k:_root_.Fin 11,(x0L k.val).countP id=1:=by decide
 exact this ⟨j,h⟩
theorem x2A:∀ j,j<11->(x0L j)[j]?=some true/\∀ m,m<j->(x0L j)[m]?=some false:=by
 intro j h
 have:∀ k:_root_.Fin 11,(x0L k.val)[k.val]?=some true/\∀ m:_root_.Fin 11,m.val<k.val->(x0L k.val)[m.val]?=some false:=by decide
 exact ⟨(this ⟨j,h⟩).1,fun m hm=>(this ⟨j,h⟩).2 ⟨m,by omega⟩ hm⟩
section
variable {X:Cx}{cls:Str->Addr}{names:List Str}{base:Heap}
theorem q4c {e0:Expr}{n:Str}{p p2 pos:Pos} (h0:PE X e0 (x3d 0)) (hg:Gl X "isinstance") (hm:X.mg "isinstance"=none) (hgn:Gl X n) (hmn:X.mg n=some (.ref (cls n))) (hdb:(n == ("__debug__" : Str))=false:=by decide)
  (he:starEach [e0,.Name n p2] X.env=(false,eval e0 X.env)::starEach [.Name n p2] X.env:=by rfl) (hpl:(backTo pos (starEach [.Name n p2] X.env)).any (·.1)=false:=by rfl) :
  PE X (.Call (.Name "isinstance" p) [e0,.Name n p2] [] pos) (fun σ H Q=>∃ ea C j i,σ[0]?=some (some (V.ref ea))/\H ea=some (w7E ea C)/\Xf X.K base cls names C j/\names[i]?=some n/\Q (.bl (decide (i=j))) H) :=
 mPE (q4B q86 hg hm PyProof.Rows.boot_isinstance (q0t h0 (q0t (w2Y hgn hmn (v:=.ref (cls n)) rfl hdb) q1o) he) (by decide) (by decide) he hpl) fun σ H Q ⟨ea,C,j,i,h1,h2,x,h3,q⟩ =>
  ⟨_,h1,.ref ea,.ref (cls n),.ref (cls n),_,rfl,.inr ⟨_,rfl,rfl⟩,.inr ⟨ea,C,rfl,h2,x.ek,x.is i n h3⟩,q⟩
theorem x2B {e0:Expr}{p p2 pos:Pos} (h0:PE X e0 (x3d 0)) (hg:Gl X "isinstance") (hm:X.mg "isinstance"=none) (hgn:Gl X "ValueError") (hmn:X.mg "ValueError"=none)
  (he:starEach [e0,.Name "ValueError" p2] X.env=(false,eval e0 X.env)::starEach [.Name "ValueError" p2] X.env:=by rfl) (hpl:(backTo pos (starEach [.Name "ValueError" p2] X.env)).any (·.1)=false:=by rfl) :
  PE X (.Call (.Name "isinstance" p) [e0,.Name "ValueError" p2] [] pos) (fun σ H Q=>∃ ea C j,σ[0]?=some (some (V.ref ea))/\H ea=some (w7E ea C)/\Xf X.K base cls names C j/\Q (.bl true) H) :=
 mPE (q4B q86 hg hm PyProof.Rows.boot_isinstance (q0t h0 (q0t (w72 hgn hmn (u:=.type "ValueError") (v:=.ty "ValueError") rfl rfl) q1o) he) (by decide) (by decide) he hpl) fun σ H Q ⟨ea,C,j,h1,h2,x,q⟩ =>
  ⟨_,h1,.ref ea,.ty "ValueError",.type "ValueError",_,rfl,.inl ⟨_,rfl,rfl⟩,.inr ⟨ea,C,rfl,h2,x.ek,x.ve⟩,q⟩
end
end J
end
section
namespace J
open PySem L2
def x3l (wh:Str->Option Nat) (gb:Rho->R Fl):Rho->R Fl:=fun ρ=>match gb ρ with
 | .ok fl=>.ok fl
 | .ex y none=>match wh y with
  | some j=>.ok (.rt (.tuple [.str "refused",.int (j:Nat)]))
  | none=>.no
 | _=>.no
structure Wh (P:Program) (w:World) (K:PySem.W.Frag) (mg:Str->Option Value) (base:Heap) (cls:Str->Addr) (x:Str) (names:List Str) (wh:Str->Option Nat):Prop where
 fn:∃ f fd ps,w7H P w K mg base 1 f fd ps (x6i K base cls names)/\mg x=some (.ref f)/\PySem.W.keepIn K (.ref f)=true/\q1p K fd ps []
 pe:mg "PlanError"=some (.ref (cls "PlanError"))
 ox:∃ bp,x2d base (cls "PlanError") bp
 xf:∀ y j,wh y=some j->Xf K base cls names (cls y) j
section
variable {c:C}{body:List Stmt}{x n:Str}{np np2 np3 hpos cpos rpos pos:Pos}{gb:Rho->R Fl}{names:List Str}{wh:Str->Option Nat}
end
end J
namespace L2
open PySem
theorem q4Z.mono1 {k:Nat}{A:Around} (r:q4Z k A) (h:1<=k:=by decide):q4Z 1 A:=⟨by have:=r.dp;omega,by have:=r.un;omega⟩
end L2
end
section
namespace J
open PySem L2
open PyProof.Rows (OwnCls)
abbrev q8j:List Value:=[.type "ValueError",.type "Exception",.type "BaseException",.type "object"]
theorem w1L {K:PySem.W.Frag}{h:Heap}{mg:Str->Option Value}{x:Str}{C:Addr}{bmB:List Value}{newId:String} (X:K.In h) (G:h.Ns mainGlobals mg) (e:PySem.W.nsIn K mainGlobals x=some (some (.ref C))) (q:PySem.W.excIn K C bmB newId=true) (m1:PySem.W.mroIn K C (.type "BaseException")=some true) :
  OwnCls x C bmB newId mg h/\∃ bm,x2d h C bm/\∀ v,(v == Value.ref C)=false->PySem.W.mroIn K C v=some true->bm.contains v=true:=by
 have hmg:=PySem.W.mg_of X G e
 unfold PySem.W.excIn at q
 split at q
 ·rename_i dd cd sl look
  split at q
  ·rename_i C' bm k0 k1 k2 k3 n k5 hmro hslots
   simp only [Bool.and_eq_true,beq_iff_eq,Bool.not_eq_true'] at q
   obtain ⟨⟨⟨⟨⟨rfl,rfl⟩,nodel⟩,tl⟩,nsok⟩,noinit⟩:=q
   have slots:sl=#[k0,k1,k2,k3,some (.builtin n),k5]:=by
    cases sl with | mk l=>simp only at hslots;rw [hslots]
   have inMro:∀ v,PySem.W.mroIn K C' v=some true->cd.mro.contains v=true:=fun v hv=>by
    unfold PySem.W.mroIn PySem.W.clsIn at hv
    rw [look] at hv
    simp only [Option.bind_some] at hv
    split at hv
    ·cases hv
    ·exact Option.some.inj hv
   have q0V:∀ v,(v == Value.ref C')=false->PySem.W.mroIn K C' v=some true->bm.contains v=true:=fun v nv hv=>by
    have:=inMro v hv
    rw [hmro,List.contains_cons,nv,Bool.false_or] at this
    exact this
   obtain ⟨nm,bs,mro,ns,qn,hd,sn,sub,ab,col,del⟩:=cd
   dsimp only at hmro nodel nsok noinit
   subst hmro nodel slots
   have at_:=X _ _ look
   exact ⟨⟨hmg,bm,ns,nm,qn,bs,hd,sn,sub,ab,col,dd,k0,k1,k2,k3,k5,_,at_,.of_isNs (PySem.W.isNs_of_in X nsok),PySem.W.nsMap_none_of_in X nsok noinit,PySem.W.tail_of_in X tl⟩,
    bm,⟨⟨nm,qn,ns,bs,hd,sn,sub,ab,col,dd,k0,k1,k2,k3,k5,n,at_⟩,q0V _ rfl m1⟩,q0V⟩
  ·cases q
 ·cases q
structure x4s (K:PySem.W.Frag) (x:Str) (C:Addr):Prop where
 ns:PySem.W.nsIn K mainGlobals x=some (some (.ref C))
 ex:PySem.W.excIn K C q8j "ValueError.__new__"=true
 mb:PySem.W.mroIn K C (.type "BaseException")=some true
theorem x4s.er {K:PySem.W.Frag}{h:Heap}{mg:Str->Option Value}{cls:Str->Addr}{x:Str}{C:Addr} (T:x4s K x C) (X:K.In h) (G:h.Ns mainGlobals mg) (hc:cls x=C):Er mg h cls x:=by
 subst hc
 exact ⟨_,_,_,_,(w1L X G T.ns T.ex T.mb).1,PySem.F.excBase_ValueError⟩
theorem q0D {K:PySem.W.Frag}{t C:Addr}{cd:ClassData}{b:Bool} (h1:PySem.W.clsIn K C=some cd) (h2:PySem.W.typeIn K (.ref C)=some (.type "type")) (h3:PySem.W.subIn K (.ref t) (.ref C)=some b) (hn:b=false->t≠C):PySem.W.kitOne K (.ref t) (.ref C)=some b:=by
 unfold PySem.W.kitOne
 split
 ·rename_i he
  have e:t=C:=by have:=eq_of_beq he;cases this;rfl
  cases b with
  | true=>rfl
  | false=>exact (hn rfl e).elim
 ·unfold PySem.W.kitCls
  simp only [h1,h2,Option.isSome_some,beq_self_eq_true,Bool.and_self,if_true]
  exact h3
theorem w8b {K:PySem.W.Frag}{t:Addr} (h3:PySem.W.subIn K (.ref t) (.type "ValueError")=some true):PySem.W.kitOne K (.ref t) (.type "ValueError")=some true:=by
 unfold PySem.W.kitOne
 split
 ·rename_i he
  cases (eq_of_beq he)
 ·unfold PySem.W.kitCls
  show (if PySem.W.kitMeta "ValueError"=true then _ else none)=some true
  rw [if_pos (by decide +kernel)]
  exact h3
inductive x6U (K:PySem.W.Frag) (F:List D->R D) (vs:List V) (H:Hp) (Q:VK) (z_3:XK):Prop
 | mk (Hs ds d:_) (h0:q29 Hs H) (h1:ds.length=1) (h2:RDs K Hs vs ds) (h3:F ds=.ok d) (h4:∀ v H' Hs',q1I H Hs H' Hs'->RD K Hs' v d->Q v H'):x6U K F vs H Q z_3
def spO (K:PySem.W.Frag) (F:List D->R D):Sp:=x6U K F
theorem x4t {K:PySem.W.Frag}{cls:Str->Addr}{F:List D->R D}:∀ vs H Q E,spO K F vs H Q E->spF K cls 1 F vs H Q E:=fun vs H Q E ⟨Hs,ds,d,s,l,r,e,q⟩=>⟨Hs,ds,s,l,r,by rw [e];exact q⟩
def x6j (l:List (Str×Addr)):Str->Addr:=fun x=>(l.lookup x).getD 0
theorem sp_law {K:PySem.W.Frag}{F:List D->R D}{H:Hp}{a:Addr}{ns:List Int} (hF:F [.list (ns.map .int)]=.ok (.bool true)) (h:SqL K H a (ns.map V.int)):spO K F [.ref a] H (fun v _=>v=.bl true) fun _ _ _=>False:=by
 have ri:∀ ns:List Int,RDs K H (ns.map V.int) (ns.map .int):=fun ns=>by
  induction ns with
  | nil=>exact .nil
  | cons x r ih=>exact .cons (.int x) ih
 refine ⟨H,[.list (ns.map .int)],.bool true,.refl H,rfl,.cons (.list h (ri ns)) .nil,hF,?_⟩
 intro v H' Hs' _ r
 cases r
 rfl
theorem x4u {P:Program}{w:World}{H:Hp}{s:Shared}{e:Value}{s':Shared} (h:CXR P w [] H s (fun _ _ _=>False) e s'):False:=by
 obtain ⟨_,_,_,_,_,_,_,_,_,q⟩:=h
 exact q
theorem x6k {l:PySem.W.OpenLaw}{k:Nat}{q:Program}{loose:List Str}{XP:(Str->Option Value)->Heap->Prop}{YP:World->Heap->Prop}{d:DefRec}{K:Params->PySem.W.Frag}{x:Str}{F0:List D->R D}
  (hn:l.most=some 63) (hdf:d.params.defaults=[]) (hr:q6d k callerA) (hY:∀ (w:World) (h:Heap),YP w h->(K w.params).In h)
  (F:∀ (w:World) (mg:Str->Option Value) (fa:Addr) (h:Heap),(K w.params).In h->h.Ns mainGlobals mg->mg d.name=some (.ref fa) ->
   ∃ fd:FuncData,(∀ (s:Shared) (u:Value),BindsTo s fd ⟨[u],[]⟩ [(x,u)])/\∀ base:Heap,(K w.params).In base->base.Ns mainGlobals mg->w2R l.prog w (K w.params) mg base (CXR l.prog w) k fa fd [x] (spO (K w.params) F0))
  (hF:∀ ns:List Int,ns.length<=63->F0 [.list (ns.map .int)]=.ok (.bool true)) :
  PySem.W.WalkO q loose XP YP l.row.toRowW d [] (fun f vs=>PySem.call f vs) :=
 L2.w7l (n:=63) (k:=k) (x:=x) (CX:=fun w=>CXR l.prog w) (sp:=fun w=>spO (K w.params) F0) hn (by decide) hdf hr hY F (fun w H a ns hl _ hS=>sp_law (hF ns hl) hS) fun _ _ _ _ _ h=>x4u h
def gAt (i:Nat) (g:Rho->R Fl):Rho->R Fl:=fun ρ=>g (shareAt i ρ)
theorem x0M {c:C} (i:Nat) {st:Stmt}{gs:Rho->R Fl} (h:JS c st gs):JS c st (gAt i gs):=w66 i h
end J
end
section
namespace J
open PySem L2
section
variable {s:Sl}{ρ:Rho}{d x y:D}{ds:List D}
theorem w9L {α β:Type} (a:α) (f:α->R β):(R.ok a).bind f=f a:=id rfl
theorem x6V {α β:Type} (f:α->R β):(R.no:R α).bind f=.no:=id rfl
def x4v (h:Rho->R Fl):Fl->R Fl:=fun fl=>match fl with
 | .nx ρ'=>h ρ'
 | fl=>.ok fl
theorem w8c (g h:Rho->R Fl):q0n g h (s::ρ)=(g (s::ρ)).bind (x4v h):=id rfl
theorem q5O (h:Rho->R Fl) (ρ:Rho):x4v h (.nx ρ)=h ρ:=id rfl
theorem w5g (h:Rho->R Fl) (d:D):x4v h (.rt d)=.ok (.rt d):=id rfl
def ifK (g h:Rho->R Fl) (ρ:Rho):Bool->R Fl:=fun b=>bif b then g ρ else h ρ
theorem x6W (t:Rho->R Bool) (g h:Rho->R Fl):q3b t g h (s::ρ)=(t (s::ρ)).bind (ifK g h (s::ρ)):=by
 show (t (s::ρ)).bind _=_
 congr 1
 funext b
 cases b<;>rfl
theorem x0N (g h:Rho->R Fl) (ρ:Rho):ifK g h ρ false=h ρ:=id rfl
theorem w9M (g h:Rho->R Fl) (ρ:Rho) (b:Bool):ifK g h ρ b=bif b then g ρ else h ρ:=id rfl
def rtK:D->R Fl:=fun d=>.ok (.rt d)
theorem x4w (g:Rho->R D):q2l g (s::ρ)=(g (q0S (s::ρ))).bind rtK:=id rfl
theorem x6X (d:D):rtK d=.ok (.rt d):=id rfl
def w1M:Sl->Sl
 | .own d=>.shr d
 | .ow2 dss=>.shr (.list (dss.map .list))
 | s=>s
theorem w8d:q0S (s::ρ)=w1M s::q0S ρ:=by cases s<;>rfl
theorem w5h:q0S []=[]:=id rfl
theorem w8e:w1M .no=.no:=id rfl
theorem w5i (d:D):w1M (.shr d)=.shr d:=id rfl
theorem w5j (d:D):w1M (.own d)=.shr d:=id rfl
theorem w5k (d:List (List D)):w1M (.ow2 d)=.shr (.list (d.map .list)):=id rfl
def x6Y (i:Nat) (ρ:Rho):D->R Fl:=fun d=>.ok (.nx (ρ.set i (.shr d)))
theorem x2C (i:Nat) (g:Rho->R D):q4b i g (s::ρ)=(g (s::ρ)).bind (x6Y i (s::ρ)):=id rfl
theorem x0O (i:Nat) (ρ:Rho) (d:D):x6Y i ρ d=.ok (.nx (ρ.set i (.shr d))):=id rfl
def x4x (i:Nat) (ρ:Rho):D->R Fl:=fun d=>.ok (.nx (ρ.set i (.own d)))
theorem x0P (i:Nat) (g:Rho->R D):q3I i g (s::ρ)=(g (s::ρ)).bind (x4x i (s::ρ)):=id rfl
theorem w8f (i:Nat) (ρ:Rho) (d:D):x4x i ρ d=.ok (.nx (ρ.set i (.own d))):=id rfl
def x1X (ρ:Rho):D->R Fl:=fun _=>.ok (.nx ρ)
theorem x0Q (g:Rho->R D):w62 g (s::ρ)=(g (s::ρ)).bind (J.x1X (s::ρ)):=id rfl
theorem w8g (ρ:Rho) (d:D):J.x1X ρ d=.ok (.nx ρ):=id rfl
def g2K (gb:Rho->R D) (h:D->D->R D) (ρ:Rho):D->R D:=fun x=>(gb ρ).bind (h x)
theorem x6Z (ga gb:Rho->R D) (h:D->D->R D):g2 ga gb h (s::ρ)=(ga (s::ρ)).bind (g2K gb h (s::ρ)):=id rfl
theorem x4y (gb:Rho->R D) (h:D->D->R D) (ρ:Rho) (x:D):g2K gb h ρ x=(gb ρ).bind (h x):=id rfl
def x5B:D->R Bool:=fun d=>match d with
 | .bool b=>.ok b
 | _=>.no
theorem x4z (g:Rho->R D):asB g (s::ρ)=(g (s::ρ)).bind x5B:=id rfl
theorem x0R (b:Bool):x5B (.bool b)=.ok b:=id rfl
def x70:Bool->R Bool:=fun b=>.ok (!b)
theorem x4A (g:Rho->R Bool):q9L g (s::ρ)=(g (s::ρ)).bind x70:=id rfl
theorem x0S (b:Bool):x70 b=.ok (!b):=id rfl
def x71 (h:Rho->R Bool) (ρ:Rho):Bool->R Bool:=fun b=>bif b then h ρ else .ok false
def orK (h:Rho->R Bool) (ρ:Rho):Bool->R Bool:=fun b=>bif b then .ok true else h ρ
theorem x4B (g h:Rho->R Bool):x2l g h (s::ρ)=(g (s::ρ)).bind (x71 h (s::ρ)):=by
 show (g (s::ρ)).bind _=_
 congr 1;funext b;cases b<;>rfl
theorem x72 (g h:Rho->R Bool):gOr g h (s::ρ)=(g (s::ρ)).bind (orK h (s::ρ)):=by
 show (g (s::ρ)).bind _=_
 congr 1;funext b;cases b<;>rfl
theorem x0T (h:Rho->R Bool) (ρ:Rho) (b:Bool):x71 h ρ b=bif b then h ρ else .ok false:=id rfl
theorem x4C (h:Rho->R Bool) (ρ:Rho) (b:Bool):orK h ρ b=bif b then .ok true else h ρ:=id rfl
def x4D:Bool->R D:=fun b=>.ok (.bool (!b))
theorem x0U (g:Rho->R D):w9B g (s::ρ)=((g (s::ρ)).bind x5B).bind x4D:=id rfl
theorem w8h (b:Bool):x4D b=.ok (.bool (!b)):=id rfl
def x4E (h:Rho->R D) (ρ:Rho):Bool->R D:=fun b=>bif b then h ρ else .ok (.bool false)
theorem x0V (g h:Rho->R D):w7O g h (s::ρ)=((g (s::ρ)).bind x5B).bind (x4E h (s::ρ)):=by
 show (asB g (s::ρ)).bind _=(asB g (s::ρ)).bind _
 congr 1;funext b;cases b<;>rfl
theorem w8i (h:Rho->R D) (ρ:Rho) (b:Bool):x4E h ρ b=bif b then h ρ else .ok (.bool false):=id rfl
def x7O (g h:Rho->R D) (ρ:Rho):Bool->R D:=fun b=>bif b then g ρ else h ρ
theorem x4F (t:Rho->R Bool) (g h:Rho->R D):gIf t g h (s::ρ)=(t (s::ρ)).bind (x7O g h (s::ρ)):=by
 show (t (s::ρ)).bind _=_
 congr 1;funext b;cases b<;>rfl
def x73 (gb gc:Rho->R D) (h h':D->D->R D) (ρ:Rho):D->R D:=fun x=>(gb ρ).bind fun y=>(h x y).bind fun z=>match z with
 | .bool true=>(gc ρ).bind fun w=>h' y w
 | .bool false=>.ok (.bool false)
 | _=>.no
def x74 (gc:Rho->R D) (h h':D->D->R D) (ρ:Rho) (x:D):D->R D:=fun y=>(h x y).bind fun z=>match z with
 | .bool true=>(gc ρ).bind fun w=>h' y w
 | .bool false=>.ok (.bool false)
 | _=>.no
def x75 (gc:Rho->R D) (h':D->D->R D) (ρ:Rho) (y:D):D->R D:=fun z=>match z with
 | .bool true=>(gc ρ).bind (h' y)
 | .bool false=>.ok (.bool false)
 | _=>.no
theorem w8j (ga gb gc:Rho->R D) (h h':D->D->R D):q7b ga gb gc h h' (s::ρ)=(ga (s::ρ)).bind (x73 gb gc h h' (s::ρ)):=id rfl
theorem x0W (gb gc:Rho->R D) (h h':D->D->R D) (ρ:Rho) (x:D):x73 gb gc h h' ρ x=(gb ρ).bind (x74 gc h h' ρ x):=id rfl
theorem x0X (gc:Rho->R D) (h h':D->D->R D) (ρ:Rho) (x y:D):x74 gc h h' ρ x y=(h x y).bind (x75 gc h' ρ y):=id rfl
theorem x0Y (gc:Rho->R D) (h':D->D->R D) (ρ:Rho) (y:D) (b:Bool):x75 gc h' ρ y (.bool b)=bif b then (gc ρ).bind (h' y) else .ok (.bool false):=by cases b<;>rfl
def x0Z (gs:Rho->R (List D)) (ρ:Rho):D->R (List D):=fun d=>(gs ρ).bind fun ds=>.ok (d::ds)
def x10 (d:D):List D->R (List D):=fun ds=>.ok (d::ds)
theorem x11 (g:Rho->R D) (gs:Rho->R (List D)):J.q01 g gs (s::ρ)=(g (s::ρ)).bind (x0Z gs (s::ρ)):=id rfl
theorem w5l (gs:Rho->R (List D)) (ρ:Rho) (d:D):x0Z gs ρ d=(gs ρ).bind (x10 d):=id rfl
theorem w5m (d:D) (ds:List D):x10 d ds=.ok (d::ds):=id rfl
theorem x4G (ρ:Rho):J.q0k ρ=.ok []:=id rfl
def x4H (k:List D->D):List D->R D:=fun ds=>if ds.length<=1000 then .ok (k ds) else .no
theorem x12 (gs:Rho->R (List D)) (k:List D->D):q1Y gs k (s::ρ)=(gs (s::ρ)).bind (x4H k):=id rfl
theorem w8k (k:List D->D) (ds:List D):x4H k ds=if ds.length<=1000 then .ok (k ds) else .no:=id rfl
theorem x13 (gs:Rho->R (List D)) (h:List D->R D):q0J gs h (s::ρ)=(gs (s::ρ)).bind h:=id rfl
def fnK (n:Nat) (F:List D->R D):List D->R D:=fun ds=>if ds.length=n then F ds else .no
theorem x76 (n:Nat) (F:List D->R D) (gs:Rho->R (List D)):gFn n F gs (s::ρ)=(gs (s::ρ)).bind (fnK n F):=id rfl
theorem x4I (n:Nat) (F:List D->R D) (ds:List D):fnK n F ds=if ds.length=n then F ds else .no:=id rfl
theorem x4J (h:D->R D) (d:D):on1 h [d]=h d:=id rfl
theorem x14 (d:D) (ρ:Rho):rdS (.shr d::ρ) 0=.ok d:=id rfl
theorem x4K (s:Sl) (ρ:Rho) (n:Nat):rdS (s::ρ) (n + 1)=rdS ρ n:=by simp [rdS]
theorem x15 (d:D) (ρ:Rho):rdB (.shr d::ρ) 0=.ok d:=id rfl
theorem x16 (d:D) (ρ:Rho):rdB (.own d::ρ) 0=.ok d:=id rfl
theorem x4L (s:Sl) (ρ:Rho) (n:Nat):rdB (s::ρ) (n + 1)=rdB ρ n:=by simp [rdB]
def x77 (T:String):D->R D:=fun d=>if noD d then .ok (.bool (w7X T d)) else .no
theorem x4M (g:Rho->R D) (T:String):w7Y g T (s::ρ)=(g (s::ρ)).bind (x77 T):=id rfl
theorem x17 (T:String) (d:D):x77 T d=if noD d then .ok (.bool (w7X T d)) else .no:=id rfl
def x78 (gl gh:Rho->R (Option Int)) (ρ:Rho):D->R D:=fun x=>(gl ρ).bind fun l=>(gh ρ).bind fun h=>slD x l h
def x79 (gh:Rho->R (Option Int)) (ρ:Rho) (x:D):Option Int->R D:=fun l=>(gh ρ).bind fun h=>slD x l h
theorem x7a (g:Rho->R D) (gl gh:Rho->R (Option Int)):gSl g gl gh (s::ρ)=(g (s::ρ)).bind (x78 gl gh (s::ρ)):=id rfl
theorem x18 (gl gh:Rho->R (Option Int)) (ρ:Rho) (x:D):x78 gl gh ρ x=(gl ρ).bind (x79 gh ρ x):=id rfl
theorem x19 (gh:Rho->R (Option Int)) (ρ:Rho) (x:D) (l:Option Int):x79 gh ρ x l=(gh ρ).bind (slD x l):=id rfl
theorem x4N (ρ:Rho):goN ρ=.ok none:=id rfl
def x7b:D->R (Option Int):=fun d=>match d with
 | .int i=>.ok (some i)
 | _=>.no
theorem x4O (g:Rho->R D):goS g (s::ρ)=(g (s::ρ)).bind x7b:=id rfl
theorem x1a (i:Int):x7b (.int i)=.ok (some i):=id rfl
theorem x6l (g:Rho->R D):gIt g (s::ρ)=(g (s::ρ)).bind w1I:=id rfl
theorem x1b (gs:Rho->R (List D)):w64 gs (s::ρ)=(gs (s::ρ)).bind x2u:=id rfl
theorem x4P (gs:Rho->R (List D)):x2v gs (s::ρ)=(gs (s::ρ)).bind enm:=id rfl
theorem x4Q (gs:Rho->R (List D)):x5z gs (s::ρ)=(gs (s::ρ)).bind zp:=id rfl
def x4R (nt:Nat) (ix:List Nat) (gt:Rho->R Bool) (ge:Rho->R D) (ρ:Rho):List D->R D:=fun ds=>if ds.length<=1000 then (q2J (q2S nt (q9P nt ix ρ) gt ge) ds).bind fun ys=>.ok (.list ys) else .no
def x4S:List D->R D:=fun ys=>.ok (.list ys)
theorem x1c (nt:Nat) (ix:List Nat) (gi:Rho->R (List D)) (gt:Rho->R Bool) (ge:Rho->R D):q1S nt ix gi gt ge (s::ρ)=(gi (s::ρ)).bind (x4R nt ix gt ge (s::ρ)):=id rfl
theorem w8l (nt:Nat) (ix:List Nat) (gt:Rho->R Bool) (ge:Rho->R D) (ρ:Rho) (ds:List D):x4R nt ix gt ge ρ ds=if ds.length<=1000 then (q2J (q2S nt (q9P nt ix ρ) gt ge) ds).bind x4S else .no:=id rfl
theorem w8m (ys:List D):x4S ys=.ok (.list ys):=id rfl
theorem w1N (gi:Rho->R (List D)) (kt:D->Rho->R Rho) (gb:Rho->R Fl) (ds:List D) (h:gi (s::ρ)=.ok ds):w6V gi kt gb (s::ρ)=w2T kt gb ds (s::ρ):=by unfold w6V;rw [h]
def x5C (k:D->Rho->R Rho) (ρ:Rho):D->R Fl:=fun d=>match k d ρ with
 | .ok ρ'=>.ok (.nx ρ')
 | _=>.no
theorem x4T (g:Rho->R D) (k:D->Rho->R Rho):x0G g k (s::ρ)=(g (s::ρ)).bind (x5C k (s::ρ)):=id rfl
theorem w1O (ds:List D):w1I (.list ds)=.ok ds:=id rfl
theorem w1P (ds:List D):w1I (.tuple ds)=.ok ds:=id rfl
theorem w1Q (x:Str):w1I (.str x)=.ok (q4Q x):=id rfl
theorem x1d (ds:List D):enm [.tuple ds]=.ok (q7s 0 ds):=id rfl
theorem x7c (ds es:List D):zp [.tuple ds,.tuple es]=.ok (w6U ds es):=id rfl
def w68 (ρ:Rho) (i:Nat):Sl:=see ((ρ[i]?).getD .no)
def x4U (ix:List Nat) (ρ:Rho):Rho:=ix.map (w68 ρ)
theorem x1e (ix:List Nat) (ρ:Rho):q9P 1 ix ρ=.no::x4U ix ρ:=id rfl
theorem x1f (ix:List Nat) (ρ:Rho):q9P 2 ix ρ=.no::.no::x4U ix ρ:=id rfl
theorem x1g (ρ:Rho):x4U [] ρ=[]:=id rfl
theorem x1h (i:Nat) (ix:List Nat) (ρ:Rho):x4U (i::ix) ρ=w68 ρ i::x4U ix ρ:=id rfl
theorem x1i (s:Sl) (ρ:Rho):w68 (s::ρ) 0=see s:=id rfl
theorem x1j (s:Sl) (ρ:Rho) (n:Nat):w68 (s::ρ) (n + 1)=w68 ρ n:=by simp [w68]
theorem w1R (d:D):see (.shr d)=.shr d:=id rfl
theorem x1k {i:Nat}{ρ:Rho}{d:D} (h:ρ[i]?=some (Sl.own d)):shareAt i ρ=ρ.set i (.shr d):=by unfold shareAt;rw [h]
theorem q0T {α:Type} (f:D->R (Option D)) (c:α->D) (h:α->D):∀ (xs:List α),(∀ x∈xs,f (c x)=.ok (some (h x)))->q2J f (xs.map c)=.ok (xs.map h)
 | [],_=>rfl
 | x::r,e=>by
  rw [List.map_cons,List.map_cons]
  unfold q2J
  rw [e x List.mem_cons_self,bind_ok,q0T f c h r fun y hy=>e y (List.mem_cons_of_mem _ hy),bind_ok]
theorem q2L {α:Type} (f:D->R (Option D)) (c:α->D) (h:α->D) (p:α->Bool):∀ (xs:List α),(∀ x∈xs,f (c x)=.ok (if p x then some (h x) else none))->q2J f (xs.map c)=.ok ((xs.filter p).map h)
 | [],_=>rfl
 | x::r,e=>by
  rw [List.map_cons]
  unfold q2J
  rw [e x List.mem_cons_self,bind_ok,q2L f c h p r fun y hy=>e y (List.mem_cons_of_mem _ hy),bind_ok]
  cases hp:p x<;>simp [hp]
theorem x4V {ρ:Rho}{gt:Rho->R Bool}{ge:Rho->R D}{d:D}:q2S 1 ρ gt ge d=x3i (((gt (ρ.set 0 (.shr d)))).bind fun b=>if b then (ge (ρ.set 0 (.shr d))).bind fun y=>.ok (some y) else .ok none):=id rfl
theorem q1v {ρ:Rho}{gt:Rho->R Bool}{ge:Rho->R D}{d y:D} (h1:gt (ρ.set 0 (.shr d))=.ok true) (h2:ge (ρ.set 0 (.shr d))=.ok y):q2S 1 ρ gt ge d=.ok (some y):=by
 rw [x4V,h1,bind_ok,if_pos rfl,h2];rfl
theorem w0v {ρ:Rho}{gt:Rho->R Bool}{ge:Rho->R D}{d y:D}{b:Bool} (h1:gt (ρ.set 0 (.shr d))=.ok b) (h2:b=true->ge (ρ.set 0 (.shr d))=.ok y):q2S 1 ρ gt ge d=.ok (if b then some y else none):=by
 rw [x4V,h1,bind_ok]
 cases b with
 | true=>rw [if_pos rfl,h2 rfl];rfl
 | false=>rfl
theorem x2D {j:Int} (h1:-(2 ^ 62)<=j) (h2:j<2 ^ 62):x2u [.int j]=.ok (q7e 0 j.toNat):=by
 have h:-(2 ^ 62)<=j/\j<2 ^ 62:=⟨h1,h2⟩
 unfold x2u
 split
 ·rename_i j' e
  have e':j=j':=by injection e with e;injection e
  subst e'
  rw [if_pos h]
 ·rename_i hn
  exact (hn j rfl).elim
end
end J
end
section
namespace L2
open PySem PySem.Spec PyProof.Rows
theorem w9N {X:Cx}{CX:CXT}{k i:Nat}{f:Addr}{fd:FuncData}{ps:List Str}{sp:Sp}{x:Str}{p pos:Pos}{e:Expr}{es:List Expr}{t:TA}{E:XK}{ds:List Value}{dvs:List V}
  (F:w2R X.prog X.w X.K X.mg X.base CX k f fd ps sp) (hr:q6d k X.A) (hN:X.N[i]?=some x) (hv:Vis X.env.scope x) (hk:PySem.W.keepIn X.K (.ref f)=true) (hb:q1p X.K fd ps ds) (hd:q1x dvs ds) (hx:q0R CX X E)
  (ha:PA X (e::es) t) (hdb:(x == ("__debug__" : Str))=false:=by decide) (hcd:(x == ("__classdict__" : Str))=false:=by decide) (he:starEach (e::es) X.env=(false,eval e X.env)::starEach es X.env:=by rfl) (hpl:(backTo pos (starEach es X.env)).any (·.1)=false:=by rfl) :
  PE X (.Call (.Name x p) (e::es) [] pos) (fun σ H Q=>σ[i]?=some (some (V.ref f))/\w9c sp dvs E t σ H Q):=by
 intro pins s σ H Q I ⟨hi,h⟩
 refine wpAny_Call_Name_kw (thn (q5C hN hv hdb hcd pins s σ H (fun v H'=>v=V.ref f/\H'=H) I ⟨.ref f,hi,rfl,rfl⟩) fun u s0 ⟨v,H0,I0,r0,ev,eh⟩=>?_)
 subst ev eh
 cases r0
 refine PySem.W.callWith_K (h₀:=X.base) I0.ok.mod.kin hk (thn (ha pos pins s0 σ H0 _ I0 h) fun us s1 ⟨vs,H1,I1,r,q⟩=>⟨I1.kIn,?_⟩) he hpl
 exact x0p F hr hb hd hx I1 r q
end L2
namespace J
open PySem L2
open PyProof.Rows (envOfC)
def w69 (wh:Str->Option Nat):R D->R D
 | .ok d=>.ok d
 | .ex y none=>match wh y with
  | some j=>.ok (.tuple [.str "refused",.int (j:Nat)])
  | none=>.no
 | _=>.no
def q7t (wh:Str->Option Nat) (F:List D->R D):List D->R D:=fun ds=>w69 wh (F ds)
def spT (K:PySem.W.Frag) (cls:Str->Addr) (n:Nat) (a:Addr) (F:List D->R D):Sp:=fun vs H Q E=>∃ vs',vs=V.ref a::vs'/\spF K cls n F vs' H Q E
structure FnT (P:Program) (w:World) (K:PySem.W.Frag) (mg:Str->Option Value) (base:Heap) (cls:Str->Addr) (x y:Str) (k n:Nat) (F:List D->R D):Prop where
 ex:∃ f fd ps a,w2R P w K mg base (CXR P w) k f fd ps (spT K cls n a F)/\mg x=some (.ref f)/\PySem.W.keepIn K (.ref f)=true/\q1p K fd ps []/\mg y=some (.ref a)
section
variable {c:C}{e a b:Expr}{g ga gb:Rho->R D}{pos rpos:Pos}{es:List Expr}{gs:Rho->R (List D)}{x y:Str}{p q:Pos}
theorem q8k {k n:Nat}{F:List D->R D} (G:FnT c.X.prog c.X.w c.X.K c.X.mg c.X.base c.cls x y k n F) (hr:q6d k c.X.A) (hg:Gl c.X x) (hgy:Gl c.X y) (hx:q0R (CXR c.X.prog c.X.w) c.X c.E) (ha:JAs c es gs)
  (hdb:(x == ("__debug__" : Str))=false:=by decide) (hdy:(y == ("__debug__" : Str))=false:=by decide) (he:starEach (.Name y q::es) c.X.env=(false,eval (.Name y q) c.X.env)::starEach es c.X.env:=by rfl) (hpl:(backTo pos (starEach es c.X.env)).any (·.1)=false:=by rfl) :
  JE c (.Call (.Name x p) (.Name y q::es) [] pos) (gFn n F gs):=.of fun ρ=>by
 obtain ⟨f,fd,ps,a,hf,hm,hk,hb,hy⟩:=G.ex
 refine mPE (w7e (E:=c.E) hf hr hg hm hk hb .nil hx (q0t (w2Y (v:=.ref a) hgy hy rfl hdy) (ha ρ) he) hdb he hpl) fun σ H Q h_0=>?_
 obtain ⟨H0,Hs0,la,Hs,fr,q⟩:=h_0
 show TAs c.X.K c.cls c.E ρ (gs ρ) σ H fun xs H2=>spT c.X.K c.cls n a F (V.ref a::xs++[]) H2 Q c.E
 refine w91 fr q fun ds vs H1 Hs1 e1 s1 f1 r1=>?_
 unfold gFn at q
 rw [e1,bind_ok] at q
 by_cases hn:ds.length=n
 ·rw [if_pos hn] at q
  rw [List.append_nil]
  exact ⟨vs,rfl,Hs1,ds,f1.st.sub,hn,r1,q.on s1 fun d k v H2 Hs2 s2 r2=>k v H2 Hs2 (s1.trans s2) r2⟩
 ·rw [if_neg hn] at q;exact q.elim
theorem x4W {i k n:Nat}{F:List D->R D}{f:Addr}{fd:FuncData}{ps:List Str} (hf:w2R c.X.prog c.X.w c.X.K c.X.mg c.X.base (CXR c.X.prog c.X.w) k f fd ps (spF c.X.K c.cls n F)) (hk:PySem.W.keepIn c.X.K (.ref f)=true) (hb:q1p c.X.K fd ps []) (hr:q6d k c.X.A) (hx:q0R (CXR c.X.prog c.X.w) c.X c.E) (ha:JAs c (e::es) gs)
  (hN:c.X.N[i]?=some x:=by rfl) (hv:Vis c.X.env.scope x:=by first | exact Or.inl rfl | exact Or.inr (Or.inl rfl) | exact Or.inr (Or.inr rfl)) (hdb:(x == ("__debug__" : Str))=false:=by decide) (hcd:(x == ("__classdict__" : Str))=false:=by decide) (he:starEach (e::es) c.X.env=(false,eval e c.X.env)::starEach es c.X.env:=by rfl) (hpl:(backTo pos (starEach es c.X.env)).any (·.1)=false:=by rfl) (ρ:Rho) :
  PS c.X (.Return (some (.Call (.Name x p) (e::es) [] pos)) rpos) (fun D σ H=>σ[i]?=some (some (V.ref f))/\SR c.X.K c.cls c.E ρ (q2l (gFn n F gs) ρ) D σ H):=by
 refine mPS (w4R (w9N (E:=c.E) hf hr hN hv hk hb .nil hx (ha (q0S ρ)) hdb hcd he hpl)) fun D σ H ⟨hi,H0,Hs0,la,Hs,fr,q⟩=>⟨hi,?_⟩
 obtain ⟨Hs',f'⟩:=fr.shared
 have t:TR c.X.K c.cls c.E (q0S ρ) (gFn n F gs (q0S ρ)) σ H D.rt:=sE f' q fun d v H1 Hs1 e1 s1 f1 r1=>by
  unfold q2l at q
  rw [e1,bind_ok] at q
  exact q v H1 Hs1 f1.st r1
 clear q f' fr
 obtain ⟨H0,Hs0,la,Hs,fr,q⟩:=t
 show TAs c.X.K c.cls c.E (q0S ρ) (gs (q0S ρ)) σ H fun xs H2=>spF c.X.K c.cls n F (xs++[]) H2 D.rt c.E
 refine w91 fr q fun ds vs H1 Hs1 e1 s1 f1 r1=>?_
 unfold gFn at q
 rw [e1,bind_ok] at q
 by_cases hn:ds.length=n
 ·rw [if_pos hn] at q
  rw [List.append_nil]
  exact ⟨Hs1,ds,f1.st.sub,hn,r1,q.on s1 fun d k v H2 Hs2 s2 r2=>k v H2 Hs2 (s1.trans s2) r2⟩
 ·rw [if_neg hn] at q;exact q.elim
end
section
variable {c:C}{body:List Stmt}{x n:Str}{np np2 np3 hpos cpos rpos pos:Pos}{gb:Rho->R Fl}{names:List Str}{wh:Str->Option Nat}
theorem x4X (i j:Nat) {a:Addr}{ρ:Rho} (W:Wh c.X.prog c.X.w c.X.K c.X.mg c.X.base c.cls x names wh) (hb:∀ (E:XK) (xe:Value->Shared->Prop) (pn:List (Addr×Obj)),q0R (CXR c.X.prog c.X.w) (cxT c.X xe pn) E->PSs (cxT c.X xe pn) body (fun D σ H=>σ[j]?=some (some (V.ref a))/\SR c.X.K c.cls E ρ (gb ρ) D σ H))
  (hr:q4Z 1 c.X.A) (hgx:Gl c.X x) (hg:Gl c.X "PlanError") (hN:c.X.N.Nodup) (hi:c.X.N[i]?=some n:=by rfl) (hn:c.X.env.scope.names.lookup n=some .local:=by rfl)
  (hst:∃ l,c.X.stack=c.X.env::l/\c.X.env.frame=some c.X.env.locals:=by exact ⟨_,rfl,rfl⟩) (hex:c.X.ex=[]:=by rfl) (hdb:(x == ("__debug__" : Str))=false:=by decide) (hd:(n == ("__debug__" : Str))=false:=by decide) (hcd:(n == ("__classdict__" : Str))=false:=by decide) :
  PS c.X (.Try body [.ExceptHandler (some (.Name "PlanError" np)) (some n) [.Return (some (.Call (.Name x np2) [.Name n np3] [] cpos)) rpos] hpos] [] [] pos) (fun D σ H=>σ[j]?=some (some (V.ref a))/\SR c.X.K c.cls c.E ρ (x3l wh gb ρ) D σ H):=by
 obtain ⟨f,fd,ps,F,hm,hk,hbn⟩:=W.fn
 obtain ⟨bp,y⟩:=W.ox
 have hs:∀ ea,PSs (cxH c.X ea) [.Return (some (.Call (.Name x np2) [.Name n np3] [] cpos)) rpos] (x6B (w9c (x6i c.X.K c.X.base c.cls names) [] E0 (w9b (x3d i) x5y))):=fun ea =>
  q7W (w4R (w9z (X:=cxH c.X ea) F (hr.mark _) hgx hm hk hbn (q0t (q5C hi (.inl hn) hd hcd) q1o) hdb))
 refine mPS (x47 hg W.pe y hN hi hn hst hex (tb:=fun E D σ H=>σ[j]?=some (some (V.ref a))/\SR c.X.K c.cls E ρ (gb ρ) D σ H) (fun E xe pn hp=>hb E xe pn hp) hs) fun D σ H h_1=>?_
 obtain ⟨hj,H0,Hs0,la,Hs,fr,q⟩:=h_1
 replace q:w19 c.X.K c.cls c.E H0 Hs0 la D (x3l wh gb ρ):=q
 refine ⟨hj,H0,Hs0,la,Hs,fr,?_⟩
 unfold x3l at q
 cases hr':gb ρ with
 | no=>rw [hr'] at q;exact q
 | ok fl =>
  rw [hr'] at q
  cases fl<;>exact q
 | ex z m =>
  rw [hr'] at q
  cases m with
  | some d=>exact q.elim
  | none =>
   simp only at q
   cases hw:wh z with
   | none=>rw [hw] at q;exact q.elim
   | some j =>
    rw [hw] at q
    have X0:=W.xf z j hw
    intro H' Hs' st
    obtain ⟨bm,o1,o2⟩:=X0.ox
    refine ⟨c.cls z,bm,rfl,o1,o2,fun ea hea=>?_⟩
    have hl:i<c.X.N.length:=(List.getElem?_eq_some_iff.mp hi).1
    refine ⟨.ref ea,List.getElem?_set_self (by simpa [w7F] using hl),ea,c.cls z,j,rfl,q0d,X0,fun t H2 sm ht hT=>?_⟩
    have s1:q29 H' (upd H' ea (w7E ea (c.cls z))):=q2C hea
    have ht':H' t=none:=s1.free ht
    refine q (.ref t) H2 (upd Hs' t (.tup [.str "refused",.int (j:Nat)])) ?_ (.tuple q0d (.cons (.str _) (.cons (.int _) .nil)))
    refine st.trans ⟨s1.trans sm,q2C (st.sub.free ht'),fun b u e=>?_,fun a o e z=>by rw [q0e (q0c e ht')];exact z⟩
    by_cases hb':b=t
    ·subst hb';rw [q0d] at e;cases e;exact hT
    ·rw [q0e hb'] at e;exact sm b u (s1 b u (st.sub b u e))
end
theorem Fr.consNo {K:PySem.W.Frag}{H0 Hs0 H Hs:Hp}{ρ:Rho}{σ:St}{v:V} (f:Fr K H0 Hs0 (fun _=>none) ρ σ H Hs):Fr K H0 Hs0 (fun _=>none) (.no::ρ) (some v::σ) H Hs:=by
 refine ⟨f.st,congrArg (· + 1) f.len,fun i d h=>?_,fun i d h=>?_,fun i d h=>?_,fun i j d e a h1 h2 h3 h4=>?_,fun i a h=>(nomatch h),fun i d h=>?_,fun i j d e h1 h2=>?_⟩
 ·cases i with
  | zero=>cases h
  | succ i=>exact f.sh i d h
 ·cases i with
  | zero=>cases h
  | succ i=>exact f.ow i d h
 ·cases i with
  | zero=>cases h
  | succ i=>exact f.lk i d h
 ·cases i with
  | zero=>cases h1
  | succ i =>
   cases j with
   | zero=>cases h2
   | succ j=>exact congrArg (· + 1) (f.dj i j d e a h1 h2 h3 h4)
 ·cases i with
  | zero=>cases h
  | succ i =>
   obtain ⟨a,as,o⟩:=f.o2 i d h
   refine ⟨a,as,o.at_,o.ob,o.nd,o.out,fun b hb j e h1=>?_,o.inn⟩
   cases j with
   | zero=>cases h1
   | succ j=>exact o.dj b hb j e h1
 ·cases i with
  | zero=>cases h1
  | succ i =>
   cases j with
   | zero=>cases h2
   | succ j=>exact congrArg (· + 1) (f.u2 i j d e h1 h2)
def x5D (n:Nat) (g:Rho->R Fl):List D->R D:=fun ds=>match g (.no::q0r n ds) with
 | .ok (.nx _)=>.ok .none
 | .ok (.rt d)=>.ok d
 | .ex c m=>.ex c m
 | _=>.no
theorem x2E {P:Program}{w:World}{K:PySem.W.Frag}{mg:Str->Option Value}{base:Heap}{cls:Str->Addr}{x y x0 qual:Str}{st:Stmt}{f a:Addr}{fd:FuncData}{N ps:List Str}{k n:Nat}{g:Rho->R Fl}{F:List D->R D} (Fu:Fun K x qual st f fd) (S:q0y (x0::N) ps (q03 st)) (hm:mg x=some (.ref f)) (hb:q1p K fd ps []) (hy:mg y=some (.ref a)) (hps:ps.length=n + 1)
  (h:∀ (cdv:Value) (A:Around) (outer:List Env) (s:Shared) (H:Hp) (E:XK),q6d k (A.deeper (envOfC qual (q03 st) s.heap.objs.size f cdv))->∀ ρ,PSs (q2B (CXR P w) P w K mg base (x0::N) qual (q03 st) f cdv A outer s H E) (q0x st) (fun D σ H=>σ[0]?=some (some (V.ref a))/\SR K cls E ρ (g ρ) D σ H))
  (hF:∀ ds,ds.length=n->x5D N.length g ds=F ds):FnT P w K mg base cls x y (k + 1) n F:=by
 refine ⟨f,fd,ps,a,?_,hm,Fu.kp,hb,hy⟩
 obtain ⟨oc,od,kV,doc,pm,an,cdv,ct,osl,rfl,lk,hcd⟩:=Fu.ex
 refine x3J lk hcd S (fun vs H Q E h_2=>by obtain ⟨vs',e,Hs,ds,sub,hn,r,q⟩:=h_2;exact by rw [e,List.length_cons,r.length,hn,hps]) fun A outer s H vs Q E hr hsp=>?_
 obtain ⟨vs',rfl,Hs,ds,sub,hn,r,q⟩:=hsp
 have fs:Fr K H Hs (fun _=>none) (.no::q0r N.length ds) (L2.start (x0::N) (V.ref a::vs')) H Hs:=by
  have:=(Fr.start (N:=N) sub r).consNo (v:=V.ref a)
  have e:L2.start (x0::N) (V.ref a::vs')=some (V.ref a)::L2.start N vs':=by
   unfold L2.start
   rw [List.map_cons,List.length_cons,List.length_cons,Nat.add_sub_add_right]
   rfl
  rw [e]
  exact this
 refine ⟨_,h cdv A outer s H E hr (.no::q0r N.length ds),rfl,H,Hs,_,Hs,fs,?_⟩
 rw [<- hF ds hn] at q
 unfold x5D at q
 cases hg:g (.no::q0r N.length ds) with
 | no=>rw [hg] at q;exact q
 | ex c n=>rw [hg] at q;exact q
 | ok fl =>
  rw [hg] at q
  cases fl with
  | nx ρ'=>exact fun σ' H' Hs' f'=>q .non H' Hs' f'.st .none
  | rt d=>exact fun v H' Hs' s r=>q v H' Hs' s r
  | bk ρ'=>exact q.elim
  | ct ρ'=>exact q.elim
theorem w9O {wh:Str->Option Nat}{n:Nat}{F:List D->R D}{gs:Rho->R (List D)}{m:Nat}{ds:List D} (h:gs (q0S (.no::q0r m ds))=.ok ds) (hl:ds.length=n):x5D m (x3l wh (q2l (gFn n F gs))) ds=q7t wh F ds:=by
 unfold x5D x3l q2l gFn q7t w69
 rw [h,bind_ok,if_pos hl]
 cases F ds with
 | ok d=>rfl
 | no=>rfl
 | ex z o =>
  cases o with
  | some d=>rfl
  | none =>
   show (match (match wh z with
    | some j=>R.ok (Fl.rt (.tuple [.str "refused",.int (j:Nat)]))
    | none=>R.no:R Fl) with
    | .ok (.nx _)=>R.ok PyData.none
    | .ok (.rt d)=>.ok d
    | .ex c m=>.ex c m
    | _=>.no)=_
   cases hw:wh z<;>simp only [hw]
theorem ln1 {α:Type}{us:List α} (h:us.length=1):∃ a,us=[a]:=by
 rcases us with _ | ⟨a0,_ | ⟨z,r⟩⟩
 ·simp at h
 ·exact ⟨_,rfl⟩
 ·simp at h
theorem ln2 {α:Type}{us:List α} (h:us.length=2):∃ a b,us=[a,b]:=by
 rcases us with _ | ⟨a0,_ | ⟨a0,_ | ⟨z,r⟩⟩⟩
 ·simp at h
 ·simp at h
 ·exact ⟨_,_,rfl⟩
 ·simp at h
theorem ln3 {α:Type}{us:List α} (h:us.length=3):∃ a b c,us=[a,b,c]:=by
 rcases us with _ | ⟨a0,_ | ⟨a0,_ | ⟨a0,_ | ⟨z,r⟩⟩⟩⟩
 ·simp at h
 ·simp at h
 ·simp at h
 ·exact ⟨_,_,_,rfl⟩
 ·simp at h
theorem ln4 {α:Type}{us:List α} (h:us.length=4):∃ a b c d,us=[a,b,c,d]:=by
 rcases us with _ | ⟨a0,_ | ⟨a0,_ | ⟨a0,_ | ⟨a0,_ | ⟨z,r⟩⟩⟩⟩⟩
 ·simp at h
 ·simp at h
 ·simp at h
 ·simp at h
 ·exact ⟨_,_,_,_,rfl⟩
 ·simp at h
end J
end
section
namespace J
open PySem L2
section
variable {c:C}{e a b l tg:Expr}{g ga gb:Rho->R D}{pos p:Pos}{gs:Rho->R (List D)}{es:List Expr}{x:Str}
theorem RDs.rep {K:PySem.W.Frag}{H:Hp}{vs:List V}{ds:List D} (h:RDs K H vs ds) (k:Nat):RDs K H (List.replicate k vs).flatten (List.replicate k ds).flatten:=by
 induction k with
 | zero=>exact .nil
 | succ k ih=>rw [List.replicate_succ,List.replicate_succ,List.flatten_cons,List.flatten_cons];exact h.append ih
def x5E (k:Nat) (ds:List D):R D:=if ds.length<=10 then .ok (.list (List.replicate k ds).flatten) else .no
def x4Y (k:Nat) (gs:Rho->R (List D)):Rho->R D:=fun ρ=>(gs ρ).bind (x5E k)
theorem x1l (k:Nat) {j:Nat}{p2:Pos} (hk:k<=10) (h:JAs c es gs):JE c (.BinOp (.List es p) .Mult (.Constant (.int k) j p2) pos) (x4Y k gs):=.of fun ρ=>mPE (x3B x3U (q44 (h ρ)) w4Q) fun σ H Q h_0=>by
 obtain ⟨H0,Hs0,la,Hs,f,q⟩:=h_0
 refine w91 f q fun ds vs H1 Hs1 e1 s1 f1 r1=>?_
 unfold x4Y at q
 rw [e1,bind_ok] at q
 unfold x5E at q
 by_cases hl:ds.length<=10
 ·rw [if_pos hl] at q
  have hv:vs.length<=10:=by rw [r1.length];exact hl
  refine ⟨Nat.le_of_lt (q0u (Nat.le_trans hv (by decide))),fun p hp=>?_⟩
  have s2:q1I H1 Hs1 (upd H1 p (.lst vs)) Hs1:=.mine s1.sub hp
  refine ⟨p,k,vs,rfl,rfl,q0d,by omega,by omega,?_,fun p2 hp2=>?_⟩
  ·have:vs.length * k<=10 * 10:=Nat.mul_le_mul hv hk
   exact Nat.le_of_lt (q0u (Nat.le_trans this (by decide)))
  ·refine q _ _ _ (s1.trans (s2.trans (.new s2.sub hp2))) (.list (.of q0d) ?_)
   exact (r1.rep k).same (q1I.new s2.sub hp2).sh
 ·rw [if_neg hl] at q;exact q.elim
end
end J
end
section
namespace HT
open PySem PyProof.Rows
section
open PySem.SeqAt
open PySem.AutoSeq1 (wpAny_loadPart')
open PySem.MeetsSeq PySem.MeetsSeq2 PySem.MeetsSeq3
variable {prog:Program}{w:World}{A:Around}{E:Value->Shared->Prop}{s:Shared}
theorem q7u {sl:Addr}{t:Tok}{n:Nat}{Q:Int×Int×Nat->Shared->Prop} (hs:s.heap.IsSliceOf sl .none .none (.int (-1) t))
  (h:Q ((n:Int) - 1,-1,n) s):wpAny (model prog w) A (Builtin.Slice.sliceApplied (.ref sl) (pure (n:Int))) Q E s:=by
 obtain ⟨os,hos,hcs,hds⟩:=id hs
 unfold Builtin.Slice.sliceApplied Builtin.Slice.sliceFields
 refine wpAny_bind (wpAny_bind (wpAny_field hos hds (x:=.none) rfl (wpAny_bind (wpAny_field hos hds (x:=.none) rfl (wpAny_bind (wpAny_field hos hds (x:=.int (-1) t) rfl (wpAny_pure ?_)))))))
 refine wpAny_bind (slicePart_int ?_)
 show wpAny _ _ (if ((-1:Int) == 0)=true then _ else _) _ _ s
 rw [if_neg (by decide)]
 refine wpAny_bind (slicePart_none (wpAny_bind (slicePart_none (wpAny_bind (wpAny_pure ?_)))))
 show wpAny _ _ (pure ((n:Int) - 1,(-1:Int),Builtin.Slice.slicePlaces ((n:Int) - 1) (-1) (-1))) _ _ s
 have e:Builtin.Slice.slicePlaces ((n:Int) - 1) (-1) (-1)=n:=by
  unfold Builtin.Slice.slicePlaces
  rw [if_neg (by omega)]
  simp only [Int.neg_neg,Int.ediv_one]
  split<;>omega
 rw [e]
 exact wpAny_pure h
theorem w5n {α β:Type}{f g:α->Option β}:∀ {l:List α},(∀ x∈l,f x=g x)->l.filterMap f=l.filterMap g
 | [],_=>rfl
 | x::r,h=>by
  rw [List.filterMap_cons,List.filterMap_cons,h x List.mem_cons_self,w5n fun y hy=>h y (List.mem_cons_of_mem _ hy)]
theorem w9P (xs:Array Value):((List.range xs.size).filterMap fun (m:Nat)=>xs[((xs.size:Int) - 1 + (m:Int) * (-1)).toNat]?).toArray=xs.toList.reverse.toArray:=by
 congr 1
 have e:(List.range xs.size).filterMap (fun (m:Nat)=>xs[((xs.size:Int) - 1 + (m:Int) * (-1)).toNat]?)=(List.range xs.size).filterMap (fun m=>some (xs.getD (xs.size - 1 - m) .none)):=by
  refine w5n fun m hm=>?_
  have hm:=List.mem_range.mp hm
  have:((xs.size:Int) - 1 + (m:Int) * (-1)).toNat=xs.size - 1 - m:=by omega
  rw [this]
  have h2:xs.size - 1 - m<xs.size:=by omega
  rw [Array.getElem?_eq_getElem h2]
  simp [Array.getD,h2]
 rw [e]
 have e2:(fun m=>some (xs.getD (xs.size - 1 - m) Value.none))=some∘fun m=>xs.getD (xs.size - 1 - m) Value.none:=rfl
 rw [e2,List.filterMap_eq_map]
 refine List.ext_getElem (by simp) fun i h1 h2=>?_
 simp only [List.length_map,List.length_range] at h1
 have h3:xs.size - 1 - i<xs.size:=by omega
 rw [List.getElem_map,List.getElem_range,List.getElem_reverse]
 simp [Array.getD,h3]
theorem q6p {t sl:Addr}{tk:Tok}{items:Array Value}{Q:Value->Shared->Prop} (ht:IsTup s.heap t items) (hs:s.heap.IsSliceOf sl .none .none (.int (-1) tk))
  (h:Q (.ref s.heap.objs.size) { s with heap:=s.heap.push { cls:=.type "tuple",data:=.seq items.toList.reverse.toArray } })
  (hsz:items.size<=sizeLine):wpAny (model prog w) A (getItem (.ref t) (.ref sl)) Q E s:=by
 have htake:sizeOk (.seq items.toList.reverse.toArray):=by
  show items.toList.reverse.toArray.size<=sizeLine
  rw [List.size_toArray,List.length_reverse,Array.length_toList]
  exact hsz
 obtain ⟨os,hos,hcs,hds⟩:=id hs
 have hTs:s.TypeIs (.ref sl) "slice":=⟨os,hos,hcs⟩
 unfold getItem
 try with_reducible refine wpAny_holding ?_
 first | refine wpAny_bind (wpAny_pure ?_) | skip
 refine wpAny_bind (wpAny_sequenceKey ht.typeIs (by decide) ?_)
 refine wpAny_bind (wpAny_callSpecial?_slot (name:=Str.ofString "__getitem__") ht.typeIs PyProof.Rows.slot_tuple_getitem
  (wpAny_call_entry PyProof.Rows.slot_tuple_getitem ht.typeIs entry_tuple_getitem ?_ (args_tuple_getitem _ _)))
 show wpAny _ _ (Builtin.Tuple.tupleItemsOf (.ref t) >>= _) _ _ s
 refine wpAny_bind (tupleItemsOf_ ht ?_)
 refine wpAny_bind (wpAny_typeOf hTs ?_)
 rw [if_pos (by decide)]
 refine wpAny_bind (q7u hs ?_)
 have hno:¬ ((((items.size:Int) - 1) == 0 && (-1:Int) == 1 && items.size == items.size)=true):=by
  intro q
  rw [Bool.and_eq_true,Bool.and_eq_true] at q
  exact absurd q.1.2 (by decide)
 show wpAny _ _ (if ((((items.size:Int) - 1) == 0 && (-1:Int) == 1 && items.size == items.size)=true) then _ else _) _ _ s
 rw [if_neg hno,w9P]
 first
  | exact wpAny_bind (m:=Builtin.Tuple.tupleExact _) (wpAny_newObj_type (wpAny_pure ⟨_,rfl,wpAny_pure h⟩) htake)
  | exact wpAny_bind (m:=Builtin.Tuple.tupleExact _) (wpAny_newObj_type (wpAny_bind (wpAny_pure (wpAny_pure ⟨_,rfl,wpAny_pure h⟩))) htake)
  | exact wpAny_bind (wpAny_bind (m:=Builtin.Tuple.tupleExact _) (wpAny_newObj_type (wpAny_pure (wpAny_pure ⟨_,rfl,wpAny_pure h⟩)) htake))
  | exact wpAny_bind (wpAny_bind (m:=Builtin.Tuple.tupleExact _) (wpAny_newObj_type (wpAny_pure ⟨_,rfl,wpAny_pure h⟩) htake))
end
end HT
namespace L2
open PySem PySem.Spec PyProof.Rows
section
variable {X:Cx}{e st:Expr}{te ts:TE}{pos p2:Pos}
theorem q1x.rev {xs:List V}{us:List Value} (h:q1x xs us):q1x xs.reverse us.reverse:=by
 induction h with
 | nil=>exact .nil
 | cons r t ih=>rw [List.reverse_cons,List.reverse_cons];exact ih.append (.cons r .nil)
theorem x4Z (he:PE X e te) (hs:PE X st ts):PE X (.Subscript e (.Slice none none (some st) p2) pos) (fun σ H Q=>te σ H fun x H1=>ts σ H1 fun y H2=>y=.int (-1)/\∃ a xs,x=.ref a/\SqT X.K H2 a xs/\∀ p,H2 p=none->Q (.ref p) (upd H2 p (.tup xs.reverse))):=by
 intro pins s σ H Q I h
 refine Subscript_ (thn (he pins s σ H _ I h) fun v s1 h1=>?_)
 obtain ⟨x,H1,I1,r1,q1⟩:=h1
 have nP:evalPart none X.env=pure .none:=evalPart_none ..
 refine wpAny_Slice ?_
 rw [nP]
 refine wpAny_pure ?_
 refine wpAny_pure ?_
 rw [evalPart_some]
 refine thn (hs pins s1 σ H1 _ I1 q1) fun u s3 h3=>?_
 obtain ⟨y,H3,I3,r3,hy,a,xs,hx,sq,q⟩:=h3
 subst hy
 subst hx
 obtain ⟨tk,rfl⟩:=r3
 cases r1
 have I4:Inv X pins σ H3 { s3 with heap:=s3.heap.push { cls:=.type "slice",data:=.fields #[.none,.none,.int (-1) tk] } }:=I3.kept (t':=s3.toks) fun b ob q=>Heap.get?_push_of_some _ q
 obtain ⟨its,r,ht,hz⟩:=I4.tuple sq
 have hlen:its.toArray.size=xs.length:=by rw [List.size_toArray];exact r.length.symm
 show wpAny (model X.prog X.w) X.A (subscriptTail e (.Slice none none (some st) p2) (.ref a) (.ref s3.heap.objs.size)) (EP X pins σ Q) X.xe { s3 with heap:=s3.heap.push { cls:=.type "slice",data:=.fields #[.none,.none,.int (-1) tk] } }
 refine tail_any (ops:=[.ref a,.ref s3.heap.objs.size]) ht.typeIs PyProof.Rows.slot_tuple_getitem.lookup ?_ (by with_unfolding_all rfl)
 refine HT.q6p ht (Heap.IsSliceOf.new ..) ?_ (by rw [hlen];exact hz)
 refine ⟨.ref _,_,I4.laid (t':=s3.toks) (o:=.tup xs.reverse) (fun b ob q=>Heap.get?_push_of_some _ q) (Nat.le_refl _) ?_,rfl,q _ (I4.hok.fresh (Nat.le_refl _))⟩
 exact ⟨by rw [List.length_reverse];exact hz,_,r.rev,IsTup.new _ _⟩
end
end L2
namespace J
open PySem L2
section
variable {c:C}{e:Expr}{g:Rho->R D}{pos p2 p3 p4:Pos}
def x6m:D->R D
 | .tuple xs=>.ok (.tuple xs.reverse)
 | _=>.no
def x5F (g:Rho->R D):Rho->R D:=fun ρ=>(g ρ).bind x6m
theorem x50 {j:Nat} (h:JB c e g):JE c (.Subscript e (.Slice none none (some (.UnaryOp .USub (.Constant (.int 1) j p3) p4)) p2) pos) (x5F g):=.of fun ρ=>mPE (x4Z (h ρ) (x5R x3F w4Q)) fun σ H Q h_0=>by
 obtain ⟨H0,Hs0,la,Hs,f,q⟩:=h_0
 refine one f q fun d v H1 Hs1 e1 s1 f1 r1=>?_
 unfold x5F at q
 rw [e1,bind_ok] at q
 refine ⟨1,rfl,rfl,?_⟩
 cases d with
 | tuple ds =>
  obtain ⟨a,vs,rfl,qa,ra,_⟩:=r1.tuple s1.sub
  exact ⟨a,vs,rfl,qa,fun p hp=>q _ _ _ (s1.trans (.new s1.sub hp)) (.tuple q0d (ra.reverse.same (q1I.new s1.sub hp).sh))⟩
 | _=>exact q.elim
end
end J
end
section
namespace L2
open PySem
def stp (mask:Nat):Nat->Nat×Nat->Nat×Nat
 | 0,x=>x
 | n + 1,x=>stp mask n (SetTable.leap mask x.1 x.2)
def x7X (mask:Nat):Bool:=(List.range (mask + 1)).all fun i=>(List.range (mask + 1)).all fun j=>(List.range (mask + 1)).any fun n=>decide ((stp mask n (i,0)).1=j)
theorem getD_none {owner:Array (Option Nat)}{k:Nat} (h:owner.getD k (some 0)=none):owner.toList[k]?=some none:=by
 by_cases hk:k<owner.size
 ·rw [Array.getD_eq_getD_getElem?,Array.getElem?_eq_getElem hk] at h
  rw [Array.getElem?_toList,Array.getElem?_eq_getElem hk]
  simpa using h
 ·rw [Array.getD_eq_getD_getElem?,Array.getElem?_eq_none (by omega)] at h
  cases h
end L2
namespace L2
open PySem
section
variable {P:Program}{w:World}{A:Around}{E:Value->Shared->Prop}{s:Shared}
end
end L2
namespace L2
open PySem
section
variable {P:Program}{w:World}{A:Around}{E:Value->Shared->Prop}{s:Shared}
end
end L2
namespace L2
open PySem
section
variable {P:Program}{w:World}{A:Around}{E:Value->Shared->Prop}{s:Shared}
end
end L2
namespace L2
open PySem PyProof.Rows
section
variable {P:Program}{w:World}{A:Around}{E:Value->Shared->Prop}{s:Shared}
end
end L2
namespace L2
open PySem PyProof.Rows
end L2
namespace J
open PySem L2
section
variable {c:C}{a b:Expr}{ga gb:Rho->R (List Str)}{pos:Pos}
end
end J
namespace J
open PySem L2
section
variable {c:C}{a b:Expr}{gs:Rho->R (List D)}{pos px py pt pt2:Pos}{x y:Str}
end
end J
namespace J
open PySem L2
def x6n:D->R D
 | .bool b=>.ok (.int (if b then 1 else 0))
 | _=>.no
theorem x51 {X:Cx}:CaD X (.type "int") (on1 x6n):=by
 refine ⟨fun pins s σ H xs us Q I rv h=>?_,fun x c n=>?_⟩
 ·obtain ⟨Hs,ds,sub,rb,d,hd,q⟩:=h
  cases rb with
  | nil=>cases hd
  | cons r t =>
   cases t with
   | cons _ _=>cases hd
   | nil =>
    rename_i v d0
    cases d0 with
    | bool b =>
     cases hd
     exact w7c pins s σ H _ us Q I rv (.inr ⟨b,by rw [r.bool],q _ H Hs (.refl sub) (.int _)⟩)
    | _=>cases hd
 ·match x with
  | []=>exact fun h=>by cases h
  | [d]=>cases d<;>exact fun h=>by cases h
  | _::_::_=>exact fun h=>by cases h
end J
end
section
namespace Z
open PySem L2 J
def whD (y:Str):Option Nat:=if y="NoBook" then some 0 else if y="NoFacts" then some 7 else if y="NoErrand" then some 3 else none
def q3e:Rho->R Fl:=(q2l (w9B (q0J (q01 (q1S 1 [1] (gIt (fun ρ=>rdB ρ 0)) (fun _=>.ok true) (g2 (fun ρ=>rdB ρ 0) (fun ρ=>rdB ρ 1) (inD false))) q0k) (on1 (q2Q fun bs=>bs.any id)))))
def q21:List D->R D:=q4R 2 q3e
def q4d:Rho->R Fl:=(q0n (q3b (gOr (q9L (asB (w7Y (fun ρ=>rdB ρ 0) "str"))) (q9L (asB (q7b (fun _=>.ok (.int 1)) (q0J (q01 (fun ρ=>rdB ρ 0) q0k) (on1 q8b)) (fun _=>.ok (.int 6)) leD leD)))) (q2l (fun _=>.ok (.bool false))) (fun ρ=>.ok (.nx ρ))) (q2l (q0J (q01 (q1S 1 [] (gIt (fun ρ=>rdB ρ 0)) (fun _=>.ok true) (q7b (fun _=>.ok (.str "a")) (fun ρ=>rdB ρ 0) (fun _=>.ok (.str "z")) leD leD)) q0k) (on1 (q2Q fun bs=>bs.all id)))))
def q0K:List D->R D:=q4R 1 q4d
def q0L:Rho->R Fl:=(q0n (q3b (gOr (q9L (asB (w7Y (fun ρ=>rdB ρ 0) "tuple"))) (q9L (asB (q0J (q01 (q1S 1 [] (gIt (fun ρ=>rdB ρ 0)) (fun _=>.ok true) (gFn 1 q0K (q01 (fun ρ=>rdS ρ 0) q0k))) q0k) (on1 (q2Q fun bs=>bs.all id)))))) (q2l (fun _=>.ok (.bool false))) (fun ρ=>.ok (.nx ρ))) (q2l (q0J (q01 (q1S 2 [] (x5z (q01 (fun ρ=>rdS ρ 0) (q01 (gSl (fun ρ=>rdB ρ 0) (goS (fun _=>.ok (.int 1))) goN) q0k))) (fun _=>.ok true) (g2 (fun ρ=>rdB ρ 0) (fun ρ=>rdB ρ 1) ltD)) q0k) (on1 (q2Q fun bs=>bs.all id)))))
def q0l:List D->R D:=q4R 1 q0L
def q2q:Rho->R Fl:=(q2l (w7O (gFn 1 q0l (q01 (fun ρ=>rdS ρ 1) q0k)) (q0J (q01 (q1S 1 [0] (gIt (fun ρ=>rdB ρ 1)) (fun _=>.ok true) (g2 (fun ρ=>rdB ρ 0) (fun ρ=>rdB ρ 1) (inD false))) q0k) (on1 (q2Q fun bs=>bs.all id)))))
def q0X:List D->R D:=q4R 2 q2q
def q4E:Rho->R Fl:=(q0n (q3b (gOr (q9L (asB (w7Y (fun ρ=>rdB ρ 0) "int"))) (asB (w7Y (fun ρ=>rdB ρ 0) "bool"))) (q2l (fun _=>.ok (.bool false))) (fun ρ=>.ok (.nx ρ))) (q2l (q7b (fun ρ=>rdB ρ 1) (fun ρ=>rdB ρ 0) (fun ρ=>rdB ρ 2) leD leD)))
def q2X:List D->R D:=q4R 3 q4E
def q1U:Rho->R Fl:=(q0n (q3b (gOr (q9L (asB (w7Y (fun ρ=>rdB ρ 1) "tuple"))) (asB (g2 (q0J (q01 (fun ρ=>rdB ρ 1) q0k) (on1 q8b)) (fun _=>.ok (.int 6)) (eqD true)))) (q2l (fun _=>.ok (.bool false))) (fun ρ=>.ok (.nx ρ))) (q0n (x0G (fun ρ=>rdS ρ 1) (w3h 6 (q1y (q19 2) (q1y (q19 3) (q1y (q19 4) (q1y (q19 5) (q1y (q19 6) (q1y (q19 7) w63)))))))) (q0n (q3b (gOr (q9L (asB (gFn 1 q0K (q01 (fun ρ=>rdS ρ 2) q0k)))) (q9L (asB (gFn 3 q2X (q01 (fun ρ=>rdS ρ 7) (q01 (fun _=>.ok (.int 0)) (q01 (fun _=>.ok (.int 9)) q0k))))))) (q2l (fun _=>.ok (.bool false))) (fun ρ=>.ok (.nx ρ))) (q0n (q3b (q9L (asB (q0J (q01 (q1S 1 [0] (gIt (q1Y (q01 (fun ρ=>rdS ρ 3) (q01 (fun ρ=>rdS ρ 4) (q01 (fun ρ=>rdS ρ 5) (q01 (fun ρ=>rdS ρ 6) q0k)))) .tuple)) (fun _=>.ok true) (gFn 2 q0X (q01 (fun ρ=>rdS ρ 1) (q01 (fun ρ=>rdS ρ 0) q0k)))) q0k) (on1 (q2Q fun bs=>bs.all id))))) (q2l (fun _=>.ok (.bool false))) (fun ρ=>.ok (.nx ρ))) (q2l (w7O (gFn 2 q21 (q01 (fun ρ=>rdS ρ 3) (q01 (fun ρ=>rdS ρ 4) q0k))) (gFn 2 q21 (q01 (fun ρ=>rdS ρ 5) (q01 (fun ρ=>rdS ρ 6) q0k)))))))))
def q0H:List D->R D:=q4R 8 q1U
def q5P:Rho->R Fl:=(q0n (q3b (gOr (q9L (asB (w7Y (fun ρ=>rdB ρ 0) "tuple"))) (asB (g2 (q0J (q01 (fun ρ=>rdB ρ 0) q0k) (on1 q8b)) (fun _=>.ok (.int 2)) (eqD true)))) (q2l (fun _=>.ok (.bool false))) (fun ρ=>.ok (.nx ρ))) (q0n (x0G (fun ρ=>rdS ρ 0) (w3h 2 (q1y (q19 1) (q1y (q19 2) w63)))) (q0n (q3b (gOr (q9L (asB (gFn 1 q0l (q01 (fun ρ=>rdS ρ 1) q0k)))) (asB (g2 (q0J (q01 (fun ρ=>rdB ρ 1) q0k) (on1 q8b)) (fun _=>.ok (.int 6)) gtD))) (q2l (fun _=>.ok (.bool false))) (fun ρ=>.ok (.nx ρ))) (q0n (q3b (gOr (q9L (asB (w7Y (fun ρ=>rdB ρ 2) "tuple"))) (asB (g2 (q0J (q01 (fun ρ=>rdB ρ 2) q0k) (on1 q8b)) (fun _=>.ok (.int 6)) gtD))) (q2l (fun _=>.ok (.bool false))) (fun ρ=>.ok (.nx ρ))) (q0n (q3b (q9L (asB (q0J (q01 (q1S 1 [1] (gIt (fun ρ=>rdB ρ 2)) (fun _=>.ok true) (gFn 2 q0H (q01 (fun ρ=>rdS ρ 1) (q01 (fun ρ=>rdS ρ 0) q0k)))) q0k) (on1 (q2Q fun bs=>bs.all id))))) (q2l (fun _=>.ok (.bool false))) (fun ρ=>.ok (.nx ρ))) (q2l (g2 (q8h (q9R 1 [] (gIt (fun ρ=>rdB ρ 2)) (fun _=>.ok true) (g2 (fun ρ=>rdB ρ 0) (fun _=>.ok (.int 0)) q0m))) (q0J (q01 (fun ρ=>rdB ρ 2) q0k) (on1 q8b)) (eqD false))))))))
def q4e:List D->R D:=q4R 3 q5P
def q1A:Rho->R Fl:=(q0n (q3b (q9L (asB (w7Y (fun ρ=>rdB ρ 1) "str"))) (q2l (fun _=>.ok .none)) (fun ρ=>.ok (.nx ρ))) (q0n (w6V (gIt (g2 (fun ρ=>rdB ρ 0) (fun _=>.ok (.int 1)) q0m)) (q19 2) (q3b (asB (g2 (g2 (fun ρ=>rdB ρ 2) (fun _=>.ok (.int 0)) q0m) (fun ρ=>rdB ρ 1) (eqD false))) (q2l (fun ρ=>rdS ρ 2)) (fun ρ=>.ok (.nx ρ)))) (q2l (fun _=>.ok .none))))
def q0M:List D->R D:=q4R 3 q1A
def q5Q:Rho->R Fl:=(q0n (q3b (q9L (asB (gFn 1 q4e (q01 (fun ρ=>rdS ρ 0) q0k)))) (q4S "NoBook" (q01 (fun _=>.ok (.str "a book is a tuple of facts and errands, each as the document tells")) q0k)) (fun ρ=>.ok (.nx ρ))) (q2l (fun ρ=>rdS ρ 0)))
def q2d:List D->R D:=q4R 1 q5Q
def q2U:Rho->R Fl:=(q0n (q3I 2 (q1S 1 [1] (gIt (gSl (fun ρ=>rdB ρ 0) (goS (fun _=>.ok (.int 1))) (goS (fun _=>.ok (.int 5))))) (fun _=>.ok true) (q0J (q01 (q1S 1 [1] (gIt (fun ρ=>rdB ρ 0)) (asB (g2 (fun ρ=>rdB ρ 0) (fun ρ=>rdB ρ 1) (inD false))) (fun ρ=>rdS ρ 0)) q0k) (on1 q1b)))) (q2l (g2 (g2 (q1Y (q01 (g2 (fun ρ=>rdB ρ 0) (fun _=>.ok (.int 0)) q0m) q0k) .tuple) (q0J (q01 (fun ρ=>rdB ρ 2) q0k) (on1 q1b)) q1R) (q1Y (q01 (g2 (fun ρ=>rdB ρ 0) (fun _=>.ok (.int 5)) q0m) q0k) .tuple) q1R)))
def q2e:List D->R D:=q4R 3 q2U
def w1S:Rho->R Fl:=(q0n (w62 (gFn 1 q2d (q01 (fun ρ=>rdS ρ 0) q0k))) (q0n (q3b (q9L (asB (gFn 2 q0X (q01 (g2 (fun ρ=>rdB ρ 0) (fun _=>.ok (.int 0)) q0m) (q01 (fun ρ=>rdS ρ 1) q0k))))) (q4S "NoFacts" (q01 (fun _=>.ok (.str "it is no rising tuple of the book's facts")) q0k)) (fun ρ=>.ok (.nx ρ))) (q2l (q1Y (q01 (fun ρ=>rdS ρ 1) (q01 (q0J (q01 (q1S 1 [1] (gIt (g2 (fun ρ=>rdB ρ 0) (fun _=>.ok (.int 1)) q0m)) (fun _=>.ok true) (gFn 2 q2e (q01 (fun ρ=>rdS ρ 0) (q01 (fun ρ=>rdS ρ 1) q0k)))) q0k) (on1 q1b)) q0k)) .tuple))))
def q7f:List D->R D:=q4R 2 w1S
def q1l:Rho->R Fl:=(q0n (w62 (gFn 1 q2d (q01 (fun ρ=>rdS ρ 0) q0k))) (q0n (q3b (q9L (asB (gFn 2 q0H (q01 (g2 (fun ρ=>rdB ρ 0) (fun _=>.ok (.int 0)) q0m) (q01 (fun ρ=>rdS ρ 1) q0k))))) (q4S "NoErrand" (q01 (fun _=>.ok (.str "it is no errand over the book's facts")) q0k)) (fun ρ=>.ok (.nx ρ))) (q0n (q4b 2 (g2 (fun ρ=>rdB ρ 1) (fun _=>.ok (.int 0)) q0m)) (q0n (q3b (asB (g2 (gFn 2 q0M (q01 (fun ρ=>rdS ρ 0) (q01 (fun ρ=>rdS ρ 2) q0k))) (fun _=>.ok .none) (isD true))) (q2l (q1Y (q01 (g2 (fun ρ=>rdB ρ 0) (fun _=>.ok (.int 0)) q0m) (q01 (q0J (q01 (q1S 1 [2,1] (gIt (g2 (fun ρ=>rdB ρ 0) (fun _=>.ok (.int 1)) q0m)) (fun _=>.ok true) (gIf (asB (g2 (g2 (fun ρ=>rdB ρ 0) (fun _=>.ok (.int 0)) q0m) (fun ρ=>rdB ρ 1) (eqD false))) (fun ρ=>rdS ρ 2) (fun ρ=>rdS ρ 0))) q0k) (on1 q1b)) q0k)) .tuple)) (fun ρ=>.ok (.nx ρ))) (q0n (q3b (asB (g2 (q0J (q01 (g2 (fun ρ=>rdB ρ 0) (fun _=>.ok (.int 1)) q0m) q0k) (on1 q8b)) (fun _=>.ok (.int 6)) (eqD false))) (q4S "NoErrand" (q01 (fun _=>.ok (.str "there would be more than 6 errands")) q0k)) (fun ρ=>.ok (.nx ρ))) (q2l (q1Y (q01 (g2 (fun ρ=>rdB ρ 0) (fun _=>.ok (.int 0)) q0m) (q01 (g2 (g2 (fun ρ=>rdB ρ 0) (fun _=>.ok (.int 1)) q0m) (q1Y (q01 (fun ρ=>rdS ρ 1) q0k) .tuple) q1R) q0k)) .tuple)))))))
def q0G:List D->R D:=q4R 3 q1l
def q1q:Rho->R Fl:=(q0n (w62 (gFn 1 q2d (q01 (fun ρ=>rdS ρ 0) q0k))) (q0n (q3b (asB (g2 (gFn 2 q0M (q01 (fun ρ=>rdS ρ 0) (q01 (fun ρ=>rdS ρ 1) q0k))) (fun _=>.ok .none) (isD false))) (q4S "NoErrand" (q01 (fun _=>.ok (.str "it is no name of an errand")) q0k)) (fun ρ=>.ok (.nx ρ))) (q2l (q1Y (q01 (g2 (fun ρ=>rdB ρ 0) (fun _=>.ok (.int 0)) q0m) (q01 (q0J (q01 (q1S 1 [1] (gIt (g2 (fun ρ=>rdB ρ 0) (fun _=>.ok (.int 1)) q0m)) (asB (g2 (g2 (fun ρ=>rdB ρ 0) (fun _=>.ok (.int 0)) q0m) (fun ρ=>rdB ρ 1) (eqD true))) (fun ρ=>rdS ρ 0)) q0k) (on1 q1b)) q0k)) .tuple))))
def q0Y:List D->R D:=q4R 2 q1q
def q2V:Rho->R Fl:=(q0n (q3b (asB (g2 (fun ρ=>rdB ρ 1) (q0J (q01 (fun ρ=>rdB ρ 0) q0k) (on1 q8b)) ltD)) (q2l (g2 (fun ρ=>rdB ρ 0) (fun ρ=>rdB ρ 1) q0m)) (fun ρ=>.ok (.nx ρ))) (q0n (q3b (asB (g2 (fun ρ=>rdB ρ 0) (q1Y q0k .list) (eqD false))) (q2l (fun _=>.ok (.int 0))) (fun ρ=>.ok (.nx ρ))) (q2l (g2 (g2 (g2 (fun ρ=>rdB ρ 0) (g2 (fun ρ=>rdB ρ 1) (q0J (q01 (fun ρ=>rdB ρ 0) q0k) (on1 q8b)) x3g) q0m) (fun _=>.ok (.int 31)) w6T) (fun ρ=>rdB ρ 1) q1R))))
def q2f:List D->R D:=q4R 2 q2V
def q3J:Rho->R Fl:=(q0n (q4b 3 (g2 (g2 (g2 (g2 (gFn 2 q2f (q01 (fun ρ=>rdS ρ 0) (q01 (fun ρ=>rdS ρ 1) q0k))) (g2 (fun _=>.ok (.int 7919)) (fun ρ=>rdB ρ 1) w6T) q1R) (fun _=>.ok (.int 1)) q1R) (fun _=>.ok (.int 48271)) w6T) (fun _=>.ok (.int 2147483647)) x3g)) (q2l (g2 (g2 (g2 (g2 (g2 (fun ρ=>rdB ρ 3) (fun ρ=>rdB ρ 3) w6T) (g2 (fun _=>.ok (.int 7)) (fun ρ=>rdB ρ 3) w6T) q1R) (fun ρ=>rdB ρ 1) q1R) (fun _=>.ok (.int 2147483629)) x3g) (fun ρ=>rdB ρ 2) x3g)))
def q08:List D->R D:=q4R 4 q3J
def q4F:Rho->R Fl:=(q0n (q4b 2 (fun _=>.ok (.str ""))) (q0n (w6V (w64 (q01 (g2 (q1Y (q01 (fun _=>.ok (.int 1)) (q01 (fun _=>.ok (.int 2)) (q01 (fun _=>.ok (.int 3)) (q01 (fun _=>.ok (.int 6)) (q01 (fun _=>.ok (.int 1)) (q01 (fun _=>.ok (.int 4)) q0k)))))) .list) (gFn 3 q08 (q01 (fun ρ=>rdS ρ 0) (q01 (fun ρ=>rdS ρ 1) (q01 (fun _=>.ok (.int 6)) q0k)))) q0m) q0k)) (q19 3) (q4b 2 (g2 (fun ρ=>rdB ρ 2) (g2 (fun _=>.ok (.str "abcdefghijklmnopqrstuvwxyz")) (gFn 3 q08 (q01 (fun ρ=>rdS ρ 0) (q01 (g2 (g2 (fun ρ=>rdB ρ 1) (fun _=>.ok (.int 1)) q1R) (fun ρ=>rdB ρ 3) q1R) (q01 (fun _=>.ok (.int 26)) q0k)))) q0m) q1R))) (q2l (fun ρ=>rdS ρ 2))))
def q22:List D->R D:=q4R 4 q4F
def q3K:Rho->R Fl:=(q0n (q3I 3 (fun _=>.ok (.dict []))) (q0n (w6V (w64 (q01 (gFn 3 q08 (q01 (fun ρ=>rdS ρ 0) (q01 (fun ρ=>rdS ρ 1) (q01 (g2 (fun ρ=>rdB ρ 2) (fun _=>.ok (.int 1)) q1R) q0k)))) q0k)) (q19 4) (w9H 3 (gFn 2 q22 (q01 (fun ρ=>rdS ρ 0) (q01 (g2 (g2 (fun ρ=>rdB ρ 1) (fun _=>.ok (.int 1)) q1R) (g2 (fun _=>.ok (.int 8)) (fun ρ=>rdB ρ 4) w6T) q1R) q0k))) (fun _=>.ok (.bool true)))) (q2l (q0J (q01 (q0J (q01 (q0J (q01 (fun ρ=>rdB ρ 3) q0k) (on1 q2p)) q0k) (on1 q6l)) q0k) (on1 q1b)))))
def q34:List D->R D:=q4R 5 q3K
def q4G:Rho->R Fl:=(q2l (q0J (q01 (q1S 2 [0,1,3] (x2v (q01 (fun ρ=>rdS ρ 2) q0k)) (asB (g2 (gFn 3 q08 (q01 (fun ρ=>rdS ρ 2) (q01 (g2 (fun ρ=>rdB ρ 3) (fun ρ=>rdB ρ 0) q1R) (q01 (fun _=>.ok (.int 12)) q0k)))) (fun ρ=>rdB ρ 4) ltD)) (fun ρ=>rdS ρ 1)) q0k) (on1 q1b)))
def q2r:List D->R D:=q4R 4 q4G
def q4H:Rho->R Fl:=(q0n (q4b 4 (g2 (fun ρ=>rdB ρ 2) (gFn 3 q08 (q01 (fun ρ=>rdS ρ 0) (q01 (g2 (fun ρ=>rdB ρ 1) (fun _=>.ok (.int 10)) q1R) (q01 (q0J (q01 (fun ρ=>rdB ρ 2) q0k) (on1 q8b)) q0k)))) q0m)) (q0n (q4b 5 (g2 (fun ρ=>rdB ρ 2) (gFn 3 q08 (q01 (fun ρ=>rdS ρ 0) (q01 (g2 (fun ρ=>rdB ρ 1) (fun _=>.ok (.int 11)) q1R) (q01 (q0J (q01 (fun ρ=>rdB ρ 2) q0k) (on1 q8b)) q0k)))) q0m)) (q0n (q4b 6 (g2 (fun ρ=>rdB ρ 2) (gFn 3 q08 (q01 (fun ρ=>rdS ρ 0) (q01 (g2 (fun ρ=>rdB ρ 1) (fun _=>.ok (.int 12)) q1R) (q01 (q0J (q01 (fun ρ=>rdB ρ 2) q0k) (on1 q8b)) q0k)))) q0m)) (q0n (q4b 7 (gSl (q1Y (q01 (fun ρ=>rdS ρ 4) (q01 (fun ρ=>rdS ρ 5) q0k)) .list) goN (goS (g2 (fun _=>.ok (.int 1)) (g2 (gFn 3 q08 (q01 (fun ρ=>rdS ρ 0) (q01 (g2 (fun ρ=>rdB ρ 1) (fun _=>.ok (.int 13)) q1R) (q01 (fun _=>.ok (.int 3)) q0k)))) (fun _=>.ok (.int 2)) x2p) q1R)))) (q0n (q3I 8 (q1S 1 [7,0,1] (gIt (q1Y (q01 (fun ρ=>rdS ρ 6) q0k) .list)) (x2l (asB (g2 (fun ρ=>rdB ρ 0) (fun ρ=>rdB ρ 1) (inD true))) (asB (g2 (gFn 3 q08 (q01 (fun ρ=>rdS ρ 2) (q01 (g2 (fun ρ=>rdB ρ 3) (fun _=>.ok (.int 14)) q1R) (q01 (fun _=>.ok (.int 4)) q0k)))) (fun _=>.ok (.int 0)) (eqD false)))) (fun ρ=>rdS ρ 0))) (q0n (q3I 9 (q1S 1 [6,0,1] (gIt (q1Y (q01 (fun ρ=>rdS ρ 4) q0k) .list)) (x2l (asB (g2 (fun ρ=>rdB ρ 0) (fun ρ=>rdB ρ 1) (eqD true))) (asB (g2 (gFn 3 q08 (q01 (fun ρ=>rdS ρ 2) (q01 (g2 (fun ρ=>rdB ρ 3) (fun _=>.ok (.int 15)) q1R) (q01 (fun _=>.ok (.int 3)) q0k)))) (fun _=>.ok (.int 0)) (eqD false)))) (fun ρ=>rdS ρ 0))) (q0n (gAt 8 (gAt 9 (q3I 10 (q1S 1 [] (gIt (q1Y (q01 (fun ρ=>rdS ρ 7) (q01 (fun ρ=>rdS ρ 8) (q01 (q1Y (q01 (fun ρ=>rdS ρ 6) q0k) .list) (q01 (fun ρ=>rdS ρ 9) q0k)))) .tuple)) (fun _=>.ok true) (q0J (q01 (q4D (q9Q (fun ρ=>rdB ρ 0))) q0k) (on1 q1b)))))) (q2l (q1Y (q01 (fun ρ=>rdS ρ 3) (q01 (g2 (fun ρ=>rdB ρ 10) (fun _=>.ok (.int 0)) q0m) (q01 (g2 (fun ρ=>rdB ρ 10) (fun _=>.ok (.int 1)) q0m) (q01 (g2 (fun ρ=>rdB ρ 10) (fun _=>.ok (.int 2)) q0m) (q01 (g2 (fun ρ=>rdB ρ 10) (fun _=>.ok (.int 3)) q0m) (q01 (gFn 3 q08 (q01 (fun ρ=>rdS ρ 0) (q01 (fun ρ=>rdS ρ 1) (q01 (fun _=>.ok (.int 5)) q0k)))) q0k)))))) .tuple)))))))))
def q3q:List D->R D:=q4R 11 q4H
def q23:Rho->R Fl:=(q0n (q3b (x2l (asB (g2 (fun ρ=>rdB ρ 2) (q1Y q0k .tuple) (eqD true))) (asB (g2 (gFn 3 q08 (q01 (fun ρ=>rdS ρ 0) (q01 (fun _=>.ok (.int 97)) (q01 (fun _=>.ok (.int 2)) q0k)))) (fun _=>.ok (.int 0)) (eqD false)))) (q2l (gFn 4 q3q (q01 (fun ρ=>rdS ρ 0) (q01 (fun ρ=>rdS ρ 1) (q01 (fun ρ=>rdS ρ 2) (q01 (fun ρ=>rdS ρ 3) q0k)))))) (fun ρ=>.ok (.nx ρ))) (q0n (x5A 4) (q0n (w6V (x2v (q01 (fun ρ=>rdS ρ 2) q0k)) (w3h 2 (q1y (q19 5) (q1y (q19 6) w63))) (q0n (q4b 7 (gFn 3 q08 (q01 (fun ρ=>rdS ρ 0) (q01 (g2 (g2 (fun ρ=>rdB ρ 1) (fun _=>.ok (.int 10)) q1R) (fun ρ=>rdB ρ 5) q1R) (q01 (fun _=>.ok (.int 8)) q0k))))) (q0n (q3b (asB (g2 (fun ρ=>rdB ρ 7) (fun _=>.ok (.int 3)) ltD)) (q6o 4 (g2 (q1Y (q01 (fun _=>.ok (.int 0)) (q01 (fun _=>.ok (.int 0)) (q01 (fun _=>.ok (.int 1)) q0k))) .list) (fun ρ=>rdB ρ 7) q0m) (fun ρ=>rdS ρ 6)) (fun ρ=>.ok (.nx ρ))) (q0n (q4b 7 (gFn 3 q08 (q01 (fun ρ=>rdS ρ 0) (q01 (g2 (g2 (fun ρ=>rdB ρ 1) (fun _=>.ok (.int 20)) q1R) (fun ρ=>rdB ρ 5) q1R) (q01 (fun _=>.ok (.int 8)) q0k))))) (q3b (asB (g2 (fun ρ=>rdB ρ 7) (fun _=>.ok (.int 4)) ltD)) (q6o 4 (g2 (q1Y (q01 (fun _=>.ok (.int 2)) (q01 (fun _=>.ok (.int 2)) (q01 (fun _=>.ok (.int 3)) (q01 (fun _=>.ok (.int 3)) q0k)))) .list) (fun ρ=>rdB ρ 7) q0m) (fun ρ=>rdS ρ 6)) (fun ρ=>.ok (.nx ρ))))))) (q0n (fun ρ=>(q3I 8 (q1S 1 [] (gIt (fun ρ=>rdB ρ 4)) (fun _=>.ok true) (q0J (q01 (fun ρ=>rdB ρ 0) q0k) (on1 q1b)))) (q0S ρ)) (q2l (q1Y (q01 (fun ρ=>rdS ρ 3) (q01 (g2 (fun ρ=>rdB ρ 8) (fun _=>.ok (.int 0)) q0m) (q01 (g2 (fun ρ=>rdB ρ 8) (fun _=>.ok (.int 1)) q0m) (q01 (g2 (fun ρ=>rdB ρ 8) (fun _=>.ok (.int 2)) q0m) (q01 (g2 (fun ρ=>rdB ρ 8) (fun _=>.ok (.int 3)) q0m) (q01 (gFn 3 q08 (q01 (fun ρ=>rdS ρ 0) (q01 (fun ρ=>rdS ρ 1) (q01 (fun _=>.ok (.int 5)) q0k)))) q0k)))))) .tuple))))))
def q13:List D->R D:=q4R 9 q23
def q3r:Rho->R Fl:=(q0n (q4b 4 (gFn 3 q34 (q01 (fun ρ=>rdS ρ 0) (q01 (fun ρ=>rdS ρ 1) (q01 (fun ρ=>rdS ρ 2) q0k))))) (q0n (q3I 5 (fun _=>.ok (.dict []))) (q0n (w6V (w64 (q01 (gFn 3 q08 (q01 (fun ρ=>rdS ρ 0) (q01 (g2 (fun ρ=>rdB ρ 1) (fun _=>.ok (.int 60)) q1R) (q01 (g2 (fun ρ=>rdB ρ 3) (fun _=>.ok (.int 1)) q1R) q0k)))) q0k)) (q19 6) (q0n (q4b 7 (gFn 2 q22 (q01 (fun ρ=>rdS ρ 0) (q01 (g2 (g2 (fun ρ=>rdB ρ 1) (fun _=>.ok (.int 70)) q1R) (g2 (fun _=>.ok (.int 40)) (fun ρ=>rdB ρ 6) w6T) q1R) q0k)))) (w9H 5 (fun ρ=>rdS ρ 7) (gFn 4 q13 (q01 (fun ρ=>rdS ρ 0) (q01 (g2 (g2 (fun ρ=>rdB ρ 1) (fun _=>.ok (.int 80)) q1R) (g2 (fun _=>.ok (.int 40)) (fun ρ=>rdB ρ 6) w6T) q1R) (q01 (fun ρ=>rdS ρ 4) (q01 (fun ρ=>rdS ρ 7) q0k)))))))) (q0n (q4b 8 (q0J (q01 (fun ρ=>rdB ρ 5) q0k) (on1 q2p))) (q0n (q4b 9 (gFn 3 q08 (q01 (fun ρ=>rdS ρ 0) (q01 (g2 (fun ρ=>rdB ρ 1) (fun _=>.ok (.int 61)) q1R) (q01 (g2 (q0J (q01 (fun ρ=>rdB ρ 8) q0k) (on1 q8b)) (fun _=>.ok (.int 1)) q1R) q0k))))) (q2l (q1Y (q01 (fun ρ=>rdS ρ 4) (q01 (q0J (q01 (q1S 1 [5] (gIt (g2 (gSl (fun ρ=>rdB ρ 8) (goS (fun ρ=>rdS ρ 9)) goN) (gSl (fun ρ=>rdB ρ 8) goN (goS (fun ρ=>rdS ρ 9))) q1R)) (fun _=>.ok true) (g2 (fun ρ=>rdB ρ 1) (fun ρ=>rdB ρ 0) q0m)) q0k) (on1 q1b)) q0k)) .tuple)))))))
def q2Y:List D->R D:=q4R 10 q3r
def q3s:Rho->R Fl:=(q0n (q3I 3 (q1Y q0k .list)) (q0n (q3I 4 (q1Y q0k .list)) (q0n (w6V (x2v (q01 (fun ρ=>rdS ρ 2) q0k)) (w3h 2 (q1y (q19 5) (q1y (q19 6) w63))) (q0n (q4b 7 (gFn 3 q08 (q01 (fun ρ=>rdS ρ 0) (q01 (g2 (fun ρ=>rdB ρ 1) (fun ρ=>rdB ρ 5) q1R) (q01 (fun _=>.ok (.int 8)) q0k))))) (q3b (asB (g2 (fun ρ=>rdB ρ 7) (fun _=>.ok (.int 2)) ltD)) (w92 3 (fun ρ=>rdS ρ 6)) (q3b (asB (g2 (fun ρ=>rdB ρ 7) (fun _=>.ok (.int 2)) (eqD false))) (w92 4 (fun ρ=>rdS ρ 6)) (fun ρ=>.ok (.nx ρ)))))) (q2l (q1Y (q01 (q0J (q01 (fun ρ=>rdB ρ 3) q0k) (on1 q1b)) (q01 (q0J (q01 (fun ρ=>rdB ρ 4) q0k) (on1 q1b)) q0k)) .tuple)))))
def q4I:List D->R D:=q4R 8 q3s
def q4J:Rho->R Fl:=(q0n (q4b 3 (gFn 4 q2Y (q01 (fun ρ=>rdS ρ 0) (q01 (fun _=>.ok (.int 100)) (q01 (fun ρ=>rdS ρ 1) (q01 (fun ρ=>rdS ρ 2) q0k)))))) (q0n (q4b 4 (gFn 4 q2r (q01 (fun ρ=>rdS ρ 0) (q01 (fun _=>.ok (.int 20)) (q01 (g2 (fun ρ=>rdB ρ 3) (fun _=>.ok (.int 0)) q0m) (q01 (g2 (q1Y (q01 (fun _=>.ok (.int 2)) (q01 (fun _=>.ok (.int 4)) q0k)) .list) (gFn 3 q08 (q01 (fun ρ=>rdS ρ 0) (q01 (fun _=>.ok (.int 97)) (q01 (fun _=>.ok (.int 2)) q0k)))) q0m) q0k)))))) (q2l (q1Y (q01 (fun ρ=>rdS ρ 3) (q01 (fun ρ=>rdS ρ 4) (q01 (gFn 3 q4I (q01 (fun ρ=>rdS ρ 0) (q01 (fun _=>.ok (.int 30)) (q01 (g2 (fun ρ=>rdB ρ 3) (fun _=>.ok (.int 0)) q0m) q0k)))) q0k))) .tuple))))
def q3t:List D->R D:=q4R 5 q4J
def q1B:Rho->R Fl:=(q0n (q3I 3 (q1Y (q01 (fun _=>.ok .none) (q01 (q0J (q01 (fun ρ=>rdB ρ 2) q0k) (on1 q2p)) (q01 (q1Y (q01 (fun _=>.ok (.str "zzzzz")) q0k) .tuple) (q01 (g2 (fun ρ=>rdB ρ 2) (q1Y (q01 (fun _=>.ok (.str "zzzzz")) q0k) .tuple) q1R) (q01 (q1Y (q01 (fun _=>.ok (.int 1)) q0k) .tuple) (q01 (fun _=>.ok (.int 0)) (q01 (fun _=>.ok (.str "a")) (q01 (q1Y (q01 (fun _=>.ok (.str "")) q0k) .tuple) (q01 (q1Y (q01 (fun _=>.ok .none) q0k) .tuple) q0k))))))))) .list)) (q0n (q3b (asB (g2 (fun ρ=>rdB ρ 2) (q1Y q0k .tuple) (eqD true))) (x2z 3 (q1Y (q01 (g2 (fun ρ=>rdB ρ 2) (fun ρ=>rdB ρ 2) q1R) (q01 (g2 (gSl (fun ρ=>rdB ρ 2) goN (goS (fun _=>.ok (.int 1)))) (gSl (fun ρ=>rdB ρ 2) goN (goS (fun _=>.ok (.int 1)))) q1R) (q01 (q1Y (q01 (g2 (fun ρ=>rdB ρ 2) (fun _=>.ok (.int 0)) q0m) (q01 (fun _=>.ok (.int 0)) q0k)) .tuple) q0k))) .list)) (fun ρ=>.ok (.nx ρ))) (q0n (q3b (asB (g2 (q0J (q01 (fun ρ=>rdB ρ 2) q0k) (on1 q8b)) (fun _=>.ok (.int 1)) gtD)) (x2z 3 (x4Y 3 (q01 (x5F (fun ρ=>rdB ρ 2)) q0k))) (fun ρ=>.ok (.nx ρ))) (q2l (g2 (fun ρ=>rdB ρ 3) (gFn 3 q08 (q01 (fun ρ=>rdS ρ 0) (q01 (fun ρ=>rdS ρ 1) (q01 (q0J (q01 (fun ρ=>rdB ρ 3) q0k) (on1 q8b)) q0k)))) q0m)))))
def q2g:List D->R D:=q4R 4 q1B
def w9Q:Rho->R Fl:=(q0n (x0G (gFn 3 q3t (q01 (fun ρ=>rdS ρ 0) (q01 (fun _=>.ok (.int 6)) (q01 (fun _=>.ok (.int 6)) q0k)))) (w3h 3 (q1y (q19 1) (q1y (q19 2) (q1y (q19 3) w63))))) (q0n (q4b 4 (gFn 4 q2r (q01 (fun ρ=>rdS ρ 0) (q01 (fun _=>.ok (.int 300)) (q01 (g2 (fun ρ=>rdB ρ 1) (fun _=>.ok (.int 0)) q0m) (q01 (fun _=>.ok (.int 7)) q0k)))))) (q0n (q3I 5 (q1Y q0k .list)) (q0n (w6V (gIt (g2 (fun ρ=>rdB ρ 1) (fun _=>.ok (.int 1)) q0m)) (q19 6) (q0n (q3I 7 (q1S 1 [4] (gIt (gSl (fun ρ=>rdB ρ 6) (goS (fun _=>.ok (.int 1))) (goS (fun _=>.ok (.int 5))))) (fun _=>.ok true) (q0J (q01 (q1S 1 [1] (gIt (fun ρ=>rdB ρ 0)) (asB (g2 (fun ρ=>rdB ρ 0) (fun ρ=>rdB ρ 1) (inD false))) (fun ρ=>rdS ρ 0)) q0k) (on1 q1b)))) (w92 5 (g2 (g2 (q1Y (q01 (g2 (fun ρ=>rdB ρ 6) (fun _=>.ok (.int 0)) q0m) q0k) .tuple) (q0J (q01 (fun ρ=>rdB ρ 7) q0k) (on1 q1b)) q1R) (gSl (fun ρ=>rdB ρ 6) (goS (fun _=>.ok (.int 5))) goN) q1R)))) (q0n (q3b (asB (g2 (gFn 2 (q7t whD q7f) (q01 (fun ρ=>rdS ρ 1) (q01 (fun ρ=>rdS ρ 4) q0k))) (q1Y (q01 (fun ρ=>rdS ρ 4) (q01 (q0J (q01 (fun ρ=>rdB ρ 5) q0k) (on1 q1b)) q0k)) .tuple) (eqD true))) (q2l (fun _=>.ok (.bool false))) (fun ρ=>.ok (.nx ρ))) (q0n (q3b (asB (g2 (gFn 2 (q7t whD q7f) (q01 (fun ρ=>rdS ρ 1) (q01 (gFn 3 q2g (q01 (fun ρ=>rdS ρ 0) (q01 (fun _=>.ok (.int 0)) (q01 (g2 (fun ρ=>rdB ρ 1) (fun _=>.ok (.int 0)) q0m) q0k)))) q0k))) (q1Y (q01 (fun _=>.ok (.str "refused")) (q01 (fun _=>.ok (.int 7)) q0k)) .tuple) (eqD true))) (q2l (fun _=>.ok (.bool false))) (fun ρ=>.ok (.nx ρ))) (q0n (q3I 8 (q1S 1 [] (gIt (g2 (fun ρ=>rdB ρ 1) (fun _=>.ok (.int 1)) q0m)) (fun _=>.ok true) (g2 (fun ρ=>rdB ρ 0) (fun _=>.ok (.int 0)) q0m))) (q0n (q4b 9 (g2 (g2 (fun ρ=>rdB ρ 8) (x4Y 3 (q01 (fun _=>.ok (.str "zzzzz")) q0k)) q1R) (gFn 3 q08 (q01 (fun ρ=>rdS ρ 0) (q01 (fun _=>.ok (.int 2)) (q01 (g2 (q0J (q01 (fun ρ=>rdB ρ 8) q0k) (on1 q8b)) (fun _=>.ok (.int 3)) q1R) q0k)))) q0m)) (q0n (q4b 10 (gFn 4 q13 (q01 (fun ρ=>rdS ρ 0) (q01 (fun _=>.ok (.int 320)) (q01 (g2 (fun ρ=>rdB ρ 1) (fun _=>.ok (.int 0)) q0m) (q01 (fun ρ=>rdS ρ 9) q0k)))))) (q0n (q4b 11 (g2 (q0J (q01 (g2 (fun ρ=>rdB ρ 1) (fun _=>.ok (.int 1)) q0m) q0k) (on1 q2p)) (q1Y (q01 (fun ρ=>rdS ρ 10) q0k) .list) q1R)) (q0n (q3b (asB (g2 (fun ρ=>rdB ρ 9) (fun ρ=>rdB ρ 8) (inD false))) (q3I 11 (q1S 1 [10,9] (gIt (g2 (fun ρ=>rdB ρ 1) (fun _=>.ok (.int 1)) q0m)) (fun _=>.ok true) (g2 (q1Y (q01 (fun ρ=>rdS ρ 0) (q01 (fun ρ=>rdS ρ 1) q0k)) .list) (q0J (q01 (g2 (g2 (fun ρ=>rdB ρ 0) (fun _=>.ok (.int 0)) q0m) (fun ρ=>rdB ρ 2) (eqD false)) q0k) (on1 x6n)) q0m))) (fun ρ=>.ok (.nx ρ))) (q0n (q4b 5 (q1Y (q01 (g2 (fun ρ=>rdB ρ 1) (fun _=>.ok (.int 0)) q0m) (q01 (q0J (q01 (fun ρ=>rdB ρ 11) q0k) (on1 q1b)) q0k)) .tuple)) (q0n (q3b (asB (g2 (q0J (q01 (fun ρ=>rdB ρ 11) q0k) (on1 q8b)) (fun _=>.ok (.int 6)) gtD)) (q4b 5 (q1Y (q01 (fun _=>.ok (.str "refused")) (q01 (fun _=>.ok (.int 3)) q0k)) .tuple)) (fun ρ=>.ok (.nx ρ))) (q0n (q3b (asB (g2 (gFn 2 (q7t whD q0G) (q01 (fun ρ=>rdS ρ 1) (q01 (fun ρ=>rdS ρ 10) q0k))) (fun ρ=>rdB ρ 5) (eqD true))) (q2l (fun _=>.ok (.bool false))) (fun ρ=>.ok (.nx ρ))) (q0n (q4b 12 (g2 (q1Y (q01 (fun _=>.ok .none) (q01 (gSl (fun ρ=>rdB ρ 10) goN (goS (fun _=>.ok (.int 5)))) (q01 (q0J (q01 (fun ρ=>rdB ρ 10) q0k) (on1 q2p)) (q01 (g2 (gSl (fun ρ=>rdB ρ 10) goN (goS (fun _=>.ok (.int 5)))) (q1Y (q01 (fun _=>.ok (.int 10)) q0k) .tuple) q1R) q0k)))) .list) (gFn 3 q08 (q01 (fun ρ=>rdS ρ 0) (q01 (fun _=>.ok (.int 3)) (q01 (fun _=>.ok (.int 4)) q0k)))) q0m)) (q0n (q3b (asB (g2 (gFn 2 (q7t whD q0G) (q01 (fun ρ=>rdS ρ 1) (q01 (fun ρ=>rdS ρ 12) q0k))) (q1Y (q01 (fun _=>.ok (.str "refused")) (q01 (fun _=>.ok (.int 3)) q0k)) .tuple) (eqD true))) (q2l (fun _=>.ok (.bool false))) (fun ρ=>.ok (.nx ρ))) (q0n (q4b 5 (q1Y (q01 (fun _=>.ok (.str "refused")) (q01 (fun _=>.ok (.int 3)) q0k)) .tuple)) (q0n (q3b (asB (g2 (fun ρ=>rdB ρ 9) (fun ρ=>rdB ρ 8) (inD false))) (q4b 5 (q1Y (q01 (g2 (fun ρ=>rdB ρ 1) (fun _=>.ok (.int 0)) q0m) (q01 (q0J (q01 (q1S 1 [9] (gIt (g2 (fun ρ=>rdB ρ 1) (fun _=>.ok (.int 1)) q0m)) (asB (g2 (g2 (fun ρ=>rdB ρ 0) (fun _=>.ok (.int 0)) q0m) (fun ρ=>rdB ρ 1) (eqD true))) (fun ρ=>rdS ρ 0)) q0k) (on1 q1b)) q0k)) .tuple)) (fun ρ=>.ok (.nx ρ))) (q2l (g2 (gFn 2 (q7t whD q0Y) (q01 (fun ρ=>rdS ρ 1) (q01 (fun ρ=>rdS ρ 9) q0k))) (fun ρ=>rdB ρ 5) (eqD false)))))))))))))))))))))
def w8n:List D->R D:=q4R 13 w9Q
end Z
end
section
set_option hygiene false
namespace Z
open PySem L2 J
local macro_rules | `(tactic| walk_at "zz") => `(tactic| simp only [w8c, q5O, w5g, x6W, x0N, w9M, x4w, x6X, w8d, w5h, w8e, w5i, w5j, w5k, x2C, x0O, x0P, w8f, x0Q, w8g, x6Z, x4y, x4z, x0R, x4A, x0S, x4B, x72, x0T, x4C, x0U, w8h, x0V, w8i, x4F, w8j, x0W, x0X, x0Y, x11, w5l, w5m, x4G, x12, w8k, x13, x76, x4I, x4J, x14, x4K, x15, x16, x4L, x4M, x17, x7a, x18, x19, x4N, x4O, x1a, x6l, x1b, x4P, x4Q, x1c, w8l, w8m, x4T, w1O, w1P, w1Q, x1d, x7c, x1e, x1f, x1g, x1h, x1i, x1j, w1R, w9L, x6V, q1R, w6T, x3g, x2p, x2o, ltD, leD, gtD, x3h, q8b, List.map_cons, List.map_nil, List.length_cons, List.length_nil, List.length_map, List.cons_append, List.nil_append, List.replicate_succ, List.replicate_zero, List.set_cons_zero, List.set_cons_succ, Nat.reduceSub, Nat.reduceAdd, Nat.reduceLeDiff, Nat.reduceEqDiff, Nat.sub_self, if_true, if_false, ite_true, ite_false, Bool.false_eq_true, decide_true, decide_false, cond_true, cond_false, Bool.not_true, Bool.not_false, Nat.le_refl, Nat.zero_le, Int.reduceLT, Int.reduceLE, Int.reduceAdd, Int.reduceMul, Nat.reduceLT, Int.reduceNeg, reduceIte])
local macro_rules | `(tactic| walk_at "yy") => `(tactic| simp only [w8c, q5O, w5g, x4w, x6X, w8d, w5h, w8e, w5i, w5j, w5k, x2C, x0O, x0P, w8f, x0Q, w8g, x6Z, x4y, x4z, x0R, x4A, x0S, x4B, x72, x0T, x4C, x0U, w8h, x0V, w8i, x4F, w8j, x0W, x0X, x0Y, x11, w5l, w5m, x4G, x12, w8k, x13, x76, x4I, x4J, x14, x4K, x15, x16, x4L, x4M, x17, x7a, x18, x19, x4N, x4O, x1a, x6l, x1b, x4P, x4Q, x1c, w8l, w8m, x4T, w1O, w1P, w1Q, x1d, x7c, x1e, x1f, x1g, x1h, x1i, x1j, w1R, w9L, x6V, q1R, q8b, List.map_cons, List.map_nil, List.length_cons, List.length_nil, List.length_map, List.cons_append, List.nil_append, List.replicate_succ, List.replicate_zero, List.set_cons_zero, List.set_cons_succ, Nat.reduceSub, Nat.reduceAdd, Nat.reduceLeDiff, Nat.reduceEqDiff, Nat.sub_self, if_true, if_false, ite_true, ite_false, Bool.false_eq_true, decide_true, decide_false, cond_true, cond_false, Bool.not_true, Bool.not_false, Nat.le_refl, Nat.zero_le, Int.reduceLT, Int.reduceLE, Int.reduceAdd, Int.reduceMul, Nat.reduceLT, Int.reduceNeg, reduceIte])
theorem q0P {n:Nat}{g:Rho->R Fl}{ds:List D}{d:D} (h:g (q0r n ds)=.ok (.rt d)):q4R n g ds=.ok d:=by unfold q4R;rw [h]
theorem w5o {n:Nat}{g:Rho->R Fl}{ds:List D}{c:Str}{m:Option D} (h:g (q0r n ds)=.ex c m):q4R n g ds=.ex c m:=by unfold q4R;rw [h]
def w9R (ns:List Int) (k:Int):Int:=if k<ns.length then ns.getD k.toNat 0 else if ns=[] then 0 else ns.getD (k % ns.length).toNat 0 * 31 + k
theorem w9S (ns:List Int):PyData.canLayAll0 (ns.map .int)=true:=by
 induction ns with
 | nil=>rfl
 | cons x r ih=>simp [PyData.canLayAll0,PyData.canLay0,ih]
theorem x2F (ns:List Int):PyData.eqv (.list (ns.map .int)) (.list [])=decide (ns=[]):=by
 cases ns with
 | nil=>rfl
 | cons x r=>simp [PyData.eqv,PyData.eqvAll]
theorem x52 (ns:List Int):eqD false (.list (ns.map .int)) (.list [])=.ok (.bool (decide (ns=[]))):=by
 unfold eqD
 have h1:(PyData.list (ns.map .int)).canLay0=true:=by simp only [PyData.canLay0];exact w9S ns
 have h2:(PyData.list []).canLay0=true:=rfl
 have h3:min (PyData.list (ns.map .int)).depth (PyData.list []).depth<=60:=Nat.le_trans (Nat.min_le_right _ _) (by decide)
 rw [h1,h2,decide_eq_true h3,x2F]
 rfl
theorem x53 (ns:List Int) (k:Int) (h0:0<=k) (h1:k<ns.length):atI (ns.map PyData.int) k=some (.int (ns.getD k.toNat 0)):=by
 have hk:k.toNat<ns.length:=by omega
 have:=q6f (xs:=ns.map PyData.int) (j:=k.toNat) (v:=.int (ns.getD k.toNat 0)) (by rw [List.getElem?_map,List.getElem?_eq_getElem hk];simp [hk])
 rwa [Int.toNat_of_nonneg h0] at this
theorem x1m (ns:List Int) (k:Int) (h0:0<=k) (h1:k<ns.length):q0m (.list (ns.map .int)) (.int k)=.ok (.int (ns.getD k.toNat 0)):=by
 have e:∀ xs k,q0m (.list xs) k=ixD (.list xs) k:=fun _ _=>rfl
 rw [e]
 unfold ixD
 simp only [x53 ns k h0 h1]
theorem w8o {i j:Int} (h1:-(2 ^ 64)<j) (h2:j<2 ^ 64):w5X i j=true:=by
 unfold w5X
 simp only [Bool.or_eq_true,Bool.and_eq_true,decide_eq_true_eq]
 exact .inr ⟨h1,h2⟩
theorem q6q {i j:Int} (h1:-(2 ^ 64)<i) (h2:i<2 ^ 64):w5X i j=true:=by
 unfold w5X
 simp only [Bool.or_eq_true,Bool.and_eq_true,decide_eq_true_eq]
 exact .inl ⟨h1,h2⟩
theorem x2G (ns:List Int) (k:Int) (hk:0<=k):q2f [.list (ns.map .int),.int k]=.ok (.int (w9R ns k)):=by
 unfold q2f
 refine q0P ?_
 unfold q2V q0r w9R
 walk_at "zz"
 by_cases h:k<ns.length
 ·simp only [h,decide_true,cond_true,if_true,x1m ns k hk h,bind_ok]
  walk_at "zz"
 ·simp only [h,decide_false,cond_false,if_false]
  walk_at "zz"
  rw [x52]
  walk_at "zz"
  by_cases h2:ns=[]
  ·simp only [h2,decide_true,cond_true,if_true]
   walk_at "zz"
  ·have hl:(0:Int)<ns.length:=by have:0<ns.length:=List.length_pos_iff.mpr h2;omega
   simp only [h2,decide_false,cond_false,if_false,hl,decide_true]
   walk_at "zz"
   simp only [h2,decide_false,cond_false,if_false,hl,decide_true,if_true]
   walk_at "zz"
   rw [x1m ns _ (Int.emod_nonneg _ (by omega)) (Int.emod_lt_of_pos _ hl)]
   walk_at "zz"
   rw [w8o (by decide) (by decide)]
   walk_at "zz"
def w3l (ns:List Int) (k:Int):Int:=(w9R ns k + 7919 * k + 1) * 48271 % 2147483647
def q2Z (ns:List Int) (k m:Int):Int:=(w3l ns k * w3l ns k + 7 * w3l ns k + k) % 2147483629 % m
theorem q1e (ns:List Int) (k m:Int) (h:0<m):0<=q2Z ns k m:=Int.emod_nonneg _ (by omega)
theorem q1w (ns:List Int) (k m:Int) (h:0<m):q2Z ns k m<m:=Int.emod_lt_of_pos _ h
theorem q1r (ns:List Int) (k m:Int) (hk:0<=k) (hm:0<m):q08 [.list (ns.map .int),.int k,.int m]=.ok (.int (q2Z ns k m)):=by
 have d0:0<=w3l ns k:=Int.emod_nonneg _ (by decide)
 have d1:w3l ns k<2147483647:=Int.emod_lt_of_pos _ (by decide)
 unfold q08
 refine q0P ?_
 unfold q3J q0r
 walk_at "zz"
 rw [x2G ns k hk]
 walk_at "zz"
 rw [q6q (by decide) (by decide)]
 walk_at "zz"
 rw [w8o (by decide) (by decide)]
 walk_at "zz"
 rw [show (w9R ns k + 7919 * k + 1) * 48271 % 2147483647=w3l ns k from rfl,q6q (i:=w3l ns k) (by omega) (by omega)]
 walk_at "zz"
 rw [q6q (i:=7) (by decide) (by decide)]
 walk_at "zz"
 rw [decide_eq_true hm]
 walk_at "zz"
 rfl
theorem q5R {α β:Type}{kt:D->Rho->R Rho}{gb:Rho->R Fl} (c:α->D) (f:β->α->β) (P:List α->β->Rho->Prop) (h:∀ x q0V b ρ,P (x::q0V) b ρ->∃ ρ1 ρ',kt (c x) ρ=.ok ρ1/\gb ρ1=.ok (.nx ρ')/\P q0V (f b x) ρ') :
  ∀ (xs:List α) (b:β) (ρ:Rho),P xs b ρ->∃ ρ',w2T kt gb (xs.map c) ρ=.ok (.nx ρ')/\P [] (xs.foldl f b) ρ'
 | [],b,ρ,p=>⟨ρ,rfl,p⟩
 | x::r,b,ρ,p=>by
  obtain ⟨ρ1,ρ2,h1,h2,h3⟩:=h x r b ρ p
  obtain ⟨ρ3,h4,h5⟩:=q5R c f P h r (f b x) ρ2 h3
  refine ⟨ρ3,?_,h5⟩
  rw [List.map_cons]
  unfold w2T
  rw [h1]
  simp only [h2]
  exact h4
theorem w3m {α β:Type}{kt:D->Rho->R Rho}{gb hh:Rho->R Fl}{r:R Fl} (c:α->D) (f:β->α->β) (P:List α->β->Rho->Prop) {xs:List α} (b:β) {ρ:Rho}
  (h:∀ x q0V b ρ,P (x::q0V) b ρ->∃ ρ1 ρ',kt (c x) ρ=.ok ρ1/\gb ρ1=.ok (.nx ρ')/\P q0V (f b x) ρ') (p0:P xs b ρ) (k:∀ ρ',P [] (xs.foldl f b) ρ'->hh ρ'=r):(w2T kt gb (xs.map c) ρ).bind (x4v hh)=r:=by
 obtain ⟨ρ',e,p⟩:=q5R c f P h xs b ρ p0
 rw [e,bind_ok,q5O]
 exact k ρ' p
theorem w3n (n:Nat) (h:n<=1000):x2u [.int (n:Int)]=.ok ((List.range n).map fun (i:Nat)=>PyData.int (i:Int)):=by
 have e:x2u [.int (n:Int)]=.ok (q7e 0 (n:Int).toNat):=x2D (by omega) (by omega)
 rw [e]
 unfold q7e
 rw [Int.toNat_natCast]
 exact congrArg R.ok (List.map_congr_left fun a _=>congrArg PyData.int (Int.zero_add _))
def okW (x:Str):Bool:=decide (1<=x.cps.size) && decide (x.cps.size<=6/\x.cps.size≠5) && x.cps.toList.all fun c=>decide (97<=c) && decide (c<=122)
def q98 (ns:List Int) (k:Int):Nat:=[1,2,3,6,1,4].getD (q2Z ns k 6).toNat 0
def w9T (ns:List Int) (k:Int) (i:Nat):Nat:=97 + (q2Z ns (k + 1 + i) 26).toNat
def q4f (ns:List Int) (k:Int):Str:=⟨((List.range (q98 ns k)).map (w9T ns k)).toArray⟩
theorem w8p (ns:List Int) (k:Int):1<=q98 ns k/\(q98 ns k<=6/\q98 ns k≠5):=by
 have h0:=q1e ns k 6 (by decide)
 have h1:=q1w ns k 6 (by decide)
 unfold q98
 have:∀ j:_root_.Fin 6,1<=[1,2,3,6,1,4].getD j.val 0/\([1,2,3,6,1,4].getD j.val 0<=6/\[1,2,3,6,1,4].getD j.val 0≠5):=by decide
 exact this ⟨(q2Z ns k 6).toNat,by omega⟩
theorem x2H (ns:List Int) (k:Int) (i:Nat):97<=w9T ns k i/\w9T ns k i<=122:=by
 have h0:=q1e ns (k + 1 + i) 26 (by decide)
 have h1:=q1w ns (k + 1 + i) 26 (by decide)
 unfold w9T
 omega
theorem w5p (ns:List Int) (k:Int):okW (q4f ns k)=true:=by
 have ⟨h1,h2⟩:=w8p ns k
 unfold okW q4f
 simp only [List.size_toArray,List.length_map,List.length_range,Bool.and_eq_true,decide_eq_true_eq,List.all_eq_true]
 refine ⟨⟨h1,h2⟩,fun c hc=>?_⟩
 obtain ⟨i,_,rfl⟩:=List.mem_map.mp hc
 exact x2H ns k i
theorem w9U (j:Int) (h0:0<=j) (h1:j<26):q0m (.str "abcdefghijklmnopqrstuvwxyz") (.int j)=.ok (.str ⟨#[97 + j.toNat]⟩):=by
 have e:∀ x k,q0m (.str x) k=ixD (.str x) k:=fun _ _=>rfl
 rw [e]
 unfold ixD
 have hc:("abcdefghijklmnopqrstuvwxyz" : Str).cps.toList=(List.range 26).map (97 + ·):=by decide +kernel
 have hl:("abcdefghijklmnopqrstuvwxyz" : Str).length<=1000:=by decide +kernel
 have hj:j.toNat<26:=by omega
 have hx:=q6f (xs:=(List.range 26).map (97 + ·)) (j:=j.toNat) (v:=97 + j.toNat) (by rw [List.getElem?_map,List.getElem?_range hj];rfl)
 rw [Int.toNat_of_nonneg h0] at hx
 simp only [hl,if_true,hc,hx]
theorem x2I (j:Int) (h0:0<=j) (h1:j<6):q0m (.list [.int 1,.int 2,.int 3,.int 6,.int 1,.int 4]) (.int j)=.ok (.int (([1,2,3,6,1,4].getD j.toNat 0:Nat):Int)):=by
 obtain ⟨n,rfl⟩:=Int.eq_ofNat_of_zero_le h0
 have hn:n<6:=by omega
 match n,hn with
 | 0,_=>rfl
 | 1,_=>rfl
 | 2,_=>rfl
 | 3,_=>rfl
 | 4,_=>rfl
 | 5,_=>rfl
theorem w1T (l:List Nat):∀ (acc:Str),l.foldl (fun (a:Str) c=>a++⟨#[c]⟩) acc=⟨(acc.cps.toList++l).toArray⟩:=by
 induction l with
 | nil=>intro acc;simp
 | cons c r ih =>
  intro acc
  rw [List.foldl_cons,ih]
  show (⟨((acc.cps++#[c]).toList++r).toArray⟩:Str)=_
  simp
theorem w8q:("" : Str).cps.toList=[]:=by decide +kernel
theorem w8r (ns:List Int) (k:Int) (hk:0<=k):q22 [.list (ns.map .int),.int k]=.ok (.str (q4f ns k)):=by
 have h0:=q1e ns k 6 (by decide)
 have h1:=q1w ns k 6 (by decide)
 have ⟨w1,w2⟩:=w8p ns k
 unfold q22
 refine q0P ?_
 unfold q4F q0r
 walk_at "zz"
 rw [w1N (ds:=(List.range (q98 ns k)).map fun (i:Nat)=>PyData.int i)]
 ·refine w3m (fun (i:Nat)=>PyData.int i) (fun (a:Str) i=>a++⟨#[w9T ns k i]⟩) (fun q0V a ρ=>a.length + q0V.length<=900/\∃ z,ρ=[.shr (.list (ns.map .int)),.shr (.int k),.shr (.str a),z]) "" ?_ ⟨by rw [List.length_range,show ("" : Str).length=0 by decide];omega,_,rfl⟩ ?_
  ·rintro i q0V a ρ ⟨hl,z,rfl⟩
   simp only [List.length_cons] at hl
   refine ⟨_,[.shr (.list (ns.map .int)),.shr (.int k),.shr (.str (a++⟨#[w9T ns k i]⟩)),.shr (.int i)],rfl,?_,?_,_,rfl⟩
   ·walk_at "zz"
    rw [q1r ns _ 26 (by omega) (by decide)]
    walk_at "zz"
    rw [w9U _ (q1e _ _ _ (by decide)) (q1w _ _ _ (by decide))]
    walk_at "zz"
    have hz:a.length + (⟨#[97 + (q2Z ns (k + 1 + i) 26).toNat]⟩:Str).length<=1000:=by
     show a.length + 1<=1000
     omega
    rw [if_pos hz]
    walk_at "zz"
    rw [show 97 + (q2Z ns (k + 1 + i) 26).toNat=w9T ns k i from rfl]
   ·show (a.cps++#[_]).size + q0V.length<=900
    rw [Array.size_append]
    show a.cps.size + 1 + q0V.length<=900
    have:a.length=a.cps.size:=rfl
    omega
  ·rintro ρ' ⟨_,z,rfl⟩
   walk_at "zz"
   have:(List.range (q98 ns k)).foldl (fun (a:Str) i=>a++⟨#[w9T ns k i]⟩) ""=q4f ns k:=by
    have:=w1T ((List.range (q98 ns k)).map (w9T ns k)) ""
    rw [List.foldl_map] at this
    rw [this,w8q]
    unfold q4f
    rw [List.nil_append]
   rw [this]
 ·walk_at "zz"
  rw [q1r ns k 6 hk (by decide)]
  walk_at "zz"
  have et:=x2I (q2Z ns k 6) h0 h1
  have ew:[1,2,3,6,1,4].getD (q2Z ns k 6).toNat 0=q98 ns k:=rfl
  rw [ew] at et
  rw [et]
  walk_at "zz"
  rw [w3n (q98 ns k) (by omega)]
def q7S (l:List (Str×D)):List (D×D):=l.map fun p=>(.str p.1,p.2)
def w5q (l:List (Str×D)) (x:Str) (d:D):List (Str×D):=if l.any (fun p=>decide (p.1=x)) then l.map (fun p=>if p.1=x then (p.1,d) else p) else l++[(x,d)]
theorem q3L (x y:Str):PyData.eqv (.str x) (.str y)=decide (x=y):=by
 show (x == y)=_
 rw [Bool.beq_eq_decide_eq]
theorem x2J (l:List (Str×D)) (x:Str) (d:D):x3k (q7S l) (.str x) d=q7S (w5q l x d):=by
 unfold x3k w5q q7S
 rw [List.any_map]
 have e:((fun kv:D×D=>PyData.eqv kv.1 (.str x))∘fun p:Str×D=>(PyData.str p.1,p.2))=fun p=>decide (p.1=x):=by
  funext p
  exact q3L p.1 x
 rw [e]
 split
 ·rw [List.map_map,List.map_map]
  apply List.map_congr_left
  intro p _
  simp only [Function.comp,q3L]
  by_cases h:p.1=x
  ·simp [h]
  ·simp [h]
 ·simp
theorem w0w (l:List (Str×D)):q1P (q7S l)=true:=by
 unfold q1P q7S
 rw [List.all_map,List.all_eq_true]
 intro p _
 rfl
theorem w5r (l:List (Str×D)) (x:Str) (d:D):(w5q l x d).length<=l.length + 1:=by
 unfold w5q
 split<;>simp
theorem w1U (l:List (Str×D)) (x:Str) (d:D):(w5q l x d).map (·.1)=if x∈l.map (·.1) then l.map (·.1) else l.map (·.1)++[x]:=by
 unfold w5q
 have e:(l.any fun p=>decide (p.1=x))=decide (x∈l.map (·.1)):=by
  rw [Bool.eq_iff_iff]
  simp only [List.any_eq_true,decide_eq_true_eq,List.mem_map]
 rw [e]
 by_cases h:x∈l.map (·.1)
 ·rw [decide_eq_true h,if_pos rfl,if_pos h,List.map_map]
  apply List.map_congr_left
  intro p _
  by_cases hp:p.1=x<;>simp [hp]
 ·rw [decide_eq_false h,if_neg Bool.false_ne_true,if_neg h,List.map_append]
  rfl
theorem w9V {Q:Str->D->Prop}{l:List (Str×D)}{x:Str}{d:D} (h:∀ p∈l,Q p.1 p.2) (hx:Q x d):∀ p∈w5q l x d,Q p.1 p.2:=by
 unfold w5q
 split
 ·intro p hp
  obtain ⟨p',hp',rfl⟩:=List.mem_map.mp hp
  by_cases e:p'.1=x
  ·rw [if_pos e];rw [e];exact hx
  ·rw [if_neg e];exact h p' hp'
 ·intro p hp
  rcases List.mem_append.mp hp with hp | hp
  ·exact h p hp
  ·rw [List.mem_singleton.mp hp];exact hx
theorem w8s {l:List Str}{x:Str} (h:l.Nodup):(if x∈l then l else l++[x]).Nodup:=by
 by_cases hx:x∈l
 ·rw [if_pos hx];exact h
 ·rw [if_neg hx];exact w7q h hx
theorem x54 {i:Nat}{gk g:Rho->R D}{ρ:Rho}{l:List (Str×D)}{x:Str}{d:D} (hi:ρ[i]?=some (Sl.own (.dict (q7S l)))) (hg:g ρ=.ok d) (hk:gk ρ=.ok (.str x)) (hl:l.length<1000):w9H i gk g ρ=.ok (.nx (ρ.set i (.own (.dict (q7S (w5q l x d)))))):=by
 have hl':(q7S l).length<1000:=by unfold q7S;rw [List.length_map];exact hl
 have e:w9H i gk g ρ=(g ρ).bind fun d=>(gk ρ).bind fun k=>match w3j k with
  | some _=>if (q7S l).length<1000/\q1P (q7S l)=true then .ok (.nx (ρ.set i (.own (.dict (x3k (q7S l) k d))))) else .no
  | none=>.no:=by
  unfold w9H
  simp only [hi]
  try rfl
 rw [e,hg,w9L,hk,w9L]
 simp only [w3j,if_pos (And.intro hl' (w0w l)),x2J]
theorem w5s (l:List (Str×D)):q2p (.dict (q7S l))=.ok (.list ((l.map (·.1)).map .str)):=by
 have e:∀ kvs,q2p (.dict kvs)=if q1P kvs=true then .ok (.list (kvs.map (·.1))) else .no:=fun _=>rfl
 rw [e,if_pos (w0w l)]
 unfold q7S
 rw [List.map_map,List.map_map]
 rfl
theorem sorted_strs (ss:List Str) (h:ss.length<64):q6l (.list (ss.map .str))=.ok (.list ((q41 ss).map .str)):=by
 have e:∀ ds,q6l (.list ds)=match q1Z ds with
  | some ss=>if ss.length<64 then .ok (.list ((q41 ss).map .str)) else .no
  | none=>.no:=fun _=>rfl
 rw [e,strsOf_map]
 simp only [if_pos h]
theorem q0I (ds:List D):q1b (.list ds)=.ok (.tuple ds):=id rfl
def w5t (ns:List Int) (k:Int) (n:Nat):List Str:=(List.range n).map fun (i:Nat)=>q4f ns (k + 1 + 8 * (i:Int))
def w5u (ns:List Int) (k m:Int):List Str:=q41 (q1G [] (w5t ns k (q2Z ns k (m + 1)).toNat))
structure x55 (fs:List Str) (n:Nat):Prop where
 ok:∀ x∈fs,okW x=true
 up:fs.Pairwise fun a b=>ltS a b=true
 len:fs.length<=n
theorem w9W {α:Type}{a b:List α} (h:a.Perm b):a.length=b.length:=h.length_eq
theorem w6a (ns:List Int) (k m:Int) (hm:0<=m):x55 (w5u ns k m) m.toNat:=by
 have h0:=q1e ns k (m + 1) (by omega)
 have h1:=q1w ns k (m + 1) (by omega)
 have hp:=q2n (q1G [] (w5t ns k (q2Z ns k (m + 1)).toNat))
 refine ⟨fun x hx=>?_,?_,?_⟩
 ·have hx:=hp.mem_iff.mp hx
  rw [q45] at hx
  rcases hx with hx | hx
  ·cases hx
  ·obtain ⟨i,_,rfl⟩:=List.mem_map.mp hx
   exact w5p _ _
 ·exact w1y (q7P _) (hp.nodup_iff.mpr (q3G _ [] List.nodup_nil))
 ·unfold w5u
  rw [w9W hp]
  have:=q3c (w5t ns k (q2Z ns k (m + 1)).toNat) []
  unfold w5t at this ⊢
  simp at this
  omega
theorem w8t (f:Nat->Str) (l:List Nat):∀ acc:List (Str×D),((l.foldl (fun (a:List (Str×D)) i=>w5q a (f i) (.bool true)) acc).map (·.1))=q1G (acc.map (·.1)) (l.map f):=by
 induction l with
 | nil=>intro acc;rfl
 | cons i r ih =>
  intro acc
  rw [List.foldl_cons,ih,List.map_cons,w1U]
  rfl
theorem w9X (ns:List Int) (k m:Int) (hk:0<=k) (hm:0<=m) (hm2:m<=20):q34 [.list (ns.map .int),.int k,.int m]=.ok (.tuple ((w5u ns k m).map .str)):=by
 have h0:=q1e ns k (m + 1) (by omega)
 have h1:=q1w ns k (m + 1) (by omega)
 unfold q34
 refine q0P ?_
 unfold q3K q0r
 walk_at "zz"
 rw [w1N (ds:=(List.range (q2Z ns k (m + 1)).toNat).map fun (i:Nat)=>PyData.int i)]
 ·refine w3m (fun (i:Nat)=>PyData.int i) (fun (a:List (Str×D)) i=>w5q a (q4f ns (k + 1 + 8 * (i:Int))) (.bool true)) (fun q0V a ρ=>a.length + q0V.length<=60/\∃ z,ρ=[.shr (.list (ns.map .int)),.shr (.int k),.shr (.int m),.own (.dict (q7S a)),z]) [] ?_ ⟨by simp;omega,_,rfl⟩ ?_
  ·rintro i q0V a ρ ⟨hl,z,rfl⟩
   simp only [List.length_cons] at hl
   refine ⟨_,[.shr (.list (ns.map .int)),.shr (.int k),.shr (.int m),.own (.dict (q7S (w5q a (q4f ns (k + 1 + 8 * (i:Int))) (.bool true)))),.shr (.int i)],rfl,?_,?_,_,rfl⟩
   ·refine (x54 (l:=a) (x:=q4f ns (k + 1 + 8 * (i:Int))) (d:=.bool true) rfl rfl ?_ (by omega)).trans rfl
    walk_at "zz"
    rw [q6q (by decide) (by decide)]
    walk_at "zz"
    rw [w8r ns _ (by omega)]
   ·have:=w5r a (q4f ns (k + 1 + 8 * (i:Int))) (.bool true)
    omega
  ·rintro ρ' ⟨hl,z,rfl⟩
   simp only [List.length_nil] at hl
   walk_at "zz"
   rw [w5s]
   walk_at "zz"
   have ek:=w8t (fun i=>q4f ns (k + 1 + 8 * (i:Int))) (List.range (q2Z ns k (m + 1)).toNat) []
   rw [ek,sorted_strs]
   ·walk_at "zz"
    rw [q0I]
    walk_at "zz"
    rfl
   ·rw [<- ek,List.length_map];omega
 ·walk_at "zz"
  rw [q1r ns k (m + 1) hk (by omega)]
  walk_at "zz"
  have:=w3n (q2Z ns k (m + 1)).toNat (by omega)
  rw [Int.toNat_of_nonneg h0] at this
  exact this
structure ErZ where
 name:Str
 needs:List Str
 bars:List Str
 makes:List Str
 ends:List Str
 price:Int
abbrev q0q (xs:List Str):D:=.tuple (xs.map .str)
def q16 (e:ErZ):D:=.tuple [.str e.name,q0q e.needs,q0q e.bars,q0q e.makes,q0q e.ends,.int e.price]
structure Sub (fs xs:List Str):Prop where
 up:xs.Pairwise fun a b=>ltS a b=true
 mem:∀ x∈xs,x∈fs
structure GoodP (fs:List Str) (e:ErZ):Prop where
 needs:Sub fs e.needs
 bars:Sub fs e.bars
 makes:Sub fs e.makes
 ends:Sub fs e.ends
 nb:∀ x∈e.needs,x∉e.bars
 me:∀ x∈e.makes,x∉e.ends
 p0:0<=e.price
 p9:e.price<=9
structure w3o (fs:List Str) (e:ErZ):Prop extends GoodP fs e where
 name:okW e.name=true
def srt (xs:List Str):List Str:=q41 (q1G [] xs)
theorem q6r {xs:List Str}{x:Str}:x∈srt xs↔x∈xs:=by
 unfold srt
 rw [(q2n _).mem_iff,q45]
 simp
theorem x56 (xs:List Str):(srt xs).Pairwise fun a b=>ltS a b=true:=w1y (q7P _) ((q2n _).nodup_iff.mpr (q3G _ [] List.nodup_nil))
theorem w0x {fs xs:List Str} (h:∀ x∈xs,x∈fs):Sub fs (srt xs):=⟨x56 xs,fun x hx=>h x (q6r.mp hx)⟩
theorem w3p (fs:List Str) (j:Int) (h0:0<=j) (h1:j<fs.length):∃ x,x∈fs/\q0m (q0q fs) (.int j)=.ok (.str x):=by
 have hj:j.toNat<fs.length:=by omega
 refine ⟨fs[j.toNat],List.getElem_mem hj,?_⟩
 have e:∀ xs k,q0m (.tuple xs) k=ixD (.tuple xs) k:=fun _ _=>rfl
 rw [e]
 have hx:=q6f (xs:=fs.map PyData.str) (j:=j.toNat) (v:=.str fs[j.toNat]) (by rw [List.getElem?_map,List.getElem?_eq_getElem hj];rfl)
 rw [Int.toNat_of_nonneg h0] at hx
 unfold ixD
 simp only [hx]
theorem w0y (x:Str):∀ ys:List Str,((ys.map PyData.str).any fun y=>PyData.eqv y (.str x))=decide (x∈ys)
 | []=>rfl
 | y::r=>by
  rw [List.map_cons,List.any_cons,w0y x r,q3L]
  by_cases h:y=x
  ·subst h;simp
  ·simp [h,Ne.symm h]
theorem q9W (ys:List Str):(ys.map PyData.str).all q4O=true:=by
 rw [List.all_map,List.all_eq_true];intro _ _;rfl
theorem q8l (neg:Bool) (x:Str) (ys:List Str):inD neg (.str x) (.list (ys.map .str))=.ok (.bool (if neg then !decide (x∈ys) else decide (x∈ys))):=by
 have e:inD neg (.str x) (.list (ys.map .str))=if q4O (.str x) && (ys.map PyData.str).all q4O then .ok (.bool (if neg then !((ys.map PyData.str).any fun y=>PyData.eqv y (.str x)) else (ys.map PyData.str).any fun y=>PyData.eqv y (.str x))) else .no:=rfl
 rw [e,q9W,w0y]
 rfl
theorem w5v (neg:Bool) (x:Str) (ys:List Str):inD neg (.str x) (q0q ys)=.ok (.bool (if neg then !decide (x∈ys) else decide (x∈ys))):=by
 have e:inD neg (.str x) (q0q ys)=if q4O (.str x) && (ys.map PyData.str).all q4O then .ok (.bool (if neg then !((ys.map PyData.str).any fun y=>PyData.eqv y (.str x)) else (ys.map PyData.str).any fun y=>PyData.eqv y (.str x))) else .no:=rfl
 rw [e,q9W,w0y]
 rfl
theorem q3u (neg:Bool) (a b:Int):eqD neg (.int a) (.int b)=.ok (.bool (if neg then !decide (a=b) else decide (a=b))):=by
 have e:eqD neg (.int a) (.int b)=.ok (.bool (if neg then !(a == b) else (a == b))):=rfl
 rw [e,Bool.beq_eq_decide_eq]
theorem q53 {x:Str} (h:okW x=true):(PyData.str x).canLay0=true:=by
 unfold okW at h
 simp only [Bool.and_eq_true,List.all_eq_true,decide_eq_true_eq] at h
 show PyData.strOk x=true
 unfold PyData.strOk
 rw [<- Array.all_toList,List.all_eq_true]
 intro c hc
 have:=h.2 c hc
 exact decide_eq_true (by omega)
theorem q54 (neg:Bool) {x y:Str} (hx:okW x=true) (hy:okW y=true):eqD neg (.str x) (.str y)=.ok (.bool (if neg then !decide (x=y) else decide (x=y))):=by
 unfold eqD
 rw [q53 hx,q53 hy,q3L]
 rfl
theorem w6b (ss:List Str) (h:ss.length<60):w1J (.list (ss.map .str))=.ok (q1G [] ss):=by
 have e:∀ ds,w1J (.list ds)=match q1Z ds with
  | some ss=>if ss.length<60 then .ok (q1G [] ss) else .no
  | none=>.no:=fun _=>rfl
 rw [e,strsOf_map]
 simp only [if_pos h]
theorem x2K (g:Rho->R D) (s:Sl) (ρ:Rho):q9Q g (s::ρ)=(g (s::ρ)).bind w1J:=id rfl
def x57:List Str->R D:=fun ss=>if ss.length<64 then .ok (.list ((q41 ss).map .str)) else .no
theorem w8u (g:Rho->R (List Str)) (s:Sl) (ρ:Rho):q4D g (s::ρ)=(g (s::ρ)).bind x57:=id rfl
theorem w9Y (ss:List Str) (h:ss.length<64):x57 ss=.ok (.list ((q41 ss).map .str)):=if_pos h
theorem w8v (ss:List Str) (h:ss.length<60) (ρ:Rho):(q0J (J.q01 (q4D (q9Q fun ρ=>rdB ρ 0)) J.q0k) (on1 q1b)) (.shr (.list (ss.map .str))::ρ)=.ok (q0q (srt ss)):=by
 walk_at "zz"
 rw [w8u,x2K]
 walk_at "zz"
 rw [w6b ss h]
 walk_at "zz"
 rw [w9Y _ (by have:=q3c ss [];simp at this;omega)]
 walk_at "zz"
 rw [q0I]
 rfl
theorem w5w {ρ:Rho}{gt:Rho->R Bool}{x:Str}{b:Bool}{s:Sl}{r:Rho} (hρ:ρ=s::r) (h:gt (.shr (.str x)::r)=.ok b):q2J (q2S 1 ρ gt (fun ρ=>rdS ρ 0)) [.str x]=.ok ((if b then [x] else []).map .str):=by
 subst hρ
 have e:=w0v (ρ:=s::r) (gt:=gt) (ge:=fun ρ=>rdS ρ 0) (d:=.str x) (y:=.str x) (b:=b) h fun _=>rfl
 unfold q2J
 rw [e,w9L]
 unfold q2J
 rw [w9L]
 cases b<;>rfl
theorem x58 (p q r t:List Str) (hp:p.length<60) (hq:q.length<60) (hr:r.length<60) (ht:t.length<60):q2J (q2S 1 [Sl.no] (fun _=>.ok true) (q0J (J.q01 (q4D (q9Q fun ρ=>rdB ρ 0)) J.q0k) (on1 q1b))) [.list (p.map .str),.list (q.map .str),.list (r.map .str),.list (t.map .str)]=.ok [q0q (srt p),q0q (srt q),q0q (srt r),q0q (srt t)] :=
 q0T _ (fun ss:List Str=>PyData.list (ss.map .str)) (fun ss=>q0q (srt ss)) [p,q,r,t] fun ss hs=>q1v rfl (w8v ss (by simp at hs;rcases hs with h | h | h | h<;>(rw [h];assumption)) _)
theorem x59 (a b c d:D):q0m (.list [a,b,c,d]) (.int 0)=.ok a:=id rfl
theorem x5a (a b c d:D):q0m (.list [a,b,c,d]) (.int 1)=.ok b:=id rfl
theorem x5b (a b c d:D):q0m (.list [a,b,c,d]) (.int 2)=.ok c:=id rfl
theorem x5c (a b c d:D):q0m (.list [a,b,c,d]) (.int 3)=.ok d:=id rfl
theorem x2L (ns:List Int) (k:Int) (hk:0<=k) (fs:List Str) (hf:∀ x∈fs,okW x=true) (h0:0<fs.length) (nm:Str) :
  ∃ e,q3q [.list (ns.map .int),.int k,q0q fs,.str nm]=.ok (q16 e)/\GoodP fs e/\e.name=nm:=by
 have hl:(0:Int)<(fs.length:Int):=by omega
 obtain ⟨a,ha,ea⟩:=w3p fs (q2Z ns (k + 10) fs.length) (q1e _ _ _ hl) (q1w _ _ _ hl)
 obtain ⟨b,hb,eb⟩:=w3p fs (q2Z ns (k + 11) fs.length) (q1e _ _ _ hl) (q1w _ _ _ hl)
 obtain ⟨c,hc,ec⟩:=w3p fs (q2Z ns (k + 12) fs.length) (q1e _ _ _ hl) (q1w _ _ _ hl)
 have m13a:=q1e ns (k + 13) 3 (by decide)
 have m13b:=q1w ns (k + 13) 3 (by decide)
 obtain ⟨nd,hnd,hnl,end_⟩:∃ nd:List Str,(∀ x∈nd,x∈fs)/\nd.length<60/\slD (.list [.str a,.str b]) none (some (1 + q2Z ns (k + 13) 3 / 2))=.ok (.list (nd.map .str)):=by
  by_cases h2:q2Z ns (k + 13) 3=2
  ·exact ⟨[a,b],by simp [ha,hb],by simp,by rw [h2];rfl⟩
  ·have:q2Z ns (k + 13) 3 / 2=0:=by omega
   exact ⟨[a],by simp [ha],by simp,by rw [this];rfl⟩
 let bb:Bool:=!decide (c∈nd) && decide (q2Z ns (k + 14) 4=0)
 let be:Bool:=!decide (a=c) && decide (q2Z ns (k + 15) 3=0)
 have p0:=q1e ns k 5 (by decide)
 have p1:=q1w ns k 5 (by decide)
 refine ⟨⟨nm,srt nd,srt (if bb then [c] else []),srt [c],srt (if be then [a] else []),q2Z ns k 5⟩,?_,⟨w0x hnd,w0x ?_,w0x (by simp [hc]),w0x ?_,fun x h1 h2=>?_,fun x h1 h2=>?_,p0,by show q2Z ns k 5<=9;omega⟩,rfl⟩
 ·unfold q3q
  refine q0P ?_
  unfold q4H q0r
  walk_at "zz"
  rw [q1r ns _ _ (by omega) hl]
  walk_at "zz"
  rw [ea]
  walk_at "zz"
  rw [q1r ns (k + 11) _ (by omega) hl]
  walk_at "zz"
  rw [eb]
  walk_at "zz"
  rw [q1r ns (k + 12) _ (by omega) hl]
  walk_at "zz"
  rw [ec]
  walk_at "zz"
  rw [q1r ns (k + 13) 3 (by omega) (by decide)]
  walk_at "zz"
  simp only [Int.reduceLT,decide_true,Bool.and_self,if_true]
  walk_at "zz"
  rw [end_]
  walk_at "zz"
  rw [w5w (b:=bb) rfl]
  ·walk_at "zz"
   rw [w5w (b:=be) rfl]
   ·walk_at "zz"
    simp only [gAt]
    rw [x1k rfl,x1k rfl]
    walk_at "zz"
    have pk:=x58 nd (if bb then [c] else []) [c] (if be then [a] else []) hnl (by cases bb<;>simp) (by simp) (by cases be<;>simp)
    rw [show ([c].map PyData.str)=[PyData.str c] from rfl] at pk
    rw [pk]
    walk_at "zz"
    rw [x59]
    walk_at "zz"
    rw [x5a]
    walk_at "zz"
    rw [x5b]
    walk_at "zz"
    rw [x5c]
    walk_at "zz"
    rw [q1r ns k 5 hk (by decide)]
    walk_at "zz"
    rfl
   ·walk_at "zz"
    rw [q54 true (hf a ha) (hf c hc)]
    walk_at "zz"
    by_cases hac:a=c
    ·simp only [be,hac,decide_true,Bool.not_true,Bool.false_and,if_true,cond_false]
    ·simp only [be,hac,decide_false,Bool.not_false,Bool.true_and,if_true,cond_true]
     rw [q1r ns (k + 15) 3 (by omega) (by decide)]
     walk_at "zz"
     rw [q3u]
     walk_at "zz"
  ·walk_at "zz"
   rw [q8l]
   walk_at "zz"
   by_cases hcn:c∈nd
   ·simp only [bb,hcn,decide_true,Bool.not_true,Bool.false_and,if_true,cond_false]
   ·simp only [bb,hcn,decide_false,Bool.not_false,Bool.true_and,if_true,cond_true]
    rw [q1r ns (k + 14) 4 (by omega) (by decide)]
    walk_at "zz"
    rw [q3u]
    walk_at "zz"
 ·intro x hx
  cases hbb:bb
  ·simp [hbb] at hx
  ·simp [hbb] at hx;rw [hx];exact hc
 ·intro x hx
  cases hbe:be
  ·simp [hbe] at hx
  ·simp [hbe] at hx;rw [hx];exact ha
 ·have h2:x∈(if bb then [c] else []):=q6r.mp h2
  cases hbb:bb
  ·simp [hbb] at h2
  ·simp [hbb] at h2
   subst h2
   have:(!decide (x∈nd))=true:=by
    have:(!decide (x∈nd) && decide (q2Z ns (k + 14) 4=0))=true:=hbb
    simp only [Bool.and_eq_true] at this
    exact this.1
   simp at this
   exact this (q6r.mp h1)
 ·cases hbe:be
  ·have h2:x∈(if be then [a] else []):=q6r.mp h2
   simp [hbe] at h2
  ·skip
   have h4:x∈[c]:=q6r.mp h1
   have h5:x∈(if be then [a] else []):=q6r.mp h2
   simp only [List.mem_singleton] at h4
   simp only [hbe,if_true,List.mem_singleton] at h5
   have:(!decide (a=c) && decide (q2Z ns (k + 15) 3=0))=true:=hbe
   simp only [Bool.and_eq_true] at this
   have h3:=this.1
   simp at h3
   exact h3 (h5.symm.trans h4)
theorem w5x {i:Nat}{gi g:Rho->R D}{ρ:Rho}{dss:List (List D)}{ds:List D}{d:D}{j:Int} (hi:ρ[i]?=some (Sl.ow2 dss)) (hj:gi ρ=.ok (.int j)) (h0:0<=j) (hd:dss[j.toNat]?=some ds) (hg:g ρ=.ok d) (hl:ds.length<1000):q6o i gi g ρ=.ok (.nx (ρ.set i (.ow2 (dss.set j.toNat (ds++[d]))))):=by
 unfold q6o
 simp only [hi,hj,bind_ok,if_pos h0,hd,hg,if_pos hl]
def q5S (n:Nat):List Str->List (Nat×Str)
 | []=>[]
 | x::r=>(n,x)::q5S (n + 1) r
abbrev cI (p:Nat×Str):D:=.tuple [.int (p.1:Nat),.str p.2]
theorem w0z:∀ (xs:List Str) (n:Nat),q7s n (xs.map .str)=(q5S n xs).map cI
 | [],_=>rfl
 | x::r,n=>by
  show PyData.tuple [.int n,.str x]::q7s (n + 1) (r.map .str)=cI (n,x)::(q5S (n + 1) r).map cI
  rw [w0z r (n + 1)]
theorem q5T:∀ (xs:List Str) (n:Nat),(q5S n xs).map (·.2)=xs
 | [],_=>rfl
 | x::r,n=>by
  show x::(q5S (n + 1) r).map (·.2)=x::r
  rw [q5T r]
theorem q5U:∀ (fs:List Str),(∀ x∈fs,okW x=true)->PyData.canLayAll0 (fs.map .str)=true
 | [],_=>rfl
 | x::r,h=>by
  have h1:=q53 (h x List.mem_cons_self)
  have h2:=q5U r fun y hy=>h y (List.mem_cons_of_mem _ hy)
  simp only [List.map_cons,PyData.canLayAll0,h1,h2,Bool.and_self]
theorem w3q (fs:List Str) (hf:∀ x∈fs,okW x=true):eqD true (q0q fs) (.tuple [])=.ok (.bool (!decide (fs=[]))):=by
 unfold eqD
 have h1:(q0q fs).canLay0=true:=by simp only [PyData.canLay0];exact q5U fs hf
 have h2:(PyData.tuple []).canLay0=true:=rfl
 have h3:min (q0q fs).depth (PyData.tuple []).depth<=60:=Nat.le_trans (Nat.min_le_right _ _) (by decide)
 have h4:PyData.eqv (q0q fs) (.tuple [])=decide (fs=[]):=by
  cases fs with
  | nil=>rfl
  | cons x r=>simp [PyData.eqv,PyData.eqvAll]
 rw [h1,h2,decide_eq_true h3,h4]
 rfl
structure q99 (pre p q:List Str):Prop where
 sp:p.Sublist pre
 sq:q.Sublist pre
 d:∀ x∈p,x∉q
theorem q99.skip {pre p q:List Str} (h:q99 pre p q) (x:Str):q99 (pre++[x]) p q:=⟨h.sp.trans (List.sublist_append_left _ _),h.sq.trans (List.sublist_append_left _ _),h.d⟩
theorem q99.left {pre p q:List Str} (h:q99 pre p q) (x:Str) (hx:x∉pre):q99 (pre++[x]) (p++[x]) q:=⟨h.sp.append (List.Sublist.refl _),h.sq.trans (List.sublist_append_left _ _),fun y hy hq=>by
 rcases List.mem_append.mp hy with h1 | h1
 ·exact h.d y h1 hq
 ·rw [List.mem_singleton.mp h1] at hq
  exact hx (h.sq.subset hq)⟩
theorem q99.right {pre p q:List Str} (h:q99 pre p q) (x:Str) (hx:x∉pre):q99 (pre++[x]) p (q++[x]):=⟨h.sp.trans (List.sublist_append_left _ _),h.sq.append (List.Sublist.refl _),fun y hy hq=>by
 rcases List.mem_append.mp hq with h1 | h1
 ·exact h.d y hy h1
 ·rw [List.mem_singleton.mp h1] at hy
  exact hx (h.sp.subset hy)⟩
abbrev o4 (p q r t:List Str):Sl:=.ow2 [p.map .str,q.map .str,r.map .str,t.map .str]
theorem x6o (j:Int) (h0:0<=j) (h1:j<3):∃ b:Bool,q0m (.list [.int 0,.int 0,.int 1]) (.int j)=.ok (.int (if b then 0 else 1)):=by
 have:j=0\/j=1\/j=2:=by omega
 rcases this with h | h | h<;>subst h
 ·exact ⟨true,rfl⟩
 ·exact ⟨true,rfl⟩
 ·exact ⟨false,rfl⟩
theorem x6p (j:Int) (h0:0<=j) (h1:j<4):∃ b:Bool,q0m (.list [.int 2,.int 2,.int 3,.int 3]) (.int j)=.ok (.int (if b then 2 else 3)):=by
 have:j=0\/j=1\/j=2\/j=3:=by omega
 rcases this with h | h | h | h<;>subst h
 ·exact ⟨true,rfl⟩
 ·exact ⟨true,rfl⟩
 ·exact ⟨false,rfl⟩
 ·exact ⟨false,rfl⟩
theorem q7T (p:List Str) (x:Str):(p++[x]).map PyData.str=p.map .str++[.str x]:=by simp
theorem w9Z {a b c d e f:Sl}{pre p q r t:List Str}{x:Str}{j:Int} (hp:q99 pre p q) (hx:x∉pre) (hl:pre.length<900) (h0:0<=j) :
  ∃ p' q',q99 (pre++[x]) p' q'/\q3b (asB (g2 (fun ρ=>rdB ρ 7) (fun _=>.ok (.int 3)) ltD)) (q6o 4 (g2 (q1Y (J.q01 (fun _=>.ok (.int 0)) (J.q01 (fun _=>.ok (.int 0)) (J.q01 (fun _=>.ok (.int 1)) J.q0k))) .list) (fun ρ=>rdB ρ 7) q0m) (fun ρ=>rdS ρ 6)) (fun ρ=>.ok (.nx ρ)) [a,b,c,d,o4 p q r t,e,.shr (.str x),.shr (.int j),f]=.ok (.nx [a,b,c,d,o4 p' q' r t,e,.shr (.str x),.shr (.int j),f]):=by
 by_cases h3:j<3
 ·obtain ⟨bo,e3⟩:=x6o j h0 h3
  have lp:p.length<1000:=by have:=hp.sp.length_le;omega
  have lq:q.length<1000:=by have:=hp.sq.length_le;omega
  cases bo
  ·refine ⟨p,q++[x],hp.right x hx,?_⟩
   walk_at "zz"
   rw [decide_eq_true h3]
   walk_at "zz"
   simp only [o4,q7T]
   refine (w5x (j:=1) (ds:=q.map .str) (d:=.str x) rfl ?_ (by decide) rfl rfl (by rw [List.length_map];exact lq)).trans rfl
   walk_at "zz"
   rw [e3]
   rfl
  ·refine ⟨p++[x],q,hp.left x hx,?_⟩
   walk_at "zz"
   rw [decide_eq_true h3]
   walk_at "zz"
   simp only [o4,q7T]
   refine (w5x (j:=0) (ds:=p.map .str) (d:=.str x) rfl ?_ (by decide) rfl rfl (by rw [List.length_map];exact lp)).trans rfl
   walk_at "zz"
   rw [e3]
   rfl
 ·refine ⟨p,q,hp.skip x,?_⟩
  walk_at "zz"
  rw [decide_eq_false h3]
  walk_at "zz"
theorem x00 {a b c d e f:Sl}{pre p q r t:List Str}{x:Str}{j:Int} (hp:q99 pre r t) (hx:x∉pre) (hl:pre.length<900) (h0:0<=j) :
  ∃ r' t',q99 (pre++[x]) r' t'/\q3b (asB (g2 (fun ρ=>rdB ρ 7) (fun _=>.ok (.int 4)) ltD)) (q6o 4 (g2 (q1Y (J.q01 (fun _=>.ok (.int 2)) (J.q01 (fun _=>.ok (.int 2)) (J.q01 (fun _=>.ok (.int 3)) (J.q01 (fun _=>.ok (.int 3)) J.q0k)))) .list) (fun ρ=>rdB ρ 7) q0m) (fun ρ=>rdS ρ 6)) (fun ρ=>.ok (.nx ρ)) [a,b,c,d,o4 p q r t,e,.shr (.str x),.shr (.int j),f]=.ok (.nx [a,b,c,d,o4 p q r' t',e,.shr (.str x),.shr (.int j),f]):=by
 by_cases h3:j<4
 ·obtain ⟨bo,e3⟩:=x6p j h0 h3
  have lp:r.length<1000:=by have:=hp.sp.length_le;omega
  have lq:t.length<1000:=by have:=hp.sq.length_le;omega
  cases bo
  ·refine ⟨r,t++[x],hp.right x hx,?_⟩
   walk_at "zz"
   rw [decide_eq_true h3]
   walk_at "zz"
   simp only [o4,q7T]
   refine (w5x (j:=3) (ds:=t.map .str) (d:=.str x) rfl ?_ (by decide) rfl rfl (by rw [List.length_map];exact lq)).trans rfl
   walk_at "zz"
   rw [e3]
   rfl
  ·refine ⟨r++[x],t,hp.left x hx,?_⟩
   walk_at "zz"
   rw [decide_eq_true h3]
   walk_at "zz"
   simp only [o4,q7T]
   refine (w5x (j:=2) (ds:=r.map .str) (d:=.str x) rfl ?_ (by decide) rfl rfl (by rw [List.length_map];exact lp)).trans rfl
   walk_at "zz"
   rw [e3]
   rfl
 ·refine ⟨r,t,hp.skip x,?_⟩
  walk_at "zz"
  rw [decide_eq_false h3]
  walk_at "zz"
theorem x6q (i:Nat) (ρ:Rho):x5A i ρ=.ok (.nx ((clear2 ρ).set i (.ow2 [[],[],[],[]]))):=id rfl
theorem q99.sub {fs p q:List Str} (up:fs.Pairwise fun a b=>ltS a b=true) (h:q99 fs p q):Sub fs p/\Sub fs q:=⟨⟨up.sublist h.sp,fun x hx=>h.sp.subset hx⟩,⟨up.sublist h.sq,fun x hx=>h.sq.subset hx⟩⟩
theorem x01 (p:List Str) (ρ:Rho):(q0J (J.q01 (fun ρ=>rdB ρ 0) J.q0k) (on1 q1b)) (.shr (.list (p.map .str))::ρ)=.ok (q0q p):=by
 walk_at "zz"
 rw [q0I]
theorem x6r (p q r t:List Str):q2J (q2S 1 [Sl.no] (fun _=>.ok true) (q0J (J.q01 (fun ρ=>rdB ρ 0) J.q0k) (on1 q1b))) [.list (p.map .str),.list (q.map .str),.list (r.map .str),.list (t.map .str)]=.ok [q0q p,q0q q,q0q r,q0q t] :=
 q0T _ (fun ss:List Str=>PyData.list (ss.map .str)) (fun ss=>q0q ss) [p,q,r,t] fun ss hs=>q1v rfl (x01 ss _)
theorem w1V (ns:List Int) (k:Int) (hk:0<=k) (fs:List Str) (hf:∀ x∈fs,okW x=true) (up:fs.Pairwise fun a b=>ltS a b=true) (nd:fs.Nodup) (hl:fs.length<=6) (nm:Str) :
  ∃ e,q13 [.list (ns.map .int),.int k,q0q fs,.str nm]=.ok (q16 e)/\GoodP fs e/\e.name=nm:=by
 have p0:=q1e ns k 5 (by decide)
 have p1:=q1w ns k 5 (by decide)
 have go:∀ ρ:Rho,ρ=[.shr (.list (ns.map .int)),.shr (.int k),.shr (q0q fs),.shr (.str nm),.no,.no,.no,.no,.no]->(!decide (fs=[]) && decide (q2Z ns 97 2=0))=false->∃ e,q23 ρ=.ok (.rt (q16 e))/\GoodP fs e/\e.name=nm:=by
  rintro ρ rfl hc
  obtain ⟨ρ',h1,p,q,r,t,h2,h3,h4⟩:∃ ρ',(w6V (x2v (J.q01 (fun ρ=>rdS ρ 2) J.q0k)) (w3h 2 (q1y (q19 5) (q1y (q19 6) w63))) (q0n (q4b 7 (gFn 3 q08 (J.q01 (fun ρ=>rdS ρ 0) (J.q01 (g2 (g2 (fun ρ=>rdB ρ 1) (fun _=>.ok (.int 10)) q1R) (fun ρ=>rdB ρ 5) q1R) (J.q01 (fun _=>.ok (.int 8)) J.q0k))))) (q0n (q3b (asB (g2 (fun ρ=>rdB ρ 7) (fun _=>.ok (.int 3)) ltD)) (q6o 4 (g2 (q1Y (J.q01 (fun _=>.ok (.int 0)) (J.q01 (fun _=>.ok (.int 0)) (J.q01 (fun _=>.ok (.int 1)) J.q0k))) .list) (fun ρ=>rdB ρ 7) q0m) (fun ρ=>rdS ρ 6)) (fun ρ=>.ok (.nx ρ))) (q0n (q4b 7 (gFn 3 q08 (J.q01 (fun ρ=>rdS ρ 0) (J.q01 (g2 (g2 (fun ρ=>rdB ρ 1) (fun _=>.ok (.int 20)) q1R) (fun ρ=>rdB ρ 5) q1R) (J.q01 (fun _=>.ok (.int 8)) J.q0k))))) (q3b (asB (g2 (fun ρ=>rdB ρ 7) (fun _=>.ok (.int 4)) ltD)) (q6o 4 (g2 (q1Y (J.q01 (fun _=>.ok (.int 2)) (J.q01 (fun _=>.ok (.int 2)) (J.q01 (fun _=>.ok (.int 3)) (J.q01 (fun _=>.ok (.int 3)) J.q0k)))) .list) (fun ρ=>rdB ρ 7) q0m) (fun ρ=>rdS ρ 6)) (fun ρ=>.ok (.nx ρ))))))) [.shr (.list (ns.map .int)),.shr (.int k),.shr (q0q fs),.shr (.str nm),o4 [] [] [] [],.no,.no,.no,.no]=.ok (.nx ρ')/\∃ p q r t,q99 fs p q/\q99 fs r t/\∃ z5 z6 z7,ρ'=[.shr (.list (ns.map .int)),.shr (.int k),.shr (q0q fs),.shr (.str nm),o4 p q r t,z5,z6,z7,.no]:=by
   rw [w1N (ds:=(q5S 0 fs).map cI)]
   ·have H:=q5R cI (fun (a:Unit) (_:Nat×Str)=>a) (fun q0V _ ρ=>∃ pre,pre++q0V.map (·.2)=fs/\∃ p q r t,q99 pre p q/\q99 pre r t/\∃ z5 z6 z7,ρ=[.shr (.list (ns.map .int)),.shr (.int k),.shr (q0q fs),.shr (.str nm),o4 p q r t,z5,z6,z7,.no]) (kt:=w3h 2 (q1y (q19 5) (q1y (q19 6) w63))) (gb:=(q0n (q4b 7 (gFn 3 q08 (J.q01 (fun ρ=>rdS ρ 0) (J.q01 (g2 (g2 (fun ρ=>rdB ρ 1) (fun _=>.ok (.int 10)) q1R) (fun ρ=>rdB ρ 5) q1R) (J.q01 (fun _=>.ok (.int 8)) J.q0k))))) (q0n (q3b (asB (g2 (fun ρ=>rdB ρ 7) (fun _=>.ok (.int 3)) ltD)) (q6o 4 (g2 (q1Y (J.q01 (fun _=>.ok (.int 0)) (J.q01 (fun _=>.ok (.int 0)) (J.q01 (fun _=>.ok (.int 1)) J.q0k))) .list) (fun ρ=>rdB ρ 7) q0m) (fun ρ=>rdS ρ 6)) (fun ρ=>.ok (.nx ρ))) (q0n (q4b 7 (gFn 3 q08 (J.q01 (fun ρ=>rdS ρ 0) (J.q01 (g2 (g2 (fun ρ=>rdB ρ 1) (fun _=>.ok (.int 20)) q1R) (fun ρ=>rdB ρ 5) q1R) (J.q01 (fun _=>.ok (.int 8)) J.q0k))))) (q3b (asB (g2 (fun ρ=>rdB ρ 7) (fun _=>.ok (.int 4)) ltD)) (q6o 4 (g2 (q1Y (J.q01 (fun _=>.ok (.int 2)) (J.q01 (fun _=>.ok (.int 2)) (J.q01 (fun _=>.ok (.int 3)) (J.q01 (fun _=>.ok (.int 3)) J.q0k)))) .list) (fun ρ=>rdB ρ 7) q0m) (fun ρ=>rdS ρ 6)) (fun ρ=>.ok (.nx ρ)))))))
    obtain ⟨ρ',h1,pre,h2,p,q,r,t,h3,h4,h5⟩:=H (by
     rintro ⟨i,x⟩ q0V _ ρ ⟨pre,h2,p,q,r,t,h3,h4,z5,z6,z7,rfl⟩
     have hx:x∉pre:=by
      rw [<- h2,List.map_cons] at nd
      have:=(List.nodup_append.mp nd).2.2
      intro hx
      exact this x hx x List.mem_cons_self rfl
     have hpl:pre.length<900:=by
      have:=congrArg List.length h2
      rw [List.length_append] at this
      omega
     obtain ⟨p',q',k1,k2⟩:=w9Z (a:=.shr (.list (ns.map .int))) (b:=.shr (.int k)) (c:=.shr (q0q fs)) (d:=.shr (.str nm)) (e:=.shr (.int (i:Nat))) (f:=.no) (r:=r) (t:=t) (j:=q2Z ns (k + 10 + i) 8) h3 hx hpl (q1e _ _ _ (by decide))
     obtain ⟨r',t',k3,k4⟩:=x00 (a:=.shr (.list (ns.map .int))) (b:=.shr (.int k)) (c:=.shr (q0q fs)) (d:=.shr (.str nm)) (e:=.shr (.int (i:Nat))) (f:=.no) (p:=p') (q:=q') (j:=q2Z ns (k + 20 + i) 8) h4 hx hpl (q1e _ _ _ (by decide))
     refine ⟨[.shr (.list (ns.map .int)),.shr (.int k),.shr (q0q fs),.shr (.str nm),o4 p q r t,.shr (.int (i:Nat)),.shr (.str x),z7,.no],[.shr (.list (ns.map .int)),.shr (.int k),.shr (q0q fs),.shr (.str nm),o4 p' q' r' t',.shr (.int (i:Nat)),.shr (.str x),.shr (.int (q2Z ns (k + 20 + i) 8)),.no],rfl,?_,pre++[x],?_,p',q',r',t',k1,k3,_,_,_,rfl⟩
     ·rw [w8c,x2C]
      walk_at "yy"
      rw [q1r ns _ 8 (by omega) (by decide)]
      walk_at "yy"
      rw [k2]
      walk_at "yy"
      rw [q1r ns _ 8 (by omega) (by decide)]
      walk_at "yy"
      rw [k4]
     ·rw [<- h2];simp) (q5S 0 fs) () [.shr (.list (ns.map .int)),.shr (.int k),.shr (q0q fs),.shr (.str nm),o4 [] [] [] [],.no,.no,.no,.no] ⟨[],by rw [q5T];rfl,[],[],[],[],⟨List.Sublist.refl _,List.Sublist.refl _,fun _ h=>nomatch h⟩,⟨List.Sublist.refl _,List.Sublist.refl _,fun _ h=>nomatch h⟩,_,_,_,rfl⟩
    refine ⟨ρ',h1,p,q,r,t,?_,?_,h5⟩
    ·simp only [List.map_nil,List.append_nil] at h2
     rw [<- h2];exact h3
    ·simp only [List.map_nil,List.append_nil] at h2
     rw [<- h2];exact h4
   ·walk_at "zz"
    rw [w0z]
  obtain ⟨s1,s2⟩:=h2.sub up
  obtain ⟨s3,s4⟩:=h3.sub up
  obtain ⟨z5,z6,z7,rfl⟩:=h4
  refine ⟨⟨nm,p,q,r,t,q2Z ns k 5⟩,?_,⟨s1,s2,s3,s4,h2.d,h3.d,p0,by show q2Z ns k 5<=9;omega⟩,rfl⟩
  unfold q23
  have hand:x2l (asB (g2 (fun ρ=>rdB ρ 2) (q1Y J.q0k .tuple) (eqD true))) (asB (g2 (gFn 3 q08 (J.q01 (fun ρ=>rdS ρ 0) (J.q01 (fun _=>.ok (.int 97)) (J.q01 (fun _=>.ok (.int 2)) J.q0k)))) (fun _=>.ok (.int 0)) (eqD false))) [.shr (.list (ns.map .int)),.shr (.int k),.shr (q0q fs),.shr (.str nm),.no,.no,.no,.no,.no]=.ok false:=by
   walk_at "zz"
   rw [w3q fs hf]
   walk_at "zz"
   by_cases h:fs=[]
   ·simp only [h,decide_true,Bool.not_true,cond_false]
   ·simp only [h,decide_false,Bool.not_false,cond_true,Bool.true_and] at hc ⊢
    rw [q1r ns 97 2 (by decide) (by decide)]
    walk_at "zz"
    rw [q3u]
    walk_at "zz"
    rw [hc]
  rw [w8c,x6W,hand]
  simp only [w9L,x0N,x6q,clear2,List.map_cons,List.map_nil,List.set_cons_succ,List.set_cons_zero,w9L,q5O,w8c]
  rw [show Sl.ow2 [[],[],[],[]]=o4 [] [] [] [] from rfl,h1]
  walk_at "zz"
  rw [x6r]
  walk_at "zz"
  rw [x59]
  walk_at "zz"
  rw [x5a]
  walk_at "zz"
  rw [x5b]
  walk_at "zz"
  rw [x5c]
  walk_at "zz"
  rw [q1r ns k 5 hk (by decide)]
  walk_at "zz"
  rfl
 by_cases hc:(!decide (fs=[]) && decide (q2Z ns 97 2=0))=true
 ·have h0:0<fs.length:=by
   rcases fs with _ | ⟨x,r⟩
   ·simp at hc
   ·simp
  obtain ⟨e,h1,h2⟩:=x2L ns k hk fs hf h0 nm
  refine ⟨e,?_,h2⟩
  unfold q13
  refine q0P ?_
  unfold q23 q0r
  walk_at "zz"
  rw [w3q fs hf]
  walk_at "zz"
  simp only [Bool.and_eq_true] at hc
  rw [hc.1]
  walk_at "zz"
  rw [q1r ns 97 2 (by decide) (by decide)]
  walk_at "zz"
  rw [q3u]
  walk_at "zz"
  rw [hc.2]
  walk_at "zz"
  rw [h1]
  walk_at "zz"
 ·obtain ⟨e,h1,h2⟩:=go _ rfl (Bool.eq_false_iff.mpr hc)
  exact ⟨e,by unfold q13;exact q0P h1,h2⟩
theorem x1n (ds:List D) (t:Nat) (h:t<=ds.length):w7V ds (some (t:Int)) none=ds.drop t:=by
 unfold w7V
 rw [HT.w7f,HT.w4U,Nat.min_eq_left h,List.take_of_length_le (by rw [List.length_drop];exact Nat.le_refl _)]
theorem x1o (ds:List D) (t:Nat) (h:t<=ds.length):w7V ds none (some (t:Int))=ds.take t:=by
 unfold w7V
 rw [HT.w7f,HT.w4U,Nat.min_eq_left h,List.drop_zero,Nat.sub_zero]
theorem x6s (ds:List D) (t:Nat) (h:t<=ds.length):slD (.list ds) (some (t:Int)) none=.ok (.list (ds.drop t)):=by
 rw [<- x1n ds t h];rfl
theorem x6t (ds:List D) (t:Nat) (h:t<=ds.length):slD (.list ds) none (some (t:Int))=.ok (.list (ds.take t)):=by
 rw [<- x1o ds t h];rfl
theorem x5d {l:List (Str×D)} (nd:(l.map (·.1)).Nodup) {p:Str×D} (hp:p∈l):q0m (.dict (q7S l)) (.str p.1)=.ok p.2:=by
 have e:∀ kvs x,q0m (.dict kvs) (.str x)=if q1P kvs=true then (match w3k kvs (.str x) with
   | some d=>.ok d
   | none=>.no) else .no:=fun _ _=>rfl
 rw [e,if_pos (w0w l)]
 have:w3k (q7S l) (.str p.1)=some p.2:=by
  unfold w3k q7S
  clear e
  induction l with
  | nil=>cases hp
  | cons q r ih =>
   rw [List.map_cons] at nd
   obtain ⟨n1,n2⟩:=List.nodup_cons.mp nd
   rw [List.map_cons,List.find?_cons,q3L]
   rcases List.mem_cons.mp hp with h | h
   ·subst h;simp
   ·have:q.1≠p.1:=fun z=>n1 (z ▸ List.mem_map_of_mem h)
    rw [decide_eq_false this]
    exact ih n2 h
 rw [this]
structure q4g (fs:List Str) (es:List ErZ):Prop where
 rise:x55 fs 6
 len:es.length<=6
 nd:(es.map (·.name)).Nodup
 ok:∀ e∈es,w3o fs e
def q2D (fs:List Str) (es:List ErZ):D:=.tuple [q0q fs,.tuple (es.map q16)]
theorem x7d (fs:List Str):∀ (l:List (Str×D)),(∀ p∈l,∃ e,p.2=q16 e/\w3o fs e/\e.name=p.1)->∃ es:List ErZ,l.map (·.2)=es.map q16/\es.map (·.name)=l.map (·.1)/\∀ e∈es,w3o fs e
 | [],_=>⟨[],rfl,rfl,fun _ h=>nomatch h⟩
 | p::r,h=>by
  obtain ⟨e,h1,h2,h3⟩:=h p List.mem_cons_self
  obtain ⟨es,k1,k2,k3⟩:=x7d fs r fun q hq=>h q (List.mem_cons_of_mem _ hq)
  refine ⟨e::es,by rw [List.map_cons,List.map_cons,h1,k1],by rw [List.map_cons,List.map_cons,h3,k2],fun x hx=>?_⟩
  rcases List.mem_cons.mp hx with z | z
  ·rw [z];exact h2
  ·exact k3 x z
theorem w8w {α:Type} (l:List α) (t:Nat):(l.drop t++l.take t).Perm l:=by
 refine List.perm_append_comm.trans ?_
 rw [List.take_append_drop]
theorem q35 {l:List Str} (h:l.Pairwise fun a b=>ltS a b=true):l.Nodup:=h.imp fun hab z=>by
 rw [z,q4C] at hab
 cases hab
theorem x2M (ns:List Int) (k:Int) (hk:0<=k) (m n:Int) (hm0:0<=m) (hm:m<=6) (hn0:0<=n) (hn:n<=6):∃ fs es,q2Y [.list (ns.map .int),.int k,.int m,.int n]=.ok (q2D fs es)/\q4g fs es:=by
 have hr:=w6a ns k m hm0
 generalize hfs:w5u ns k m=fs at hr
 have hr:x55 fs 6:=⟨hr.ok,hr.up,by have:=hr.len;omega⟩
 have nd:=q35 hr.up
 have m0:=q1e ns (k + 60) (n + 1) (by omega)
 have m1:=q1w ns (k + 60) (n + 1) (by omega)
 suffices H:∃ es,q2Y [.list (ns.map .int),.int k,.int m,.int n]=.ok (q2D fs es)/\q4g fs es from H.elim fun es h=>⟨fs,es,h⟩
 unfold q2Y
 suffices H:∃ es,q3r (q0r 10 [.list (ns.map .int),.int k,.int m,.int n])=.ok (.rt (q2D fs es))/\q4g fs es from H.elim fun es h=>⟨es,q0P h.1,h.2⟩
 have H:=q5R (fun (i:Nat)=>PyData.int i) (fun (a:Unit) (_:Nat)=>a) (fun q0V _ ρ=>∃ l,l.length + q0V.length<=6/\(l.map (·.1)).Nodup/\(∀ p∈l,∃ e,p.2=q16 e/\w3o fs e/\e.name=p.1)/\∃ z6 z7,ρ=[.shr (.list (ns.map .int)),.shr (.int k),.shr (.int m),.shr (.int n),.shr (q0q fs),.own (.dict (q7S l)),z6,z7,.no,.no]) (kt:=q19 6) (gb:=q0n (q4b 7 (gFn 2 q22 (J.q01 (fun ρ=>rdS ρ 0) (J.q01 (g2 (g2 (fun ρ=>rdB ρ 1) (fun _=>.ok (.int 70)) q1R) (g2 (fun _=>.ok (.int 40)) (fun ρ=>rdB ρ 6) w6T) q1R) J.q0k)))) (w9H 5 (fun ρ=>rdS ρ 7) (gFn 4 q13 (J.q01 (fun ρ=>rdS ρ 0) (J.q01 (g2 (g2 (fun ρ=>rdB ρ 1) (fun _=>.ok (.int 80)) q1R) (g2 (fun _=>.ok (.int 40)) (fun ρ=>rdB ρ 6) w6T) q1R) (J.q01 (fun ρ=>rdS ρ 4) (J.q01 (fun ρ=>rdS ρ 7) J.q0k)))))))
 obtain ⟨ρ',h1,l,h2,h3,h4,z6,z7,h5⟩:=H (by
  rintro i q0V _ ρ ⟨l,h2,h3,h4,z6,z7,rfl⟩
  simp only [List.length_cons] at h2
  have hw:=w5p ns (k + 70 + 40 * (i:Int))
  obtain ⟨e,e1,e2,e3⟩:=w1V ns (k + 80 + 40 * (i:Int)) (by omega) fs hr.ok hr.up nd hr.len (q4f ns (k + 70 + 40 * (i:Int)))
  have e2:w3o fs e:=⟨e2,by rw [e3];exact hw⟩
  have pl:=w5r l (q4f ns (k + 70 + 40 * (i:Int))) (q16 e)
  refine ⟨[.shr (.list (ns.map .int)),.shr (.int k),.shr (.int m),.shr (.int n),.shr (q0q fs),.own (.dict (q7S l)),.shr (.int i),z7,.no,.no],[.shr (.list (ns.map .int)),.shr (.int k),.shr (.int m),.shr (.int n),.shr (q0q fs),.own (.dict (q7S (w5q l (q4f ns (k + 70 + 40 * (i:Int))) (q16 e)))),.shr (.int i),.shr (.str (q4f ns (k + 70 + 40 * (i:Int)))),.no,.no],rfl,?_,w5q l (q4f ns (k + 70 + 40 * (i:Int))) (q16 e),by omega,?_,?_,_,_,rfl⟩
  ·walk_at "zz"
   rw [q6q (by decide) (by decide)]
   walk_at "zz"
   rw [w8r ns _ (by omega)]
   walk_at "zz"
   refine (x54 (l:=l) (x:=q4f ns (k + 70 + 40 * (i:Int))) (d:=q16 e) rfl ?_ rfl (by omega)).trans rfl
   walk_at "zz"
   rw [q6q (by decide) (by decide)]
   walk_at "zz"
   exact e1
  ·rw [w1U];exact w8s h3
  ·exact w9V (Q:=fun x d=>∃ e,d=q16 e/\w3o fs e/\e.name=x) h4 ⟨e,rfl,e2,e3⟩) (List.range (q2Z ns (k + 60) (n + 1)).toNat) () [.shr (.list (ns.map .int)),.shr (.int k),.shr (.int m),.shr (.int n),.shr (q0q fs),.own (.dict (q7S [])),.no,.no,.no,.no] ⟨[],by rw [List.length_range];simp only [List.length_nil];omega,List.nodup_nil,fun _ h=>(nomatch h),_,_,rfl⟩
 simp only [List.length_nil,Nat.add_zero] at h2
 have t0:=q1e ns (k + 61) ((l.length:Int) + 1) (by omega)
 have t1:=q1w ns (k + 61) ((l.length:Int) + 1) (by omega)
 obtain ⟨t,ht⟩:∃ t:Nat,q2Z ns (k + 61) ((l.length:Int) + 1)=t:=⟨_,(Int.toNat_of_nonneg t0).symm⟩
 have tl:t<=l.length:=by omega
 have pm:=w8w l t
 obtain ⟨es,k1,k2,k3⟩:=x7d fs (l.drop t++l.take t) fun p hp=>h4 p (pm.mem_iff.mp hp)
 have kl:es.length=l.length:=by
  have:=congrArg List.length k1
  rw [List.length_map,List.length_map,pm.length_eq] at this
  exact this.symm
 refine ⟨es,?_,hr,by omega,?_,k3⟩
 ·unfold q3r q0r
  walk_at "yy"
  rw [w9X ns k m hk hm0 (by omega),hfs]
  walk_at "yy"
  rw [w1N (ds:=(List.range (q2Z ns (k + 60) (n + 1)).toNat).map fun (i:Nat)=>PyData.int i)]
  ·rw [show PyData.dict []=PyData.dict (q7S []) from rfl,h1,h5]
   walk_at "yy"
   rw [w5s]
   walk_at "yy"
   rw [q1r ns _ _ (by omega) (by omega),ht]
   walk_at "yy"
   clear H h1
   rw [x6s _ t (by simpa using tl)]
   walk_at "yy"
   rw [x6t _ t (by simpa using tl)]
   walk_at "yy"
   have e1:(List.drop t (List.map PyData.str (List.map (fun x=>x.fst) l))++List.take t (List.map PyData.str (List.map (fun x=>x.fst) l)))=(l.drop t++l.take t).map fun p=>PyData.str p.1:=by
    rw [List.map_append,List.map_drop,List.map_take,List.map_map];rfl
   rw [e1,if_pos (by rw [<- List.length_append,e1,List.length_map,pm.length_eq];omega)]
   have pl:=pm.length_eq
   have px:∀ p∈l.drop t++l.take t,p∈l:=fun p hp=>pm.mem_iff.mp hp
   clear e1 pm k2
   generalize l.drop t++l.take t=L at pl px k1 ⊢
   walk_at "yy"
   rw [if_pos (by omega)]
   rw [q0T _ (fun p:Str×D=>PyData.str p.1) (fun p=>p.2) L fun p hp=>q1v rfl (by
    walk_at "yy"
    exact x5d h3 (px p hp))]
   walk_at "yy"
   rw [q0I]
   walk_at "yy"
   rw [k1]
   rfl
  ·walk_at "yy"
   rw [q1r ns (k + 60) (n + 1) (by omega) (by omega)]
   walk_at "yy"
   have:=w3n (q2Z ns (k + 60) (n + 1)).toNat (by omega)
   rw [Int.toNat_of_nonneg m0] at this
   exact this
 ·rw [k2]
  exact ((pm.map _).nodup_iff).mpr h3
theorem w1W {α:Type} (b:α->Bool):∀ xs:List α,q4a (xs.map fun x=>PyData.bool (b x))=some (xs.map b)
 | []=>rfl
 | x::r=>by
  show (q4a (r.map fun x=>PyData.bool (b x))).map (b x::·)=_
  rw [w1W b r]
  rfl
theorem q3M {α:Type} (k:List Bool->Bool) (b:α->Bool) (xs:List α):q2Q k (.list (xs.map fun x=>PyData.bool (b x)))=.ok (.bool (k (xs.map b))):=by
 have e:∀ ds,q2Q k (.list ds)=match q4a ds with
  | some bs=>.ok (.bool (k bs))
  | none=>.no:=fun _=>rfl
 rw [e,w1W]
theorem w5y {s s':Sl}{ρ:Rho}{gt:Rho->R Bool}{ge:Rho->R D}{d d' y:D} (h1:gt (.shr d::.shr d'::ρ)=.ok true) (h2:ge (.shr d::.shr d'::ρ)=.ok y):q2S 2 (s::s'::ρ) gt ge (.tuple [d,d'])=.ok (some y):=by
 have e:q2S 2 (s::s'::ρ) gt ge (.tuple [d,d'])=x3i ((gt (.shr d::.shr d'::ρ)).bind fun b=>if b then (ge (.shr d::.shr d'::ρ)).bind fun y=>.ok (some y) else .ok none):=id rfl
 rw [e,h1,bind_ok,if_pos rfl,h2];rfl
theorem w8x (x:Str):noD (.str x)=true:=id rfl
theorem w8y (i:Int):noD (.int i)=true:=id rfl
theorem w0A {α:Type} (c:α->D) (h:∀ x,noD (c x)=true):∀ xs:List α,noDs (xs.map c)=true
 | []=>rfl
 | x::r=>by
  show (noD (c x) && noDs (r.map c))=true
  rw [h x,w0A c h r];rfl
theorem x1p (xs:List D):noD (.tuple xs)=noDs xs:=id rfl
theorem q3i (xs:List Str):noD (q0q xs)=true:=by
 rw [x1p]
 exact w0A _ (fun _=>rfl) xs
theorem w3r (e:ErZ):noD (q16 e)=true:=by
 have:noD (q16 e)=(true && (noD (q0q e.needs) && (noD (q0q e.bars) && (noD (q0q e.makes) && (noD (q0q e.ends) && (true && true)))))):=rfl
 rw [this,q3i,q3i,q3i,q3i];rfl
theorem x5e (es:List ErZ):noD (.tuple (es.map q16))=true:=by
 rw [x1p]
 exact w0A _ w3r es
theorem x2N (fs:List Str) (es:List ErZ):noD (q2D fs es)=true:=by
 have:noD (q2D fs es)=(noD (q0q fs) && (noD (.tuple (es.map q16)) && true)):=rfl
 rw [this,q3i,x5e];rfl
theorem w8z (x:Str):w7X "str" (.str x)=true:=id rfl
theorem q7g (x:List D):w7X "tuple" (.tuple x)=true:=id rfl
theorem x5f (x:Int):w7X "int" (.int x)=true:=id rfl
theorem x5g (x:Int):w7X "bool" (.int x)=false:=id rfl
theorem x2O:∀ c:_root_.Fin 123,97<=c.val->(!ltS ⟨#[c.val]⟩ "a")=true/\(!ltS "z" ⟨#[c.val]⟩)=true:=by decide +kernel
theorem q1L {x:Str} (h:okW x=true):q0K [.str x]=.ok (.bool true):=by
 have hw:=h
 unfold okW at h
 simp only [Bool.and_eq_true,decide_eq_true_eq,List.all_eq_true] at h
 obtain ⟨⟨h1,h2⟩,h3⟩:=h
 have hl:x.length=x.cps.size:=rfl
 unfold q0K
 refine q0P ?_
 unfold q4d q0r
 walk_at "zz"
 rw [w8x,w8z]
 walk_at "zz"
 rw [if_pos (by omega)]
 walk_at "zz"
 rw [decide_eq_true (by omega)]
 walk_at "zz"
 rw [decide_eq_true (by omega)]
 walk_at "zz"
 unfold q4Q
 walk_at "zz"
 rw [if_pos (by rw [Array.length_toList];omega)]
 rw [q0T _ (fun c:Nat=>PyData.str ⟨#[c]⟩) (fun _=>PyData.bool true) x.cps.toList fun c hc=>q1v rfl (by
  obtain ⟨a1,a2⟩:=h3 c hc
  obtain ⟨b1,b2⟩:=x2O ⟨c,by omega⟩ a1
  walk_at "zz"
  simp only at b1 b2
  rw [b1]
  walk_at "zz"
  rw [b2])]
 walk_at "zz"
 rw [q3M _ (fun _=>true)]
 walk_at "zz"
 simp
theorem w0B:∀ (xs ys:List Str),w6U (xs.map .str) (ys.map .str)=(xs.zip ys).map fun p=>PyData.tuple [.str p.1,.str p.2]
 | [],_=>rfl
 | _::_,[]=>rfl
 | x::r,y::r'=>by
  show PyData.tuple [.str x,.str y]::w6U (r.map .str) (r'.map .str)=_
  rw [w0B r r']
  rfl
theorem x1q:∀ {l:List Str},(l.Pairwise fun a b=>ltS a b=true)->∀ p∈l.zip (l.drop 1),ltS p.1 p.2=true
 | [],_,p,hp=>by cases hp
 | [_],_,p,hp=>by cases hp
 | a::b::r,h,p,hp=>by
  obtain ⟨h1,h2⟩:=List.pairwise_cons.mp h
  rcases List.mem_cons.mp hp with z | z
  ·rw [z];exact h1 b List.mem_cons_self
  ·exact x1q h2 p z
theorem w8A (xs:List Str):slD (q0q xs) (some 1) none=.ok (q0q (xs.drop 1)):=by
 have e:slD (q0q xs) (some 1) none=.ok (.tuple (w7V (xs.map .str) (some 1) none)):=rfl
 rw [e]
 cases xs with
 | nil=>rfl
 | cons x r =>
  rw [show (1:Int)=((1:Nat):Int) from rfl,x1n _ 1 (by simp)]
  rfl
theorem q8m {xs:List Str} (hw:∀ x∈xs,okW x=true) (up:xs.Pairwise fun a b=>ltS a b=true) (hl:xs.length<=6):q0l [q0q xs]=.ok (.bool true):=by
 unfold q0l
 refine q0P ?_
 unfold q0L q0r
 walk_at "zz"
 rw [q3i,q7g]
 walk_at "zz"
 rw [if_pos (by omega)]
 rw [q0T _ (fun x:Str=>PyData.str x) (fun _=>PyData.bool true) xs fun x hx=>q1v rfl (by
  walk_at "zz"
  rw [q1L (hw x hx)])]
 walk_at "zz"
 rw [q3M _ (fun _=>true)]
 walk_at "zz"
 rw [show ((xs.map fun _=>true).all id)=true by simp]
 walk_at "zz"
 rw [w8A]
 walk_at "zz"
 rw [w0B]
 walk_at "zz"
 rw [if_pos (by simp;omega)]
 rw [q0T _ (fun p:Str×Str=>PyData.tuple [.str p.1,.str p.2]) (fun _=>PyData.bool true) (xs.zip (xs.drop 1)) fun p hp=>w5y rfl (by
  walk_at "zz"
  rw [x1q up p hp])]
 walk_at "zz"
 rw [q3M _ (fun _=>true)]
 walk_at "zz"
 simp
theorem q3v {fs xs:List Str} (hw:∀ x∈fs,okW x=true) (h:Sub fs xs) (hl:xs.length<=6):q0X [q0q fs,q0q xs]=.ok (.bool true):=by
 unfold q0X
 refine q0P ?_
 unfold q2q q0r
 walk_at "zz"
 rw [q8m (fun x hx=>hw x (h.mem x hx)) h.up hl]
 walk_at "zz"
 rw [if_pos (by omega)]
 rw [q0T _ (fun x:Str=>PyData.str x) (fun _=>PyData.bool true) xs fun x hx=>q1v rfl (by
  walk_at "zz"
  rw [w5v,decide_eq_true (h.mem x hx)]
  rfl)]
 walk_at "zz"
 rw [q3M _ (fun _=>true)]
 walk_at "zz"
 simp
theorem w1X {xs ys:List Str} (h:∀ x∈xs,x∉ys) (hl:xs.length<=6):q21 [q0q xs,q0q ys]=.ok (.bool true):=by
 unfold q21
 refine q0P ?_
 unfold q3e q0r
 walk_at "zz"
 rw [if_pos (by omega)]
 rw [q0T _ (fun x:Str=>PyData.str x) (fun _=>PyData.bool false) xs fun x hx=>q1v rfl (by
  walk_at "zz"
  rw [w5v,decide_eq_false (h x hx)]
  rfl)]
 walk_at "zz"
 rw [q3M _ (fun _=>false)]
 walk_at "zz"
 simp
theorem w6c {l i m:Int} (h0:l<=i) (h1:i<=m):q2X [.int i,.int l,.int m]=.ok (.bool true):=by
 unfold q2X
 refine q0P ?_
 unfold q4E q0r
 walk_at "zz"
 rw [w8y,x5f]
 walk_at "zz"
 rw [w8y,x5g]
 walk_at "zz"
 rw [decide_eq_true h0]
 walk_at "zz"
 rw [decide_eq_true h1]
theorem w5z:∀ (xs fs:List Str),xs.Nodup->(∀ x∈xs,x∈fs)->xs.length<=fs.length
 | [],_,_,_=>Nat.zero_le _
 | x::r,fs,nd,h=>by
  obtain ⟨n1,n2⟩:=List.nodup_cons.mp nd
  have hx:=h x List.mem_cons_self
  have:=w5z r (fs.erase x) n2 fun y hy=>(List.mem_erase_of_ne fun (z:y=x)=>n1 (z ▸ hy)).mpr (h y (List.mem_cons_of_mem _ hy))
  rw [List.length_erase_of_mem hx] at this
  have:0<fs.length:=List.length_pos_of_mem hx
  rw [List.length_cons]
  omega
theorem q3N {fs xs:List Str} (h:Sub fs xs) (hl:fs.length<=6):xs.length<=6:=by
 exact Nat.le_trans (w5z xs fs (q35 h.up) h.mem) hl
theorem x7e (a b c d e f g:D):x5C (w3h 6 (q1y (q19 2) (q1y (q19 3) (q1y (q19 4) (q1y (q19 5) (q1y (q19 6) (q1y (q19 7) w63))))))) [Sl.shr a,Sl.shr (.tuple [b,c,d,e,f,g]),.no,.no,.no,.no,.no,.no] (.tuple [b,c,d,e,f,g])=.ok (.nx [Sl.shr a,Sl.shr (.tuple [b,c,d,e,f,g]),.shr b,.shr c,.shr d,.shr e,.shr f,.shr g]):=id rfl
theorem q3f {fs:List Str} (hr:x55 fs 6) {e:ErZ} (g:GoodP fs e) (hw:q0K [.str e.name]=.ok (.bool true)):q0H [q0q fs,q16 e]=.ok (.bool true):=by
 have l1:=q3N g.needs hr.len
 have l2:=q3N g.bars hr.len
 have l3:=q3N g.makes hr.len
 have l4:=q3N g.ends hr.len
 unfold q0H
 refine q0P ?_
 unfold q1U q0r
 walk_at "zz"
 rw [w3r]
 unfold q16
 walk_at "zz"
 rw [q7g]
 walk_at "zz"
 rw [q3u]
 walk_at "zz"
 rw [show decide (((6:Nat):Int)=6)=true from rfl]
 walk_at "zz"
 rw [x7e]
 ·walk_at "zz"
  rw [hw]
  walk_at "zz"
  rw [w6c g.p0 g.p9]
  walk_at "zz"
  have pk:=q0T (q2S 1 [Sl.no,Sl.shr (q0q fs)] (fun x=>R.ok true) (gFn 2 q0X (J.q01 (fun ρ=>rdS ρ 1) (J.q01 (fun ρ=>rdS ρ 0) J.q0k)))) (fun x:List Str=>q0q x) (fun _=>PyData.bool true) [e.needs,e.bars,e.makes,e.ends] fun x hx=>q1v rfl (by
   walk_at "zz"
   simp only [List.mem_cons,List.not_mem_nil,or_false] at hx
   rcases hx with z | z | z | z<;>rw [z]
   ·rw [q3v hr.ok g.needs l1]
   ·rw [q3v hr.ok g.bars l2]
   ·rw [q3v hr.ok g.makes l3]
   ·rw [q3v hr.ok g.ends l4])
  simp only [List.map_cons,List.map_nil] at pk
  rw [pk]
  walk_at "zz"
  rw [show q2Q (fun bs=>bs.all id) (.list [.bool true,.bool true,.bool true,.bool true])=.ok (.bool true) from rfl]
  walk_at "zz"
  rw [w1X g.nb l1]
  walk_at "zz"
  rw [w1X g.me l3]
  walk_at "zz"
theorem x02 (l:List Str) (nd:l.Nodup):(q1G [] l).length=l.length:=by
 have h1:=w5z (q1G [] l) l (q3G l [] List.nodup_nil) fun x hx=>((q45 l [] x).mp hx).elim (fun h=>nomatch h) id
 have h2:=w5z l (q1G [] l) nd fun x hx=>(q45 l [] x).mpr (.inr hx)
 omega
theorem w8B (es:List ErZ) (hl:es.length<=6) (nd:(es.map (·.name)).Nodup) (s:Sl) (ρ:Rho) (h:(s::ρ)[2]?=some (.shr (.tuple (es.map q16)))):q8h (q9R 1 [] (gIt (fun ρ=>rdB ρ 2)) (fun _=>.ok true) (g2 (fun ρ=>rdB ρ 0) (fun _=>.ok (.int 0)) q0m)) (s::ρ)=.ok (.int (es.length:Nat)):=by
 have hr:rdB (s::ρ) 2=.ok (.tuple (es.map q16)):=by unfold rdB;rw [h]
 unfold q8h q9R
 rw [x6l,hr]
 walk_at "zz"
 rw [if_pos (by omega)]
 rw [q0T _ q16 (fun e=>PyData.str e.name) es fun e he=>q1v rfl (by
  walk_at "zz"
  rfl)]
 walk_at "zz"
 have:(es.map fun e=>PyData.str e.name)=(es.map (·.name)).map .str:=by rw [List.map_map];rfl
 rw [this,strsOf_map]
 simp only [w9L,x02 _ nd,List.length_map]
theorem x7P (b c:D):x5C (w3h 2 (q1y (q19 1) (q1y (q19 2) w63))) [Sl.shr (.tuple [b,c]),.no,.no] (.tuple [b,c])=.ok (.nx [Sl.shr (.tuple [b,c]),.shr b,.shr c]):=id rfl
theorem w8C {fs:List Str}{es:List ErZ} (g:q4g fs es):q4e [q2D fs es]=.ok (.bool true):=by
 have l1:=g.rise.len
 have l2:=g.len
 unfold q4e
 refine q0P ?_
 unfold q5P q0r
 walk_at "zz"
 rw [x2N]
 unfold q2D
 walk_at "zz"
 rw [q7g]
 walk_at "zz"
 rw [q3u]
 walk_at "zz"
 rw [show decide (((2:Nat):Int)=2)=true from rfl]
 walk_at "zz"
 rw [x7P]
 walk_at "zz"
 rw [q8m g.rise.ok g.rise.up l1]
 walk_at "zz"
 rw [decide_eq_false (by omega)]
 walk_at "zz"
 rw [x5e,q7g]
 walk_at "zz"
 rw [decide_eq_false (by omega)]
 walk_at "zz"
 rw [if_pos (by omega)]
 rw [q0T _ q16 (fun _=>PyData.bool true) es fun e he=>q1v rfl (by
  walk_at "zz"
  rw [q3f g.rise (g.ok e he).toGoodP (q1L (g.ok e he).name)])]
 walk_at "zz"
 rw [q3M _ (fun _=>true)]
 walk_at "zz"
 rw [show ((es.map fun _=>true).all id)=true by simp]
 walk_at "zz"
 rw [w8B es l2 g.nd _ _ rfl]
 walk_at "zz"
 rw [q3u,decide_eq_true rfl]
 rfl
theorem q24 {fs:List Str}{es:List ErZ} (g:q4g fs es):q2d [q2D fs es]=.ok (q2D fs es):=by
 unfold q2d
 refine q0P ?_
 unfold q5Q q0r
 walk_at "zz"
 rw [w8C g]
 walk_at "zz"
theorem q5V {α:Type} (c:α->D) (h:∀ x,PyData.eqv (c x) (c x)=true):∀ xs:List α,PyData.eqvAll (xs.map c) (xs.map c)=true
 | []=>by simp [PyData.eqvAll]
 | x::r=>by simp [PyData.eqvAll,h x,q5V c h r]
theorem x03 (e:ErZ):PyData.eqv (q16 e) (q16 e)=true:=by
 unfold q16
 simp only [PyData.eqv,PyData.eqvAll,q3L,decide_true,Bool.true_and,beq_self_eq_true,Bool.and_true]
 have h:=fun xs=>q5V PyData.str (fun x=>by rw [q3L];simp) xs
 simp only [h,Bool.and_self]
theorem x04 (fs:List Str) (es:List ErZ):PyData.eqv (q2D fs es) (q2D fs es)=true:=by
 unfold q2D
 simp only [PyData.eqv,PyData.eqvAll]
 rw [q5V q16 x03 es,q5V PyData.str (fun x=>by rw [q3L];simp) fs]
 rfl
theorem w5A {α:Type} (c:α->D):∀ xs:List α,(∀ x∈xs,(c x).canLay0=true)->PyData.canLayAll0 (xs.map c)=true
 | [],_=>rfl
 | x::r,h=>by
  have h1:=h x List.mem_cons_self
  have h2:=w5A c r fun y hy=>h y (List.mem_cons_of_mem _ hy)
  simp only [List.map_cons,PyData.canLayAll0,h1,h2,Bool.and_self]
theorem q5W {α:Type} (c:α->D) (n:Nat) (h:∀ x,(c x).depth<=n):∀ xs:List α,PyData.depthAll (xs.map c)<=n
 | []=>by simp [PyData.depthAll]
 | x::r=>by
  simp only [List.map_cons,PyData.depthAll]
  exact Nat.max_le.mpr ⟨h x,q5W c n h r⟩
theorem q7U {fs xs:List Str} (hf:∀ x∈fs,okW x=true) (h:Sub fs xs):PyData.canLayAll0 (xs.map .str)=true:=q5U xs fun x hx=>hf x (h.mem x hx)
theorem w5B {fs:List Str} (hf:∀ x∈fs,okW x=true) {e:ErZ} (g:GoodP fs e) (hn:(PyData.str e.name).canLay0=true):(q16 e).canLay0=true:=by
 unfold q16
 simp only [PyData.canLay0,PyData.canLayAll0]
 have:=hn
 simp only [PyData.canLay0] at this
 rw [q7U hf g.needs,q7U hf g.bars,q7U hf g.makes,q7U hf g.ends,this]
 rfl
theorem w8D (e:ErZ):(q16 e).depth<=2:=by
 have h:=fun xs=>q5W PyData.str 0 (fun x=>by simp [PyData.depth]) xs
 have h1:=h e.needs
 have h2:=h e.bars
 have h3:=h e.makes
 have h4:=h e.ends
 unfold q16
 simp only [PyData.depth,PyData.depthAll]
 omega
theorem w8E (fs:List Str) (es:List ErZ):(q2D fs es).depth<=60:=by
 have h1:=q5W PyData.str 0 (fun x=>by simp [PyData.depth]) fs
 have h2:=q5W q16 2 w8D es
 unfold q2D
 simp only [PyData.depth,PyData.depthAll]
 omega
theorem x2P {i:Nat}{g:Rho->R D}{ρ:Rho}{ds:List D}{d:D} (hi:ρ[i]?=some (Sl.own (.list ds))) (hg:g ρ=.ok d) (hl:ds.length<1000):w92 i g ρ=.ok (.nx (ρ.set i (.own (.list (ds++[d]))))):=by
 unfold w92
 simp only [hi,hg,bind_ok,if_pos hl]
theorem x05 {s s':Sl}{ρ:Rho}{gt:Rho->R Bool}{ge:Rho->R D}{d d' y:D}{b:Bool} (h1:gt (.shr d::.shr d'::ρ)=.ok b) (h2:b=true->ge (.shr d::.shr d'::ρ)=.ok y):q2S 2 (s::s'::ρ) gt ge (.tuple [d,d'])=.ok (if b then some y else none):=by
 have e:q2S 2 (s::s'::ρ) gt ge (.tuple [d,d'])=x3i ((gt (.shr d::.shr d'::ρ)).bind fun b=>if b then (ge (.shr d::.shr d'::ρ)).bind fun y=>.ok (some y) else .ok none):=id rfl
 rw [e,h1,bind_ok]
 cases b with
 | true=>rw [if_pos rfl,h2 rfl];rfl
 | false=>rfl
theorem w1Y:∀ (xs:List Str) (n:Nat),(q5S n xs).length=xs.length
 | [],_=>rfl
 | x::r,n=>by
  show (q5S (n + 1) r).length + 1=r.length + 1
  rw [w1Y r]
theorem w8F (ns:List Int) (k:Int) (hk:0<=k) (fs:List Str) (hl:fs.length<=6) (m:Int):∃ ss:List Str,q2r [.list (ns.map .int),.int k,q0q fs,.int m]=.ok (q0q ss)/\ss.Sublist fs:=by
 refine ⟨((q5S 0 fs).filter fun q=>decide (q2Z ns (k + (q.1:Int)) 12<m)).map (·.2),?_,?_⟩
 ·unfold q2r
  refine q0P ?_
  unfold q4G q0r
  walk_at "zz"
  rw [w0z]
  walk_at "zz"
  rw [if_pos (by rw [w1Y];omega)]
  rw [q2L _ cI (fun q=>PyData.str q.2) (fun q=>decide (q2Z ns (k + (q.1:Int)) 12<m)) (q5S 0 fs) fun q hq=>x05 (by
   walk_at "zz"
   rw [q1r ns _ 12 (by omega) (by decide)]
   walk_at "zz") fun _=>rfl]
  walk_at "zz"
  rw [q0I]
  walk_at "zz"
  unfold q0q
  rw [List.map_map]
  rfl
 ·have:=(List.filter_sublist (l:=q5S 0 fs) (p:=fun q=>decide (q2Z ns (k + (q.1:Int)) 12<m))).map (·.2)
  rw [q5T] at this
  exact this
theorem w5C {fs xs:List Str} (up:fs.Pairwise fun a b=>ltS a b=true) (h:xs.Sublist fs):Sub fs xs:=⟨up.sublist h,fun x hx=>h.subset hx⟩
def w8G (P:Rho->Prop) (r:R Fl):Prop:=∃ ρ',r=.ok (.nx ρ')/\P ρ'
theorem w8H {P:Rho->Prop}{r:R Fl}{hh:Rho->R Fl}{o:R Fl} (h:w8G P r) (k:∀ ρ,P ρ->hh ρ=o):r.bind (x4v hh)=o:=by
 obtain ⟨ρ',h1,p⟩:=h
 rw [h1,bind_ok,q5O]
 exact k ρ' p
theorem w1Z {α:Type}{kt:D->Rho->R Rho}{gb:Rho->R Fl} (c:α->D) (P:Rho->Prop):∀ (xs:List α) (ρ:Rho),(∀ x∈xs,∀ ρ,P ρ->∃ ρ1,kt (c x) ρ=.ok ρ1/\w8G P (gb ρ1))->P ρ->w8G P (w2T kt gb (xs.map c) ρ)
 | [],ρ,_,p=>⟨ρ,rfl,p⟩
 | x::r,ρ,h,p=>by
  obtain ⟨ρ1,h1,ρ2,h2,h3⟩:=h x List.mem_cons_self ρ p
  rw [List.map_cons]
  unfold w2T
  rw [h1]
  simp only [h2]
  exact w1Z c P r ρ2 (fun y hy=>h y (List.mem_cons_of_mem _ hy)) h3
theorem w5D {α:Type}{kt:D->Rho->R Rho}{gb:Rho->R Fl} (c:α->D) (p:α->Bool) (out:α->D) (P:Rho->Prop):∀ (xs:List α) (ρ:Rho),(∀ x∈xs,∀ ρ,P ρ->∃ ρ1,kt (c x) ρ=.ok ρ1/\(p x=true->gb ρ1=.ok (.rt (out x)))/\(p x=false->w8G P (gb ρ1)))->P ρ ->
  (∀ x,xs.find? p=some x->w2T kt gb (xs.map c) ρ=.ok (.rt (out x)))/\(xs.find? p=none->w8G P (w2T kt gb (xs.map c) ρ))
 | [],ρ,_,q=>⟨fun x h=>(nomatch h),fun _=>⟨ρ,rfl,q⟩⟩
 | x::r,ρ,h,q=>by
  obtain ⟨ρ1,h1,h2,h3⟩:=h x List.mem_cons_self ρ q
  rw [List.map_cons,List.find?_cons]
  unfold w2T
  rw [h1]
  cases hp:p x with
  | true =>
   refine ⟨fun y hy=>?_,fun hn=>nomatch hn⟩
   cases hy
   simp only [h2 hp]
  | false =>
   obtain ⟨ρ2,h4,h5⟩:=h3 hp
   simp only [h4]
   exact w5D c p out P r ρ2 (fun y hy=>h y (List.mem_cons_of_mem _ hy)) h5
structure x5h (fs m b:List Str):Prop where
 must:Sub fs m
 bars:Sub fs b
 mb:∀ x∈m,x∉b
abbrev x5G (m b:List Str):D:=.tuple [q0q m,q0q b]
theorem w8I (p:List Str) (x:Str):p.map PyData.str++[PyData.str x]=(p++[x]).map .str:=by simp
theorem x2Q (ns:List Int) (k:Int) (hk:0<=k) (fs:List Str) (up:fs.Pairwise fun a b=>ltS a b=true) (hl:fs.length<=6):∃ m b,q4I [.list (ns.map .int),.int k,q0q fs]=.ok (x5G m b)/\x5h fs m b:=by
 have nd:=q35 up
 suffices H:∃ p q,q3s (q0r 8 [.list (ns.map .int),.int k,q0q fs])=.ok (.rt (x5G p q))/\q99 fs p q by
  obtain ⟨p,q,h1,h2⟩:=H
  exact ⟨p,q,q0P h1,w5C up h2.sp,w5C up h2.sq,h2.d⟩
 unfold q3s q0r
 walk_at "yy"
 rw [w1N (ds:=(q5S 0 fs).map cI)]
 ·have H:=q5R cI (fun (a:Unit) (_:Nat×Str)=>a) (fun q0V _ ρ=>∃ pre,pre++q0V.map (·.2)=fs/\∃ p q,q99 pre p q/\∃ z5 z6 z7,ρ=[.shr (.list (ns.map .int)),.shr (.int k),.shr (q0q fs),.own (.list (p.map .str)),.own (.list (q.map .str)),z5,z6,z7]) (kt:=w3h 2 (q1y (q19 5) (q1y (q19 6) w63))) (gb:=q0n (q4b 7 (gFn 3 q08 (J.q01 (fun ρ=>rdS ρ 0) (J.q01 (g2 (fun ρ=>rdB ρ 1) (fun ρ=>rdB ρ 5) q1R) (J.q01 (fun _=>.ok (.int 8)) J.q0k))))) (q3b (asB (g2 (fun ρ=>rdB ρ 7) (fun _=>.ok (.int 2)) ltD)) (w92 3 (fun ρ=>rdS ρ 6)) (q3b (asB (g2 (fun ρ=>rdB ρ 7) (fun _=>.ok (.int 2)) (eqD false))) (w92 4 (fun ρ=>rdS ρ 6)) (fun ρ=>.ok (.nx ρ)))))
  obtain ⟨ρ',h1,pre,h2,p,q,h3,z5,z6,z7,h4⟩:=H (by
   rintro ⟨i,x⟩ q0V _ ρ ⟨pre,h2,p,q,h3,z5,z6,z7,rfl⟩
   have hx:x∉pre:=by
    rw [<- h2,List.map_cons] at nd
    have:=(List.nodup_append.mp nd).2.2
    intro hx
    exact this x hx x List.mem_cons_self rfl
   have hpl:pre.length<900:=by
    have:=congrArg List.length h2
    rw [List.length_append] at this
    omega
   have lp:=h3.sp.length_le
   have lq:=h3.sq.length_le
   refine ⟨[.shr (.list (ns.map .int)),.shr (.int k),.shr (q0q fs),.own (.list (p.map .str)),.own (.list (q.map .str)),.shr (.int (i:Nat)),.shr (.str x),z7],?_⟩
   by_cases c1:q2Z ns (k + (i:Nat)) 8<2
   ·refine ⟨[.shr (.list (ns.map .int)),.shr (.int k),.shr (q0q fs),.own (.list ((p++[x]).map .str)),.own (.list (q.map .str)),.shr (.int (i:Nat)),.shr (.str x),.shr (.int (q2Z ns (k + (i:Nat)) 8))],rfl,?_,pre++[x],by rw [<- h2];simp,_,_,h3.left x hx,_,_,_,rfl⟩
    walk_at "zz"
    rw [q1r ns _ 8 (by omega) (by decide)]
    walk_at "zz"
    rw [decide_eq_true c1]
    walk_at "zz"
    rw [<- w8I]
    exact x2P (ds:=p.map .str) rfl rfl (by rw [List.length_map];omega)
   ·by_cases c2:q2Z ns (k + (i:Nat)) 8=2
    ·refine ⟨[.shr (.list (ns.map .int)),.shr (.int k),.shr (q0q fs),.own (.list (p.map .str)),.own (.list ((q++[x]).map .str)),.shr (.int (i:Nat)),.shr (.str x),.shr (.int (q2Z ns (k + (i:Nat)) 8))],rfl,?_,pre++[x],by rw [<- h2];simp,_,_,h3.right x hx,_,_,_,rfl⟩
     walk_at "zz"
     rw [q1r ns _ 8 (by omega) (by decide)]
     walk_at "zz"
     rw [decide_eq_false c1]
     walk_at "zz"
     rw [q3u]
     walk_at "zz"
     rw [decide_eq_true c2]
     walk_at "zz"
     rw [<- w8I]
     exact x2P (ds:=q.map .str) rfl rfl (by rw [List.length_map];omega)
    ·refine ⟨[.shr (.list (ns.map .int)),.shr (.int k),.shr (q0q fs),.own (.list (p.map .str)),.own (.list (q.map .str)),.shr (.int (i:Nat)),.shr (.str x),.shr (.int (q2Z ns (k + (i:Nat)) 8))],rfl,?_,pre++[x],by rw [<- h2];simp,_,_,h3.skip x,_,_,_,rfl⟩
     walk_at "zz"
     rw [q1r ns _ 8 (by omega) (by decide)]
     walk_at "zz"
     rw [decide_eq_false c1]
     walk_at "zz"
     rw [q3u]
     walk_at "zz"
     rw [decide_eq_false c2]
     walk_at "zz") (q5S 0 fs) () [.shr (.list (ns.map .int)),.shr (.int k),.shr (q0q fs),.own (.list []),.own (.list []),.no,.no,.no] ⟨[],by rw [q5T];rfl,[],[],⟨List.Sublist.refl _,List.Sublist.refl _,fun _ h=>nomatch h⟩,_,_,_,rfl⟩
  refine ⟨p,q,?_,?_⟩
  ·rw [h1,h4]
   walk_at "zz"
   rw [q0I]
   walk_at "zz"
   rw [q0I]
   walk_at "zz"
  ·simp only [List.map_nil,List.append_nil] at h2
   rw [<- h2];exact h3
 ·walk_at "zz"
  rw [w0z]
theorem x5i (j:Int) (h0:0<=j) (h1:j<2):∃ m:Int,q0m (.list [.int 2,.int 4]) (.int j)=.ok (.int m):=by
 have:j=0\/j=1:=by omega
 rcases this with h | h<;>subst h
 ·exact ⟨2,rfl⟩
 ·exact ⟨4,rfl⟩
theorem w20 (fs:List Str) (es:List ErZ):q0m (q2D fs es) (.int 0)=.ok (q0q fs):=id rfl
theorem w6d (fs:List Str) (es:List ErZ):q0m (q2D fs es) (.int 1)=.ok (.tuple (es.map q16)):=id rfl
theorem x2R (ns:List Int) (m n:Int) (hm0:0<=m) (hm:m<=6) (hn0:0<=n) (hn:n<=6):∃ fs es ss wm wb,q3t [.list (ns.map .int),.int m,.int n]=.ok (.tuple [q2D fs es,q0q ss,x5G wm wb])/\q4g fs es/\Sub fs ss/\x5h fs wm wb:=by
 obtain ⟨fs,es,hb,gb⟩:=x2M ns 100 (by decide) m n hm0 hm hn0 hn
 obtain ⟨pt,hp⟩:=x5i (q2Z ns 97 2) (q1e _ _ _ (by decide)) (q1w _ _ _ (by decide))
 obtain ⟨ss,hs,gs⟩:=w8F ns 20 (by decide) fs gb.rise.len pt
 obtain ⟨wm,wb,hw,gw⟩:=x2Q ns 30 (by decide) fs gb.rise.up gb.rise.len
 refine ⟨fs,es,ss,wm,wb,?_,gb,w5C gb.rise.up gs,gw⟩
 unfold q3t
 refine q0P ?_
 unfold q4J q0r
 walk_at "zz"
 rw [hb]
 walk_at "zz"
 rw [w20]
 walk_at "zz"
 rw [q1r ns 97 2 (by decide) (by decide)]
 walk_at "zz"
 rw [hp]
 walk_at "zz"
 rw [hs]
 walk_at "zz"
 rw [w20]
 walk_at "zz"
 rw [hw]
 walk_at "zz"
theorem x5j (neg:Bool) (e:ErZ):isD neg (q16 e) .none=.ok (.bool neg):=by cases neg<;>rfl
theorem x2S (neg:Bool):isD neg .none .none=.ok (.bool (!neg)):=by cases neg<;>rfl
theorem w6W (e:ErZ):q0m (q16 e) (.int 0)=.ok (.str e.name):=id rfl
theorem w0C (x:Str) (gs:Rho->R (List D)) (s:Sl) (ρ:Rho) {ds:List D} (h:gs (s::ρ)=.ok ds) (hl:ds.length<=1000):q4S x gs (s::ρ)=.ex x none:=by unfold q4S;rw [h,bind_ok,if_pos hl]
theorem x5k (k:Nat) (gs:Rho->R (List D)) (s:Sl) (ρ:Rho):x4Y k gs (s::ρ)=(gs (s::ρ)).bind (x5E k):=id rfl
theorem q4h (wh:Str->Option Nat) (F:List D->R D) (ds:List D):q7t wh F ds=w69 wh (F ds):=id rfl
theorem w0D (wh:Str->Option Nat) (d:D):w69 wh (.ok d)=.ok d:=id rfl
theorem q55 {wh:Str->Option Nat}{y:Str}{j:Nat} (h:wh y=some j):w69 wh (.ex y none)=.ok (.tuple [.str "refused",.int (j:Nat)]):=by simp only [w69,h]
theorem w8J {x:Str} (h:okW x=true):x≠"zzzzz":=by
 intro e
 rw [e] at h
 have:okW "zzzzz"=false:=by decide +kernel
 rw [this] at h
 cases h
theorem x7Q {x:Str} (h:okW x=true):eqD false (.str x) (.str "zzzzz")=.ok (.bool false):=by
 unfold eqD
 rw [q53 h,show (PyData.str "zzzzz").canLay0=true by decide +kernel,q3L,decide_eq_false (w8J h)]
 rfl
theorem w0d {xs:List D}{j:Nat}{v:D} (h:xs[j]?=some v):q0m (.list xs) (.int (j:Nat))=.ok v:=by
 have e:q0m (.list xs) (.int (j:Nat))=ixD (.list xs) (.int (j:Nat)):=rfl
 rw [e]
 unfold ixD
 simp only [q6f h]
def x7f:R D->Bool
 | .ok (.bool b)=>b
 | _=>false
theorem w8K {r:R D} (h:x7f r=true):r=.ok (.bool true):=by
 unfold x7f at h
 split at h
 ·rw [h]
 ·cases h
theorem x7R (a x y z:D) (r:Rho):x5C (w3h 3 (q1y (q19 1) (q1y (q19 2) (q1y (q19 3) w63)))) (Sl.shr a::.no::.no::.no::r) (.tuple [x,y,z])=.ok (.nx (.shr a::.shr x::.shr y::.shr z::r)):=id rfl
def x7g:R D->Bool
 | .ok (.bool b)=>!b
 | _=>false
theorem q6s {r:R D} (h:x7g r=true):r=.ok (.bool false):=by
 unfold x7g at h
 split at h
 ·rename_i b;cases b
  ·rfl
  ·cases h
 ·cases h
theorem q8n:q0K [.str "zzzzz"]=.ok (.bool true):=w8K (by decide +kernel)
theorem x06 (i:Int):q0K [.int i]=.ok (.bool false):=by
 unfold q0K
 refine q0P ?_
 unfold q4d q0r
 walk_at "zz"
 rw [w8y,show w7X "str" (.int i)=false from rfl]
 walk_at "zz"
theorem x07 {xs:List Str} (hw:∀ x∈xs,q0K [.str x]=.ok (.bool true)) (hl:xs.length<=20):q0l [q0q xs]=.ok (.bool ((xs.zip (xs.drop 1)).all fun p=>ltS p.1 p.2)):=by
 unfold q0l
 refine q0P ?_
 unfold q0L q0r
 walk_at "zz"
 rw [q3i,q7g]
 walk_at "zz"
 rw [if_pos (by omega)]
 rw [q0T _ (fun x:Str=>PyData.str x) (fun _=>PyData.bool true) xs fun x hx=>q1v rfl (by
  walk_at "zz"
  rw [hw x hx])]
 walk_at "zz"
 rw [q3M _ (fun _=>true)]
 walk_at "zz"
 rw [show ((xs.map fun _=>true).all id)=true by simp]
 walk_at "zz"
 rw [w8A]
 walk_at "zz"
 rw [w0B]
 walk_at "zz"
 rw [if_pos (by simp;omega)]
 rw [q0T _ (fun p:Str×Str=>PyData.tuple [.str p.1,.str p.2]) (fun p=>PyData.bool (ltS p.1 p.2)) (xs.zip (xs.drop 1)) fun p hp=>w5y rfl (by
  walk_at "zz")]
 walk_at "zz"
 rw [q3M _ (fun p:Str×Str=>ltS p.1 p.2)]
 walk_at "zz"
 rw [List.all_map]
 rfl
theorem w21 {fs xs:List Str} (hw:∀ x∈xs,q0K [.str x]=.ok (.bool true)) (hl:xs.length<=20):q0X [q0q fs,q0q xs]=.ok (.bool (((xs.zip (xs.drop 1)).all fun p=>ltS p.1 p.2) && xs.all fun x=>decide (x∈fs))):=by
 unfold q0X
 refine q0P ?_
 unfold q2q q0r
 walk_at "zz"
 rw [x07 hw hl]
 cases ((xs.zip (xs.drop 1)).all fun p=>ltS p.1 p.2) with
 | false=>rfl
 | true =>
  walk_at "zz"
  rw [if_pos (by omega)]
  rw [q0T _ (fun x:Str=>PyData.str x) (fun x=>PyData.bool (decide (x∈fs))) xs fun x hx=>q1v rfl (by
   walk_at "zz"
   rw [w5v]
   rfl)]
  walk_at "zz"
  rw [q3M _ (fun x:Str=>decide (x∈fs))]
  walk_at "zz"
  rw [List.all_map]
  rfl
theorem q9X:∀ {l:List Str},((l.zip (l.drop 1)).all fun p=>ltS p.1 p.2)=true->l.Pairwise fun a b=>ltS a b=true
 | [],_=>.nil
 | [_],_=>List.pairwise_singleton _ _
 | a::b::r,h=>by
  have h':(ltS a b && (((b::r).zip ((b::r).drop 1)).all fun p=>ltS p.1 p.2))=true:=h
  rw [Bool.and_eq_true] at h'
  have ih:=q9X h'.2
  refine List.pairwise_cons.mpr ⟨fun x hx=>?_,ih⟩
  rcases List.mem_cons.mp hx with z | z
  ·rw [z];exact h'.1
  ·exact q46 h'.1 ((List.pairwise_cons.mp ih).1 x z)
structure w6X (fs:List Str) (d:D):Prop where
 nd:noD d=true
 no:q0X [q0q fs,d]=.ok (.bool false)
theorem w8L {fs:List Str}{d:D} (h0:noD d=true) (h:q0l [d]=.ok (.bool false)):w6X fs d:=by
 refine ⟨h0,?_⟩
 unfold q0X
 refine q0P ?_
 unfold q2q q0r
 walk_at "zz"
 rw [h]
 walk_at "zz"
theorem x08 {fs:List Str}{d:D} (h0:noD d=true) (h1:w7X "tuple" d=false):w6X fs d:=by
 refine w8L h0 ?_
 unfold q0l
 refine q0P ?_
 unfold q0L q0r
 walk_at "zz"
 rw [h0,h1]
 walk_at "zz"
theorem x7h {fs xs:List Str} (hf:∀ x∈fs,okW x=true) (hw:∀ x∈xs,q0K [.str x]=.ok (.bool true)) (hl:xs.length<=20) (hz:("zzzzz" : Str)∈xs):w6X fs (q0q xs):=by
 refine ⟨q3i xs,?_⟩
 rw [w21 hw hl]
 have:(xs.all fun x=>decide (x∈fs))=false:=by
  rw [List.all_eq_false]
  exact ⟨_,hz,by rw [decide_eq_true_eq];exact fun h=>w8J (hf _ h) rfl⟩
 rw [this,Bool.and_false]
theorem x2T {fs xs:List Str} (hw:∀ x∈xs,q0K [.str x]=.ok (.bool true)) (hl:xs.length<=20) (hz:¬ xs.Pairwise fun a b=>ltS a b=true):w6X fs (q0q xs):=by
 refine ⟨q3i xs,?_⟩
 rw [w21 hw hl]
 cases h:((xs.zip (xs.drop 1)).all fun p=>ltS p.1 p.2) with
 | true=>exact (hz (q9X h)).elim
 | false=>rfl
theorem x6u {fs:List Str}{x:Str} (hx:okW x=true):w6X fs (.tuple [.str x,.int 0]):=by
 refine w8L rfl ?_
 unfold q0l
 refine q0P ?_
 unfold q0L q0r
 walk_at "zz"
 rw [show noD (.tuple [.str x,.int 0])=true from rfl,q7g]
 walk_at "zz"
 have pk:=q0T (q2S 1 [Sl.no] (fun x=>R.ok true) (gFn 1 q0K (J.q01 (fun ρ=>rdS ρ 0) J.q0k))) (fun p:D×Bool=>p.1) (fun p=>PyData.bool p.2) [(.str x,true),(.int 0,false)] fun p hp=>q1v rfl (by
  walk_at "zz"
  simp only [List.mem_cons,List.not_mem_nil,or_false] at hp
  rcases hp with z | z<;>rw [z]
  ·rw [q1L hx]
  ·rw [x06])
 simp only [List.map_cons,List.map_nil] at pk
 rw [pk]
 walk_at "zz"
 rw [show q2Q (fun bs=>bs.all id) (.list [.bool true,.bool false])=.ok (.bool false) from rfl]
 walk_at "zz"
theorem w8M {L:List D}{j:Int} (h0:0<=j) (h1:j<L.length):∃ d∈L,q0m (.list L) (.int j)=.ok d:=by
 obtain ⟨n,rfl⟩:=Int.eq_ofNat_of_zero_le h0
 have hn:n<L.length:=by omega
 exact ⟨L[n],List.getElem_mem hn,w0d (List.getElem?_eq_getElem hn)⟩
def q9a (fs:List Str):List D:=[.none,.list (fs.map .str),.tuple [.str "zzzzz"],.tuple (fs.map .str++[.str "zzzzz"]),.tuple [.int 1],.int 0,.str "a",.tuple [.str ""],.tuple [.none]]
def w3s (x:Str) (fs:List Str):List D:=[.tuple (fs.map .str++fs.map .str),.tuple [.str x,.str x],.tuple [.str x,.int 0]]
theorem x7S {fs:List Str} (hf:∀ x∈fs,okW x=true) (hl:fs.length<=6):∀ d∈q9a fs,w6X fs d:=by
 intro d hd
 unfold q9a at hd
 simp only [List.mem_cons,List.not_mem_nil,or_false] at hd
 rcases hd with h | h | h | h | h | h | h | h | h<;>rw [h]
 ·exact x08 rfl rfl
 ·exact x08 (by show noDs (fs.map PyData.str)=true;exact w0A _ (fun _=>rfl) fs) rfl
 ·exact x7h (xs:=[("zzzzz" : Str)]) hf (fun x hx=>by rw [List.mem_singleton.mp hx];exact q8n) (by decide) (List.mem_singleton.mpr rfl)
 ·have:=x7h (xs:=fs++[("zzzzz" : Str)]) hf (fun x hx=>by
   rcases List.mem_append.mp hx with h | h
   ·exact q1L (hf x h)
   ·rw [List.mem_singleton.mp h];exact q8n) (by rw [List.length_append];simp;omega) (List.mem_append_right _ (List.mem_singleton.mpr rfl))
  unfold q0q at this
  rwa [List.map_append] at this
 ·exact w8L rfl (q6s (by decide +kernel))
 ·exact x08 rfl rfl
 ·exact x08 rfl rfl
 ·exact w8L rfl (q6s (by decide +kernel))
 ·exact w8L rfl (q6s (by decide +kernel))
theorem x7T {x:Str}{r:List Str} (hf:∀ y∈x::r,okW y=true) (up:(x::r).Pairwise fun a b=>ltS a b=true) (hl:(x::r).length<=6):∀ d∈w3s x (x::r),w6X (x::r) d:=by
 intro d hd
 have hx:=hf x List.mem_cons_self
 unfold w3s at hd
 simp only [List.mem_cons,List.not_mem_nil,or_false] at hd
 rcases hd with h | h | h<;>rw [h]
 ·have:=x2T (fs:=x::r) (xs:=(x::r)++(x::r)) (fun y hy=>by
   rcases List.mem_append.mp hy with h | h
   ·exact q1L (hf y h)
   ·exact q1L (hf y h)) (by rw [List.length_append];omega) (fun h=>by
   have:=(List.nodup_append.mp (q35 h)).2.2
   exact this x List.mem_cons_self x List.mem_cons_self rfl)
  unfold q0q at this
  rwa [List.map_append] at this
 ·exact x2T (xs:=[x,x]) (fun y hy=>by
   simp only [List.mem_cons,List.not_mem_nil,or_false,or_self] at hy
   rw [hy];exact q1L hx) (by simp) (fun h=>by
   have:=(List.pairwise_cons.mp h).1 x List.mem_cons_self
   rw [q4C] at this
   cases this)
 ·exact x6u hx
theorem x7U {x y:Str}{r:List Str} (hf:∀ z∈x::y::r,okW z=true) (up:(x::y::r).Pairwise fun a b=>ltS a b=true) (hl:(x::y::r).length<=6):w6X (x::y::r) (q0q (x::y::r).reverse):=by
 refine x2T (fun z hz=>q1L (hf z (List.mem_reverse.mp hz))) (by rw [List.length_reverse];omega) (fun h=>?_)
 have h2:=List.pairwise_reverse.mp h
 have a1:=(List.pairwise_cons.mp up).1 y List.mem_cons_self
 have a2:=(List.pairwise_cons.mp h2).1 y List.mem_cons_self
 have:=q46 a1 a2
 rw [q4C] at this
 cases this
theorem x5l {i:Nat}{g:Rho->R D}{ρ:Rho}{ds es:List D} (hi:ρ[i]?=some (Sl.own (.list ds))) (hg:g ρ=.ok (.list es)) (hl:ds.length + es.length<=1000):x2z i g ρ=.ok (.nx (ρ.set i (.own (.list (ds++es))))):=by
 unfold x2z
 simp only [hi,hg,bind_ok,if_pos hl]
theorem x6v (g:Rho->R D) (s:Sl) (ρ:Rho):x5F g (s::ρ)=(g (s::ρ)).bind x6m:=id rfl
theorem x2U (fs:List Str):x6m (q0q fs)=.ok (q0q fs.reverse):=by
 show R.ok (PyData.tuple (fs.map PyData.str).reverse)=_
 rw [<- List.map_reverse]
theorem x1r (x:Str) (r:List Str):slD (q0q (x::r)) none (some 1)=.ok (q0q [x]):=by
 have e:slD (q0q (x::r)) none (some 1)=.ok (.tuple (w7V ((x::r).map .str) none (some 1))):=rfl
 rw [e,show (1:Int)=((1:Nat):Int) from rfl,x1o _ 1 (by simp)]
 rfl
theorem x2V (x:Str) (r:List Str):q0m (q0q (x::r)) (.int 0)=.ok (.str x):=by
 have e:q0m (q0q (x::r)) (.int 0)=ixD (.tuple (.str x::r.map .str)) (.int 0):=rfl
 rw [e]
 unfold ixD
 have:=q6f (xs:=PyData.str x::r.map .str) (j:=0) (v:=.str x) rfl
 rw [show ((0:Nat):Int)=0 from rfl] at this
 simp only [this]
theorem w5E (xs:List D):q2p (.tuple xs)=.ok (.list xs):=id rfl
theorem w3t (ns:List Int) (k:Int) (hk:0<=k) {L:List D}{P:D->Prop} (hL:0<L.length) (h:∀ d∈L,P d) (F:D):∃ d,q2l (g2 (fun ρ=>rdB ρ 3) (gFn 3 q08 (J.q01 (fun ρ=>rdS ρ 0) (J.q01 (fun ρ=>rdS ρ 1) (J.q01 (q0J (J.q01 (fun ρ=>rdB ρ 3) J.q0k) (on1 q8b)) J.q0k)))) q0m) [.shr (.list (ns.map .int)),.shr (.int k),.shr F,.own (.list L)]=.ok (.rt d)/\P d:=by
 have hm:=q1r ns k (L.length:Nat) hk (by omega)
 obtain ⟨d,hd,e⟩:=w8M (L:=L) (q1e ns k (L.length:Nat) (by omega)) (q1w ns k (L.length:Nat) (by omega))
 refine ⟨d,?_,h d hd⟩
 walk_at "zz"
 rw [hm]
 walk_at "zz"
 rw [e]
 walk_at "zz"
theorem w8N (ns:List Int) (k:Int) (hk:0<=k) (fs:List Str) (hr:x55 fs 6):∃ d,q2g [.list (ns.map .int),.int k,q0q fs]=.ok d/\w6X fs d:=by
 suffices H:∃ d,q1B (q0r 4 [.list (ns.map .int),.int k,q0q fs])=.ok (.rt d)/\w6X fs d by
  obtain ⟨d,h1,h2⟩:=H
  exact ⟨d,q0P h1,h2⟩
 have l:=hr.len
 have b0:=x7S hr.ok l
 unfold q1B q0r
 generalize hG:q2l _=G
 walk_at "zz"
 rw [w5E]
 walk_at "zz"
 rw [if_pos (by omega)]
 walk_at "zz"
 rw [w3q fs hr.ok]
 walk_at "zz"
 cases fs with
 | nil =>
  walk_at "zz"
  rw [show decide ((1:Int)<((0:Nat):Int))=false from rfl]
  walk_at "zz"
  rw [<- hG]
  exact w3t ns k hk (L:=q9a []) (by decide) b0 _
 | cons x r =>
  have b1:=x7T hr.ok hr.up l
  rw [decide_eq_false (by simp)]
  simp only [Bool.not_false,cond_true]
  simp only [List.length_cons] at l
  rw [x5l (ds:=q9a (x::r)) (es:=w3s x (x::r))]
  ·walk_at "zz"
   have bb:∀ d∈q9a (x::r)++w3s x (x::r),w6X (x::r) d:=fun d hd=>(List.mem_append.mp hd).elim (b0 d) (b1 d)
   cases r with
   | nil =>
    rw [show decide ((1:Int)<(([].length + 1:Nat):Int))=false from rfl]
    walk_at "zz"
    rw [<- hG]
    exact w3t ns k hk (by simp [q9a]) bb _
   | cons y r =>
    rw [decide_eq_true (by simp only [List.length_cons];omega)]
    simp only [cond_true]
    have b2:=x7U hr.ok hr.up hr.len
    rw [x5l (ds:=q9a (x::y::r)++w3s x (x::y::r)) (es:=[q0q (x::y::r).reverse,q0q (x::y::r).reverse,q0q (x::y::r).reverse])]
    ·walk_at "zz"
     rw [<- hG]
     exact w3t ns k hk (by simp [q9a]) (fun d hd=>(List.mem_append.mp hd).elim (bb d) fun h=>by
      simp only [List.mem_cons,List.not_mem_nil,or_false,or_self] at h
      rw [h];exact b2) _
    ·rfl
    ·rw [x5k]
     walk_at "zz"
     rw [x6v]
     walk_at "zz"
     rw [x2U]
     rfl
    ·simp [q9a,w3s]
  ·rfl
  ·walk_at "zz"
   rw [if_pos (by omega)]
   walk_at "zz"
   rw [x1r]
   walk_at "zz"
   rw [x1r]
   walk_at "zz"
   rw [x2V]
   walk_at "zz"
   rfl
  ·simp [q9a,w3s]
def q8o (es:List ErZ) (nm:Str):Option ErZ:=es.find? fun e=>decide (e.name=nm)
def x6w:Option ErZ->D
 | none=>.none
 | some e=>q16 e
theorem w22 {fs:List Str}{es:List ErZ} (g:q4g fs es) {nm:Str} (hn:okW nm=true):q0M [q2D fs es,.str nm]=.ok (x6w (q8o es nm)):=by
 unfold q0M
 refine q0P ?_
 unfold q1A q0r
 walk_at "zz"
 rw [w8x,w8z]
 walk_at "zz"
 rw [w1N (ds:=es.map q16)]
 ·obtain ⟨h1,h2⟩:=w5D q16 (fun e=>decide (e.name=nm)) q16 (fun ρ=>∃ z,ρ=[Sl.shr (q2D fs es),.shr (.str nm),z]) (kt:=q19 2) (gb:=q3b (asB (g2 (g2 (fun ρ=>rdB ρ 2) (fun _=>.ok (.int 0)) q0m) (fun ρ=>rdB ρ 1) (eqD false))) (q2l (fun ρ=>rdS ρ 2)) (fun ρ=>.ok (.nx ρ))) es [Sl.shr (q2D fs es),.shr (.str nm),.no] (by
   rintro e he ρ ⟨z,rfl⟩
   refine ⟨[.shr (q2D fs es),.shr (.str nm),.shr (q16 e)],rfl,fun hp=>?_,fun hp=>⟨[.shr (q2D fs es),.shr (.str nm),.shr (q16 e)],?_,_,rfl⟩⟩
   ·walk_at "zz"
    rw [w6W]
    walk_at "zz"
    rw [q54 false (g.ok e he).name hn]
    walk_at "zz"
    rw [hp]
    walk_at "zz"
   ·walk_at "zz"
    rw [w6W]
    walk_at "zz"
    rw [q54 false (g.ok e he).name hn]
    walk_at "zz"
    rw [hp]
    walk_at "zz") ⟨_,rfl⟩
  cases hf:es.find? (fun e=>decide (e.name=nm)) with
  | some e =>
   rw [h1 e hf]
   walk_at "zz"
   unfold q8o
   rw [hf]
   rfl
  | none =>
   obtain ⟨ρ',e1,z,rfl⟩:=h2 hf
   rw [e1]
   walk_at "zz"
   unfold q8o
   rw [hf]
   rfl
 ·walk_at "zz"
  rw [w6d]
  walk_at "zz"
theorem q6t:∀ {es:List ErZ},(es.map (·.name)).Nodup->∀ {e:ErZ},e∈es->q8o es e.name=some e
 | x::r,nd,e,he=>by
  obtain ⟨n1,n2⟩:=List.nodup_cons.mp nd
  unfold q8o
  rw [List.find?_cons]
  rcases List.mem_cons.mp he with h | h
  ·subst h;simp
  ·have:x.name≠e.name:=fun z=>n1 (by show x.name∈_;rw [z];exact List.mem_map_of_mem h)
   rw [decide_eq_false this]
   exact q6t n2 h
structure x2W (e:ErZ):Prop where
 needs:e.needs.length<=6
 bars:e.bars.length<=6
 makes:e.makes.length<=6
 ends:e.ends.length<=6
theorem w5F {fs:List Str}{es:List ErZ} (g:q4g fs es) {e:ErZ} (he:e∈es):x2W e :=
 ⟨q3N (g.ok e he).needs g.rise.len,q3N (g.ok e he).bars g.rise.len,q3N (g.ok e he).makes g.rise.len,q3N (g.ok e he).ends g.rise.len⟩
theorem w0E {fs:List Str}{es:List ErZ} (g:q4g fs es):q0M [q2D fs es,.str "zzzzz"]=.ok .none:=by
 unfold q0M
 refine q0P ?_
 unfold q1A q0r
 walk_at "zz"
 rw [w8x,w8z]
 walk_at "zz"
 rw [w1N (ds:=es.map q16)]
 ·refine w8H (P:=fun ρ=>∃ z,ρ=[Sl.shr (q2D fs es),.shr (.str "zzzzz"),z]) (w1Z q16 _ es _ ?_ ⟨_,rfl⟩) ?_
  ·rintro e he ρ ⟨z,rfl⟩
   refine ⟨[.shr (q2D fs es),.shr (.str "zzzzz"),.shr (q16 e)],rfl,[.shr (q2D fs es),.shr (.str "zzzzz"),.shr (q16 e)],?_,_,rfl⟩
   walk_at "zz"
   rw [w6W]
   walk_at "zz"
   rw [x7Q (g.ok e he).name]
   walk_at "zz"
  ·rintro ρ ⟨z,rfl⟩
   walk_at "zz"
 ·walk_at "zz"
  rw [w6d]
  walk_at "zz"
theorem x5m (e:ErZ):slD (q16 e) (some 1) (some 5)=.ok (.tuple [q0q e.needs,q0q e.bars,q0q e.makes,q0q e.ends]):=id rfl
theorem x7V (e:ErZ):slD (q16 e) (some 5) none=.ok (.tuple [.int e.price]):=id rfl
theorem w6e (e:ErZ):slD (q16 e) none (some 5)=.ok (.tuple [.str e.name,q0q e.needs,q0q e.bars,q0q e.makes,q0q e.ends]):=id rfl
theorem x7W (e:ErZ):q0m (q16 e) (.int 5)=.ok (.int e.price):=id rfl
def q56 (ff xs:List Str):List Str:=xs.filter fun x=>decide (x∈ff)
def q9b (ff:List Str) (e:ErZ):ErZ:=⟨e.name,q56 ff e.needs,q56 ff e.bars,q56 ff e.makes,q56 ff e.ends,e.price⟩
theorem w8O {ff xs:List Str} (h:xs.length<=60) (ρ:Rho):q0J (J.q01 (q1S 1 [1] (gIt (fun ρ=>rdB ρ 0)) (asB (g2 (fun ρ=>rdB ρ 0) (fun ρ=>rdB ρ 1) (inD false))) (fun ρ=>rdS ρ 0)) J.q0k) (on1 q1b) (.shr (q0q xs)::.shr (q0q ff)::ρ)=.ok (q0q (q56 ff xs)):=by
 walk_at "zz"
 rw [if_pos (by omega)]
 rw [q2L _ (fun x:Str=>PyData.str x) (fun x=>PyData.str x) (fun x=>decide (x∈ff)) xs fun x hx=>w0v (by
  walk_at "zz"
  rw [w5v]
  rfl) fun _=>rfl]
 walk_at "zz"
 rw [q0I]
 rfl
theorem q9Y {e:ErZ} (he:x2W e) (ff:List Str):q2J (q2S 1 [Sl.no,Sl.shr (q0q ff)] (fun _=>R.ok true) (q0J (J.q01 (q1S 1 [1] (gIt (fun ρ=>rdB ρ 0)) (asB (g2 (fun ρ=>rdB ρ 0) (fun ρ=>rdB ρ 1) (inD false))) (fun ρ=>rdS ρ 0)) J.q0k) (on1 q1b))) [q0q e.needs,q0q e.bars,q0q e.makes,q0q e.ends]=.ok [q0q (q56 ff e.needs),q0q (q56 ff e.bars),q0q (q56 ff e.makes),q0q (q56 ff e.ends)]:=by
 have:=he.needs
 have:=he.bars
 have:=he.makes
 have:=he.ends
 have pk:=q0T (q2S 1 [Sl.no,Sl.shr (q0q ff)] (fun _=>R.ok true) (q0J (J.q01 (q1S 1 [1] (gIt (fun ρ=>rdB ρ 0)) (asB (g2 (fun ρ=>rdB ρ 0) (fun ρ=>rdB ρ 1) (inD false))) (fun ρ=>rdS ρ 0)) J.q0k) (on1 q1b))) (fun x:List Str=>q0q x) (fun x=>q0q (q56 ff x)) [e.needs,e.bars,e.makes,e.ends] fun x hx=>q1v rfl (w8O (by
  simp only [List.mem_cons,List.not_mem_nil,or_false] at hx
  rcases hx with z | z | z | z<;>rw [z]<;>omega) [])
 simp only [List.map_cons,List.map_nil] at pk
 exact pk
theorem x09 {e:ErZ} (he:x2W e) (ff:List Str):q2e [q16 e,q0q ff]=.ok (q16 (q9b ff e)):=by
 unfold q2e
 refine q0P ?_
 unfold q2U q0r
 walk_at "zz"
 rw [x5m]
 walk_at "zz"
 rw [q9Y he]
 walk_at "zz"
 rw [w6W]
 walk_at "zz"
 rw [q0I]
 walk_at "zz"
 rw [x7W]
 walk_at "zz"
 rfl
theorem x2X {fs ff:List Str}{es:List ErZ} (g:q4g fs es) (h:Sub fs ff):q7f [q2D fs es,q0q ff]=.ok (q2D ff (es.map (q9b ff))):=by
 have l:=g.len
 unfold q7f
 refine q0P ?_
 unfold w1S q0r
 walk_at "zz"
 rw [q24 g]
 walk_at "zz"
 rw [w20]
 walk_at "zz"
 rw [q3v g.rise.ok h (q3N h g.rise.len)]
 walk_at "zz"
 rw [w6d]
 walk_at "zz"
 rw [if_pos (by omega)]
 rw [q0T _ q16 (fun e=>q16 (q9b ff e)) es fun e he=>q1v rfl (by
  walk_at "zz"
  rw [x09 (w5F g he)])]
 walk_at "zz"
 rw [q0I]
 walk_at "zz"
 unfold q2D
 rw [List.map_map]
 rfl
theorem x2Y {fs:List Str}{es:List ErZ}{d:D} (g:q4g fs es) (h:w6X fs d):q7f [q2D fs es,d]=.ex "NoFacts" none:=by
 unfold q7f
 refine w5o ?_
 unfold w1S q0r
 walk_at "zz"
 rw [q24 g]
 walk_at "zz"
 rw [w20]
 walk_at "zz"
 rw [h.no]
 walk_at "zz"
 rw [w0C _ _ _ _ rfl (by decide)]
 rfl
theorem x0a {fs:List Str}{es:List ErZ} (hf:∀ x∈fs,okW x=true) (he:∀ e∈es,(q16 e).canLay0=true) (neg:Bool):eqD neg (q2D fs es) (q2D fs es)=.ok (.bool (!neg)):=by
 have h1:(q2D fs es).canLay0=true:=by
  unfold q2D
  simp only [PyData.canLay0,PyData.canLayAll0]
  rw [q5U fs hf,w5A q16 es he]
  rfl
 unfold eqD
 rw [h1,x04,decide_eq_true (Nat.le_trans (Nat.min_le_left _ _) (w8E fs es))]
 cases neg<;>rfl
theorem x0b {fs ff:List Str} (hf:∀ x∈fs,okW x=true) {e:ErZ} (g:w3o fs e):(q16 (q9b ff e)).canLay0=true:=by
 have k:∀ {xs:List Str},Sub fs xs->PyData.canLayAll0 ((q56 ff xs).map .str)=true:=fun h=>q5U _ fun x hx=>hf x (h.mem x (List.mem_filter.mp hx).1)
 have:=q53 g.name
 unfold q16 q9b
 simp only [PyData.canLay0,PyData.canLayAll0] at this ⊢
 rw [k g.needs,k g.bars,k g.makes,k g.ends,this]
 rfl
def w0F (n e:ErZ):ErZ:=if e.name=n.name then n else e
theorem x2Z {fs:List Str}{es:List ErZ}{n e0:ErZ} (g:q4g fs es) (gn:GoodP fs n) (hw:okW n.name=true) (h0:e0∈es) (hn:e0.name=n.name):q0G [q2D fs es,q16 n]=.ok (q2D fs (es.map (w0F n))):=by
 have l:=g.len
 unfold q0G
 refine q0P ?_
 unfold q1l q0r
 walk_at "zz"
 rw [q24 g]
 walk_at "zz"
 rw [w20]
 walk_at "zz"
 rw [q3f g.rise gn (q1L hw)]
 walk_at "zz"
 rw [w6W]
 walk_at "zz"
 rw [<- hn,w22 g (g.ok e0 h0).name,q6t g.nd h0]
 simp only [x6w]
 walk_at "zz"
 rw [x5j]
 walk_at "zz"
 rw [w20]
 walk_at "zz"
 rw [w6d]
 walk_at "zz"
 rw [if_pos (by omega)]
 rw [q0T _ q16 (fun e=>q16 (w0F n e)) es fun e he=>q1v rfl (by
  walk_at "zz"
  rw [w6W]
  walk_at "zz"
  rw [q54 false (g.ok e he).name (g.ok e0 h0).name,hn]
  unfold w0F
  by_cases hz:e.name=n.name
  ·rw [if_pos hz,if_neg Bool.false_ne_true,decide_eq_true hz];rfl
  ·rw [if_neg hz,if_neg Bool.false_ne_true,decide_eq_false hz];rfl)]
 walk_at "zz"
 rw [q0I]
 walk_at "zz"
 unfold q2D
 rw [List.map_map]
 rfl
theorem x0c {fs:List Str}{es:List ErZ}{n:ErZ} (g:q4g fs es) (gn:GoodP fs n) (hn:n.name="zzzzz") (hl:es.length<6):q0G [q2D fs es,q16 n]=.ok (q2D fs (es++[n])):=by
 unfold q0G
 refine q0P ?_
 unfold q1l q0r
 walk_at "zz"
 rw [q24 g]
 walk_at "zz"
 rw [w20]
 walk_at "zz"
 rw [q3f g.rise gn (by rw [hn];exact q8n)]
 walk_at "zz"
 rw [w6W,hn]
 walk_at "zz"
 rw [w0E g]
 walk_at "zz"
 rw [x2S]
 walk_at "zz"
 rw [w6d]
 walk_at "zz"
 rw [q3u]
 walk_at "zz"
 rw [decide_eq_false (by omega)]
 walk_at "zz"
 rw [w20]
 walk_at "zz"
 rw [w6d]
 walk_at "zz"
 rw [if_pos (by omega)]
 walk_at "zz"
 unfold q2D
 rw [List.map_append]
 rfl
theorem x0d {fs:List Str}{es:List ErZ}{n:ErZ} (g:q4g fs es) (gn:GoodP fs n) (hn:n.name="zzzzz") (hl:es.length=6):q0G [q2D fs es,q16 n]=.ex "NoErrand" none:=by
 unfold q0G
 refine w5o ?_
 unfold q1l q0r
 walk_at "zz"
 rw [q24 g]
 walk_at "zz"
 rw [w20]
 walk_at "zz"
 rw [q3f g.rise gn (by rw [hn];exact q8n)]
 walk_at "zz"
 rw [w6W,hn]
 walk_at "zz"
 rw [w0E g]
 walk_at "zz"
 rw [x2S]
 walk_at "zz"
 rw [w6d]
 walk_at "zz"
 rw [q3u]
 walk_at "zz"
 rw [decide_eq_true (by omega)]
 walk_at "zz"
 rw [w0C _ _ _ _ rfl (by decide)]
 rfl
theorem w3u {fs:List Str}{es:List ErZ}{d:D} (g:q4g fs es) (h:q0H [q0q fs,d]=.ok (.bool false)):q0G [q2D fs es,d]=.ex "NoErrand" none:=by
 unfold q0G
 refine w5o ?_
 unfold q1l q0r
 walk_at "zz"
 rw [q24 g]
 walk_at "zz"
 rw [w20]
 walk_at "zz"
 rw [h]
 walk_at "zz"
 rw [w0C _ _ _ _ rfl (by decide)]
 rfl
theorem x1s {fs:List Str}{d:D} (h0:noD d=true) (h1:w7X "tuple" d=false):q0H [q0q fs,d]=.ok (.bool false):=by
 unfold q0H
 refine q0P ?_
 unfold q1U q0r
 walk_at "zz"
 rw [h0,h1]
 walk_at "zz"
theorem x30 {fs:List Str}{ds:List D} (h0:noD (.tuple ds)=true) (h1:ds.length≠6):q0H [q0q fs,.tuple ds]=.ok (.bool false):=by
 unfold q0H
 refine q0P ?_
 unfold q1U q0r
 walk_at "zz"
 rw [h0,q7g]
 walk_at "zz"
 rw [q3u]
 walk_at "zz"
 rw [decide_eq_false (by omega)]
 walk_at "zz"
theorem x5n:q2X [.int 10,.int 0,.int 9]=.ok (.bool false):=q6s (by decide +kernel)
theorem w8P {fs:List Str}{n:ErZ} (hw:q0K [.str n.name]=.ok (.bool true)):q0H [q0q fs,.tuple [.str n.name,q0q n.needs,q0q n.bars,q0q n.makes,q0q n.ends,.int 10]]=.ok (.bool false):=by
 have nd:noD (.tuple [.str n.name,q0q n.needs,q0q n.bars,q0q n.makes,q0q n.ends,.int 10])=true:=w3r ⟨n.name,n.needs,n.bars,n.makes,n.ends,10⟩
 unfold q0H
 refine q0P ?_
 unfold q1U q0r
 walk_at "zz"
 rw [nd,q7g]
 walk_at "zz"
 rw [q3u]
 walk_at "zz"
 rw [show decide (((6:Nat):Int)=6)=true from rfl]
 walk_at "zz"
 rw [x7e]
 walk_at "zz"
 rw [hw]
 walk_at "zz"
 rw [x5n]
 walk_at "zz"
theorem x6x {fs:List Str}{es:List ErZ}{e0:ErZ} (g:q4g fs es) (h0:e0∈es):q0Y [q2D fs es,.str e0.name]=.ok (q2D fs (es.filter fun e=>!decide (e.name=e0.name))):=by
 have l:=g.len
 unfold q0Y
 refine q0P ?_
 unfold q1q q0r
 walk_at "zz"
 rw [q24 g]
 walk_at "zz"
 rw [w22 g (g.ok e0 h0).name,q6t g.nd h0]
 simp only [x6w]
 walk_at "zz"
 rw [x5j]
 walk_at "zz"
 rw [w20]
 walk_at "zz"
 rw [w6d]
 walk_at "zz"
 rw [if_pos (by omega)]
 rw [q2L _ q16 (fun e=>q16 e) (fun e=>!decide (e.name=e0.name)) es fun e he=>w0v (by
  walk_at "zz"
  rw [w6W]
  walk_at "zz"
  rw [q54 true (g.ok e he).name (g.ok e0 h0).name]
  rfl) fun _=>rfl]
 walk_at "zz"
 rw [q0I]
 walk_at "zz"
 rfl
theorem x5o {fs:List Str}{es:List ErZ} (g:q4g fs es):q0Y [q2D fs es,.str "zzzzz"]=.ex "NoErrand" none:=by
 unfold q0Y
 refine w5o ?_
 unfold q1q q0r
 walk_at "zz"
 rw [q24 g]
 walk_at "zz"
 rw [w0E g]
 walk_at "zz"
 rw [x2S]
 walk_at "zz"
 rw [w0C _ _ _ _ rfl (by decide)]
 rfl
theorem w5G {α β:Type} (f:α->β):∀ (l:List α) (acc:List β),l.foldl (fun a e=>a++[f e]) acc=acc++l.map f
 | [],acc=>by simp
 | x::r,acc=>by rw [List.foldl_cons,w5G f r,List.map_cons,List.append_assoc];rfl
theorem wh7:whD "NoFacts"=some 7:=by decide +kernel
theorem wh3:whD "NoErrand"=some 3:=by decide +kernel
theorem x6y:eqD true (.tuple [.str "refused",.int 7]) (.tuple [.str "refused",.int 7])=.ok (.bool false):=q6s (by decide +kernel)
theorem x0e:eqD true (.tuple [.str "refused",.int 3]) (.tuple [.str "refused",.int 3])=.ok (.bool false):=q6s (by decide +kernel)
theorem x5p:eqD false (.tuple [.str "refused",.int 3]) (.tuple [.str "refused",.int 3])=.ok (.bool true):=w8K (by decide +kernel)
theorem q8p (n:ErZ):q2p (q16 n)=.ok (.list [.str n.name,q0q n.needs,q0q n.bars,q0q n.makes,q0q n.ends,.int n.price]):=id rfl
def x5H (n:ErZ):List D:=[.none,.tuple [.str n.name,q0q n.needs,q0q n.bars,q0q n.makes,q0q n.ends],.list [.str n.name,q0q n.needs,q0q n.bars,q0q n.makes,q0q n.ends,.int n.price],.tuple [.str n.name,q0q n.needs,q0q n.bars,q0q n.makes,q0q n.ends,.int 10]]
theorem x31 {fs:List Str}{n:ErZ} (hw:q0K [.str n.name]=.ok (.bool true)):∀ d∈x5H n,q0H [q0q fs,d]=.ok (.bool false):=by
 intro d hd
 unfold x5H at hd
 simp only [List.mem_cons,List.not_mem_nil,or_false] at hd
 have k:=q3i
 rcases hd with h | h | h | h<;>rw [h]
 ·exact x1s rfl rfl
 ·refine x30 ?_ (by simp)
  have:noD (.tuple [.str n.name,q0q n.needs,q0q n.bars,q0q n.makes,q0q n.ends])=(true && (noD (q0q n.needs) && (noD (q0q n.bars) && (noD (q0q n.makes) && (noD (q0q n.ends) && true))))):=rfl
  rw [this,k,k,k,k];rfl
 ·refine x1s ?_ rfl
  have:noD (.list [.str n.name,q0q n.needs,q0q n.bars,q0q n.makes,q0q n.ends,.int n.price])=(true && (noD (q0q n.needs) && (noD (q0q n.bars) && (noD (q0q n.makes) && (noD (q0q n.ends) && (true && true)))))):=rfl
  rw [this,k,k,k,k];rfl
 ·exact w8P hw
theorem w8Q {n e:ErZ}:q0m (.list [q16 e,q16 n]) (.int (if decide (e.name=n.name) then 1 else 0))=.ok (q16 (w0F n e)):=by
 unfold w0F
 by_cases h:e.name=n.name
 ·rw [decide_eq_true h,if_pos h];rfl
 ·rw [decide_eq_false h,if_neg h];rfl
theorem x5q:(PyData.str "zzzzz").canLay0=true:=by decide +kernel
theorem law_true (ns:List Int):w8n [.list (ns.map .int)]=.ok (.bool true):=by
 obtain ⟨fs,es,ss,wm,wb,hc,gb,gs,gw⟩:=x2R ns 6 6 (by decide) (by decide) (by decide) (by decide)
 obtain ⟨ff,hf,gf⟩:=w8F ns 300 (by decide) fs gb.rise.len 7
 have gf:=w5C gb.rise.up gf
 obtain ⟨bs,s1,s2⟩:=w8N ns 0 (by decide) fs gb.rise
 have l2:=gb.len
 have hM:=q1r ns 2 ((es.length:Int) + 3) (by decide) (by omega)
 have hK:=q1r ns 3 4 (by decide) (by decide)
 obtain ⟨d,hd,ed⟩:=w8M (L:=(es.map (·.name)).map PyData.str++[.str "zzzzz",.str "zzzzz",.str "zzzzz"]) (q1e ns 2 ((es.length:Int) + 3) (by omega)) (by
  have:=q1w ns 2 ((es.length:Int) + 3) (by omega)
  simp only [List.length_append,List.length_map,List.length_cons,List.length_nil]
  omega)
 obtain ⟨nm,rfl,hnm⟩:∃ nm,d=.str nm/\(nm∈es.map (·.name)\/nm="zzzzz"):=by
  rcases List.mem_append.mp hd with h | h
  ·obtain ⟨x,hx,rfl⟩:=List.mem_map.mp h
   exact ⟨x,rfl,.inl hx⟩
  ·simp only [List.mem_cons,List.not_mem_nil,or_false,or_self] at h
   exact ⟨_,h,.inr rfl⟩
 obtain ⟨n,he,gn,hn⟩:=w1V ns 320 (by decide) fs gb.rise.ok gb.rise.up (q35 gb.rise.up) gb.rise.len nm
 have hw:q0K [.str n.name]=.ok (.bool true):=by
  rw [hn]
  rcases hnm with h | h
  ·obtain ⟨e,h1,rfl⟩:=List.mem_map.mp h
   exact q1L (gb.ok e h1).name
  ·rw [h];exact q8n
 have hlay:(q16 n).canLay0=true:=w5B gb.rise.ok gn (by
  rw [hn]
  rcases hnm with h | h
  ·obtain ⟨e,h1,rfl⟩:=List.mem_map.mp h
   exact q53 (gb.ok e h1).name
  ·rw [h];exact x5q)
 have hlays:∀ e∈es,(q16 e).canLay0=true:=fun e h1=>w5B gb.rise.ok (gb.ok e h1).toGoodP (q53 (gb.ok e h1).name)
 obtain ⟨od,od1,od2⟩:=w8M (L:=x5H n) (q1e ns 3 4 (by decide)) (q1w ns 3 4 (by decide))
 have od3:=x31 (fs:=fs) hw od od1
 unfold x5H at od2
 have e3:((3:Nat):Int)=3:=rfl
 have e7:((7:Nat):Int)=7:=rfl
 unfold w8n
 refine q0P ?_
 unfold w9Q q0r
 walk_at "yy"
 rw [hc]
 walk_at "yy"
 rw [x7R]
 walk_at "yy"
 rw [w20]
 walk_at "yy"
 rw [hf]
 walk_at "yy"
 generalize PyData.list (ns.map PyData.int)=L at hM hK s1 he ⊢
 generalize q0q ss=S
 generalize x5G wm wb=W
 rw [w1N (ds:=es.map q16)]
 ·refine w3m q16 (fun (a:List ErZ) e=>a++[q9b ff e]) (fun q0V a ρ=>a.length + q0V.length<=6/\(∀ e∈q0V,e∈es)/\∃ z6 z7,ρ=[Sl.shr L,.shr (q2D fs es),.shr S,.shr W,.shr (q0q ff),.own (.list (a.map q16)),z6,z7,.no,.no,.no,.no,.no]) [] ?_ ⟨by simpa using l2,fun _ h=>h,_,_,rfl⟩ ?_
  ·rintro e q0V a ρ ⟨h1,h2,z6,z7,rfl⟩
   simp only [List.length_cons] at h1
   have sh:=w5F gb (h2 e List.mem_cons_self)
   refine ⟨[Sl.shr L,.shr (q2D fs es),.shr S,.shr W,.shr (q0q ff),.own (.list (a.map q16)),.shr (q16 e),z7,.no,.no,.no,.no,.no],[Sl.shr L,.shr (q2D fs es),.shr S,.shr W,.shr (q0q ff),.own (.list ((a++[q9b ff e]).map q16)),.shr (q16 e),.own (.list [q0q (q56 ff e.needs),q0q (q56 ff e.bars),q0q (q56 ff e.makes),q0q (q56 ff e.ends)]),.no,.no,.no,.no,.no],rfl,?_,by rw [List.length_append];simp only [List.length_cons,List.length_nil];omega,fun x hx=>h2 x (List.mem_cons_of_mem _ hx),_,_,rfl⟩
   walk_at "zz"
   rw [x5m]
   walk_at "zz"
   rw [q9Y sh]
   walk_at "zz"
   rw [List.map_append]
   refine x2P (ds:=a.map q16) (d:=q16 (q9b ff e)) rfl ?_ (by rw [List.length_map];omega)
   walk_at "zz"
   rw [w6W]
   walk_at "zz"
   rw [q0I]
   walk_at "zz"
   rw [x7V]
   walk_at "zz"
   rfl
  ·rintro ρ ⟨_,_,z6,z7,rfl⟩
   rw [w5G,List.nil_append]
   walk_at "zz"
   rw [q4h,x2X gb gf,w0D]
   walk_at "zz"
   rw [q0I]
   walk_at "zz"
   rw [show PyData.tuple [q0q ff,.tuple ((es.map (q9b ff)).map q16)]=q2D ff (es.map (q9b ff)) from rfl,x0a (fun x hx=>gb.rise.ok x (gf.mem x hx)) (fun e h1=>by
    obtain ⟨e,h2,rfl⟩:=List.mem_map.mp h1
    exact x0b gb.rise.ok (gb.ok e h2))]
   walk_at "zz"
   rw [w20]
   walk_at "zz"
   rw [s1]
   walk_at "zz"
   rw [q4h,x2Y gb s2,q55 wh7,e7]
   walk_at "zz"
   rw [x6y]
   walk_at "zz"
   rw [w6d]
   walk_at "zz"
   rw [if_pos (by omega)]
   rw [q0T _ q16 (fun e=>PyData.str e.name) es fun e he=>q1v rfl rfl]
   rw [show (es.map fun e=>PyData.str e.name)=(es.map (·.name)).map PyData.str by rw [List.map_map];rfl]
   walk_at "zz"
   rw [x5k]
   walk_at "zz"
   unfold x5E
   walk_at "zz"
   rw [show [[PyData.str "zzzzz"],[PyData.str "zzzzz"],[PyData.str "zzzzz"]].flatten=[.str "zzzzz",.str "zzzzz",.str "zzzzz"] from rfl]
   walk_at "zz"
   rw [if_pos (by omega)]
   walk_at "zz"
   rw [hM]
   walk_at "zz"
   rw [ed]
   walk_at "zz"
   rw [w20]
   walk_at "zz"
   rw [he]
   walk_at "zz"
   rw [w6d]
   walk_at "zz"
   rw [w5E]
   walk_at "zz"
   rw [if_pos (by omega)]
   walk_at "zz"
   rw [q8l,if_neg Bool.false_ne_true]
   walk_at "zz"
   rcases hnm with hi | hi
   ·obtain ⟨e0,h0,hn0⟩:=List.mem_map.mp hi
    have hnn:e0.name=n.name:=hn0.trans hn.symm
    have hwn:okW n.name=true:=by rw [<- hnn];exact (gb.ok e0 h0).name
    rw [decide_eq_true hi]
    walk_at "zz"
    rw [w6d]
    walk_at "zz"
    rw [if_pos (by omega)]
    rw [q0T _ q16 (fun e=>q16 (w0F n e)) es fun e h1=>q1v rfl (by
     walk_at "zz"
     rw [w6W]
     walk_at "zz"
     rw [<- hn,q54 false (gb.ok e h1).name hwn,if_neg Bool.false_ne_true]
     walk_at "zz"
     rw [show x6n (.bool (decide (e.name=n.name)))=.ok (.int (if decide (e.name=n.name) then 1 else 0)) from rfl]
     walk_at "zz"
     exact w8Q)]
    walk_at "zz"
    rw [w20]
    walk_at "zz"
    rw [q0I]
    walk_at "zz"
    rw [decide_eq_false (by omega)]
    walk_at "zz"
    rw [q4h,x2Z gb gn hwn h0 hnn,w0D]
    walk_at "zz"
    rw [show PyData.tuple [q0q fs,.tuple (es.map fun e=>q16 (w0F n e))]=q2D fs (es.map (w0F n)) by unfold q2D;rw [List.map_map];rfl,x0a gb.rise.ok (fun e h1=>by
     obtain ⟨e,h2,rfl⟩:=List.mem_map.mp h1
     unfold w0F
     split
     ·exact hlay
     ·exact hlays e h2)]
    walk_at "zz"
    rw [w6e]
    walk_at "zz"
    rw [q8p]
    walk_at "zz"
    rw [w6e]
    walk_at "zz"
    rw [hK]
    walk_at "zz"
    rw [od2]
    walk_at "zz"
    rw [q4h,w3u gb od3,q55 wh3,e3]
    walk_at "zz"
    rw [x0e]
    walk_at "zz"
    rw [q8l,if_neg Bool.false_ne_true,decide_eq_true hi]
    walk_at "zz"
    rw [w20]
    walk_at "zz"
    rw [w6d]
    walk_at "zz"
    rw [if_pos (by omega)]
    rw [q2L _ q16 (fun e=>q16 e) (fun e=>!decide (e.name=e0.name)) es fun e h1=>w0v (by
     walk_at "zz"
     rw [w6W]
     walk_at "zz"
     rw [<- hn0,q54 true (gb.ok e h1).name (gb.ok e0 h0).name]
     rfl) fun _=>rfl]
    walk_at "zz"
    rw [q0I]
    walk_at "zz"
    rw [q4h,<- hn0,x6x gb h0,w0D]
    walk_at "zz"
    rw [show PyData.tuple [q0q fs,.tuple ((es.filter fun e=>!decide (e.name=e0.name)).map fun e=>q16 e)]=q2D fs (es.filter fun e=>!decide (e.name=e0.name)) from rfl,x0a gb.rise.ok (fun e h1=>hlays e (List.mem_filter.mp h1).1)]
    walk_at "zz"
   ·have hni:nm∉es.map (·.name):=fun h=>by
     obtain ⟨e,h1,h2⟩:=List.mem_map.mp h
     have:=w8J (gb.ok e h1).name
     rw [hi] at h2
     exact this h2
    have hnz:n.name="zzzzz":=hn.trans hi
    rw [decide_eq_false hni]
    walk_at "zz"
    rw [w20]
    walk_at "zz"
    rw [q0I]
    walk_at "zz"
    by_cases h6:es.length=6
    ·rw [decide_eq_true (by rw [List.length_append,List.length_map];simp only [List.length_cons,List.length_nil];omega)]
     walk_at "zz"
     rw [q4h,x0d gb gn hnz h6,q55 wh3,e3]
     walk_at "zz"
     rw [x0e]
     walk_at "zz"
     rw [w6e]
     walk_at "zz"
     rw [q8p]
     walk_at "zz"
     rw [w6e]
     walk_at "zz"
     rw [hK]
     walk_at "zz"
     rw [od2]
     walk_at "zz"
     rw [q4h,w3u gb od3,q55 wh3,e3]
     walk_at "zz"
     rw [x0e]
     walk_at "zz"
     rw [q8l,if_neg Bool.false_ne_true,decide_eq_false hni]
     walk_at "zz"
     rw [q4h,hi,x5o gb,q55 wh3,e3]
     walk_at "zz"
     rw [x5p]
     walk_at "zz"
    ·rw [decide_eq_false (by rw [List.length_append,List.length_map];simp only [List.length_cons,List.length_nil];omega)]
     walk_at "zz"
     rw [q4h,x0c gb gn hnz (by omega),w0D]
     walk_at "zz"
     rw [show PyData.tuple [q0q fs,.tuple (es.map q16++[q16 n])]=q2D fs (es++[n]) by unfold q2D;rw [List.map_append];rfl,x0a gb.rise.ok (fun e h1=>by
      rcases List.mem_append.mp h1 with h | h
      ·exact hlays e h
      ·rw [List.mem_singleton.mp h];exact hlay)]
     walk_at "zz"
     rw [w6e]
     walk_at "zz"
     rw [q8p]
     walk_at "zz"
     rw [w6e]
     walk_at "zz"
     rw [hK]
     walk_at "zz"
     rw [od2]
     walk_at "zz"
     rw [q4h,w3u gb od3,q55 wh3,e3]
     walk_at "zz"
     rw [x0e]
     walk_at "zz"
     rw [q8l,if_neg Bool.false_ne_true,decide_eq_false hni]
     walk_at "zz"
     rw [q4h,hi,x5o gb,q55 wh3,e3]
     walk_at "zz"
     rw [x5p]
     walk_at "zz"
 ·walk_at "yy"
  rw [w6d]
  walk_at "yy"
end Z
end
section
namespace Z
open PySem L2 J
def top (i:Nat):Stmt:=PySem.Challenge.pw_errands_k28_seen.main.body.getD i (.Pass ⟨0,0,0,0⟩)
section
variable {P:Program}{w:World}{K:PySem.W.Frag}{mg:Str->Option Value}{base:Heap}{cls:Str->Addr}
abbrev q2s:Stmt:=top 44
def whN:List Str:=["NoBook","NoState","NoWant","NoErrand","NoRow","NoWay","NoPaper","NoFacts","NoNumber","Nothing","NoText"]
theorem q7h:q0y ["_law_e","_law_own"] ["_law_e"] (q03 q2s):=⟨rfl,rfl,rfl,by decide +kernel,rfl,by decide +kernel,by decide +kernel⟩
theorem w0G {f:Addr}{fd:FuncData} (F:Fun K "_law_which" "_law_which" q2s f fd) (B:Bi mg) (mv:mg "ValueError"=none) (mc:∀ n∈whN,mg n=some (.ref (cls n))):w7H P w K mg base 1 f fd ["_law_e"] (x6i K base cls whN):=by
 refine F.okH q7h (fun vs H Q E h=>?_) (fun cdv A outer s H vs Q E hr h=>?_)
 ·obtain ⟨_,_,_,rfl,_⟩:=h;rfl
 obtain ⟨ea,C,j,rfl,hH,x,q⟩:=h
 refine ⟨_,q2R (w4S (i:=1) q7h.nd rfl (Or.inl rfl) (q44 (q0t (q4c (names:=whN) (cls:=cls) (base:=base) (pv 0) rfl B.isinstance rfl (mc "NoBook" (by decide +kernel))) (q0t (q4c (names:=whN) (cls:=cls) (base:=base) (pv 0) rfl B.isinstance rfl (mc "NoState" (by decide +kernel))) (q0t (q4c (names:=whN) (cls:=cls) (base:=base) (pv 0) rfl B.isinstance rfl (mc "NoWant" (by decide +kernel))) (q0t (q4c (names:=whN) (cls:=cls) (base:=base) (pv 0) rfl B.isinstance rfl (mc "NoErrand" (by decide +kernel))) q1o))))))
  (q2R (q6c (w31 PySem.F.plainAttrs_list PySem.F.slot_list_extend PySem.F.type_list_extend w1p (pv 1) (q0t (q44 (q0t (q4c (names:=whN) (cls:=cls) (base:=base) (pv 0) rfl B.isinstance rfl (mc "NoRow" (by decide +kernel))) (q0t (q4c (names:=whN) (cls:=cls) (base:=base) (pv 0) rfl B.isinstance rfl (mc "NoWay" (by decide +kernel))) (q0t (q4c (names:=whN) (cls:=cls) (base:=base) (pv 0) rfl B.isinstance rfl (mc "NoPaper" (by decide +kernel))) (q0t (q4c (names:=whN) (cls:=cls) (base:=base) (pv 0) rfl B.isinstance rfl (mc "NoFacts" (by decide +kernel))) q1o))))) q1o)))
  (q2R (q6c (w31 PySem.F.plainAttrs_list PySem.F.slot_list_extend PySem.F.type_list_extend w1p (pv 1) (q0t (q44 (q0t (q4c (names:=whN) (cls:=cls) (base:=base) (pv 0) rfl B.isinstance rfl (mc "NoNumber" (by decide +kernel))) (q0t (q4c (names:=whN) (cls:=cls) (base:=base) (pv 0) rfl B.isinstance rfl (mc "Nothing" (by decide +kernel))) (q0t (q4c (names:=whN) (cls:=cls) (base:=base) (pv 0) rfl B.isinstance rfl (mc "NoText" (by decide +kernel))) q1o)))) q1o)))
  (q2R (x3x (PW.pt (x3t (w7a x5U (w31 PySem.F.plainAttrs_list PySem.F.slot_list_count PySem.F.type_list_count w7I (pv 1) (q0t x1B q1o)) w4Q (w79 _)) (x0j (x0k (x0i (x2B (names:=whN) (cls:=cls) (base:=base) (pv 0) rfl B.isinstance rfl mv)))))) q42 w73)
  (q7W (w4R (x0o (q0t x0h (q0t (w31 PySem.F.plainAttrs_list PySem.F.slot_list_index PySem.F.type_list_index w7J (pv 1) (q0t x1B q1o)) q1o)))))))),?_⟩
 refine ⟨ea,C,j,0,rfl,hH,x,rfl,ea,C,j,1,rfl,hH,x,rfl,ea,C,j,2,rfl,hH,x,rfl,ea,C,j,3,rfl,hH,x,rfl,Nat.le_of_lt (q0u (show 4<=1000 by decide)),fun p hp=>?_⟩
 have np:ea≠p:=q0c hH hp
 have hH1:∀ o,upd H p o ea=some (w7E ea C):=fun o=>by rw [q0e np];exact hH
 refine ⟨_,rfl,.inl ⟨rfl,_,.of q0d⟩,?_⟩
 refine ⟨ea,C,j,4,rfl,hH1 _,x,rfl,ea,C,j,5,rfl,hH1 _,x,rfl,ea,C,j,6,rfl,hH1 _,x,rfl,ea,C,j,7,rfl,hH1 _,x,rfl,Nat.le_of_lt (q0u (show 4<=1000 by decide)),fun p2 hp2=>?_⟩
 have np2:p≠p2:=q0c q0d hp2
 have ne2:ea≠p2:=q0c (hH1 _) hp2
 refine ⟨p,p2,([decide (0=j),decide (1=j),decide (2=j),decide (3=j)].map V.bl),_,rfl,rfl,by rw [q0e np2];exact q0d,q0d,Nat.le_of_lt (q0u (show 8<=1000 by decide)),?_⟩
 have hH2:∀ o u,upd (upd (upd H p o) p2 u) p (.lst (([decide (0=j),decide (1=j),decide (2=j),decide (3=j)]++[decide (4=j),decide (5=j),decide (6=j),decide (7=j)]).map V.bl)) ea=some (w7E ea C):=fun o u=>by rw [q0e np,q0e ne2];exact hH1 _
 refine ⟨_,rfl,.inl ⟨rfl,_,.of q0d⟩,?_⟩
 refine ⟨ea,C,j,8,rfl,hH2 _ _,x,rfl,ea,C,j,9,rfl,hH2 _ _,x,rfl,ea,C,j,10,rfl,hH2 _ _,x,rfl,Nat.le_of_lt (q0u (show 3<=1000 by decide)),fun p3 hp3=>?_⟩
 have np3:p≠p3:=q0c q0d hp3
 have ne3:ea≠p3:=q0c (hH2 _ _) hp3
 refine ⟨p,p3,(([decide (0=j),decide (1=j),decide (2=j),decide (3=j)]++[decide (4=j),decide (5=j),decide (6=j),decide (7=j)]).map V.bl),_,rfl,rfl,by rw [q0e np3];exact q0d,q0d,Nat.le_of_lt (q0u (show 11<=1000 by decide)),?_⟩
 refine ⟨_,rfl,.inl ⟨rfl,_,.of q0d⟩,p,x0L j,rfl,rfl,.of q0d,?_⟩
 rw [w67 j x.lt]
 refine ⟨rfl,_,rfl,w90 ⟨ea,C,j,rfl,?_,x,_,rfl,w90 ?_⟩⟩
 ·rw [q0e np,q0e ne3];exact hH2 _ _
 obtain ⟨b1,b2⟩:=x2A j x.lt
 refine ⟨_,rfl,.inl ⟨rfl,_,.of q0d⟩,p,x0L j,j,rfl,rfl,.of q0d,b1,b2,Nat.le_of_lt (Nat.lt_of_lt_of_le x.lt (by decide)),Nat.le_of_lt (q0u (show 2<=1000 by decide)),fun t ht=>?_⟩
 have s1:q29 H _:=q2C (o:=.lst ([decide (0=j),decide (1=j),decide (2=j),decide (3=j)].map V.bl)) hp
 have hpn:∀ b o,H b=some o->b≠p:=fun b o e=>q0c e hp
 have hp2n:∀ b o,H b=some o->b≠p2:=fun b o e=>q0c (s1 b o e) hp2
 have hp3n:∀ b o,H b=some o->b≠p3:=fun b o e=>q0c (by rw [q0e (hpn b o e),q0e (hp2n b o e)];exact s1 b o e) hp3
 have old:∀ b o,H b=some o->b≠t:=fun b o e=>q0c (by rw [q0e (hpn b o e),q0e (hp3n b o e),q0e (hpn b o e),q0e (hp2n b o e)];exact s1 b o e) ht
 refine q t _ (fun b o e=>?_) ?_ q0d
 ·rw [q0e (old b o e),q0e (hpn b o e),q0e (hp3n b o e),q0e (hpn b o e),q0e (hp2n b o e)];exact s1 b o e
 ·cases z:H t with
  | none=>rfl
  | some o=>exact (old t o z rfl).elim
abbrev q25:Stmt:=top 45
theorem q8q:q0y ["_law_ask","_law_one","_law_other","_law_e"] ["_law_ask","_law_one","_law_other"] (q03 q25):=⟨rfl,rfl,rfl,by decide +kernel,rfl,by decide +kernel,by decide +kernel⟩
theorem q57 {f:Addr}{fd:FuncData}{y:Str}{kf k:Nat}{Fy:List D->R D} (F:Fun K "_law_told" "_law_told" q25 f fd) (hm:mg "_law_told"=some (.ref f)) (hb:q1p K fd ["_law_ask","_law_one","_law_other"] []) (W:Wh P w K mg base cls "_law_which" whN whD) (G:Fn P w K mg base cls y kf 2 Fy) (hk:kf<=k) (h1:1<=k):FnT P w K mg base cls "_law_told" y (k + 1) 2 (q7t whD Fy):=by
 obtain ⟨a,fda,psa,hf,hma,hka,hba⟩:=G.ex
 refine x2E (k:=k) (g:=x3l whD (q2l (gFn 2 Fy (q01 (fun ρ=>rdS ρ 1) (q01 (fun ρ=>rdS ρ 2) q0k))))) F q8q hm hb hma rfl (fun cdv A outer s H E hr ρ=>?_) fun ds hl=>?_
 ·exact q7W (x4X (c:=⟨q2B (CXR P w) P w K mg base ["_law_ask","_law_one","_law_other","_law_e"] "_law_told" (q03 q25) f cdv A outer s H E,cls,E⟩) 3 0 W (fun E1 xe1 pn1 hp=>q7W (x4W (c:=⟨cxT (q2B (CXR P w) P w K mg base ["_law_ask","_law_one","_law_other","_law_e"] "_law_told" (q03 q25) f cdv A outer s H E) xe1 pn1,cls,E1⟩) hf hka hba (hr.mono hk) hp (q00 (q04 1) (q00 (q04 2) q07)) (ρ:=ρ))) (hr.h.mono1 h1) rfl rfl q8q.nd)
 ·match ds,hl with
  | [_,_],_=>exact w9O rfl rfl
abbrev q1i:Stmt:=top 18
theorem w0H:q0y ["one","other"] ["one","other"] (q03 q1i):=⟨rfl,rfl,rfl,by decide +kernel,rfl,by decide +kernel,by decide +kernel⟩
theorem w0I {f:Addr}{fd:FuncData} (F:Fun K "share_none" "share_none" q1i f fd) (hm:mg "share_none"=some (.ref f)) (hb:q1p K fd ["one","other"] []) (B:Bi mg):Fn P w K mg base cls "share_none" 1 2 q21:=by
 refine q2T (k:=0) (g:=q3e) F w0H hm hb fun cdv A outer s H E hr=>?_
 have hx:q0R (CXR P w) (q2B (CXR P w) P w K mg base ["one","other"] "share_none" (q03 q1i) f cdv A outer s H E) E:=q0h fun _ _ h=>h
 have hu1:=q2N hr
 have hu64:=hr.units
 unfold q3e
 exact (q0b (q0B (x4b (q0F (x4g rfl) rfl B.any PyProof.Rows.boot_any (q0i (JE.bor (JN.je (q1T (N':=["fact","other"]) (ix:=[1]) 1 (by decide) rfl (q0v (so:=q03 q1i) (N:=["one","other"]) (by decide +kernel)) (q1K (q02 0)) (fun cl A0 s0 H0 ex pn=>⟨q0Q (i:=0) (by show (["fact","other"] : List Str).Nodup;decide +kernel) rfl (.inl rfl),q1z,(q9K (w60) (q02 0) (q02 1))⟩)))) q0s)))))
abbrev q2M:Stmt:=top 19
theorem w6f:q0y ["thing"] ["thing"] (q03 q2M):=⟨rfl,rfl,rfl,by decide +kernel,rfl,by decide +kernel,by decide +kernel⟩
theorem w6g {f:Addr}{fd:FuncData} (F:Fun K "is_word" "is_word" q2M f fd) (hm:mg "is_word"=some (.ref f)) (hb:q1p K fd ["thing"] []) (B:Bi mg) (q3j:∃ t,mg "MOST_LETTERS"=some (.int 6 t)):Fn P w K mg base cls "is_word" 1 1 q0K:=by
 refine q2T (k:=0) (g:=q4d) F w6f hm hb fun cdv A outer s H E hr=>?_
 have hx:q0R (CXR P w) (q2B (CXR P w) P w K mg base ["thing"] "is_word" (q03 q2M) f cdv A outer s H E) E:=q0h fun _ _ h=>h
 have hu1:=q2N hr
 have hu64:=hr.units
 unfold q4d
 exact (q06 (q1J (JW.t (w1D (q2H (q2G (q7d (q02 0) rfl B.isinstance rfl B.str PyProof.Rows.boot_str (by decide)))) (q7a (q2H (w9I (w5Z) (w5Z) (JE.bor q05) (JE.bor (q0F q2I rfl B.len PySem.boot_len (q0i (q02 0) q0s))) (JE.bor (q5K rfl q3j))))))) (q0b (q0B q50)) q0C) (q0b (q0B (q0F (q9N rfl) rfl B.all PyProof.Rows.boot_all (q0i (JE.bor (JN.je (q1T (N':=["sign"]) (ix:=[]) 1 (by decide) rfl (q0v (so:=q03 q2M) (N:=["thing"]) (by decide +kernel)) (q1K (q02 0)) (fun cl A0 s0 H0 ex pn=>⟨q0Q (i:=0) (by show (["sign"] : List Str).Nodup;decide +kernel) rfl (.inl rfl),q1z,(w5e (w5Z) (w5Z) (JE.bor q2k) (q02 0) (JE.bor q2k))⟩)))) q0s)))))
abbrev q0w:Stmt:=top 20
theorem q58:q0y ["thing"] ["thing"] (q03 q0w):=⟨rfl,rfl,rfl,by decide +kernel,rfl,by decide +kernel,by decide +kernel⟩
theorem q59 {f:Addr}{fd:FuncData} (F:Fun K "are_rising_words" "are_rising_words" q0w f fd) (hm:mg "are_rising_words"=some (.ref f)) (hb:q1p K fd ["thing"] []) (B:Bi mg) (q3w:Fn P w K mg base cls "is_word" 1 1 q0K):Fn P w K mg base cls "are_rising_words" 2 1 q0l:=by
 refine q2T (k:=1) (g:=q0L) F q58 hm hb fun cdv A outer s H E hr=>?_
 have hx:q0R (CXR P w) (q2B (CXR P w) P w K mg base ["thing"] "are_rising_words" (q03 q0w) f cdv A outer s H E) E:=q0h fun _ _ h=>h
 have hu1:=q2N hr
 have hu64:=hr.units
 unfold q0L
 exact (q06 (q1J (JW.t (w1D (q2H (q2G (q7d (q02 0) rfl B.isinstance rfl B.tuple PyProof.Rows.boot_tuple (by decide)))) (q7a (q2H (q2G (q0F (q9N rfl) rfl B.all PyProof.Rows.boot_all (q0i (JE.bor (JN.je (q1T (N':=["word"]) (ix:=[]) 1 (by decide) rfl (q0v (so:=q03 q0w) (N:=["thing"]) (by decide +kernel)) (q1K (q02 0)) (fun cl A0 s0 H0 ex pn=>⟨q0Q (i:=0) (by show (["word"] : List Str).Nodup;decide +kernel) rfl (.inl rfl),q1z,(q0g q3w (hr.mono (by decide)) rfl q2K (q00 (q04 0) q07))⟩)))) q0s))))))) (q0b (q0B q50)) q0C) (q0b (q0B (q0F (q9N rfl) rfl B.all PyProof.Rows.boot_all (q0i (JE.bor (JN.je (q1T (N':=["low","high"]) (ix:=[]) 2 (by decide) rfl (q0v (so:=q03 q0w) (N:=["thing"]) (by decide +kernel)) (JIs.i (x2w rfl B.zip (q00 (q04 0) (q00 (q2c (q02 0) (q2o q05) q3H) q07)))) (fun cl A0 s0 H0 ex pn=>⟨w74 rfl (q5D (q0Q (i:=0) (by show (["low","high"] : List Str).Nodup;decide +kernel) rfl (.inl rfl)) (q5D (q0Q (i:=1) (by show (["low","high"] : List Str).Nodup;decide +kernel) rfl (.inl rfl)) w2Z)),q1z,(q9K (w5Y) (q02 0) (q02 1))⟩)))) q0s)))))
abbrev q1C:Stmt:=top 21
theorem w23:q0y ["book_facts","thing"] ["book_facts","thing"] (q03 q1C):=⟨rfl,rfl,rfl,by decide +kernel,rfl,by decide +kernel,by decide +kernel⟩
theorem w24 {f:Addr}{fd:FuncData} (F:Fun K "are_facts" "are_facts" q1C f fd) (hm:mg "are_facts"=some (.ref f)) (hb:q1p K fd ["book_facts","thing"] []) (B:Bi mg) (q0W:Fn P w K mg base cls "are_rising_words" 2 1 q0l):Fn P w K mg base cls "are_facts" 3 2 q0X:=by
 refine q2T (k:=2) (g:=q2q) F w23 hm hb fun cdv A outer s H E hr=>?_
 have hx:q0R (CXR P w) (q2B (CXR P w) P w K mg base ["book_facts","thing"] "are_facts" (q03 q1C) f cdv A outer s H E) E:=q0h fun _ _ h=>h
 have hu1:=q2N hr
 have hu64:=hr.units
 unfold q2q
 exact (q0b (q0B (x0A (q0g q0W (hr.mono (by decide)) rfl hx (q00 (q04 1) q07)) (x0z (q0F (q9N rfl) rfl B.all PyProof.Rows.boot_all (q0i (JE.bor (JN.je (q1T (N':=["fact","book_facts"]) (ix:=[0]) 1 (by decide) rfl (q0v (so:=q03 q1C) (N:=["book_facts","thing"]) (by decide +kernel)) (q1K (q02 1)) (fun cl A0 s0 H0 ex pn=>⟨q0Q (i:=0) (by show (["fact","book_facts"] : List Str).Nodup;decide +kernel) rfl (.inl rfl),q1z,(q9K (w60) (q02 0) (q02 1))⟩)))) q0s))))))
abbrev q2t:Stmt:=top 22
theorem w3v:q0y ["thing","least","most"] ["thing","least","most"] (q03 q2t):=⟨rfl,rfl,rfl,by decide +kernel,rfl,by decide +kernel,by decide +kernel⟩
theorem w3w {f:Addr}{fd:FuncData} (F:Fun K "is_whole" "is_whole" q2t f fd) (hm:mg "is_whole"=some (.ref f)) (hb:q1p K fd ["thing","least","most"] []) (B:Bi mg):Fn P w K mg base cls "is_whole" 1 3 q2X:=by
 refine q2T (k:=0) (g:=q4E) F w3v hm hb fun cdv A outer s H E hr=>?_
 have hx:q0R (CXR P w) (q2B (CXR P w) P w K mg base ["thing","least","most"] "is_whole" (q03 q2t) f cdv A outer s H E) E:=q0h fun _ _ h=>h
 have hu1:=q2N hr
 have hu64:=hr.units
 unfold q4E
 exact (q06 (q1J (JW.t (w1D (q2H (q2G (q7d (q02 0) rfl B.isinstance rfl B.int PyProof.Rows.boot_int (by decide)))) (q7a (q2G (q7d (q02 0) rfl B.isinstance rfl B.bool PyProof.Rows.boot_bool (by decide)))))) (q0b (q0B q50)) q0C) (q0b (q0B (w5e (w5Z) (w5Z) (q02 1) (q02 0) (q02 2)))))
abbrev q1D:Stmt:=top 23
theorem q1E:q0y ["book_facts","thing","name","needs","bars","makes","ends","price"] ["book_facts","thing"] (q03 q1D):=⟨rfl,rfl,rfl,by decide +kernel,rfl,by decide +kernel,by decide +kernel⟩
theorem w25 {f:Addr}{fd:FuncData} (F:Fun K "is_errand" "is_errand" q1D f fd) (hm:mg "is_errand"=some (.ref f)) (hb:q1p K fd ["book_facts","thing"] []) (B:Bi mg) (q3w:Fn P w K mg base cls "is_word" 1 1 q0K) (q6u:Fn P w K mg base cls "is_whole" 1 3 q2X) (q2u:Fn P w K mg base cls "are_facts" 3 2 q0X) (q3g:Fn P w K mg base cls "share_none" 1 2 q21) (q4i:∃ t,mg "MOST_PRICE"=some (.int 9 t)):Fn P w K mg base cls "is_errand" 4 2 q0H:=by
 refine q2T (k:=3) (g:=q1U) F q1E hm hb fun cdv A outer s H E hr=>?_
 have hx:q0R (CXR P w) (q2B (CXR P w) P w K mg base ["book_facts","thing","name","needs","bars","makes","ends","price"] "is_errand" (q03 q1D) f cdv A outer s H E) E:=q0h fun _ _ h=>h
 have hu1:=q2N hr
 have hu64:=hr.units
 unfold q1U
 exact (q06 (q1J (JW.t (w1D (q2H (q2G (q7d (q02 1) rfl B.isinstance rfl B.tuple PyProof.Rows.boot_tuple (by decide)))) (q7a (q0U (q8a hu64) (JE.bor (q0F q2I rfl B.len PySem.boot_len (q0i (q02 1) q0s))) (JE.bor q05))))) (q0b (q0B q50)) q0C) (q06 (w81 (q04 1) (w1F rfl (q1k (q1d 2 q1E.nd) (q1k (q1d 3 q1E.nd) (q1k (q1d 4 q1E.nd) (q1k (q1d 5 q1E.nd) (q1k (q1d 6 q1E.nd) (q1k (q1d 7 q1E.nd) q8c)))))))) (q06 (q1J (JW.t (w1D (q2H (q2G (q0g q3w (hr.mono (by decide)) rfl hx (q00 (q04 2) q07)))) (q7a (q2H (q2G (q0g q6u (hr.mono (by decide)) rfl hx (q00 (q04 7) (q00 q05 (q00 (q5K rfl q4i) q07))))))))) (q0b (q0B q50)) q0C) (q06 (q1J (q2H (q2G (q0F (q9N rfl) rfl B.all PyProof.Rows.boot_all (q0i (JE.bor (JN.je (q1T (N':=["facts","book_facts"]) (ix:=[0]) 1 (by decide) rfl (q0v (so:=q03 q1D) (N:=["book_facts","thing","name","needs","bars","makes","ends","price"]) (by decide +kernel)) (q1K (JE.bor (q0Z (q00 (q04 3) (q00 (q04 4) (q00 (q04 5) (q00 (q04 6) q07))))))) (fun cl A0 s0 H0 ex pn=>⟨q0Q (i:=0) (by show (["facts","book_facts"] : List Str).Nodup;decide +kernel) rfl (.inl rfl),q1z,(q0g q2u (hr.mono (by decide)) rfl q2K (q00 (q04 1) (q00 (q04 0) q07)))⟩)))) q0s)))) (q0b (q0B q50)) q0C) (q0b (q0B (x0A (q0g q3g (hr.mono (by decide)) rfl hx (q00 (q04 3) (q00 (q04 4) q07))) (x0z (q0g q3g (hr.mono (by decide)) rfl hx (q00 (q04 5) (q00 (q04 6) q07)))))))))))
abbrev q2h:Stmt:=top 24
theorem q6v:q0y ["thing","facts","errands"] ["thing"] (q03 q2h):=⟨rfl,rfl,rfl,by decide +kernel,rfl,by decide +kernel,by decide +kernel⟩
theorem w6h {f:Addr}{fd:FuncData} (F:Fun K "is_book" "is_book" q2h f fd) (hm:mg "is_book"=some (.ref f)) (hb:q1p K fd ["thing"] []) (B:Bi mg) (q0W:Fn P w K mg base cls "are_rising_words" 2 1 q0l) (q2v:Fn P w K mg base cls "is_errand" 4 2 q0H) (q4j:∃ t,mg "MOST_FACTS"=some (.int 6 t)) (q1s:∃ t,mg "MOST_ERRANDS"=some (.int 6 t)):Fn P w K mg base cls "is_book" 5 1 q4e:=by
 refine q2T (k:=4) (g:=q5P) F q6v hm hb fun cdv A outer s H E hr=>?_
 have hx:q0R (CXR P w) (q2B (CXR P w) P w K mg base ["thing","facts","errands"] "is_book" (q03 q2h) f cdv A outer s H E) E:=q0h fun _ _ h=>h
 have hu1:=q2N hr
 have hu64:=hr.units
 unfold q5P
 exact (q06 (q1J (JW.t (w1D (q2H (q2G (q7d (q02 0) rfl B.isinstance rfl B.tuple PyProof.Rows.boot_tuple (by decide)))) (q7a (q0U (q8a hu64) (JE.bor (q0F q2I rfl B.len PySem.boot_len (q0i (q02 0) q0s))) (JE.bor q05))))) (q0b (q0B q50)) q0C) (q06 (w81 (q04 0) (w1F rfl (q1k (q1d 1 q6v.nd) (q1k (q1d 2 q6v.nd) q8c)))) (q06 (q1J (JW.t (w1D (q2H (q2G (q0g q0W (hr.mono (by decide)) rfl hx (q00 (q04 1) q07)))) (q7a (q0U (w9C) (JE.bor (q0F q2I rfl B.len PySem.boot_len (q0i (q02 1) q0s))) (JE.bor (q5K rfl q4j)))))) (q0b (q0B q50)) q0C) (q06 (q1J (JW.t (w1D (q2H (q2G (q7d (q02 2) rfl B.isinstance rfl B.tuple PyProof.Rows.boot_tuple (by decide)))) (q7a (q0U (w9C) (JE.bor (q0F q2I rfl B.len PySem.boot_len (q0i (q02 2) q0s))) (JE.bor (q5K rfl q1s)))))) (q0b (q0B q50)) q0C) (q06 (q1J (q2H (q2G (q0F (q9N rfl) rfl B.all PyProof.Rows.boot_all (q0i (JE.bor (JN.je (q1T (N':=["errand","facts"]) (ix:=[1]) 1 (by decide) rfl (q0v (so:=q03 q2h) (N:=["thing","facts","errands"]) (by decide +kernel)) (q1K (q02 2)) (fun cl A0 s0 H0 ex pn=>⟨q0Q (i:=0) (by show (["errand","facts"] : List Str).Nodup;decide +kernel) rfl (.inl rfl),q1z,(q0g q2v (hr.mono (by decide)) rfl q2K (q00 (q04 1) (q00 (q04 0) q07)))⟩)))) q0s)))) (q0b (q0B q50)) q0C) (q0b (q0B (q9K (q89 hu64) (JE.bor (w89 (w9J (N':=["errand"]) (ix:=[]) 1 (by decide) rfl (q0v (so:=q03 q2h) (N:=["thing","facts","errands"]) (by decide +kernel)) (q1K (q02 2)) (fun cl A0 s0 H0 ex pn=>⟨q0Q (i:=0) (by show (["errand"] : List Str).Nodup;decide +kernel) rfl (.inl rfl),q1z,(q0p hu1 (q02 0) (JE.bor q05))⟩)) rfl B.len)) (JE.bor (q0F q2I rfl B.len PySem.boot_len (q0i (q02 2) q0s)))))))))))
abbrev q10:Stmt:=top 25
theorem q3W:q0y ["book","name","errand"] ["book","name"] (q03 q10):=⟨rfl,rfl,rfl,by decide +kernel,rfl,by decide +kernel,by decide +kernel⟩
theorem q7v {f:Addr}{fd:FuncData} (F:Fun K "errand_called" "errand_called" q10 f fd) (hm:mg "errand_called"=some (.ref f)) (hb:q1p K fd ["book","name"] []) (B:Bi mg):Fn P w K mg base cls "errand_called" 1 2 q0M:=by
 refine q2T (k:=0) (g:=q1A) F q3W hm hb fun cdv A outer s H E hr=>?_
 have hx:q0R (CXR P w) (q2B (CXR P w) P w K mg base ["book","name","errand"] "errand_called" (q03 q10) f cdv A outer s H E) E:=q0h fun _ _ h=>h
 have hu1:=q2N hr
 have hu64:=hr.units
 unfold q1A
 exact (q06 (q1J (q2H (q2G (q7d (q02 1) rfl B.isinstance rfl B.str PyProof.Rows.boot_str (by decide)))) (q0b (q0B q88)) q0C) (q06 (q8f rfl (w83 (q0p hu1 (q02 0) (JE.bor q05))) (q1d 2 q3W.nd) (q0b (q1J (q0U (q89 hu64) (JE.bor (q0p hu1 (q02 2) (JE.bor q05))) (q02 1)) (q0b (q0B (q04 2))) q0C))) (q0b (q0B q88))))
abbrev q36:Stmt:=top 26
theorem w6i:q0y ["book"] ["book"] (q03 q36):=⟨rfl,rfl,rfl,by decide +kernel,rfl,by decide +kernel,by decide +kernel⟩
theorem w6j {f:Addr}{fd:FuncData} (F:Fun K "checked" "checked" q36 f fd) (hm:mg "checked"=some (.ref f)) (hb:q1p K fd ["book"] []) (B:Bi mg) (q8r:Fn P w K mg base cls "is_book" 5 1 q4e) (w0J:Er mg base cls "NoBook"):Fn P w K mg base cls "checked" 6 1 q2d:=by
 refine q2T (k:=5) (g:=q5Q) F w6i hm hb fun cdv A outer s H E hr=>?_
 have hx:q0R (CXR P w) (q2B (CXR P w) P w K mg base ["book"] "checked" (q03 q36) f cdv A outer s H E) E:=q0h fun _ _ h=>h
 have hu1:=q2N hr
 have hu64:=hr.units
 unfold q5Q
 exact (q06 (q1J (q2H (q2G (q0g q8r (hr.mono (by decide)) rfl hx (q00 (q04 0) q07)))) (q0b (q5N w0J rfl (q00 q2k q07))) q0C) (q0b (q0B (q04 0))))
abbrev q14:Stmt:=top 28
theorem q4T:q0y ["errand","facts","parts"] ["errand","facts"] (q03 q14):=⟨rfl,rfl,rfl,by decide +kernel,rfl,by decide +kernel,by decide +kernel⟩
theorem q9c {f:Addr}{fd:FuncData} (F:Fun K "seen_errand" "seen_errand" q14 f fd) (hm:mg "seen_errand"=some (.ref f)) (hb:q1p K fd ["errand","facts"] []) (B:Bi mg):Fn P w K mg base cls "seen_errand" 1 2 q2e:=by
 refine q2T (k:=0) (g:=q2U) F q4T hm hb fun cdv A outer s H E hr=>?_
 have hx:q0R (CXR P w) (q2B (CXR P w) P w K mg base ["errand","facts","parts"] "seen_errand" (q03 q14) f cdv A outer s H E) E:=q0h fun _ _ h=>h
 have hu1:=q2N hr
 have hu64:=hr.units
 unfold q2U
 exact (q06 (q20 2 (N':=["part","facts"]) (ix:=[1]) 1 (by decide) q4T.nd rfl (q0v (so:=q03 q14) (N:=["errand","facts","parts"]) (by decide +kernel)) (q1K (JE.bor (q2c (q02 0) (q2o q05) (q2o q05)))) (fun cl A0 s0 H0 ex pn=>⟨q0Q (i:=0) (by show (["part","facts"] : List Str).Nodup;decide +kernel) rfl (.inl rfl),q1z,(q0z (q12 rfl) rfl B.tuple PyProof.Rows.boot_tuple (q0i (JE.bor (JN.je (q1T (N':=["fact","facts"]) (ix:=[1]) 1 (by decide) rfl (q0v (N:=["part","facts"]) (by kernel_rfl) rfl) (q1K (q02 0)) (fun cl A0 s0 H0 ex pn=>⟨q0Q (i:=0) (by show (["fact","facts"] : List Str).Nodup;decide +kernel) rfl (.inl rfl),(q52 (q0U (w60) (q02 0) (q02 1))),(q04 0)⟩)))) q0s))⟩)) (q0b (q0B (q0o q0A (JE.bor (q0o q0A (JE.bor (q0Z (q00 (q0p hu1 (q02 0) (JE.bor q05)) q07))) (JE.bor (q0z (q12 rfl) rfl B.tuple PyProof.Rows.boot_tuple (q0i (q02 2) q0s))))) (JE.bor (q0Z (q00 (q0p hu1 (q02 0) (JE.bor q05)) q07)))))))
abbrev q7i:Stmt:=top 29
theorem x32:q0y ["book","facts"] ["book","facts"] (q03 q7i):=⟨rfl,rfl,rfl,by decide +kernel,rfl,by decide +kernel,by decide +kernel⟩
theorem x33 {f:Addr}{fd:FuncData} (F:Fun K "seen" "seen" q7i f fd) (hm:mg "seen"=some (.ref f)) (hb:q1p K fd ["book","facts"] []) (B:Bi mg) (q2i:Fn P w K mg base cls "checked" 6 1 q2d) (q2u:Fn P w K mg base cls "are_facts" 3 2 q0X) (q3O:Fn P w K mg base cls "seen_errand" 1 2 q2e) (q8s:Er mg base cls "NoFacts"):Fn P w K mg base cls "seen" 7 2 q7f:=by
 refine q2T (k:=6) (g:=w1S) F x32 hm hb fun cdv A outer s H E hr=>?_
 have hx:q0R (CXR P w) (q2B (CXR P w) P w K mg base ["book","facts"] "seen" (q03 q7i) f cdv A outer s H E) E:=q0h fun _ _ h=>h
 have hu1:=q2N hr
 have hu64:=hr.units
 unfold w1S
 exact (q06 (w3g (q0g q2i (hr.mono (by decide)) rfl hx (q00 (q04 0) q07))) (q06 (q1J (q2H (q2G (q0g q2u (hr.mono (by decide)) rfl hx (q00 (q0p hu1 (q02 0) (JE.bor q05)) (q00 (q04 1) q07))))) (q0b (q5N q8s rfl (q00 q2k q07))) q0C) (q0b (q0B (q0Z (q00 (q04 1) (q00 (q0z (q12 rfl) rfl B.tuple PyProof.Rows.boot_tuple (q0i (JE.bor (JN.je (q1T (N':=["errand","facts"]) (ix:=[1]) 1 (by decide) rfl (q0v (so:=q03 q7i) (N:=["book","facts"]) (by decide +kernel)) (q1K (JE.bor (q0p hu1 (q02 0) (JE.bor q05)))) (fun cl A0 s0 H0 ex pn=>⟨q0Q (i:=0) (by show (["errand","facts"] : List Str).Nodup;decide +kernel) rfl (.inl rfl),q1z,(q0g q3O (hr.mono (by decide)) rfl q2K (q00 (q04 0) (q00 (q04 1) q07)))⟩)))) q0s)) q07)))))))
abbrev q15:Stmt:=top 30
theorem q4U:q0y ["book","errand","name"] ["book","errand"] (q03 q15):=⟨rfl,rfl,rfl,by decide +kernel,rfl,by decide +kernel,by decide +kernel⟩
theorem q9d {f:Addr}{fd:FuncData} (F:Fun K "with_errand" "with_errand" q15 f fd) (hm:mg "with_errand"=some (.ref f)) (hb:q1p K fd ["book","errand"] []) (B:Bi mg) (q2i:Fn P w K mg base cls "checked" 6 1 q2d) (q2v:Fn P w K mg base cls "is_errand" 4 2 q0H) (q1f:Fn P w K mg base cls "errand_called" 1 2 q0M) (q2w:Er mg base cls "NoErrand") (q1s:∃ t,mg "MOST_ERRANDS"=some (.int 6 t)):Fn P w K mg base cls "with_errand" 7 2 q0G:=by
 refine q2T (k:=6) (g:=q1l) F q4U hm hb fun cdv A outer s H E hr=>?_
 have hx:q0R (CXR P w) (q2B (CXR P w) P w K mg base ["book","errand","name"] "with_errand" (q03 q15) f cdv A outer s H E) E:=q0h fun _ _ h=>h
 have hu1:=q2N hr
 have hu64:=hr.units
 unfold q1l
 exact (q06 (w3g (q0g q2i (hr.mono (by decide)) rfl hx (q00 (q04 0) q07))) (q06 (q1J (q2H (q2G (q0g q2v (hr.mono (by decide)) rfl hx (q00 (q0p hu1 (q02 0) (JE.bor q05)) (q00 (q04 1) q07))))) (q0b (q5N q2w rfl (q00 q2k q07))) q0C) (q06 (q1h 2 (q0p hu1 (q02 1) (JE.bor q05)) q4U.nd) (q06 (q1J (q0U (w9D) (JE.bor (q0g q1f (hr.mono (by decide)) rfl hx (q00 (q04 0) (q00 (q04 2) q07)))) (JE.bor q88)) (q0b (q0B (q0Z (q00 (q0p hu1 (q02 0) (JE.bor q05)) (q00 (q0z (q12 rfl) rfl B.tuple PyProof.Rows.boot_tuple (q0i (JE.bor (JN.je (q1T (N':=["other","name","errand"]) (ix:=[2,1]) 1 (by decide) rfl (q0v (so:=q03 q15) (N:=["book","errand","name"]) (by decide +kernel)) (q1K (JE.bor (q0p hu1 (q02 0) (JE.bor q05)))) (fun cl A0 s0 H0 ex pn=>⟨q0Q (i:=0) (by show (["other","name","errand"] : List Str).Nodup;decide +kernel) rfl (.inl rfl),q1z,(x6c (q0U (q89 hu64) (JE.bor (q0p hu1 (q02 0) (JE.bor q05))) (q02 1)) (q04 2) (q04 0))⟩)))) q0s)) q07))))) q0C) (q06 (q1J (q0U (q89 hu64) (JE.bor (q0F q2I rfl B.len PySem.boot_len (q0i (JE.bor (q0p hu1 (q02 0) (JE.bor q05))) q0s))) (JE.bor (q5K rfl q1s))) (q0b (q5N q2w rfl (q00 q2k q07))) q0C) (q0b (q0B (q0Z (q00 (q0p hu1 (q02 0) (JE.bor q05)) (q00 (q0o q0A (JE.bor (q0p hu1 (q02 0) (JE.bor q05))) (JE.bor (q0Z (q00 (q04 1) q07)))) q07))))))))))
abbrev q0N:Stmt:=top 31
theorem q6w:q0y ["book","name"] ["book","name"] (q03 q0N):=⟨rfl,rfl,rfl,by decide +kernel,rfl,by decide +kernel,by decide +kernel⟩
theorem q6x {f:Addr}{fd:FuncData} (F:Fun K "without_errand" "without_errand" q0N f fd) (hm:mg "without_errand"=some (.ref f)) (hb:q1p K fd ["book","name"] []) (B:Bi mg) (q2i:Fn P w K mg base cls "checked" 6 1 q2d) (q1f:Fn P w K mg base cls "errand_called" 1 2 q0M) (q2w:Er mg base cls "NoErrand"):Fn P w K mg base cls "without_errand" 7 2 q0Y:=by
 refine q2T (k:=6) (g:=q1q) F q6w hm hb fun cdv A outer s H E hr=>?_
 have hx:q0R (CXR P w) (q2B (CXR P w) P w K mg base ["book","name"] "without_errand" (q03 q0N) f cdv A outer s H E) E:=q0h fun _ _ h=>h
 have hu1:=q2N hr
 have hu64:=hr.units
 unfold q1q
 exact (q06 (w3g (q0g q2i (hr.mono (by decide)) rfl hx (q00 (q04 0) q07))) (q06 (q1J (q0U (x6f) (JE.bor (q0g q1f (hr.mono (by decide)) rfl hx (q00 (q04 0) (q00 (q04 1) q07)))) (JE.bor q88)) (q0b (q5N q2w rfl (q00 q2k q07))) q0C) (q0b (q0B (q0Z (q00 (q0p hu1 (q02 0) (JE.bor q05)) (q00 (q0z (q12 rfl) rfl B.tuple PyProof.Rows.boot_tuple (q0i (JE.bor (JN.je (q1T (N':=["errand","name"]) (ix:=[1]) 1 (by decide) rfl (q0v (so:=q03 q0N) (N:=["book","name"]) (by decide +kernel)) (q1K (JE.bor (q0p hu1 (q02 0) (JE.bor q05)))) (fun cl A0 s0 H0 ex pn=>⟨q0Q (i:=0) (by show (["errand","name"] : List Str).Nodup;decide +kernel) rfl (.inl rfl),(q52 (q0U (q8a hu64) (JE.bor (q0p hu1 (q02 0) (JE.bor q05))) (q02 1))),(q04 0)⟩)))) q0s)) q07)))))))
abbrev q1m:Stmt:=top 33
theorem q9e:q0y ["_law_script","_law_k"] ["_law_script","_law_k"] (q03 q1m):=⟨rfl,rfl,rfl,by decide +kernel,rfl,by decide +kernel,by decide +kernel⟩
theorem q9f {f:Addr}{fd:FuncData} (F:Fun K "_law_cell_at" "_law_cell_at" q1m f fd) (hm:mg "_law_cell_at"=some (.ref f)) (hb:q1p K fd ["_law_script","_law_k"] []) (B:Bi mg):Fn P w K mg base cls "_law_cell_at" 1 2 q2f:=by
 refine q2T (k:=0) (g:=q2V) F q9e hm hb fun cdv A outer s H E hr=>?_
 have hx:q0R (CXR P w) (q2B (CXR P w) P w K mg base ["_law_script","_law_k"] "_law_cell_at" (q03 q1m) f cdv A outer s H E) E:=q0h fun _ _ h=>h
 have hu1:=q2N hr
 have hu64:=hr.units
 unfold q2V
 exact (q06 (q1J (q0U (w5Y) (q02 1) (JE.bor (q0F q2I rfl B.len PySem.boot_len (q0i (q02 0) q0s)))) (q0b (q0B (q0p hu1 (q02 0) (q02 1)))) q0C) (q06 (q1J (q0U (q89 hu64) (q02 0) (JE.bor (q3o q07))) (q0b (q0B q05)) q0C) (q0b (q0B (q0o q0A (JE.bor (q0o q7c (JE.bor (q0p hu1 (q02 0) (JE.bor (q0o w53 (q02 1) (JE.bor (q0F q2I rfl B.len PySem.boot_len (q0i (q02 0) q0s))))))) (JE.bor q05))) (q02 1))))))
abbrev q1V:Stmt:=top 34
theorem q7j:q0y ["_law_script","_law_k","_law_many","_law_drawn"] ["_law_script","_law_k","_law_many"] (q03 q1V):=⟨rfl,rfl,rfl,by decide +kernel,rfl,by decide +kernel,by decide +kernel⟩
theorem w26 {f:Addr}{fd:FuncData} (F:Fun K "_law_mixed" "_law_mixed" q1V f fd) (hm:mg "_law_mixed"=some (.ref f)) (hb:q1p K fd ["_law_script","_law_k","_law_many"] []) (B:Bi mg) (q3P:Fn P w K mg base cls "_law_cell_at" 1 2 q2f):Fn P w K mg base cls "_law_mixed" 2 3 q08:=by
 refine q2T (k:=1) (g:=q3J) F q7j hm hb fun cdv A outer s H E hr=>?_
 have hx:q0R (CXR P w) (q2B (CXR P w) P w K mg base ["_law_script","_law_k","_law_many","_law_drawn"] "_law_mixed" (q03 q1V) f cdv A outer s H E) E:=q0h fun _ _ h=>h
 have hu1:=q2N hr
 have hu64:=hr.units
 unfold q3J
 exact (q06 (q1h 3 (q0o w53 (JE.bor (q0o q7c (JE.bor (q0o q0A (JE.bor (q0o q0A (JE.bor (q0g q3P (hr.mono (by decide)) rfl hx (q00 (q04 0) (q00 (q04 1) q07)))) (JE.bor (q0o q7c (JE.bor q05) (q02 1))))) (JE.bor q05))) (JE.bor q05))) (JE.bor q05)) q7j.nd) (q0b (q0B (q0o w53 (JE.bor (q0o w53 (JE.bor (q0o q0A (JE.bor (q0o q0A (JE.bor (q0o q7c (q02 3) (q02 3))) (JE.bor (q0o q7c (JE.bor q05) (q02 3))))) (q02 1))) (JE.bor q05))) (q02 2)))))
abbrev q2x:Stmt:=top 35
theorem q3Q:q0y ["_law_script","_law_at","_law_made","_law_k"] ["_law_script","_law_at"] (q03 q2x):=⟨rfl,rfl,rfl,by decide +kernel,rfl,by decide +kernel,by decide +kernel⟩
theorem w3x {f:Addr}{fd:FuncData} (F:Fun K "_law_word" "_law_word" q2x f fd) (hm:mg "_law_word"=some (.ref f)) (hb:q1p K fd ["_law_script","_law_at"] []) (B:Bi mg) (q09:Fn P w K mg base cls "_law_mixed" 2 3 q08):Fn P w K mg base cls "_law_word" 3 2 q22:=by
 refine q2T (k:=2) (g:=q4F) F q3Q hm hb fun cdv A outer s H E hr=>?_
 have hx:q0R (CXR P w) (q2B (CXR P w) P w K mg base ["_law_script","_law_at","_law_made","_law_k"] "_law_word" (q03 q2x) f cdv A outer s H E) E:=q0h fun _ _ h=>h
 have hu1:=q2N hr
 have hu64:=hr.units
 unfold q4F
 exact (q06 (q1h 2 q2k q3Q.nd) (q06 (q8f rfl (q6m rfl B.range (q0i (JE.bor (q0p hu1 (JE.bor (q3o (q00 q05 (q00 q05 (q00 q05 (q00 q05 (q00 q05 (q00 q05 q07)))))))) (JE.bor (q0g q09 (hr.mono (by decide)) rfl q2K (q00 (q04 0) (q00 (q04 1) (q00 q05 q07))))))) q0s)) (q1d 3 q3Q.nd) (q0b (q1h 2 (q0o q0A (q02 2) (JE.bor (q0p hu1 (JE.bor q2k) (JE.bor (q0g q09 (hr.mono (by decide)) rfl q2K (q00 (q04 0) (q00 (q0o q0A (JE.bor (q0o q0A (q02 1) (JE.bor q05))) (q02 3)) (q00 q05 q07)))))))) q3Q.nd))) (q0b (q0B (q04 2)))))
abbrev q1W:Stmt:=top 36
theorem q4k:q0y ["_law_script","_law_at","_law_most","_law_found","_law_k"] ["_law_script","_law_at","_law_most"] (q03 q1W):=⟨rfl,rfl,rfl,by decide +kernel,rfl,by decide +kernel,by decide +kernel⟩
theorem w27 {f:Addr}{fd:FuncData} (F:Fun K "_law_facts" "_law_facts" q1W f fd) (hm:mg "_law_facts"=some (.ref f)) (hb:q1p K fd ["_law_script","_law_at","_law_most"] []) (B:Bi mg) (q30:Fn P w K mg base cls "_law_word" 3 2 q22) (q09:Fn P w K mg base cls "_law_mixed" 2 3 q08):Fn P w K mg base cls "_law_facts" 4 3 q34:=by
 refine q2T (k:=3) (g:=q3K) F q4k hm hb fun cdv A outer s H E hr=>?_
 have hx:q0R (CXR P w) (q2B (CXR P w) P w K mg base ["_law_script","_law_at","_law_most","_law_found","_law_k"] "_law_facts" (q03 q1W) f cdv A outer s H E) E:=q0h fun _ _ h=>h
 have hu1:=q2N hr
 have hu64:=hr.units
 unfold q3K
 exact (q06 (q6n 3 w84 q4k.nd) (q06 (q8f rfl (q6m rfl B.range (q0i (JE.bor (q0g q09 (hr.mono (by decide)) rfl q2K (q00 (q04 0) (q00 (q04 1) (q00 (q0o q0A (q02 2) (JE.bor q05)) q07))))) q0s)) (q1d 4 q4k.nd) (q0b (w88 3 q50 (q0g q30 (hr.mono (by decide)) rfl q2K (q00 (q04 0) (q00 (q0o q0A (JE.bor (q0o q0A (q02 1) (JE.bor q05))) (JE.bor (q0o q7c (JE.bor q05) (q02 4)))) q07))) hu1))) (q0b (q0B (q0z (q12 rfl) rfl B.tuple PyProof.Rows.boot_tuple (q0i (JE.bor (q0F w80 rfl B.sorted PyProof.Rows.boot_sorted (q0i (JE.bor (q0z (q5M rfl) rfl B.list PyProof.Rows.boot_list (q0i (q02 3) q0s))) q0s))) q0s))))))
abbrev q26:Stmt:=top 37
theorem w3y:q0y ["_law_script","_law_at","_law_facts_here","_law_part"] ["_law_script","_law_at","_law_facts_here","_law_part"] (q03 q26):=⟨rfl,rfl,rfl,by decide +kernel,rfl,by decide +kernel,by decide +kernel⟩
theorem w3z {f:Addr}{fd:FuncData} (F:Fun K "_law_some" "_law_some" q26 f fd) (hm:mg "_law_some"=some (.ref f)) (hb:q1p K fd ["_law_script","_law_at","_law_facts_here","_law_part"] []) (B:Bi mg) (q09:Fn P w K mg base cls "_law_mixed" 2 3 q08):Fn P w K mg base cls "_law_some" 3 4 q2r:=by
 refine q2T (k:=2) (g:=q4G) F w3y hm hb fun cdv A outer s H E hr=>?_
 have hx:q0R (CXR P w) (q2B (CXR P w) P w K mg base ["_law_script","_law_at","_law_facts_here","_law_part"] "_law_some" (q03 q26) f cdv A outer s H E) E:=q0h fun _ _ h=>h
 have hu1:=q2N hr
 have hu64:=hr.units
 unfold q4G
 exact (q0b (q0B (q0z (q12 rfl) rfl B.tuple PyProof.Rows.boot_tuple (q0i (JE.bor (JN.je (q1T (N':=["_law_k","_law_fact","_law_script","_law_at","_law_part"]) (ix:=[0,1,3]) 2 (by decide) rfl (q0v (so:=q03 q26) (N:=["_law_script","_law_at","_law_facts_here","_law_part"]) (by decide +kernel)) (JIs.i (w0s rfl B.enumerate (q00 (q04 2) q07))) (fun cl A0 s0 H0 ex pn=>⟨w74 rfl (q5D (q0Q (i:=0) (by show (["_law_k","_law_fact","_law_script","_law_at","_law_part"] : List Str).Nodup;decide +kernel) rfl (.inl rfl)) (q5D (q0Q (i:=1) (by show (["_law_k","_law_fact","_law_script","_law_at","_law_part"] : List Str).Nodup;decide +kernel) rfl (.inl rfl)) w2Z)),(q52 (q0U (w5Y) (JE.bor (q0g q09 (hr.mono (by decide)) rfl q2K (q00 (q04 2) (q00 (q0o q0A (q02 3) (q02 0)) (q00 q05 q07))))) (q02 4))),(q04 1)⟩)))) q0s))))
abbrev q1t:Stmt:=top 38
theorem q1F:q0y ["_law_script","_law_at","_law_facts_here","_law_name","_law_one","_law_two","_law_goal","_law_needs","_law_bars","_law_ends","_law_parts"] ["_law_script","_law_at","_law_facts_here","_law_name"] (q03 q1t):=⟨rfl,rfl,rfl,by decide +kernel,rfl,by decide +kernel,by decide +kernel⟩
theorem w3A {f:Addr}{fd:FuncData} (F:Fun K "_law_thin" "_law_thin" q1t f fd) (hm:mg "_law_thin"=some (.ref f)) (hb:q1p K fd ["_law_script","_law_at","_law_facts_here","_law_name"] []) (B:Bi mg) (q09:Fn P w K mg base cls "_law_mixed" 2 3 q08):Fn P w K mg base cls "_law_thin" 3 4 q3q:=by
 refine q2T (k:=2) (g:=q4H) F q1F hm hb fun cdv A outer s H E hr=>?_
 have hx:q0R (CXR P w) (q2B (CXR P w) P w K mg base ["_law_script","_law_at","_law_facts_here","_law_name","_law_one","_law_two","_law_goal","_law_needs","_law_bars","_law_ends","_law_parts"] "_law_thin" (q03 q1t) f cdv A outer s H E) E:=q0h fun _ _ h=>h
 have hu1:=q2N hr
 have hu64:=hr.units
 unfold q4H
 exact (q06 (q1h 4 (q0p hu1 (q02 2) (JE.bor (q0g q09 (hr.mono (by decide)) rfl hx (q00 (q04 0) (q00 (q0o q0A (q02 1) (JE.bor q05)) (q00 (q0F q2I rfl B.len PySem.boot_len (q0i (q02 2) q0s)) q07)))))) q1F.nd) (q06 (q1h 5 (q0p hu1 (q02 2) (JE.bor (q0g q09 (hr.mono (by decide)) rfl hx (q00 (q04 0) (q00 (q0o q0A (q02 1) (JE.bor q05)) (q00 (q0F q2I rfl B.len PySem.boot_len (q0i (q02 2) q0s)) q07)))))) q1F.nd) (q06 (q1h 6 (q0p hu1 (q02 2) (JE.bor (q0g q09 (hr.mono (by decide)) rfl hx (q00 (q04 0) (q00 (q0o q0A (q02 1) (JE.bor q05)) (q00 (q0F q2I rfl B.len PySem.boot_len (q0i (q02 2) q0s)) q07)))))) q1F.nd) (q06 (q1h 7 (q2c (JE.bor (q3o (q00 (q04 4) (q00 (q04 5) q07)))) q3H (q2o (q0o q0A (JE.bor q05) (JE.bor (q0o x2q (JE.bor (q0g q09 (hr.mono (by decide)) rfl hx (q00 (q04 0) (q00 (q0o q0A (q02 1) (JE.bor q05)) (q00 q05 q07))))) (JE.bor q05)))))) q1F.nd) (q06 (q20 8 (N':=["_law_fact","_law_needs","_law_script","_law_at"]) (ix:=[7,0,1]) 1 (by decide) q1F.nd rfl (q0v (so:=q03 q1t) (N:=["_law_script","_law_at","_law_facts_here","_law_name","_law_one","_law_two","_law_goal","_law_needs","_law_bars","_law_ends","_law_parts"]) (by decide +kernel)) (q1K (JE.bor (q3o (q00 (q04 6) q07)))) (fun cl A0 s0 H0 ex pn=>⟨q0Q (i:=0) (by show (["_law_fact","_law_needs","_law_script","_law_at"] : List Str).Nodup;decide +kernel) rfl (.inl rfl),(q52 (JW.t (w7N (q0U (w9E) (q02 0) (q02 1)) (w3e (q0U (q89 hu64) (JE.bor (q0g q09 (hr.mono (by decide)) rfl q2K (q00 (q04 2) (q00 (q0o q0A (q02 3) (JE.bor q05)) (q00 q05 q07))))) (JE.bor q05)))))),(q04 0)⟩)) (q06 (q20 9 (N':=["_law_fact","_law_goal","_law_script","_law_at"]) (ix:=[6,0,1]) 1 (by decide) q1F.nd rfl (q0v (so:=q03 q1t) (N:=["_law_script","_law_at","_law_facts_here","_law_name","_law_one","_law_two","_law_goal","_law_needs","_law_bars","_law_ends","_law_parts"]) (by decide +kernel)) (q1K (JE.bor (q3o (q00 (q04 4) q07)))) (fun cl A0 s0 H0 ex pn=>⟨q0Q (i:=0) (by show (["_law_fact","_law_goal","_law_script","_law_at"] : List Str).Nodup;decide +kernel) rfl (.inl rfl),(q52 (JW.t (w7N (q0U (q8a hu64) (q02 0) (q02 1)) (w3e (q0U (q89 hu64) (JE.bor (q0g q09 (hr.mono (by decide)) rfl q2K (q00 (q04 2) (q00 (q0o q0A (q02 3) (JE.bor q05)) (q00 q05 q07))))) (JE.bor q05)))))),(q04 0)⟩)) (q06 (x0M 8 (x0M 9 (q20 10 (N':=["_law_part"]) (ix:=[]) 1 (by decide) q1F.nd rfl (q0v (so:=q03 q1t) (N:=["_law_script","_law_at","_law_facts_here","_law_name","_law_one","_law_two","_law_goal","_law_needs","_law_bars","_law_ends","_law_parts"]) (by decide +kernel)) (q1K (JE.bor (q0Z (q00 (q04 7) (q00 (q04 8) (q00 (q3o (q00 (q04 6) q07)) (q00 (q04 9) q07))))))) (fun cl A0 s0 H0 ex pn=>⟨q0Q (i:=0) (by show (["_law_part"] : List Str).Nodup;decide +kernel) rfl (.inl rfl),q1z,(q0z (q12 rfl) rfl B.tuple PyProof.Rows.boot_tuple (q0i (JE.bor (w65 rfl (x4m rfl (q02 0) rfl B.set) rfl B.sorted)) q0s))⟩)))) (q0b (q0B (q0Z (q00 (q04 3) (q00 (q0p hu1 (q02 10) (JE.bor q05)) (q00 (q0p hu1 (q02 10) (JE.bor q05)) (q00 (q0p hu1 (q02 10) (JE.bor q05)) (q00 (q0p hu1 (q02 10) (JE.bor q05)) (q00 (q0g q09 (hr.mono (by decide)) rfl hx (q00 (q04 0) (q00 (q04 1) (q00 q05 q07)))) q07))))))))))))))))
abbrev q1j:Stmt:=top 39
theorem q1n:q0y ["_law_script","_law_at","_law_facts_here","_law_name","_law_parts","_law_k","_law_fact","_law_way","_law_some_here"] ["_law_script","_law_at","_law_facts_here","_law_name"] (q03 q1j):=⟨rfl,rfl,rfl,by decide +kernel,rfl,by decide +kernel,by decide +kernel⟩
theorem w0K {f:Addr}{fd:FuncData} (F:Fun K "_law_errand" "_law_errand" q1j f fd) (hm:mg "_law_errand"=some (.ref f)) (hb:q1p K fd ["_law_script","_law_at","_law_facts_here","_law_name"] []) (B:Bi mg) (q09:Fn P w K mg base cls "_law_mixed" 2 3 q08) (q6y:Fn P w K mg base cls "_law_thin" 3 4 q3q):Fn P w K mg base cls "_law_errand" 4 4 q13:=by
 refine q2T (k:=3) (g:=q23) F q1n hm hb fun cdv A outer s H E hr=>?_
 have hx:q0R (CXR P w) (q2B (CXR P w) P w K mg base ["_law_script","_law_at","_law_facts_here","_law_name","_law_parts","_law_k","_law_fact","_law_way","_law_some_here"] "_law_errand" (q03 q1j) f cdv A outer s H E) E:=q0h fun _ _ h=>h
 have hu1:=q2N hr
 have hu64:=hr.units
 unfold q23
 exact (q06 (q1J (JW.t (w7N (q0U (q8a hu64) (q02 2) (JE.bor (q0Z q07))) (w3e (q0U (q89 hu64) (JE.bor (q0g q09 (hr.mono (by decide)) rfl hx (q00 (q04 0) (q00 q05 (q00 q05 q07))))) (JE.bor q05))))) (q0b (q0B (q0g q6y (hr.mono (by decide)) rfl hx (q00 (q04 0) (q00 (q04 1) (q00 (q04 2) (q00 (q04 3) q07))))))) q0C) (q06 (x4o 4 q1n.nd) (q06 (q8f rfl (w0s rfl B.enumerate (q00 (q04 2) q07)) (w1F rfl (q1k (q1d 5 q1n.nd) (q1k (q1d 6 q1n.nd) q8c))) (q06 (q1h 7 (q0g q09 (hr.mono (by decide)) rfl q2K (q00 (q04 0) (q00 (q0o q0A (JE.bor (q0o q0A (q02 1) (JE.bor q05))) (q02 5)) (q00 q05 q07)))) q1n.nd) (q06 (q1J (q0U (w5Y) (q02 7) (JE.bor q05)) (q0b (q9V 4 (q0p hu1 (JE.bor (q3o (q00 q05 (q00 q05 (q00 q05 q07))))) (q02 7)) (q04 6))) q0C) (q06 (q1h 7 (q0g q09 (hr.mono (by decide)) rfl q2K (q00 (q04 0) (q00 (q0o q0A (JE.bor (q0o q0A (q02 1) (JE.bor q05))) (q02 5)) (q00 q05 q07)))) q1n.nd) (q0b (q1J (q0U (w5Y) (q02 7) (JE.bor q05)) (q0b (q9V 4 (q0p hu1 (JE.bor (q3o (q00 q05 (q00 q05 (q00 q05 (q00 q05 q07)))))) (q02 7)) (q04 6))) q0C)))))) (q06 (w9K (q20 8 (N':=["_law_part"]) (ix:=[]) 1 (by decide) q1n.nd rfl (q0v (so:=q03 q1j) (N:=["_law_script","_law_at","_law_facts_here","_law_name","_law_parts","_law_k","_law_fact","_law_way","_law_some_here"]) (by decide +kernel)) (q1K (q02 4)) (fun cl A0 s0 H0 ex pn=>⟨q0Q (i:=0) (by show (["_law_part"] : List Str).Nodup;decide +kernel) rfl (.inl rfl),q1z,(q0z (q12 rfl) rfl B.tuple PyProof.Rows.boot_tuple (q0i (q02 0) q0s))⟩))) (q0b (q0B (q0Z (q00 (q04 3) (q00 (q0p hu1 (q02 8) (JE.bor q05)) (q00 (q0p hu1 (q02 8) (JE.bor q05)) (q00 (q0p hu1 (q02 8) (JE.bor q05)) (q00 (q0p hu1 (q02 8) (JE.bor q05)) (q00 (q0g q09 (hr.mono (by decide)) rfl hx (q00 (q04 0) (q00 (q04 1) (q00 q05 q07)))) q07)))))))))))))
abbrev q27:Stmt:=top 40
theorem q1X:q0y ["_law_script","_law_at","_law_most","_law_many","_law_facts_here","_law_made","_law_k","_law_name","_law_names","_law_turn"] ["_law_script","_law_at","_law_most","_law_many"] (q03 q27):=⟨rfl,rfl,rfl,by decide +kernel,rfl,by decide +kernel,by decide +kernel⟩
theorem w3B {f:Addr}{fd:FuncData} (F:Fun K "_law_book" "_law_book" q27 f fd) (hm:mg "_law_book"=some (.ref f)) (hb:q1p K fd ["_law_script","_law_at","_law_most","_law_many"] []) (B:Bi mg) (q5a:Fn P w K mg base cls "_law_facts" 4 3 q34) (q30:Fn P w K mg base cls "_law_word" 3 2 q22) (q28:Fn P w K mg base cls "_law_errand" 4 4 q13) (q09:Fn P w K mg base cls "_law_mixed" 2 3 q08):Fn P w K mg base cls "_law_book" 5 4 q2Y:=by
 refine q2T (k:=4) (g:=q3r) F q1X hm hb fun cdv A outer s H E hr=>?_
 have hx:q0R (CXR P w) (q2B (CXR P w) P w K mg base ["_law_script","_law_at","_law_most","_law_many","_law_facts_here","_law_made","_law_k","_law_name","_law_names","_law_turn"] "_law_book" (q03 q27) f cdv A outer s H E) E:=q0h fun _ _ h=>h
 have hu1:=q2N hr
 have hu64:=hr.units
 unfold q3r
 exact (q06 (q1h 4 (q0g q5a (hr.mono (by decide)) rfl hx (q00 (q04 0) (q00 (q04 1) (q00 (q04 2) q07)))) q1X.nd) (q06 (q6n 5 w84 q1X.nd) (q06 (q8f rfl (q6m rfl B.range (q0i (JE.bor (q0g q09 (hr.mono (by decide)) rfl q2K (q00 (q04 0) (q00 (q0o q0A (q02 1) (JE.bor q05)) (q00 (q0o q0A (q02 3) (JE.bor q05)) q07))))) q0s)) (q1d 6 q1X.nd) (q06 (q1h 7 (q0g q30 (hr.mono (by decide)) rfl q2K (q00 (q04 0) (q00 (q0o q0A (JE.bor (q0o q0A (q02 1) (JE.bor q05))) (JE.bor (q0o q7c (JE.bor q05) (q02 6)))) q07))) q1X.nd) (q0b (w88 5 (q0g q28 (hr.mono (by decide)) rfl q2K (q00 (q04 0) (q00 (q0o q0A (JE.bor (q0o q0A (q02 1) (JE.bor q05))) (JE.bor (q0o q7c (JE.bor q05) (q02 6)))) (q00 (q04 4) (q00 (q04 7) q07))))) (q04 7) hu1)))) (q06 (q1h 8 (q0z (q5M rfl) rfl B.list PyProof.Rows.boot_list (q0i (q02 5) q0s)) q1X.nd) (q06 (q1h 9 (q0g q09 (hr.mono (by decide)) rfl hx (q00 (q04 0) (q00 (q0o q0A (q02 1) (JE.bor q05)) (q00 (q0o q0A (JE.bor (q0F q2I rfl B.len PySem.boot_len (q0i (q02 8) q0s))) (JE.bor q05)) q07)))) q1X.nd) (q0b (q0B (q0Z (q00 (q04 4) (q00 (q0z (q12 rfl) rfl B.tuple PyProof.Rows.boot_tuple (q0i (JE.bor (JN.je (q1T (N':=["_law_name","_law_made"]) (ix:=[5]) 1 (by decide) rfl (q0v (so:=q03 q27) (N:=["_law_script","_law_at","_law_most","_law_many","_law_facts_here","_law_made","_law_k","_law_name","_law_names","_law_turn"]) (by decide +kernel)) (q1K (JE.bor (q0o q0A (JE.bor (q2c (q02 8) (q2o (q04 9)) q3H)) (JE.bor (q2c (q02 8) q3H (q2o (q04 9))))))) (fun cl A0 s0 H0 ex pn=>⟨q0Q (i:=0) (by show (["_law_name","_law_made"] : List Str).Nodup;decide +kernel) rfl (.inl rfl),q1z,(q0p hu1 (q02 1) (q02 0))⟩)))) q0s)) q07))))))))))
abbrev q2y:Stmt:=top 41
theorem q2z:q0y ["_law_script","_law_at","_law_facts_here","_law_must","_law_bars","_law_k","_law_fact","_law_way"] ["_law_script","_law_at","_law_facts_here"] (q03 q2y):=⟨rfl,rfl,rfl,by decide +kernel,rfl,by decide +kernel,by decide +kernel⟩
theorem w3C {f:Addr}{fd:FuncData} (F:Fun K "_law_want" "_law_want" q2y f fd) (hm:mg "_law_want"=some (.ref f)) (hb:q1p K fd ["_law_script","_law_at","_law_facts_here"] []) (B:Bi mg) (q09:Fn P w K mg base cls "_law_mixed" 2 3 q08):Fn P w K mg base cls "_law_want" 3 3 q4I:=by
 refine q2T (k:=2) (g:=q3s) F q2z hm hb fun cdv A outer s H E hr=>?_
 have hx:q0R (CXR P w) (q2B (CXR P w) P w K mg base ["_law_script","_law_at","_law_facts_here","_law_must","_law_bars","_law_k","_law_fact","_law_way"] "_law_want" (q03 q2y) f cdv A outer s H E) E:=q0h fun _ _ h=>h
 have hu1:=q2N hr
 have hu64:=hr.units
 unfold q3s
 exact (q06 (q6n 3 (w59 q07) q2z.nd) (q06 (q6n 4 (w59 q07) q2z.nd) (q06 (q8f rfl (w0s rfl B.enumerate (q00 (q04 2) q07)) (w1F rfl (q1k (q1d 5 q2z.nd) (q1k (q1d 6 q2z.nd) q8c))) (q06 (q1h 7 (q0g q09 (hr.mono (by decide)) rfl q2K (q00 (q04 0) (q00 (q0o q0A (q02 1) (q02 5)) (q00 q05 q07)))) q2z.nd) (q0b (q1J (q0U (w5Y) (q02 7) (JE.bor q05)) (q0b (q8g 3 (q04 6))) (q0b (q1J (q0U (q89 hu64) (q02 7) (JE.bor q05)) (q0b (q8g 4 (q04 6))) q0C)))))) (q0b (q0B (q0Z (q00 (q0z (q12 rfl) rfl B.tuple PyProof.Rows.boot_tuple (q0i (q02 3) q0s)) (q00 (q0z (q12 rfl) rfl B.tuple PyProof.Rows.boot_tuple (q0i (q02 4) q0s)) q07))))))))
abbrev q2A:Stmt:=top 42
theorem q5b:q0y ["_law_script","_law_most","_law_many","_law_book_here","_law_state"] ["_law_script","_law_most","_law_many"] (q03 q2A):=⟨rfl,rfl,rfl,by decide +kernel,rfl,by decide +kernel,by decide +kernel⟩
theorem w3D {f:Addr}{fd:FuncData} (F:Fun K "_law_case" "_law_case" q2A f fd) (hm:mg "_law_case"=some (.ref f)) (hb:q1p K fd ["_law_script","_law_most","_law_many"] []) (B:Bi mg) (q6z:Fn P w K mg base cls "_law_book" 5 4 q2Y) (q09:Fn P w K mg base cls "_law_mixed" 2 3 q08) (q31:Fn P w K mg base cls "_law_some" 3 4 q2r) (q6A:Fn P w K mg base cls "_law_want" 3 3 q4I):Fn P w K mg base cls "_law_case" 6 3 q3t:=by
 refine q2T (k:=5) (g:=q4J) F q5b hm hb fun cdv A outer s H E hr=>?_
 have hx:q0R (CXR P w) (q2B (CXR P w) P w K mg base ["_law_script","_law_most","_law_many","_law_book_here","_law_state"] "_law_case" (q03 q2A) f cdv A outer s H E) E:=q0h fun _ _ h=>h
 have hu1:=q2N hr
 have hu64:=hr.units
 unfold q4J
 exact (q06 (q1h 3 (q0g q6z (hr.mono (by decide)) rfl hx (q00 (q04 0) (q00 q05 (q00 (q04 1) (q00 (q04 2) q07))))) q5b.nd) (q06 (q1h 4 (q0g q31 (hr.mono (by decide)) rfl hx (q00 (q04 0) (q00 q05 (q00 (q0p hu1 (q02 3) (JE.bor q05)) (q00 (q0p hu1 (JE.bor (q3o (q00 q05 (q00 q05 q07)))) (JE.bor (q0g q09 (hr.mono (by decide)) rfl hx (q00 (q04 0) (q00 q05 (q00 q05 q07)))))) q07))))) q5b.nd) (q0b (q0B (q0Z (q00 (q04 3) (q00 (q04 4) (q00 (q0g q6A (hr.mono (by decide)) rfl hx (q00 (q04 0) (q00 q05 (q00 (q0p hu1 (q02 3) (JE.bor q05)) q07)))) q07))))))))
abbrev q11:Stmt:=top 43
theorem q3X:q0y ["_law_script","_law_at","_law_facts_here","_law_some_here"] ["_law_script","_law_at","_law_facts_here"] (q03 q11):=⟨rfl,rfl,rfl,by decide +kernel,rfl,by decide +kernel,by decide +kernel⟩
theorem q7w {f:Addr}{fd:FuncData} (F:Fun K "_law_bad_state" "_law_bad_state" q11 f fd) (hm:mg "_law_bad_state"=some (.ref f)) (hb:q1p K fd ["_law_script","_law_at","_law_facts_here"] []) (B:Bi mg) (q09:Fn P w K mg base cls "_law_mixed" 2 3 q08):Fn P w K mg base cls "_law_bad_state" 3 3 q2g:=by
 refine q2T (k:=2) (g:=q1B) F q3X hm hb fun cdv A outer s H E hr=>?_
 have hx:q0R (CXR P w) (q2B (CXR P w) P w K mg base ["_law_script","_law_at","_law_facts_here","_law_some_here"] "_law_bad_state" (q03 q11) f cdv A outer s H E) E:=q0h fun _ _ h=>h
 have hu1:=q2N hr
 have hu64:=hr.units
 unfold q1B
 exact (q06 (q6n 3 (w59 (q00 q88 (q00 (q0z (q5M rfl) rfl B.list PyProof.Rows.boot_list (q0i (q02 2) q0s)) (q00 (q0Z (q00 q2k q07)) (q00 (q0o q0A (q02 2) (JE.bor (q0Z (q00 q2k q07)))) (q00 (q0Z (q00 q05 q07)) (q00 q05 (q00 q2k (q00 (q0Z (q00 q2k q07)) (q00 (q0Z (q00 q88 q07)) q07)))))))))) q3X.nd) (q06 (q1J (q0U (q8a hu64) (q02 2) (JE.bor (q0Z q07))) (q0b (w1K 3 (q3o (q00 (q0o q0A (q02 2) (q02 2)) (q00 (q0o q0A (JE.bor (q2c (q02 2) q3H (q2o q05))) (JE.bor (q2c (q02 2) q3H (q2o q05)))) (q00 (q0Z (q00 (q0p hu1 (q02 2) (JE.bor q05)) (q00 q05 q07))) q07)))))) q0C) (q06 (q1J (q0U (w9C) (JE.bor (q0F q2I rfl B.len PySem.boot_len (q0i (q02 2) q0s))) (JE.bor q05)) (q0b (w1K 3 (x1l 3 (by decide) (q00 (x50 (q02 2)) q07)))) q0C) (q0b (q0B (q0p hu1 (q02 3) (JE.bor (q0g q09 (hr.mono (by decide)) rfl hx (q00 (q04 0) (q00 (q04 1) (q00 (q0F q2I rfl B.len PySem.boot_len (q0i (q02 3) q0s)) q07)))))))))))
abbrev q5X:Stmt:=top 46
theorem q2m:q0y ["_law_script","_law_book_here","_law_state","_law_want_here","_law_facts_here","_law_due","_law_errand_here","_law_parts","_law_names","_law_name","_law_new","_law_made","_law_odd"] ["_law_script"] (q03 q5X):=⟨rfl,rfl,rfl,by decide +kernel,rfl,by decide +kernel,by decide +kernel⟩
theorem x5r {f:Addr}{fd:FuncData} (F:Fun K "law" "law" q5X f fd) (B:Bi mg) (q6B:Fn P w K mg base cls "_law_case" 6 3 q3t) (q31:Fn P w K mg base cls "_law_some" 3 4 q2r) (q37:Fn P w K mg base cls "_law_bad_state" 3 3 q2g) (q09:Fn P w K mg base cls "_law_mixed" 2 3 q08) (q28:Fn P w K mg base cls "_law_errand" 4 4 q13) (T_law_told_seen:FnT P w K mg base cls "_law_told" "seen" 8 2 (q7t whD q7f)) (T_law_told_with_errand:FnT P w K mg base cls "_law_told" "with_errand" 8 2 (q7t whD q0G)) (T_law_told_without_errand:FnT P w K mg base cls "_law_told" "without_errand" 8 2 (q7t whD q0Y)):w2R P w K mg base (CXR P w) 9 f fd ["_law_script"] (spF K cls 1 w8n):=by
 refine x4n (k:=8) (g:=w9Q) F q2m fun cdv A outer s H E hr=>?_
 have hx:q0R (CXR P w) (q2B (CXR P w) P w K mg base ["_law_script","_law_book_here","_law_state","_law_want_here","_law_facts_here","_law_due","_law_errand_here","_law_parts","_law_names","_law_name","_law_new","_law_made","_law_odd"] "law" (q03 q5X) f cdv A outer s H E) E:=q0h fun _ _ h=>h
 have hu1:=q2N hr
 have hu64:=hr.units
 unfold w9Q
 exact (q06 (w81 (q0g q6B (hr.mono (by decide)) rfl hx (q00 (q04 0) (q00 q05 (q00 q05 q07)))) (w1F rfl (q1k (q1d 1 q2m.nd) (q1k (q1d 2 q2m.nd) (q1k (q1d 3 q2m.nd) q8c))))) (q06 (q1h 4 (q0g q31 (hr.mono (by decide)) rfl hx (q00 (q04 0) (q00 q05 (q00 (q0p hu1 (q02 1) (JE.bor q05)) (q00 q05 q07))))) q2m.nd) (q06 (q6n 5 (w59 q07) q2m.nd) (q06 (q8f rfl (w83 (q0p hu1 (q02 1) (JE.bor q05))) (q1d 6 q2m.nd) (q06 (q20 7 (N':=["_law_part","_law_facts_here"]) (ix:=[4]) 1 (by decide) q2m.nd rfl (q0v (so:=q03 q5X) (N:=["_law_script","_law_book_here","_law_state","_law_want_here","_law_facts_here","_law_due","_law_errand_here","_law_parts","_law_names","_law_name","_law_new","_law_made","_law_odd"]) (by decide +kernel)) (q1K (JE.bor (q2c (q02 6) (q2o q05) (q2o q05)))) (fun cl A0 s0 H0 ex pn=>⟨q0Q (i:=0) (by show (["_law_part","_law_facts_here"] : List Str).Nodup;decide +kernel) rfl (.inl rfl),q1z,(q0z (q12 rfl) rfl B.tuple PyProof.Rows.boot_tuple (q0i (JE.bor (JN.je (q1T (N':=["_law_fact","_law_facts_here"]) (ix:=[1]) 1 (by decide) rfl (q0v (N:=["_law_part","_law_facts_here"]) (by kernel_rfl) rfl) (q1K (q02 0)) (fun cl A0 s0 H0 ex pn=>⟨q0Q (i:=0) (by show (["_law_fact","_law_facts_here"] : List Str).Nodup;decide +kernel) rfl (.inl rfl),(q52 (q0U (w60) (q02 0) (q02 1))),(q04 0)⟩)))) q0s))⟩)) (q0b (q8g 5 (q0o q0A (JE.bor (q0o q0A (JE.bor (q0Z (q00 (q0p hu1 (q02 6) (JE.bor q05)) q07))) (JE.bor (q0z (q12 rfl) rfl B.tuple PyProof.Rows.boot_tuple (q0i (q02 7) q0s))))) (JE.bor (q2c (q02 6) (q2o q05) q3H))))))) (q06 (q1J (q0U (q8a hu64) (JE.bor (q8k T_law_told_seen (hr.mono (by decide)) rfl rfl hx (q00 (q04 1) (q00 (q04 4) q07)))) (JE.bor (q0Z (q00 (q04 4) (q00 (q0z (q12 rfl) rfl B.tuple PyProof.Rows.boot_tuple (q0i (q02 5) q0s)) q07))))) (q0b (q0B q50)) q0C) (q06 (q1J (q0U (q8a hu64) (JE.bor (q8k T_law_told_seen (hr.mono (by decide)) rfl rfl hx (q00 (q04 1) (q00 (q0g q37 (hr.mono (by decide)) rfl hx (q00 (q04 0) (q00 q05 (q00 (q0p hu1 (q02 1) (JE.bor q05)) q07)))) q07)))) (JE.bor (q0Z (q00 q2k (q00 q05 q07))))) (q0b (q0B q50)) q0C) (q06 (q20 8 (N':=["_law_errand_here"]) (ix:=[]) 1 (by decide) q2m.nd rfl (q0v (so:=q03 q5X) (N:=["_law_script","_law_book_here","_law_state","_law_want_here","_law_facts_here","_law_due","_law_errand_here","_law_parts","_law_names","_law_name","_law_new","_law_made","_law_odd"]) (by decide +kernel)) (q1K (JE.bor (q0p hu1 (q02 1) (JE.bor q05)))) (fun cl A0 s0 H0 ex pn=>⟨q0Q (i:=0) (by show (["_law_errand_here"] : List Str).Nodup;decide +kernel) rfl (.inl rfl),q1z,(q0p hu1 (q02 0) (JE.bor q05))⟩)) (q06 (q1h 9 (q0p hu1 (JE.bor (q0o q0A (q02 8) (JE.bor (x1l 3 (by decide) (q00 q2k q07))))) (JE.bor (q0g q09 (hr.mono (by decide)) rfl hx (q00 (q04 0) (q00 q05 (q00 (q0o q0A (JE.bor (q0F q2I rfl B.len PySem.boot_len (q0i (q02 8) q0s))) (JE.bor q05)) q07)))))) q2m.nd) (q06 (q1h 10 (q0g q28 (hr.mono (by decide)) rfl hx (q00 (q04 0) (q00 q05 (q00 (q0p hu1 (q02 1) (JE.bor q05)) (q00 (q04 9) q07))))) q2m.nd) (q06 (q1h 11 (q0o q0A (JE.bor (q0z (q5M rfl) rfl B.list PyProof.Rows.boot_list (q0i (JE.bor (q0p hu1 (q02 1) (JE.bor q05))) q0s))) (JE.bor (q3o (q00 (q04 10) q07)))) q2m.nd) (q06 (q1J (q0U (w60) (q02 9) (q02 8)) (q0b (q20 11 (N':=["_law_errand_here","_law_new","_law_name"]) (ix:=[10,9]) 1 (by decide) q2m.nd rfl (q0v (so:=q03 q5X) (N:=["_law_script","_law_book_here","_law_state","_law_want_here","_law_facts_here","_law_due","_law_errand_here","_law_parts","_law_names","_law_name","_law_new","_law_made","_law_odd"]) (by decide +kernel)) (q1K (JE.bor (q0p hu1 (q02 1) (JE.bor q05)))) (fun cl A0 s0 H0 ex pn=>⟨q0Q (i:=0) (by show (["_law_errand_here","_law_new","_law_name"] : List Str).Nodup;decide +kernel) rfl (.inl rfl),q1z,(q0p hu1 (JE.bor (q3o (q00 (q04 0) (q00 (q04 1) q07)))) (JE.bor (q0z x51 rfl B.int PyProof.Rows.boot_int (q0i (JE.bor (q9K (q89 hu64) (JE.bor (q0p hu1 (q02 0) (JE.bor q05))) (q02 2))) q0s))))⟩))) q0C) (q06 (q1h 5 (q0Z (q00 (q0p hu1 (q02 1) (JE.bor q05)) (q00 (q0z (q12 rfl) rfl B.tuple PyProof.Rows.boot_tuple (q0i (q02 11) q0s)) q07))) q2m.nd) (q06 (q1J (q0U (w9C) (JE.bor (q0F q2I rfl B.len PySem.boot_len (q0i (q02 11) q0s))) (JE.bor q05)) (q0b (q1h 5 (q0Z (q00 q2k (q00 q05 q07))) q2m.nd)) q0C) (q06 (q1J (q0U (q8a hu64) (JE.bor (q8k T_law_told_with_errand (hr.mono (by decide)) rfl rfl hx (q00 (q04 1) (q00 (q04 10) q07)))) (q02 5)) (q0b (q0B q50)) q0C) (q06 (q1h 12 (q0p hu1 (JE.bor (q3o (q00 q88 (q00 (q2c (q02 10) q3H (q2o q05)) (q00 (q0z (q5M rfl) rfl B.list PyProof.Rows.boot_list (q0i (q02 10) q0s)) (q00 (q0o q0A (JE.bor (q2c (q02 10) q3H (q2o q05))) (JE.bor (q0Z (q00 q05 q07)))) q07)))))) (JE.bor (q0g q09 (hr.mono (by decide)) rfl hx (q00 (q04 0) (q00 q05 (q00 q05 q07)))))) q2m.nd) (q06 (q1J (q0U (q8a hu64) (JE.bor (q8k T_law_told_with_errand (hr.mono (by decide)) rfl rfl hx (q00 (q04 1) (q00 (q04 12) q07)))) (JE.bor (q0Z (q00 q2k (q00 q05 q07))))) (q0b (q0B q50)) q0C) (q06 (q1h 5 (q0Z (q00 q2k (q00 q05 q07))) q2m.nd) (q06 (q1J (q0U (w60) (q02 9) (q02 8)) (q0b (q1h 5 (q0Z (q00 (q0p hu1 (q02 1) (JE.bor q05)) (q00 (q0z (q12 rfl) rfl B.tuple PyProof.Rows.boot_tuple (q0i (JE.bor (JN.je (q1T (N':=["_law_errand_here","_law_name"]) (ix:=[9]) 1 (by decide) rfl (q0v (so:=q03 q5X) (N:=["_law_script","_law_book_here","_law_state","_law_want_here","_law_facts_here","_law_due","_law_errand_here","_law_parts","_law_names","_law_name","_law_new","_law_made","_law_odd"]) (by decide +kernel)) (q1K (JE.bor (q0p hu1 (q02 1) (JE.bor q05)))) (fun cl A0 s0 H0 ex pn=>⟨q0Q (i:=0) (by show (["_law_errand_here","_law_name"] : List Str).Nodup;decide +kernel) rfl (.inl rfl),(q52 (q0U (q8a hu64) (JE.bor (q0p hu1 (q02 0) (JE.bor q05))) (q02 1))),(q04 0)⟩)))) q0s)) q07))) q2m.nd)) q0C) (q0b (q0B (q9K (q89 hu64) (JE.bor (q8k T_law_told_without_errand (hr.mono (by decide)) rfl rfl hx (q00 (q04 1) (q00 (q04 9) q07)))) (q02 5))))))))))))))))))))))
end
end Z
end
section
namespace Z
open PySem L2 J
theorem x5s {l:PySem.W.OpenLaw}{w:World}{K:PySem.W.Frag}{h:Heap}{mg:Str->Option Value}{fa:Addr}{q8t:Tok}{w0L:Tok}{w0M:Tok}{q8u:Tok}{q0j:Addr}{q1M:Addr}{q2E:Addr}{q0a:Addr}{q3k:Addr}{q3l:Addr}{q1N:Addr}{q0f:Addr}{q1u:Addr}{q1O:Addr}{q2F:Addr}{q1a:Addr}{w8R:ClassData}{w6k:ClassData}{w8S:ClassData}{w3E:ClassData}{x0f:ClassData}{x0g:ClassData}{w6l:ClassData}{w6m:ClassData}{w3F:ClassData}{w6n:ClassData}{w8T:ClassData}{q5c:Addr}{w28 w29:Option Addr}{w2a:Array (Option Value)}{w2b w2c w2d w2e q7k w2f:Value}{q6C:Addr}{w3G w3H:Option Addr}{w3I:Array (Option Value)}{w3J w3K w3L w3M q8v w3N:Value}{q4l:Addr}{w0N w0O:Option Addr}{w0P:Array (Option Value)}{w0Q w0R w0S w0T q5Y w0U:Value}{q8w:Addr}{w6o w6p:Option Addr}{w6q:Array (Option Value)}{w6r w6s w6t w6u q9Z w6v:Value}{q2j:Addr}{q5d q5e:Option Addr}{q5f:Array (Option Value)}{q5g q5h q5i q5j q38 q5k:Value}{q5l:Addr}{w2g w2h:Option Addr}{w2i:Array (Option Value)}{w2j w2k w2l w2m q7l w2n:Value}{q6D:Addr}{w3O w3P:Option Addr}{w3Q:Array (Option Value)}{w3R w3S w3T w3U q8x w3V:Value}{q5m:Addr}{w2o w2p:Option Addr}{w2q:Array (Option Value)}{w2r w2s w2t w2u q7m w2v:Value}{q8y:Addr}{w6w w6x:Option Addr}{w6y:Array (Option Value)}{w6z w6A w6B w6C w00 w6D:Value}{q39:Addr}{q7x q7y:Option Addr}{q7z:Array (Option Value)}{q7A q7B q7C q7D q3Y q7E:Value}{q8z:Addr}{w6E w6F:Option Addr}{w6G:Array (Option Value)}{w6H w6I w6J w6K w01 w6L:Value}{q3R:Addr}{q9g q9h:Option Addr}{q9i:Array (Option Value)}{q9j q9k q9l q9m q4V q9n:Value}{w8U:Addr}{x34 x35:Option Addr}{x36:Array (Option Value)}{x37 x38 x39 x3a w8V x3b:Value}{q3S:Addr}{q9o q9p:Option Addr}{q9q:Array (Option Value)}{q9r q9s q9t q9u q4W q9v:Value}{q2P:Addr}{q6E q6F:Option Addr}{q6G:Array (Option Value)}{q6H q6I q6J q6K q3x q6L:Value}{q3T:Addr}{q9w q9x:Option Addr}{q9y:Array (Option Value)}{q9z q9A q9B q9C q4X q9D:Value}{q5n:Addr}{w2w w2x:Option Addr}{w2y:Array (Option Value)}{w2z w2A w2B w2C q7n w2D:Value}{q6M:Addr}{w3W w3X:Option Addr}{w3Y:Array (Option Value)}{w3Z w40 w41 w42 q8A w43:Value}{q5o:Addr}{w2E w2F:Option Addr}{w2G:Array (Option Value)}{w2H w2I w2J w2K q7o w2L:Value}{q6N:Addr}{w44 w45:Option Addr}{w46:Array (Option Value)}{w47 w48 w49 w4a q8B w4b:Value}{q6O:Addr}{w4c w4d:Option Addr}{w4e:Array (Option Value)}{w4f w4g w4h w4i q8C w4j:Value}{q4m:Addr}{w0V w0W:Option Addr}{w0X:Array (Option Value)}{w0Y w0Z w10 w11 q5Z w12:Value}{q6P:Addr}{w4k w4l:Option Addr}{w4m:Array (Option Value)}{w4n w4o w4p w4q q8D w4r:Value}{q6Q:Addr}{w4s w4t:Option Addr}{w4u:Array (Option Value)}{w4v w4w w4x w4y q8E w4z:Value}{q6R:Addr}{w4A w4B:Option Addr}{w4C:Array (Option Value)}{w4D w4E w4F w4G q8F w4H:Value}{q3a:Addr}{q7F q7G:Option Addr}{q7H:Array (Option Value)}{q7I q7J q7K q7L q3Z q7M:Value}{x3c:Addr}{x5t x1t:Option Addr}{x5u:Array (Option Value)}{x5v x1u x1v x1w w8W x1x:Value} (X:K.In h) (G:h.Ns mainGlobals mg) (hfa:mg "law"=some (.ref fa))
  (z_len:PySem.W.nsIn K mainGlobals "len"=some none)
  (z_isinstance:PySem.W.nsIn K mainGlobals "isinstance"=some none)
  (z_all:PySem.W.nsIn K mainGlobals "all"=some none)
  (z_any:PySem.W.nsIn K mainGlobals "any"=some none)
  (z_zip:PySem.W.nsIn K mainGlobals "zip"=some none)
  (z_tuple:PySem.W.nsIn K mainGlobals "tuple"=some none)
  (z_list:PySem.W.nsIn K mainGlobals "list"=some none)
  (z_sorted:PySem.W.nsIn K mainGlobals "sorted"=some none)
  (z_set:PySem.W.nsIn K mainGlobals "set"=some none)
  (z_range:PySem.W.nsIn K mainGlobals "range"=some none)
  (z_enumerate:PySem.W.nsIn K mainGlobals "enumerate"=some none)
  (z_dict:PySem.W.nsIn K mainGlobals "dict"=some none)
  (z_sum:PySem.W.nsIn K mainGlobals "sum"=some none)
  (z_max:PySem.W.nsIn K mainGlobals "max"=some none)
  (z_min:PySem.W.nsIn K mainGlobals "min"=some none)
  (z_reversed:PySem.W.nsIn K mainGlobals "reversed"=some none)
  (z_str:PySem.W.nsIn K mainGlobals "str"=some none)
  (z_int:PySem.W.nsIn K mainGlobals "int"=some none)
  (z_bool:PySem.W.nsIn K mainGlobals "bool"=some none)
  (q4n:PySem.W.nsIn K mainGlobals "ValueError"=some none)
  (q3m:PySem.W.nsIn K mainGlobals "MOST_LETTERS"=some (some (.int 6 q8t)))
  (q4o:PySem.W.nsIn K mainGlobals "MOST_PRICE"=some (some (.int 9 w0L)))
  (q4p:PySem.W.nsIn K mainGlobals "MOST_FACTS"=some (some (.int 6 w0M)))
  (q3n:PySem.W.nsIn K mainGlobals "MOST_ERRANDS"=some (some (.int 6 q8u)))
  (q60:PySem.W.nsIn K mainGlobals "NoBook"=some (some (.ref q0j)))
  (q8G:PySem.W.nsIn K mainGlobals "NoState"=some (some (.ref q1M)))
  (w13:PySem.W.nsIn K mainGlobals "NoWant"=some (some (.ref q2E)))
  (q3y:PySem.W.nsIn K mainGlobals "NoErrand"=some (some (.ref q0a)))
  (w4I:PySem.W.nsIn K mainGlobals "NoRow"=some (some (.ref q3k)))
  (w4J:PySem.W.nsIn K mainGlobals "NoWay"=some (some (.ref q3l)))
  (q8H:PySem.W.nsIn K mainGlobals "NoPaper"=some (some (.ref q1N)))
  (q4q:PySem.W.nsIn K mainGlobals "NoFacts"=some (some (.ref q0f)))
  (q6S:PySem.W.nsIn K mainGlobals "NoNumber"=some (some (.ref q1u)))
  (q8I:PySem.W.nsIn K mainGlobals "Nothing"=some (some (.ref q1O)))
  (w14:PySem.W.nsIn K mainGlobals "NoText"=some (some (.ref q2F)))
  (q3U:PySem.W.nsIn K mainGlobals "PlanError"=some (some (.ref q1a)))
  (q7V:PySem.W.excIn K q0j q8j "ValueError.__new__"=true)
  (q61:PySem.W.mroIn K q0j (.type "BaseException")=some true)
  (q62:PySem.W.excIn K q0f q8j "ValueError.__new__"=true)
  (q4r:PySem.W.mroIn K q0f (.type "BaseException")=some true)
  (q4K:PySem.W.excIn K q0a q8j "ValueError.__new__"=true)
  (q3z:PySem.W.mroIn K q0a (.type "BaseException")=some true)
  (q5p:PySem.W.excIn K q1a q8j "ValueError.__new__"=true)
  (q5q:PySem.W.mroIn K q1a (.type "BaseException")=some true)
  (q4L:PySem.W.clsIn K q0j=some w8R)
  (q63:PySem.W.typeIn K (.ref q0j)=some (.type "type"))
  (q4s:PySem.W.clsIn K q1M=some w6k)
  (q4t:PySem.W.typeIn K (.ref q1M)=some (.type "type"))
  (q64:PySem.W.clsIn K q2E=some w8S)
  (q65:PySem.W.typeIn K (.ref q2E)=some (.type "type"))
  (q32:PySem.W.clsIn K q0a=some w3E)
  (q3A:PySem.W.typeIn K (.ref q0a)=some (.type "type"))
  (q8J:PySem.W.clsIn K q3k=some x0f)
  (q8K:PySem.W.typeIn K (.ref q3k)=some (.type "type"))
  (q8L:PySem.W.clsIn K q3l=some x0g)
  (q8M:PySem.W.typeIn K (.ref q3l)=some (.type "type"))
  (q4u:PySem.W.clsIn K q1N=some w6l)
  (q4v:PySem.W.typeIn K (.ref q1N)=some (.type "type"))
  (q3B:PySem.W.clsIn K q0f=some w6m)
  (q4w:PySem.W.typeIn K (.ref q0f)=some (.type "type"))
  (q3C:PySem.W.clsIn K q1u=some w3F)
  (q3D:PySem.W.typeIn K (.ref q1u)=some (.type "type"))
  (q4x:PySem.W.clsIn K q1O=some w6n)
  (q4y:PySem.W.typeIn K (.ref q1O)=some (.type "type"))
  (q66:PySem.W.clsIn K q2F=some w8T)
  (q67:PySem.W.typeIn K (.ref q2F)=some (.type "type"))
  (q8N:PySem.W.findIn K (.ref q0j) "__getattribute__"=some (some (.builtin "BaseException.__getattribute__")))
  (q8O:PySem.W.findIn K (.ref q0j) "__getattr__"=some none)
  (q8P:PySem.W.findIn K (.ref q0j) "__class__"=some (some (.builtin "object.__class__")))
  (q8Q:PySem.W.specialIn K (.builtin "object.__class__") "__get__"=some (some (.builtin "getset_descriptor.__get__")))
  (q8R:PySem.W.takesIn K (.builtin "object.__class__")=some true)
  (q8S:PySem.W.mroIn K q0j (.type "object")=some true)
  (q8T:PySem.W.mroIn K q0j (.ref q1a)=some true)
  (q8U:PySem.W.subIn K (.ref q0j) (.type "ValueError")=some true)
  (q8V:(Value.ref q1a == Value.ref q0j)=false)
  (s_NoBook_NoBook:PySem.W.subIn K (.ref q0j) (.ref q0j)=some true)
  (s_NoBook_NoState:PySem.W.subIn K (.ref q0j) (.ref q1M)=some false)
  (n_NoBook_NoState:q0j≠q1M)
  (s_NoBook_NoWant:PySem.W.subIn K (.ref q0j) (.ref q2E)=some false)
  (n_NoBook_NoWant:q0j≠q2E)
  (s_NoBook_NoErrand:PySem.W.subIn K (.ref q0j) (.ref q0a)=some false)
  (n_NoBook_NoErrand:q0j≠q0a)
  (s_NoBook_NoRow:PySem.W.subIn K (.ref q0j) (.ref q3k)=some false)
  (n_NoBook_NoRow:q0j≠q3k)
  (s_NoBook_NoWay:PySem.W.subIn K (.ref q0j) (.ref q3l)=some false)
  (n_NoBook_NoWay:q0j≠q3l)
  (s_NoBook_NoPaper:PySem.W.subIn K (.ref q0j) (.ref q1N)=some false)
  (n_NoBook_NoPaper:q0j≠q1N)
  (s_NoBook_NoFacts:PySem.W.subIn K (.ref q0j) (.ref q0f)=some false)
  (n_NoBook_NoFacts:q0j≠q0f)
  (s_NoBook_NoNumber:PySem.W.subIn K (.ref q0j) (.ref q1u)=some false)
  (n_NoBook_NoNumber:q0j≠q1u)
  (s_NoBook_Nothing:PySem.W.subIn K (.ref q0j) (.ref q1O)=some false)
  (n_NoBook_Nothing:q0j≠q1O)
  (s_NoBook_NoText:PySem.W.subIn K (.ref q0j) (.ref q2F)=some false)
  (n_NoBook_NoText:q0j≠q2F)
  (q6T:PySem.W.findIn K (.ref q0f) "__getattribute__"=some (some (.builtin "BaseException.__getattribute__")))
  (q6U:PySem.W.findIn K (.ref q0f) "__getattr__"=some none)
  (q6V:PySem.W.findIn K (.ref q0f) "__class__"=some (some (.builtin "object.__class__")))
  (q6W:PySem.W.specialIn K (.builtin "object.__class__") "__get__"=some (some (.builtin "getset_descriptor.__get__")))
  (q6X:PySem.W.takesIn K (.builtin "object.__class__")=some true)
  (q6Y:PySem.W.mroIn K q0f (.type "object")=some true)
  (q6Z:PySem.W.mroIn K q0f (.ref q1a)=some true)
  (q70:PySem.W.subIn K (.ref q0f) (.type "ValueError")=some true)
  (q71:(Value.ref q1a == Value.ref q0f)=false)
  (s_NoFacts_NoBook:PySem.W.subIn K (.ref q0f) (.ref q0j)=some false)
  (n_NoFacts_NoBook:q0f≠q0j)
  (s_NoFacts_NoState:PySem.W.subIn K (.ref q0f) (.ref q1M)=some false)
  (n_NoFacts_NoState:q0f≠q1M)
  (s_NoFacts_NoWant:PySem.W.subIn K (.ref q0f) (.ref q2E)=some false)
  (n_NoFacts_NoWant:q0f≠q2E)
  (s_NoFacts_NoErrand:PySem.W.subIn K (.ref q0f) (.ref q0a)=some false)
  (n_NoFacts_NoErrand:q0f≠q0a)
  (s_NoFacts_NoRow:PySem.W.subIn K (.ref q0f) (.ref q3k)=some false)
  (n_NoFacts_NoRow:q0f≠q3k)
  (s_NoFacts_NoWay:PySem.W.subIn K (.ref q0f) (.ref q3l)=some false)
  (n_NoFacts_NoWay:q0f≠q3l)
  (s_NoFacts_NoPaper:PySem.W.subIn K (.ref q0f) (.ref q1N)=some false)
  (n_NoFacts_NoPaper:q0f≠q1N)
  (s_NoFacts_NoFacts:PySem.W.subIn K (.ref q0f) (.ref q0f)=some true)
  (s_NoFacts_NoNumber:PySem.W.subIn K (.ref q0f) (.ref q1u)=some false)
  (n_NoFacts_NoNumber:q0f≠q1u)
  (s_NoFacts_Nothing:PySem.W.subIn K (.ref q0f) (.ref q1O)=some false)
  (n_NoFacts_Nothing:q0f≠q1O)
  (s_NoFacts_NoText:PySem.W.subIn K (.ref q0f) (.ref q2F)=some false)
  (n_NoFacts_NoText:q0f≠q2F)
  (q5r:PySem.W.findIn K (.ref q0a) "__getattribute__"=some (some (.builtin "BaseException.__getattribute__")))
  (q5s:PySem.W.findIn K (.ref q0a) "__getattr__"=some none)
  (q5t:PySem.W.findIn K (.ref q0a) "__class__"=some (some (.builtin "object.__class__")))
  (q5u:PySem.W.specialIn K (.builtin "object.__class__") "__get__"=some (some (.builtin "getset_descriptor.__get__")))
  (q5v:PySem.W.takesIn K (.builtin "object.__class__")=some true)
  (q5w:PySem.W.mroIn K q0a (.type "object")=some true)
  (q5x:PySem.W.mroIn K q0a (.ref q1a)=some true)
  (q5y:PySem.W.subIn K (.ref q0a) (.type "ValueError")=some true)
  (q5z:(Value.ref q1a == Value.ref q0a)=false)
  (s_NoErrand_NoBook:PySem.W.subIn K (.ref q0a) (.ref q0j)=some false)
  (n_NoErrand_NoBook:q0a≠q0j)
  (s_NoErrand_NoState:PySem.W.subIn K (.ref q0a) (.ref q1M)=some false)
  (n_NoErrand_NoState:q0a≠q1M)
  (s_NoErrand_NoWant:PySem.W.subIn K (.ref q0a) (.ref q2E)=some false)
  (n_NoErrand_NoWant:q0a≠q2E)
  (s_NoErrand_NoErrand:PySem.W.subIn K (.ref q0a) (.ref q0a)=some true)
  (s_NoErrand_NoRow:PySem.W.subIn K (.ref q0a) (.ref q3k)=some false)
  (n_NoErrand_NoRow:q0a≠q3k)
  (s_NoErrand_NoWay:PySem.W.subIn K (.ref q0a) (.ref q3l)=some false)
  (n_NoErrand_NoWay:q0a≠q3l)
  (s_NoErrand_NoPaper:PySem.W.subIn K (.ref q0a) (.ref q1N)=some false)
  (n_NoErrand_NoPaper:q0a≠q1N)
  (s_NoErrand_NoFacts:PySem.W.subIn K (.ref q0a) (.ref q0f)=some false)
  (n_NoErrand_NoFacts:q0a≠q0f)
  (s_NoErrand_NoNumber:PySem.W.subIn K (.ref q0a) (.ref q1u)=some false)
  (n_NoErrand_NoNumber:q0a≠q1u)
  (s_NoErrand_Nothing:PySem.W.subIn K (.ref q0a) (.ref q1O)=some false)
  (n_NoErrand_Nothing:q0a≠q1O)
  (s_NoErrand_NoText:PySem.W.subIn K (.ref q0a) (.ref q2F)=some false)
  (n_NoErrand_NoText:q0a≠q2F)
  (a_f_law_which:PySem.W.nsIn K mainGlobals "_law_which"=some (some (.ref q5c)))
  (l_f_law_which:K.lookup q5c=some ⟨w2b,w28,.func (PySem.W.fnOf "_law_which" "_law_which" (q0E q2s) (q0x q2s) (q03 q2s) .none w2c w2d w2e w29 q7k w2f),w2a⟩)
  (c_f_law_which:PySem.W.codeIn K q7k "_law_which"=true)
  (k_f_law_which:PySem.W.keepIn K (.ref q5c)=true)
  (a_f_law_told:PySem.W.nsIn K mainGlobals "_law_told"=some (some (.ref q6C)))
  (l_f_law_told:K.lookup q6C=some ⟨w3J,w3G,.func (PySem.W.fnOf "_law_told" "_law_told" (q0E q25) (q0x q25) (q03 q25) .none w3K w3L w3M w3H q8v w3N),w3I⟩)
  (c_f_law_told:PySem.W.codeIn K q8v "_law_told"=true)
  (k_f_law_told:PySem.W.keepIn K (.ref q6C)=true)
  (a_f_share_none:PySem.W.nsIn K mainGlobals "share_none"=some (some (.ref q4l)))
  (l_f_share_none:K.lookup q4l=some ⟨w0Q,w0N,.func (PySem.W.fnOf "share_none" "share_none" (q0E q1i) (q0x q1i) (q03 q1i) .none w0R w0S w0T w0O q5Y w0U),w0P⟩)
  (c_f_share_none:PySem.W.codeIn K q5Y "share_none"=true)
  (k_f_share_none:PySem.W.keepIn K (.ref q4l)=true)
  (a_f_is_word:PySem.W.nsIn K mainGlobals "is_word"=some (some (.ref q8w)))
  (l_f_is_word:K.lookup q8w=some ⟨w6r,w6o,.func (PySem.W.fnOf "is_word" "is_word" (q0E q2M) (q0x q2M) (q03 q2M) .none w6s w6t w6u w6p q9Z w6v),w6q⟩)
  (c_f_is_word:PySem.W.codeIn K q9Z "is_word"=true)
  (k_f_is_word:PySem.W.keepIn K (.ref q8w)=true)
  (a_f_are_rising_words:PySem.W.nsIn K mainGlobals "are_rising_words"=some (some (.ref q2j)))
  (l_f_are_rising_words:K.lookup q2j=some ⟨q5g,q5d,.func (PySem.W.fnOf "are_rising_words" "are_rising_words" (q0E q0w) (q0x q0w) (q03 q0w) .none q5h q5i q5j q5e q38 q5k),q5f⟩)
  (c_f_are_rising_words:PySem.W.codeIn K q38 "are_rising_words"=true)
  (k_f_are_rising_words:PySem.W.keepIn K (.ref q2j)=true)
  (a_f_are_facts:PySem.W.nsIn K mainGlobals "are_facts"=some (some (.ref q5l)))
  (l_f_are_facts:K.lookup q5l=some ⟨w2j,w2g,.func (PySem.W.fnOf "are_facts" "are_facts" (q0E q1C) (q0x q1C) (q03 q1C) .none w2k w2l w2m w2h q7l w2n),w2i⟩)
  (c_f_are_facts:PySem.W.codeIn K q7l "are_facts"=true)
  (k_f_are_facts:PySem.W.keepIn K (.ref q5l)=true)
  (a_f_is_whole:PySem.W.nsIn K mainGlobals "is_whole"=some (some (.ref q6D)))
  (l_f_is_whole:K.lookup q6D=some ⟨w3R,w3O,.func (PySem.W.fnOf "is_whole" "is_whole" (q0E q2t) (q0x q2t) (q03 q2t) .none w3S w3T w3U w3P q8x w3V),w3Q⟩)
  (c_f_is_whole:PySem.W.codeIn K q8x "is_whole"=true)
  (k_f_is_whole:PySem.W.keepIn K (.ref q6D)=true)
  (a_f_is_errand:PySem.W.nsIn K mainGlobals "is_errand"=some (some (.ref q5m)))
  (l_f_is_errand:K.lookup q5m=some ⟨w2r,w2o,.func (PySem.W.fnOf "is_errand" "is_errand" (q0E q1D) (q0x q1D) (q03 q1D) .none w2s w2t w2u w2p q7m w2v),w2q⟩)
  (c_f_is_errand:PySem.W.codeIn K q7m "is_errand"=true)
  (k_f_is_errand:PySem.W.keepIn K (.ref q5m)=true)
  (a_f_is_book:PySem.W.nsIn K mainGlobals "is_book"=some (some (.ref q8y)))
  (l_f_is_book:K.lookup q8y=some ⟨w6z,w6w,.func (PySem.W.fnOf "is_book" "is_book" (q0E q2h) (q0x q2h) (q03 q2h) .none w6A w6B w6C w6x w00 w6D),w6y⟩)
  (c_f_is_book:PySem.W.codeIn K w00 "is_book"=true)
  (k_f_is_book:PySem.W.keepIn K (.ref q8y)=true)
  (a_f_errand_called:PySem.W.nsIn K mainGlobals "errand_called"=some (some (.ref q39)))
  (l_f_errand_called:K.lookup q39=some ⟨q7A,q7x,.func (PySem.W.fnOf "errand_called" "errand_called" (q0E q10) (q0x q10) (q03 q10) .none q7B q7C q7D q7y q3Y q7E),q7z⟩)
  (c_f_errand_called:PySem.W.codeIn K q3Y "errand_called"=true)
  (k_f_errand_called:PySem.W.keepIn K (.ref q39)=true)
  (a_f_checked:PySem.W.nsIn K mainGlobals "checked"=some (some (.ref q8z)))
  (l_f_checked:K.lookup q8z=some ⟨w6H,w6E,.func (PySem.W.fnOf "checked" "checked" (q0E q36) (q0x q36) (q03 q36) .none w6I w6J w6K w6F w01 w6L),w6G⟩)
  (c_f_checked:PySem.W.codeIn K w01 "checked"=true)
  (k_f_checked:PySem.W.keepIn K (.ref q8z)=true)
  (a_f_seen_errand:PySem.W.nsIn K mainGlobals "seen_errand"=some (some (.ref q3R)))
  (l_f_seen_errand:K.lookup q3R=some ⟨q9j,q9g,.func (PySem.W.fnOf "seen_errand" "seen_errand" (q0E q14) (q0x q14) (q03 q14) .none q9k q9l q9m q9h q4V q9n),q9i⟩)
  (c_f_seen_errand:PySem.W.codeIn K q4V "seen_errand"=true)
  (k_f_seen_errand:PySem.W.keepIn K (.ref q3R)=true)
  (a_f_seen:PySem.W.nsIn K mainGlobals "seen"=some (some (.ref w8U)))
  (l_f_seen:K.lookup w8U=some ⟨x37,x34,.func (PySem.W.fnOf "seen" "seen" (q0E q7i) (q0x q7i) (q03 q7i) .none x38 x39 x3a x35 w8V x3b),x36⟩)
  (c_f_seen:PySem.W.codeIn K w8V "seen"=true)
  (k_f_seen:PySem.W.keepIn K (.ref w8U)=true)
  (a_f_with_errand:PySem.W.nsIn K mainGlobals "with_errand"=some (some (.ref q3S)))
  (l_f_with_errand:K.lookup q3S=some ⟨q9r,q9o,.func (PySem.W.fnOf "with_errand" "with_errand" (q0E q15) (q0x q15) (q03 q15) .none q9s q9t q9u q9p q4W q9v),q9q⟩)
  (c_f_with_errand:PySem.W.codeIn K q4W "with_errand"=true)
  (k_f_with_errand:PySem.W.keepIn K (.ref q3S)=true)
  (a_f_without_errand:PySem.W.nsIn K mainGlobals "without_errand"=some (some (.ref q2P)))
  (l_f_without_errand:K.lookup q2P=some ⟨q6H,q6E,.func (PySem.W.fnOf "without_errand" "without_errand" (q0E q0N) (q0x q0N) (q03 q0N) .none q6I q6J q6K q6F q3x q6L),q6G⟩)
  (c_f_without_errand:PySem.W.codeIn K q3x "without_errand"=true)
  (k_f_without_errand:PySem.W.keepIn K (.ref q2P)=true)
  (a_f_law_cell_at:PySem.W.nsIn K mainGlobals "_law_cell_at"=some (some (.ref q3T)))
  (l_f_law_cell_at:K.lookup q3T=some ⟨q9z,q9w,.func (PySem.W.fnOf "_law_cell_at" "_law_cell_at" (q0E q1m) (q0x q1m) (q03 q1m) .none q9A q9B q9C q9x q4X q9D),q9y⟩)
  (c_f_law_cell_at:PySem.W.codeIn K q4X "_law_cell_at"=true)
  (k_f_law_cell_at:PySem.W.keepIn K (.ref q3T)=true)
  (a_f_law_mixed:PySem.W.nsIn K mainGlobals "_law_mixed"=some (some (.ref q5n)))
  (l_f_law_mixed:K.lookup q5n=some ⟨w2z,w2w,.func (PySem.W.fnOf "_law_mixed" "_law_mixed" (q0E q1V) (q0x q1V) (q03 q1V) .none w2A w2B w2C w2x q7n w2D),w2y⟩)
  (c_f_law_mixed:PySem.W.codeIn K q7n "_law_mixed"=true)
  (k_f_law_mixed:PySem.W.keepIn K (.ref q5n)=true)
  (a_f_law_word:PySem.W.nsIn K mainGlobals "_law_word"=some (some (.ref q6M)))
  (l_f_law_word:K.lookup q6M=some ⟨w3Z,w3W,.func (PySem.W.fnOf "_law_word" "_law_word" (q0E q2x) (q0x q2x) (q03 q2x) .none w40 w41 w42 w3X q8A w43),w3Y⟩)
  (c_f_law_word:PySem.W.codeIn K q8A "_law_word"=true)
  (k_f_law_word:PySem.W.keepIn K (.ref q6M)=true)
  (a_f_law_facts:PySem.W.nsIn K mainGlobals "_law_facts"=some (some (.ref q5o)))
  (l_f_law_facts:K.lookup q5o=some ⟨w2H,w2E,.func (PySem.W.fnOf "_law_facts" "_law_facts" (q0E q1W) (q0x q1W) (q03 q1W) .none w2I w2J w2K w2F q7o w2L),w2G⟩)
  (c_f_law_facts:PySem.W.codeIn K q7o "_law_facts"=true)
  (k_f_law_facts:PySem.W.keepIn K (.ref q5o)=true)
  (a_f_law_some:PySem.W.nsIn K mainGlobals "_law_some"=some (some (.ref q6N)))
  (l_f_law_some:K.lookup q6N=some ⟨w47,w44,.func (PySem.W.fnOf "_law_some" "_law_some" (q0E q26) (q0x q26) (q03 q26) .none w48 w49 w4a w45 q8B w4b),w46⟩)
  (c_f_law_some:PySem.W.codeIn K q8B "_law_some"=true)
  (k_f_law_some:PySem.W.keepIn K (.ref q6N)=true)
  (a_f_law_thin:PySem.W.nsIn K mainGlobals "_law_thin"=some (some (.ref q6O)))
  (l_f_law_thin:K.lookup q6O=some ⟨w4f,w4c,.func (PySem.W.fnOf "_law_thin" "_law_thin" (q0E q1t) (q0x q1t) (q03 q1t) .none w4g w4h w4i w4d q8C w4j),w4e⟩)
  (c_f_law_thin:PySem.W.codeIn K q8C "_law_thin"=true)
  (k_f_law_thin:PySem.W.keepIn K (.ref q6O)=true)
  (a_f_law_errand:PySem.W.nsIn K mainGlobals "_law_errand"=some (some (.ref q4m)))
  (l_f_law_errand:K.lookup q4m=some ⟨w0Y,w0V,.func (PySem.W.fnOf "_law_errand" "_law_errand" (q0E q1j) (q0x q1j) (q03 q1j) .none w0Z w10 w11 w0W q5Z w12),w0X⟩)
  (c_f_law_errand:PySem.W.codeIn K q5Z "_law_errand"=true)
  (k_f_law_errand:PySem.W.keepIn K (.ref q4m)=true)
  (a_f_law_book:PySem.W.nsIn K mainGlobals "_law_book"=some (some (.ref q6P)))
  (l_f_law_book:K.lookup q6P=some ⟨w4n,w4k,.func (PySem.W.fnOf "_law_book" "_law_book" (q0E q27) (q0x q27) (q03 q27) .none w4o w4p w4q w4l q8D w4r),w4m⟩)
  (c_f_law_book:PySem.W.codeIn K q8D "_law_book"=true)
  (k_f_law_book:PySem.W.keepIn K (.ref q6P)=true)
  (a_f_law_want:PySem.W.nsIn K mainGlobals "_law_want"=some (some (.ref q6Q)))
  (l_f_law_want:K.lookup q6Q=some ⟨w4v,w4s,.func (PySem.W.fnOf "_law_want" "_law_want" (q0E q2y) (q0x q2y) (q03 q2y) .none w4w w4x w4y w4t q8E w4z),w4u⟩)
  (c_f_law_want:PySem.W.codeIn K q8E "_law_want"=true)
  (k_f_law_want:PySem.W.keepIn K (.ref q6Q)=true)
  (a_f_law_case:PySem.W.nsIn K mainGlobals "_law_case"=some (some (.ref q6R)))
  (l_f_law_case:K.lookup q6R=some ⟨w4D,w4A,.func (PySem.W.fnOf "_law_case" "_law_case" (q0E q2A) (q0x q2A) (q03 q2A) .none w4E w4F w4G w4B q8F w4H),w4C⟩)
  (c_f_law_case:PySem.W.codeIn K q8F "_law_case"=true)
  (k_f_law_case:PySem.W.keepIn K (.ref q6R)=true)
  (a_f_law_bad_state:PySem.W.nsIn K mainGlobals "_law_bad_state"=some (some (.ref q3a)))
  (l_f_law_bad_state:K.lookup q3a=some ⟨q7I,q7F,.func (PySem.W.fnOf "_law_bad_state" "_law_bad_state" (q0E q11) (q0x q11) (q03 q11) .none q7J q7K q7L q7G q3Z q7M),q7H⟩)
  (c_f_law_bad_state:PySem.W.codeIn K q3Z "_law_bad_state"=true)
  (k_f_law_bad_state:PySem.W.keepIn K (.ref q3a)=true)
  (a_f_law:PySem.W.nsIn K mainGlobals "law"=some (some (.ref x3c)))
  (l_f_law:K.lookup x3c=some ⟨x5v,x5t,.func (PySem.W.fnOf "law" "law" (q0E q5X) (q0x q5X) (q03 q5X) .none x1u x1v x1w x1t w8W x1x),x5u⟩)
  (c_f_law:PySem.W.codeIn K w8W "law"=true)
  (k_f_law:PySem.W.keepIn K (.ref x3c)=true)
  : ∃ fd:FuncData,(∀ (s:Shared) (v:Value),BindsTo s fd ⟨[v],[]⟩ [("_law_script",v)])/\∀ base:Heap,K.In base->base.Ns mainGlobals mg->w2R l.prog w K mg base (CXR l.prog w) 9 fa fd ["_law_script"] (spO K w8n):=by
 have e:=hfa.symm.trans (PySem.W.mg_of X G a_f_law)
 cases e
 refine ⟨PySem.W.fnOf "law" "law" (q0E q5X) (q0x q5X) (q03 q5X) .none x1u x1v x1w x1t w8W x1x,fun s v=>.of_eq rfl,fun base X G=>?_⟩
 have B:Bi mg:=⟨PySem.W.mg_none_of X G z_len,PySem.W.mg_none_of X G z_isinstance,PySem.W.mg_none_of X G z_all,PySem.W.mg_none_of X G z_any,PySem.W.mg_none_of X G z_zip,PySem.W.mg_none_of X G z_tuple,PySem.W.mg_none_of X G z_list,PySem.W.mg_none_of X G z_sorted,PySem.W.mg_none_of X G z_set,PySem.W.mg_none_of X G z_range,PySem.W.mg_none_of X G z_enumerate,PySem.W.mg_none_of X G z_dict,PySem.W.mg_none_of X G z_sum,PySem.W.mg_none_of X G z_max,PySem.W.mg_none_of X G z_min,PySem.W.mg_none_of X G z_reversed,PySem.W.mg_none_of X G z_str,PySem.W.mg_none_of X G z_int,PySem.W.mg_none_of X G z_bool⟩
 have q3j:∃ t,mg "MOST_LETTERS"=some (.int 6 t):=⟨_,PySem.W.mg_of X G q3m⟩
 have q4i:∃ t,mg "MOST_PRICE"=some (.int 9 t):=⟨_,PySem.W.mg_of X G q4o⟩
 have q4j:∃ t,mg "MOST_FACTS"=some (.int 6 t):=⟨_,PySem.W.mg_of X G q4p⟩
 have q1s:∃ t,mg "MOST_ERRANDS"=some (.int 6 t):=⟨_,PySem.W.mg_of X G q3n⟩
 let cls:Str->Addr:=x6j [("NoBook",q0j),("NoState",q1M),("NoWant",q2E),("NoErrand",q0a),("NoRow",q3k),("NoWay",q3l),("NoPaper",q1N),("NoFacts",q0f),("NoNumber",q1u),("Nothing",q1O),("NoText",q2F),("PlanError",q1a)]
 have w0J:Er mg base cls "NoBook":=x4s.er ⟨q60,q7V,q61⟩ X G rfl
 have q8s:Er mg base cls "NoFacts":=x4s.er ⟨q4q,q62,q4r⟩ X G rfl
 have q2w:Er mg base cls "NoErrand":=x4s.er ⟨q3y,q4K,q3z⟩ X G rfl
 have q5A:=q1c (st:=q2s) l_f_law_which c_f_law_which k_f_law_which
 have w4K:=q5A.binds (ps:=["_law_e"]) fun _ _ _ _ _ _ us hl=>by obtain ⟨_,rfl⟩:=ln1 hl;rfl
 have q4M:=q1c (st:=q25) l_f_law_told c_f_law_told k_f_law_told
 have q72:=q4M.binds (ps:=["_law_ask","_law_one","_law_other"]) fun _ _ _ _ _ _ us hl=>by obtain ⟨_,_,_,rfl⟩:=ln3 hl;rfl
 have q7p:=q1c (st:=q1i) l_f_share_none c_f_share_none k_f_share_none
 have w2M:=q7p.binds (ps:=["one","other"]) fun _ _ _ _ _ _ us hl=>by obtain ⟨_,_,rfl⟩:=ln2 hl;rfl
 have w2N:=q1c (st:=q2M) l_f_is_word c_f_is_word k_f_is_word
 have w8X:=w2N.binds (ps:=["thing"]) fun _ _ _ _ _ _ us hl=>by obtain ⟨_,rfl⟩:=ln1 hl;rfl
 have q3h:=q1c (st:=q0w) l_f_are_rising_words c_f_are_rising_words k_f_are_rising_words
 have q68:=q3h.binds (ps:=["thing"]) fun _ _ _ _ _ _ us hl=>by obtain ⟨_,rfl⟩:=ln1 hl;rfl
 have q8W:=q1c (st:=q1C) l_f_are_facts c_f_are_facts k_f_are_facts
 have w4L:=q8W.binds (ps:=["book_facts","thing"]) fun _ _ _ _ _ _ us hl=>by obtain ⟨_,_,rfl⟩:=ln2 hl;rfl
 have w02:=q1c (st:=q2t) l_f_is_whole c_f_is_whole k_f_is_whole
 have w6M:=w02.binds (ps:=["thing","least","most"]) fun _ _ _ _ _ _ us hl=>by obtain ⟨_,_,_,rfl⟩:=ln3 hl;rfl
 have q8X:=q1c (st:=q1D) l_f_is_errand c_f_is_errand k_f_is_errand
 have w4M:=q8X.binds (ps:=["book_facts","thing"]) fun _ _ _ _ _ _ us hl=>by obtain ⟨_,_,rfl⟩:=ln2 hl;rfl
 have w2O:=q1c (st:=q2h) l_f_is_book c_f_is_book k_f_is_book
 have w8Y:=w2O.binds (ps:=["thing"]) fun _ _ _ _ _ _ us hl=>by obtain ⟨_,rfl⟩:=ln1 hl;rfl
 have q4z:=q1c (st:=q10) l_f_errand_called c_f_errand_called k_f_errand_called
 have q8Y:=q4z.binds (ps:=["book","name"]) fun _ _ _ _ _ _ us hl=>by obtain ⟨_,_,rfl⟩:=ln2 hl;rfl
 have w2P:=q1c (st:=q36) l_f_checked c_f_checked k_f_checked
 have w8Z:=w2P.binds (ps:=["book"]) fun _ _ _ _ _ _ us hl=>by obtain ⟨_,rfl⟩:=ln1 hl;rfl
 have q69:=q1c (st:=q14) l_f_seen_errand c_f_seen_errand k_f_seen_errand
 have w15:=q69.binds (ps:=["errand","facts"]) fun _ _ _ _ _ _ us hl=>by obtain ⟨_,_,rfl⟩:=ln2 hl;rfl
 have x1y:=q1c (st:=q7i) l_f_seen c_f_seen k_f_seen
 have x5w:=x1y.binds (ps:=["book","facts"]) fun _ _ _ _ _ _ us hl=>by obtain ⟨_,_,rfl⟩:=ln2 hl;rfl
 have q6a:=q1c (st:=q15) l_f_with_errand c_f_with_errand k_f_with_errand
 have w16:=q6a.binds (ps:=["book","errand"]) fun _ _ _ _ _ _ us hl=>by obtain ⟨_,_,rfl⟩:=ln2 hl;rfl
 have q40:=q1c (st:=q0N) l_f_without_errand c_f_without_errand k_f_without_errand
 have q7N:=q40.binds (ps:=["book","name"]) fun _ _ _ _ _ _ us hl=>by obtain ⟨_,_,rfl⟩:=ln2 hl;rfl
 have q6b:=q1c (st:=q1m) l_f_law_cell_at c_f_law_cell_at k_f_law_cell_at
 have w17:=q6b.binds (ps:=["_law_script","_law_k"]) fun _ _ _ _ _ _ us hl=>by obtain ⟨_,_,rfl⟩:=ln2 hl;rfl
 have q8Z:=q1c (st:=q1V) l_f_law_mixed c_f_law_mixed k_f_law_mixed
 have w4N:=q8Z.binds (ps:=["_law_script","_law_k","_law_many"]) fun _ _ _ _ _ _ us hl=>by obtain ⟨_,_,_,rfl⟩:=ln3 hl;rfl
 have w03:=q1c (st:=q2x) l_f_law_word c_f_law_word k_f_law_word
 have w6N:=w03.binds (ps:=["_law_script","_law_at"]) fun _ _ _ _ _ _ us hl=>by obtain ⟨_,_,rfl⟩:=ln2 hl;rfl
 have q90:=q1c (st:=q1W) l_f_law_facts c_f_law_facts k_f_law_facts
 have w4O:=q90.binds (ps:=["_law_script","_law_at","_law_most"]) fun _ _ _ _ _ _ us hl=>by obtain ⟨_,_,_,rfl⟩:=ln3 hl;rfl
 have w04:=q1c (st:=q26) l_f_law_some c_f_law_some k_f_law_some
 have w6O:=w04.binds (ps:=["_law_script","_law_at","_law_facts_here","_law_part"]) fun _ _ _ _ _ _ us hl=>by obtain ⟨_,_,_,_,rfl⟩:=ln4 hl;rfl
 have w05:=q1c (st:=q1t) l_f_law_thin c_f_law_thin k_f_law_thin
 have w6P:=w05.binds (ps:=["_law_script","_law_at","_law_facts_here","_law_name"]) fun _ _ _ _ _ _ us hl=>by obtain ⟨_,_,_,_,rfl⟩:=ln4 hl;rfl
 have q7q:=q1c (st:=q1j) l_f_law_errand c_f_law_errand k_f_law_errand
 have w2Q:=q7q.binds (ps:=["_law_script","_law_at","_law_facts_here","_law_name"]) fun _ _ _ _ _ _ us hl=>by obtain ⟨_,_,_,_,rfl⟩:=ln4 hl;rfl
 have w06:=q1c (st:=q27) l_f_law_book c_f_law_book k_f_law_book
 have w6Q:=w06.binds (ps:=["_law_script","_law_at","_law_most","_law_many"]) fun _ _ _ _ _ _ us hl=>by obtain ⟨_,_,_,_,rfl⟩:=ln4 hl;rfl
 have w07:=q1c (st:=q2y) l_f_law_want c_f_law_want k_f_law_want
 have w6R:=w07.binds (ps:=["_law_script","_law_at","_law_facts_here"]) fun _ _ _ _ _ _ us hl=>by obtain ⟨_,_,_,rfl⟩:=ln3 hl;rfl
 have w08:=q1c (st:=q2A) l_f_law_case c_f_law_case k_f_law_case
 have w6S:=w08.binds (ps:=["_law_script","_law_most","_law_many"]) fun _ _ _ _ _ _ us hl=>by obtain ⟨_,_,_,rfl⟩:=ln3 hl;rfl
 have q4A:=q1c (st:=q11) l_f_law_bad_state c_f_law_bad_state k_f_law_bad_state
 have q91:=q4A.binds (ps:=["_law_script","_law_at","_law_facts_here"]) fun _ _ _ _ _ _ us hl=>by obtain ⟨_,_,_,rfl⟩:=ln3 hl;rfl
 have x6z:=q1c (st:=q5X) l_f_law c_f_law k_f_law
 have mc:∀ n∈whN,mg n=some (.ref (cls n)):=by
  intro n hn
  unfold whN at hn
  simp only [List.mem_cons,List.not_mem_nil,or_false] at hn
  rcases hn with rfl | rfl | rfl | rfl | rfl | rfl | rfl | rfl | rfl | rfl | rfl
  ·exact PySem.W.mg_of X G q60
  ·exact PySem.W.mg_of X G q8G
  ·exact PySem.W.mg_of X G w13
  ·exact PySem.W.mg_of X G q3y
  ·exact PySem.W.mg_of X G w4I
  ·exact PySem.W.mg_of X G w4J
  ·exact PySem.W.mg_of X G q8H
  ·exact PySem.W.mg_of X G q4q
  ·exact PySem.W.mg_of X G q6S
  ·exact PySem.W.mg_of X G q8I
  ·exact PySem.W.mg_of X G w14
 have HW:=w0G (P:=l.prog) (w:=w) (base:=base) q5A B (PySem.W.mg_none_of X G q4n) mc
 have W:Wh l.prog w K mg base cls "_law_which" whN whD:=by
  refine ⟨⟨_,_,_,HW,PySem.W.mg_of X G a_f_law_which,q5A.kp,w4K⟩,PySem.W.mg_of X G q3U,?_,fun y j h=>?_⟩
  ·obtain ⟨bm,o,_⟩:=(w1L X G q3U q5p q5q).2
   exact ⟨bm,o⟩
  ·unfold whD at h
   by_cases hy:y="NoBook"
   ·subst hy
    simp at h
    subst h
    obtain ⟨bm,o,mm⟩:=(w1L X G q60 q7V q61).2
    refine ⟨⟨q8N,q8O,q8P,q8Q,q8R,q8S,q61,by show (PySem.W.clsIn K q0j).isSome=true;rw [q4L];rfl⟩,fun i n hn=>?_,w8b q8U,⟨bm,o,mm _ q8V q8T⟩,by decide⟩
    unfold whN at hn
    match i,hn with
    | 0,hn=>simp at hn;subst hn;exact q0D q4L q63 s_NoBook_NoBook (by intro z;cases z)
    | 1,hn=>simp at hn;subst hn;exact q0D q4s q4t s_NoBook_NoState (by exact fun _=>n_NoBook_NoState)
    | 2,hn=>simp at hn;subst hn;exact q0D q64 q65 s_NoBook_NoWant (by exact fun _=>n_NoBook_NoWant)
    | 3,hn=>simp at hn;subst hn;exact q0D q32 q3A s_NoBook_NoErrand (by exact fun _=>n_NoBook_NoErrand)
    | 4,hn=>simp at hn;subst hn;exact q0D q8J q8K s_NoBook_NoRow (by exact fun _=>n_NoBook_NoRow)
    | 5,hn=>simp at hn;subst hn;exact q0D q8L q8M s_NoBook_NoWay (by exact fun _=>n_NoBook_NoWay)
    | 6,hn=>simp at hn;subst hn;exact q0D q4u q4v s_NoBook_NoPaper (by exact fun _=>n_NoBook_NoPaper)
    | 7,hn=>simp at hn;subst hn;exact q0D q3B q4w s_NoBook_NoFacts (by exact fun _=>n_NoBook_NoFacts)
    | 8,hn=>simp at hn;subst hn;exact q0D q3C q3D s_NoBook_NoNumber (by exact fun _=>n_NoBook_NoNumber)
    | 9,hn=>simp at hn;subst hn;exact q0D q4x q4y s_NoBook_Nothing (by exact fun _=>n_NoBook_Nothing)
    | 10,hn=>simp at hn;subst hn;exact q0D q66 q67 s_NoBook_NoText (by exact fun _=>n_NoBook_NoText)
    | (i + 11),hn=>simp at hn
   rw [if_neg hy] at h
   by_cases hy:y="NoFacts"
   ·subst hy
    simp at h
    subst h
    obtain ⟨bm,o,mm⟩:=(w1L X G q4q q62 q4r).2
    refine ⟨⟨q6T,q6U,q6V,q6W,q6X,q6Y,q4r,by show (PySem.W.clsIn K q0f).isSome=true;rw [q3B];rfl⟩,fun i n hn=>?_,w8b q70,⟨bm,o,mm _ q71 q6Z⟩,by decide⟩
    unfold whN at hn
    match i,hn with
    | 0,hn=>simp at hn;subst hn;exact q0D q4L q63 s_NoFacts_NoBook (by exact fun _=>n_NoFacts_NoBook)
    | 1,hn=>simp at hn;subst hn;exact q0D q4s q4t s_NoFacts_NoState (by exact fun _=>n_NoFacts_NoState)
    | 2,hn=>simp at hn;subst hn;exact q0D q64 q65 s_NoFacts_NoWant (by exact fun _=>n_NoFacts_NoWant)
    | 3,hn=>simp at hn;subst hn;exact q0D q32 q3A s_NoFacts_NoErrand (by exact fun _=>n_NoFacts_NoErrand)
    | 4,hn=>simp at hn;subst hn;exact q0D q8J q8K s_NoFacts_NoRow (by exact fun _=>n_NoFacts_NoRow)
    | 5,hn=>simp at hn;subst hn;exact q0D q8L q8M s_NoFacts_NoWay (by exact fun _=>n_NoFacts_NoWay)
    | 6,hn=>simp at hn;subst hn;exact q0D q4u q4v s_NoFacts_NoPaper (by exact fun _=>n_NoFacts_NoPaper)
    | 7,hn=>simp at hn;subst hn;exact q0D q3B q4w s_NoFacts_NoFacts (by intro z;cases z)
    | 8,hn=>simp at hn;subst hn;exact q0D q3C q3D s_NoFacts_NoNumber (by exact fun _=>n_NoFacts_NoNumber)
    | 9,hn=>simp at hn;subst hn;exact q0D q4x q4y s_NoFacts_Nothing (by exact fun _=>n_NoFacts_Nothing)
    | 10,hn=>simp at hn;subst hn;exact q0D q66 q67 s_NoFacts_NoText (by exact fun _=>n_NoFacts_NoText)
    | (i + 11),hn=>simp at hn
   rw [if_neg hy] at h
   by_cases hy:y="NoErrand"
   ·subst hy
    simp at h
    subst h
    obtain ⟨bm,o,mm⟩:=(w1L X G q3y q4K q3z).2
    refine ⟨⟨q5r,q5s,q5t,q5u,q5v,q5w,q3z,by show (PySem.W.clsIn K q0a).isSome=true;rw [q32];rfl⟩,fun i n hn=>?_,w8b q5y,⟨bm,o,mm _ q5z q5x⟩,by decide⟩
    unfold whN at hn
    match i,hn with
    | 0,hn=>simp at hn;subst hn;exact q0D q4L q63 s_NoErrand_NoBook (by exact fun _=>n_NoErrand_NoBook)
    | 1,hn=>simp at hn;subst hn;exact q0D q4s q4t s_NoErrand_NoState (by exact fun _=>n_NoErrand_NoState)
    | 2,hn=>simp at hn;subst hn;exact q0D q64 q65 s_NoErrand_NoWant (by exact fun _=>n_NoErrand_NoWant)
    | 3,hn=>simp at hn;subst hn;exact q0D q32 q3A s_NoErrand_NoErrand (by intro z;cases z)
    | 4,hn=>simp at hn;subst hn;exact q0D q8J q8K s_NoErrand_NoRow (by exact fun _=>n_NoErrand_NoRow)
    | 5,hn=>simp at hn;subst hn;exact q0D q8L q8M s_NoErrand_NoWay (by exact fun _=>n_NoErrand_NoWay)
    | 6,hn=>simp at hn;subst hn;exact q0D q4u q4v s_NoErrand_NoPaper (by exact fun _=>n_NoErrand_NoPaper)
    | 7,hn=>simp at hn;subst hn;exact q0D q3B q4w s_NoErrand_NoFacts (by exact fun _=>n_NoErrand_NoFacts)
    | 8,hn=>simp at hn;subst hn;exact q0D q3C q3D s_NoErrand_NoNumber (by exact fun _=>n_NoErrand_NoNumber)
    | 9,hn=>simp at hn;subst hn;exact q0D q4x q4y s_NoErrand_Nothing (by exact fun _=>n_NoErrand_Nothing)
    | 10,hn=>simp at hn;subst hn;exact q0D q66 q67 s_NoErrand_NoText (by exact fun _=>n_NoErrand_NoText)
    | (i + 11),hn=>simp at hn
   ·rw [if_neg hy] at h
    cases h
 have q3g:=w0I (P:=l.prog) (w:=w) (base:=base) (cls:=cls) q7p (PySem.W.mg_of X G a_f_share_none) w2M B
 have q3w:=w6g (P:=l.prog) (w:=w) (base:=base) (cls:=cls) w2N (PySem.W.mg_of X G a_f_is_word) w8X B q3j
 have q0W:=q59 (P:=l.prog) (w:=w) (base:=base) (cls:=cls) q3h (PySem.W.mg_of X G a_f_are_rising_words) q68 B q3w
 have q2u:=w24 (P:=l.prog) (w:=w) (base:=base) (cls:=cls) q8W (PySem.W.mg_of X G a_f_are_facts) w4L B q0W
 have q6u:=w3w (P:=l.prog) (w:=w) (base:=base) (cls:=cls) w02 (PySem.W.mg_of X G a_f_is_whole) w6M B
 have q2v:=w25 (P:=l.prog) (w:=w) (base:=base) (cls:=cls) q8X (PySem.W.mg_of X G a_f_is_errand) w4M B q3w q6u q2u q3g q4i
 have q8r:=w6h (P:=l.prog) (w:=w) (base:=base) (cls:=cls) w2O (PySem.W.mg_of X G a_f_is_book) w8Y B q0W q2v q4j q1s
 have q1f:=q7v (P:=l.prog) (w:=w) (base:=base) (cls:=cls) q4z (PySem.W.mg_of X G a_f_errand_called) q8Y B
 have q2i:=w6j (P:=l.prog) (w:=w) (base:=base) (cls:=cls) w2P (PySem.W.mg_of X G a_f_checked) w8Z B q8r w0J
 have q3O:=q9c (P:=l.prog) (w:=w) (base:=base) (cls:=cls) q69 (PySem.W.mg_of X G a_f_seen_errand) w15 B
 have x5x:=x33 (P:=l.prog) (w:=w) (base:=base) (cls:=cls) x1y (PySem.W.mg_of X G a_f_seen) x5w B q2i q2u q3O q8s
 have w18:=q9d (P:=l.prog) (w:=w) (base:=base) (cls:=cls) q6a (PySem.W.mg_of X G a_f_with_errand) w16 B q2i q2v q1f q2w q1s
 have q7O:=q6x (P:=l.prog) (w:=w) (base:=base) (cls:=cls) q40 (PySem.W.mg_of X G a_f_without_errand) q7N B q2i q1f q2w
 have q3P:=q9f (P:=l.prog) (w:=w) (base:=base) (cls:=cls) q6b (PySem.W.mg_of X G a_f_law_cell_at) w17 B
 have q09:=w26 (P:=l.prog) (w:=w) (base:=base) (cls:=cls) q8Z (PySem.W.mg_of X G a_f_law_mixed) w4N B q3P
 have q30:=w3x (P:=l.prog) (w:=w) (base:=base) (cls:=cls) w03 (PySem.W.mg_of X G a_f_law_word) w6N B q09
 have q5a:=w27 (P:=l.prog) (w:=w) (base:=base) (cls:=cls) q90 (PySem.W.mg_of X G a_f_law_facts) w4O B q30 q09
 have q31:=w3z (P:=l.prog) (w:=w) (base:=base) (cls:=cls) w04 (PySem.W.mg_of X G a_f_law_some) w6O B q09
 have q6y:=w3A (P:=l.prog) (w:=w) (base:=base) (cls:=cls) w05 (PySem.W.mg_of X G a_f_law_thin) w6P B q09
 have q28:=w0K (P:=l.prog) (w:=w) (base:=base) (cls:=cls) q7q (PySem.W.mg_of X G a_f_law_errand) w2Q B q09 q6y
 have q6z:=w3B (P:=l.prog) (w:=w) (base:=base) (cls:=cls) w06 (PySem.W.mg_of X G a_f_law_book) w6Q B q5a q30 q28 q09
 have q6A:=w3C (P:=l.prog) (w:=w) (base:=base) (cls:=cls) w07 (PySem.W.mg_of X G a_f_law_want) w6R B q09
 have q6B:=w3D (P:=l.prog) (w:=w) (base:=base) (cls:=cls) w08 (PySem.W.mg_of X G a_f_law_case) w6S B q6z q09 q31 q6A
 have q37:=q7w (P:=l.prog) (w:=w) (base:=base) (cls:=cls) q4A (PySem.W.mg_of X G a_f_law_bad_state) q91 B q09
 have T_law_told_seen:=q57 (P:=l.prog) (w:=w) (base:=base) (cls:=cls) (k:=7) q4M (PySem.W.mg_of X G a_f_law_told) q72 W x5x (by decide) (by decide)
 have T_law_told_with_errand:=q57 (P:=l.prog) (w:=w) (base:=base) (cls:=cls) (k:=7) q4M (PySem.W.mg_of X G a_f_law_told) q72 W w18 (by decide) (by decide)
 have T_law_told_without_errand:=q57 (P:=l.prog) (w:=w) (base:=base) (cls:=cls) (k:=7) q4M (PySem.W.mg_of X G a_f_law_told) q72 W q7O (by decide) (by decide)
 exact (x5r (P:=l.prog) (w:=w) (base:=base) (cls:=cls) x6z B q6B q31 q37 q09 q28 T_law_told_seen T_law_told_with_errand T_law_told_without_errand).imp x4t
end Z
end
section
open PySem PySem.W PyProof.Rows
def PySem.W.Fast.tw11260774893622038009:Nat:=0
def PySem.W.Fast.tw10273931861181049151:Nat:=0
def PySem.W.Fast.tw13270116573278095075:Nat:=0
def PySem.W.Fast.tw7960408484980026010:Nat:=0
def PySem.W.Fast.tw13905017191768639334:Nat:=0
def PySem.W.Fast.tw13078025748120859560:Nat:=0
def PySem.W.Fast.tw16526904580674652149:Nat:=0
def PySem.W.Fast.tw1470967613488998317:Nat:=0
def PySem.W.Fast.tw17202517050472296234:Nat:=0
def PySem.W.Fast.tw1881547766951757015:Nat:=0
def PySem.W.Fast.tw15702634506158828432:Nat:=0
def PySem.W.Fast.tw11759704761941434458:Nat:=0
def PySem.W.Fast.tw17391375534724038552:Nat:=0
def PySem.W.Fast.tw5287140036687324227:Nat:=0
def PySem.W.Fast.tw11876322687377246518:Nat:=0
def PySem.W.Fast.tw5855531903054723667:Nat:=0
def PySem.W.Fast.tw9488029051528723961:Nat:=0
def PySem.W.Fast.tw3859503983158725924:Nat:=0
def PySem.W.Fast.tw11368455828535806601:Nat:=0
def PySem.W.Fast.tw16882242177328815781:Nat:=0
def PySem.W.Fast.tw14521449591464128683:Nat:=0
def PySem.W.Fast.tw11714453247801743912:Nat:=0
def PySem.W.Fast.tw10101221247048821667:Nat:=0
def PySem.W.Fast.tw11208681331744177086:Nat:=0
def PySem.W.Fast.tw8231250668654070455:Nat:=0
def PySem.W.Fast.tw15444268836979253921:Nat:=0
def PySem.W.Fast.tw9210825620966469398:Nat:=0
def PySem.W.Fast.tw12135362453504725627:Nat:=0
def PySem.W.Fast.tw15765463967665653171:Nat:=0
def PySem.W.Fast.tw17626058513270340325:Nat:=0
def PySem.W.Fast.tw12181351781506532530:Nat:=0
def PySem.W.Fast.tw10261391492628798874:Nat:=0
def PySem.W.Fast.tw18434928361190383921:Nat:=0
def PySem.W.Fast.tw11498490286413799492:Nat:=0
def PySem.W.Fast.tw13682785251789655387:Nat:=0
def PySem.W.Fast.tw2135675808783796521:Nat:=0
def PySem.W.Fast.tw3190285914753645873:Nat:=0
def PySem.W.Fast.tw4457043733506705819:Nat:=0
def PySem.W.Fast.tw6540361922703583471:Nat:=0
def PySem.W.Fast.tw12172576393000987845:Nat:=0
def PySem.W.Fast.tw1372034104517039828:Nat:=0
def PySem.W.Fast.tw467109477935757705:Nat:=0
def PySem.W.Fast.tw7565867914241355699:Nat:=0
def PySem.W.Fast.tw12305561157360047595:Nat:=0
theorem PySem.Challenge.cw_errands_k28_seen_holds : PySem.Challenge.rw_errands_k28_seen.Holds := by
 w_on;o_law;k_head;(case hw=>w_witness2)
 k_fill
 refine J.x6k (l:=PySem.Challenge.rw_errands_k28_seen) (k:=9) (x:="_law_script") (F0:=Z.w8n) rfl rfl ⟨rfl,by decide,by decide⟩ (fun w h Y=>PySem.W.kIn_of Y) ?F (fun ns _=>Z.law_true ns)
 case F =>
  intro w mg fa h KX G hmg
  refine' Z.x5s KX G hmg ?z_len ?z_isinstance ?z_all ?z_any ?z_zip ?z_tuple ?z_list ?z_sorted ?z_set ?z_range ?z_enumerate ?z_dict ?z_sum ?z_max ?z_min ?z_reversed ?z_str ?z_int ?z_bool ?q4n ?q3m ?q4o ?q4p ?q3n ?q60 ?q8G ?w13 ?q3y ?w4I ?w4J ?q8H ?q4q ?q6S ?q8I ?w14 ?q3U ?q7V ?q61 ?q62 ?q4r ?q4K ?q3z ?q5p ?q5q ?q4L ?q63 ?q4s ?q4t ?q64 ?q65 ?q32 ?q3A ?q8J ?q8K ?q8L ?q8M ?q4u ?q4v ?q3B ?q4w ?q3C ?q3D ?q4x ?q4y ?q66 ?q67 ?q8N ?q8O ?q8P ?q8Q ?q8R ?q8S ?q8T ?q8U ?q8V ?s_NoBook_NoBook ?s_NoBook_NoState ?n_NoBook_NoState ?s_NoBook_NoWant ?n_NoBook_NoWant ?s_NoBook_NoErrand ?n_NoBook_NoErrand ?s_NoBook_NoRow ?n_NoBook_NoRow ?s_NoBook_NoWay ?n_NoBook_NoWay ?s_NoBook_NoPaper ?n_NoBook_NoPaper ?s_NoBook_NoFacts ?n_NoBook_NoFacts ?s_NoBook_NoNumber ?n_NoBook_NoNumber ?s_NoBook_Nothing ?n_NoBook_Nothing ?s_NoBook_NoText ?n_NoBook_NoText ?q6T ?q6U ?q6V ?q6W ?q6X ?q6Y ?q6Z ?q70 ?q71 ?s_NoFacts_NoBook ?n_NoFacts_NoBook ?s_NoFacts_NoState ?n_NoFacts_NoState ?s_NoFacts_NoWant ?n_NoFacts_NoWant ?s_NoFacts_NoErrand ?n_NoFacts_NoErrand ?s_NoFacts_NoRow ?n_NoFacts_NoRow ?s_NoFacts_NoWay ?n_NoFacts_NoWay ?s_NoFacts_NoPaper ?n_NoFacts_NoPaper ?s_NoFacts_NoFacts ?s_NoFacts_NoNumber ?n_NoFacts_NoNumber ?s_NoFacts_Nothing ?n_NoFacts_Nothing ?s_NoFacts_NoText ?n_NoFacts_NoText ?q5r ?q5s ?q5t ?q5u ?q5v ?q5w ?q5x ?q5y ?q5z ?s_NoErrand_NoBook ?n_NoErrand_NoBook ?s_NoErrand_NoState ?n_NoErrand_NoState ?s_NoErrand_NoWant ?n_NoErrand_NoWant ?s_NoErrand_NoErrand ?s_NoErrand_NoRow ?n_NoErrand_NoRow ?s_NoErrand_NoWay ?n_NoErrand_NoWay ?s_NoErrand_NoPaper ?n_NoErrand_NoPaper ?s_NoErrand_NoFacts ?n_NoErrand_NoFacts ?s_NoErrand_NoNumber ?n_NoErrand_NoNumber ?s_NoErrand_Nothing ?n_NoErrand_Nothing ?s_NoErrand_NoText ?n_NoErrand_NoText ?a_f_law_which ?l_f_law_which ?c_f_law_which ?k_f_law_which ?a_f_law_told ?l_f_law_told ?c_f_law_told ?k_f_law_told ?a_f_share_none ?l_f_share_none ?c_f_share_none ?k_f_share_none ?a_f_is_word ?l_f_is_word ?c_f_is_word ?k_f_is_word ?a_f_are_rising_words ?l_f_are_rising_words ?c_f_are_rising_words ?k_f_are_rising_words ?a_f_are_facts ?l_f_are_facts ?c_f_are_facts ?k_f_are_facts ?a_f_is_whole ?l_f_is_whole ?c_f_is_whole ?k_f_is_whole ?a_f_is_errand ?l_f_is_errand ?c_f_is_errand ?k_f_is_errand ?a_f_is_book ?l_f_is_book ?c_f_is_book ?k_f_is_book ?a_f_errand_called ?l_f_errand_called ?c_f_errand_called ?k_f_errand_called ?a_f_checked ?l_f_checked ?c_f_checked ?k_f_checked ?a_f_seen_errand ?l_f_seen_errand ?c_f_seen_errand ?k_f_seen_errand ?a_f_seen ?l_f_seen ?c_f_seen ?k_f_seen ?a_f_with_errand ?l_f_with_errand ?c_f_with_errand ?k_f_with_errand ?a_f_without_errand ?l_f_without_errand ?c_f_without_errand ?k_f_without_errand ?a_f_law_cell_at ?l_f_law_cell_at ?c_f_law_cell_at ?k_f_law_cell_at ?a_f_law_mixed ?l_f_law_mixed ?c_f_law_mixed ?k_f_law_mixed ?a_f_law_word ?l_f_law_word ?c_f_law_word ?k_f_law_word ?a_f_law_facts ?l_f_law_facts ?c_f_law_facts ?k_f_law_facts ?a_f_law_some ?l_f_law_some ?c_f_law_some ?k_f_law_some ?a_f_law_thin ?l_f_law_thin ?c_f_law_thin ?k_f_law_thin ?a_f_law_errand ?l_f_law_errand ?c_f_law_errand ?k_f_law_errand ?a_f_law_book ?l_f_law_book ?c_f_law_book ?k_f_law_book ?a_f_law_want ?l_f_law_want ?c_f_law_want ?k_f_law_want ?a_f_law_case ?l_f_law_case ?c_f_law_case ?k_f_law_case ?a_f_law_bad_state ?l_f_law_bad_state ?c_f_law_bad_state ?k_f_law_bad_state ?a_f_law ?l_f_law ?c_f_law ?k_f_law
  (case z_len=>k_is)
  (case z_isinstance=>k_is)
  (case z_all=>k_is)
  (case z_any=>k_is)
  (case z_zip=>k_is)
  (case z_tuple=>k_is)
  (case z_list=>k_is)
  (case z_sorted=>k_is)
  (case z_set=>k_is)
  (case z_range=>k_is)
  (case z_enumerate=>k_is)
  (case z_dict=>k_is)
  (case z_sum=>k_is)
  (case z_max=>k_is)
  (case z_min=>k_is)
  (case z_reversed=>k_is)
  (case z_str=>k_is)
  (case z_int=>k_is)
  (case z_bool=>k_is)
  (case q4n=>k_is)
  (case q3m=>k_is)
  (case q4o=>k_is)
  (case q4p=>k_is)
  (case q3n=>k_is)
  (case q60=>k_is)
  (case q8G=>k_is)
  (case w13=>k_is)
  (case q3y=>k_is)
  (case w4I=>k_is)
  (case w4J=>k_is)
  (case q8H=>k_is)
  (case q4q=>k_is)
  (case q6S=>k_is)
  (case q8I=>k_is)
  (case w14=>k_is)
  (case q3U=>k_is)
  (case q7V=>k_exc)
  (case q61=>k_is)
  (case q62=>k_exc)
  (case q4r=>k_is)
  (case q4K=>k_exc)
  (case q3z=>k_is)
  (case q5p=>k_exc)
  (case q5q=>k_is)
  (case q4L=>k_is)
  (case q63=>k_is)
  (case q4s=>k_is)
  (case q4t=>k_is)
  (case q64=>k_is)
  (case q65=>k_is)
  (case q32=>k_is)
  (case q3A=>k_is)
  (case q8J=>k_is)
  (case q8K=>k_is)
  (case q8L=>k_is)
  (case q8M=>k_is)
  (case q4u=>k_is)
  (case q4v=>k_is)
  (case q3B=>k_is)
  (case q4w=>k_is)
  (case q3C=>k_is)
  (case q3D=>k_is)
  (case q4x=>k_is)
  (case q4y=>k_is)
  (case q66=>k_is)
  (case q67=>k_is)
  (case q8N=>k_is)
  (case q8O=>k_is)
  (case q8P=>k_is)
  (case q8Q=>k_is)
  (case q8R=>k_is)
  (case q8S=>k_is)
  (case q8T=>k_is)
  (case q8U=>k_is)
  (case q8V=>decide)
  (case s_NoBook_NoBook=>k_is)
  (case s_NoBook_NoState=>k_is)
  (case n_NoBook_NoState=>decide)
  (case s_NoBook_NoWant=>k_is)
  (case n_NoBook_NoWant=>decide)
  (case s_NoBook_NoErrand=>k_is)
  (case n_NoBook_NoErrand=>decide)
  (case s_NoBook_NoRow=>k_is)
  (case n_NoBook_NoRow=>decide)
  (case s_NoBook_NoWay=>k_is)
  (case n_NoBook_NoWay=>decide)
  (case s_NoBook_NoPaper=>k_is)
  (case n_NoBook_NoPaper=>decide)
  (case s_NoBook_NoFacts=>k_is)
  (case n_NoBook_NoFacts=>decide)
  (case s_NoBook_NoNumber=>k_is)
  (case n_NoBook_NoNumber=>decide)
  (case s_NoBook_Nothing=>k_is)
  (case n_NoBook_Nothing=>decide)
  (case s_NoBook_NoText=>k_is)
  (case n_NoBook_NoText=>decide)
  (case q6T=>k_is)
  (case q6U=>k_is)
  (case q6V=>k_is)
  (case q6W=>k_is)
  (case q6X=>k_is)
  (case q6Y=>k_is)
  (case q6Z=>k_is)
  (case q70=>k_is)
  (case q71=>decide)
  (case s_NoFacts_NoBook=>k_is)
  (case n_NoFacts_NoBook=>decide)
  (case s_NoFacts_NoState=>k_is)
  (case n_NoFacts_NoState=>decide)
  (case s_NoFacts_NoWant=>k_is)
  (case n_NoFacts_NoWant=>decide)
  (case s_NoFacts_NoErrand=>k_is)
  (case n_NoFacts_NoErrand=>decide)
  (case s_NoFacts_NoRow=>k_is)
  (case n_NoFacts_NoRow=>decide)
  (case s_NoFacts_NoWay=>k_is)
  (case n_NoFacts_NoWay=>decide)
  (case s_NoFacts_NoPaper=>k_is)
  (case n_NoFacts_NoPaper=>decide)
  (case s_NoFacts_NoFacts=>k_is)
  (case s_NoFacts_NoNumber=>k_is)
  (case n_NoFacts_NoNumber=>decide)
  (case s_NoFacts_Nothing=>k_is)
  (case n_NoFacts_Nothing=>decide)
  (case s_NoFacts_NoText=>k_is)
  (case n_NoFacts_NoText=>decide)
  (case q5r=>k_is)
  (case q5s=>k_is)
  (case q5t=>k_is)
  (case q5u=>k_is)
  (case q5v=>k_is)
  (case q5w=>k_is)
  (case q5x=>k_is)
  (case q5y=>k_is)
  (case q5z=>decide)
  (case s_NoErrand_NoBook=>k_is)
  (case n_NoErrand_NoBook=>decide)
  (case s_NoErrand_NoState=>k_is)
  (case n_NoErrand_NoState=>decide)
  (case s_NoErrand_NoWant=>k_is)
  (case n_NoErrand_NoWant=>decide)
  (case s_NoErrand_NoErrand=>k_is)
  (case s_NoErrand_NoRow=>k_is)
  (case n_NoErrand_NoRow=>decide)
  (case s_NoErrand_NoWay=>k_is)
  (case n_NoErrand_NoWay=>decide)
  (case s_NoErrand_NoPaper=>k_is)
  (case n_NoErrand_NoPaper=>decide)
  (case s_NoErrand_NoFacts=>k_is)
  (case n_NoErrand_NoFacts=>decide)
  (case s_NoErrand_NoNumber=>k_is)
  (case n_NoErrand_NoNumber=>decide)
  (case s_NoErrand_Nothing=>k_is)
  (case n_NoErrand_Nothing=>decide)
  (case s_NoErrand_NoText=>k_is)
  (case n_NoErrand_NoText=>decide)
  (case a_f_law_which=>k_is)
  (case l_f_law_which=>k_is)
  (case c_f_law_which=>k_is)
  (case k_f_law_which=>k_is)
  (case a_f_law_told=>k_is)
  (case l_f_law_told=>k_is)
  (case c_f_law_told=>k_is)
  (case k_f_law_told=>k_is)
  (case a_f_share_none=>k_is)
  (case l_f_share_none=>k_is)
  (case c_f_share_none=>k_is)
  (case k_f_share_none=>k_is)
  (case a_f_is_word=>k_is)
  (case l_f_is_word=>k_is)
  (case c_f_is_word=>k_is)
  (case k_f_is_word=>k_is)
  (case a_f_are_rising_words=>k_is)
  (case l_f_are_rising_words=>k_is)
  (case c_f_are_rising_words=>k_is)
  (case k_f_are_rising_words=>k_is)
  (case a_f_are_facts=>k_is)
  (case l_f_are_facts=>k_is)
  (case c_f_are_facts=>k_is)
  (case k_f_are_facts=>k_is)
  (case a_f_is_whole=>k_is)
  (case l_f_is_whole=>k_is)
  (case c_f_is_whole=>k_is)
  (case k_f_is_whole=>k_is)
  (case a_f_is_errand=>k_is)
  (case l_f_is_errand=>k_is)
  (case c_f_is_errand=>k_is)
  (case k_f_is_errand=>k_is)
  (case a_f_is_book=>k_is)
  (case l_f_is_book=>k_is)
  (case c_f_is_book=>k_is)
  (case k_f_is_book=>k_is)
  (case a_f_errand_called=>k_is)
  (case l_f_errand_called=>k_is)
  (case c_f_errand_called=>k_is)
  (case k_f_errand_called=>k_is)
  (case a_f_checked=>k_is)
  (case l_f_checked=>k_is)
  (case c_f_checked=>k_is)
  (case k_f_checked=>k_is)
  (case a_f_seen_errand=>k_is)
  (case l_f_seen_errand=>k_is)
  (case c_f_seen_errand=>k_is)
  (case k_f_seen_errand=>k_is)
  (case a_f_seen=>k_is)
  (case l_f_seen=>k_is)
  (case c_f_seen=>k_is)
  (case k_f_seen=>k_is)
  (case a_f_with_errand=>k_is)
  (case l_f_with_errand=>k_is)
  (case c_f_with_errand=>k_is)
  (case k_f_with_errand=>k_is)
  (case a_f_without_errand=>k_is)
  (case l_f_without_errand=>k_is)
  (case c_f_without_errand=>k_is)
  (case k_f_without_errand=>k_is)
  (case a_f_law_cell_at=>k_is)
  (case l_f_law_cell_at=>k_is)
  (case c_f_law_cell_at=>k_is)
  (case k_f_law_cell_at=>k_is)
  (case a_f_law_mixed=>k_is)
  (case l_f_law_mixed=>k_is)
  (case c_f_law_mixed=>k_is)
  (case k_f_law_mixed=>k_is)
  (case a_f_law_word=>k_is)
  (case l_f_law_word=>k_is)
  (case c_f_law_word=>k_is)
  (case k_f_law_word=>k_is)
  (case a_f_law_facts=>k_is)
  (case l_f_law_facts=>k_is)
  (case c_f_law_facts=>k_is)
  (case k_f_law_facts=>k_is)
  (case a_f_law_some=>k_is)
  (case l_f_law_some=>k_is)
  (case c_f_law_some=>k_is)
  (case k_f_law_some=>k_is)
  (case a_f_law_thin=>k_is)
  (case l_f_law_thin=>k_is)
  (case c_f_law_thin=>k_is)
  (case k_f_law_thin=>k_is)
  (case a_f_law_errand=>k_is)
  (case l_f_law_errand=>k_is)
  (case c_f_law_errand=>k_is)
  (case k_f_law_errand=>k_is)
  (case a_f_law_book=>k_is)
  (case l_f_law_book=>k_is)
  (case c_f_law_book=>k_is)
  (case k_f_law_book=>k_is)
  (case a_f_law_want=>k_is)
  (case l_f_law_want=>k_is)
  (case c_f_law_want=>k_is)
  (case k_f_law_want=>k_is)
  (case a_f_law_case=>k_is)
  (case l_f_law_case=>k_is)
  (case c_f_law_case=>k_is)
  (case k_f_law_case=>k_is)
  (case a_f_law_bad_state=>k_is)
  (case l_f_law_bad_state=>k_is)
  (case c_f_law_bad_state=>k_is)
  (case k_f_law_bad_state=>k_is)
  (case a_f_law=>k_is)
  (case l_f_law=>k_is)
  (case c_f_law=>k_is)
  (case k_f_law=>k_is)
end
