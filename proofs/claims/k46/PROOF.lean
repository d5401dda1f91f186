import PyProof.Rows.All
import Wide.All
import OpenK.AllK
import Wide.FinOn
import Lean
import PyProof.EqAt
import PyProof.EqKinds
import PyProof.NeKinds
import PyProof.TupleCall
import PySem.Challenge.RW_roofridges_k46_whole_rain_goes_down
set_option Elab.async false
set_option linter.all false
set_option exponentiation.threshold 500
set_option maxRecDepth 100000
set_option maxHeartbeats 4000000
theorem zLm {α β}{l:List α} (f:α->β):(l.map f).length=l.length:=List.length_map f
theorem zGe {α}{l:List α}{i:Nat} (h:i<l.length):l[i]?=some l[i]:=List.getElem?_eq_getElem h
theorem zGd {α}{l:List α}{i:Nat}{a:α}:l.getD i a=l[i]?.getD a:=List.getD_eq_getElem?_getD
theorem zGs {α}{l:List α}{i:Nat}{a:α} (h:l[i]?=some a):∃ h:i<l.length,l[i]=a:=List.getElem?_eq_some_iff.mp h
theorem zMo {α}{l:List α}{i:Nat}{a:α} (h:l[i]?=some a):a∈l:=List.mem_of_getElem? h
theorem zBf:false≠true:=Bool.false_ne_true
namespace L2
open PySem PySem.Spec PyProof.Rows
abbrev Key:=Sum Int Str
def aKI:Key->Value->Bool
 | .inl k,v=>Value.isInt k v
 | .inr x,v=>Value.isStrOf x v
def keyH (w:World):Key->Int
 | .inl k=>hashInt k
 | .inr x=>hashStr w x
theorem dM:∀ {k:Key}{v:Value},aKI k v=true->(∃ i t,k=Sum.inl i/\v=Value.int i t)\/(∃ x t,k=Sum.inr x/\v=Value.str x t)
 | .inl i,v,h=>by
  obtain ⟨t,e⟩:=Value.isInt_shape (k:=i) (v:=v) h
  exact .inl ⟨i,t,rfl,e⟩
 | .inr x,v,h=>by
  obtain ⟨t,e⟩:=Value.isStrOf_shape (x:=x) (v:=v) h
  exact .inr ⟨x,t,rfl,e⟩
theorem aN9 (a b:Int):decide ((Sum.inl a:Key)=Sum.inl b)=(a == b):=by
 by_cases e:a=b
 ·subst e; simp
 ·have h:¬ (Sum.inl a:Key)=Sum.inl b:=fun q=>e (Sum.inl.inj q)
  rw [decide_eq_false h]
  exact (beq_eq_false_iff_ne.mpr e).symm
theorem aO9 (a b:Str):decide ((Sum.inr a:Key)=Sum.inr b)=decide (a=b):=by
 by_cases e:a=b
 ·subst e; simp
 ·have h:¬ (Sum.inr a:Key)=Sum.inr b:=fun q=>e (Sum.inr.inj q)
  rw [decide_eq_false h,decide_eq_false e]
theorem aOX (a:Int) (b:Str):decide ((Sum.inl a:Key)=Sum.inr b)=false:=decide_eq_false (fun q=>nomatch q)
theorem aOY (a:Str) (b:Int):decide ((Sum.inr a:Key)=Sum.inl b)=false:=decide_eq_false (fun q=>nomatch q)
def wE (prog:Program) (w:World):PySem.KeyKind prog w Key where
 is:=aKI
 hash:=keyH w
 inj:=fun v a b ha hb=>by
  rcases dM ha with ⟨i,t,rfl,rfl⟩ | ⟨x,t,rfl,rfl⟩
  ·rcases dM hb with ⟨j,u,rfl,e⟩ | ⟨y,u,rfl,e⟩
   ·injection e with e1 _; rw [e1]
   ·exact nomatch e
  ·rcases dM hb with ⟨j,u,rfl,e⟩ | ⟨y,u,rfl,e⟩
   ·exact nomatch e
   ·injection e with e1 _; rw [e1]
 byValue:=fun k v h=>by
  rcases dM h with ⟨i,t,rfl,rfl⟩ | ⟨x,t,rfl,rfl⟩ <;> rfl
 pyHash:=fun hv h=>by
  rcases dM hv with ⟨i,t,rfl,rfl⟩ | ⟨x,t,rfl,rfl⟩
  ·exact wpAny_pyHash_int h
  ·exact wpAny_pyHash_str h
 eqBool:=fun hu hv h=>by
  rcases dM hu with ⟨i,t,rfl,rfl⟩ | ⟨x,t,rfl,rfl⟩
  ·rcases dM hv with ⟨j,u,rfl,rfl⟩ | ⟨y,u,rfl,rfl⟩
   ·rw [aN9] at h; exact wpAny_eqBool_int h
   ·rw [aOX] at h; exact SeqAt.EqAt.int_str i t y u _ _ _ _ h
  ·rcases dM hv with ⟨j,u,rfl,rfl⟩ | ⟨y,u,rfl,rfl⟩
   ·rw [aOY] at h; exact SeqAt.EqAt.str_int x t j u _ _ _ _ h
   ·rw [aO9] at h; exact wpAny_eqBool_str h
 «strs» := fun k x t v h=>by
  rcases dM h with ⟨i,u,rfl,e⟩ | ⟨y,u,rfl,e⟩
  ·exact nomatch e
  ·injection e with e1 _
   subst e1
   cases v <;> rfl
inductive V where
 | non | bl (b:Bool) | int (i:Int) | str (x:Str) | byt (b:Array UInt8) | flt (b:UInt64) | ref (a:Addr) | ty (n:String)
 deriving DecidableEq
def RelV:V->Value->Prop
 | .non,u=>u=Value.none
 | .bl b,u=>u=Value.bool b
 | .int i,u=>∃ t,u=Value.int i t
 | .str x,u=>∃ t,u=Value.str x t
 | .byt b,u=>∃ t,u=Value.bytes b t
 | .flt b,u=>∃ t,u=Value.float b t
 | .ref a,u=>u=Value.ref a
 | .ty n,u=>u=Value.type n
abbrev Vals:List V->List Value->Prop:=Paired RelV
theorem Vals.length {xs:List V}{us:List Value} (r:Vals xs us):xs.length=us.length:=Paired.length r
theorem Vals.get:∀ {xs:List V}{us:List Value}{i:Nat}{x:V},Vals xs us->xs[i]?=some x->∃ u,us[i]?=some u/\RelV x u
 | _,_,_,_, .nil,e=>by simp at e
 | _,_,0,_, .cons r _,e=>by simp at e; subst e; exact ⟨_,rfl,r⟩
 | _,_,i+1,x, .cons _ t,e=>by
  obtain ⟨u,h1,h2⟩:=Vals.get (i:=i) (x:=x) t (by simpa using e)
  exact ⟨u,by simpa using h1,h2⟩
theorem Vals.set {x:V}{u:Value} (r:RelV x u):∀ {xs:List V}{us:List Value} (i:Nat),Vals xs us->Vals (xs.set i x) (us.set i u)
 | _,_,_, .nil => .nil
 | _,_,0, .cons _ t => .cons r t
 | _,_,i+1, .cons q t => .cons q (Vals.set r i t)
theorem Vals.append:∀ {xs ys:List V}{us ws:List Value},Vals xs us->Vals ys ws->Vals (xs++ys) (us++ws)
 | _,_,_,_, .nil,s=>s
 | _,_,_,_, .cons r t,s => .cons r (Vals.append t s)
theorem Vals.take:∀ {xs:List V}{us:List Value} (n:Nat),Vals xs us->Vals (xs.take n) (us.take n)
 | _,_,0,_ => .nil
 | _,_,_+1, .nil => .nil
 | _,_,n+1, .cons r t => .cons r (Vals.take n t)
theorem Vals.drop:∀ {xs:List V}{us:List Value} (n:Nat),Vals xs us->Vals (xs.drop n) (us.drop n)
 | _,_,0,r=>r
 | _,_,_+1, .nil => .nil
 | _,_,n+1, .cons _ t=>Vals.drop n t
def RelO:Option V->Option Value->Prop
 | some v,some u=>RelV v u
 | none,none=>True
 | _,_=>False
def KV {κ:Type}:List (κ × V)->List (κ × Value)->Prop:=Paired fun (p:κ × V) (q:κ × Value)=>p.1=q.1/\RelV p.2 q.2
def kV:Key->V
 | .inl i => .int i
 | .inr x => .str x
inductive HO where
 /-- a list -/
 | lst (xs:List V)
 /-- a tuple (never changes) -/
 | tup (xs:List V)
 /-- a dict whose keys are ints and texts; one whose keys are tuples of ints and texts (the empty one is both) -/
 | dK (kvs:List (Key × V)) | dT (kvs:List (List Key × V))
 /-- a set of ints: its members,its size -/
 | set (S:Int->Bool) (n:Nat)
 /-- an instance of the class at C,its dict at dx,its attributes -/
 | ins (C dx:Addr) (fs:List (Str × V))
 /-- the dict of the instance at x -/
 | own (x:Addr)
 /-- the dict of an exception -/
 | xd (fs:List (Str × V))
 /-- a bound method,f of x -/
 | met (f x:Addr)
 /-- a range object lo,lo+1, .. below hi -/
 | rng (lo hi:Int)
 /-- a thing that is known to the object (the script; a dict while a loop walks it): read,never written while it is so -/
 | frz (o:Obj) (u:HO)
 /-- a code object's table -/
 | tbl (ps:Array Value)
 /-- any other thing,by what is true of its one object (a def of one's own: SetO a S n:=HO.ext fun h => ..) -/
 | ext (φ:Heap->Prop)
abbrev Hp:=Addr->Option HO
def upd (H:Hp) (a:Addr) (o:HO):Hp:=fun b=>if b=a then some o else H b
theorem bQ {H:Hp}{a:Addr}{o:HO}:upd H a o a=some o:=by unfold upd; rw [if_pos rfl]
theorem bF {H:Hp}{a b:Addr}{o:HO} (h:b≠a):upd H a o b=H b:=by unfold upd; rw [if_neg h]
theorem bT {H:Hp}{a b:Addr}{o:HO} (h:H a=some o) (h':H b=none):a≠b:=by
 intro e; subst e; rw [h] at h'; cases h'
section
variable (P:Program) (w:World)
def f8 (H:Hp) (h:Heap) (a:Addr):HO->Prop
 | .lst xs=>xs.length<=sizeLine/\∃ (its:List Value) (n:Nat),Vals xs its/\h.get? a=some { cls := .type "list", data := .seq its.toArray n }
 | .tup xs=>xs.length<=sizeLine/\∃ its:List Value,Vals xs its/\IsTup h a its.toArray
 | .dK kvs=>kvs.length<=sizeLine/\(a == sysModules)=false/\∃ vs,KV kvs vs/\h.DictOf (wE P w) a vs
 | .dT kvs=>kvs.length<=sizeLine/\(a == sysModules)=false/\∃ xs:List (List Key × Addr × Value),
   Paired (fun (p:List Key × V) (q:List Key × Addr × Value)=>p.1=q.1/\H q.2.1=some (.tup (p.1.map kV))/\RelV p.2 q.2.2) kvs xs /\
   ∃ o es ep,h.get? a=some o/\o.ExactDict/\o.data = .dict es ep/\es.toList=xs.map (entryOfKey (tupleKind (wE P w)))/\(xs.map (·.1)).Nodup
 | .set S n=>h.SetOf (intKind P w) a S n
 | .ins C dx fs=>H dx=some (.own a)/\fs.length<=1000/\dx≠a/\h.get? a=some (PySem.W.instObj C dx) /\
   ∃ mA,h.Ns1 dx mA/\(∀ f,RelO (fs.lookup f) (mA f))/\PySem.Within mA (fs.map (·.1))
 | .own _=>∃ o,h.get? a=some o
 | .xd fs=>∃ mA,h.Ns1 a mA/\∀ f,RelO (fs.lookup f) (mA f)
 | .rng lo hi=>∃ t u v,h.get? a=some { cls := .type "range", data := .fields #[.int lo t, .int hi u, .int 1 v] }
 | .frz o u=>h.get? a=some o/\f8 H h a u
 | .tbl ps=>h.get? a=some { cls := .none,data := .fields ps }
 | .met f x=>h.get? a=some (PySem.W.methodObj (.ref f) (.ref x))
 | .ext φ=>φ h/\(∃ o,h.get? a=some o)/\∀ h1 h2:Heap,φ h1->(∀ o,h1.get? a=some o->h2.get? a=some o)->φ h2
def HOk (H:Hp) (h:Heap):Prop:=∀ a o,H a=some o->f8 P w H h a o
end
section
variable {P:Program}{w:World}{H H':Hp}{h h':Heap}{a:Addr}{o:HO}
theorem f8.lt (x:f8 P w H h a o):a < h.objs.size:=by
 cases o with
 | lst xs=>obtain ⟨_,_,_,_,e⟩:=x; exact Heap.lt_size e
 | tup xs=>obtain ⟨_,_,_,p⟩:=x; exact p.lt
 | dK kvs=>obtain ⟨_,_,_,_,o,_,_,e,_⟩:=x; exact Heap.lt_size e
 | dT kvs=>obtain ⟨_,_,_,_,o,_,_,e,_⟩:=x; exact Heap.lt_size e
 | set S n=>obtain ⟨o,_,_,_,e,_⟩:=x; exact Heap.lt_size e
 | ins C dx fs=>obtain ⟨_,_,_,e,_⟩:=x; exact Heap.lt_size e
 | own y=>obtain ⟨_,e⟩:=x; exact Heap.lt_size e
 | xd fs=>obtain ⟨_,⟨_,_,_,e,_⟩,_⟩:=x; exact Heap.lt_size e
 | rng lo hi=>obtain ⟨_,_,_,e⟩:=x; exact Heap.lt_size e
 | frz ob u=>obtain ⟨e,_⟩:=x; exact Heap.lt_size e
 | tbl ps=>exact Heap.lt_size (show h.get? a=some _ from x)
 | met f y=>exact Heap.lt_size (show h.get? a=some _ from x)
 | ext φ=>obtain ⟨_,⟨_,e⟩,_⟩:=x; exact Heap.lt_size e
theorem Paired.mapP {α β:Type}{F G:α->β->Prop}:∀ {l₁:List α}{l₂:List β},Paired F l₁ l₂->(∀ a b,F a b->G a b)->Paired G l₁ l₂
 | _,_, .nil,_ => .nil
 | _,_, .cons r t,f => .cons (f _ _ r) (Paired.mapP t f)
theorem f8.stay (x:f8 P w H h a o) (k:∀ b u,(b=a\/H b=some (.own a))->h.get? b=some u->h'.get? b=some u)
  (ho:∀ b,H b=some (.own a)->H' b=some (.own a)) (ht:∀ b xs,H b=some (.tup xs)->H' b=some (.tup xs)):f8 P w H' h' a o:=by
 induction o with
 | lst xs=>obtain ⟨z,its,n,r,e⟩:=x; exact ⟨z,its,n,r,k _ _ (.inl rfl) e⟩
 | tup xs=>obtain ⟨z,its,r,ob,e,c⟩:=x; exact ⟨z,its,r,ob,k _ _ (.inl rfl) e,c⟩
 | dK kvs=>obtain ⟨z,y,vs,r,ob,es,ep,e,c⟩:=x; exact ⟨z,y,vs,r,ob,es,ep,k _ _ (.inl rfl) e,c⟩
 | dT kvs =>
  obtain ⟨z,y,xs,r,ob,es,ep,e,c⟩:=x
  exact ⟨z,y,xs,Paired.mapP r fun p q z=>⟨z.1,ht _ _ z.2.1,z.2.2⟩,ob,es,ep,k _ _ (.inl rfl) e,c⟩
 | set S n=>obtain ⟨ob,es,ep,t,e,c⟩:=x; exact ⟨ob,es,ep,t,k _ _ (.inl rfl) e,c⟩
 | ins C dx fs =>
  obtain ⟨d,z,ne,e,mA,⟨od,es,ep,e2,c⟩,r⟩:=x
  exact ⟨ho _ d,z,ne,k _ _ (.inl rfl) e,mA,⟨od,es,ep,k _ _ (.inr d) e2,c⟩,r⟩
 | own y=>obtain ⟨ob,e⟩:=x; exact ⟨ob,k _ _ (.inl rfl) e⟩
 | xd fs=>obtain ⟨mA,⟨od,es,ep,e,c⟩,r⟩:=x; exact ⟨mA,⟨od,es,ep,k _ _ (.inl rfl) e,c⟩,r⟩
 | rng lo hi=>obtain ⟨t,u,v,e⟩:=x; exact ⟨t,u,v,k _ _ (.inl rfl) e⟩
 | frz ob u ih=>obtain ⟨e,q⟩:=x; exact ⟨k _ _ (.inl rfl) e,ih q⟩
 | tbl ps =>
  have e:h.get? a=some { cls := .none,data := .fields ps }:=x
  show h'.get? a=some { cls := .none,data := .fields ps }
  exact k a _ (.inl rfl) e
 | met f y =>
  have e:h.get? a=some (PySem.W.methodObj (.ref f) (.ref y)):=x
  show h'.get? a=some (PySem.W.methodObj (.ref f) (.ref y))
  exact k a _ (.inl rfl) e
 | ext φ=>obtain ⟨p,⟨o,e⟩,st⟩:=x; exact ⟨st _ _ p fun o q=>k _ _ (.inl rfl) q,⟨o,k _ _ (.inl rfl) e⟩,st⟩
theorem HOk.lt (x:HOk P w H h) (e:H a=some o):a < h.objs.size:=(x a o e).lt
theorem HOk.fresh (x:HOk P w H h) (e:h.objs.size<=a):H a=none:=by
 cases q:H a with
 | none=>rfl
 | some u=>exact absurd (Nat.lt_of_lt_of_le (x.lt q) e) (Nat.lt_irrefl _)
theorem HOk.kept (x:HOk P w H h) (k:∀ b u,h.get? b=some u->h'.get? b=some u):HOk P w H h':=fun a o e =>
 (x a o e).stay (fun b u _ q=>k b u q) (fun _ q=>q) fun _ _ q=>q
theorem HOk.laid (x:HOk P w H h) (k:∀ b u,h.get? b=some u->h'.get? b=some u) (hp:h.objs.size<=a) (new:f8 P w (upd H a o) h' a o):HOk P w (upd H a o) h':=fun b u e=>by
 have hn:=x.fresh hp
 by_cases hb:b=a
 ·subst hb; rw [bQ] at e; cases e; exact new
 ·rw [bF hb] at e
  exact (x b u e).stay (fun c v _ q=>k c v q) (fun c q=>by rw [bF (bT q hn)]; exact q) fun c xs q=>by rw [bF (bT q hn)]; exact q
end
def Rd (H:Hp) (a:Addr) (u:HO):Prop:=H a=some u\/∃ o,H a=some (.frz o u)
theorem Rd.ok {P:Program}{w:World}{H:Hp}{h:Heap}{a:Addr}{u:HO} (r:Rd H a u) (x:HOk P w H h):f8 P w H h a u:=by
 rcases r with r | ⟨o,r⟩
 ·exact x a u r
 ·obtain ⟨_,q⟩:=x a _ r
  exact q
def Mut:Option HO->Prop
 | some (.lst _)=>True
 | some (.dK _)=>True
 | some (.dT _)=>True
 | some (.set _ _)=>True
 | some (.ins _ _ _)=>True
 | some (.ext _)=>True
 | _=>False
section
variable {P:Program}{w:World}{H:Hp}{h h':Heap}{x e:Addr}{o':HO}
theorem HOk.write (ok:HOk P w H h) (mu:Mut (H x)) (he:e=x\/H e=some (.own x)) (k:∀ b u,b≠e->h.get? b=some u->h'.get? b=some u) (heo:∃ u,h'.get? e=some u)
  (new:f8 P w (upd H x o') h' x o'):HOk P w (upd H x o') h':=fun b u q=>by
 have nown:∀ c y,H c=some (.own y)->c≠x:=fun c y r z=>by subst z; rw [r] at mu; exact mu
 have ntup:∀ c xs,H c=some (.tup xs)->c≠x:=fun c xs r z=>by subst z; rw [r] at mu; exact mu
 by_cases hb:b=x
 ·subst hb; rw [bQ] at q; cases q; exact new
 ·rw [bF hb] at q
  by_cases hbe:b=e
  ·have q':H b=some (.own x):=by
    rcases he with z | z
    ·exact absurd (hbe.trans z) hb
    ·rw [hbe]; exact z
   rw [q] at q'; cases q'
   obtain ⟨v,hv⟩:=heo
   exact ⟨v,by rw [hbe]; exact hv⟩
  ·refine (ok b u q).stay (fun c v hc r=>k c v ?_ r) (fun c r=>by rw [bF (nown c b r)]; exact r) fun c xs r=>by rw [bF (ntup c xs r)]; exact r
   rcases hc with rfl | hc
   ·exact hbe
   ·rintro rfl
    rcases he with z | z
    ·exact nown c b hc z
    ·rw [hc] at z; cases z; exact hb rfl
end
structure Un (fs ex:List Addr) (H H':Hp) (h h':Heap):Prop where
 keep:∀ b o,h.get? b=some o->H b=none->b ∉ fs->b ∉ ex->h'.get? b=some o
 slot:∀ b o,h.get? b=some o->H b=none->b∈fs->b ∉ ex->∃ sl,h'.get? b=some { o with slots:=sl }
 free:∀ b o,h.get? b=some o->H b=none->b ∉ ex->H' b=none
 there:∀ b o,h.get? b=some o->b ∉ ex->∃ o',h'.get? b=some o'
 tups:∀ b xs,H b=some (.tup xs)->H' b=some (.tup xs)
 frzs:∀ b o u,H b=some (.frz o u)->H' b=some (.frz o u)
 tbls:∀ b ps,H b=some (.tbl ps)->∃ more,H' b=some (.tbl (ps++more))
section
variable {fs fs' ex ex':List Addr}{H H1 H2:Hp}{h h1 h2 h':Heap}{a x e:Addr}{o:HO}
theorem Un.any (u:Un fs ex H H1 h h1) {b:Addr}{ob:Obj} (q:h.get? b=some ob) (n:H b=none) (hx:b ∉ ex):∃ sl,h1.get? b=some { ob with slots:=sl }:=by
 by_cases hb:b∈fs
 ·exact u.slot b ob q n hb hx
 ·exact ⟨ob.slots,u.keep b ob q n hb hx⟩
theorem Un.kept (k:∀ b u,h.get? b=some u->h'.get? b=some u):Un fs ex H H h h' :=
 ⟨fun b ob q _ _ _=>k b ob q,fun b ob q _ _ _=>⟨ob.slots,k b ob q⟩,fun _ _ _ n _=>n,fun b ob q _=>⟨ob,k b ob q⟩,fun _ _ q=>q,fun _ _ _ q=>q,fun _ ps q=>⟨#[],by rw [q]; simp⟩⟩
theorem Un.refl:Un fs ex H H h h:=Un.kept fun _ _ q=>q
theorem Un.laid (k:∀ b u,h.get? b=some u->h'.get? b=some u) (hp:h.objs.size<=a) (hn:H a=none):Un fs ex H (upd H a o) h h' where
 keep:=fun b u q _ _ _=>k b u q
 slot:=fun b u q _ _ _=>⟨u.slots,k b u q⟩
 free:=fun b u q n _=>by rw [bF (Nat.ne_of_lt (Nat.lt_of_lt_of_le (Heap.lt_size q) hp))]; exact n
 there:=fun b u q _=>⟨u,k b u q⟩
 tups:=fun b xs q=>by rw [bF (bT q hn)]; exact q
 frzs:=fun b u xs q=>by rw [bF (bT q hn)]; exact q
 tbls:=fun b ps q=>⟨#[],by rw [bF (bT q hn),q]; simp⟩
theorem Un.write (mu:Mut (H x)) (he:e=x\/H e=some (.own x)) (k:∀ b u,b≠e->h.get? b=some u->h'.get? b=some u) (heo:∃ u,h'.get? e=some u):Un fs ex H (upd H x o) h h':=by
 have hx:∀ b,H b=none->b≠x:=fun b n z=>by subst z; rw [n] at mu; exact mu
 have hb:∀ b,H b=none->b≠e:=fun b n z=>by
  subst z
  rcases he with r | r
  ·exact hx b n r
  ·rw [n] at r; cases r
 have hm:∀ b u,H b=some u->¬ Mut (some u)->b≠x:=fun b u q nm z=>by subst z; rw [q] at mu; exact nm mu
 refine ⟨fun b u q n _ _=>k b u (hb b n) q,fun b u q n _ _=>⟨u.slots,k b u (hb b n) q⟩,fun b u q n _=>by rw [bF (hx b n)]; exact n,fun b u q _ => ?_,
  fun b xs q=>by rw [bF (hm b _ q fun z=>z)]; exact q,fun b u xs q=>by rw [bF (hm b _ q fun z=>z)]; exact q,fun b ps q=>⟨#[],by rw [bF (hm b _ q fun z=>z),q]; simp⟩⟩
 by_cases hbe:b=e
 ·subst hbe; exact heo
 ·exact ⟨u,k b u hbe q⟩
end
def trk (h:Heap) (H:Hp):List Addr:=(List.range h.objs.size).filter fun a=>(H a).isSome
def pA (h:Heap) (H:Hp):Heap:=PySem.W.hideAll h (trk h H)
theorem aEP (h:Heap) (H:Hp):(pA h H).objs.size=h.objs.size:=PySem.W.hideAll_size _ _
theorem aHZ {h:Heap}{H:Hp}{b:Addr}{o:Obj} (e:h.get? b=some o) (n:H b=none):(pA h H).get? b=some o :=
 PySem.W.hideAll_get _ e fun hm=>by
  have q:(H b).isSome=true:=(List.mem_filter.mp hm).2
  rw [n] at q; simp at q
theorem aL3 {h:Heap}{H:Hp}{b:Addr}{o:Obj} (e:(pA h H).get? b=some o):h.get? b=some o/\H b=none:=by
 have e':h.get? b=some o:=PySem.W.of_hideAll (trk h H) e
 refine ⟨e',?_⟩
 cases q:H b with
 | none=>rfl
 | some x =>
  have hm:b∈trk h H:=List.mem_filter.mpr ⟨List.mem_range.mpr (Heap.lt_size e'),by simp [q]⟩
  have z:(pA h H).get? b=none:=PySem.W.hideAll_none (trk h H) hm
  rw [z] at e; cases e
def aK6 (g h:Heap) (L:Addr):List (Addr × Obj):=(List.range h.objs.size).filterMap fun a=>if a=L\/(g.get? a).isSome=true then none else (h.get? a).map fun o=>(a,o)
def rest (g h:Heap) (L d:Addr):List (Addr × Obj):=(aK6 g h L).filter fun p=>decide (p.1≠d)
end L2
namespace L2
open PySem PySem.Spec PyProof.Rows
structure Mod (K:PySem.W.Frag) (mg:Str->Option Value) (base:Heap):Prop where
 kin:K.In base
 glob:base.Ns mainGlobals mg
 blt:∃ mb,base.Ns builtinsNs mb/\∀ x:Str,x ≠ "__name__" -> mb x=bootBuiltins x
 nolimit:base.NoLimit
/-- the context: a def's body (or a comprehension's block) running. base: fixed through the whole law; s₀,H₀: the entry; outer: the frames whose slots others may change (a def's callers); stack: all frames that run;
   ex: iterators that were made ahead of the entry and are walked here (a comprehension's); fn: the names whose cells were made at the entry (a def: all; a comprehension's block: its own); calm: not within an except suite; pn: pins that every state bears; xe: what is wanted of an exception that leaves the code -/
structure Cx where
 prog:Program
 w:World
 K:PySem.W.Frag
 mg:Str->Option Value
 base:Heap
 A:Around
 N:List Str
 s₀:Shared
 H₀:Hp
 env:Env
 outer:List Env
 stack:List Env
 ex:List Addr
 fn:Str->Bool
 calm:Bool
 pn:List (Addr × Obj)
 xe:Value->Shared->Prop
def frs (l:List Env):List Addr:=l.filterMap (·.frame)
abbrev Cx.fs (X:Cx):List Addr:=frs X.outer
def Vis (sc:Scope) (x:Str):Prop:=sc.names.lookup x=some .local\/sc.names.lookup x=some .cell\/sc.names.lookup x=some .free
def Loc (sc:Scope) (x:Str):Prop:=sc.names.lookup x=some .local\/sc.names.lookup x=some .cell
def Look (env:Env) (h:Heap) (m:Str->Option Value) (x:Str) (u:Value):Prop :=
 (env.kindOf x=some .local/\m x=some u)\/((env.kindOf x=some .cell\/env.kindOf x=some .free)/\∃ c,env.cells.lookup x=some c/\h.IsCell c (some u))
structure Cx.Ok (X:Cx):Prop where
 mod:Mod X.K X.mg X.base
 kind:X.env.scope.kind = .function
 glob:X.env.globals=mainGlobals
 blt:X.env.builtins=builtinsNs
 above:X.s₀.heap.objs.size<=X.env.locals
 inj:∀ x y c,X.env.cells.lookup x=some c->X.env.cells.lookup y=some c->x=y
 has:∀ x,(X.env.kindOf x=some .cell\/X.env.kindOf x=some .free)->∃ c,X.env.cells.lookup x=some c
 cab:∀ x c,X.fn x=true->X.env.cells.lookup x=some c->X.s₀.heap.objs.size<=c
 hd:X.calm=true->X.A.handled=none
 frames:X.A.frames=some X.stack
 stk:X.stack=X.outer\/(X.stack=X.env::X.outer/\X.env.frame=some X.env.locals)
 exf:∀ b∈X.ex,b≠X.env.locals/\∀ x c,X.env.cells.lookup x=some c->c≠b
 bs:∀ b o,X.base.get? b=some o->X.s₀.heap.get? b=some o/\X.H₀ b=none
 bsz:X.base.objs.size<=X.s₀.heap.objs.size
 noex:∀ b o,X.base.get? b=some o->b ∉ X.ex
 exfs:∀ b∈X.ex,b ∉ X.fs
 funs:X.s₀.heap.FunFrames X.base X.outer
 frf:∀ b∈X.fs,X.H₀ b=none
structure Inv (X:Cx) (pins:List (Addr × Obj)) (σ:List (Option V)) (H:Hp) (s:Shared):Prop where
 ok:X.Ok
 os:s.os=X.s₀.os
 bare:AllBare s.gens
 base:Un X.fs X.ex X.H₀ H X.s₀.heap s.heap
 loc:∃ m,s.heap.Ns X.env.locals m/\∀ (i:Nat) (x:Str) (v:V),X.N[i]?=some x->σ[i]?=some (some v)->Vis X.env.scope x->∃ u,RelV v u/\Look X.env s.heap m x u
 cell:∀ x c,X.env.cells.lookup x=some c->∃ v,s.heap.IsCell c v
 free:H X.env.locals=none
 freeC:∀ x c,X.env.cells.lookup x=some c->H c=none
 pin:∀ p∈X.pn++pins,s.heap.get? p.1=some p.2/\H p.1=none/\p.1≠X.env.locals/\p.1 ∉ X.fs/\∀ v,p.2.data ≠ .cell v
 hok:HOk X.prog X.w H s.heap
 len:σ.length=X.N.length
section
variable {X:Cx}{pins:List (Addr × Obj)}{σ:List (Option V)}{H H':Hp}{s:Shared}{h':Heap}
theorem Cx.Ok.nofr (ok:X.Ok) {b:Addr}{o:Obj} (e:X.base.get? b=some o):b ∉ X.fs:=fun hb=>by
 have:=(ok.funs.mem hb).1
 rw [e] at this; cases this
theorem Inv.bs (I:Inv X pins σ H s):∀ b o,X.base.get? b=some o->s.heap.get? b=some o/\H b=none:=fun b o e =>
 ⟨I.base.keep b o (I.ok.bs b o e).1 (I.ok.bs b o e).2 (I.ok.nofr e) (I.ok.noex b o e),I.base.free b o (I.ok.bs b o e).1 (I.ok.bs b o e).2 (I.ok.noex b o e)⟩
theorem Inv.bk (I:Inv X pins σ H s):∀ b o,X.base.get? b=some o->s.heap.get? b=some o:=fun b o e=>(I.bs b o e).1
theorem Inv.mod (I:Inv X pins σ H s):Mod X.K X.mg X.base:=I.ok.mod
theorem Inv.kIn (I:Inv X pins σ H s):X.K.In s.heap:=I.ok.mod.kin.keeps I.bk
theorem Inv.lt (I:Inv X pins σ H s):X.env.locals < s.heap.objs.size:=let ⟨_,hn,_⟩:=I.loc; hn.lt
theorem Inv.sz (I:Inv X pins σ H s):X.s₀.heap.objs.size<=s.heap.objs.size:=Nat.le_trans I.ok.above (Nat.le_of_lt I.lt)
theorem Inv.nofs (I:Inv X pins σ H s) {a:Addr} (h:s.heap.objs.size<=a):a ∉ X.fs:=fun hb=>by
 obtain ⟨_,o,ho,_⟩:=I.ok.funs.mem hb
 exact absurd (Nat.lt_of_lt_of_le (Heap.lt_size ho) (Nat.le_trans I.sz h)) (Nat.lt_irrefl _)
theorem Inv.cne (I:Inv X pins σ H s):∀ x c,X.env.cells.lookup x=some c->c≠X.env.locals:=fun x c e z=>by
 obtain ⟨v,o,ho,hd⟩:=I.cell x c e
 obtain ⟨m,⟨o',es,ep,ho',hd',_⟩,_⟩:=I.loc
 rw [z,ho'] at ho; cases ho; rw [hd'] at hd; cases hd
theorem Inv.funs (I:Inv X pins σ H s):s.heap.FunFrames X.base X.outer:=by
 have all:∀ (l:List Env),(∀ b∈frs l,b∈X.fs)->X.s₀.heap.FunFrames X.base l->s.heap.FunFrames X.base l:=by
  intro l
  induction l with
  | nil=>intro _ _; trivial
  | cons env r ih =>
   intro hs hl
   obtain ⟨hk,⟨L,o,hf,hn,ho,hd⟩,hr⟩:=hl
   have hL:L∈X.fs:=hs L (by unfold frs; rw [List.filterMap_cons,hf]; exact List.mem_cons_self)
   obtain ⟨sl,e⟩:=I.base.slot L o ho (I.ok.frf L hL) hL fun z=>I.ok.exfs L z hL
   exact ⟨hk,⟨L,_,hf,hn,e,hd⟩,ih (fun b hb=>hs b (by unfold frs; rw [List.filterMap_cons,hf]; exact List.mem_cons_of_mem _ hb)) hr⟩
 exact all X.outer (fun _ hb=>hb) I.ok.funs
theorem Inv.stack (I:Inv X pins σ H s):s.heap.FunFrames X.base X.stack:=by
 rcases I.ok.stk with e | ⟨e,hf⟩
 ·rw [e]; exact I.funs
 ·rw [e]
  obtain ⟨m,hn,_⟩:=I.loc
  refine .cons (by rw [I.ok.kind]; decide) hf hn ?_ I.funs
  exact Heap.get?_none_of_le (Nat.le_trans I.ok.bsz I.ok.above)
theorem Inv.stkSub (I:Inv X pins σ H s):∀ b∈frs X.stack,b∈X.env.locals::X.fs:=fun b hb=>by
 rcases I.ok.stk with e | ⟨e,hf⟩
 ·rw [e] at hb; exact List.mem_cons_of_mem _ hb
 ·rw [e] at hb
  unfold frs at hb
  rw [List.filterMap_cons,hf] at hb
  exact hb
theorem Inv.stkFree (I:Inv X pins σ H s):∀ b∈frs X.stack,H b=none:=fun b hb=>by
 rcases List.mem_cons.mp (I.stkSub b hb) with e | hb
 ·rw [e]; exact I.free
 ·obtain ⟨_,o,ho,_⟩:=I.ok.funs.mem hb
  exact I.base.free b o ho (I.ok.frf b hb) fun z=>I.ok.exfs b z hb
theorem Inv.step {g':Array GenState}{t':Nat}{d':Drawn}{ch:List Addr} (I:Inv X pins σ H s)
  (hch:∀ b∈ch,(b∈X.ex\/X.s₀.heap.objs.size<=b)/\b≠X.env.locals/\(∀ x c,X.env.cells.lookup x=some c->c≠b)/\∀ p∈X.pn++pins,p.1≠b)
  (keep:∀ b o,b≠X.env.locals->b ∉ X.fs->b ∉ ch->s.heap.get? b=some o->H b=none->h'.get? b=some o)
  (slot:∀ b o,b≠X.env.locals->b∈X.fs->b ∉ ch->s.heap.get? b=some o->H b=none->∃ sl,h'.get? b=some { o with slots:=sl }) (free:∀ b o,b ∉ ch->s.heap.get? b=some o->H b=none->H' b=none)
  (there:∀ b o,b ∉ ch->s.heap.get? b=some o->∃ o',h'.get? b=some o')
  (tups:∀ b xs,H b=some (.tup xs)->H' b=some (.tup xs)) (frzs:∀ b o u,H b=some (.frz o u)->H' b=some (.frz o u)) (tbls:∀ b ps,H b=some (.tbl ps)->∃ more,H' b=some (.tbl (ps++more)))
  (ns:∀ m,s.heap.Ns X.env.locals m->h'.Ns X.env.locals m) (hok:HOk X.prog X.w H' h') (hg:AllBare g') :
  Inv X pins σ H' { s with heap:=h',gens:=g',drawn:=d',toks:=t' }:=by
 have neL:∀ b o,X.s₀.heap.get? b=some o->b≠X.env.locals:=fun b o e=>Nat.ne_of_lt (Nat.lt_of_lt_of_le (Heap.lt_size e) I.ok.above)
 have neC:∀ b o,X.s₀.heap.get? b=some o->b ∉ X.ex->b ∉ ch:=fun b o e hx hb=>by
  rcases (hch b hb).1 with z | z
  ·exact hx z
  ·exact absurd (Nat.lt_of_lt_of_le (Heap.lt_size e) z) (Nat.lt_irrefl _)
 have cellK:∀ x c,X.env.cells.lookup x=some c->∀ v,s.heap.IsCell c v->h'.IsCell c v:=fun x c e v ⟨o,ho,hd⟩=>by
  have nch:c ∉ ch:=fun z=>(hch c z).2.2.1 x c e rfl
  by_cases hc:c∈X.fs
  ·obtain ⟨sl,q⟩:=slot c o (I.cne x c e) hc nch ho (I.freeC x c e)
   exact ⟨_,q,hd⟩
  ·exact ⟨o,keep c o (I.cne x c e) hc nch ho (I.freeC x c e),hd⟩
 refine ⟨I.ok,I.os,hg,⟨fun b o e n hb hx => ?_,fun b o e n hb hx => ?_,fun b o e n hx => ?_,fun b o e hx => ?_,fun b xs e=>tups b xs (I.base.tups b xs e),fun b o xs e=>frzs b o xs (I.base.frzs b o xs e),fun b ps e => ?_⟩,?_,fun x c e => ?_,?_,fun x c e => ?_,fun p hp => ?_,hok,I.len⟩
 ·exact keep b o (neL b o e) hb (neC b o e hx) (I.base.keep b o e n hb hx) (I.base.free b o e n hx)
 ·obtain ⟨sl,e1⟩:=I.base.slot b o e n hb hx
  obtain ⟨sl',e2⟩:=slot b _ (neL b o e) hb (neC b o e hx) e1 (I.base.free b o e n hx)
  exact ⟨sl',e2⟩
 ·obtain ⟨o',e1⟩:=I.base.there b o e hx
  exact free b o' (neC b o e hx) e1 (I.base.free b o e n hx)
 ·obtain ⟨o',e1⟩:=I.base.there b o e hx
  exact there b o' (neC b o e hx) e1
 ·obtain ⟨m1,e1⟩:=I.base.tbls b ps e
  obtain ⟨m2,e2⟩:=tbls b _ e1
  exact ⟨m1++m2,by rw [e2,Array.append_assoc]⟩
 ·obtain ⟨m,hn,hl⟩:=I.loc
  refine ⟨m,ns m hn,fun i x v e1 e2 e3 => ?_⟩
  obtain ⟨u,r,l⟩:=hl i x v e1 e2 e3
  refine ⟨u,r,?_⟩
  rcases l with l | ⟨k,c,e,z⟩
  ·exact .inl l
  ·exact .inr ⟨k,c,e,cellK x c e _ z⟩
 ·obtain ⟨v,z⟩:=I.cell x c e
  exact ⟨v,cellK x c e v z⟩
 ·obtain ⟨m,⟨o,_,_,ho,_⟩,_⟩:=I.loc
  exact free _ o (fun z=>(hch _ z).2.1 rfl) ho I.free
 ·obtain ⟨v,o,ho,hd⟩:=I.cell x c e
  exact free c o (fun z=>(hch c z).2.2.1 x c e rfl) ho (I.freeC x c e)
 ·obtain ⟨e,n,ne,nf,d⟩:=I.pin p hp
  have nch:p.1 ∉ ch:=fun z=>(hch p.1 z).2.2.2 p hp rfl
  exact ⟨keep p.1 p.2 ne nf nch e n,free p.1 p.2 nch e n,ne,nf,d⟩
theorem Inv.un {t':Nat} (I:Inv X pins σ H s) (u:Un X.fs [] H H' s.heap h') (hok:HOk X.prog X.w H' h'):Inv X pins σ H' { s with heap:=h',toks:=t' }:=by
 obtain ⟨m,⟨o,es,ep,ho,r⟩,_⟩:=id I.loc
 obtain ⟨sl,hL⟩:=u.any ho I.free (by simp)
 exact I.step (g':=s.gens) (d':=s.drawn) (ch:=[]) (fun _ z=>nomatch z) (fun b o _ hb _ e n=>u.keep b o e n hb (by simp)) (fun b o _ hb _ e n=>u.slot b o e n hb (by simp)) (fun b o _ e n=>u.free b o e n (by simp)) (fun b o _ e=>u.there b o e (by simp)) u.tups u.frzs u.tbls (fun m' hm=>by
  obtain ⟨o',es',ep',ho',r'⟩:=hm
  rw [ho] at ho'; cases ho'
  exact ⟨_,es',ep',hL,r'⟩) hok I.bare
theorem Inv.call {g':Array GenState}{t':Nat}{d':Drawn}{ch:List Addr} (I:Inv X pins σ H s) (u:Un (frs X.stack) ch H H' s.heap h') (hok:HOk X.prog X.w H' h') (hg:AllBare g')
  (hch:∀ b∈ch,(b∈X.ex\/X.s₀.heap.objs.size<=b)/\b≠X.env.locals/\(∀ x c,X.env.cells.lookup x=some c->c≠b)/\∀ p∈X.pn++pins,p.1≠b) :
  Inv X pins σ H' { s with heap:=h',gens:=g',drawn:=d',toks:=t' }:=by
 obtain ⟨m,⟨o,es,ep,ho,r⟩,_⟩:=id I.loc
 obtain ⟨sl,hL⟩:=u.any ho I.free fun z=>(hch _ z).2.1 rfl
 exact I.step (ch:=ch) hch (fun b o hL hb hc e n=>u.keep b o e n (fun z=>(List.mem_cons.mp (I.stkSub b z)).elim hL hb) hc) (fun b o _ _ hc e n=>u.any e n hc) (fun b o hc e n=>u.free b o e n hc) (fun b o hc e=>u.there b o e hc) u.tups u.frzs u.tbls (fun m' hm=>by
  obtain ⟨o',es',ep',ho',r'⟩:=hm
  rw [ho] at ho'; cases ho'
  exact ⟨_,es',ep',hL,r'⟩) hok hg
theorem Inv.turned {t':Nat}{it:Addr} (I:Inv X pins σ H s) (k:∀ b o,b≠it->s.heap.get? b=some o->h'.get? b=some o) (hn:H it=none) (hL:it≠X.env.locals)
  (h1:it∈X.ex\/X.s₀.heap.objs.size<=it) (h2:∀ x c,X.env.cells.lookup x=some c->c≠it) (h3:∀ p∈X.pn++pins,p.1≠it):Inv X pins σ H { s with heap:=h',toks:=t' }:=by
 have nit:∀ b u,H b=some u->b≠it:=fun b u e z=>by rw [z,hn] at e; cases e
 refine I.step (g':=s.gens) (d':=s.drawn) (ch:=[it]) (fun b hb => ?_) (fun b o _ _ hc e _=>k b o (fun z=>hc (by simp [z])) e) (fun b o _ _ hc e _=>⟨o.slots,k b o (fun z=>hc (by simp [z])) e⟩) (fun _ _ _ _ n=>n)
  (fun b o hc e=>⟨o,k b o (fun z=>hc (by simp [z])) e⟩) (fun _ _ e=>e) (fun _ _ _ e=>e) (fun b ps e=>⟨#[],by rw [e]; simp⟩) (fun m hm => ?_) (fun b u e => ?_) I.bare
 ·have e:b=it:=by simpa using hb
  subst e
  exact ⟨h1,hL,h2,h3⟩
 ·obtain ⟨o,es,ep,ho,r⟩:=hm
  exact ⟨o,es,ep,k _ o (Ne.symm hL) ho,r⟩
 ·refine (I.hok b u e).stay (fun c v hc q=>k c v ?_ q) (fun _ q=>q) fun _ _ q=>q
  rcases hc with z | z
  ·rw [z]; exact nit b u e
  ·exact nit c _ z
theorem Inv.tok (I:Inv X pins σ H s) (t:Nat):Inv X pins σ H { s with toks:=t }:=I.un (h':=s.heap) (t':=t) Un.refl I.hok
theorem Inv.kept {t':Nat} (I:Inv X pins σ H s) (k:∀ b u,s.heap.get? b=some u->h'.get? b=some u):Inv X pins σ H { s with heap:=h',toks:=t' }:=I.un (Un.kept k) (I.hok.kept k)
theorem Inv.laid {a:Addr}{o:HO}{t':Nat} (I:Inv X pins σ H s) (k:∀ b u,s.heap.get? b=some u->h'.get? b=some u) (hp:s.heap.objs.size<=a) (new:f8 X.prog X.w (upd H a o) h' a o) :
  Inv X pins σ (upd H a o) { s with heap:=h',toks:=t' }:=I.un (Un.laid k hp (I.hok.fresh hp)) (I.hok.laid k hp new)
theorem Inv.write {x e:Addr}{o:HO}{t':Nat} (I:Inv X pins σ H s) (mu:Mut (H x)) (he:e=x\/H e=some (.own x)) (k:∀ b u,b≠e->s.heap.get? b=some u->h'.get? b=some u) (heo:∃ u,h'.get? e=some u)
  (new:f8 X.prog X.w (upd H x o) h' x o):Inv X pins σ (upd H x o) { s with heap:=h',toks:=t' }:=I.un (Un.write mu he k heo) (I.hok.write mu he k heo new)
theorem Inv.pins_of {pins':List (Addr × Obj)} (I:Inv X pins σ H s) (h:∀ p∈pins',s.heap.get? p.1=some p.2/\H p.1=none/\p.1≠X.env.locals/\p.1 ∉ X.fs/\∀ v,p.2.data ≠ .cell v):Inv X pins' σ H s :=
 ⟨I.ok,I.os,I.bare,I.base,I.loc,I.cell,I.free,I.freeC,fun p hp=>(List.mem_append.mp hp).elim (fun z=>I.pin p (List.mem_append_left _ z)) (h p),I.hok,I.len⟩
theorem zJ {N:List Str} (hN:N.Nodup) {i j:Nat}{x:Str} (a:N[i]?=some x) (b:N[j]?=some x):i=j:=by
 obtain ⟨h1,e1⟩:=zGs a
 obtain ⟨h2,e2⟩:=zGs b
 exact (List.getElem_inj hN).mp (e1.trans e2.symm)
theorem xQ {M:Model}{A:Around}{E:Value->Shared->Prop}{i:Nat}{x:Str}{v:V}{u:Value}{Q:Unit->Shared->Prop} (I:Inv X pins σ H s) (hN:X.N.Nodup) (hi:X.N[i]?=some x) (hx:Loc X.env.scope x) (r:RelV v u)
  (h:∀ s',Inv X pins (σ.set i (some v)) H s'->(∃ a,Heap.SameBut a s.heap s'.heap/\(a=X.env.locals\/X.env.cells.lookup x=some a))->Q () s') (hf:X.fn x=true\/X.env.scope.names.lookup x=some .local:=by first | exact .inl rfl | exact .inr rfl | assumption):wpAny M A (storeName X.env x u) Q E s:=by
 obtain ⟨m,hn,hl⟩:=id I.loc
 have hcls:(X.env.scope.kind == .class || (X.env.scope.kind == .module && X.env.locals != X.env.globals))=false:=by rw [I.ok.kind]; rfl
 have hiσ:i < σ.length:=by rw [I.len]; exact (zGs hi).1
 have cne:=I.cne
 have tracked:∀ {a:Addr}{h':Heap},(∃ o,s.heap.get? a=some o/\H a=none)->Heap.SameBut a s.heap h'->HOk X.prog X.w H h':=fun {a h'} ha hs b ob e=>by
  obtain ⟨_,_,hfree⟩:=ha
  refine (I.hok b ob e).stay (fun c w' hc q=>(hs.2 c ?_).trans q) (fun _ q=>q) fun _ _ q=>q
  rintro rfl
  rcases hc with rfl | hc
  ·rw [hfree] at e; cases e
  ·rw [hfree] at hc; cases hc
 rcases hx with hk | hk
 ·refine wpAny_storeName_local hk hn (fun h' hn' hs => ?_) hcls
  obtain ⟨oL,_,_,hoL,_⟩:=id hn
  refine h _ ⟨I.ok,I.os,I.bare,⟨fun b o e n hb hx => ?_,fun b o e n hb hx => ?_,I.base.free,fun b o e hx => ?_,I.base.tups,I.base.frzs,I.base.tbls⟩,⟨_,hn',fun j y v' e1 e2 e3 => ?_⟩,fun y c e => ?_,I.free,I.freeC,fun p hp => ?_,tracked ⟨oL,hoL,I.free⟩ hs,by simpa using I.len⟩ ⟨_,hs, .inl rfl⟩
  ·exact (hs.2 b (Nat.ne_of_lt (Nat.lt_of_lt_of_le (Heap.lt_size e) I.ok.above))).trans (I.base.keep b o e n hb hx)
  ·obtain ⟨sl,e1⟩:=I.base.slot b o e n hb hx
   exact ⟨sl,(hs.2 b (Nat.ne_of_lt (Nat.lt_of_lt_of_le (Heap.lt_size e) I.ok.above))).trans e1⟩
  ·obtain ⟨o',e1⟩:=I.base.there b o e hx
   exact ⟨o',(hs.2 b (Nat.ne_of_lt (Nat.lt_of_lt_of_le (Heap.lt_size e) I.ok.above))).trans e1⟩
  ·by_cases hj:j=i
   ·subst hj
    rw [hi] at e1; cases e1
    rw [List.getElem?_set_self hiσ] at e2
    cases e2
    exact ⟨u,r, .inl ⟨hk,by simp⟩⟩
   ·rw [List.getElem?_set_ne (Ne.symm hj)] at e2
    obtain ⟨u',r',q⟩:=hl j y v' e1 e2 e3
    refine ⟨u',r',?_⟩
    rcases q with ⟨k,e⟩ | ⟨k,c,e,z⟩
    ·refine .inl ⟨k,?_⟩
     have:y≠x:=fun e=>hj (zJ hN e1 (e ▸ hi))
     simp [this,e]
    ·exact .inr ⟨k,c,e,z.sameBut hs (cne y c e)⟩
  ·obtain ⟨w',z⟩:=I.cell y c e
   exact ⟨w',z.sameBut hs (cne y c e)⟩
  ·obtain ⟨e,n,ne,nf,d⟩:=I.pin p hp
   exact ⟨(hs.2 p.1 ne).trans e,n,ne,nf,d⟩
 ·have hfn:X.fn x=true:=by
   rcases hf with z | z
   ·exact z
   ·rw [z] at hk; cases hk
  obtain ⟨c,hc⟩:=I.ok.has x (.inl hk)
  obtain ⟨w',z⟩:=I.cell x c hc
  refine wpAny_storeName_cell I.ok.kind hk hc z (fun h' hc' hs => ?_)
  obtain ⟨oc,hoc,hocd⟩:=id z
  refine h { s with heap:=h' } ⟨I.ok,I.os,I.bare,⟨fun b o e n hb hx => ?_,fun b o e n hb hx => ?_,I.base.free,fun b o e hx => ?_,I.base.tups,I.base.frzs,I.base.tbls⟩,⟨m,hn.sameBut hs (Ne.symm (cne x c hc)),fun j y v' e1 e2 e3 => ?_⟩,fun y c' e => ?_,I.free,I.freeC,fun p hp => ?_,tracked ⟨oc,hoc,I.freeC x c hc⟩ hs,by simpa using I.len⟩ ⟨c,hs, .inr hc⟩
  ·exact (hs.2 b (Nat.ne_of_lt (Nat.lt_of_lt_of_le (Heap.lt_size e) (I.ok.cab x c hfn hc)))).trans (I.base.keep b o e n hb hx)
  ·obtain ⟨sl,e1⟩:=I.base.slot b o e n hb hx
   exact ⟨sl,(hs.2 b (Nat.ne_of_lt (Nat.lt_of_lt_of_le (Heap.lt_size e) (I.ok.cab x c hfn hc)))).trans e1⟩
  ·obtain ⟨o',e1⟩:=I.base.there b o e hx
   exact ⟨o',(hs.2 b (Nat.ne_of_lt (Nat.lt_of_lt_of_le (Heap.lt_size e) (I.ok.cab x c hfn hc)))).trans e1⟩
  ·by_cases hj:j=i
   ·subst hj
    rw [hi] at e1; cases e1
    rw [List.getElem?_set_self hiσ] at e2
    cases e2
    exact ⟨u,r, .inr ⟨.inl hk,c,hc,hc'⟩⟩
   ·rw [List.getElem?_set_ne (Ne.symm hj)] at e2
    obtain ⟨u',r',q⟩:=hl j y v' e1 e2 e3
    refine ⟨u',r',?_⟩
    rcases q with q | ⟨k,c',e,z'⟩
    ·exact .inl q
    ·refine .inr ⟨k,c',e,z'.sameBut hs ?_⟩
     rintro rfl
     exact hj (zJ hN e1 (I.ok.inj _ _ _ e hc ▸ hi))
  ·by_cases hcc:c'=c
   ·subst hcc; exact ⟨_,hc'⟩
   ·obtain ⟨w2,z2⟩:=I.cell y c' e
    exact ⟨w2,z2.sameBut hs hcc⟩
  ·obtain ⟨e,n,ne,nf,d⟩:=I.pin p hp
   refine ⟨(hs.2 p.1 ?_).trans e,n,ne,nf,d⟩
   intro q
   rw [q,hoc] at e
   have q':oc=p.2:=Option.some.inj e
   exact d w' (by rw [<- q']; exact hocd)
theorem pS {M:Model}{A:Around}{E:Value->Shared->Prop}{i:Nat}{x:Str}{v:V}{u:Value}{Q:Unit->Shared->Prop} (I:Inv X pins σ H s) (hN:X.N.Nodup) (hi:X.N[i]?=some x) (hx:Loc X.env.scope x) (r:RelV v u)
  (h:∀ s',Inv X pins (σ.set i (some v)) H s'->Q () s') (hf:X.fn x=true\/X.env.scope.names.lookup x=some .local:=by first | exact .inl rfl | exact .inr rfl | assumption):wpAny M A (storeName X.env x u) Q E s :=
 xQ I hN hi hx r (fun s' I' _=>h s' I') hf
theorem Inv.call' {s':Shared}{ch:List Addr} (I:Inv X pins σ H s) (ho:s'.os=s.os) (u:Un (frs X.stack) ch H H' s.heap s'.heap) (hok:HOk X.prog X.w H' s'.heap) (hg:AllBare s'.gens)
  (hch:∀ b∈ch,(b∈X.ex\/X.s₀.heap.objs.size<=b)/\b≠X.env.locals/\(∀ x c,X.env.cells.lookup x=some c->c≠b)/\∀ p∈X.pn++pins,p.1≠b):Inv X pins σ H' s':=by
 obtain ⟨h',g',d',t',o'⟩:=s'
 have e:o'=s.os:=ho
 subst e
 exact I.call (g':=g') (t':=t') (d':=d') u hok hg hch
end
abbrev XK:=Value->Option Addr->Hp->Prop
abbrev St:=List (Option V)
abbrev VK:=V->Hp->Prop
abbrev TE:=St->Hp->VK->Prop
abbrev TT:=St->Hp->(Bool->Hp->Prop)->Prop
abbrev TA:=St->Hp->(List V->Hp->Prop)->Prop
structure Ends where
 nx:St->Hp->Prop
 rt:VK
 bk:St->Hp->Prop:=fun _ _=>False
 ct:St->Hp->Prop:=fun _ _=>False
abbrev TS:=Ends->St->Hp->Prop
def EP (X:Cx) (pins:List (Addr × Obj)) (σ:St) (Q:VK) (u:Value) (s':Shared):Prop:=∃ v H',Inv X pins σ H' s'/\RelV v u/\Q v H'
def TP (X:Cx) (pins:List (Addr × Obj)) (σ:St) (Q:Bool->Hp->Prop) (b:Bool) (s':Shared):Prop:=∃ H',Inv X pins σ H' s'/\Q b H'
def AP (X:Cx) (pins:List (Addr × Obj)) (σ:St) (Q:List V->Hp->Prop) (us:List Value) (s':Shared):Prop:=∃ vs H',Inv X pins σ H' s'/\Vals vs us/\Q vs H'
def SP (X:Cx) (pins:List (Addr × Obj)) (D:Ends) (f:Flow) (s':Shared):Prop :=
 match f with
 | .next=>∃ σ' H',Inv X pins σ' H' s'/\D.nx σ' H'
 | .brk=>∃ σ' H',Inv X pins σ' H' s'/\D.bk σ' H'
 | .cont=>∃ σ' H',Inv X pins σ' H' s'/\D.ct σ' H'
 | .ret u=>∃ v σ' H',Inv X pins σ' H' s'/\RelV v u/\D.rt v H'
def PE (X:Cx) (e:Expr) (t:TE):Prop :=
 ∀ (pins:List (Addr × Obj)) (s:Shared) (σ:St) (H:Hp) (Q:VK),Inv X pins σ H s->t σ H Q->wpAny (model X.prog X.w) X.A (eval e X.env) (EP X pins σ Q) X.xe s
def PT (X:Cx) (e:Expr) (t:TT):Prop :=
 ∀ (pins:List (Addr × Obj)) (s:Shared) (σ:St) (H:Hp) (Q:Bool->Hp->Prop),Inv X pins σ H s->t σ H Q->wpAny (model X.prog X.w) X.A (isTrue e X.env (eval e X.env)) (TP X pins σ Q) X.xe s
def PW (X:Cx) (e:Expr) (t:TT):Prop :=
 ∀ (whole:Sem Value) (pins:List (Addr × Obj)) (s:Shared) (σ:St) (H:Hp) (Q:Bool->Hp->Prop),Inv X pins σ H s->t σ H Q->wpAny (model X.prog X.w) X.A (isTrue e X.env whole) (TP X pins σ Q) X.xe s
def PA (X:Cx) (es:List Expr) (t:TA):Prop :=
 ∀ (pos:Pos) (pins:List (Addr × Obj)) (s:Shared) (σ:St) (H:Hp) (Q:List V->Hp->Prop),Inv X pins σ H s->t σ H Q->wpAny (model X.prog X.w) X.A (spliced (backTo pos (starEach es X.env))) (AP X pins σ Q) X.xe s
def PS (X:Cx) (st:Stmt) (t:TS):Prop :=
 ∀ (pins:List (Addr × Obj)) (s:Shared) (σ:St) (H:Hp) (D:Ends),Inv X pins σ H s->t D σ H->wpAny (model X.prog X.w) X.A (exec st X.env) (SP X pins D) X.xe s
def PSs (X:Cx) (st:List Stmt) (t:TS):Prop :=
 ∀ (pins:List (Addr × Obj)) (s:Shared) (σ:St) (H:Hp) (D:Ends),Inv X pins σ H s->t D σ H->wpAny (model X.prog X.w) X.A (execs st X.env) (SP X pins D) X.xe s
theorem thn {α:Type}{t:Sem α}{Q Q':α->Shared->Prop}{M:Model}{A:Around}{E:Value->Shared->Prop}{s:Shared} (h:wpAny M A t Q E s) (hQ:∀ a s,Q a s->Q' a s):wpAny M A t Q' E s:=wpAny_mono h hQ fun _ _ x=>x
end L2
namespace L2
open PySem PySem.Spec PyProof.Rows
section
variable {X:Cx}
def tVar (i:Nat):TE:=fun σ H Q=>∃ v,σ[i]?=some (some v)/\Q v H
def tC (v:V):TE:=fun _ H Q=>Q v H
theorem aGT {i:Nat}{x:Str}{pos:Pos} (hN:X.N[i]?=some x) (hv:Vis X.env.scope x) (hd:(x == ("__debug__" : Str))=false:=by decide) (hcd:(x == ("__classdict__" : Str))=false:=by decide):PE X (.Name x pos) (tVar i):=by
 intro pins s σ H Q I h
 obtain ⟨v,e,h⟩:=h
 obtain ⟨m,hn,hl⟩:=I.loc
 obtain ⟨u,r,l⟩:=hl i x v hN e hv
 have fin:EP X pins σ Q u s:=⟨v,H,I,r,h⟩
 rcases l with ⟨hk,hm⟩ | ⟨hk,c,hc,hcell⟩
 ·exact wpAny_Name (wpAny_loadName_local I.ok.kind hk hn hm fin) hd
 ·rcases hk with hk | hk
  ·exact wpAny_Name (wpAny_loadName_cell I.ok.kind hk hc hcell fin) hd
  ·exact wpAny_Name (wpAny_loadName_free I.ok.kind hk hc hcell fin hcd) hd
theorem aNP {i j pos}:PE X (.Constant (.int i) j pos) (tC (.int i)):=fun _ _ _ H _ I h=>wpAny_Constant_int ⟨.int i,H,I.tok _,⟨_,rfl⟩,h⟩
theorem aQ0 {b j pos}:PE X (.Constant (.bool b) j pos) (tC (.bl b)):=fun _ _ _ H _ I h=>Constant_bool ⟨.bl b,H,I,rfl,h⟩
theorem aPA {j pos}:PE X (.Constant .none j pos) (tC .non):=fun _ _ _ H _ I h=>Constant_none ⟨.non,H,I,rfl,h⟩
theorem aOV {x j pos}:PE X (.Constant (.str x) j pos) (tC (.str x)):=fun _ _ _ H _ I h=>Calls.Constant_str ⟨.str x,H,I.tok _,⟨_,rfl⟩,h⟩
def Gl (X:Cx) (x:Str):Prop:=X.env.kindOf x=some .globalImplicit
theorem aBS {E:Value->Shared->Prop}{pins:List (Addr × Obj)}{s:Shared}{σ:St}{H:Hp}{x:Str}{u:Value}{pos:Pos}{Q:Value->Shared->Prop} (I:Inv X pins σ H s) (hg:Gl X x) (hm:X.mg x=some u) (h:Q u s)
  (hd:(x == ("__debug__" : Str))=false:=by decide):wpAny (model X.prog X.w) X.A (eval (.Name x pos) X.env) Q E s :=
 Calls.Name_function_global I.ok.kind hg (Calls.loadGlobal_global (by rw [I.ok.glob]; exact I.mod.glob.keeps I.bk) hm h) hd
theorem kP {E:Value->Shared->Prop}{pins:List (Addr × Obj)}{s:Shared}{σ:St}{H:Hp}{x:Str}{u:Value}{pos:Pos}{Q:Value->Shared->Prop} (I:Inv X pins σ H s) (hg:Gl X x) (hm:X.mg x=none) (hv:bootBuiltins x=some u) (h:Q u s)
  (hn:x ≠ "__name__" := by decide) (hd:(x == ("__debug__" : Str))=false:=by decide):wpAny (model X.prog X.w) X.A (eval (.Name x pos) X.env) Q E s:=by
 obtain ⟨mb,h1,h2⟩:=I.mod.blt
 exact Calls.Name_function_global I.ok.kind hg (Calls.loadGlobal_builtin (by rw [I.ok.glob]; exact I.mod.glob.keeps I.bk) hm (by rw [I.ok.blt]; exact h1.keeps I.bk) ((h2 x hn).trans hv) h) hd
theorem aCJ {x:Str}{v:V}{u:Value}{pos:Pos} (hg:Gl X x) (hm:X.mg x=some u) (r:RelV v u) (hd:(x == ("__debug__" : Str))=false:=by decide):PE X (.Name x pos) (tC v) :=
 fun _ _ _ H _ I h=>aBS I hg hm ⟨v,H,I,r,h⟩ hd
theorem aMO {x:Str}{v:V}{u:Value}{pos:Pos} (hg:Gl X x) (hm:X.mg x=none) (hv:bootBuiltins x=some u) (r:RelV v u) (hn:x ≠ "__name__" := by decide) (hd:(x == ("__debug__" : Str))=false:=by decide):PE X (.Name x pos) (tC v) :=
 fun _ _ _ H _ I h=>kP I hg hm hv ⟨v,H,I,r,h⟩ hn hd
variable {a b:Expr}{ta tb:TE}{pos:Pos}
def tB (t:TE):TT:=fun σ H Q=>t σ H fun x H1=>∃ c,x = .bl c/\Q c H1
theorem aPZ {e:Expr}{t:TE} (h:PE X e t) (he:∀ whole,isTrue e X.env whole=(do let v <- whole; standAt e.pos; holding [v] (truthy v)):=by intro _; rfl):PT X e (tB t):=by
 intro pins s σ H Q I hw
 refine isTrue_plain (thn (h pins s σ H _ I hw) fun v s1 ⟨x,H1,I1,r1,q1⟩ => ?_) (he _)
 obtain ⟨d,rfl,q⟩:=q1
 cases r1
 exact wpAny_truthy_bool ⟨H1,I1,q⟩
variable {tA tB':TT}{rest:List Expr}
def tAnd (t u:TT):TT:=fun σ H Q=>t σ H fun c H1=>if c=true then u σ H1 Q else Q false H1
def tOr (t u:TT):TT:=fun σ H Q=>t σ H fun c H1=>if c=true then Q true H1 else u σ H1 Q
def tNot (t:TT):TT:=fun σ H Q=>t σ H fun c H1=>Q (!c) H1
theorem aLG (ha:PT X a tA):PW X (.BoolOp .And [a] pos) tA:=by
 intro wh pins s σ H Q I h
 refine isTrue_and (thn (ha pins s σ H Q I h) fun c s1 e => ?_)
 cases c with
 | true=>exact isTrue_and_nil e
 | false=>exact e
theorem aNW (ha:PT X a tA):PW X (.BoolOp .Or [a] pos) tA:=by
 intro wh pins s σ H Q I h
 refine isTrue_or (thn (ha pins s σ H Q I h) fun c s1 e => ?_)
 cases c with
 | false=>exact isTrue_or_nil e
 | true=>exact e
theorem aO7 (ha:PT X a tA) (hb:PW X (.BoolOp .And (b::rest) pos) tB'):PW X (.BoolOp .And (a::b::rest) pos) (tAnd tA tB'):=by
 intro wh pins s σ H Q I h
 refine isTrue_and (thn (ha pins s σ H _ I h) fun c s1 ⟨H1,I1,q1⟩ => ?_)
 cases c with
 | true=>exact hb wh pins s1 σ H1 Q I1 q1
 | false=>exact ⟨H1,I1,q1⟩
theorem aQ6 (ha:PT X a tA) (hb:PW X (.BoolOp .Or (b::rest) pos) tB'):PW X (.BoolOp .Or (a::b::rest) pos) (tOr tA tB'):=by
 intro wh pins s σ H Q I h
 refine isTrue_or (thn (ha pins s σ H _ I h) fun c s1 ⟨H1,I1,q1⟩ => ?_)
 cases c with
 | true=>exact ⟨H1,I1,q1⟩
 | false=>exact hb wh pins s1 σ H1 Q I1 q1
theorem aNN (ha:PT X a tA):PT X (.UnaryOp .Not a pos) (tNot tA):=by
 intro pins s σ H Q I h
 exact isTrue_not (ha pins s σ H (fun c H1=>Q (!c) H1) I h)
def aQT (ta tb:TE):TE:=fun σ H Q=>ta σ H fun x H1=>∃ c,x = .bl c/\if c=true then tb σ H1 Q else Q (.bl false) H1
def tOrV (ta tb:TE):TE:=fun σ H Q=>ta σ H fun x H1=>∃ c,x = .bl c/\if c=true then Q (.bl true) H1 else tb σ H1 Q
def aP6 (ta:TE):TE:=fun σ H Q=>ta σ H fun x H1=>∃ c,x = .bl c/\Q (.bl (!c)) H1
theorem aOE {op}{t:TE} (h:PE X a t):PE X (.BoolOp op [a] pos) t:=fun pins s σ H Q I hw=>BoolOp_one (h pins s σ H Q I hw)
theorem aN0 (ha:PE X a ta) (hb:PE X (.BoolOp .And (b::rest) pos) tb):PE X (.BoolOp .And (a::b::rest) pos) (aQT ta tb):=by
 intro pins s σ H Q I h
 refine BoolOp_and (thn (ha pins s σ H _ I h) fun v s1 ⟨x,H1,I1,r1,q1⟩ => ?_)
 obtain ⟨c,rfl,q1⟩:=q1
 cases r1
 refine wpAny_truthy_bool ?_
 cases c with
 | true=>exact hb pins s1 σ H1 Q I1 q1
 | false=>exact ⟨.bl false,H1,I1,rfl,q1⟩
theorem aQX (ha:PE X a ta) (hb:PE X (.BoolOp .Or (b::rest) pos) tb):PE X (.BoolOp .Or (a::b::rest) pos) (tOrV ta tb):=by
 intro pins s σ H Q I h
 refine BoolOp_or (thn (ha pins s σ H _ I h) fun v s1 ⟨x,H1,I1,r1,q1⟩ => ?_)
 obtain ⟨c,rfl,q1⟩:=q1
 cases r1
 refine wpAny_truthy_bool ?_
 cases c with
 | false=>exact hb pins s1 σ H1 Q I1 q1
 | true=>exact ⟨.bl true,H1,I1,rfl,q1⟩
theorem aNO (ha:PE X a ta):PE X (.UnaryOp .Not a pos) (aP6 ta):=by
 intro pins s σ H Q I h
 refine UnaryOp_ (thn (ha pins s σ H _ I h) fun v s1 ⟨x,H1,I1,r1,q1⟩ => ?_)
 obtain ⟨c,rfl,q1⟩:=q1
 cases r1
 exact not_of (wpAny_truthy_bool ⟨.bl (!c),H1,I1,rfl,q1⟩)
def tIf (t:TT) (ta tb:TE):TE:=fun σ H Q=>t σ H fun c H1=>if c=true then ta σ H1 Q else tb σ H1 Q
theorem aIU {c:Expr} (hc:PT X c tA) (ha:PE X a ta) (hb:PE X b tb):PE X (.IfExp c a b pos) (tIf tA ta tb):=by
 intro pins s σ H Q I h
 refine wpAny_IfExp (thn (hc pins s σ H _ I h) fun d s1 ⟨H1,I1,q1⟩ => ?_)
 cases d with
 | true=>exact ha pins s1 σ H1 Q I1 q1
 | false=>exact hb pins s1 σ H1 Q I1 q1
end
end L2
namespace L2
open PySem PySem.Spec PyProof.Rows
def SqL (K:PySem.W.Frag) (H:Hp) (a:Addr) (xs:List V):Prop :=
 Rd H a (.lst xs) \/
  ∃ (o:Obj) (its:Array Value) (n:Nat),K.lookup a=some o/\o.cls = .type "list" /\ o.dict=none/\o.data = .seq its n/\its.size<=sizeLine/\Vals xs its.toList
def SqT (K:PySem.W.Frag) (H:Hp) (a:Addr) (xs:List V):Prop :=
 Rd H a (.tup xs) \/
  ∃ (o:Obj) (its:Array Value) (n:Nat),K.lookup a=some o/\o.cls = .type "tuple" /\ o.data = .seq its n/\its.size<=sizeLine/\Vals xs its.toList
def absV:Value->Option V
 | .none=>some .non
 | .bool b=>some (.bl b)
 | .int i _=>some (.int i)
 | .str x _=>some (.str x)
 | .bytes b _=>some (.byt b)
 | .float b _=>some (.flt b)
 | .ref a=>some (.ref a)
 | .type n=>some (.ty n)
 | _=>none
theorem RelV.abs {x:V}{u:Value} (r:RelV x u):absV u=some x:=by
 cases x with
 | non=>cases r; rfl
 | bl _=>cases r; rfl
 | int _=>obtain ⟨t,rfl⟩:=r; rfl
 | str _=>obtain ⟨t,rfl⟩:=r; rfl
 | byt _=>obtain ⟨t,rfl⟩:=r; rfl
 | flt _=>obtain ⟨t,rfl⟩:=r; rfl
 | ref _=>cases r; rfl
 | ty _=>cases r; rfl
theorem RelV.inj {x y:V}{u:Value} (r:RelV x u) (q:RelV y u):x=y:=Option.some.inj (r.abs.symm.trans q.abs)
theorem Vals.inj:∀ {xs ys:List V}{us:List Value},Vals xs us->Vals ys us->xs=ys
 | _,_,_, .nil, .nil=>rfl
 | _,_,_, .cons r t, .cons r' t'=>by rw [r.inj r',Vals.inj t t']
section
variable {X:Cx}{pins:List (Addr × Obj)}{σ:St}{H:Hp}{s:Shared}{a:Addr}{xs ys:List V}
theorem SqL.of {K:PySem.W.Frag} (h:H a=some (.lst xs)):SqL K H a xs := .inl (.inl h)
theorem SqT.of {K:PySem.W.Frag} (h:H a=some (.tup xs)):SqT K H a xs := .inl (.inl h)
theorem Inv.list (I:Inv X pins σ H s) (h:SqL X.K H a xs):∃ its:List Value,Vals xs its/\PlainL s.heap a its.toArray/\xs.length<=sizeLine:=by
 rcases h with h | ⟨o,its,n,hk,hc,hd,hs,hz,r⟩
 ·obtain ⟨z,its,n,r,e⟩:=h.ok I.hok
  exact ⟨its,r,⟨_,n,e,rfl,rfl,rfl⟩,z⟩
 ·refine ⟨its.toList,r,⟨o,n,I.kIn a o hk,hc,hd,by simpa using hs⟩,?_⟩
  have e:=r.length
  simp only [Array.length_toList] at e
  omega
theorem Inv.tuple (I:Inv X pins σ H s) (h:SqT X.K H a xs):∃ its:List Value,Vals xs its/\IsTup s.heap a its.toArray/\xs.length<=sizeLine:=by
 rcases h with h | ⟨o,its,n,hk,hc,hs,hz,r⟩
 ·obtain ⟨z,its,r,p⟩:=h.ok I.hok
  exact ⟨its,r,p,z⟩
 ·refine ⟨its.toList,r,⟨o,I.kIn a o hk,hc,n,by simpa using hs⟩,?_⟩
  have e:=r.length
  simp only [Array.length_toList] at e
  omega
theorem Inv.list_inj (I:Inv X pins σ H s) (h:SqL X.K H a xs) (h':SqL X.K H a ys):xs=ys:=by
 obtain ⟨its,r,⟨o,n,e,_,_,d⟩,_⟩:=I.list h
 obtain ⟨its',r',⟨o',n',e',_,_,d'⟩,_⟩:=I.list h'
 rw [e] at e'; cases e'
 rw [d] at d'
 injection d' with d1 _
 have:its=its':=by simpa using congrArg Array.toList d1
 subst this
 exact r.inj r'
theorem Inv.tuple_inj (I:Inv X pins σ H s) (h:SqT X.K H a xs) (h':SqT X.K H a ys):xs=ys:=by
 obtain ⟨its,r,⟨o,e,_,n,d⟩,_⟩:=I.tuple h
 obtain ⟨its',r',⟨o',e',_,n',d'⟩,_⟩:=I.tuple h'
 rw [e] at e'; cases e'
 rw [d] at d'
 injection d' with d1 _
 have:its=its':=by simpa using congrArg Array.toList d1
 subst this
 exact r.inj r'
end
abbrev Cx.wish (X:Cx) (E:Value->Shared->Prop):Cx:={ X with xe:=E }
abbrev Cx.nox (X:Cx):Cx:=X.wish fun _ _=>False
theorem Cx.Ok.wish {X:Cx} (ok:X.Ok) (E:Value->Shared->Prop):(X.wish E).Ok :=
 ⟨ok.mod,ok.kind,ok.glob,ok.blt,ok.above,ok.inj,ok.has,ok.cab,ok.hd,ok.frames,ok.stk,ok.exf,ok.bs,ok.bsz,ok.noex,ok.exfs,ok.funs,ok.frf⟩
theorem Cx.Ok.unwish {X:Cx}{E:Value->Shared->Prop} (ok:(X.wish E).Ok):X.Ok :=
 ⟨ok.mod,ok.kind,ok.glob,ok.blt,ok.above,ok.inj,ok.has,ok.cab,ok.hd,ok.frames,ok.stk,ok.exf,ok.bs,ok.bsz,ok.noex,ok.exfs,ok.funs,ok.frf⟩
section
variable {X:Cx}{pins:List (Addr × Obj)}{σ:St}{H:Hp}{s:Shared}{E:Value->Shared->Prop}
theorem Inv.wish (I:Inv X pins σ H s) (E:Value->Shared->Prop):Inv (X.wish E) pins σ H s:=⟨I.ok.wish E,I.os,I.bare,I.base,I.loc,I.cell,I.free,I.freeC,I.pin,I.hok,I.len⟩
theorem Inv.unwish (I:Inv (X.wish E) pins σ H s):Inv X pins σ H s:=⟨I.ok.unwish,I.os,I.bare,I.base,I.loc,I.cell,I.free,I.freeC,I.pin,I.hok,I.len⟩
theorem SP.unwish {D:Ends}{f:Flow}{s':Shared} (h:SP (X.wish E) pins D f s'):SP X pins D f s':=by
 cases f with
 | next=>obtain ⟨σ',H',I,q⟩:=h; exact ⟨σ',H',I.unwish,q⟩
 | brk=>obtain ⟨σ',H',I,q⟩:=h; exact ⟨σ',H',I.unwish,q⟩
 | cont=>obtain ⟨σ',H',I,q⟩:=h; exact ⟨σ',H',I.unwish,q⟩
 | ret u=>obtain ⟨v,σ',H',I,r,q⟩:=h; exact ⟨v,σ',H',I.unwish,r,q⟩
theorem PSs.nox {st:List Stmt}{t:TS} (h:PSs X.nox st t):PSs X st t:=fun pins s σ H D I hw =>
 wpAny_mono (h pins s σ H D (I.wish _) hw) (fun _ _ q=>q.unwish) fun _ _ z=>False.elim z
end
section
variable {X:Cx}{st:Stmt}{rest:List Stmt}{t u:TS}{e:Expr}{te:TE}{pos:Pos}
def aQO:TS:=fun D σ H=>D.nx σ H
def tSeq (t u:TS):TS:=fun D σ H=>t { D with nx:=u D } σ H
theorem aK7:PSs X [] aQO:=fun _ _ σ H _ I h=>wpAny_execs_nil ⟨σ,H,I,h⟩
theorem aJG (h1:PS X st t) (h2:PSs X rest u):PSs X (st::rest) (tSeq t u):=by
 intro pins s σ H D I h
 refine wpAny_execs_cons (thn (h1 pins s σ H { D with nx:=u D } I h) fun f s1 q => ?_)
 cases f with
 | next =>
  obtain ⟨σ',H',I',q⟩:=q
  exact h2 pins s1 σ' H' D I' q
 | ret v=>exact q
 | brk=>exact q
 | cont=>exact q
theorem aLR (h1:PS X st t):PSs X [st] t:=by
 intro pins s σ H D I h
 refine wpAny_execs_cons (thn (h1 pins s σ H D I h) fun f s1 q => ?_)
 cases f with
 | next=>exact wpAny_execs_nil q
 | ret v=>exact q
 | brk=>exact q
 | cont=>exact q
theorem Inv.quiet {pins:List (Addr × Obj)}{σ:St}{H:Hp}{s:Shared} (I:Inv X pins σ H s):interactive X.env=false:=by simp [interactive,I.ok.kind]
def aQ4 (te:TE):TS:=fun D σ H=>te σ H fun _ H1=>D.nx σ H1
theorem aLH (he:PE X e te) (hs:swapsWith e none pos.line X.env=pure false:=by rfl):PS X (.Expr e pos) (aQ4 te):=by
 intro pins s σ H D I h
 exact wpAny_Expr_any (thn (he pins s σ H _ I h) fun v s1 ⟨x,H1,I1,r1,q1⟩=>⟨σ,H1,I1,q1⟩) I.quiet hs
def tRet (te:TE):TS:=fun D σ H=>te σ H D.rt
theorem aPO (he:PE X e te):PS X (.Return (some e) pos) (tRet te):=by
 intro pins s σ H D I h
 exact wpAny_Return_some (thn (he pins s σ H _ I h) fun v s1 ⟨x,H1,I1,r1,q1⟩=>⟨x,σ,H1,I1,r1,q1⟩)
def tIfS (c:TT) (t u:TS):TS:=fun D σ H=>c σ H fun b H1=>if b=true then t D σ H1 else u D σ H1
theorem aP4 {c:Expr}{a b:List Stmt}{tc:TT} (hc:PT X c tc) (ha:PSs X a t) (hb:PSs X b u):PS X (.If c a b pos) (tIfS tc t u):=by
 intro pins s σ H D I h
 refine wpAny_If (thn (hc pins s σ H _ I h) fun d s1 ⟨H1,I1,q1⟩ => ?_)
 cases d with
 | true=>exact ha pins s1 σ H1 D I1 q1
 | false=>exact hb pins s1 σ H1 D I1 q1
end
abbrev TG:=V->St->Hp->(St->Hp->Prop)->Prop
abbrev TGs:=List V->St->Hp->(St->Hp->Prop)->Prop
def PG (X:Cx) (target:Expr) (t:TG):Prop :=
 ∀ (pins:List (Addr × Obj)) (s:Shared) (σ:St) (H:Hp) (v:V) (u:Value) (Q:St->Hp->Prop),Inv X pins σ H s->RelV v u->t v σ H Q ->
  wpAny (model X.prog X.w) X.A (assign target X.env u) (fun _ s'=>∃ σ' H',Inv X pins σ' H' s'/\Q σ' H') X.xe s
def PGs (X:Cx) (ts:List Expr) (t:TGs):Prop :=
 ∀ (pins:List (Addr × Obj)) (s:Shared) (σ:St) (H:Hp) (vs:List V) (us:List Value) (Q:St->Hp->Prop),Inv X pins σ H s->Vals vs us->t vs σ H Q ->
  wpAny (model X.prog X.w) X.A (assignInOrder ((assignEach ts X.env).map (·.2)) us) (fun _ s'=>∃ σ' H',Inv X pins σ' H' s'/\Q σ' H') X.xe s
abbrev TSet:=V->V->V->Hp->(Hp->Prop)->Prop
def PSet (X:Cx) (t:TSet):Prop :=
 ∀ (pins:List (Addr × Obj)) (s:Shared) (σ:St) (H:Hp) (o i v:V) (ov iv u:Value) (Q:Hp->Prop),Inv X pins σ H s->RelV o ov->RelV i iv->RelV v u->t o i v H Q ->
  wpAny (model X.prog X.w) X.A (setItem ov iv u) (fun _ s'=>∃ H',Inv X pins σ H' s'/\Q H') X.xe s
section
variable {X:Cx}{pos:Pos}
def pM (i:Nat):TG:=fun v σ H Q=>Q (σ.set i (some v)) H
theorem sJ {i:Nat}{x:Str} (hN:X.N.Nodup) (hi:X.N[i]?=some x) (hx:Loc X.env.scope x) (hf:X.fn x=true\/X.env.scope.names.lookup x=some .local:=by first | exact .inl rfl | exact .inr rfl | assumption):PG X (.Name x pos) (pM i):=by
 intro pins s σ H v u Q I r h
 exact wpAny_assign_Name (pS I hN hi hx r (fun s' I'=>⟨_,H,I',h⟩) hf)
def gNil:TGs:=fun vs σ H Q=>vs=[]/\Q σ H
def aD1 (t:TG) (u:TGs):TGs:=fun vs σ H Q=>∃ v r,vs=v::r/\t v σ H fun σ' H'=>u r σ' H' Q
theorem aBR:PGs X [] gNil:=by
 intro pins s σ H vs us Q I r h
 obtain ⟨e,h⟩:=h
 subst e
 cases r
 exact assignInOrder_nil ⟨σ,H,I,h⟩
theorem tY {e:Expr}{es:List Expr}{t:TG}{u:TGs} (h1:PG X e t) (h2:PGs X es u)
  (hs:(assignEach (e::es) X.env).map (·.2)=assign e X.env::(assignEach es X.env).map (·.2):=by rfl):PGs X (e::es) (aD1 t u):=by
 intro pins s σ H vs us Q I r h
 obtain ⟨v,vr,e1,h⟩:=h
 subst e1
 cases r with
 | cons r rr =>
  rw [hs]
  refine assignInOrder_cons (thn (h1 pins s σ H _ _ _ I r h) fun _ s1 ⟨σ1,H1,I1,q1⟩ => ?_)
  exact h2 pins s1 σ1 H1 _ _ Q I1 rr q1
def gTup (K:PySem.W.Frag) (n:Nat) (t:TGs):TG:=fun v σ H Q=>∃ a xs,v = .ref a/\SqT K H a xs/\xs.length=n/\t xs σ H Q
theorem aFV {es:List Expr}{k:Nat}{t:TGs}{n:Nat} (hc:X.calm=true) (h:PGs X es t)
  (hn:(assignEach es X.env).length=n:=by rfl) (hst:(assignEach es X.env).findIdx? (·.1)=none:=by rfl):PG X (.Tuple es k pos) (gTup X.K n t):=by
 intro pins s σ H v u Q I r hw
 obtain ⟨a,xs,e1,hq,hl,hw⟩:=hw
 subst e1
 cases r
 obtain ⟨its,rv,ht,hz⟩:=I.tuple hq
 refine assign_Tuple_tuple (I.ok.hd hc) ht (by simp [hn,<- hl,rv.length]) hst fun h' hx => ?_
 have I1:Inv X pins σ H { s with heap:=h' }:=I.kept (t':=s.toks) fun b o e=>hx b o (Nat.ne_of_lt (Heap.lt_size e)) e
 exact h pins _ σ H xs _ Q I1 (by simpa using rv) hw
def gSub (to ti:TE) (t:TSet):TG:=fun v σ H Q=>to σ H fun o H1=>ti σ H1 fun i H2=>t o i v H2 fun H3=>Q σ H3
theorem aO1 {o i:Expr}{to ti:TE}{t:TSet} (ho:PE X o to) (hi:PE X i ti) (hs:PSet X t)
  (ha:∀ v,assign (.Subscript o i pos) X.env v=(do
   let ov <- holding [v] (eval o X.env)
   let iv <- holding [v,ov] (eval i X.env)
   standAt pos
   holding [v,ov,iv] (setItem ov iv v)
   release [v,ov,iv] []):=by intro _; rfl):PG X (.Subscript o i pos) (gSub to ti t):=by
 intro pins s σ H v u Q I r h
 rw [ha]
 refine wpAny_bind (wpAny_holding (thn (ho pins s σ H _ I h) fun ov s1 ⟨x,H1,I1,r1,q1⟩ => ?_))
 refine wpAny_bind (wpAny_holding (thn (hi pins s1 σ H1 _ I1 q1) fun iv s2 ⟨y,H2,I2,r2,q2⟩ => ?_))
 refine wpAny_bind (wpAny_standAt (wpAny_bind (wpAny_holding (thn (hs pins s2 σ H2 x y v ov iv u _ I2 r1 r2 r q2) fun _ s3 ⟨H3,I3,q3⟩ => ?_))))
 exact wpAny_release ⟨σ,H3,I3,q3⟩
def aDH (te:TE) (g:TG):TS:=fun D σ H=>te σ H fun x H1=>g x σ H1 D.nx
theorem aNL {tg e:Expr}{te:TE}{g:TG} (he:PE X e te) (hg:PG X tg g) (hs:swapsWithSole [tg] e pos.line X.env=pure false:=by rfl) (hw:swappedStores [tg] e X.env=pure none:=by rfl)
  (h1:(assignEach [tg] X.env).map (·.2)=[assign tg X.env]:=by rfl):PS X (.Assign [tg] e pos) (aDH te g):=by
 intro pins s σ H D I h
 refine wpAny_Assign_stores (thn (he pins s σ H _ I h) fun v s1 ⟨x,H1,I1,r1,q1⟩ => ?_) hs hw
 rw [h1]
 exact thn (hg pins s1 σ H1 x v _ I1 r1 q1) fun _ s2 q=>q
theorem aN5 {i:Nat}{x:Str}{e:Expr}{te:TE}{pos':Pos} (hN:X.N.Nodup) (hi:X.N[i]?=some x) (hx:Loc X.env.scope x) (he:PE X e te) (hs:swapsWith e (some (.Name x pos')) pos.line X.env=pure false:=by rfl) (hf:X.fn x=true\/X.env.scope.names.lookup x=some .local:=by first | exact .inl rfl | exact .inr rfl | assumption) :
  PS X (.Assign [.Name x pos'] e pos) (aDH te (pM i)):=by
 intro pins s σ H D I h
 refine wpAny_Assign_Name (thn (he pins s σ H _ I h) fun v s1 ⟨y,H1,I1,r1,q1⟩ => ?_) hs
 exact pS I1 hN hi hx r1 (fun s2 I2=>⟨_,H1,I2,q1⟩) hf
def tPar (i j:Nat) (ta:TA):TS:=fun D σ H=>ta σ H fun vs H1=>∃ v w,vs=[v,w]/\D.nx ((σ.set i (some v)).set j (some w)) H1
theorem aO0 {i j:Nat}{x y:Str}{a b:Expr}{ta:TA}{px py pt:Pos}{kt k2 pt2} (hc:X.calm=true) (hN:X.N.Nodup) (hi:X.N[i]?=some x) (hj:X.N[j]?=some y) (hij:i≠j)
  (hx:X.env.scope.names.lookup x=some .local) (hy:X.env.scope.names.lookup y=some .local) (ha:PA X [a,b] ta)
  (hw:swappedStores [.Tuple [.Name x px, .Name y py] kt pt] (.Tuple [a,b] k2 pt2) X.env=pure (some [x,y]))
  (hs:swapsWithSole [.Tuple [.Name x px, .Name y py] kt pt] (.Tuple [a,b] k2 pt2) pos.line X.env=pure false:=by rfl) :
  PS X (.Assign [.Tuple [.Name x px, .Name y py] kt pt] (.Tuple [a,b] k2 pt2) pos) (tPar i j ta):=by
 intro pins s σ H D I h
 rw [exec_Assign_arm]
 refine wpAny_bind (wpAny_standAt ?_)
 rw [hs]
 refine wpAny_bind (wpAny_pure ?_)
 rw [if_neg (by decide)]
 refine wpAny_bind (Tuple_ (thn (ha _ pins s σ H _ I h) fun us s1 ⟨vs,H1,I1,r1,q1⟩ => ?_))
 obtain ⟨v,w,e1,q1⟩:=q1
 subst e1
 obtain ⟨u1,u2,rfl,rv,rw'⟩:∃ u1 u2,us=[u1,u2]/\RelV v u1/\RelV w u2:=by
  cases r1 with
  | cons p q =>
   cases q with
   | cons p' q' =>
    cases q'
    exact ⟨_,_,rfl,p,p'⟩
 refine wpAny_newObj_type ?_ (by show 2<=sizeLine; decide)
 have I2:Inv X pins σ H1 { s1 with heap:=s1.heap.push { cls := .type "tuple", data := .seq [u1,u2].toArray } }:=I1.kept (t':=s1.toks) fun b o e=>Heap.get?_push_of_some _ e
 rw [hw]
 refine wpAny_bind (wpAny_pure ?_)
 show wpAny (model X.prog X.w) X.A (do rule "assign.swapped-stores"; let items <- unpackItems (.ref s1.heap.objs.size) 2 none; assignInOrder [fun v=>bindName X.env y v,fun v=>bindName X.env x v] items.reverse; pure Flow.next) _ _ _
 refine wpAny_bind (wpAny_rule (wpAny_bind (unpackItems_tuple (items := #[u1,u2]) (I.ok.hd hc) (IsTup.new s1.heap _) fun h' hx' => ?_)))
 have I3:=I2.kept (h':=h') (t':=s1.toks) fun b o e=>hx' b o (Nat.ne_of_lt (Heap.lt_size e)) e
 show wpAny _ _ (assignInOrder [fun v=>bindName X.env y v,fun v=>bindName X.env x v] [u2,u1] >>= fun _=>pure Flow.next) _ _ _
 refine wpAny_bind (assignInOrder_cons (wpAny_bindName (pS I3 hN hj (.inl hy) rw' (fun s2 I4 => ?_) (.inr hy))))
 refine assignInOrder_cons (wpAny_bindName (pS I4 hN hi (.inl hx) rv (fun s3 I5=>assignInOrder_nil (wpAny_pure ?_)) (.inr hx)))
 rw [List.set_comm _ _ (Ne.symm hij)] at I5
 exact ⟨_,H1,I5,q1⟩
end
section
variable {X:Cx}{pos:Pos}
def aON (c:TT) (tb:TS):TS:=fun D σ H=>∃ W:Nat->St->Hp->Prop,(∃ m,W m σ H)/\∀ m σ H,W m σ H ->
 c σ H fun b H1=>if b=true then ∃ N:St->Hp->Prop,(∀ σ' H',N σ' H'->∃ m',m' < m/\W m' σ' H')/\tb { D with nx:=N,ct:=N,bk:=D.nx } σ H1 else D.nx σ H1
theorem aHR {c:Expr}{body:List Stmt}{tc:TT}{tb:TS} (hp:PassesOwn (model X.prog X.w) X.A X.env X.xe) (hc:PT X c tc) (hb:PSs X body tb):PS X (.While c body [] pos) (aON tc tb):=by
 intro pins s σ H D I h
 obtain ⟨W,⟨m0,w0⟩,turn⟩:=h
 refine wpAny_While (codeAny_whileLoop (fun n s'=>∃ σ' H',Inv X pins σ' H' s'/\W n σ' H') ?_ m0 ⟨σ,H,I,w0⟩)
 rintro n s1 ⟨σ1,H1,I1,w1⟩
 refine wpAny_passesOwn hp (thn (hc pins s1 σ1 H1 _ I1 (turn n σ1 H1 w1)) fun b s2 ⟨H2,I2,q2⟩ => ?_)
 cases b with
 | true =>
  obtain ⟨N,hN,q2⟩:=q2
  rw [if_pos rfl]
  refine wpAny_passesOwn hp (thn (hb pins s2 σ1 H2 _ I2 q2) fun f s3 q3 => ?_)
  cases f with
  | next =>
   obtain ⟨σ3,H3,I3,n3⟩:=q3
   obtain ⟨m',hm,w3⟩:=hN σ3 H3 n3
   exact ⟨m',hm,σ3,H3,I3,w3⟩
  | cont =>
   obtain ⟨σ3,H3,I3,n3⟩:=q3
   obtain ⟨m',hm,w3⟩:=hN σ3 H3 n3
   exact ⟨m',hm,σ3,H3,I3,w3⟩
  | brk=>exact q3
  | ret v=>exact q3
 | false =>
  rw [if_neg zBf]
  exact wpAny_execs_nil ⟨σ1,H2,I2,q2⟩
end
structure It where
 go:Nat->Hp->Prop
 yld:Nat->Hp->V->Hp->Prop
 stop:Nat->Hp->Prop
def kS (X:Cx) (pins:List (Addr × Obj)) (H:Hp) (b:Addr):Prop :=
 H b=none/\b≠X.env.locals/\b ∉ X.fs/\(b∈X.ex\/X.s₀.heap.objs.size<=b)/\(∀ x c,X.env.cells.lookup x=some c->c≠b)/\∀ p∈X.pn++pins,p.1≠b
theorem Inv.fpOk {X:Cx}{pins:List (Addr × Obj)}{σ:St}{H H':Hp}{s:Shared}{b:Addr} (I:Inv X pins σ H s) (hb:s.heap.objs.size<=b) (hn:H' b=none):kS X pins H' b:=by
 refine ⟨hn,Nat.ne_of_gt (Nat.lt_of_lt_of_le I.lt hb),I.nofs hb, .inr (Nat.le_trans I.sz hb),fun x c e z => ?_,fun p hp z => ?_⟩
 ·obtain ⟨v,q⟩:=I.cell x c e
  exact absurd (Nat.lt_of_lt_of_le q.lt (by rw [z]; exact hb)) (Nat.lt_irrefl _)
 ·exact absurd (Nat.lt_of_lt_of_le (Heap.lt_size (I.pin p hp).1) (by rw [z]; exact hb)) (Nat.lt_irrefl _)
structure Turn (P:Program) (w:World) (K:PySem.W.Frag) (tg:Expr) (J:It) (fp:List Addr) (it:Addr) (tn:Nat->Heap->Prop):Prop where
 mem:it∈fp
 obj:∀ i h,tn i h->∀ b∈fp,∃ o,h.get? b=some o/\∀ v,o.data ≠ .cell v
 keep:∀ i h h',tn i h->(∀ b∈fp,∀ o,h.get? b=some o->h'.get? b=some o)->tn i h'
 item:∀ (X:Cx),X.prog=P->X.w=w->X.K=K->X.calm=true->∀ (i:Nat) (pins:List (Addr × Obj)) (s:Shared) (σ:St) (H:Hp) (E:Value->Shared->Prop),Inv X pins σ H s->(∀ b∈fp,kS X pins H b)->tn i s.heap->J.go i H ->
  wpAny (model P w) X.A (pyNext (.ref it)) (fun r s1=>∃ u,r=some u /\
   wpAny (model P w) X.A (letOwnedTupleGo tg (.ref it) u) (fun _ s2=>∃ x H',Inv X pins σ H' s2/\RelV x u/\J.yld i H x H'/\tn (i+1) s2.heap/\∀ b∈fp,H' b=none) E s1) E s
 done:∀ (X:Cx),X.prog=P->X.w=w->X.K=K->X.calm=true->∀ (i:Nat) (pins:List (Addr × Obj)) (s:Shared) (σ:St) (H:Hp) (E:Value->Shared->Prop),Inv X pins σ H s->(∀ b∈fp,kS X pins H b)->tn i s.heap->J.stop i H ->
  wpAny (model P w) X.A (pyNext (.ref it)) (fun r s1=>r=none/\Inv X pins σ H s1) E s
 self:∀ (A:Around) (i:Nat) (s:Shared) (Q:Value->Shared->Prop) (E:Value->Shared->Prop),tn i s.heap->Q (.ref it) s->wpAny (model P w) A (pyIter (.ref it)) Q E s
abbrev TI:=St->Hp->(It->Hp->Prop)->Prop
def PIE (X:Cx) (pins:List (Addr × Obj)) (σ:St) (tg:Expr) (R:It->Hp->Prop) (itv:Value) (s2:Shared):Prop :=
 ∃ (it:Addr) (fp:List Addr) (tn:Nat->Heap->Prop) (J:It) (H':Hp),itv = .ref it/\Inv X pins σ H' s2/\Turn X.prog X.w X.K tg J fp it tn/\tn 0 s2.heap/\(∀ b∈fp,kS X pins H' b)/\R J H'
def PI (X:Cx) (tg iter:Expr) (wi:TI):Prop :=
 ∀ (pins:List (Addr × Obj)) (s:Shared) (σ:St) (H:Hp) (R:It->Hp->Prop),Inv X pins σ H s->wi σ H R ->
  wpAny (model X.prog X.w) X.A (eval iter X.env) (fun v s1=>wpAny (model X.prog X.w) X.A (pyIter v) (PIE X pins σ tg R) X.xe s1) X.xe s
theorem u9 {M:Model}{A:Around}{E:Value->Shared->Prop}{s:Shared}{tg:Expr}{it:Addr}{u:Value}{o:Obj}{n:String}{vs:Array Value}{Q:Unit->Shared->Prop} (ho:s.heap.get? it=some o) (hc:o.cls = .type n) (hd:o.data = .fields vs)
    (hn:["enumerate", "zip", "dict_itemiterator", "dict_reverseitemiterator", "odict_iterator", "itertools.zip_longest", "itertools.pairwise"].contains n=false) (hQ:Q () s):wpAny M A (letOwnedTupleGo tg (.ref it) u) Q E s:=by
  unfold letOwnedTupleGo
  cases tg <;> first
    | exact wpAny_pure hQ
    | (cases u <;> first
        | exact wpAny_pure hQ
        | (refine wpAny_bind (wpAny_load ho ?_)
           rw [hc,hd]
           show wpAny M A (if (["enumerate", "zip", "dict_itemiterator", "dict_reverseitemiterator", "odict_iterator", "itertools.zip_longest", "itertools.pairwise"].contains n && vs[0]? == some (rawInt _))=true then _ else _) Q E s
           rw [if_neg (by intro h; rw [hn,Bool.false_and] at h; cases h)]
           exact wpAny_pure hQ))
def Itl (K:PySem.W.Frag) (a:Addr):It :=
 ⟨fun i H=>∃ xs x,SqL K H a xs/\xs[i]?=some x,fun i H x H'=>H'=H/\∀ xs,SqL K H a xs->xs[i]?=some x,fun i H=>∃ xs,SqL K H a xs/\xs.length<=i⟩
def Itt (K:PySem.W.Frag) (a:Addr):It :=
 ⟨fun i H=>∃ xs x,SqT K H a xs/\xs[i]?=some x,fun i H x H'=>H'=H/\∀ xs,SqT K H a xs->xs[i]?=some x,fun i H=>∃ xs,SqT K H a xs/\xs.length<=i⟩
def Itr (lo:Int) (n:Nat):It:=⟨fun i _=>i < n,fun i H x H'=>H'=H/\x = .int (lo+i),fun i _=>n<=i⟩
theorem aGE {P:Program}{w:World}{K:PySem.W.Frag}{tg:Expr} (a it:Addr):Turn P w K tg (Itl K a) [it] it (fun i h=>h.IsListIter it a i) where
 mem:=by simp
 obj:=fun i h st b hb=>by
  have e:b=it:=by simpa using hb
  subst e
  obtain ⟨o,e,c,d⟩:=st
  exact ⟨o,e,fun v z=>by rw [d] at z; cases z⟩
 keep:=fun i h h' st k=>st.at fun o e=>k it (by simp) o e
 item:=by
  intro X hP hw hK hc i pins s σ H E I hf st hg
  subst hP hw hK
  obtain ⟨xs,x,hq,hx⟩:=hg
  obtain ⟨its,rv,p,hz⟩:=I.list hq
  obtain ⟨u,hu,ru⟩:=rv.get hx
  obtain ⟨f0,f1,f2,f3,f4,f5⟩:=hf it (by simp)
  refine wpAny_pyNext_list_item st p.isList (x:=u) (by simpa using hu) fun h' st' sb => ?_
  have I1:Inv X pins σ H { s with heap:=h' }:=I.turned (t':=s.toks) (fun b o hb e=>(sb.2 b hb).trans e) f0 f1 f3 f4 f5
  obtain ⟨o,e,c,d⟩:=id st'
  exact ⟨u,rfl,u9 (s:={ s with heap:=h' }) e c d (by decide) ⟨x,H,I1,ru,⟨rfl,fun ys hy=>by rw [I.list_inj hy hq]; exact hx⟩,st',fun b hb=>(hf b hb).1⟩⟩
 done:=by
  intro X hP hw hK hc i pins s σ H E I hf st hg
  subst hP hw hK
  obtain ⟨xs,hq,hx⟩:=hg
  obtain ⟨its,rv,p,hz⟩:=I.list hq
  obtain ⟨f0,f1,f2,f3,f4,f5⟩:=hf it (by simp)
  have hl:=rv.length
  exact wpAny_pyNext_list_end (I.ok.hd hc) st p.isList (by simp; omega) fun h' eb=>⟨rfl,I.turned (t':=s.toks) (fun b o hb e=>eb b o hb e) f0 f1 f3 f4 f5⟩
 self:=fun _ _ _ _ _ st h=>wpAny_pyIter_listiter st h
theorem aEC {P:Program}{w:World}{K:PySem.W.Frag}{tg:Expr} (a it:Addr):Turn P w K tg (Itt K a) [it] it (fun i h=>h.IsTupleIter it a i) where
 mem:=by simp
 obj:=fun i h st b hb=>by
  have e:b=it:=by simpa using hb
  subst e
  obtain ⟨o,e,c,d⟩:=st
  exact ⟨o,e,fun v z=>by rw [d] at z; cases z⟩
 keep:=fun i h h' st k=>st.at fun o e=>k it (by simp) o e
 item:=by
  intro X hP hw hK hc i pins s σ H E I hf st hg
  subst hP hw hK
  obtain ⟨xs,x,hq,hx⟩:=hg
  obtain ⟨its,rv,p,hz⟩:=I.tuple hq
  obtain ⟨u,hu,ru⟩:=rv.get hx
  obtain ⟨f0,f1,f2,f3,f4,f5⟩:=hf it (by simp)
  refine wpAny_pyNext_tuple_item st (show s.heap.IsTuple a its.toArray from p) (x:=u) (by simpa using hu) fun h' st' sb => ?_
  have I1:Inv X pins σ H { s with heap:=h' }:=I.turned (t':=s.toks) (fun b o hb e=>(sb.2 b hb).trans e) f0 f1 f3 f4 f5
  obtain ⟨o,e,c,d⟩:=id st'
  exact ⟨u,rfl,u9 (s:={ s with heap:=h' }) e c d (by decide) ⟨x,H,I1,ru,⟨rfl,fun ys hy=>by rw [I.tuple_inj hy hq]; exact hx⟩,st',fun b hb=>(hf b hb).1⟩⟩
 done:=by
  intro X hP hw hK hc i pins s σ H E I hf st hg
  subst hP hw hK
  obtain ⟨xs,hq,hx⟩:=hg
  obtain ⟨its,rv,p,hz⟩:=I.tuple hq
  obtain ⟨f0,f1,f2,f3,f4,f5⟩:=hf it (by simp)
  have hl:=rv.length
  exact wpAny_pyNext_tuple_end (I.ok.hd hc) st (show s.heap.IsTuple a its.toArray from p) (by simp; omega) fun h' eb=>⟨rfl,I.turned (t':=s.toks) (fun b o hb e=>eb b o hb e) f0 f1 f3 f4 f5⟩
 self:=fun _ _ _ _ _ st h=>wpAny_pyIter_tupleiter st h
theorem aC2 {P:Program}{w:World}{K:PySem.W.Frag}{tg:Expr} (it:Addr) (lo:Int) (n:Nat):Turn P w K tg (Itr lo n) [it] it (fun i h=>IsRangeIter h it (lo+(i:Nat) * 1) ((n:Int) - (i:Nat)) 1) where
 mem:=by simp
 obj:=fun i h st b hb=>by
  have e:b=it:=by simpa using hb
  subst e
  exact ⟨_,st,fun v z=>by
   have z':Data.fields _=Data.cell v:=z
   cases z'⟩
 keep:=fun i h h' st k=>k it (by simp) _ st
 item:=by
  intro X hP hw hK hc i pins s σ H E I hf st hg
  subst hP hw hK
  obtain ⟨f0,f1,f2,f3,f4,f5⟩:=hf it (by simp)
  have W:=Walks.range (prog:=X.prog) (w:=X.w) (I.ok.hd hc) it lo 1 n
  refine W.item i s _ _ hg st fun v h' tk hv st' kk => ?_
  obtain ⟨t,rfl⟩:=hv
  have I1:Inv X pins σ H { s with heap:=h',toks:=tk }:=I.turned (fun b o hb e=>kk b o (by simpa using hb) e) f0 f1 f3 f4 f5
  refine ⟨_,rfl,u9 (s:={ s with heap:=h',toks:=tk }) (n := "range_iterator") st' rfl rfl (by decide) ⟨.int (lo+i),H,I1,⟨t,?_⟩,⟨rfl,rfl⟩,st',fun b hb=>(hf b hb).1⟩⟩
  rw [Int.mul_one]
 done:=by
  intro X hP hw hK hc i pins s σ H E I hf st hg
  subst hP hw hK
  obtain ⟨f0,f1,f2,f3,f4,f5⟩:=hf it (by simp)
  exact wpAny_pyNext_range_end (I.ok.hd hc) st (by have:n<=i:=hg; omega) fun h' eb=>⟨rfl,I.turned (t':=s.toks) (fun b o hb e=>eb b o hb e) f0 f1 f3 f4 f5⟩
 self:=fun _ _ _ _ _ st h=>wpAny_pyIter_rangeiter st h
end L2
namespace L2
open PySem PySem.Spec PyProof.Rows
section
variable {X:Cx}{tg:Expr}
theorem yT {pins:List (Addr × Obj)}{σ:St}{H:Hp}{s:Shared}{R:It->Hp->Prop}{E:Value->Shared->Prop}{lo hi:Int}{t u v:Tok}{tk:Nat} (I:Inv X pins σ H s) (h1 : -(2 ^ 62)<=lo) (h2:lo < 2 ^ 62) (h3 : -(2 ^ 62)<=hi) (h4:hi < 2 ^ 62)
  (q:R (Itr lo (hi - lo).toNat) H):wpAny (model X.prog X.w) X.A (pyIter (.ref s.heap.objs.size)) (PIE X pins σ tg R) E { s with heap:=s.heap.push { cls := .type "range", data := .fields #[.int lo t, .int hi u, .int 1 v] },toks:=tk }:=by
 refine wpAny_pyIter_range (IsRange.new ..) (small_one h1 h2 h3 h4) ?_
 have I1:Inv X pins σ H { s with heap:=s.heap.push { cls := .type "range", data := .fields #[.int lo t, .int hi u, .int 1 v] },toks:=tk }:=I.kept fun b o e=>Heap.get?_push_of_some _ e
 refine ⟨(s.heap.push { cls := .type "range", data := .fields #[.int lo t, .int hi u, .int 1 v] }).objs.size,[(s.heap.push { cls := .type "range", data := .fields #[.int lo t, .int hi u, .int 1 v] }).objs.size],_,_,H,rfl,
  I1.kept (t':=tk) fun b o e=>Heap.get?_push_of_some _ e,aC2 _ lo (hi - lo).toNat,?_,fun b hb => ?_,q⟩
 ·have e1:lo+((0:Nat):Int) * 1=lo:=by simp
  have e2:(((hi - lo).toNat:Nat):Int) - ((0:Nat):Int)=Builtin.Range.rangeSize lo hi 1:=by rw [rangeSize_one]; split <;> omega
  show IsRangeIter _ _ (lo+((0:Nat):Int) * 1) ((((hi - lo).toNat:Nat):Int) - ((0:Nat):Int)) 1
  rw [e1,e2]
  exact Heap.get?_push_size _ rfl
 ·have e:b=(s.heap.push { cls := .type "range", data := .fields #[.int lo t, .int hi u, .int 1 v] }).objs.size:=by simpa using hb
  subst e
  exact I1.fpOk (Nat.le_refl _) (I1.hok.fresh (Nat.le_refl _))
def aP8 (ta:TA):TI:=fun σ H R=>ta σ H fun vs H1=>∃ j:Int,vs=[.int j] /\ -(2 ^ 62)<=j/\j < 2 ^ 62/\R (Itr 0 j.toNat) H1
def aQZ (ta:TA):TI:=fun σ H R=>ta σ H fun vs H1=>∃ i j:Int,vs=[.int i, .int j]/\(-(2 ^ 62)<=i/\i < 2 ^ 62 /\ -(2 ^ 62)<=j/\j < 2 ^ 62)/\R (Itr i (j - i).toNat) H1
theorem aFR {a:Expr}{ta:TA}{p pos:Pos} (hg:Gl X "range") (hm:X.mg "range" = none) (ha:PA X [a] ta) (hs:starEach [a] X.env=[(false,eval a X.env)]:=by rfl):PI X tg (.Call (.Name "range" p) [a] [] pos) (aP8 ta):=by
 intro pins s σ H R I h
 refine Call_ (kP I hg hm boot_range (PyProof.Rows.callWith_type1 (thn (ha pos pins s σ H _ I h) fun us s1 ⟨vs,H1,I1,r1,q1⟩ => ?_) hs rfl))
 obtain ⟨j,e,q1,q2,q⟩:=q1
 subst e
 cases r1 with
 | cons r rr =>
  cases rr
  obtain ⟨t,rfl⟩:=r
  exact call_range_1 (yT I1 (by omega) (by omega) q1 q2 (by simpa using q))
theorem aFE {a b:Expr}{ta:TA}{p pos:Pos} (hg:Gl X "range") (hm:X.mg "range" = none) (ha:PA X [a,b] ta) (hs:starEach [a,b] X.env=[(false,eval a X.env),(false,eval b X.env)]:=by rfl) (hs2:starEach [b] X.env=[(false,eval b X.env)]:=by rfl) :
  PI X tg (.Call (.Name "range" p) [a,b] [] pos) (aQZ ta):=by
 intro pins s σ H R I h
 refine Call_ (kP I hg hm boot_range (PyProof.Rows.callWith_type1 (thn (ha pos pins s σ H _ I h) fun us s1 ⟨vs,H1,I1,r1,q1⟩ => ?_) (by rw [hs,hs2]) (by rw [hs2]; rfl)))
 obtain ⟨i,j,e,⟨q1,q2,q3,q4⟩,q⟩:=q1
 subst e
 cases r1 with
 | cons r rr =>
  cases rr with
  | cons r' rr =>
   cases rr
   obtain ⟨t,rfl⟩:=r
   obtain ⟨t',rfl⟩:=r'
   exact call_range_2 (yT I1 q1 q2 q3 q4 q)
def tFor (wi:TI) (g:TG) (tb:TS):TS:=fun D σ H=>wi σ H fun J H1=>∃ W:Nat->Nat->St->Hp->Prop,(∃ m,W 0 m σ H1)/\∀ i m σ H,W i m σ H ->
 (J.stop i H/\D.nx σ H)\/(J.go i H/\∃ N:St->Hp->Prop,(∀ σ' H',N σ' H'->∃ m',m' < m/\W (i+1) m' σ' H')/\∀ x H',J.yld i H x H'->g x σ H' fun σ2 H2=>tb { D with nx:=N,ct:=N,bk:=D.nx } σ2 H2)
def oP (fp:List Addr) (h:Heap):List (Addr × Obj):=fp.filterMap fun b=>(h.get? b).map fun o=>(b,o)
theorem iJ {fp:List Addr}{h:Heap}{b:Addr}{o:Obj} (hb:b∈fp) (e:h.get? b=some o):(b,o)∈oP fp h:=List.mem_filterMap.mpr ⟨b,hb,by rw [e]; rfl⟩
theorem aF2 {fp:List Addr}{h:Heap}{p:Addr × Obj} (hp:p∈oP fp h):p.1∈fp/\h.get? p.1=some p.2:=by
 obtain ⟨b,hb,e⟩:=List.mem_filterMap.mp hp
 cases q:h.get? b with
 | none=>rw [q] at e; cases e
 | some o =>
  rw [q] at e
  have e':(b,o)=p:=Option.some.inj e
  subst e'
  exact ⟨hb,q⟩
theorem Inv.pinned {pins:List (Addr × Obj)}{σ:St}{H:Hp}{s:Shared}{fp:List Addr} (I:Inv X pins σ H s) (hf:∀ b∈fp,kS X pins H b) (ho:∀ b∈fp,∃ o,s.heap.get? b=some o/\∀ v,o.data ≠ .cell v):Inv X (pins++oP fp s.heap) σ H s :=
 I.pins_of fun p hp=>(List.mem_append.mp hp).elim (fun z=>I.pin p (List.mem_append_right _ z)) fun z=>by
  obtain ⟨hb,e⟩:=aF2 z
  obtain ⟨f0,f1,f2,_⟩:=hf p.1 hb
  obtain ⟨o,e',d⟩:=ho p.1 hb
  rw [e] at e'; cases e'
  exact ⟨e,f0,f1,f2,d⟩
theorem Inv.unpinned {pins pl:List (Addr × Obj)}{σ:St}{H:Hp}{s:Shared} (I:Inv X (pins++pl) σ H s):Inv X pins σ H s:=I.pins_of fun p hp=>I.pin p (List.mem_append_right _ (List.mem_append_left _ hp))
theorem aOZ {iter:Expr}{body:List Stmt}{wi:TI}{g:TG}{tb:TS}{pos:Pos} (hp:PassesOwn (model X.prog X.w) X.A X.env X.xe) (hc:X.calm=true) (hi:PI X tg iter wi) (hg:PG X tg g) (hb:PSs X body tb)
  (hs:∀ x,foldedSetIterable iter X.env x=pure x:=by intro _; rfl):PS X (.For tg iter body [] pos) (tFor wi g tb):=by
 intro pins s σ H D I h
 refine wpAny_For (thn (hi pins s σ H _ I h) fun v s1 h1=>thn h1 fun itv s2 h2 => ?_) hs
 obtain ⟨it,fp,tn,J,H2,e,I2,T,st2,f2,W,⟨m0,w0⟩,turn⟩:=h2
 subst e
 -- what stays true of the iterator's objects through the loop
 have stat:∀ {H':Hp},(∀ b∈fp,H' b=none)->∀ b∈fp,kS X pins H' b:=fun hn b hb=>⟨hn b hb,(f2 b hb).2⟩
 refine codeAny_forLoop_any (fun n s'=>∃ i σ' H',Inv X pins σ' H' s'/\tn i s'.heap/\(∀ b∈fp,H' b=none)/\W i n σ' H') ?_ m0 ⟨0,σ,H2,I2,st2,fun b hb=>(f2 b hb).1,w0⟩
 rintro n s3 ⟨i,σ3,H3,I3,st3,fr3,w3⟩
 rcases turn i n σ3 H3 w3 with ⟨stop,qn⟩ | ⟨go,N,hN,step⟩
 ·refine wpAny_passesOwn hp (thn (T.done X rfl rfl rfl hc i pins s3 σ3 H3 X.xe I3 (stat fr3) st3 stop) fun r s4 ⟨hr,I4⟩ => ?_)
  subst hr
  exact wpAny_execs_nil ⟨σ3,H3,I4,qn⟩
 ·refine wpAny_passesOwn hp (thn (T.item X rfl rfl rfl hc i pins s3 σ3 H3 X.xe I3 (stat fr3) st3 go) fun r s4 ⟨u,hr,h4⟩ => ?_)
  subst hr
  refine wpAny_passesOwn hp (thn h4 fun _ s5 ⟨x,H5,I5,r5,y5,st5,fr5⟩ => ?_)
  have I5':=I5.pinned (stat fr5) (T.obj _ _ st5)
  refine wpAny_passesOwn hp (thn (hg _ s5 σ3 H5 x u _ I5' r5 (step x H5 y5)) fun _ s6 ⟨σ6,H6,I6,q6⟩ => ?_)
  refine wpAny_passesOwn hp (thn (hb _ s6 σ6 H6 _ I6 q6) fun f s7 q7 => ?_)
  have again:∀ {σ7:St}{H7:Hp},Inv X (pins++oP fp s5.heap) σ7 H7 s7->N σ7 H7->∃ m,m < n/\∃ i σ' H',Inv X pins σ' H' s7/\tn i s7.heap/\(∀ b∈fp,H' b=none)/\W i m σ' H':=fun {σ7 H7} I7 n7=>by
   obtain ⟨m',hm,w7⟩:=hN σ7 H7 n7
   refine ⟨m',hm,i+1,σ7,H7,I7.unpinned,T.keep _ _ _ st5 fun b hb o e=>(I7.pin (b,o) (List.mem_append_right _ (List.mem_append_right _ (iJ hb e)))).1,fun b hb => ?_,w7⟩
   obtain ⟨o,e,d⟩:=T.obj _ _ st5 b hb
   exact (I7.pin (b,o) (List.mem_append_right _ (List.mem_append_right _ (iJ hb e)))).2.1
  cases f with
  | next=>obtain ⟨σ7,H7,I7,n7⟩:=q7; exact again I7 n7
  | cont=>obtain ⟨σ7,H7,I7,n7⟩:=q7; exact again I7 n7
  | brk=>obtain ⟨σ7,H7,I7,q7⟩:=q7; exact ⟨σ7,H7,I7.unpinned,q7⟩
  | ret v=>obtain ⟨x7,σ7,H7,I7,r7,q7⟩:=q7; exact ⟨x7,σ7,H7,I7.unpinned,r7,q7⟩
end
end L2
namespace L2
open PySem PySem.Spec PyProof.Rows
abbrev R2:=V->V->Hp->VK->Prop
def OpR (X:Cx) (f:Value->Value->Sem Value) (r:R2):Prop :=
 ∀ (pins:List (Addr × Obj)) (s:Shared) (σ:St) (H:Hp) (x y:V) (v u:Value) (Q:VK),Inv X pins σ H s->RelV x v->RelV y u->r x y H Q ->
  wpAny (model X.prog X.w) X.A (f v u) (EP X pins σ Q) X.xe s
def UnR (X:Cx) (f:Value->Sem Value) (r:V->Hp->VK->Prop):Prop :=
 ∀ (pins:List (Addr × Obj)) (s:Shared) (σ:St) (H:Hp) (x:V) (v:Value) (Q:VK),Inv X pins σ H s->RelV x v->r x H Q ->
  wpAny (model X.prog X.w) X.A (f v) (EP X pins σ Q) X.xe s
def iE (X:Cx) (f:Value) (r:List V->Hp->VK->Prop):Prop :=
 ∀ (pins:List (Addr × Obj)) (s:Shared) (σ:St) (H:Hp) (xs:List V) (us:List Value) (Q:VK),Inv X pins σ H s->Vals xs us->r xs H Q ->
  wpAny (model X.prog X.w) X.A (call f us) (EP X pins σ Q) X.xe s
def TruR (X:Cx) (r:V->Hp->(Bool->Hp->Prop)->Prop):Prop :=
 ∀ (pins:List (Addr × Obj)) (s:Shared) (σ:St) (H:Hp) (x:V) (v:Value) (Q:Bool->Hp->Prop),Inv X pins σ H s->RelV x v->r x H Q ->
  wpAny (model X.prog X.w) X.A (truthy v) (TP X pins σ Q) X.xe s
def tOp (r:R2) (ta tb:TE):TE:=fun σ H Q=>ta σ H fun x H1=>tb σ H1 fun y H2=>r x y H2 Q
def tUn (r:V->Hp->VK->Prop) (ta:TE):TE:=fun σ H Q=>ta σ H fun x H1=>r x H1 Q
def rI (C:Int->Int->Prop) (g:Int->Int->V):R2:=fun x y H Q=>∃ i j,x = .int i/\y = .int j/\C i j/\Q (g i j) H
def rI0 (g:Int->Int->V):R2:=fun x y H Q=>∃ i j,x = .int i/\y = .int j/\Q (g i j) H
def rU (g:Int->V):V->Hp->VK->Prop:=fun x H Q=>∃ i,x = .int i/\Q (g i) H
section
variable {X:Cx}{a b c:Expr}{ta tb tc:TE}{pos:Pos}
theorem aJJ (ha:PE X a ta) (hb:PE X b tb) {pins:List (Addr × Obj)}{s:Shared}{σ:St}{H:Hp}{R:V->V->Hp->Prop} (I:Inv X pins σ H s)
  (h:ta σ H fun x H1=>tb σ H1 fun y H2=>R x y H2) {Q:Value->Shared->Prop}{f:Value->Value->Sem Value}
  (hf:∀ v u s2 x y H2,Inv X pins σ H2 s2->RelV x v->RelV y u->R x y H2->wpAny (model X.prog X.w) X.A (f v u) Q X.xe s2) :
  wpAny (model X.prog X.w) X.A (eval a X.env) (fun v s₁=>wpAny (model X.prog X.w) X.A (eval b X.env) (fun u s₂=>wpAny (model X.prog X.w) X.A (f v u) Q X.xe s₂) X.xe s₁) X.xe s:=by
 refine thn (ha pins s σ H _ I h) fun v s1 ⟨x,H1,I1,r1,q1⟩ => ?_
 refine thn (hb pins s1 σ H1 _ I1 q1) fun u s2 ⟨y,H2,I2,r2,q2⟩ => ?_
 exact hf v u s2 x y H2 I2 r1 r2 q2
theorem aQS {op:Operator}{r:R2} (ho:OpR X (binaryOp op) r) (ha:PE X a ta) (hb:PE X b tb):PE X (.BinOp a op b pos) (tOp r ta tb):=by
 intro pins s σ H Q I h
 exact wpAny_BinOp (aJJ ha hb I h fun v u s2 x y H2 I2 rx ry q=>ho pins s2 σ H2 x y v u Q I2 rx ry q)
theorem aQG {op:UnaryOp}{r:V->Hp->VK->Prop} (ho:UnR X (unaryOp op) r) (ha:PE X a ta):PE X (.UnaryOp op a pos) (tUn r ta):=by
 intro pins s σ H Q I h
 exact UnaryOp_ (thn (ha pins s σ H _ I h) fun v s1 ⟨x,H1,I1,r1,q1⟩=>ho pins s1 σ H1 x v Q I1 r1 q1)
theorem opI {f:Value->Value->Sem Value}{C:Int->Int->Prop}{g:Int->Int->Int}
  (rule:∀ (i j:Int) (t u:Tok) (s:Shared) (Q:Value->Shared->Prop) (E:Value->Shared->Prop),C i j->Q (.int (g i j) s.toks) { s with toks:=s.toks+1 }->wpAny (model X.prog X.w) X.A (f (.int i t) (.int j u)) Q E s) :
  OpR X f (rI C fun i j => .int (g i j)):=by
 intro pins s σ H x y v u Q I rx ry h
 obtain ⟨i,j,rfl,rfl,hc,q⟩:=h
 obtain ⟨t,rfl⟩:=rx
 obtain ⟨t',rfl⟩:=ry
 exact rule i j t t' s _ _ hc ⟨.int (g i j),H,I.tok _,⟨_,rfl⟩,q⟩
theorem opI0 {f:Value->Value->Sem Value}{g:Int->Int->Int}
  (rule:∀ (i j:Int) (t u:Tok) (s:Shared) (Q:Value->Shared->Prop) (E:Value->Shared->Prop),Q (.int (g i j) s.toks) { s with toks:=s.toks+1 }->wpAny (model X.prog X.w) X.A (f (.int i t) (.int j u)) Q E s) :
  OpR X f (rI0 fun i j => .int (g i j)):=by
 intro pins s σ H x y v u Q I rx ry h
 obtain ⟨i,j,rfl,rfl,q⟩:=h
 obtain ⟨t,rfl⟩:=rx
 obtain ⟨t',rfl⟩:=ry
 exact rule i j t t' s _ _ ⟨.int (g i j),H,I.tok _,⟨_,rfl⟩,q⟩
theorem aC8 {f:Value->Value->Sem Value}{g:Int->Int->Bool}
  (rule:∀ (i j:Int) (t u:Tok) (s:Shared) (Q:Value->Shared->Prop) (E:Value->Shared->Prop),Q (.bool (g i j)) s->wpAny (model X.prog X.w) X.A (f (.int i t) (.int j u)) Q E s) :
  OpR X f (rI0 fun i j => .bl (g i j)):=by
 intro pins s σ H x y v u Q I rx ry h
 obtain ⟨i,j,rfl,rfl,q⟩:=h
 obtain ⟨t,rfl⟩:=rx
 obtain ⟨t',rfl⟩:=ry
 exact rule i j t t' s _ _ ⟨.bl (g i j),H,I,rfl,q⟩
def CDiv (i j:Int):Prop:=0 < j/\j < 1073741824
def CPow (i j:Int):Prop:=0<=j/\j<=1000000/\i.natAbs < 2 ^ 64
def CMul (i j:Int):Prop:=(-(2 ^ 64) < i/\i < 2 ^ 64)\/(-(2 ^ 64) < j/\j < 2 ^ 64)
theorem CMul.ok {i j:Int} (h:CMul i j):IntMulOk i j:=by
 rcases h with ⟨h1,h2⟩ | ⟨h1,h2⟩
 ·exact .of_left (intBits_le_64 h1 h2)
 ·exact .of_right (intBits_le_64 h1 h2)
theorem cF:OpR X (binaryOp .Add) (rI0 fun i j => .int (i+j)):=opI0 fun _ _ _ _ _ _ _ q=>add_int q
theorem bR:OpR X (binaryOp .Sub) (rI0 fun i j => .int (i - j)):=opI0 fun _ _ _ _ _ _ _ q=>sub_int q
theorem fD:OpR X (binaryOp .Mult) (rI CMul fun i j => .int (i * j)):=opI fun _ _ _ _ _ _ _ hc q=>mul_int q hc.ok
theorem sG:OpR X (binaryOp .FloorDiv) (rI CDiv fun i j => .int (i / j)):=opI fun i j _ _ _ _ _ hc q=>by
 have h1:(0:Int) < j:=hc.1
 have h2:j < 1073741824:=hc.2
 exact floordiv_int (by omega) (by rw [Int.fdiv_eq_ediv_of_nonneg i (by omega)]; exact q) (.inl (PyProof.noPylong_small (by omega)))
theorem dF:OpR X (binaryOp .Mod) (rI (fun _ j=>0 < j) fun i j => .int (i % j)):=opI fun i j _ _ _ _ _ hc q=>by
 have h1:(0:Int) < j:=hc
 exact mod_int' (by omega) (by rw [Int.fmod_eq_emod_of_nonneg i (by omega)]; exact q)
theorem aCT:OpR X (binaryOp .Mod) (rI (fun _ j=>j≠0) fun i j => .int (i.fmod j)):=opI fun _ _ _ _ _ _ _ hc q=>mod_int' hc q
theorem mO:OpR X (binaryOp .Pow) (rI CPow fun i j => .int (i ^ j.toNat)):=opI fun _ _ _ _ _ _ _ hc q=>pow_int_small hc.1 hc.2.1 hc.2.2 q
theorem unI {f:Value->Sem Value}{g:Int->Int}
  (rule:∀ (i:Int) (t:Tok) (s:Shared) (Q:Value->Shared->Prop) (E:Value->Shared->Prop),Q (.int (g i) s.toks) { s with toks:=s.toks+1 }->wpAny (model X.prog X.w) X.A (f (.int i t)) Q E s) :
  UnR X f (rU fun i => .int (g i)):=by
 intro pins s σ H x v Q I rx h
 obtain ⟨i,rfl,q⟩:=h
 obtain ⟨t,rfl⟩:=rx
 exact rule i t s _ _ ⟨.int (g i),H,I.tok _,⟨_,rfl⟩,q⟩
theorem eN:UnR X (unaryOp .USub) (rU fun i => .int (-i)):=unI fun _ _ _ _ _ q=>neg_int q
end
def scal:V->V->Bool
 | .non, .non=>true | .non, .int _=>true | .int _, .non=>true | .non, .bl _=>true | .bl _, .non=>true | .non, .str _=>true | .str _, .non=>true
 | .int _, .int _=>true | .bl _, .bl _=>true | .str _, .str _=>true | .byt _, .byt _=>true
 | .int _, .str _=>true | .str _, .int _=>true | .bl _, .str _=>true | .str _, .bl _=>true
 | _,_=>false
def rEq:R2:=fun x y H Q=>scal x y=true/\Q (.bl (decide (x=y))) H
def rNe:R2:=fun x y H Q=>scal x y=true/\Q (.bl (!decide (x=y))) H
theorem aCQ {i j:Int}:decide (V.int i=V.int j)=(i == j):=by
 rw [Bool.eq_iff_iff]
 simp
theorem aGQ {i j:Bool}:decide (V.bl i=V.bl j)=(i == j):=by
 rw [Bool.eq_iff_iff]
 simp
theorem aCP {i j:Str}:decide (V.str i=V.str j)=(i == j):=by
 rw [Bool.eq_iff_iff]
 simp
theorem aCG {i j:Array UInt8}:decide (V.byt i=V.byt j)=(i.toList == j.toList):=by
 rw [Bool.eq_iff_iff]
 cases i
 cases j
 simp
section
variable {X:Cx}{a b c:Expr}{ta tb tc:TE}{pos:Pos}
theorem bS {pins:List (Addr × Obj)}{σ:St}{H:Hp}{s:Shared}{Q:VK}{k k':Bool} (I:Inv X pins σ H s) (q:Q (.bl k) H) (e:k=k'):EP X pins σ Q (.bool k') s:=by
 subst e
 exact ⟨.bl k,H,I,rfl,q⟩
theorem iG:OpR X (compareOp .Eq) rEq:=by
 intro pins s σ H x y v u Q I rx ry h
 obtain ⟨hs,q⟩:=h
 cases x with
 | non =>
  cases rx
  cases y with
  | non=>cases ry; exact PySem.EqNone.eq_none_none (bS I q (by simp))
  | bl j=>cases ry; exact PySem.EqNone.eq_none_bool (bS I q (by simp))
  | int j=>obtain ⟨t',rfl⟩:=ry; exact PySem.EqNone.eq_none_int (bS I q (by simp))
  | str j=>obtain ⟨t',rfl⟩:=ry; exact PySem.EqNone.eq_none_str (bS I q (by simp))
  | _=>exact absurd (show false=true from hs) zBf
 | bl i =>
  cases rx
  cases y with
  | non=>cases ry; exact PySem.EqNone.eq_bool_none (bS I q (by simp))
  | bl j=>cases ry; exact eq_bool (bS I q aGQ)
  | str j=>obtain ⟨t',rfl⟩:=ry; exact PySem.EqMixed.eq_bool_str (bS I q (by simp))
  | _=>exact absurd (show false=true from hs) zBf
 | int i =>
  obtain ⟨t,rfl⟩:=rx
  cases y with
  | non=>cases ry; exact PySem.EqNone.eq_int_none (bS I q (by simp))
  | int j=>obtain ⟨t',rfl⟩:=ry; exact eq_int (bS I q aCQ)
  | str j=>obtain ⟨t',rfl⟩:=ry; exact PySem.EqMixed.eq_int_str (bS I q (by simp))
  | _=>exact absurd (show false=true from hs) zBf
 | str i =>
  obtain ⟨t,rfl⟩:=rx
  cases y with
  | non=>cases ry; exact PySem.EqNone.eq_str_none (bS I q (by simp))
  | bl j=>cases ry; exact PySem.EqMixed.eq_str_bool (bS I q (by simp))
  | int j=>obtain ⟨t',rfl⟩:=ry; exact PySem.EqMixed.eq_str_int (bS I q (by simp))
  | str j=>obtain ⟨t',rfl⟩:=ry; exact eq_str (bS I q aCP)
  | _=>exact absurd (show false=true from hs) zBf
 | byt i =>
  obtain ⟨t,rfl⟩:=rx
  cases y with
  | byt j=>obtain ⟨t',rfl⟩:=ry; exact PySem.W.eq_bytes (bS I q aCG)
  | _=>exact absurd (show false=true from hs) zBf
 | _=>cases y <;> exact absurd (show false=true from hs) zBf
theorem pG:OpR X (compareOp .NotEq) rNe:=by
 intro pins s σ H x y v u Q I rx ry h
 obtain ⟨hs,q⟩:=h
 cases x with
 | non =>
  cases rx
  cases y with
  | non=>cases ry; exact PySem.EqNone.ne_none_none (bS I q (by simp))
  | bl j=>cases ry; exact PySem.EqNone.ne_none_bool (bS I q (by simp))
  | int j=>obtain ⟨t',rfl⟩:=ry; exact PySem.EqNone.ne_none_int (bS I q (by simp))
  | str j=>obtain ⟨t',rfl⟩:=ry; exact PySem.EqNone.ne_none_str (bS I q (by simp))
  | _=>exact absurd (show false=true from hs) zBf
 | bl i =>
  cases rx
  cases y with
  | non=>cases ry; exact PySem.EqNone.ne_bool_none (bS I q (by simp))
  | bl j=>cases ry; exact ne_bool (bS I q (congrArg not aGQ))
  | str j=>obtain ⟨t',rfl⟩:=ry; exact PySem.EqMixed.ne_bool_str (bS I q (by simp))
  | _=>exact absurd (show false=true from hs) zBf
 | int i =>
  obtain ⟨t,rfl⟩:=rx
  cases y with
  | non=>cases ry; exact PySem.EqNone.ne_int_none (bS I q (by simp))
  | int j=>obtain ⟨t',rfl⟩:=ry; exact ne_int (bS I q (congrArg not aCQ))
  | str j=>obtain ⟨t',rfl⟩:=ry; exact PySem.EqMixed.ne_int_str (bS I q (by simp))
  | _=>exact absurd (show false=true from hs) zBf
 | str i =>
  obtain ⟨t,rfl⟩:=rx
  cases y with
  | non=>cases ry; exact PySem.EqNone.ne_str_none (bS I q (by simp))
  | bl j=>cases ry; exact PySem.EqMixed.ne_str_bool (bS I q (by simp))
  | int j=>obtain ⟨t',rfl⟩:=ry; exact PySem.EqMixed.ne_str_int (bS I q (by simp))
  | str j=>obtain ⟨t',rfl⟩:=ry; exact ne_str (bS I q (congrArg not aCP))
  | _=>exact absurd (show false=true from hs) zBf
 | byt i =>
  obtain ⟨t,rfl⟩:=rx
  cases y with
  | byt j=>obtain ⟨t',rfl⟩:=ry; exact PySem.W.ne_bytes (bS I q (congrArg not aCG))
  | _=>exact absurd (show false=true from hs) zBf
 | _=>cases y <;> exact absurd (show false=true from hs) zBf
theorem j6:OpR X (compareOp .Lt) (rI0 fun i j => .bl (decide (i < j))):=aC8 fun _ _ _ _ _ _ _ q=>lt_int q
theorem aJ5:OpR X (compareOp .LtE) (rI0 fun i j => .bl (decide (i<=j))):=aC8 fun _ _ _ _ _ _ _ q=>le_int q
theorem pP:OpR X (compareOp .Gt) (rI0 fun i j => .bl (decide (j < i))):=aC8 fun _ _ _ _ _ _ _ q=>gt_int q
theorem aC7:OpR X (compareOp .GtE) (rI0 fun i j => .bl (decide (j<=i))):=aC8 fun _ _ _ _ _ _ _ q=>ge_int q
theorem aFD:OpR X (compareOp .In) (fun x y H Q=>∃ i j,x = .str i/\y = .str j/\Q (.bl (!(Builtin.Str.occurrences j i 0 j.length 1).isEmpty)) H):=by
 intro pins s σ H x y v u Q I rx ry h
 obtain ⟨i,j,rfl,rfl,q⟩:=h
 obtain ⟨t,rfl⟩:=rx
 obtain ⟨t',rfl⟩:=ry
 exact in_str (bS I q rfl)
theorem aNJ:OpR X (compareOp .Is) (fun x y H Q=>y = .non/\Q (.bl (decide (x = .non))) H):=by
 intro pins s σ H x y v u Q I rx ry h
 obtain ⟨rfl,q⟩:=h
 cases ry
 refine is_none_gen (bS I q ?_)
 cases x <;> first
  | (cases rx; rfl)
  | (obtain ⟨t,rfl⟩:=rx; rfl)
theorem aNF:OpR X (compareOp .IsNot) (fun x y H Q=>y = .non/\Q (.bl (!decide (x = .non))) H):=by
 intro pins s σ H x y v u Q I rx ry h
 obtain ⟨rfl,q⟩:=h
 cases ry
 refine isnot_none_gen (bS I q ?_)
 cases x <;> first
  | (cases rx; rfl)
  | (obtain ⟨t,rfl⟩:=rx; rfl)
theorem nomark (b:Expr) {op:CmpOp} (h:op ≠ .In:=by decide) (h2:op ≠ .NotIn:=by decide):behindInMarks op b=false:=by
 have e1:(op == CmpOp.In)=false:=by cases op <;> first | rfl | exact absurd rfl h
 have e2:(op == CmpOp.NotIn)=false:=by cases op <;> first | rfl | exact absurd rfl h2
 cases b <;> simp [behindInMarks,e1,e2]
theorem aKT {op:CmpOp}{r:R2} (ho:OpR X (compareOp op) r) (ha:PE X a ta) (hb:PE X b tb) (hm:behindInMarks op b=false):PE X (.Compare a [op] [b] pos) (tOp r ta tb):=by
 intro pins s σ H Q I h
 exact wpAny_Compare1 (aJJ ha hb I h fun v u s2 x y H2 I2 rx ry q=>ho pins s2 σ H2 x y v u Q I2 rx ry q) hm
def aQ2 (t:TE):TT:=fun σ H Q=>t σ H fun x H'=>∃ k,x = .bl k/\Q k H'
theorem aMJ {op:CmpOp}{r:R2} (ho:OpR X (compareOp op) r) (ha:PE X a ta) (hb:PE X b tb) (hm:behindInMarks op b=false):PT X (.Compare a [op] [b] pos) (aQ2 (tOp r ta tb)):=by
 intro pins s σ H Q I h
 refine wpAny_isTrue_Compare1 (thn (ha pins s σ H _ I h) fun v s1 ⟨x,H1,I1,r1,q1⟩=>thn (hb pins s1 σ H1 _ I1 q1) fun u s2 ⟨y,H2,I2,r2,q2⟩ =>
  thn (ho pins s2 σ H2 x y v u _ I2 r1 r2 q2) fun c s3 ⟨z,H3,I3,r3,k,e,q3⟩ => ?_) hm
 subst e
 cases r3
 exact wpAny_truthy_bool ⟨H3,I3,q3⟩
def aPR (r r':R2) (ta tb tc:TE):TE:=fun σ H Q=>ta σ H fun x H1=>tb σ H1 fun y H2=>r x y H2 fun z H3=>∃ k,z = .bl k /\
 (if k=true then tc σ H3 fun w' H4=>r' y w' H4 Q else Q (.bl false) H3)
theorem aHU {op op':CmpOp}{r r':R2} (ho:OpR X (compareOp op) r) (ho':OpR X (compareOp op') r') (ha:PE X a ta) (hb:PE X b tb) (hc:PE X c tc)
  (hm:lastMarks [op,op'] [b,c]=false:=by with_unfolding_all rfl):PE X (.Compare a [op,op'] [b,c] pos) (aPR r r' ta tb tc):=by
 intro pins s σ H Q I h
 refine Compare_chain (thn (ha pins s σ H _ I h) fun v s1 ⟨x,H1,I1,r1,q1⟩=>chain_link (thn (hb pins s1 σ H1 _ I1 q1) fun u s2 ⟨y,H2,I2,r2,q2⟩ =>
  thn (ho pins s2 σ H2 x y v u _ I2 r1 r2 q2) fun d s3 ⟨z,H3,I3,r3,k,e,q3⟩ => ?_)) hm
 subst e
 cases r3
 refine wpAny_truthy_bool ?_
 cases k with
 | false=>exact ite_ff ⟨.bl false,H3,I3,rfl,q3⟩
 | true=>exact ite_tt (chain_last (thn (hc pins s3 σ H3 _ I3 q3) fun w' s4 ⟨z',H4,I4,r4,q4⟩=>ho' pins s4 σ H4 y z' u w' Q I4 r2 r4 q4))
def TruV (K:PySem.W.Frag) (x:V) (H:Hp) (k:Bool):Prop :=
 match x with
 | .non=>k=false
 | .bl b=>k=b
 | .int i=>k=(i != 0)
 | .str y=>y.length<=sizeLine/\k=((y.length:Int) != 0)
 | .byt y=>y.size<=sizeLine/\k=((y.size:Int) != 0)
 | .ref p=>(∃ xs,SqL K H p xs/\k = !xs.isEmpty)\/(∃ xs,SqT K H p xs/\k = !xs.isEmpty)\/∃ kvs,H p=some (.dK kvs)/\k = !kvs.isEmpty
 | _=>False
theorem aEJ {κ:Type}{kvs:List (κ × V)}{vs:List (κ × Value)} (r:KV kvs vs):(!vs.isEmpty) = !kvs.isEmpty:=by
 cases r <;> rfl
theorem uR {xs:List V}{its:List Value} (r:Vals xs its):(!its.toArray.isEmpty) = !xs.isEmpty:=by
 cases r <;> simp
theorem line63:(sizeLine:Nat) < 2 ^ 63:=by rw [sizeLine_eq]; decide
theorem aOJ:TruR X (fun x H Q=>∃ k,TruV X.K x H k/\Q k H):=by
 intro pins s σ H x v Q I rx h
 obtain ⟨k,e,q⟩:=h
 have hl:=line63
 have hs:sizeLine=16777216:=sizeLine_eq
 cases x with
 | non =>
  cases rx
  have e':k=false:=e
  subst e'
  exact truthy_none ⟨H,I,q⟩
 | bl b =>
  cases rx
  have e':k=b:=e
  subst e'
  exact wpAny_truthy_bool ⟨H,I,q⟩
 | int i =>
  obtain ⟨t,rfl⟩:=rx
  have e':k=(i != 0):=e
  subst e'
  exact PySem.P.truthy_int ⟨H,I,q⟩
 | str y =>
  obtain ⟨t,rfl⟩:=rx
  obtain ⟨hy,e'⟩:y.length<=sizeLine/\k=((y.length:Int) != 0):=e
  subst e'
  exact PySem.P.truthy_str (by omega) ⟨H,I.tok _,q⟩
 | byt y =>
  obtain ⟨t,rfl⟩:=rx
  obtain ⟨hy,e'⟩:y.size<=sizeLine/\k=((y.size:Int) != 0):=e
  subst e'
  exact PySem.W.truthy_bytes (by omega) ⟨H,I.tok _,q⟩
 | ref p =>
  cases rx
  have e':(∃ xs,SqL X.K H p xs/\k = !xs.isEmpty)\/(∃ xs,SqT X.K H p xs/\k = !xs.isEmpty)\/∃ kvs,H p=some (.dK kvs)/\k = !kvs.isEmpty:=e
  rcases e' with ⟨xs,hx,e'⟩ | ⟨xs,hx,e'⟩ | ⟨kvs,hx,e'⟩
  ·subst e'
   obtain ⟨its,r,pl,hz⟩:=I.list hx
   have hlen:=r.length
   exact wpAny_truthy_list pl.isList (by simp only [List.size_toArray]; omega) ⟨H,I.tok _,by rw [uR r]; exact q⟩
  ·subst e'
   obtain ⟨its,r,pl,hz⟩:=I.tuple hx
   have hlen:=r.length
   exact truthy_tuple pl (by simp only [List.size_toArray]; omega) ⟨H,I.tok _,by rw [uR r]; exact q⟩
  ·subst e'
   obtain ⟨hz,hS,vs,r,m⟩:kvs.length<=sizeLine/\(p == sysModules)=false/\∃ vs,KV kvs vs/\s.heap.DictOf (wE X.prog X.w) p vs:=I.hok p _ hx
   have hlen:kvs.length=vs.length:=Paired.length r
   exact wpAny_truthy_dict hS m (by omega) ⟨H,I.tok _,by rw [aEJ r]; exact q⟩
 | _=>exact (show False from e).elim
theorem aI0 (ha:PE X a ta) (he:∀ whole,isTrue a X.env whole=(do let v <- whole; standAt a.pos; holding [v] (truthy v))) :
  PT X a (fun σ H Q=>ta σ H fun x H'=>∃ k,TruV X.K x H' k/\Q k H'):=by
 intro pins s σ H Q I h
 exact isTrue_plain (thn (ha pins s σ H _ I h) fun v s1 ⟨x,H1,I1,r1,q1⟩=>aOJ pins s1 σ H1 x v Q I1 r1 q1) (he _)
theorem vals1 {x:V}{us:List Value} (r:Vals [x] us):∃ u,us=[u]/\RelV x u:=by
 cases r with
 | cons r1 r2=>cases r2; exact ⟨_,rfl,r1⟩
theorem vals2 {x y:V}{us:List Value} (r:Vals [x,y] us):∃ u w',us=[u,w']/\RelV x u/\RelV y w':=by
 cases r with
 | cons r1 r2 =>
  cases r2 with
  | cons r3 r4=>cases r4; exact ⟨_,_,rfl,r1,r3⟩
theorem mB:iE X (.builtin "abs") (fun xs H Q=>∃ i,xs=[.int i]/\Q (.int (if i < 0 then -i else i)) H):=by
 intro pins s σ H xs us Q I r h
 obtain ⟨i,rfl,q⟩:=h
 obtain ⟨u,rfl,t,rfl⟩:=vals1 r
 exact call_abs_int fun u tk=>⟨.int (if i < 0 then -i else i),H,I.tok _,⟨_,rfl⟩,q⟩
theorem nQ (hc:X.calm=true):iE X (.builtin "max") (fun xs H Q=>∃ i j,xs=[.int i, .int j]/\Q (.int (if j > i then j else i)) H):=by
 intro pins s σ H xs us Q I r h
 obtain ⟨i,j,rfl,q⟩:=h
 obtain ⟨u,w',rfl,⟨t,rfl⟩,⟨t',rfl⟩⟩:=vals2 r
 refine max_two_ints (I.ok.hd hc) fun h' tk k=>⟨_,H,I.kept k,?_,q⟩
 by_cases hj:j > i
 ·rw [if_pos hj,if_pos hj]; exact ⟨_,rfl⟩
 ·rw [if_neg hj,if_neg hj]; exact ⟨_,rfl⟩
theorem aFF (hc:X.calm=true):iE X (.builtin "min") (fun xs H Q=>∃ i j,xs=[.int i, .int j]/\Q (.int (if j < i then j else i)) H):=by
 intro pins s σ H xs us Q I r h
 obtain ⟨i,j,rfl,q⟩:=h
 obtain ⟨u,w',rfl,⟨t,rfl⟩,⟨t',rfl⟩⟩:=vals2 r
 refine min_two_ints (I.ok.hd hc) fun h' tk k=>⟨_,H,I.kept k,?_,q⟩
 by_cases hj:j < i
 ·rw [if_pos hj,if_pos hj]; exact ⟨_,rfl⟩
 ·rw [if_neg hj,if_neg hj]; exact ⟨_,rfl⟩
def aJC (K:PySem.W.Frag) (x:V) (H:Hp) (n:Nat):Prop :=
 match x with
 | .str y=>y.length<=sizeLine/\n=y.length
 | .byt y=>y.size<=sizeLine/\n=y.size
 | .ref p=>(∃ xs,SqL K H p xs/\n=xs.length)\/∃ xs,SqT K H p xs/\n=xs.length
 | _=>False
theorem bJ:iE X (.builtin "len") (fun xs H Q=>∃ x n,xs=[x]/\aJC X.K x H n/\Q (.int n) H):=by
 intro pins s σ H xs us Q I r h
 obtain ⟨x,n,rfl,e,q⟩:=h
 obtain ⟨u,rfl,rx⟩:=vals1 r
 have hl:=line63
 have hs:sizeLine=16777216:=sizeLine_eq
 cases x with
 | str y =>
  obtain ⟨t,rfl⟩:=rx
  obtain ⟨hy,e'⟩:y.length<=sizeLine/\n=y.length:=e
  subst e'
  exact len_str (by omega) ⟨.int _,H,I.tok _,⟨_,rfl⟩,q⟩
 | byt y =>
  obtain ⟨t,rfl⟩:=rx
  obtain ⟨hy,e'⟩:y.size<=sizeLine/\n=y.size:=e
  subst e'
  exact PySem.W.len_bytes (by omega) ⟨.int _,H,I.tok _,⟨_,rfl⟩,q⟩
 | ref p =>
  cases rx
  have e':(∃ xs,SqL X.K H p xs/\n=xs.length)\/∃ xs,SqT X.K H p xs/\n=xs.length:=e
  rcases e' with ⟨xs,hx,e'⟩ | ⟨xs,hx,e'⟩
  ·subst e'
   obtain ⟨its,r',pl,hz⟩:=I.list hx
   have hlen:=r'.length
   exact Calls.call_len_list pl.isList (by simp only [List.size_toArray]; omega) ⟨.int xs.length,H,I.tok _,⟨_,by simp only [List.size_toArray]; rw [hlen]⟩,q⟩
  ·subst e'
   obtain ⟨its,r',pl,hz⟩:=I.tuple hx
   have hlen:=r'.length
   exact len_tuple pl (by simp only [List.size_toArray]; omega) ⟨.int xs.length,H,I.tok _,⟨_,by simp only [List.size_toArray]; rw [hlen]⟩,q⟩
 | _=>exact (show False from e).elim
end
end L2
namespace L2
open PySem PySem.Spec PyProof.Rows
structure ObjM (h:Heap) (x dx C:Addr) (mA:Str->Option Value):Prop where
 obj:h.get? x=some (PySem.W.instObj C dx)
 ns:h.Ns1 dx mA
 ne:dx≠x
section
variable {prog:Program}{w:World}{A:Around}{E:Value->Shared->Prop}{s:Shared}{K:PySem.W.Frag}{x dx C f:Addr}{mA:Str->Option Value}{name:Str}{v:Value}
end
section
variable {P:Program}{w:World}{H H':Hp}{h h':Heap}{a C dx:Addr}{fs fs':List (Str × V)}
end
structure Cls (K:PySem.W.Frag) (C:Addr):Prop where
 pg:PySem.W.plainGet K C Str.empty=true
 hd:PySem.W.hasDictIn K C=true
 po:PySem.W.plainOver K C=true
 sa:PySem.W.findIn K (.ref C) "__setattr__" = some (some (.builtin "object.__setattr__"))
structure Con (K:PySem.W.Frag) (C:Addr) (f:Str) (v:V) (u:Value):Prop where
 at_:PySem.W.findIn K (.ref C) f=some (some u)
 rel:RelV v u
 get:PySem.W.specialIn K u "__get__" = some none
 cp:PySem.W.copiedNames.contains f=false
structure Meth (K:PySem.W.Frag) (C:Addr) (m:Str) (f:Addr):Prop where
 at_:PySem.W.findIn K (.ref C) m=some (some (.ref f))
 fn:PySem.W.isFn K (.ref f)=true
 kp:PySem.W.keepIn K (.ref f)=true
section
variable {X:Cx}{pins:List (Addr × Obj)}{σ:St}{H:Hp}{s:Shared}{a C dx:Addr}{fs:List (Str × V)}{f:Str}{v:V}{A:Around}{E:Value->Shared->Prop}
end
section
variable {X:Cx}{o e value:Expr}{f:Str}{pos pos' tpos:Pos}{ta tv:TE}
end
section
variable {X:Cx}{pins:List (Addr × Obj)}{σ:St}{H:Hp}{s:Shared}{A:Around}{E:Value->Shared->Prop}{Q:Value->Shared->Prop}{c:Value}{b:Bool}
inductive TyOf (K:PySem.W.Frag) (H:Hp):V->Value->Prop where
 | non:TyOf K H .non (.type "NoneType")
 | bl (x:Bool):TyOf K H (.bl x) (.type "bool")
 | int (i:Int):TyOf K H (.int i) (.type "int")
 | str (x:Str):TyOf K H (.str x) (.type "str")
 | flt (x:UInt64):TyOf K H (.flt x) (.type "float")
 | lst {a:Addr}{xs:List V} (e:H a=some (.lst xs)):TyOf K H (.ref a) (.type "list")
 | frz {a:Addr}{o:Obj}{xs:List V} (e:H a=some (.frz o (.lst xs))):TyOf K H (.ref a) (.type "list")
 | tup {a:Addr}{xs:List V} (e:H a=some (.tup xs)):TyOf K H (.ref a) (.type "tuple")
 | dK {a:Addr}{kvs:List (Key × V)} (e:H a=some (.dK kvs)):TyOf K H (.ref a) (.type "dict")
 | dT {a:Addr}{kvs:List (List Key × V)} (e:H a=some (.dT kvs)):TyOf K H (.ref a) (.type "dict")
 | ins {a C dx:Addr}{fs:List (Str × V)} (e:H a=some (.ins C dx fs)) (cl:Cls K C) (ha:PySem.W.findIn K (.ref C) "__class__" = some (some (.builtin "object.__class__")))
   (hn:PySem.W.specialIn K (.builtin "object.__class__") "__get__" = some (some (.builtin "getset_descriptor.__get__"))) (htk:PySem.W.takesIn K (.builtin "object.__class__")=some true)
   (hm:PySem.W.mroIn K C (.type "object")=some true):TyOf K H (.ref a) (.ref C)
end
end L2
namespace L2
open PySem PySem.Spec PyProof.Rows
structure Room (k:Nat) (A:Around):Prop where
 hd:A.handled=none
 dp:A.depth+3 * k+5 < recursionLimit
 un:A.units+16 * k+200 < cLine
 gd:A.guards=some []
theorem Room.mono {j k:Nat}{A:Around} (r:Room k A) (h:j<=k):Room j A:=⟨r.hd,by have:=r.dp; omega,by have:=r.un; omega,r.gd⟩
theorem Room.deeper {k:Nat}{A:Around} (r:Room (k+1) A) (env:Env):Room k (A.deeper env) :=
 ⟨r.hd,by have:=r.dp; show A.depth+1+3 * k+5 < _; omega,by have:=r.un; show A.units+3+16 * k+200 < _; omega,r.gd⟩
theorem Room.depth {k:Nat}{A:Around} (r:Room k A):A.depth < recursionLimit:=by have:=r.dp; omega
theorem Room.units {k:Nat}{A:Around} (r:Room k A):A.units+64 < cLine:=by have:=r.un; omega
def tNil:TA:=fun _ H Q=>Q [] H
def aQM (ta:TE) (tr:TA):TA:=fun σ H Q=>ta σ H fun x H1=>tr σ H1 fun xs H2=>Q (x::xs) H2
section
variable {X:Cx}{e:Expr}{es:List Expr}{te:TE}{t:TA}{pos:Pos}
theorem aHD:PA X [] tNil:=fun _ _ _ _ H Q I h=>Calls.spliced_nil ⟨[],H,I, .nil,h⟩
theorem wI (ha:PE X e te) (hr:PA X es t) (hs:starEach (e::es) X.env=(false,eval e X.env)::starEach es X.env:=by rfl):PA X (e::es) (aQM te t):=by
 intro pos pins s σ H Q I h
 rw [hs]
 show wpAny _ _ (spliced ((false,eval e X.env)::backTo pos (starEach es X.env))) _ _ s
 refine Calls.spliced_cons (thn (ha pins s σ H _ I h) fun u s1 ⟨x,H1,I1,r1,q1⟩ => ?_)
 exact thn (hr pos pins s1 σ H1 _ I1 q1) fun us s2 ⟨xs,H2,I2,r2,q2⟩=>⟨x::xs,H2,I2, .cons r1 r2,q2⟩
def tTup (t:TA):TE:=fun σ H Q=>t σ H fun xs H1=>xs.length<=sizeLine/\∀ p,H1 p=none->Q (.ref p) (upd H1 p (.tup xs))
def tLst (t:TA):TE:=fun σ H Q=>t σ H fun xs H1=>xs.length<=sizeLine/\∀ p,H1 p=none->Q (.ref p) (upd H1 p (.lst xs))
theorem aN2 {x1} (h:PA X es t):PE X (.Tuple es x1 pos) (tTup t):=by
 intro pins s σ H Q I hq
 refine wpAny_Tuple_spliced (thn (h pos pins s σ H _ I hq) fun us s1 ⟨xs,H1,I1,r,z,q⟩=>⟨by rw [<- r.length]; exact z,?_⟩)
 have hf:H1 s1.heap.objs.size=none:=I1.hok.fresh (Nat.le_refl _)
 refine ⟨.ref s1.heap.objs.size,upd H1 s1.heap.objs.size (.tup xs),I1.laid (t':=s1.toks) (fun b u e=>Heap.get?_push_of_some _ e) (Nat.le_refl _) ?_,rfl,q _ hf⟩
 exact ⟨z,us,r,⟨_,Heap.get?_push_size _ rfl,rfl,_,rfl⟩⟩
theorem aEW (h:PA X es t):PE X (.List es pos) (tLst t):=by
 intro pins s σ H Q I hq
 refine wpAny_List_spliced (thn (h pos pins s σ H _ I hq) fun us s1 ⟨xs,H1,I1,r,z,q⟩=>⟨by rw [<- r.length]; exact z,?_⟩)
 have hf:H1 s1.heap.objs.size=none:=I1.hok.fresh (Nat.le_refl _)
 refine ⟨.ref s1.heap.objs.size,upd H1 s1.heap.objs.size (.lst xs),I1.laid (t':=s1.toks) (fun b u e=>Heap.get?_push_of_some _ e) (Nat.le_refl _) ?_,rfl,q _ hf⟩
 exact ⟨z,us,0,r,Heap.get?_push_size _ rfl⟩
end
abbrev Sp:=List V->Hp->VK->XK->Prop
abbrev CXT:=List Env->Hp->Shared->XK->Value->Shared->Prop
structure Env0 (P:Program) (w:World) (K:PySem.W.Frag) (mg:Str->Option Value) (base:Heap) (A:Around) (outer:List Env) (s:Shared) (H:Hp):Prop where
 frames:A.frames=some outer
 mod:Mod K mg base
 bs:∀ b o,base.get? b=some o->s.heap.get? b=some o/\H b=none
 bsz:base.objs.size<=s.heap.objs.size
 funs:s.heap.FunFrames base outer
 frf:∀ b∈frs outer,H b=none
 hok:HOk P w H s.heap
 bare:AllBare s.gens
def CE (outer:List Env) (P:Program) (w:World) (H:Hp) (s:Shared) (Q:VK) (u:Value) (s':Shared):Prop :=
 ∃ v H',s'.os=s.os/\AllBare s'.gens/\Un (frs outer) [] H H' s.heap s'.heap/\HOk P w H' s'.heap/\RelV v u/\Q v H'
def CR (CX:CXT) (outer:List Env) (P:Program) (w:World) (H:Hp) (s:Shared) (Q:VK) (E:XK) (r:Result) (s':Shared):Prop :=
 match r with
 | .ok (.ret u)=>CE outer P w H s Q u s'
 | .ok _=>False
 | .error e=>CX outer H s E e s'
structure FnOk (P:Program) (w:World) (K:PySem.W.Frag) (mg:Str->Option Value) (base:Heap) (CX:CXT) (k:Nat) (f:Addr) (fd:FuncData) (ps:List Str) (sp:Sp):Prop where
 len:∀ vs H Q E,sp vs H Q E->vs.length=ps.length
 run:∀ (A:Around) (outer:List Env) (s:Shared) (H:Hp) (args:Args) (us:List Value) (vs:List V) (Q:VK) (E:XK),Room k A->Env0 P w K mg base A outer s H->BindsTo s fd args (ps.zip us)->Vals vs us->sp vs H Q E ->
  codeAny (model P w) A (.call (.ref f) args) (CR CX outer P w H s Q E) s
section
variable {X:Cx}{pins:List (Addr × Obj)}{σ:St}{H:Hp}{s s':Shared}
theorem Inv.env0 (I:Inv X pins σ H s):Env0 X.prog X.w X.K X.mg X.base X.A X.stack s H :=
 ⟨I.ok.frames,I.ok.mod,I.bs,Nat.le_trans I.ok.bsz I.sz,I.stack,I.stkFree,I.hok,I.bare⟩
theorem Inv.after {Q:VK}{u:Value} (I:Inv X pins σ H s) (h:CE X.stack X.prog X.w H s Q u s'):EP X pins σ Q u s':=by
 obtain ⟨v,H',os,bare,un,hok,r,q⟩:=h
 obtain ⟨hh,g,d,t,os'⟩:=s'
 obtain rfl:os'=s.os:=os
 exact ⟨v,H',I.call (h':=hh) (g':=g) (d':=d) (t':=t) (ch:=[]) un hok bare (fun b z=>absurd z (by simp)),r,q⟩
end
def aQ8 (sp:Sp) (dvs:List V) (E:XK) (t:TA):TE:=fun σ H Q=>t σ H fun vs H1=>sp (vs++dvs) H1 Q E
def Binds (K:PySem.W.Frag) (fd:FuncData) (ps:List Str) (ds:List Value):Prop :=
 ∀ (s:Shared) (us:List Value),K.In s.heap->(us++ds).length=ps.length->BindsTo s fd ⟨us,[]⟩ (ps.zip (us++ds))
theorem Binds.all {K:PySem.W.Frag}{fd:FuncData}{ps:List Str} (h:∀ us:List Value,us.length=ps.length->bindArgs fd ⟨us,[]⟩=pure (ps.zip us)):Binds K fd ps []:=fun s us _ hl=>by
 rw [List.append_nil] at hl ⊢
 exact .of_eq (h us hl)
def Passes (CX:CXT) (X:Cx) (E:XK):Prop:=∀ (pins:List (Addr × Obj)) (σ:St) (H:Hp) (s:Shared) (e:Value) (s':Shared),Inv X pins σ H s->CX X.stack H s E e s'->X.xe e s'
section
variable {X:Cx}{CX:CXT}{k:Nat}{f C:Addr}{fd:FuncData}{ps:List Str}{sp:Sp}{dvs:List V}{ds:List Value}{E:XK}{x m:Str}{p pos apos:Pos}{e o:Expr}{es:List Expr}{ta:TE}{t:TA}
theorem aN1 {pins:List (Addr × Obj)}{σ:St}{H:Hp}{s:Shared}{Q:VK}{us:List Value}{vs:List V} (F:FnOk X.prog X.w X.K X.mg X.base CX k f fd ps sp) (hr:Room k X.A) (hb:Binds X.K fd ps ds) (hd:Vals dvs ds) (hx:Passes CX X E)
  (I:Inv X pins σ H s) (r:Vals vs us) (h:sp (vs++dvs) H Q E):wpAny (model X.prog X.w) X.A (call (.ref f) us) (EP X pins σ Q) X.xe s:=by
 have r2:Vals (vs++dvs) (us++ds):=r.append hd
 have hl:(us++ds).length=ps.length:=by rw [<- r2.length]; exact F.len _ _ _ _ h
 refine wpAny_call (codeAny_mono (F.run X.A X.stack s H ⟨us,[]⟩ (us++ds) (vs++dvs) Q E hr I.env0 (hb s us I.kIn hl) r2 h) fun r s' hq => ?_)
 cases r with
 | error e=>exact hx pins σ H s e s' I hq
 | ok fl =>
  cases fl with
  | ret u=>exact I.after hq
  | next=>exact False.elim hq
  | brk=>exact False.elim hq
  | cont=>exact False.elim hq
theorem aNE (F:FnOk X.prog X.w X.K X.mg X.base CX k f fd ps sp) (hr:Room k X.A) (hg:Gl X x) (hm:X.mg x=some (.ref f)) (hk:PySem.W.keepIn X.K (.ref f)=true) (hb:Binds X.K fd ps ds) (hd:Vals dvs ds) (hx:Passes CX X E)
  (ha:PA X (e::es) t) (hdb:(x == ("__debug__" : Str))=false:=by decide) (he:starEach (e::es) X.env=(false,eval e X.env)::starEach es X.env:=by rfl) (hpl:(backTo pos (starEach es X.env)).any (·.1)=false:=by rfl) :
  PE X (.Call (.Name x p) (e::es) [] pos) (aQ8 sp dvs E t):=by
 intro pins s σ H Q I h
 refine wpAny_Call_Name_kw (aBS I hg hm ?_ hdb)
 refine PySem.W.callWith_K (h₀:=X.base) I.ok.mod.kin hk (thn (ha pos pins s σ H _ I h) fun us s1 ⟨vs,H1,I1,r,q⟩=>⟨I1.kIn,?_⟩) he hpl
 exact aN1 F hr hb hd hx I1 r q
structure Mk (K:PySem.W.Frag) (C f:Addr):Prop where
 makes:PySem.W.makesIn K C=true
 init:PySem.W.findIn K (.ref C) "__init__" = some (some (.ref f))
 fn:PySem.W.isFn K (.ref f)=true
 kp:PySem.W.keepIn K (.ref C)=true
end
section
variable {X:Cx}{CX:CXT}{k:Nat}{f C:Addr}{fd:FuncData}{ps ks:List Str}{sp:Sp}{E:XK}{x m:Str}{p pos apos kpos:Pos}{e o:Expr}{es:List Expr}{kws:List Keyword}{te ta:TE}{t tk:TA}{nm:Option Str}
structure KBinds (K:PySem.W.Frag) (fd:FuncData) (ps ks:List Str) (g:List Value->List Value->List Value) (gV:List V->List V->List V):Prop where
 to:∀ (s:Shared) (us ws:List Value),K.In s.heap->(g us ws).length=ps.length->BindsTo s fd ⟨us,ks.zip ws⟩ (ps.zip (g us ws))
 rel:∀ {vs:List V}{us:List Value}{zs:List V}{ws:List Value},Vals vs us->Vals zs ws->Vals (gV vs zs) (g us ws)
variable {g:List Value->List Value->List Value}{gV:List V->List V->List V}
end
structure FnScope (N P:List Str) (sc:Scope):Prop where
 kind:sc.kind = .function
 co:sc.isCoroutine=false
 gen:sc.isGenerator=false
 nd:N.Nodup
 pre:N.take P.length=P
 par:∀ x∈P,sc.names.lookup x=some .local\/sc.names.lookup x=some .cell
 nofree:∀ y∈sc.names,y.2 ≠ .free
theorem xM {kindOf:Str->Option NameKind}{x:Str}:∀ {binds:List (Str × Value)}{m:Str->Option Value},(∀ v,(x,v) ∉ binds)->bindL kindOf binds m x=m x
 | [],_,_=>rfl
 | (n,v)::r,m,h=>by
  unfold bindL
  rw [xM fun w hw=>h w (List.mem_cons_of_mem _ hw)]
  split
  ·have:x≠n:=by rintro rfl; exact h v List.mem_cons_self
   simp [this]
  ·rfl
theorem xO {kindOf:Str->Option NameKind}{x:Str}:∀ {binds:List (Str × Value)}{m:Str->Option Value},(∀ v,(x,v) ∉ binds)->bindC kindOf binds m x=m x
 | [],_,_=>rfl
 | (n,v)::r,m,h=>by
  unfold bindC
  rw [xO fun w hw=>h w (List.mem_cons_of_mem _ hw)]
  split
  ·rfl
  ·have:x≠n:=by rintro rfl; exact h v List.mem_cons_self
   simp [this]
theorem xS {kindOf:Str->Option NameKind}{x:Str}{v:Value}:∀ {P:List Str}{vs:List Value}{i:Nat}{m:Str->Option Value},P.Nodup->P[i]?=some x->vs[i]?=some v->kindOf x=some .local ->
  bindL kindOf (P.zip vs) m x=some v
 | [],_,_,_,_,h,_,_=>by simp at h
 | _::_,[],_,_,_,_,h,_=>by simp at h
 | p::P,w::vs,0,m,nd,h1,h2,hk=>by
  simp at h1 h2; subst h1; subst h2
  show bindL kindOf ((p,w)::P.zip vs) m p=_
  unfold bindL
  rw [xM fun v hv=>(List.nodup_cons.mp nd).1 (List.of_mem_zip hv).1,if_pos hk]
  simp
 | p::P,w::vs,i+1,m,nd,h1,h2,hk=>by
  show bindL kindOf ((p,w)::P.zip vs) m x=_
  unfold bindL
  exact xS (i:=i) (List.nodup_cons.mp nd).2 (by simpa using h1) (by simpa using h2) hk
theorem xC {kindOf:Str->Option NameKind}{x:Str}{v:Value}:∀ {P:List Str}{vs:List Value}{i:Nat}{m:Str->Option Value},P.Nodup->P[i]?=some x->vs[i]?=some v->kindOf x≠some .local ->
  bindC kindOf (P.zip vs) m x=some v
 | [],_,_,_,_,h,_,_=>by simp at h
 | _::_,[],_,_,_,_,h,_=>by simp at h
 | p::P,w::vs,0,m,nd,h1,h2,hk=>by
  simp at h1 h2; subst h1; subst h2
  show bindC kindOf ((p,w)::P.zip vs) m p=_
  unfold bindC
  rw [xO fun v hv=>(List.nodup_cons.mp nd).1 (List.of_mem_zip hv).1,if_neg hk]
  simp
 | p::P,w::vs,i+1,m,nd,h1,h2,hk=>by
  show bindC kindOf ((p,w)::P.zip vs) m x=_
  unfold bindC
  exact xC (i:=i) (List.nodup_cons.mp nd).2 (by simpa using h1) (by simpa using h2) hk
def start (N:List Str) (vs:List V):St:=vs.map some++List.replicate (N.length - vs.length) none
def uB (CX:CXT) (P:Program) (w:World) (K:PySem.W.Frag) (mg:Str->Option Value) (base:Heap) (N:List Str) (qual:Str) (scope:Scope) (f:Addr) (cd:Value) (A:Around) (outer:List Env) (s:Shared) (H:Hp) (E:XK):Cx where
 prog:=P
 w:=w
 K:=K
 mg:=mg
 base:=base
 A:=A.deeper (envOfC qual scope s.heap.objs.size f cd)
 N:=N
 s₀:=s
 H₀:=H
 env:=envOfC qual scope s.heap.objs.size f cd
 outer:=outer
 stack:=envOfC qual scope s.heap.objs.size f cd::outer
 ex:=[]
 calm:=true
 fn:=fun _=>true
 pn:=[]
 xe:=fun e s'=>wpAny (model P w) (A.deeper (envOfC qual scope s.heap.objs.size f cd)) (leaving (envOfC qual scope s.heap.objs.size f cd) e) (fun _ s''=>CX outer H s E e s'') (fun e' s''=>CX outer H s E e' s'') s'
theorem zE {sc:Scope}{n:Nat}{x:Str} (h:sc.names.lookup x=some .cell):∃ c,(cellsFrom n sc.names []).lookup x=some c:=by
 have q:=PySem.W.cellsFrom_some sc.names n [] (.inl h)
 exact Option.isSome_iff_exists.mp q
theorem aFL {CX:CXT}{P:Program}{w:World}{K:PySem.W.Frag}{mg:Str->Option Value}{base:Heap}{N ps:List Str}{qual:Str}{scope:Scope}{f:Addr}{cd:Value}{A:Around}{outer:List Env}{s s1:Shared}{H:Hp}{E:XK}{us:List Value}{vs:List V}
  (S:FnScope N ps scope) (hd:A.handled=none) (e0:Env0 P w K mg base A outer s H) (hl:vs.length=ps.length) (r:Vals vs us)
  (x:InCallC s s.heap.objs.size (bindL (envOfC qual scope s.heap.objs.size f cd).kindOf (ps.zip us) fun _=>none) (cellsFrom (s.heap.objs.size+1) scope.names []) (bindC (envOfC qual scope s.heap.objs.size f cd).kindOf (ps.zip us) fun _=>none) s1) :
  Inv (uB CX P w K mg base N qual scope f cd A outer s H E) [] (start N vs) H s1:=by
 have hpl:ps.length<=N.length:=by have:=congrArg List.length S.pre; rw [List.length_take] at this; omega
 obtain ⟨h1,tk,rfl,hk⟩:=x.done
 have noA:∀ b:Addr,b ∉ (uB CX P w K mg base N qual scope f cd A outer s H E).ex:=fun b z=>absurd (show b∈([]:List Addr) from z) (by simp)
 refine ⟨⟨e0.mod,S.kind,rfl,rfl,Nat.le_refl _,fun y z c h1 h2 => ?_,fun y hy => ?_,fun y c _ h => ?_,fun _=>hd,Around.frames_deeper e0.frames, .inr ⟨rfl,rfl⟩,fun b z=>absurd z (noA b),e0.bs,e0.bsz,fun b _ _=>noA b,fun b z=>absurd z (noA b),e0.funs,e0.frf⟩,
  rfl,e0.bare,Un.kept hk,⟨_,x.toInCall.ns,fun i y v h1 h2 h3 => ?_⟩,fun y c h=>⟨_,x.cell y c h⟩,e0.hok.fresh (Nat.le_refl _),fun y c h => ?_,fun p hp=>absurd (show p∈([]:List (Addr × Obj)) from hp) (by simp),e0.hok.kept hk,?_⟩
 ·exact name_of_addr x.apart (PySem.mem_of_lookup h1) (PySem.mem_of_lookup h2)
 ·have hy:scope.names.lookup y=some .cell\/scope.names.lookup y=some .free:=hy
  rcases hy with hy | hy
  ·exact zE hy
  ·exact absurd rfl (S.nofree _ (PySem.mem_of_lookup hy))
 ·exact Nat.le_of_lt (x.above y c (PySem.mem_of_lookup h))
 ·have hi:i < vs.length:=by
   unfold start at h2
   by_cases hi:i < vs.length
   ·exact hi
   ·rw [List.getElem?_append_right (by simpa using hi)] at h2
    rw [List.getElem?_replicate] at h2
    split at h2 <;> cases h2
  have ha:vs[i]?=some v:=by
   unfold start at h2
   rw [List.getElem?_append_left (by simpa using hi),List.getElem?_map] at h2
   cases e:vs[i]? with
   | none=>rw [e] at h2; cases h2
   | some a=>rw [e] at h2; cases h2; rfl
  obtain ⟨u,hu,rv⟩:=r.get ha
  have hp:ps[i]?=some y:=by
   rw [<- S.pre,List.getElem?_take_of_lt (by omega)]; exact h1
  have ndP:ps.Nodup:=by rw [<- S.pre]; exact S.nd.sublist (List.take_sublist _ _)
  refine ⟨u,rv,?_⟩
  rcases S.par y (zMo hp) with k | k
  ·exact .inl ⟨k,xS ndP hp hu k⟩
  ·obtain ⟨c,e⟩:=zE (n:=s.heap.objs.size+1) k
   refine .inr ⟨.inl k,c,e,?_⟩
   have q:=x.cell y c e
   rw [xC ndP hp hu (by show scope.names.lookup y≠_; rw [k]; decide)] at q
   exact q
 ·exact e0.hok.fresh (Nat.le_of_lt (x.above y c (PySem.mem_of_lookup h)))
 ·unfold start
  show _=N.length
  rw [List.length_append,zLm,List.length_replicate]
  omega
theorem aQ7 {CX:CXT}{P:Program}{w:World}{K:PySem.W.Frag}{mg:Str->Option Value}{base:Heap}{k:Nat}{f:Addr}{name qual:Str}{params:Arguments}{body:List Stmt}{scope:Scope}{dV kV doc pm cdv ct oc:Value}{an od:Option Addr}
  {osl:Array (Option Value)}{N ps:List Str}{sp:Sp} (lk:K.lookup f=some ⟨oc,od, .func (PySem.W.fnOf name qual params body scope dV kV doc pm an cdv ct),osl⟩) (hcd:PySem.W.codeIn K cdv qual=true) (S:FnScope N ps scope)
  (len:∀ vs H Q E,sp vs H Q E->vs.length=ps.length)
  (hbody:∀ (A:Around) (outer:List Env) (s:Shared) (H:Hp) (vs:List V) (Q:VK) (E:XK),Room k (A.deeper (envOfC qual scope s.heap.objs.size f cdv))->sp vs H Q E ->
   ∃ t,PSs (uB CX P w K mg base N qual scope f cdv A outer s H E) body t/\t { nx:=fun _ H'=>Q .non H',rt:=Q } (start N vs) H) :
  FnOk P w K mg base CX (k+1) f (PySem.W.fnOf name qual params body scope dV kV doc pm an cdv ct) ps sp:=by
 refine ⟨len,fun A outer s H args us vs Q E hr e0 hb r hsp => ?_⟩
 have hl:=len _ _ _ _ hsp
 have KX:K.In s.heap:=e0.mod.kin.keeps fun b o e=>(e0.bs b o e).1
 have lim:s.heap.NoLimit:=e0.mod.nolimit.keeps fun b o e=>(e0.bs b o e).1
 have hkind:∀ y∈ps.zip us,scope.names.lookup y.1=some .local\/(scope.names.lookup y.1=some .cell/\((cellsFrom (s.heap.objs.size+1) scope.names []).lookup y.1).isSome=true):=fun ⟨n,v⟩ hy=>by
  rcases S.par n (List.of_mem_zip hy).1 with q | q
  ·exact .inl q
  ·exact .inr ⟨q,PySem.W.cellsFrom_some _ _ _ (.inl q)⟩
 refine codeAny_call_function hr.depth (KX _ _ lk) rfl S.co S.gen rfl (PySem.W.codeRec_of KX hcd) (hb _ _ _ _ ?_)
 refine wpAny_newFunctionEnv_cells S.kind hkind fun env he s1 x => ?_
 subst he
 refine ⟨lim.keeps x.toInCall.keep,codeAny_func ?_⟩
 obtain ⟨t,ht,hq⟩:=hbody A outer s H vs Q E (hr.deeper _) hsp
 have I:Inv (uB CX P w K mg base N qual scope f cdv A outer s H E) [] (start N vs) H s1:=aFL S hr.hd e0 hl r x
 refine wpAny_mono (ht [] s1 (start N vs) H _ I hq) (fun fl s' hs => ?_) fun e s' hs=>hs
 have fin:∀ {σ':St}{H':Hp}{v:V}{u:Value},Inv (uB CX P w K mg base N qual scope f cdv A outer s H E) [] σ' H' s'->RelV v u->Q v H'->CE outer P w H s Q u s' :=
  fun {σ' H' v u} J rv q=>⟨v,H',J.os,J.bare,J.base,J.hok,rv,q⟩
 cases fl with
 | ret u =>
  obtain ⟨v,σ',H',J,rv,q⟩:=hs
  exact fin J rv q
 | next =>
  obtain ⟨σ',H',J,q⟩:=hs
  exact fin (v:=V.non) (u:=Value.none) J rfl q
 | brk =>
  obtain ⟨_,_,_,q⟩:=hs
  exact False.elim q
 | cont =>
  obtain ⟨_,_,_,q⟩:=hs
  exact False.elim q
end L2
namespace L2
open PySem PySem.Spec PyProof.Rows
section
variable {X:Cx}{x:Str}{p pos:Pos}{e:Expr}{es:List Expr}{t:TA}{id T:String}{r:List V->Hp->VK->Prop}
def tCB (r:List V->Hp->VK->Prop) (t:TA):TE:=fun σ H Q=>t σ H fun vs H1=>r vs H1 Q
theorem aAU (hc:iE X (.builtin id) r) (hg:Gl X x) (hm:X.mg x=none) (hv:bootBuiltins x=some (.builtin id)) (ha:PA X (e::es) t) (hn:x ≠ "__name__" := by decide) (hdb:(x == ("__debug__" : Str))=false:=by decide)
  (he:starEach (e::es) X.env=(false,eval e X.env)::starEach es X.env:=by rfl) (hpl:(backTo pos (starEach es X.env)).any (·.1)=false:=by rfl):PE X (.Call (.Name x p) (e::es) [] pos) (tCB r t):=by
 intro pins s σ H Q I h
 refine wpAny_Call_Name_kw (kP I hg hm hv ?_ hn hdb)
 exact PyProof.Rows.callWith_builtin1 (thn (ha pos pins s σ H _ I h) fun us s1 ⟨vs,H1,I1,r1,q1⟩=>hc pins s1 σ H1 vs us Q I1 r1 q1) he hpl
theorem aFT (hc:iE X (.type T) r) (hg:Gl X x) (hm:X.mg x=none) (hv:bootBuiltins x=some (.type T)) (ha:PA X (e::es) t) (hn:x ≠ "__name__" := by decide) (hdb:(x == ("__debug__" : Str))=false:=by decide)
  (he:starEach (e::es) X.env=(false,eval e X.env)::starEach es X.env:=by rfl) (hpl:(backTo pos (starEach es X.env)).any (·.1)=false:=by rfl):PE X (.Call (.Name x p) (e::es) [] pos) (tCB r t):=by
 intro pins s σ H Q I h
 refine wpAny_Call_Name_kw (kP I hg hm hv ?_ hn hdb)
 exact PyProof.Rows.callWith_type1 (thn (ha pos pins s σ H _ I h) fun us s1 ⟨vs,H1,I1,r1,q1⟩=>hc pins s1 σ H1 vs us Q I1 r1 q1) he hpl
end
end L2
namespace HT
open PySem PyProof.Rows
section
open PySem.SeqAt
open PySem.AutoSeq1 (wpAny_loadPart')
open PySem.MeetsSeq PySem.MeetsSeq2 PySem.MeetsSeq3
end
section
variable {prog:Program}{w:World}{A:Around}{E:Value->Shared->Prop}{s:Shared}
def sIx (n d:Nat):Option Int->Nat
 | none=>d
 | some v=>if v < 0 then (v+(n:Int)).toNat else min v.toNat n
theorem aMC (n d k:Nat):sIx n d (some (k:Int))=min k n:=by
 show (if (k:Int) < 0 then ((k:Int)+(n:Int)).toNat else min (k:Int).toNat n)=min k n
 rw [if_neg (by omega),Int.toNat_natCast]
theorem aPI (n d:Nat) (hd:d<=n) (o:Option Int):sIx n d o<=n:=by
 cases o with
 | none=>exact hd
 | some v =>
  show (if v < 0 then (v+(n:Int)).toNat else min v.toNat n)<=n
  by_cases hv:v < 0
  ·rw [if_pos hv]; omega
  ·rw [if_neg hv]; exact Nat.min_le_right _ _
theorem aCY (v:Int) (n d:Nat):(if v < 0 then max (v+(n:Int)) 0 else min v (n:Int))=((sIx n d (some v):Nat):Int):=by
 show (if v < 0 then max (v+(n:Int)) 0 else min v (n:Int))=(((if v < 0 then (v+(n:Int)).toNat else min v.toNat n):Nat):Int)
 by_cases hv:v < 0
 ·simp only [if_pos hv]; omega
 ·simp only [if_neg hv]; omega
theorem aEK (lo hi:Option Int) (n:Nat):Builtin.Slice.sliceAdjust lo hi 1 (n:Int)=(((sIx n 0 lo:Nat):Int),((sIx n n hi:Nat):Int)):=by
 have h1:¬ ((1:Int) < 0):=by omega
 unfold Builtin.Slice.sliceAdjust
 simp only [h1,if_false]
 refine Prod.ext ?_ ?_
 ·cases lo with
  | none=>rfl
  | some v=>exact aCY v n 0
 ·cases hi with
  | none=>rfl
  | some v=>exact aCY v n n
theorem aDX (i j:Nat):Builtin.Slice.slicePlaces (i:Int) (j:Int) 1=j - i:=by
 unfold Builtin.Slice.slicePlaces
 have h1:(1:Int) > 0:=by omega
 simp only [h1,if_true,Int.ediv_one]
 split <;> omega
theorem uV {v:Value}{o:Option Int}{Q:Option Int->Shared->Prop} (p:IsPart v o) (h:Q o s):wpAny (model prog w) A (Builtin.Slice.slicePartIndex v) Q E s:=by
 cases p with
 | none=>exact slicePart_none h
 | int i t=>exact slicePart_int h
theorem uD {sl:Addr}{vl vu:Value}{lo hi:Option Int}{n:Nat}{Q:Int × Int × Nat->Shared->Prop} (hs:s.heap.IsSliceOf sl vl vu .none) (pl:IsPart vl lo) (pu:IsPart vu hi)
  (h:Q (((sIx n 0 lo:Nat):Int),1,sIx n n hi - sIx n 0 lo) s):wpAny (model prog w) A (Builtin.Slice.sliceApplied (.ref sl) (pure (n:Int))) Q E s:=by
 obtain ⟨os,hos,hcs,hds⟩:=id hs
 unfold Builtin.Slice.sliceApplied Builtin.Slice.sliceFields
 refine wpAny_bind (wpAny_bind (wpAny_field hos hds (x:=vl) rfl (wpAny_bind (wpAny_field hos hds (x:=vu) rfl (wpAny_bind (wpAny_field hos hds (x := .none) rfl (wpAny_pure ?_)))))))
 refine wpAny_bind (slicePart_none ?_)
 show wpAny _ _ (if ((1:Int) == 0)=true then _ else _) _ _ s
 rw [if_neg (by decide)]
 refine wpAny_bind (uV pl (wpAny_bind (uV pu (wpAny_bind (wpAny_pure ?_)))))
 show wpAny _ _ (match Builtin.Slice.sliceAdjust lo hi 1 (n:Int) with | (lo,hi)=>pure (lo,(1:Int),Builtin.Slice.slicePlaces lo hi 1)) _ _ s
 rw [aEK lo hi n]
 show wpAny _ _ (pure (((sIx n 0 lo:Nat):Int),(1:Int),Builtin.Slice.slicePlaces ((sIx n 0 lo:Nat):Int) ((sIx n n hi:Nat):Int) 1)) _ _ s
 rw [aDX]
 exact wpAny_pure h
theorem aHT (xs:Array Value) (i k:Nat):((List.range k).filterMap fun (m:Nat)=>xs[((i:Int)+(m:Int) * 1).toNat]?).toArray=((xs.toList.drop i).take k).toArray:=by
 have e:(fun (m:Nat)=>xs[((i:Int)+(m:Int) * 1).toNat]?)=fun m=>xs[i+m]?:=by
  funext m
  have:((i:Int)+(m:Int) * 1).toNat=i+m:=by omega
  rw [this]
 rw [e]
 have:=pick_run xs i k
 rw [List.filterMap_map] at this
 have e2:((fun x=>xs[x]?) ∘ fun x=>i+x)=fun m=>xs[i+m]?:=rfl
 rw [e2] at this
 rw [this]
theorem sZ {t sl:Addr}{items:Array Value}{vl vu:Value}{lo hi:Option Int}{Q:Value->Shared->Prop} (ht:IsTup s.heap t items) (hs:s.heap.IsSliceOf sl vl vu .none) (pl:IsPart vl lo) (pu:IsPart vu hi)
  (hw:¬ (sIx items.size 0 lo=0/\sIx items.size items.size hi=items.size))
  (h:Q (.ref s.heap.objs.size) { s with heap:=s.heap.push { cls := .type "tuple", data := .seq ((items.toList.drop (sIx items.size 0 lo)).take (sIx items.size items.size hi - sIx items.size 0 lo)).toArray } })
  (hsz:items.size<=sizeLine):wpAny (model prog w) A (getItem (.ref t) (.ref sl)) Q E s:=by
 have htake:sizeOk (.seq ((items.toList.drop (sIx items.size 0 lo)).take (sIx items.size items.size hi - sIx items.size 0 lo)).toArray):=by
  show ((items.toList.drop (sIx items.size 0 lo)).take (sIx items.size items.size hi - sIx items.size 0 lo)).toArray.size<=sizeLine
  rw [List.size_toArray,List.length_take,List.length_drop,Array.length_toList]
  omega
 have hj:sIx items.size items.size hi<=items.size:=aPI _ _ (Nat.le_refl _) hi
 obtain ⟨os,hos,hcs,hds⟩:=id hs
 have hTs:s.TypeIs (.ref sl) "slice" := ⟨os,hos,hcs⟩
 unfold getItem
 try with_reducible refine wpAny_holding ?_
 first | refine wpAny_bind (wpAny_pure ?_) | skip
 refine wpAny_bind (wpAny_sequenceKey ht.typeIs (by decide) ?_)
 refine wpAny_bind (wpAny_callSpecial?_slot (name:=Str.ofString "__getitem__") ht.typeIs PyProof.Rows.slot_tuple_getitem
  (wpAny_call_entry PyProof.Rows.slot_tuple_getitem ht.typeIs entry_tuple_getitem ?_ (args_tuple_getitem _ _)))
 show wpAny _ _ (Builtin.Tuple.tupleItemsOf (.ref t) >>= _) _ _ s
 refine wpAny_bind (tupleItemsOf_ ht ?_)
 refine wpAny_bind (wpAny_typeOf hTs ?_)
 rw [if_pos (by decide)]
 refine wpAny_bind (uD hs pl pu ?_)
 have hno:¬ ((((sIx items.size 0 lo:Nat):Int) == 0 && (1:Int) == 1 && (sIx items.size items.size hi - sIx items.size 0 lo) == items.size)=true):=by
  intro q
  rw [Bool.and_eq_true,Bool.and_eq_true] at q
  have q1:((sIx items.size 0 lo:Nat):Int)=0:=eq_of_beq q.1.1
  have q2:sIx items.size items.size hi - sIx items.size 0 lo=items.size:=eq_of_beq q.2
  exact hw ⟨by omega,by omega⟩
 show wpAny _ _ (if (((sIx items.size 0 lo:Nat):Int) == 0 && (1:Int) == 1 && (sIx items.size items.size hi - sIx items.size 0 lo) == items.size)=true then _ else _) _ _ s
 rw [if_neg hno,aHT]
 first
  | exact wpAny_bind (m:=Builtin.Tuple.tupleExact _) (wpAny_newObj_type (wpAny_pure ⟨_,rfl,wpAny_pure h⟩) htake)
  | exact wpAny_bind (m:=Builtin.Tuple.tupleExact _) (wpAny_newObj_type (wpAny_bind (wpAny_pure (wpAny_pure ⟨_,rfl,wpAny_pure h⟩))) htake)
  | exact wpAny_bind (wpAny_bind (m:=Builtin.Tuple.tupleExact _) (wpAny_newObj_type (wpAny_pure (wpAny_pure ⟨_,rfl,wpAny_pure h⟩)) htake))
  | exact wpAny_bind (wpAny_bind (m:=Builtin.Tuple.tupleExact _) (wpAny_newObj_type (wpAny_pure ⟨_,rfl,wpAny_pure h⟩) htake))
end
end HT
namespace L2
open PySem PySem.Spec PyProof.Rows
abbrev TO:=St->Hp->(Option Int->Hp->Prop)->Prop
def PO (X:Cx) (e:Option Expr) (t:TO):Prop :=
 ∀ (pins:List (Addr × Obj)) (s:Shared) (σ:St) (H:Hp) (Q:Option Int->Hp->Prop),Inv X pins σ H s->t σ H Q ->
  wpAny (model X.prog X.w) X.A (evalPart e X.env) (fun u s'=>∃ o H',Inv X pins σ H' s'/\IsPart u o/\Q o H') X.xe s
def aLM:TO:=fun _ H Q=>Q none H
def aQU (t:TE):TO:=fun σ H Q=>t σ H fun x H1=>∃ i,x = .int i/\Q (some i) H1
section
variable {X:Cx}{e:Expr}{te:TE}{lo hi:Option Expr}{tl th:TO}{pos p2:Pos}
theorem aKL:PO X none aLM:=by
 intro pins s σ H Q I h
 rw [evalPart_none]
 exact wpAny_pure ⟨none,H,I, .none,h⟩
theorem aLX (h:PE X e te):PO X (some e) (aQU te):=by
 intro pins s σ H Q I hw
 rw [evalPart_some]
 refine thn (h pins s σ H _ I hw) fun u s1 ⟨x,H1,I1,r1,q1⟩ => ?_
 obtain ⟨i,rfl,q⟩:=q1
 obtain ⟨t,rfl⟩:=r1
 exact ⟨some i,H1,I1, .int i t,q⟩
def SlR (X:Cx) (r:V->Option Int->Option Int->Hp->VK->Prop):Prop :=
 ∀ (pins:List (Addr × Obj)) (s:Shared) (σ:St) (H:Hp) (x:V) (v vl vu:Value) (lo hi:Option Int) (sl:Addr) (Q:VK),Inv X pins σ H s->RelV x v->s.heap.IsSliceOf sl vl vu .none->IsPart vl lo->IsPart vu hi->r x lo hi H Q ->
  ∃ T id,typeLookup (.type T) "__getitem__" = pure (some (.builtin id))/\s.TypeIs v T/\wpAny (model X.prog X.w) X.A (getItem v (.ref sl)) (EP X pins σ Q) X.xe s
def tSl (r:V->Option Int->Option Int->Hp->VK->Prop) (te:TE) (tl th:TO):TE:=fun σ H Q=>te σ H fun x H1=>tl σ H1 fun l H2=>th σ H2 fun u H3=>r x l u H3 Q
theorem aJX {r:V->Option Int->Option Int->Hp->VK->Prop} (hr:SlR X r) (he:PE X e te) (hl:PO X lo tl) (hu:PO X hi th):PE X (.Subscript e (.Slice lo hi none p2) pos) (tSl r te tl th):=by
 intro pins s σ H Q I h
 refine Subscript_ (thn (he pins s σ H _ I h) fun v s1 ⟨x,H1,I1,r1,q1⟩ => ?_)
 refine wpAny_Slice (thn (hl pins s1 σ H1 _ I1 q1) fun vl s2 ⟨l,H2,I2,pl,q2⟩=>thn (hu pins s2 σ H2 _ I2 q2) fun vu s3 ⟨u,H3,I3,pu,q3⟩ => ?_)
 rw [evalPart_none]
 refine wpAny_pure ?_
 have I4:Inv X pins σ H3 { s3 with heap:=s3.heap.push { cls := .type "slice", data := .fields #[vl,vu, .none] } }:=I3.kept (t':=s3.toks) fun b ob q=>Heap.get?_push_of_some _ q
 obtain ⟨T,id,hT,ht,hg⟩:=hr pins { s3 with heap:=s3.heap.push { cls := .type "slice", data := .fields #[vl,vu, .none] } } σ H3 x v vl vu l u s3.heap.objs.size Q I4 r1 (Heap.IsSliceOf.new ..) pl pu q3
 show wpAny (model X.prog X.w) X.A (subscriptTail e (.Slice lo hi none p2) v (.ref s3.heap.objs.size)) (EP X pins σ Q) X.xe { s3 with heap:=s3.heap.push { cls := .type "slice", data := .fields #[vl,vu, .none] } }
 exact tail_any (ops:=[.ref s3.heap.objs.size,v]) ht hT hg (by with_unfolding_all rfl)
def oE (xs:List V) (lo hi:Option Int):List V:=(xs.drop (HT.sIx xs.length 0 lo)).take (HT.sIx xs.length xs.length hi - HT.sIx xs.length 0 lo)
theorem tK (xs:List V) (lo hi:Option Int):(oE xs lo hi).length<=xs.length:=by
 unfold oE
 rw [List.length_take,List.length_drop]
 omega
def rSlT (K:PySem.W.Frag):V->Option Int->Option Int->Hp->VK->Prop:=fun x lo hi H Q=>∃ a xs,x = .ref a/\SqT K H a xs /\
 ¬ (HT.sIx xs.length 0 lo=0/\HT.sIx xs.length xs.length hi=xs.length)/\∀ p,H p=none->Q (.ref p) (upd H p (.tup (oE xs lo hi)))
theorem aFY:SlR X (rSlT X.K):=by
 intro pins s σ H x v vl vu lo hi sl Q I rx hs pl pu h
 obtain ⟨a,xs,rfl,hx,hw,q⟩:=h
 cases rx
 obtain ⟨its,r,ht,hz⟩:=I.tuple hx
 have hlen:its.toArray.size=xs.length:=by rw [List.size_toArray]; exact r.length.symm
 refine ⟨"tuple", _,PyProof.Rows.slot_tuple_getitem.lookup,ht.typeIs,?_⟩
 refine HT.sZ ht hs pl pu (by rw [hlen]; exact hw) ?_ (by rw [hlen]; exact hz)
 rw [hlen]
 refine ⟨.ref s.heap.objs.size,_,I.laid (t':=s.toks) (o := .tup (oE xs lo hi)) (fun b ob q=>Heap.get?_push_of_some _ q) (Nat.le_refl _) ?_,rfl,q _ (I.hok.fresh (Nat.le_refl _))⟩
 exact ⟨Nat.le_trans (tK xs lo hi) hz,_,(r.drop (HT.sIx xs.length 0 lo)).take (HT.sIx xs.length xs.length hi - HT.sIx xs.length 0 lo),IsTup.new _ _⟩
end
end L2
namespace L2
open PySem PySem.Spec PyProof.Rows
def ixN (n:Nat) (i:Int):Option Nat:=if 0<=i then (if i < n then some i.toNat else none) else if -(n:Int)<=i then some (i+n).toNat else none
def atI {α:Type} (xs:List α) (i:Int):Option α:=(ixN xs.length i).bind fun j=>xs[j]?
theorem aCH {n:Nat}{i:Int}{j:Nat} (h:ixN n i=some j):seqIndex? i n=some j/\j < n /\ -(n:Int)<=i/\i < n:=by
 unfold ixN at h
 by_cases h0:0<=i
 ·rw [if_pos h0] at h
  by_cases h1:i < n
  ·rw [if_pos h1] at h
   have e:i.toNat=j:=Option.some.inj h
   exact ⟨by rw [seqIndex_of h0 h1,e],by omega,by omega,h1⟩
  ·rw [if_neg h1] at h; cases h
 ·rw [if_neg h0] at h
  by_cases h1 : -(n:Int)<=i
  ·rw [if_pos h1] at h
   have e:(i+n).toNat=j:=Option.some.inj h
   exact ⟨by rw [seqIndex_neg (by omega) h1,e],by omega,h1,by omega⟩
  ·rw [if_neg h1] at h; cases h
theorem wM {α:Type}{xs:List α}{i:Int}{v:α} (h:atI xs i=some v):∃ j,seqIndex? i xs.length=some j/\xs[j]?=some v/\j < xs.length /\ -(xs.length:Int)<=i/\i < xs.length:=by
 unfold atI at h
 cases e:ixN xs.length i with
 | none=>rw [e] at h; cases h
 | some j =>
  rw [e] at h
  obtain ⟨h1,h2,h3,h4⟩:=aCH e
  exact ⟨j,h1,h,h2,h3,h4⟩
theorem dC {α:Type}{xs:List α}{j:Nat}{v:α} (h:xs[j]?=some v):atI xs (j:Int)=some v:=by
 have hj:j < xs.length:=(zGs h).1
 have e:ixN xs.length (j:Int)=some j:=by
  unfold ixN
  rw [if_pos (by omega),if_pos (by omega)]; simp
 unfold atI; rw [e]; exact h
theorem l6 {α:Type} (xs:List α) (v:α):atI (xs++[v]) (-1)=some v:=by
 have hl:(xs++[v]).length=xs.length+1:=by simp
 have e:ixN (xs++[v]).length (-1)=some xs.length:=by
  unfold ixN
  rw [hl,if_neg (by decide),if_pos (by omega)]
  congr 1
  omega
 unfold atI
 rw [e]
 show (xs++[v])[xs.length]?=some v
 simp
def aBU (b:Expr):Prop:=∀ o i,subscripted b false o i=operate [o,i] (getItem o i)
def IxR (X:Cx) (r:R2):Prop :=
 ∀ (value slice:Expr) (pins:List (Addr × Obj)) (s:Shared) (σ:St) (H:Hp) (x y:V) (v u:Value) (Q:VK),Inv X pins σ H s->RelV x v->RelV y u->r x y H Q ->
  subscripted slice false v u=operate [v,u] (getItem v u)->wpAny (model X.prog X.w) X.A (subscriptTail value slice v u) (EP X pins σ Q) X.xe s
def MtR (X:Cx) (id:String) (r:V->List V->Hp->VK->Prop):Prop :=
 ∀ (pins:List (Addr × Obj)) (s:Shared) (σ:St) (H:Hp) (x:V) (xs:List V) (v:Value) (us:List Value) (Q:VK),Inv X pins σ H s->RelV x v->Vals xs us->r x xs H Q ->
  wpAny (model X.prog X.w) X.A (call (.builtin id) (v::us)) (EP X pins σ Q) X.xe s
section
variable {X:Cx}{a b:Expr}{ta tb:TE}{pos:Pos}
theorem IxR.or {r r':R2} (h:IxR X r) (h':IxR X r'):IxR X (fun x y H Q=>r x y H Q\/r' x y H Q):=by
 intro value slice pins s σ H x y v u Q I rx ry q hs
 rcases q with q | q
 ·exact h value slice pins s σ H x y v u Q I rx ry q hs
 ·exact h' value slice pins s σ H x y v u Q I rx ry q hs
theorem aQL {r:R2} (hr:IxR X r) (ha:PE X a ta) (hb:PE X b tb) (hs:aBU b):PE X (.Subscript a b pos) (tOp r ta tb):=by
 intro pins s σ H Q I h
 exact Subscript_ (aJJ ha hb I h fun v u s2 x y H2 I2 rx ry q=>hr a b pins s2 σ H2 x y v u Q I2 rx ry q (hs _ _))
def rIxL (K:PySem.W.Frag):R2:=fun x y H Q=>∃ p xs i v,x = .ref p/\y = .int i/\SqL K H p xs/\atI xs i=some v/\Q v H
def rIxT (K:PySem.W.Frag):R2:=fun x y H Q=>∃ p xs i v,x = .ref p/\y = .int i/\SqT K H p xs/\atI xs i=some v/\Q v H
def rIxS:R2:=fun x y H Q=>∃ z i c,x = .str z/\y = .int i/\z.length<=sizeLine/\atI z.cps.toList i=some c/\Q (.str ⟨#[c]⟩) H
theorem aMH:IxR X (rIxL X.K):=by
 intro value slice pins s σ H x y v u Q I rx ry h hs
 obtain ⟨p,xs,i,z,rfl,rfl,hq,he,q⟩:=h
 cases rx
 obtain ⟨t,rfl⟩:=ry
 obtain ⟨its,r,pl,hz⟩:=I.list hq
 obtain ⟨j,h1,h2,h3,h4,h5⟩:=wM he
 obtain ⟨w,ew,rw'⟩:=r.get h2
 have hl:=r.length
 have hn:=line63
 have fin:EP X pins σ Q w s:=⟨z,H,I,rw',q⟩
 by_cases h0:0<=i
 ·have hj:i.toNat=j:=by
   rw [seqIndex_of h0 h5] at h1
   exact Option.some.inj h1
  exact item_listR pl.isList h0 (by omega) (by rw [hj]; simpa using ew) fin hs
 ·have hj:(i+(its.toArray.size:Int)).toNat=j:=by
   rw [seqIndex_neg (by omega) h4] at h1
   rw [List.size_toArray,<- hl]
   exact Option.some.inj h1
  exact subscriptTail_builtinR (x:=w) pl.isList.typeIs slot_list_getitem.lookup
   (wpAny_getItem_list_neg (Q:=fun r s'=>r=w/\EP X pins σ Q r s') pl.isList (by omega) (by rw [List.size_toArray] <;> omega) (by omega) (by rw [hj]; simpa using ew) ⟨rfl,fin⟩) hs
theorem aO5:IxR X (rIxT X.K):=by
 intro value slice pins s σ H x y v u Q I rx ry h hs
 obtain ⟨p,xs,i,z,rfl,rfl,hq,he,q⟩:=h
 cases rx
 obtain ⟨t,rfl⟩:=ry
 obtain ⟨its,r,pl,hz⟩:=I.tuple hq
 obtain ⟨j,h1,h2,h3,h4,h5⟩:=wM he
 obtain ⟨w,ew,rw'⟩:=r.get h2
 have hl:=r.length
 have hn:=line63
 have fin:EP X pins σ Q w s:=⟨z,H,I,rw',q⟩
 exact subscriptTail_builtinR (x:=w) pl.typeIs slot_tuple_getitem.lookup
  (getItem_tuple (j:=j) (Q:=fun r s'=>r=w/\EP X pins σ Q r s') pl (by omega) (by omega) (by rw [List.size_toArray,<- hl]; exact h1) (by simpa using ew) ⟨rfl,fin⟩) hs
theorem aNS:IxR X rIxS:=by
 intro value slice pins s σ H x y v u Q I rx ry h hs
 obtain ⟨z,i,c,rfl,rfl,hz,he,q⟩:=h
 obtain ⟨t,rfl⟩:=rx
 obtain ⟨t',rfl⟩:=ry
 obtain ⟨j,h1,h2,h3,h4,h5⟩:=wM he
 have hl:z.cps.toList.length=z.length:=by simp [Str.length]
 rw [hl] at h1 h4 h5
 have hn:=line63
 exact tail_any (typeIs_str s z t) slot_str_getitem.lookup (getItem_str (c:=c) (by
  have e1:decide (i < -(2 ^ 63:Int))=false:=decide_eq_false (by omega)
  have e2:decide (i≥2 ^ 63)=false:=decide_eq_false (by omega)
  rw [e1,e2,Bool.or_false]) (by rw [h1]; simpa using h2) ⟨.str ⟨#[c]⟩,H,I.tok _,⟨_,rfl⟩,q⟩) hs
def rIx (K:PySem.W.Frag):R2:=fun x y H Q=>rIxL K x y H Q\/rIxT K x y H Q\/rIxS x y H Q
theorem aD:IxR X (rIx X.K):=aMH.or (aO5.or aNS)
theorem aC6 (its:List Value) (n j:Nat) (u:Value):Obj.mapSeq (·.setIfInBounds j u) { cls := .type "list", data := .seq its.toArray n }={ cls := .type "list", data := .seq (its.set j u).toArray n }:=by
 simp [Obj.mapSeq]
theorem Inv.lst {pins:List (Addr × Obj)}{σ:St}{H:Hp}{s:Shared}{p:Addr}{xs:List V} (I:Inv X pins σ H s) (h:H p=some (.lst xs)) :
  ∃ (its:List Value) (n:Nat),Vals xs its/\s.heap.get? p=some { cls := .type "list", data := .seq its.toArray n }/\xs.length<=sizeLine:=by
 obtain ⟨z,its,n,r,e⟩:=I.hok p _ h
 exact ⟨its,n,r,e,z⟩
theorem Inv.lstUpd {pins:List (Addr × Obj)}{σ:St}{H:Hp}{s:Shared}{p:Addr}{xs ys:List V}{its its':List Value}{n n':Nat}{f:Obj->Obj} (I:Inv X pins σ H s) (h:H p=some (.lst xs))
  (ho:s.heap.get? p=some { cls := .type "list", data := .seq its.toArray n }) (hf:f { cls := .type "list", data := .seq its.toArray n }={ cls := .type "list", data := .seq its'.toArray n' }) (r:Vals ys its') (hz:ys.length<=sizeLine) (t:Nat) :
  Inv X pins σ (upd H p (.lst ys)) { s with heap:=s.heap.update p f,toks:=t }:=by
 have e:(s.heap.update p f).get? p=some { cls := .type "list", data := .seq its'.toArray n' }:=by
  rw [Heap.get?_update_self f ho (by rw [hf] <;> rfl),hf]
 refine I.write (x:=p) (e:=p) (by rw [h]; trivial) (.inl rfl) (fun b u hb q=>(Heap.get?_update_other _ _ (Ne.symm hb)).trans q) ⟨_,e⟩ ?_
 exact ⟨hz,its',n',r,e⟩
def aQY:V->V->V->Hp->(Hp->Prop)->Prop:=fun o i v H Q=>∃ p xs k j,o = .ref p/\i = .int k/\H p=some (.lst xs)/\ixN xs.length k=some j/\Q (upd H p (.lst (xs.set j v)))
theorem set_list:PSet X aQY:=by
 intro pins s σ H o i v ov iv u Q I ro ri rv h
 obtain ⟨p,xs,k,j,rfl,rfl,hp,hj,q⟩:=h
 cases ro
 obtain ⟨t,rfl⟩:=ri
 obtain ⟨its,n,r,ho,hz⟩:=I.lst hp
 obtain ⟨h1,h2,h3,h4⟩:=aCH hj
 have hl:=r.length
 have hn:=line63
 have I':Inv X pins σ (upd H p (.lst (xs.set j v))) { s with heap:=s.heap.update p (Obj.mapSeq (·.setIfInBounds j u)) } :=
  I.lstUpd hp ho (aC6 its n j u) (r.set rv j) (by rw [List.length_set]; exact hz) s.toks
 by_cases h0:0<=k
 ·have hk:k.toNat=j:=by
   rw [seqIndex_of h0 h4] at h1
   exact Option.some.inj h1
  exact PySem.W.ki_setAt ho h0 (by omega) (by rw [List.size_toArray,<- hl]; exact h4) (by rw [hk]; exact ⟨_,I',q⟩)
 ·have hk:(k+(its.toArray.size:Int)).toNat=j:=by
   rw [seqIndex_neg (by omega) h3] at h1
   rw [List.size_toArray,<- hl]
   exact Option.some.inj h1
  exact PySem.W.ki_setBack ho (by omega) (by rw [List.size_toArray,<- hl]; exact h3) (by omega) (by rw [hk]; exact ⟨_,I',q⟩)
theorem zU (lo hi:Option Int) (n:Nat):(sliceBounds lo hi none n).1=((HT.sIx n 0 lo:Nat):Int)/\(sliceBounds lo hi none n).2.1=((HT.sIx n n hi:Nat):Int)/\(sliceBounds lo hi none n).2.2=1:=by
 refine ⟨?_,?_,rfl⟩
 ·cases lo with
  | none=>simp [sliceBounds,HT.sIx]
  | some i =>
   simp only [sliceBounds,HT.sIx,Option.getD_none,show (1:Int) > 0 by decide,if_true]
   by_cases h:i < 0
   ·simp only [h,if_true] <;> omega
   ·simp only [h,if_false] <;> omega
 ·cases hi with
  | none=>simp [sliceBounds,HT.sIx]
  | some i =>
   simp only [sliceBounds,HT.sIx,Option.getD_none,show (1:Int) > 0 by decide,if_true]
   by_cases h:i < 0
   ·simp only [h,if_true] <;> omega
   ·simp only [h,if_false] <;> omega
theorem yD (its:List Value) (lo hi:Option Int):slicePick its.toArray lo hi none=((its.drop (HT.sIx its.length 0 lo)).take (HT.sIx its.length its.length hi - HT.sIx its.length 0 lo)).toArray:=by
 obtain ⟨h1,h2,h3⟩:=zU lo hi its.toArray.size
 unfold slicePick
 rw [h1,h2,h3]
 simp only [sliceRange_one,pick_run,List.size_toArray] <;> rfl
def rSlL (K:PySem.W.Frag):V->Option Int->Option Int->Hp->VK->Prop:=fun x lo hi H Q=>∃ a xs,x = .ref a/\SqL K H a xs/\∀ p,H p=none->Q (.ref p) (upd H p (.lst (oE xs lo hi)))
theorem jB:SlR X (rSlL X.K):=by
 intro pins s σ H x v vl vu lo hi sl Q I rx hs pl pu h
 obtain ⟨a,xs,rfl,hx,q⟩:=h
 cases rx
 obtain ⟨its,r,ht,hz⟩:=I.list hx
 have hlen:=r.length
 refine ⟨"list", _,slot_list_getitem.lookup,ht.isList.typeIs,?_⟩
 refine wpAny_getItem_list_slice ht.isList hs pl pu .none (by simp) ?_ (by rw [List.size_toArray] <;> omega)
 rw [yD,<- hlen]
 refine ⟨.ref s.heap.objs.size,_,I.laid (t':=s.toks) (o := .lst (oE xs lo hi)) (fun b ob q=>Heap.get?_push_of_some _ q) (Nat.le_refl _) ?_,rfl,q _ (I.hok.fresh (Nat.le_refl _))⟩
 exact ⟨Nat.le_trans (tK xs lo hi) hz,_,0,(r.drop (HT.sIx xs.length 0 lo)).take (HT.sIx xs.length xs.length hi - HT.sIx xs.length 0 lo),Heap.get?_push_size _ rfl⟩
theorem jE:iE X (.type "list") (fun xs H Q=>∃ p ys,xs=[.ref p]/\(SqL X.K H p ys\/SqT X.K H p ys)/\∀ l,H l=none->Q (.ref l) (upd H l (.lst ys))):=by
 intro pins s σ H xs us Q I r h
 obtain ⟨p,ys,rfl,hq,q⟩:=h
 obtain ⟨u,rfl,rx⟩:=vals1 r
 cases rx
 have fin:∀ (its:List Value),Vals ys its->ys.length<=sizeLine->∀ (h':Heap) (c':Nat),(∀ b o',s.heap.get? b=some o'->h'.get? b=some o') ->
   h'.get? s.heap.objs.size=some { cls := .type "list", dict:=none,data := .seq its.toArray c',slots := #[] }->EP X pins σ Q (.ref s.heap.objs.size) { s with heap:=h' }:=fun its r' hz h' c' kp e =>
  ⟨.ref s.heap.objs.size,_,I.laid (t':=s.toks) kp (Nat.le_refl _) (show f8 X.prog X.w _ h' _ (.lst ys) from ⟨hz,its,c',r',e⟩),rfl,q _ (I.hok.fresh (Nat.le_refl _))⟩
 rcases hq with hq | hq
 ·obtain ⟨its,r',pl,hz⟩:=I.list hq
  have hlen:=r'.length
  obtain ⟨o,ho,hc,n,hd⟩:=pl.isList
  exact call_list_seq p (.inl rfl) ho hc hd (fun h' c' kp e=>fin its r' hz h' c' kp e) (by simp only [List.size_toArray] <;> omega)
 ·obtain ⟨its,r',pl,hz⟩:=I.tuple hq
  have hlen:=r'.length
  obtain ⟨o,ho,hc,n,hd⟩:=pl
  exact call_list_seq p (.inr rfl) ho hc hd (fun h' c' kp e=>fin its r' hz h' c' kp e) (by simp only [List.size_toArray] <;> omega)
theorem cY:iE X (.type "tuple") (fun xs H Q=>∃ p ys,xs=[.ref p]/\((SqL X.K H p ys/\∀ l,H l=none->Q (.ref l) (upd H l (.tup ys)))\/(SqT X.K H p ys/\Q (.ref p) H))):=by
 intro pins s σ H xs us Q I r h
 obtain ⟨p,ys,rfl,h⟩:=h
 obtain ⟨u,rfl,rx⟩:=vals1 r
 cases rx
 rcases h with ⟨hq,q⟩ | ⟨hq,q⟩
 ·obtain ⟨its,r',pl,hz⟩:=I.list hq
  have hlen:=r'.length
  refine call_tuple_list pl.isList (fun h' kp => ?_) (by simp only [List.size_toArray] <;> omega)
  have I1:Inv X pins σ H { s with heap:=h' }:=I.kept (t':=s.toks) kp
  have I2:Inv X pins σ (upd H h'.objs.size (.tup ys)) { s with heap:=h'.push { cls := .type "tuple", data := .seq its.toArray } } :=
   I1.laid (t':=s.toks) (fun b o e=>Heap.get?_push_of_some _ e) (Nat.le_refl _) (show f8 X.prog X.w _ _ _ (.tup ys) from ⟨hz,its,r',IsTup.new _ _⟩)
  exact ⟨.ref h'.objs.size,_,I2,rfl,q _ (I1.hok.fresh (Nat.le_refl _))⟩
 ·obtain ⟨its,r',pl,hz⟩:=I.tuple hq
  exact call_tuple_same pl ⟨.ref p,H,I,rfl,q⟩
def tyV (K:PySem.W.Frag) (T:String) (x:V) (H:Hp):Prop:=match x with
 | .str _=>T = "str"
 | .int _=>T = "int"
 | .ref p=>(T = "list" /\ ∃ xs,SqL K H p xs)\/(T = "tuple" /\ ∃ o,K.lookup p=some o/\o.cls = .type "tuple" /\ o.dict=none) \/
   (T = "dict" /\ ((∃ kvs,H p=some (.dK kvs))\/∃ kvs,H p=some (.dT kvs)))\/(T = "set" /\ ∃ S n,H p=some (.set S n))
 | _=>False
theorem aPL {pins:List (Addr × Obj)}{σ:St}{H:Hp}{s:Shared}{T:String}{x:V}{v:Value} (I:Inv X pins σ H s) (r:RelV x v) (ty:tyV X.K T x H) :
  s.TypeIs v T/\∀ a,v = .ref a->∃ ob,s.heap.get? a=some ob/\ob.dict=none:=by
 cases x with
 | str z =>
  obtain ⟨t,rfl⟩:=r
  cases (show T = "str" from ty)
  exact ⟨typeIs_str s z t,fun _ e=>nomatch e⟩
 | int i =>
  obtain ⟨t,rfl⟩:=r
  cases (show T = "int" from ty)
  exact ⟨typeIs_int s i t,fun _ e=>nomatch e⟩
 | ref p =>
  cases r
  rcases ty with ⟨rfl,xs,hq⟩ | ⟨rfl,o,hk,hc,hd⟩ | ⟨rfl,hk⟩ | ⟨rfl,S,n,hk⟩
  ·obtain ⟨its,_,pl,_⟩:=I.list hq
   refine ⟨pl.isList.typeIs,fun a e => ?_⟩
   cases e
   obtain ⟨o,n,e,c,hd,_⟩:=pl
   exact ⟨o,e,hd⟩
  ·refine ⟨⟨o,I.kIn p o hk,hc⟩,fun a e => ?_⟩
   cases e
   exact ⟨o,I.kIn _ o hk,hd⟩
  ·have z:∃ o,s.heap.get? p=some o/\o.ExactDict:=by
    rcases hk with ⟨kvs,hk⟩ | ⟨kvs,hk⟩
    ·obtain ⟨_,_,_,_,o,_,_,e,ex,_⟩:=I.hok p _ hk
     exact ⟨o,e,ex⟩
    ·obtain ⟨_,_,_,_,o,_,_,e,ex,_⟩:=I.hok p _ hk
     exact ⟨o,e,ex⟩
   obtain ⟨o,e,ex⟩:=z
   refine ⟨⟨o,e,ex.1⟩,fun a e2 => ?_⟩
   cases e2
   exact ⟨o,e,ex.2.1⟩
  ·obtain ⟨o,_,_,_,e,ex,_⟩:=I.hok p _ hk
   refine ⟨⟨o,e,ex.1⟩,fun a e2 => ?_⟩
   cases e2
   exact ⟨o,e,ex.2.1⟩
 | _=>exact False.elim ty
def tBM (K:PySem.W.Frag) (T:String) (r:V->List V->Hp->VK->Prop) (to:TE) (t:TA):TE:=fun σ H Q=>to σ H fun x H1=>tyV K T x H1/\t σ H1 fun xs H2=>r x xs H2 Q
variable {o e:Expr}{es:List Expr}{to:TE}{t:TA}{name:Str}{apos cpos:Pos}{T id:String}{r:V->List V->Hp->VK->Prop}
theorem aQR (pa:PlainAttrs T) (slot:Slot T name id) (hty:typeOf (.builtin id)=pure (.type "method_descriptor")) (hm:MtR X id r) (ho:PE X o to) (ha:PA X (e::es) t)
  (hbase:attributeBase o name X.env (eval o X.env)=eval o X.env:=by rfl)
  (hfew:((backTo cpos (starEach (e::es) X.env)).all (fun x => !x.1) && (backToKw cpos (keywordEach [] X.env)).all (fun x=>x.1.isSome)
   && decide ((e::es).length+([]:List Keyword).length+(if ([]:List Keyword).isEmpty then 0 else 1) < 30))=true:=by rfl)
  (hline:(apos.endLine == cpos.line)=true:=by rfl) (hs:starEach (e::es) X.env=(false,eval e X.env)::starEach es X.env:=by rfl) (hplain:(backTo cpos (starEach es X.env)).any (·.1)=false:=by rfl) :
  PE X (.Call (.Attribute o name apos) (e::es) [] cpos) (tBM X.K T r to t):=by
 intro pins s σ H Q I h
 refine wpAny_Call_method_late hbase hfew hline rfl (thn (ho pins s σ H _ I h) fun v s1 ⟨x,H1,I1,r1,ty,q1⟩ => ?_)
 obtain ⟨h1,h2⟩:=aPL I1 r1 ty
 refine ⟨T,id,pa,slot,hty,h1,h2,?_⟩
 have hA:=ha cpos pins s1 σ H1 _ I1 q1
 rw [hs] at hA ⊢
 refine Calls.callWith_builtin (by show (false || (backTo cpos (starEach es X.env)).any (·.1))=false; rw [hplain] <;> rfl) (Calls.evalArgs_plain ?_)
 exact thn hA fun us s2 ⟨vs,H2,I2,r2,q2⟩=>hm pins s2 σ H2 x vs v us Q I2 r1 r2 q2
/- xs.append(e),list.index on a module's tuple .. are MtR facts of 06m -/
end
end L2
namespace L2
open PySem PySem.Spec PyProof.Rows
def MtM (X:Cx) (id:String) (r:V->List V->Hp->VK->Prop):Prop :=
 ∀ (pins:List (Addr × Obj)) (s:Shared) (σ:St) (H:Hp) (x:V) (xs:List V) (v:Value) (us:List Value) (Q:VK),Inv X pins σ H s->RelV x v->Vals xs us->r x xs H Q ->
  wpAny (model X.prog X.w) X.A (call (.builtin id) (v::us)) (EP X pins σ Q) X.xe s
theorem Vals.one:∀ {x:V}{us:List Value},Vals [x] us->∃ u,us=[u]/\RelV x u
 | _,_, .cons r .nil=>⟨_,rfl,r⟩
section
variable {X:Cx}{pins:List (Addr × Obj)}{σ:St}{H:Hp}{s:Shared}{l b:Addr}{xs ys zs:List V}
theorem Inv.lset {its its':List Value}{n:Nat}{f:Array Value->Array Value}{t':Nat} (I:Inv X pins σ H s) (hH:H l=some (.lst xs))
  (e:s.heap.get? l=some { cls := .type "list", data := .seq its.toArray n }) (hf:f its.toArray=its'.toArray) (hv:Vals ys its') (hz:ys.length<=sizeLine) :
  Inv X pins σ (upd H l (.lst ys)) { s with heap:=s.heap.update l (Obj.mapSeq f),toks:=t' }:=by
 have q:=PySem.IsL.update e f
 rw [hf] at q
 refine I.write (x:=l) (e:=l) (by rw [hH]; exact trivial) (.inl rfl) (fun b' u hb hu=>(Heap.get?_update_other s.heap (Obj.mapSeq f) (Ne.symm hb)).trans hu) ⟨_,q⟩ ?_
 exact ⟨hz,its',_,hv,q⟩
theorem Inv.lnew {its:List Value}{t':Nat} (I:Inv X pins σ H s) (hv:Vals ys its) (hz:ys.length<=sizeLine) :
  Inv X pins σ (upd H s.heap.objs.size (.lst ys)) { s with heap:=s.heap.push { cls := .type "list", data := .seq its.toArray },toks:=t' } :=
 I.laid (fun _ _ q=>Heap.get?_push_of_some _ q) (Nat.le_refl _) ⟨hz,its,0,hv,Heap.get?_push_size _ rfl⟩
theorem Inv.fresh (I:Inv X pins σ H s):H s.heap.objs.size=none:=I.hok.fresh (Nat.le_refl _)
theorem Inv.lstM (I:Inv X pins σ H s) (hH:H l=some (.lst xs)):xs.length<=sizeLine/\∃ (its:List Value) (n:Nat),Vals xs its/\xs.length=its.length/\s.heap.get? l=some { cls := .type "list", data := .seq its.toArray n }:=by
 obtain ⟨z,its,n,r,e⟩:=I.hok l _ hH
 exact ⟨z,its,n,r,r.length,e⟩
theorem aIE {n:Nat} (h:n<=sizeLine):Builtin.List.listTooLong n=false:=by
 unfold Builtin.List.listTooLong
 exact decide_eq_false (by omega)
end
section
variable {X:Cx}
def aCU:V->List V->Hp->VK->Prop:=fun x vs H Q=>∃ l xs y,x = .ref l/\vs=[y]/\H l=some (.lst xs)/\xs.length < sizeLine/\Q .non (upd H l (.lst (xs++[y])))
theorem cT:MtM X "list.append" aCU:=by
 intro pins s σ H x vs v us Q I rx rv h
 obtain ⟨l,xs,y,rfl,rfl,hH,hz,q⟩:=h
 cases rx
 obtain ⟨u,rfl,ru⟩:=rv.one
 obtain ⟨z,its,n,r,hl,e⟩:=I.lstM hH
 refine call_meets F.slot_list_append ⟨_,e,rfl⟩ F.entry_list_append (F.args_list_append_2 _ _) (PySem.list_append l its.toArray n u (by rw [List.size_toArray]; omega)) ⟨e,?_⟩
 refine ⟨.non,_,I.lset (its':=its++[u]) hH e (by simp) (r.append (.cons ru .nil)) ?_,rfl,q⟩
 rw [List.length_append,List.length_singleton]
 omega
def rCat:R2:=fun x y H Q=>∃ l b xs zs,x = .ref l/\y = .ref b/\H l=some (.lst xs)/\H b=some (.lst zs)/\xs.length+zs.length<=sizeLine/\∀ p,H p=none->Q (.ref p) (upd H p (.lst (xs++zs)))
theorem oW:OpR X (binaryOp .Add) rCat:=by
 intro pins s σ H x y v u Q I rx ry h
 obtain ⟨l,b,xs,zs,rfl,rfl,hH,hB,hz,q⟩:=h
 cases rx
 cases ry
 obtain ⟨z,its,n,r,hl,e⟩:=I.lstM hH
 obtain ⟨z2,its2,n2,r2,hl2,e2⟩:=I.lstM hB
 refine PySem.P.add_list e e2 ?_ (by rw [List.size_toArray,List.size_toArray]; omega)
 have ea:its.toArray++its2.toArray=(its++its2).toArray:=by simp
 rw [ea]
 exact ⟨.ref _,_,I.lnew (t':=s.toks) (r.append r2) (by rw [List.length_append]; omega),rfl,q _ I.fresh⟩
end
section
variable {prog:Program}{w:World}{A:Around}{E:Value->Shared->Prop}{s:Shared}
set_option maxRecDepth 100000 in
end
section
variable {X:Cx}
end
end L2
namespace Att
open PySem PySem.W PySem.Calls PyProof.Rows
theorem u4 {P:Params}{h:Heap}:∀ (ns:List Int) (vs:List Value),WellAll P h vs (ns.map WData.int)->IntsAre vs ns:=by
 intro ns
 induction ns with
 | nil =>
  intro vs w
  rw [List.map_nil] at w
  cases w
  exact .nil
 | cons n ns ih =>
  intro vs w
  rw [List.map_cons] at w
  cases w with
  | cons a b =>
   cases a
   exact .cons _ _ (ih _ b)
theorem aGN {l:OpenLaw}{n:Nat} (hn:l.most=some n) {P:Params}{h:Heap}{args:List WData}{vals:List Value}
  (hpre:l.row.toRowW.claim.pre args=true) (hwl:WellAll P h vals args) :
  ∃ a vs ns,vals=[Value.ref a]/\args=[WData.list (ns.map WData.int)]/\h.get? a=some { cls := .type "list", data := .seq vs.toArray }/\IntsAre vs ns/\ns.length<=n:=by
 have hsh:WShape.hasAll [] args [.list .int]=true:=(pre_splitW hpre).1
 have hc:l.pre.holds [] { args:=args }=true:=(pre_splitW hpre).2
 obtain ⟨d,r,rfl,h1,h2⟩:=hasAllW_cons hsh
 obtain rfl:=hasAllW_nil h2
 obtain ⟨xs,rfl,h3⟩:=hasW_list h1
 obtain ⟨ns,rfl⟩:=items_int h3
 have hlen:ns.length<=n:=by
  unfold OpenLaw.pre at hc
  have h4:(WTm.not (.lt (.lit (.int (n:Int))) (.len (.arg 0)))).holds [] { args:=[.list (ns.map .int)] }=true:=by
   have h4:=(holds_andW hc).1
   rw [hn] at h4
   exact h4
  have h5:=condW_of h4 (w_not (w_lt w_lit (w_len_list (w_arg rfl))))
  rw [zLm] at h5
  refine Nat.le_of_not_lt fun q => ?_
  have q':(n:Int) < ((ns.length:Nat):Int):=by omega
  first
   | (rw [decide_eq_true q'] at h5; exact absurd h5 (by decide))
   | (simp at h5; omega)
 cases hwl with
 | cons w1 w2 =>
  cases w2
  cases w1 with
  | list ho hall=>exact ⟨_,_,ns,rfl,rfl,ho,u4 ns _ hall,hlen⟩
theorem aF5 (l:OpenLaw) (args:List WData):l.row.toRowW.claim.post args (.bool true) args=true :=
 postW_of (r:=l.row.toRowW) (X:=(true == true))
  (show WShape.has [] (.bool true) .bool=true by first | rfl | decide | simp [WShape.has,WShape.arms,WShape.armsAll])
  (show (WTm.eq .res (.lit (.bool true))).value [] { args:=args,res:=some (.bool true),after:=args }=some (.bool (true == true)) from w_eq_bool (w_res rfl) w_lit) rfl
theorem aA2 {l:OpenLaw}{n:Nat}{q:Program}{loose:List Str}{XP:(Str->Option Value)->Heap->Prop}{YP:World->Heap->Prop}{d:DefRec}
  (hn:l.most=some n) (hdf:d.params.defaults=[])
  (call:∀ (w:World) (s₀ s₁:Shared) (mg mb:Str->Option Value) (fa:Addr) (o:Obj) (pm cd doc:Value) (a:Addr) (vs:List Value) (ns:List Int),
   Ground q loose [] XP w s₀ mg mb s₁.heap->YP w s₁.heap ->
   s₁.heap.get? fa=some o->o.data = .func (docDef d.name d.params d.body d.scope pm cd doc)->s₁.heap.CodeRec cd d.name->mg d.name=some (.ref fa) ->
   s₁.heap.get? a=some { cls := .type "list", data := .seq vs.toArray }->IntsAre vs ns->ns.length<=n->s₁.gens = #[] ->
   codeAny (model l.prog w) callerA (.call (.ref fa) ⟨[.ref a],[]⟩) (fun r s'=>r = .ok (.ret (.bool true))/\OldK s₁.heap s'.heap/\s'.os=s₁.os/\AllBare s'.gens) s₁) :
  WalkO q loose XP YP l.row.toRowW d [] (fun f vs=>PySem.call f vs):=by
 intro w s₀ s₁ mg mb G Y fa o pm cd doc dV kV ho hd hcd hD hmg hg args vals as hpre hlay hrd hwl hlo
 obtain rfl:dV = .none:=Dflts.none hD hdf
 obtain rfl:kV = .none:=Dflts.noKw hD
 obtain ⟨a,vs,ns,rfl,rfl,hobj,hints,hlen⟩:=aGN hn hpre hwl
 refine enter_call (codeAny_mono (call w s₀ s₁ mg mb fa o pm cd doc a vs ns G Y ho (fd_plain hd) hcd hmg hobj hints hlen hg) fun r s' hq => ?_)
 obtain ⟨rfl,h2,h3,h4⟩:=hq
 exact ⟨.inl ⟨.bool true, .bool true,[],rfl,fun _=>rfl, .bool true,aF5 l _,fun _=>⟨List.Pairwise.nil,fun _ hm=>(nomatch hm)⟩⟩,h2,h3,h4⟩
section
variable {prog:Program}{w:World}{A:Around}{E:Value->Shared->Prop}{s:Shared}{K:Frag}
end
end Att
namespace L2
open PySem PySem.Spec PyProof.Rows
theorem nR:∀ {vs:List Value}{ns:List Int},IntsAre vs ns->Vals (ns.map V.int) vs
 | _,_, .nil => .nil
 | _,_, .cons n t h => .cons ⟨t,rfl⟩ (nR h)
def Only (H:Hp):Prop:=∀ b,H b=none\/∃ o xs,H b=some (.frz o (.lst xs))
theorem aJY {P:Program}{w:World}{K:PySem.W.Frag}{mg mb:Str->Option Value}{CX:CXT}{k:Nat}{fa a:Addr}{fd:FuncData}{x:Str}{sp:Sp}{s₁:Shared}{vs:List Value}{ns:List Int}
  (KX:K.In s₁.heap) (hns:s₁.heap.Ns mainGlobals mg) (hb:s₁.heap.Ns builtinsNs mb) (hbb:∀ x:Str,x ≠ "__name__" -> mb x=bootBuiltins x) (hlim:s₁.heap.NoLimit) (hg:s₁.gens = #[])
  (ha:s₁.heap.get? a=some { cls := .type "list", data := .seq vs.toArray }) (hi:IntsAre vs ns) (hl:ns.length<=sizeLine) (hr:Room k callerA)
  (F:∀ base:Heap,K.In base->base.Ns mainGlobals mg->FnOk P w K mg base CX k fa fd [x] sp) (hbind:∀ (s:Shared) (u:Value),BindsTo s fd ⟨[u],[]⟩ [(x,u)])
  (hsp:∀ H:Hp,Only H->SqL K H a (ns.map V.int)->sp [.ref a] H (fun v _=>v = .bl true) fun _ _ _=>False)
  (hCX:∀ H e s',CX [] H s₁ (fun _ _ _=>False) e s'->False) :
  codeAny (model P w) callerA (.call (.ref fa) ⟨[.ref a],[]⟩) (fun r s'=>r = .ok (.ret (.bool true))/\OldK s₁.heap s'.heap/\s'.os=s₁.os/\AllBare s'.gens) s₁:=by
 have rv:=nR hi
 have lenV:=hi.length
 -- from an abstract heap in which nothing but the script may be tracked
 have core:∀ H:Hp,Only H->SqL K H a (ns.map V.int)->HOk P w H s₁.heap->(∀ b,H b≠none->b=a)->(H a≠none->K.lookup a=none) ->
   codeAny (model P w) callerA (.call (.ref fa) ⟨[.ref a],[]⟩) (fun r s'=>r = .ok (.ret (.bool true))/\OldK s₁.heap s'.heap/\s'.os=s₁.os/\AllBare s'.gens) s₁:=by
  intro H hO hS hok hA hK
  have base_of:∀ {b:Addr}{o:Obj},s₁.heap.get? b=some o->H b=none->(pA s₁.heap H).get? b=some o:=fun e n=>aHZ e n
  have noA:∀ {b:Addr}{o:Obj}{es:Array DictEntry}{ep:Nat},s₁.heap.get? b=some o->o.data = .dict es ep->H b=none:=fun {b o es ep} e d=>by
   cases q:H b with
   | none=>rfl
   | some u =>
    have e':b=a:=hA b (by rw [q]; simp)
    subst e'
    rw [ha] at e; cases e
    have d':Data.seq vs.toArray _=Data.dict es ep:=d
    cases d'
  have nsK:∀ {b:Addr}{m:Str->Option Value},s₁.heap.Ns b m->(pA s₁.heap H).Ns b m:=fun {b m} ⟨o,es,ep,e,d,r⟩=>⟨o,es,ep,base_of e (noA e d),d,r⟩
  have hKb:K.In (pA s₁.heap H):=fun b o e=>base_of (KX b o e) (by
   cases q:H b with
   | none=>rfl
   | some u =>
    have e':b=a:=hA b (by rw [q]; simp)
    subst e'
    rw [hK (by rw [q]; simp)] at e; cases e)
  have hM:Mod K mg (pA s₁.heap H):=⟨hKb,nsK hns,⟨mb,nsK hb,hbb⟩,let ⟨mc,h1,h2⟩:=hlim; ⟨mc,nsK h1,h2⟩⟩
  have e0:Env0 P w K mg (pA s₁.heap H) callerA [] s₁ H:=⟨rfl,hM,fun b o e=>aL3 e,Nat.le_of_eq (aEP _ _),trivial,fun b hb=>absurd (show b∈([]:List Addr) from hb) (by simp),hok, .of_eq hg⟩
  refine codeAny_mono ((F _ hKb (nsK hns)).run callerA [] s₁ H ⟨[.ref a],[]⟩ [.ref a] [.ref a] _ _ hr e0 (hbind s₁ (.ref a)) (.cons rfl .nil) (hsp H hO hS)) fun r s' h => ?_
  cases r with
  | error e=>exact (hCX H e s' h).elim
  | ok fl =>
   cases fl with
   | next=>exact False.elim h
   | brk=>exact False.elim h
   | cont=>exact False.elim h
   | ret u =>
    obtain ⟨v,H',os,bare,un,hok',r',q⟩:=h
    have q':v = .bl true:=q
    subst q'
    obtain rfl:u=Value.bool true:=r'
    refine ⟨rfl,OldK.of_keep fun b o e => ?_,os,bare⟩
    cases q:H b with
    | none=>exact un.keep b o e q (by intro z; exact absurd (show b∈([]:List Addr) from z) (by simp)) (by simp)
    | some u =>
     rcases hO b with z | ⟨ob,xs,z⟩
     ·rw [q] at z; cases z
     ·have z2:=un.frzs b ob _ z
      obtain ⟨e1,_⟩:=hok b _ z
      obtain ⟨e2,_⟩:=hok' b _ z2
      rw [e] at e1; cases e1
      exact e2
 cases hk:K.lookup a with
 | some o =>
  -- the script is one of the module's own objects
  have e:=KX a o hk
  rw [ha] at e
  cases e
  refine core (fun _=>none) (fun _ => .inl rfl) (.inr ⟨_,vs.toArray,_,hk,rfl,rfl,rfl,by rw [List.size_toArray,lenV]; exact hl,by simpa using rv⟩) (fun b u z=>by have z':(none:Option HO)=some u:=z; cases z') (fun b z=>absurd rfl z) fun z=>absurd rfl z
 | none =>
  refine core (fun b=>if b=a then some (.frz { cls := .type "list", data := .seq vs.toArray } (.lst (ns.map V.int))) else none) (fun b => ?_) (.inl (.inr ⟨{ cls := .type "list", data := .seq vs.toArray },if_pos rfl⟩)) (fun b u z => ?_) (fun b z => ?_) fun _=>hk
  ·by_cases hb:b=a
   ·exact .inr ⟨_,_,if_pos hb⟩
   ·exact .inl (if_neg hb)
  ·by_cases hb:b=a
   ·have z':=(if_pos hb).symm.trans z
    cases z'
    subst hb
    exact ⟨ha,by rw [zLm]; exact hl,vs,_,rv,ha⟩
   ·have z':=(if_neg hb).symm.trans z
    cases z'
  ·by_cases hb:b=a
   ·exact hb
   ·exact absurd (if_neg hb) z
theorem aMY {l:PySem.W.OpenLaw}{n k:Nat}{q:Program}{loose:List Str}{XP:(Str->Option Value)->Heap->Prop}{YP:World->Heap->Prop}{d:DefRec}{K:Params->PySem.W.Frag}{CX:World->CXT}{sp:World->Sp}{x:Str}
  (hn:l.most=some n) (hn2:n<=sizeLine) (hdf:d.params.defaults=[]) (hr:Room k callerA)
  (hY:∀ (w:World) (h:Heap),YP w h->(K w.params).In h)
  (F:∀ (w:World) (mg:Str->Option Value) (fa:Addr) (h:Heap),(K w.params).In h->h.Ns mainGlobals mg->mg d.name=some (.ref fa) ->
   ∃ fd:FuncData,(∀ (s:Shared) (u:Value),BindsTo s fd ⟨[u],[]⟩ [(x,u)]) /\
    ∀ base:Heap,(K w.params).In base->base.Ns mainGlobals mg->FnOk l.prog w (K w.params) mg base (CX w) k fa fd [x] (sp w))
  (hsp:∀ (w:World) (H:Hp) (a:Addr) (ns:List Int),ns.length<=n->Only H->SqL (K w.params) H a (ns.map V.int)->sp w [.ref a] H (fun v _=>v = .bl true) fun _ _ _=>False)
  (hCX:∀ (w:World) (H:Hp) (s:Shared) (e:Value) (s':Shared),CX w [] H s (fun _ _ _=>False) e s'->False) :
  PySem.W.WalkO q loose XP YP l.row.toRowW d [] (fun f vs=>PySem.call f vs):=by
 refine Att.aA2 hn hdf fun w s₀ s₁ mg mb fa o pm cd doc a vs ns G Y ho hd hcd hmg hobj hints hlen hg => ?_
 have KX:=hY w _ Y
 obtain ⟨fd,hb,hF⟩:=F w mg fa _ KX G.T.g hmg
 exact aJY KX G.T.g G.T.b G.T.builtins G.T.nolimit hg hobj hints (Nat.le_trans hlen hn2) hr hF hb (fun H hO hS=>hsp w H a ns hlen hO hS) fun H e s'=>hCX w H s₁ e s'
def fX (s:Stmt):Arguments:=match s with
 | .FunctionDef _ a _ _ _ _ _ _ _ _=>a
 | _=>{ posonlyargs:=[],args:=[],vararg:=none,kwonlyargs:=[],kw_defaults:=[],kwarg:=none,defaults:=[] }
def eA (s:Stmt):List Stmt:=match s with
 | .FunctionDef _ _ b _ _ _ _ _ _ _=>b
 | _=>[]
def aP (s:Stmt):Scope:=match s with
 | .FunctionDef _ _ _ _ _ _ sc _ _ _=>sc
 | _=>{ kind := .function,names:=[],isGenerator:=false,isCoroutine:=false }
abbrev CX0:CXT:=fun _ _ _ _ _ _=>False
abbrev E0:XK:=fun _ _ _=>False
theorem pass0 {X:Cx}:Passes CX0 X E0:=fun _ _ _ _ _ _ _ h=>h.elim
structure Fun (K:PySem.W.Frag) (x qual:Str) (st:Stmt) (f:Addr) (fd:FuncData):Prop where
 ex:∃ (oc:Value) (od:Option Addr) (kV doc pm:Value) (an:Option Addr) (cdv ct:Value) (osl:Array (Option Value)),
  fd=PySem.W.fnOf x qual (fX st) (eA st) (aP st) .none kV doc pm an cdv ct/\K.lookup f=some ⟨oc,od, .func fd,osl⟩/\PySem.W.codeIn K cdv qual=true
 kp:PySem.W.keepIn K (.ref f)=true
section
variable {P:Program}{w:World}{K:PySem.W.Frag}{mg:Str->Option Value}{base:Heap}
theorem Fun.ok {x qual:Str}{st:Stmt}{f:Addr}{fd:FuncData}{N ps:List Str}{k:Nat}{sp:Sp} (F:Fun K x qual st f fd) (S:FnScope N ps (aP st)) (len:∀ vs H Q E,sp vs H Q E->vs.length=ps.length)
  (hbody:∀ (cdv:Value) (A:Around) (outer:List Env) (s:Shared) (H:Hp) (vs:List V) (Q:VK) (E:XK),Room k (A.deeper (envOfC qual (aP st) s.heap.objs.size f cdv))->sp vs H Q E ->
   ∃ t,PSs (uB CX0 P w K mg base N qual (aP st) f cdv A outer s H E).nox (eA st) t/\t { nx:=fun _ H'=>Q .non H',rt:=Q } (start N vs) H):FnOk P w K mg base CX0 (k+1) f fd ps sp:=by
 obtain ⟨oc,od,kV,doc,pm,an,cdv,ct,osl,rfl,lk,hcd⟩:=F.ex
 refine aQ7 lk hcd S len fun A outer s H vs Q E hr hsp => ?_
 obtain ⟨t,h,q⟩:=hbody cdv A outer s H vs Q E hr hsp
 exact ⟨t,h.nox,q⟩
theorem Fun.binds {x qual:Str}{st:Stmt}{f:Addr}{fd:FuncData}{ps:List Str} (F:Fun K x qual st f fd)
  (h:∀ (kV doc pm:Value) (an:Option Addr) (cdv ct:Value) (us:List Value),us.length=ps.length->bindArgs (PySem.W.fnOf x qual (fX st) (eA st) (aP st) .none kV doc pm an cdv ct) ⟨us,[]⟩=pure (ps.zip us)):Binds K fd ps []:=by
 obtain ⟨oc,od,kV,doc,pm,an,cdv,ct,osl,rfl,lk,hcd⟩:=F.ex
 exact .all (h kV doc pm an cdv ct)
theorem aPD {x qual:Str}{st:Stmt}{f:Addr}{oc:Value}{od an:Option Addr}{osl:Array (Option Value)}{kV doc pm cdv ct:Value} (l:K.lookup f=some ⟨oc,od, .func (PySem.W.fnOf x qual (fX st) (eA st) (aP st) .none kV doc pm an cdv ct),osl⟩)
  (c:PySem.W.codeIn K cdv qual=true) (k:PySem.W.keepIn K (.ref f)=true):Fun K x qual st f (PySem.W.fnOf x qual (fX st) (eA st) (aP st) .none kV doc pm an cdv ct):=⟨⟨oc,od,kV,doc,pm,an,cdv,ct,osl,rfl,l,c⟩,k⟩
end
section
variable {X:Cx}
theorem pv (i:Nat) {x:Str}{pos:Pos} (hN:X.N[i]?=some x:=by rfl) (hv:Vis X.env.scope x:=by first | exact Or.inl rfl | exact Or.inr (Or.inl rfl) | exact Or.inr (Or.inr rfl)) (hd:(x == ("__debug__" : Str))=false:=by decide)
  (hcd:(x == ("__classdict__" : Str))=false:=by decide):PE X (.Name x pos) (tVar i):=aGT hN hv hd hcd
end
theorem b5 {A B:Prop} (h:B):if false=true then A else B:=by
 rw [if_neg zBf]
 exact h
theorem bU {A B:Prop} (h:A):if true=true then A else B:=by
 rw [if_pos rfl]
 exact h
theorem ite2 {c A B:Prop} [Decidable c] (h1:c->A) (h2:¬ c->B):if c then A else B:=by
 by_cases h:c
 ·rw [if_pos h]
  exact h1 h
 ·rw [if_neg h]
  exact h2 h
def Same (H H':Hp):Prop:=∀ b o,H b=some o->H' b=some o
theorem Same.refl (H:Hp):Same H H:=fun _ _ h=>h
theorem Same.trans {H H1 H2:Hp} (a:Same H H1) (b:Same H1 H2):Same H H2:=fun c o h=>b c o (a c o h)
theorem Same.free {H H':Hp} (e:Same H H') {l:Addr} (h:H' l=Option.none):H l=Option.none:=by
 cases q:H l with
 | none=>rfl
 | some o =>
  rw [e l o q] at h
  cases h
theorem Same.seq {K:PySem.W.Frag}{H H':Hp}{a:Addr}{xs:List V} (e:Same H H') (h:SqL K H a xs):SqL K H' a xs:=by
 rcases h with (h | ⟨o,h⟩) | h
 ·exact .inl (.inl (e _ _ h))
 ·exact .inl (.inr ⟨o,e _ _ h⟩)
 ·exact .inr h
end L2
namespace L2
open PySem PySem.Spec PyProof.Rows
def big:Nat:=2 ^ 8000
def aQQ (_ j:Int):Prop:=j≠0/\j.natAbs < big
def aQF (i j:Int):Prop:=i.natAbs < big/\j.natAbs < big
theorem aJT {n:Nat} (h:n < big):n.log2 < 9000:=by
 by_cases h0:n=0
 ·subst h0; decide
 ·exact Nat.lt_of_lt_of_le ((Nat.log2_lt h0).mpr h) (by decide)
section
variable {X:Cx}
theorem pL:OpR X (binaryOp .FloorDiv) (rI aQQ fun i j => .int (i.fdiv j)) :=
 opI fun _ _ _ _ _ _ _ hc q=>floordiv_int hc.1 q (.inl (PyProof.noPylong_of_log2 (aJT hc.2)))
theorem bW:OpR X (binaryOp .Mult) (rI aQF fun i j => .int (i * j)) :=
 opI fun _ _ _ _ _ _ _ hc q=>mul_int q (IntMulOk.of_le (m:=8000) (n:=8000) (intBits_le_iff.mpr hc.1) (intBits_le_iff.mpr hc.2) (by decide))
end
theorem aOG {K:PySem.W.Frag}{S T:String}{b:Bool} (h1:(Value.type S == Value.type T)=false) (h2:PySem.W.kitMeta T=true) (h3:(fastBuiltinMro S).map (·.contains (.type T))=some b) :
  PySem.W.kitOne K (.type S) (.type T)=some b:=by
 unfold PySem.W.kitOne PySem.W.kitCls
 rw [if_neg (by rw [h1]; exact zBf)]
 show (if PySem.W.kitMeta T=true then _ else _)=_
 rw [if_pos h2]
 exact h3
theorem aIN {K:PySem.W.Frag}{t:Value} (h:(t == t)=true:=by first | rfl | simp):PySem.W.kitOne K t t=some true:=by
 unfold PySem.W.kitOne; rw [if_pos h]
section
variable {X:Cx}
end
end L2
namespace L2
open PySem PySem.Spec PyProof.Rows
structure ExcK (K:PySem.W.Frag) (C:Addr):Prop where
 cd:(PySem.W.clsIn K C).isSome=true
 ga:PySem.W.findIn K (.ref C) "__getattribute__" = some (some (.builtin "BaseException.__getattribute__"))
 gt:PySem.W.findIn K (.ref C) "__getattr__" = some none
 cl:PySem.W.findIn K (.ref C) "__class__" = some (some (.builtin "object.__class__"))
 be:PySem.W.mroIn K C (.type "BaseException")=some true
 ob:PySem.W.mroIn K C (.type "object")=some true
section
variable {prog:Program}{w:World}{A:Around}{E:Value->Shared->Prop}{h:Heap}{g:Array GenState}{d:Drawn}{t:Nat}{os:OsState}{a C:Addr}{K:PySem.W.Frag}
end
section
variable {X:Cx}
end
end L2
namespace L2
open PySem PySem.Spec PyProof.Rows
structure Thrown (h₀:Heap) (H':Hp) (e T:Addr) (cls:Value) (h:Heap):Prop where
 ne:h₀.get? e=none
 nT:h₀.get? T=none
 He:H' e=none
 HT:H' T=none
 ob:∃ oe vs oT ts a0,h.get? e=some oe/\(oe.cls=cls/\vs[0]?=some a0)/\oe.data = .fields vs/\vs[1]?=some (.ref T)/\T≠e/\h.get? T=some oT/\oT.data = .fields ts/\ts[3]?=some .none
section
variable {X:Cx}{pins:List (Addr × Obj)}{σ:St}{H:Hp}{s:Shared}
end
end L2
namespace L2
open PySem PySem.Spec PyProof.Rows
def bmV:List Value:=[.type "ValueError", .type "Exception", .type "BaseException", .type "object"]
section
variable {X:Cx}{E:XK}{C:Addr}{x:Str}{np cpos pos:Pos}{e₀:Expr}{rest:List Expr}{ta:TA}
end
structure ThrownX (X:Cx) (pins:List (Addr × Obj)) (H':Hp) (e T:Addr) (cls:Value) (h:Heap):Prop where
 e0:X.s₀.heap.get? e=none
 T0:X.s₀.heap.get? T=none
 He:H' e=none
 HT:H' T=none
 eL:e≠X.env.locals
 TL:T≠X.env.locals
 ce:∀ x c,X.env.cells.lookup x=some c->c≠e/\c≠T
 pe:∀ p∈X.pn++pins,p.1≠e/\p.1≠T
 ob:∃ oe vs oT ts a0,h.get? e=some oe/\(oe.cls=cls/\vs[0]?=some a0)/\oe.data = .fields vs/\vs[1]?=some (.ref T)/\T≠e/\h.get? T=some oT/\oT.data = .fields ts/\ts[3]?=some .none
def XP (X:Cx) (pins:List (Addr × Obj)) (σ:St) (E:XK) (v:Value) (s':Shared):Prop:=∃ e T cls H',v = .ref e/\Inv X pins σ H' s'/\ThrownX X pins H' e T cls s'.heap/\E cls none H'
section
variable {X:Cx}{pins:List (Addr × Obj)}{σ:St}{H:Hp}{s s':Shared}
end
end L2
namespace L2
open PySem PySem.Spec PyProof.Rows
section
variable {X:Cx}{pins:List (Addr × Obj)}{σ:St}{H:Hp}{s:Shared}
end
end L2
namespace Num
theorem aAT (a b:Int):Int.gcd b (a.fmod b)=Int.gcd a b:=by
 rw [Int.fmod_def,Int.gcd_comm a b]
 exact Int.gcd_sub_mul_left_right _ _ _
theorem aCB (a b:Int) (hb:b≠0):(a.fmod b).natAbs < b.natAbs:=by
 rcases Int.lt_or_gt_of_ne hb with h | h
 ·have h0:0 < -b:=by omega
  have e:a.fmod b = -((-a).fmod (-b)):=by rw [Int.neg_fmod_neg]; omega
  have h1:=Int.fmod_nonneg_of_pos (-a) h0
  have h2:=Int.fmod_lt_of_pos (-a) h0
  omega
 ·have h1:=Int.fmod_nonneg_of_pos a h
  have h2:=Int.fmod_lt_of_pos a h
  omega
def div (t b:Int):Int:=if b < 0 then -((Int.gcd t b:Nat):Int) else ((Int.gcd t b:Nat):Int)
def top (t b:Int):Int:=t.fdiv (div t b)
def bot (t b:Int):Int:=b.fdiv (div t b)
theorem wJ {t b:Int} (h:b≠0):0 < Int.gcd t b:=Int.gcd_pos_of_ne_zero_right t h
theorem aPT {t b:Int} (h:b≠0):div t b≠0:=by
 have:=wJ (t:=t) h
 unfold div; split <;> omega
theorem aM1 (t b:Int):(div t b).natAbs=Int.gcd t b:=by
 unfold div; split <;> omega
theorem aMR (t b:Int):div t b ∣ t:=by
 unfold div; split
 ·exact Int.neg_dvd.mpr (Int.gcd_dvd_left ..)
 ·exact Int.gcd_dvd_left ..
theorem aM2 (t b:Int):div t b ∣ b:=by
 unfold div; split
 ·exact Int.neg_dvd.mpr (Int.gcd_dvd_right ..)
 ·exact Int.gcd_dvd_right ..
theorem aCF (t b:Int):top t b * div t b=t:=Int.fdiv_mul_cancel (aMR t b)
theorem wS (t b:Int):bot t b * div t b=b:=Int.fdiv_mul_cancel (aM2 t b)
theorem aLN {t b:Int} (h:b≠0):0 < bot t b:=by
 have e:=wS t b
 have g:=wJ (t:=t) h
 by_cases hb:b < 0
 ·have hd:div t b < 0:=by unfold div; rw [if_pos hb]; omega
  rcases Int.lt_trichotomy (bot t b) 0 with c | c | c
  ·have:=Int.mul_pos_of_neg_of_neg c hd; omega
  ·rw [c,Int.zero_mul] at e; omega
  ·exact c
 ·have hd:0 < div t b:=by unfold div; rw [if_neg hb]; omega
  rcases Int.lt_trichotomy (bot t b) 0 with c | c | c
  ·have:=Int.mul_neg_of_neg_of_pos c hd; omega
  ·rw [c,Int.zero_mul] at e; omega
  ·exact c
theorem low (t b:Int) (h:b≠0):Int.gcd (top t b) (bot t b)=1:=by
 have g:=wJ (t:=t) h
 have e:Int.gcd (top t b * div t b) (bot t b * div t b)=Int.gcd (top t b) (bot t b) * (div t b).natAbs:=Int.gcd_mul_right ..
 rw [aCF,wS,aM1] at e
 have e':1 * Int.gcd t b=Int.gcd (top t b) (bot t b) * Int.gcd t b:=by rw [Nat.one_mul]; exact e
 exact (Nat.eq_of_mul_eq_mul_right g e').symm
theorem cross (t b:Int) (h:b≠0):top t b * b=t * bot t b:=by
 have e1:=aCF t b
 have e2:=wS t b
 have d:=aPT (t:=t) h
 have:top t b * (bot t b * div t b)=top t b * div t b * bot t b:=by
  rw [Int.mul_assoc,Int.mul_comm (bot t b)]
 rw [e1,e2] at this
 exact this
theorem aOM (t b:Int):(top t b).natAbs<=t.natAbs:=Int.natAbs_fdiv_le_natAbs ..
theorem bot_le (t b:Int):(bot t b).natAbs<=b.natAbs:=Int.natAbs_fdiv_le_natAbs ..
theorem vU {k n m:Int} (h:k ∣ n * m) (g:Int.gcd k n=1):k ∣ m:=by
 have:=Int.dvd_gcd_mul_iff_dvd_mul.mpr h
 rw [g] at this
 simpa using this
theorem uniq {p q r s:Int} (hq:0 < q) (hs:0 < s) (g:Int.gcd p q=1) (g':Int.gcd r s=1) (e:p * s=r * q):p=r/\q=s:=by
 have d1:q ∣ s:=by
  have:q ∣ p * s:=⟨r,by rw [e,Int.mul_comm]⟩
  have h:=vU this (by rw [Int.gcd_comm]; exact g)
  exact h
 have d2:s ∣ q:=by
  have:s ∣ r * q:=⟨p,by rw [<- e,Int.mul_comm]⟩
  exact vU this (by rw [Int.gcd_comm]; exact g')
 have h1:=Int.le_of_dvd hs d1
 have h2:=Int.le_of_dvd hq d2
 have hqs:q=s:=by omega
 subst hqs
 exact ⟨Int.eq_of_mul_eq_mul_right (by omega) e,rfl⟩
end Num
namespace R
open PySem L2
theorem BI:bootBuiltins "int" = some (.type "int"):=by decide +kernel
theorem BB:bootBuiltins "bool" = some (.type "bool"):=by decide +kernel
theorem BT:bootBuiltins "tuple" = some (.type "tuple"):=by decide +kernel
structure Df (K:PySem.W.Frag) (mg:Str->Option Value) (x:Str) (st:Stmt) (ps:List Str) (f:Addr) (fd:FuncData):Prop where
 F:Fun K x x st f fd
 b:Binds K fd ps []
 m:mg x=some (.ref f)
structure Bn (mg:Str->Option Value):Prop where
 isi:mg "isinstance" = none
 int:mg "int" = none
 bool:mg "bool" = none
 tuple:mg "tuple" = none
 len:mg "len" = none
 abs:mg "abs" = none
 range:mg "range" = none
 min:mg "min" = none
inductive Kn (K:PySem.W.Frag) (H:Hp):V->Prop
 | non:Kn K H .non
 | bl (b:Bool):Kn K H (.bl b)
 | int (i:Int):Kn K H (.int i)
 | str (x:Str):Kn K H (.str x)
 | lst {a:Addr}{xs:List V} (e:H a=some (.lst xs)):Kn K H (.ref a)
 | tup {a:Addr}{xs:List V} (e:H a=some (.tup xs)):Kn K H (.ref a)
section
variable {P:Program}{w:World}{K:PySem.W.Frag}{mg:Str->Option Value}{base:Heap}
theorem aKR (a:Int):(if a < 0 then -a else a)=((Int.gcd a 0:Nat):Int):=by
 rw [Int.gcd_zero_right]; split <;> omega
def num (t b:Int):HO := .tup [.int (Num.top t b), .int (Num.bot t b)]
end
end R
namespace R
open PySem L2
section
variable {P:Program}{w:World}{K:PySem.W.Frag}{mg:Str->Option Value}{base:Heap}
structure Kn2 (K:PySem.W.Frag) (H:Hp) (v:V):Prop where
 kn:Kn K H v
 two:∀ a x y,v = .ref a->H a=some (.tup [x,y])->Kn K H x/\Kn K H y
theorem at0 {x y:V}:atI [x,y] (0:Int)=some x:=rfl
end
end R
namespace L2
open PySem PySem.Spec PyProof.Rows
end L2
namespace R
open PySem L2
structure Fd (H:Hp) (p:Addr) (b:Int):Prop where
 ex:∃ g m st:Int,H p=some (.lst [.int g, .int m, .int st])/\0<=g/\0<=m/\m < 2147483399/\0<=st/\st<=b
section
variable {P:Program}{w:World}{K:PySem.W.Frag}{mg:Str->Option Value}{base:Heap}
theorem aFC (x:Int) {m:Int} (h0:0 < m) (h1:m < 2 ^ 64) : -(2 ^ 64) < x % m/\x % m < 2 ^ 64:=by
 have:=Int.emod_nonneg x (show m≠0 by omega)
 have:=Int.emod_lt_of_pos x h0
 omega
end
end R
namespace R
open PySem L2
section
variable {P:Program}{w:World}{K:PySem.W.Frag}{mg:Str->Option Value}{base:Heap}
end
end R
namespace R
open PySem L2
structure Ex (K:PySem.W.Frag) (mg:Str->Option Value) (CR CN CY CP CT CW CM:Addr):Prop where
 mR:mg "RoofError" = some (.ref CR)
 mN:mg "NoNumber" = some (.ref CN)
 mY:mg "NoYard" = some (.ref CY)
 mP:mg "NoPoint" = some (.ref CP)
 mT:mg "NoText" = some (.ref CT)
 mW:mg "NoRow" = some (.ref CW)
 mM:mg "NoName" = some (.ref CM)
 vE:mg "ValueError" = none
 xN:PySem.W.excIn K CN bmV "ValueError.__new__" = true
 kN:ExcK K CN
 cN:PySem.W.exmOne K (.ref CN) (.ref CR)=some true
 iV:PySem.W.kitOne K (.ref CN) (.type "ValueError")=some true
 iO:PySem.W.kitAny K (.ref CN) [.ref CM, .ref CP, .ref CW, .ref CT, .ref CY]=some false
section
variable {P:Program}{w:World}{K:PySem.W.Frag}{mg:Str->Option Value}{base:Heap}{CR CN CY CP CT CW CM:Addr}
end
end R
namespace R
open PySem L2
section
variable {P:Program}{w:World}{K:PySem.W.Frag}{mg:Str->Option Value}{base:Heap}
end
end R
namespace R
open PySem L2
end R
namespace L2
open PySem PySem.Spec PyProof.Rows
section
variable {prog:Program}{w:World}{A:Around}{E:Value->Shared->Prop}{s:Shared}
end
section
variable {X:Cx}{pos:Pos}
end
end L2
namespace Num
theorem xL (t b:Int) (hb:b≠0):top t b=(Rat.divInt t b).num/\bot t b=((Rat.divInt t b).den:Int):=by
 have hd:((Rat.divInt t b).den:Int)≠0:=by have:=(Rat.divInt t b).den_nz; omega
 have e:(Rat.divInt t b).num * b=t * ((Rat.divInt t b).den:Int):=by
  have:=Rat.num_divInt_den (Rat.divInt t b)
  exact (Rat.divInt_eq_divInt_iff hd hb).mp this
 have g:Int.gcd (Rat.divInt t b).num ((Rat.divInt t b).den:Int)=1:=by
  have:=(Rat.divInt t b).reduced
  rw [Int.gcd_eq_natAbs_gcd_natAbs]
  exact this
 refine uniq (aLN hb) (by have:=(Rat.divInt t b).den_pos; omega) (low t b hb) g ?_
 have c:=cross t b hb
 have h1:top t b * ((Rat.divInt t b).den:Int) * b=(Rat.divInt t b).num * bot t b * b:=by
  rw [Int.mul_right_comm,c,Int.mul_right_comm,<- e,Int.mul_right_comm]
 exact Int.eq_of_mul_eq_mul_right hb h1
theorem aCC (x y:Rat):Rat.divInt (x.num * (y.den:Int)+y.num * (x.den:Int)) ((x.den:Int) * (y.den:Int))=x+y:=by
 have h1:(x.den:Int)≠0:=by have:=x.den_nz; omega
 have h2:(y.den:Int)≠0:=by have:=y.den_nz; omega
 rw [<- Rat.divInt_add_divInt _ _ h1 h2,Rat.num_divInt_den,Rat.num_divInt_den]
theorem aBV (x y:Rat):Rat.divInt (x.num * (y.den:Int) - y.num * (x.den:Int)) ((x.den:Int) * (y.den:Int))=x - y:=by
 have h1:(x.den:Int)≠0:=by have:=x.den_nz; omega
 have h2:(y.den:Int)≠0:=by have:=y.den_nz; omega
 rw [<- Rat.divInt_sub_divInt _ _ h1 h2,Rat.num_divInt_den,Rat.num_divInt_den]
theorem aKO (x y:Rat):Rat.divInt (x.num * y.num) ((x.den:Int) * (y.den:Int))=x * y:=by
 rw [<- Rat.divInt_mul_divInt,Rat.num_divInt_den,Rat.num_divInt_den]
theorem aK5 (x y:Rat):Rat.divInt (x.num * (y.den:Int)) ((x.den:Int) * y.num)=x / y:=by
 rw [<- Rat.divInt_mul_divInt,Rat.num_divInt_den,Rat.div_def,Rat.inv_def]
end Num
namespace R
open PySem L2
structure Sz (k:Nat) (x:Rat):Prop where
 n:x.num.natAbs < 2 ^ k
 d:x.den < 2 ^ k
theorem Sz.mono {j k:Nat}{x:Rat} (h:Sz j x) (e:j<=k):Sz k x :=
 ⟨Nat.lt_of_lt_of_le h.n (Nat.pow_le_pow_right (by decide) e),Nat.lt_of_lt_of_le h.d (Nat.pow_le_pow_right (by decide) e)⟩
theorem fV (x:Rat):((x.den:Nat):Int)≠0:=by have:=x.den_nz; omega
theorem lt_mul {a b j k:Nat} (h1:a < 2 ^ j) (h2:b < 2 ^ k):a * b < 2 ^ (j+k):=by
 rw [Nat.pow_add]
 exact Nat.mul_lt_mul'' h1 h2
theorem iD {a b:Int}{j k:Nat} (h1:a.natAbs < 2 ^ j) (h2:b.natAbs < 2 ^ k):(a * b).natAbs < 2 ^ (j+k):=by
 rw [Int.natAbs_mul]; exact lt_mul h1 h2
theorem tT (k:Nat):2 ^ (k+1)=2 ^ k+2 ^ k:=by rw [Nat.pow_succ]; omega
theorem aDD {a b:Int}{k:Nat} (h1:a.natAbs < 2 ^ k) (h2:b.natAbs < 2 ^ k):(a+b).natAbs < 2 ^ (k+1):=by
 rw [tT]; generalize 2 ^ k=m at *; omega
theorem aEN {a b:Int}{k:Nat} (h1:a.natAbs < 2 ^ k) (h2:b.natAbs < 2 ^ k):(a - b).natAbs < 2 ^ (k+1):=by
 rw [tT]; generalize 2 ^ k=m at *; omega
theorem Sz.dn {k:Nat}{x:Rat} (h:Sz k x):((x.den:Nat):Int).natAbs < 2 ^ k:=by have:=h.d; omega
theorem xY {t b:Int}{k:Nat} (hb:b≠0) (h1:t.natAbs < 2 ^ k) (h2:b.natAbs < 2 ^ k):Sz k (Rat.divInt t b):=by
 obtain ⟨e1,e2⟩:=Num.xL t b hb
 refine ⟨?_,?_⟩
 ·rw [<- e1]; exact Nat.lt_of_le_of_lt (Num.aOM t b) h1
 ·have:=Num.bot_le t b
  rw [e2] at this
  have e:(((Rat.divInt t b).den:Nat):Int).natAbs=(Rat.divInt t b).den:=by omega
  rw [e] at this
  exact Nat.lt_of_le_of_lt this h2
theorem aF7 {a b:Int} (h1:a≠0) (h2:b≠0):a * b≠0:=Int.mul_ne_zero h1 h2
theorem Sz.add {j k:Nat}{x y:Rat} (h1:Sz j x) (h2:Sz k y):Sz (j+k+1) (x+y):=by
 rw [<- Num.aCC]
 refine xY (aF7 (fV x) (fV y)) (aDD (iD h1.n h2.dn) ?_) ?_
 ·rw [Nat.add_comm]; exact iD h2.n h1.dn
 ·exact Nat.lt_of_lt_of_le (iD h1.dn h2.dn) (Nat.pow_le_pow_right (by decide) (by omega))
theorem Sz.sub {j k:Nat}{x y:Rat} (h1:Sz j x) (h2:Sz k y):Sz (j+k+1) (x - y):=by
 rw [<- Num.aBV]
 refine xY (aF7 (fV x) (fV y)) (aEN (iD h1.n h2.dn) ?_) ?_
 ·rw [Nat.add_comm]; exact iD h2.n h1.dn
 ·exact Nat.lt_of_lt_of_le (iD h1.dn h2.dn) (Nat.pow_le_pow_right (by decide) (by omega))
end R
namespace L2
open PySem PySem.Spec PyProof.Rows
theorem fB:∀ (names:List (Str × NameKind)) (n:Nat) (acc:List (Str × Addr)),cellsFrom n names acc=cellsFrom n names []++acc
 | [],_,_=>rfl
 | (name,kind)::r,n,acc=>by
  unfold cellsFrom
  split
  ·rw [fB r (n+1) ((name,n)::acc),fB r (n+1) [(name,n)],List.append_assoc]; rfl
  ·exact fB r n acc
theorem oK:∀ (names:List (Str × NameKind)) (n:Nat) (acc:List (Str × Addr)) {y:Str}{c:Addr},(y,c)∈cellsFrom n names acc->(y,NameKind.cell)∈names\/(y,c)∈acc
 | [],_,_,_,_,h => .inr h
 | (name,kind)::r,n,acc,y,c,h=>by
  unfold cellsFrom at h
  split at h
  ·rename_i hk
   rcases oK r (n+1) _ h with q | q
   ·exact .inl (List.mem_cons_of_mem _ q)
   ·rcases List.mem_cons.mp q with q | q
    ·cases q
     have:kind = .cell:=by simpa using hk
     exact .inl (by rw [this]; exact List.mem_cons_self)
    ·exact .inr q
  ·rcases oK r n _ h with q | q
   ·exact .inl (List.mem_cons_of_mem _ q)
   ·exact .inr q
theorem fY {y:Str}:∀ {l m:List (Str × Addr)},(l++m).lookup y=match l.lookup y with | some c=>some c | none=>m.lookup y
 | [],_=>rfl
 | (n,c)::l,m=>by
  rw [List.cons_append,List.lookup_cons,List.lookup_cons]
  cases y == n with
  | true=>rfl
  | false=>exact fY (l:=l) (m:=m)
theorem pD {scope:Scope}{env:Env}:∀ (names:List (Str × NameKind)) (acc:List (Str × Addr)),
  (∀ n,(n,NameKind.free)∈names->∃ c,env.cells.lookup n=some c)->(∀ n c,acc.lookup n=some c->env.cells.lookup n=some c) ->
  ∃ cl,(forIn names acc fun x cs=>(if x.2 == NameKind.free then (do let c <- cellOf env x.1; pure (ForInStep.yield ((x.1,c)::cs))) else pure (ForInStep.yield cs)):Sem (List (Str × Addr)))=pure cl /\
   (∀ n c,cl.lookup n=some c->env.cells.lookup n=some c)/\(∀ n,(n,NameKind.free)∈names->∃ c,cl.lookup n=some c)/\∀ n c,acc.lookup n=some c->∃ c',cl.lookup n=some c'
 | [],acc,_,h2=>⟨acc,rfl,h2,(fun _ h=>nomatch h),fun n c e=>⟨c,e⟩⟩
 | (name,kind)::r,acc,h1,h2=>by
  have h1':∀ n,(n,NameKind.free)∈r->∃ c,env.cells.lookup n=some c:=fun n hn=>h1 n (List.mem_cons_of_mem _ hn)
  by_cases hk:kind = .free
  ·subst hk
   obtain ⟨c,hc⟩:=h1 name List.mem_cons_self
   obtain ⟨cl,e,q1,q2,q3⟩:=pD (scope:=scope) (env:=env) r ((name,c)::acc) h1' (fun n c' hn=>by
    rw [List.lookup_cons] at hn
    cases hb:n == name with
    | true =>
     rw [hb] at hn
     have:n=name:=by simpa using hb
     subst this
     cases hn; exact hc
    | false=>rw [hb] at hn; exact h2 n c' hn)
   refine ⟨cl,?_,q1,fun n hn => ?_,fun n c' hn => ?_⟩
   ·rw [List.forIn_cons]
    simp only [beq_self_eq_true,if_true]
    have e0:cellOf env name=pure c:=by unfold cellOf; rw [hc]
    rw [e0]
    exact e
   ·rcases List.mem_cons.mp hn with z | z
    ·cases z
     exact q3 _ c (by rw [List.lookup_cons,beq_self_eq_true])
    ·exact q2 n z
   ·cases hb:n == name with
    | true=>exact q3 n c (by rw [List.lookup_cons,hb])
    | false=>exact q3 n c' (by rw [List.lookup_cons,hb]; exact hn)
  ·obtain ⟨cl,e,q1,q2,q3⟩:=pD (scope:=scope) (env:=env) r acc h1' h2
   refine ⟨cl,?_,q1,fun n hn => ?_,q3⟩
   ·rw [List.forIn_cons]
    have hb:(kind == NameKind.free)=false:=by simpa using hk
    simp only [hb,Bool.false_eq_true,if_false]
    exact e
   ·rcases List.mem_cons.mp hn with z | z
    ·cases z; exact absurd rfl hk
    ·exact q2 n z
theorem qF {scope:Scope}{env:Env} (h:∀ n,(n,NameKind.free)∈scope.names->∃ c,env.cells.lookup n=some c) :
  ∃ cl,closureFor scope env=pure cl/\(∀ n c,cl.lookup n=some c->env.cells.lookup n=some c)/\(∀ n,(n,NameKind.free)∈scope.names->∃ c,cl.lookup n=some c):=by
 obtain ⟨cl,e,q1,q2,_⟩:=pD (scope:=scope) (env:=env) scope.names [] h (fun n c e=>by cases e)
 refine ⟨cl,?_,q1,q2⟩
 show ((forIn scope.names [] fun x cs=>(if x.2 == NameKind.free then (do let c <- cellOf env x.1; pure (ForInStep.yield ((x.1,c)::cs))) else pure (ForInStep.yield cs)):Sem (List (Str × Addr))) >>= fun cs=>pure cs)=pure cl
 rw [e]
 rfl
theorem tG {M:Model}{A:Around}{E:Value->Shared->Prop}{s:Shared}{scope:Scope}{globals:Addr}{cl:List (Str × Addr)}{qual:Str}{code:Value}{env:Env}{Q:Env->Shared->Prop}
  (h:Q (newEnv scope s.heap.objs.size globals (cellsFrom (s.heap.objs.size+1) scope.names cl) qual none code (some env) builtinsNs) { s with heap:=pushCells (s.heap.push { cls := .type "dict", data := .dict #[] }) scope.names }) :
  wpAny M A (newFunctionEnv scope globals cl [] qual none code (some env)) Q E s:=by
 simp only [newFunctionEnv,Option.isSome_some,if_true]
 refine wpAny_bind (wpAny_alloc ?_)
 refine wpAny_bind (wpAny_layCells _ (fun name kind cells=>by cases hkc:kind == NameKind.cell <;> simp [hkc]) _ _ _ _ ?_)
 rw [show ({ s with heap:=s.heap.push { cls := .type "dict", data := .dict #[] } }:Shared).heap.objs.size=s.heap.objs.size+1 from Heap.size_push ..]
 exact wpAny_bind (wpAny_pure (wpAny_pure h))
def aX (X:Cx) (scope:Scope) (cs:List (Str × Addr)) (C:Addr) (Nc:List Str) (s₀:Shared) (H₀:Hp) (fp:List Addr):Cx :=
 { X with N:=Nc,s₀:=s₀,H₀:=H₀,env:=compEnvC scope cs C X.env,outer:=X.stack,ex:=fp,fn:=fun y=>scope.names.lookup y == some .cell,pn:=[],xe:=fun _ _=>False }
theorem dH {env:Env}{y:Str}{k:NameKind}:∀ {names:List (Str × NameKind)},
  (names.map fun (n,k)=>if (k == NameKind.free && env.scope.kind == .function && env.kindOf n == some .cell) then (n,NameKind.cell) else (n,k)).lookup y=some k ->
  names.lookup y=some k\/(names.lookup y=some .free/\k = .cell)
 | [],h=>by cases h
 | (n,k')::r,h=>by
  have ih := @dH env y k r
  rw [List.map_cons] at h
  cases hy:y == n with
  | true =>
   rw [List.lookup_cons,hy]
   by_cases hc:(k' == NameKind.free && env.scope.kind == .function && env.kindOf n == some .cell)=true
   ·dsimp only at h
    rw [if_pos hc,List.lookup_cons,hy] at h
    cases h
    have:k' = .free:=by
     rw [Bool.and_eq_true,Bool.and_eq_true] at hc
     simpa using hc.1.1
    exact .inr ⟨by rw [this],rfl⟩
   ·dsimp only at h
    rw [if_neg hc,List.lookup_cons,hy] at h
    exact .inl h
  | false =>
   rw [List.lookup_cons,hy]
   by_cases hc:(k' == NameKind.free && env.scope.kind == .function && env.kindOf n == some .cell)=true
   ·dsimp only at h
    rw [if_pos hc,List.lookup_cons,hy] at h
    exact ih h
   ·dsimp only at h
    rw [if_neg hc,List.lookup_cons,hy] at h
    exact ih h
def PIf (Y:Cx) (ifs:List Expr) (tt:TT):Prop :=
 ∀ (pins:List (Addr × Obj)) (s:Shared) (σ:St) (H:Hp) (Q:Bool->Hp->Prop),Inv Y pins σ H s->tt σ H Q ->
  wpAny (model Y.prog Y.w) Y.A (forIn ifs true fun c r=>if r=true then do let ok <- isTrue c Y.env (eval c Y.env); pure (ForInStep.yield ok) else pure (ForInStep.yield r)) (TP Y pins σ Q) Y.xe s
def aQE:TT:=fun _ H Q=>Q true H
theorem aMF {Y:Cx}:PIf Y [] aQE:=fun pins s σ H Q I h=>by
 rw [List.forIn_nil]
 exact wpAny_pure ⟨H,I,h⟩
theorem aNH {Y:Cx}{c:Expr}{tt:TT} (h:PT Y c tt):PIf Y [c] tt:=fun pins s σ H Q I q=>wpAny_tests_one (h pins s σ H Q I q)
theorem qY {prog:Program}{w:World}{A:Around}{R:Result->Shared->Prop}{s:Shared}{elt target iter:Expr}{ifs:List Expr}{scope:Scope}{pos:Pos}{it acc:Value}{env:Env} (I:Nat->Shared->Prop)
  (turn:∀ n s,I n s->wpAny (model prog w) A (pyNext it) (fun r s₁=>match r with
   | none=>R (.ok .next) s₁
   | some v=>wpAny (model prog w) A (letOwnedTupleGo target it v) (fun _ s₁'=>wpAny (model prog w) A (assign target env v) (fun _ s₂ =>
     wpAny (model prog w) A (forIn ifs true fun c r=>if r=true then do let ok <- isTrue c env (eval c env); pure (ForInStep.yield ok) else pure (ForInStep.yield r)) (fun ok s₃ =>
      if ok=true then wpAny (model prog w) A (eval elt env) (fun x s₄ =>
       wpAny (model prog w) A (call (.builtin "list.append") [acc,x]) (fun _ s₅=>∃ m,m < n/\I m s₅) (fun _ _=>False) s₄) (fun _ _=>False) s₃
      else ∃ m,m < n/\I m s₃) (fun _ _=>False) s₂) (fun _ _=>False) s₁') (fun _ _=>False) s₁) (fun _ _=>False) s)
  (n:Nat) (h:I n s) :
  codeAny (model prog w) A (.compLoop (.ListComp elt [⟨target,iter,ifs,0⟩] scope pos) 0 it acc env) R s:=by
 refine codeAny_loop rfl I (fun n s hI => ?_) n h
 show wpAny _ A ((compTurn (.ListComp elt [⟨target,iter,ifs,0⟩] scope pos) 0 it acc env).onRaise (fun x=>do noteFrame x env; theTreesLotGoes x)) _ _ s
 refine wpAny_noted ?_
 rw [compTurn_list]
 refine wpAny_bind (wpAny_standAt (wpAny_bind (wpAny_mono (turn n s hI) (fun r s₁ h₁ => ?_) fun _ _ h'=>h'.elim)))
 cases r with
 | none=>exact wpAny_pure h₁
 | some v =>
  refine wpAny_bind (wpAny_mono h₁ (fun _ s₁' h₁' => ?_) fun _ _ h'=>h'.elim)
  refine wpAny_bind (wpAny_mono h₁' (fun _ s₂ h₂=>wpAny_bind (wpAny_mono h₂ (fun ok s₃ h₃ => ?_) fun _ _ h'=>h'.elim)) fun _ _ h'=>h'.elim)
  cases ok with
  | false=>exact wpAny_pure ⟨rfl,h₃⟩
  | true =>
   exact wpAny_bind (wpAny_bind (wpAny_mono h₃ (fun x s₄ h₄=>wpAny_bind (wpAny_mono h₄ (fun _ s₅ h₅=>wpAny_pure (wpAny_pure ⟨rfl,h₅⟩)) fun _ _ h'=>h'.elim)) fun _ _ h'=>h'.elim))
def aP2 (J:It) (cap:List Nat) (tt:TT) (te:TE) (σ:St) (H1:Hp) (Q:VK) (D:Addr):Prop:=∃ W:Nat->Nat->List V->Hp->Prop,(∃ m,W 0 m [] (upd H1 D (.lst [])))/\∀ i m ys H2,W i m ys H2 ->
 H2 D=some (.lst ys)/\((J.stop i H2/\Q (.ref D) H2)\/(J.go i H2/\ys.length < sizeLine/\∀ x H3,J.yld i H2 x H3 ->
  tt (some x::cap.map fun k=>(σ[k]?).join) H3 fun b H4=>if b=true then te (some x::cap.map fun k=>(σ[k]?).join) H4 fun y H5=>H5 D=some (.lst ys)/\∃ m',m' < m/\W (i+1) m' (ys++[y]) (upd H5 D (.lst (ys++[y])))
   else ∃ m',m' < m/\W (i+1) m' ys H4))
def sF (wi:TI) (cap:List Nat) (tt:TT) (te:TE):TE:=fun σ H Q=>wi σ H fun J H1=>∀ D,H1 D=none->aP2 J cap tt te σ H1 Q D
structure CFree (X:Cx) (pins:List (Addr × Obj)) (H':Hp) (C:Addr):Prop where
 hn:H' C=none
 hL:C≠X.env.locals
 h1:X.s₀.heap.objs.size<=C
 h2:∀ x c,X.env.cells.lookup x=some c->c≠C
 h3:∀ p∈X.pn++pins,p.1≠C
theorem xJ {X:Cx}{x:Str}{px pos:Pos}{iter elt:Expr}{ifs:List Expr}{scope:Scope}{ns:List Str}{cap:List Nat}{wi:TI}{tt:TT}{te:TE} (hc:X.calm=true) (hkind:scope.kind = .function)
  (hnames:∀ y∈scope.names,y.2 = .local->scope.names.lookup y.1=some .local) (hx:Loc (relabel scope X.env) x) (hxf:scope.names.lookup x=some .cell\/(relabel scope X.env).names.lookup x=some .local)
  (hNc:(x::ns).Nodup) (hlen:cap.length=ns.length) (hcap:∀ (j k:Nat) (nm:Str),cap[j]?=some k->ns[j]?=some nm->X.N[k]?=some nm/\(X.env.scope.names.lookup nm=some .cell\/X.env.scope.names.lookup nm=some .free))
  (hns:∀ nm∈ns,(nm,NameKind.free)∈scope.names/\(nm,NameKind.cell) ∉ scope.names) (hnsk:∀ nm∈ns,scope.names.lookup nm=some .free) (hfree:∀ y∈scope.names,y.2 = .free->X.env.scope.names.lookup y.1=some .cell\/X.env.scope.names.lookup y.1=some .free)
  (hi:PI X (.Name x px) iter wi)
  (ht:∀ cs C s₀ H₀ fp,PIf (aX X scope cs C (x::ns) s₀ H₀ fp) ifs tt) (he:∀ cs C s₀ H₀ fp,PE (aX X scope cs C (x::ns) s₀ H₀ fp) elt te)
  (hs:∀ v,foldedSetIterable iter X.env v=pure v:=by intro _; rfl)
  {use:Option (Value->Sem Unit)}{Q':Value->Shared->Prop}{pins:List (Addr × Obj)}{s:Shared}{σ:St}{H:Hp}{Q:VK}{ip:Pos} (I:Inv X pins σ H s) (h:sF wi cap tt te σ H Q)
  (hfin:∀ (D C:Addr) (H':Hp) (s':Shared),Inv X pins σ H' s'->Q (.ref D) H'->(∃ m,s'.heap.Ns C m)->CFree X pins H' C->compPost (model X.prog X.w) X.A X.xe use Q' (.ref D) C (.ok .next) s') :
  wpAny (model X.prog X.w) X.A (comprehension (.ListComp elt [⟨.Name x px,iter,ifs,0⟩] scope pos) scope X.env ip (newList []) false (eval iter X.env) use) Q' X.xe s:=by
 obtain ⟨cl,ecl,cl1,cl2⟩:=qF (scope:=scope) (env:=X.env) fun n hn=>I.ok.has n (hfree (n, .free) hn rfl)
 refine wpAny_comprehension_free (use:=use) rfl hs ecl hkind hnames (thn (hi pins s σ H _ I h) fun xv s1 h1=>thn h1 fun itv s2 h2 => ?_)
 obtain ⟨it,fp,tn,J,H2,rfl,I2,T,st2,f2,q⟩:=h2
 have hD:H2 s2.heap.objs.size=none:=I2.fresh
 obtain ⟨W,⟨m0,w0⟩,step⟩:=q s2.heap.objs.size hD
 refine wpAny_newObj_type ?_ (by show 0<=sizeLine; exact Nat.zero_le _)
 have I3:Inv X pins σ (upd H2 s2.heap.objs.size (.lst [])) { s2 with heap:=s2.heap.push { cls := .type "list", data := .seq ([]:List Value).toArray } } :=
  I2.laid (t':=s2.toks) (fun b u e=>Heap.get?_push_of_some _ e) (Nat.le_refl _) ⟨Nat.zero_le _,[],0, .nil,Heap.get?_push_size _ rfl⟩
 have sz3:(s2.heap.push { cls := .type "list", data := .seq ([]:List Value).toArray }).objs.size=s2.heap.objs.size+1:=Heap.size_push ..
 have hfp3:∀ b∈fp,∀ o,(upd H2 s2.heap.objs.size (.lst [])) b≠some o:=fun b hb o z=>by
  obtain ⟨ob,e,_⟩:=T.obj 0 _ st2 b hb
  rw [bF (Nat.ne_of_lt (Heap.lt_size e)),(f2 b hb).1] at z
  cases z
 revert I3 sz3 w0 step hfp3
 generalize upd H2 s2.heap.objs.size (.lst [])=H3
 generalize hs3:({ s2 with heap:=s2.heap.push { cls := .type "list", data := .seq ([]:List Value).toArray } }:Shared)=s3
 intro step w0 I3 sz3 hfp3
 have st3:tn 0 s3.heap:=T.keep 0 _ _ st2 fun b _ o e=>by rw [<- hs3]; exact Heap.get?_push_of_some _ e
 have fpLt:∀ b∈fp,b < s3.heap.objs.size:=fun b hb=>by
  obtain ⟨o,e,_⟩:=T.obj 0 _ st3 b hb
  exact Heap.lt_size e
 refine tG ?_
 have new:CellsOk (pushCells (s3.heap.push { cls := .type "dict", data := .dict #[] }) scope.names) (s3.heap.objs.size+1) (cellsFrom (s3.heap.objs.size+1) scope.names []):=by
  have ok:=cellsFrom_ok scope.names (s3.heap.push { cls := .type "dict", data := .dict #[] }) (s3.heap.objs.size+1) [] ⟨fun _ _ hm=>(nomatch hm),List.Pairwise.nil⟩ (by rw [Heap.size_push]; exact Nat.le_refl _)
  rw [Heap.size_push] at ok
  exact ok
 have keep4:∀ b o,s3.heap.get? b=some o->(pushCells (s3.heap.push { cls := .type "dict", data := .dict #[] }) scope.names).get? b=some o:=fun b o e=>pushCells_keeps _ _ b o (Heap.get?_push_of_some _ e)
 have nsC:(pushCells (s3.heap.push { cls := .type "dict", data := .dict #[] }) scope.names).Ns s3.heap.objs.size (fun _=>none):=(Heap.Ns.new s3.heap (.type "dict")).keeps (pushCells_keeps _ _)
 have lk:∀ y c,(cellsFrom (s3.heap.objs.size+1) scope.names cl).lookup y=some c->((y,c)∈cellsFrom (s3.heap.objs.size+1) scope.names []/\(y,NameKind.cell)∈scope.names)\/(cl.lookup y=some c/\X.env.cells.lookup y=some c):=fun y c e=>by
  rw [fB,fY] at e
  cases z:(cellsFrom (s3.heap.objs.size+1) scope.names []).lookup y with
  | some c' =>
   rw [z] at e
   have e':c'=c:=Option.some.inj e
   subst e'
   have hm:=PySem.mem_of_lookup z
   rcases oK _ _ _ hm with q | q
   ·exact .inl ⟨hm,q⟩
   ·cases q
  | none=>rw [z] at e; exact .inr ⟨e,cl1 y c e⟩
 have oldLt:∀ y c,X.env.cells.lookup y=some c->c < s3.heap.objs.size:=fun y c e=>by
  obtain ⟨v,z⟩:=I3.cell y c e
  exact z.lt
 have hlk2:∀ nm∈ns,∃ c,(cellsFrom (s3.heap.objs.size+1) scope.names cl).lookup nm=some c/\X.env.cells.lookup nm=some c:=fun nm hnm=>by
  obtain ⟨h1,h2⟩:=hns nm hnm
  obtain ⟨c,e⟩:=cl2 nm h1
  refine ⟨c,?_,cl1 nm c e⟩
  rw [fB,fY]
  cases z:(cellsFrom (s3.heap.objs.size+1) scope.names []).lookup nm with
  | some c' =>
   rcases oK _ _ _ (PySem.mem_of_lookup z) with q | q
   ·exact absurd q h2
   ·cases q
  | none=>exact e
 show codeAny (model X.prog X.w) X.A (.compStart (.ListComp elt [⟨.Name x px,iter,ifs,0⟩] scope pos) 0 (.ref it) (.ref s2.heap.objs.size) (aX X scope (cellsFrom (s3.heap.objs.size+1) scope.names cl) s3.heap.objs.size (x::ns) s3 H3 fp).env) (compPost (model X.prog X.w) X.A X.xe use Q' (.ref s2.heap.objs.size) s3.heap.objs.size) { s3 with heap:=pushCells (s3.heap.push { cls := .type "dict", data := .dict #[] }) scope.names }
 have ht':=ht (cellsFrom (s3.heap.objs.size+1) scope.names cl) s3.heap.objs.size s3 H3 fp
 have he':=he (cellsFrom (s3.heap.objs.size+1) scope.names cl) s3.heap.objs.size s3 H3 fp
 have OK:(aX X scope (cellsFrom (s3.heap.objs.size+1) scope.names cl) s3.heap.objs.size (x::ns) s3 H3 fp).Ok:=by
  refine ⟨I3.ok.mod,hkind,I3.ok.glob,I3.ok.blt,Nat.le_refl _,fun y z c e1 e2 => ?_,fun y hy => ?_,fun y c hf e => ?_,fun _=>I3.ok.hd hc,I3.ok.frames, .inl rfl,fun b hb=>⟨Nat.ne_of_lt (fpLt b hb),fun y c e => ?_⟩,I3.bs,Nat.le_trans I3.ok.bsz I3.sz,fun b o e hb => ?_,fun b hb hm => ?_,I3.stack,I3.stkFree⟩
  ·rcases lk y c e1 with ⟨a1,_⟩ | ⟨a1,a2⟩ <;> rcases lk z c e2 with ⟨b1,_⟩ | ⟨b1,b2⟩
   ·exact name_of_addr new.apart a1 b1
   ·exact absurd (Nat.lt_of_lt_of_le (oldLt z c b2) (Nat.le_of_succ_le (new.empty y c a1).2)) (Nat.lt_irrefl _)
   ·exact absurd (Nat.lt_of_lt_of_le (oldLt y c a2) (Nat.le_of_succ_le (new.empty z c b1).2)) (Nat.lt_irrefl _)
   ·exact I3.ok.inj y z c a2 b2
  ·have key:scope.names.lookup y=some .cell\/scope.names.lookup y=some .free:=by
    rcases hy with hy | hy
    ·rcases dH (env:=X.env) (names:=scope.names) hy with q | ⟨q,_⟩
     ·exact .inl q
     ·exact .inr q
    ·rcases dH (env:=X.env) (names:=scope.names) hy with q | ⟨q,_⟩
     ·exact .inr q
     ·exact .inr q
   rcases key with q | q
   ·exact Option.isSome_iff_exists.mp (PySem.W.cellsFrom_some scope.names (s3.heap.objs.size+1) cl (.inl q))
   ·obtain ⟨c,e⟩:=cl2 y (PySem.mem_of_lookup q)
    exact Option.isSome_iff_exists.mp (PySem.W.cellsFrom_some scope.names (s3.heap.objs.size+1) cl (.inr (by rw [e]; rfl)))
  ·have hf':scope.names.lookup y=some .cell:=by
    have hf0:(scope.names.lookup y == some .cell)=true:=hf
    simpa using hf0
   have e':(cellsFrom (s3.heap.objs.size+1) scope.names cl).lookup y=some c:=e
   have e0:=Option.isSome_iff_exists.mp (PySem.W.cellsFrom_some scope.names (s3.heap.objs.size+1) [] (.inl hf'))
   obtain ⟨c',z⟩:=e0
   rw [fB,fY,z] at e'
   cases e'
   exact Nat.le_of_succ_le (new.empty y c (PySem.mem_of_lookup z)).2
  ·rcases lk y c e with ⟨a1,_⟩ | ⟨a1,a2⟩
   ·exact fun z=>absurd (Nat.lt_of_lt_of_le (fpLt b hb) (z ▸ Nat.le_of_succ_le (new.empty y c a1).2)) (Nat.lt_irrefl _)
   ·exact (f2 b hb).2.2.2.2.1 y c a2
  ·rcases (f2 b hb).2.2.2.1 with z | z
   ·exact I3.ok.noex b o e z
   ·exact absurd (Nat.lt_of_lt_of_le (Heap.lt_size (I3.ok.bs b o e).1) z) (Nat.lt_irrefl _)
  ·rcases List.mem_cons.mp (I3.stkSub b hm) with z | z
   ·exact (f2 b hb).2.1 z
   ·exact (f2 b hb).2.2.1 z
 have IY:Inv (aX X scope (cellsFrom (s3.heap.objs.size+1) scope.names cl) s3.heap.objs.size (x::ns) s3 H3 fp) [] (none::cap.map fun k=>(σ[k]?).join) H3 { s3 with heap:=pushCells (s3.heap.push { cls := .type "dict", data := .dict #[] }) scope.names }:=by
  refine ⟨OK,rfl,I3.bare,Un.kept keep4,⟨_,nsC,fun i nm v e1 e2 e3 => ?_⟩,fun y c e => ?_,I3.fresh,fun y c e => ?_,fun p hp=>absurd (show p∈([]:List (Addr × Obj)) from hp) (by simp),I3.hok.kept keep4,by simp [aX,hlen]⟩
  ·cases i with
   | zero=>cases e2
   | succ j =>
    have e1':ns[j]?=some nm:=e1
    have e2':(cap.map fun k=>(σ[k]?).join)[j]?=some (some v):=e2
    rw [List.getElem?_map] at e2'
    cases hk:cap[j]? with
    | none=>rw [hk] at e2'; cases e2'
    | some k =>
     rw [hk] at e2'
     have e2'':(σ[k]?).join=some v:=Option.some.inj e2'
     have e4:σ[k]?=some (some v):=by
      cases z:σ[k]? with
      | none=>rw [z] at e2''; cases e2''
      | some o=>rw [z] at e2''; exact congrArg some e2''
     obtain ⟨hN,hcell⟩:=hcap j k nm hk e1'
     obtain ⟨m,_,hl⟩:=I3.loc
     obtain ⟨u,r,l⟩:=hl k nm v hN e4 (.inr hcell)
     refine ⟨u,r,?_⟩
     rcases l with ⟨l1,_⟩ | ⟨_,c,ec,z⟩
     ·have l1':X.env.scope.names.lookup nm=some .local:=l1
      rcases hcell with q | q <;> rw [q] at l1' <;> cases l1'
     ·obtain ⟨c',g1,g2⟩:=hlk2 nm (zMo e1')
      rw [ec] at g2
      cases g2
      refine .inr ⟨?_,c,g1,?_⟩
      ·rcases e3 with q | q
       ·rcases dH (env:=X.env) (names:=scope.names) q with w1 | ⟨_,w1⟩
        ·exfalso
         have hmem:=(hns nm (zMo e1')).1
         have:=hnames (nm, .local) (PySem.mem_of_lookup w1) rfl
         -- a name has one kind in a scope: its cell is known,so it is not local here
         exact absurd (I3.ok.has nm (hfree (nm, .free) hmem rfl)) (fun _=>by
          have hk2:=(hnsk nm (zMo e1'))
          rw [w1] at hk2; cases hk2)
        ·cases w1
       ·exact q
      ·obtain ⟨o,ho,hd⟩:=z
       exact ⟨o,keep4 c o ho,hd⟩
  ·rcases lk y c e with ⟨a1,_⟩ | ⟨a1,a2⟩
   ·exact ⟨none,(new.empty y c a1).1⟩
   ·obtain ⟨v,o,ho,hd⟩:=I3.cell y c a2
    exact ⟨v,o,keep4 c o ho,hd⟩
  ·rcases lk y c e with ⟨a1,_⟩ | ⟨a1,a2⟩
   ·exact I3.hok.fresh (Nat.le_of_succ_le (new.empty y c a1).2)
   ·exact I3.freeC y c a2
 -- what is reached at the end
 have fin:∀ {σ':St}{H':Hp}{s':Shared},Inv (aX X scope (cellsFrom (s3.heap.objs.size+1) scope.names cl) s3.heap.objs.size (x::ns) s3 H3 fp) [] σ' H' s'->Q (.ref s2.heap.objs.size) H' ->
   compPost (model X.prog X.w) X.A X.xe use Q' (.ref s2.heap.objs.size) s3.heap.objs.size (.ok .next) s':=fun {σ' H' s'} J qd=>by
  obtain ⟨m',hn',_⟩:=J.loc
  have hCn:H' s3.heap.objs.size=none:=J.free
  refine hfin _ _ H' s' (I3.call' (ch:=fp) J.os J.base J.hok J.bare fun b hb=>⟨(f2 b hb).2.2.2.1,(f2 b hb).2.1,(f2 b hb).2.2.2.2.1,(f2 b hb).2.2.2.2.2⟩) qd ⟨m',hn'⟩ ⟨hCn,Nat.ne_of_gt I3.lt,I3.sz,fun y c e=>Nat.ne_of_lt (oldLt y c e),fun p hp=>Nat.ne_of_lt (Heap.lt_size (I3.pin p hp).1)⟩
 have fpY:∀ {H':Hp},(∀ b∈fp,H' b=none)->∀ b∈fp,kS (aX X scope (cellsFrom (s3.heap.objs.size+1) scope.names cl) s3.heap.objs.size (x::ns) s3 H3 fp) [] H' b:=fun {H'} hn b hb =>
  ⟨hn b hb,(OK.exf b hb).1,OK.exfs b hb, .inl hb,(OK.exf b hb).2,fun p hp=>absurd (show p∈([]:List (Addr × Obj)) from hp) (by simp)⟩
 have st4:tn 0 (pushCells (s3.heap.push { cls := .type "dict", data := .dict #[] }) scope.names):=T.keep 0 _ _ st3 fun b _ o e=>keep4 b o e
 have fr3:∀ b∈fp,H3 b=none:=fun b hb=>by
  cases z:H3 b with
  | none=>rfl
  | some o=>exact absurd rfl (fun _:(1:Nat)=1=>hfp3 b hb o z)
 have loop:codeAny (model X.prog X.w) X.A (.compLoop (.ListComp elt [⟨.Name x px,iter,ifs,0⟩] scope pos) 0 (.ref it) (.ref s2.heap.objs.size) (aX X scope (cellsFrom (s3.heap.objs.size+1) scope.names cl) s3.heap.objs.size (x::ns) s3 H3 fp).env) (compPost (model X.prog X.w) X.A X.xe use Q' (.ref s2.heap.objs.size) s3.heap.objs.size) { s3 with heap:=pushCells (s3.heap.push { cls := .type "dict", data := .dict #[] }) scope.names }:=by
  refine qY (fun n s'=>∃ i ys o H',Inv (aX X scope (cellsFrom (s3.heap.objs.size+1) scope.names cl) s3.heap.objs.size (x::ns) s3 H3 fp) [] (o::cap.map fun k=>(σ[k]?).join) H' s'/\tn i s'.heap/\(∀ b∈fp,H' b=none)/\W i n ys H') ?_ m0 ⟨0,[],none,H3,IY,st4,fr3,w0⟩
  rintro n s5 ⟨i,ys,o,H5,I5,st5,fr5,w5⟩
  obtain ⟨eD,alt⟩:=step i n ys H5 w5
  rcases alt with ⟨stop,qd⟩ | ⟨go,hz,turn⟩
  ·refine thn (T.done (aX X scope (cellsFrom (s3.heap.objs.size+1) scope.names cl) s3.heap.objs.size (x::ns) s3 H3 fp) rfl rfl rfl hc i [] s5 _ H5 (fun _ _=>False) I5 (fpY fr5) st5 stop) fun r s6 ⟨hr,I6⟩ => ?_
   subst hr
   exact fin I6 qd
  ·refine thn (T.item (aX X scope (cellsFrom (s3.heap.objs.size+1) scope.names cl) s3.heap.objs.size (x::ns) s3 H3 fp) rfl rfl rfl hc i [] s5 _ H5 (fun _ _=>False) I5 (fpY fr5) st5 go) fun r s6 ⟨u,hr,h6⟩ => ?_
   subst hr
   refine thn h6 fun _ s7 ⟨xv',H7,I7,r7,y7,st7,fr7⟩ => ?_
   have I7':=I7.pinned (fpY fr7) (T.obj _ _ st7)
   have hst:PG (aX X scope (cellsFrom (s3.heap.objs.size+1) scope.names cl) s3.heap.objs.size (x::ns) s3 H3 fp) (.Name x px) (pM 0):=sJ hNc rfl hx (hxf.elim (fun z => .inl (by show (scope.names.lookup x == some .cell)=true; rw [z]; rfl)) .inr)
   refine thn (hst _ s7 _ H7 xv' u (fun σ8 H8=>σ8=(some xv'::cap.map fun k=>(σ[k]?).join)/\H8=H7) I7' r7 ⟨rfl,rfl⟩) fun _ s8 ⟨σ8,H8,I8,e8,e8'⟩ => ?_
   subst e8 e8'
   have back:∀ {σ9:St}{H9:Hp}{s9:Shared},Inv (aX X scope (cellsFrom (s3.heap.objs.size+1) scope.names cl) s3.heap.objs.size (x::ns) s3 H3 fp) ([]++oP fp s7.heap) σ9 H9 s9->tn (i+1) s9.heap/\∀ b∈fp,H9 b=none:=fun {σ9 H9 s9} I9=>by
    refine ⟨T.keep _ _ _ st7 fun b hb o e=>(I9.pin (b,o) (List.mem_append_right _ (List.mem_append_right _ (iJ hb e)))).1,fun b hb => ?_⟩
    obtain ⟨o,e,d⟩:=T.obj _ _ st7 b hb
    exact (I9.pin (b,o) (List.mem_append_right _ (List.mem_append_right _ (iJ hb e)))).2.1
   refine thn (ht' _ s8 _ _ _ I8 (turn xv' _ y7)) fun b s9 ⟨H9,I9,q9⟩ => ?_
   cases b with
   | false =>
    rw [if_neg zBf] at q9 ⊢
    obtain ⟨m',hm,w9⟩:=q9
    obtain ⟨st9,fr9⟩:=back I9
    exact ⟨m',hm,i+1,ys,_,H9,I9.unpinned,st9,fr9,w9⟩
   | true =>
    rw [if_pos rfl] at q9 ⊢
    refine thn (he' _ s9 _ _ _ I9 q9) fun yv s10 ⟨y,H10,I10,r10,eD10,m',hm,w10⟩ => ?_
    refine thn (cT (X:=aX X scope (cellsFrom (s3.heap.objs.size+1) scope.names cl) s3.heap.objs.size (x::ns) s3 H3 fp) _ s10 _ H10 (.ref s2.heap.objs.size) [y] (.ref s2.heap.objs.size) [yv] (fun _ H11=>H11=upd H10 s2.heap.objs.size (.lst (ys++[y]))) I10 rfl (.cons r10 .nil) ⟨_,ys,y,rfl,rfl,eD10,hz,rfl⟩) fun _ s11 ⟨_,H11,I11,_,e11⟩ => ?_
    subst e11
    obtain ⟨st11,fr11⟩:=back I11
    exact ⟨m',hm,i+1,_,_,_,I11.unpinned,st11,fr11,w10⟩
 exact codeAny_compStart_list loop (T.self X.A 0 _ _ _ st4 loop)
theorem aLQ {X:Cx}{x:Str}{px pos:Pos}{iter elt:Expr}{ifs:List Expr}{scope:Scope}{ns:List Str}{cap:List Nat}{wi:TI}{tt:TT}{te:TE} (hc:X.calm=true) (hkind:scope.kind = .function)
  (hnames:∀ y∈scope.names,y.2 = .local->scope.names.lookup y.1=some .local) (hx:Loc (relabel scope X.env) x) (hxf:scope.names.lookup x=some .cell\/(relabel scope X.env).names.lookup x=some .local)
  (hNc:(x::ns).Nodup) (hlen:cap.length=ns.length) (hcap:∀ (j k:Nat) (nm:Str),cap[j]?=some k->ns[j]?=some nm->X.N[k]?=some nm/\(X.env.scope.names.lookup nm=some .cell\/X.env.scope.names.lookup nm=some .free))
  (hns:∀ nm∈ns,(nm,NameKind.free)∈scope.names/\(nm,NameKind.cell) ∉ scope.names) (hnsk:∀ nm∈ns,scope.names.lookup nm=some .free) (hfree:∀ y∈scope.names,y.2 = .free->X.env.scope.names.lookup y.1=some .cell\/X.env.scope.names.lookup y.1=some .free)
  (hi:PI X (.Name x px) iter wi)
  (ht:∀ cs C s₀ H₀ fp,PIf (aX X scope cs C (x::ns) s₀ H₀ fp) ifs tt) (he:∀ cs C s₀ H₀ fp,PE (aX X scope cs C (x::ns) s₀ H₀ fp) elt te)
  (hs:∀ v,foldedSetIterable iter X.env v=pure v:=by intro _; rfl) :
  PE X (.ListComp elt [⟨.Name x px,iter,ifs,0⟩] scope pos) (sF wi cap tt te):=by
 intro pins s σ H Q I h
 rw [eval_ListComp]
 refine xJ hc hkind hnames hx hxf hNc hlen hcap hns hnsk hfree hi ht he hs (use:=none) I h fun D C H' s' J q ⟨m,hn⟩ cf=>⟨m,hn,fun h' hs' => ?_⟩
 exact ⟨.ref D,H',J.turned (t':=s'.toks) (it:=C) (fun b o hb e=>(hs'.2 b hb).trans e) cf.hn cf.hL (.inr cf.h1) cf.h2 cf.h3,rfl,q⟩
theorem aD0 {y:Str}{py spos:Pos}{iy:Nat}{X:Cx}{x:Str}{px pos:Pos}{iter elt:Expr}{ifs:List Expr}{scope:Scope}{ns:List Str}{cap:List Nat}{wi:TI}{tt:TT}{te:TE} (hN:X.N.Nodup) (hiy:X.N[iy]?=some y) (hyl:X.env.scope.names.lookup y=some .local) (hc:X.calm=true) (hkind:scope.kind = .function)
  (hnames:∀ y∈scope.names,y.2 = .local->scope.names.lookup y.1=some .local) (hx:Loc (relabel scope X.env) x) (hxf:scope.names.lookup x=some .cell\/(relabel scope X.env).names.lookup x=some .local)
  (hNc:(x::ns).Nodup) (hlen:cap.length=ns.length) (hcap:∀ (j k:Nat) (nm:Str),cap[j]?=some k->ns[j]?=some nm->X.N[k]?=some nm/\(X.env.scope.names.lookup nm=some .cell\/X.env.scope.names.lookup nm=some .free))
  (hns:∀ nm∈ns,(nm,NameKind.free)∈scope.names/\(nm,NameKind.cell) ∉ scope.names) (hnsk:∀ nm∈ns,scope.names.lookup nm=some .free) (hfree:∀ y∈scope.names,y.2 = .free->X.env.scope.names.lookup y.1=some .cell\/X.env.scope.names.lookup y.1=some .free)
  (hi:PI X (.Name x px) iter wi)
  (ht:∀ cs C s₀ H₀ fp,PIf (aX X scope cs C (x::ns) s₀ H₀ fp) ifs tt) (he:∀ cs C s₀ H₀ fp,PE (aX X scope cs C (x::ns) s₀ H₀ fp) elt te)
  (hs:∀ v,foldedSetIterable iter X.env v=pure v:=by intro _; rfl)
  (hsw:swapsWith (.ListComp elt [⟨.Name x px,iter,ifs,0⟩] scope pos) (some (.Name y py)) spos.line X.env=pure true:=by rfl) :
  PS X (.Assign [.Name y py] (.ListComp elt [⟨.Name x px,iter,ifs,0⟩] scope pos) spos) (aDH (sF wi cap tt te) (pM iy)):=by
 intro pins s σ H D I h
 rw [exec_Assign_Name_used _ _ _ _ hsw]
 refine wpAny_bind (wpAny_standAt (wpAny_bind ?_))
 show wpAny _ X.A (do let _ <- comprehension (.ListComp elt [⟨.Name x px,iter,ifs,0⟩] scope pos) scope X.env _ (newList []) false (eval iter X.env) (some (assign (.Name y py) X.env))) _ _ s
 refine wpAny_bind (wpAny_mono (xJ hc hkind hnames hx hxf hNc hlen hcap hns hnsk hfree hi ht he hs (use:=some (assign (.Name y py) X.env)) (Q':=fun _ s'=>SP X pins D .next s') I h fun L C H' s' J q ⟨m,hn⟩ cf => ?_) (fun _ s' hq=>wpAny_pure (wpAny_pure hq)) fun _ _ e=>e)
 refine wpAny_assign_Name (xQ J hN hiy (.inl hyl) (v := .ref L) rfl (fun s2 J2 ⟨a,sb,ha⟩ => ?_) (.inr hyl))
 have hCa:C≠a:=by
  rcases ha with rfl | ha
  ·exact cf.hL
  ·exact Ne.symm (cf.h2 y a ha)
 refine ⟨m,hn.sameBut sb hCa,fun h' hs' => ?_⟩
 exact ⟨_,H',J2.turned (t':=s2.toks) (it:=C) (fun b o hb e=>(hs'.2 b hb).trans e) cf.hn cf.hL (.inr cf.h1) cf.h2 cf.h3,q⟩
def Its (x:Str):It:=⟨fun i _=>i < x.cps.size,fun i H v H'=>H'=H/\∃ c,x.cps[i]?=some c/\v = .str ⟨#[c]⟩,fun i _=>x.cps.size<=i⟩
theorem zH {P:Program}{w:World}{K:PySem.W.Frag}{tg:Expr} (x:Str) (t:Tok) (it:Addr) (b:Bool):Turn P w K tg (Its x) [it] it (fun i h=>h.IsStrIter it (if b then "str_ascii_iterator" else "str_iterator") x t i) where
 mem:=by simp
 obj:=fun i h st b hb=>by
  have e:b=it:=by simpa using hb
  subst e
  obtain ⟨o,e,c,d⟩:=st
  exact ⟨o,e,fun v z=>by rw [d] at z; cases z⟩
 keep:=fun i h h' st k=>by
  obtain ⟨o,e,r⟩:=st
  exact ⟨o,k it (by simp) o e,r⟩
 item:=by
  intro X hP hw hK hc i pins s σ H E I hf st hg
  subst hP hw hK
  obtain ⟨f0,f1,f2,f3,f4,f5⟩:=hf it (by simp)
  have hg':i < x.cps.size:=hg
  cases b with
  | true =>
   refine wpAny_pyNext_ascii_item st (c:=x.cps[i]) (by simp [hg']) fun h' st' sb => ?_
   have I1:Inv X pins σ H { s with heap:=h',toks:=s.toks+1 }:=I.turned (t':=s.toks+1) (fun b o hb e=>(sb.2 b hb).trans e) f0 f1 f3 f4 f5
   obtain ⟨o,e,c,d⟩:=id st'
   exact ⟨_,rfl,u9 (s:={ s with heap:=h',toks:=s.toks+1 }) e c d (by decide) ⟨.str ⟨#[x.cps[i]]⟩,H,I1,⟨s.toks,rfl⟩,⟨rfl,_,by simp [hg'],rfl⟩,st',fun b hb=>(hf b hb).1⟩⟩
  | false =>
   refine wpAny_pyNext_wide_item st (c:=x.cps[i]) (by simp [hg']) fun h' st' sb => ?_
   have I1:Inv X pins σ H { s with heap:=h',toks:=s.toks+1 }:=I.turned (t':=s.toks+1) (fun b o hb e=>(sb.2 b hb).trans e) f0 f1 f3 f4 f5
   obtain ⟨o,e,c,d⟩:=id st'
   exact ⟨_,rfl,u9 (s:={ s with heap:=h',toks:=s.toks+1 }) e c d (by decide) ⟨.str ⟨#[x.cps[i]]⟩,H,I1,⟨s.toks,rfl⟩,⟨rfl,_,by simp [hg'],rfl⟩,st',fun b hb=>(hf b hb).1⟩⟩
 done:=by
  intro X hP hw hK hc i pins s σ H E I hf st hg
  subst hP hw hK
  obtain ⟨f0,f1,f2,f3,f4,f5⟩:=hf it (by simp)
  have hg':x.cps.size<=i:=hg
  cases b with
  | true=>exact wpAny_pyNext_ascii_end (I.ok.hd hc) st (by simp [hg']) fun h' eb=>⟨rfl,I.turned (t':=s.toks) (fun b o hb e=>eb b o hb e) f0 f1 f3 f4 f5⟩
  | false=>exact wpAny_pyNext_wide_end (I.ok.hd hc) st (by simp [hg']) fun h' eb=>⟨rfl,I.turned (t':=s.toks) (fun b o hb e=>eb b o hb e) f0 f1 f3 f4 f5⟩
 self:=fun _ _ _ _ _ st h=>by
  cases b with
  | true=>exact wpAny_pyIter_striter_ascii st h
  | false=>exact wpAny_pyIter_striter_wide st h
def iStr (tl:TE):TI:=fun σ H R=>tl σ H fun x H1=>∃ z,x = .str z/\R (Its z) H1
theorem aPS {X:Cx}{tg l:Expr}{tl:TE} (hl:PE X l tl):PI X tg l (iStr tl):=by
 intro pins s σ H R I h
 refine thn (hl pins s σ H _ I h) fun v s1 ⟨x,H1,I1,r1,q1⟩ => ?_
 obtain ⟨z,e,q⟩:=q1
 subst e
 obtain ⟨t,rfl⟩:=r1
 have fp:∀ b∈[s1.heap.objs.size],kS X pins H1 b:=fun b hb=>by
  have e:b=s1.heap.objs.size:=by simpa using hb
  subst e
  exact I1.fpOk (Nat.le_refl _) (I1.hok.fresh (Nat.le_refl _))
 cases ha:z.cps.all (· < 128)
 ·exact wpAny_pyIter_wide ha ⟨s1.heap.objs.size,[s1.heap.objs.size],_,_,H1,rfl,I1.kept (t':=s1.toks) fun b o e=>Heap.get?_push_of_some _ e,zH z t _ false,⟨_,Heap.get?_push_size _ rfl,rfl,rfl⟩,fp,q⟩
 ·exact wpAny_pyIter_ascii ha ⟨s1.heap.objs.size,[s1.heap.objs.size],_,_,H1,rfl,I1.kept (t':=s1.toks) fun b o e=>Heap.get?_push_of_some _ e,zH z t _ true,⟨_,Heap.get?_push_size _ rfl,rfl,rfl⟩,fp,q⟩
structure Yields (J:It) (xs:List V) (Kp:Hp->Prop):Prop where
 go:∀ i H,Kp H->i < xs.length->J.go i H
 yld:∀ i H x H',Kp H->J.yld i H x H'->i < xs.length->H'=H/\xs[i]?=some x
 stop:∀ i H,Kp H->xs.length<=i->J.stop i H
theorem wF {K:PySem.W.Frag}{a:Addr}{xs:List V}:Yields (Itl K a) xs (fun H=>SqL K H a xs) where
 go:=fun i H k h=>⟨xs,xs[i],k,by simp [h]⟩
 yld:=fun i H x H' k y _=>⟨y.1,y.2 xs k⟩
 stop:=fun i H k h=>⟨xs,k,h⟩
theorem zW {K:PySem.W.Frag}{a:Addr}{xs:List V}:Yields (Itt K a) xs (fun H=>SqT K H a xs) where
 go:=fun i H k h=>⟨xs,xs[i],k,by simp [h]⟩
 yld:=fun i H x H' k y _=>⟨y.1,y.2 xs k⟩
 stop:=fun i H k h=>⟨xs,k,h⟩
def Butd (D:Addr) (H H':Hp):Prop:=∀ b o,b≠D->H b=some o->H' b=some o
theorem Butd.upd {D:Addr}{H:Hp}{o:HO}:Butd D H (upd H D o):=fun b u n e=>by rw [bF n]; exact e
theorem Same.but {D:Addr}{H1 H H':Hp} (s:Same H1 H) (n:H1 D=none) (b:Butd D H H'):Same H1 H':=fun c o e=>b c o (bT e n) (s c o e)
theorem xP {D:Addr}{H:Hp}{o:HO} (n:H D=none):Same H (upd H D o):=(Same.refl H).but n Butd.upd
theorem take_snoc {α:Type}{xs:List α}{i:Nat}{x:α} (h:xs[i]?=some x):xs.take (i+1)=xs.take i++[x]:=by
 rw [List.take_succ,h]; rfl
end L2
namespace L2
open PySem PySem.Spec PyProof.Rows
section
variable {X:Cx}
theorem mX {bs:List Bool}{its:List Value} (r:Vals (bs.map V.bl) its) {i:Nat}{v:Value} (e:its.toArray[i]?=some v):v = .bool (bs.getD i false):=by
 have e':its[i]?=some v:=by simpa using e
 have hl:=r.length
 rw [zLm] at hl
 have hi:i < bs.length:=by
  have:=(zGs e').1
  omega
 have hx:(bs.map V.bl)[i]?=some (.bl bs[i]):=by simp [hi]
 obtain ⟨u,hu,ru⟩:=r.get hx
 rw [e'] at hu
 cases hu
 have:v = .bool bs[i]:=ru
 rw [this]
 simp [List.getD,hi]
theorem all_range (bs:List Bool):((List.range bs.length).all fun i=>bs.getD i false)=bs.all id:=by
 induction bs with
 | nil=>rfl
 | cons b r ih =>
  rw [List.length_cons,List.range_succ_eq_map,List.all_cons,List.all_map,List.all_cons]
  rw [<- ih]
  rfl
theorem any_range (bs:List Bool):((List.range bs.length).any fun i=>bs.getD i false)=bs.any id:=by
 induction bs with
 | nil=>rfl
 | cons b r ih =>
  rw [List.length_cons,List.range_succ_eq_map,List.any_cons,List.any_map,List.any_cons]
  rw [<- ih]
  rfl
def aJ3 (K:PySem.W.Frag) (g:List Bool->Bool):List V->Hp->VK->Prop:=fun xs H Q=>∃ p bs,xs=[.ref p]/\(SqL K H p (bs.map V.bl)\/SqT K H p (bs.map V.bl))/\Q (.bl (g bs)) H
theorem jV (hc:X.calm=true):iE X (.builtin "all") (aJ3 X.K fun bs=>bs.all id):=by
 intro pins s σ H xs us Q I r h
 obtain ⟨p,bs,rfl,hq,q⟩:=h
 obtain ⟨u,rfl,rx⟩:=vals1 r
 cases rx
 refine call_all_walk ?_
 rcases hq with hq | hq
 ·obtain ⟨its,r',pl,hz⟩:=I.list hq
  have hlen:=r'.length
  rw [zLm] at hlen
  refine wpAny_pyIter_list pl.isList ?_
  have hne:p≠s.heap.objs.size:=Nat.ne_of_lt (Heap.lt_size pl.isList.choose_spec.1)
  refine ⟨_,_,_,_,_,_,fun i=>bs.getD i false,rfl,Walks.list (show X.A.in1.handled=none from I.ok.hd hc) s.heap.objs.size p hne its.toArray,⟨⟨_,Heap.get?_push_size _ rfl,rfl,rfl⟩,?_⟩,?_,?_⟩
  ·obtain ⟨o,e,z⟩:=pl.isList
   exact ⟨o,Heap.get?_push_of_some _ e,z⟩
  ·intro i v s' Q' E' hv hQ'
   rw [mX r' hv]
   exact wpAny_truthy_bool hQ'
  ·intro h' tk k
   refine ⟨.bl (bs.all id),H,?_,?_,q⟩
   ·exact I.kept (t':=tk) fun b o e=>k b o (by simp; exact Nat.ne_of_lt (Heap.lt_size e)) (Heap.get?_push_of_some _ e)
   ·show Value.bool _=Value.bool _
    rw [<- all_range bs,List.size_toArray,<- hlen]
 ·obtain ⟨its,r',pl,hz⟩:=I.tuple hq
  have hlen:=r'.length
  rw [zLm] at hlen
  have pl':s.heap.IsTuple p its.toArray:=pl
  refine wpAny_pyIter_tuple pl' ?_
  have hne:p≠s.heap.objs.size:=Nat.ne_of_lt (Heap.lt_size pl'.choose_spec.1)
  refine ⟨_,_,_,_,_,_,fun i=>bs.getD i false,rfl,Walks.tuple (show X.A.in1.handled=none from I.ok.hd hc) s.heap.objs.size p hne its.toArray,⟨⟨_,Heap.get?_push_size _ rfl,rfl,rfl⟩,?_⟩,?_,?_⟩
  ·obtain ⟨o,e,z⟩:=pl'
   exact ⟨o,Heap.get?_push_of_some _ e,z⟩
  ·intro i v s' Q' E' hv hQ'
   rw [mX r' hv]
   exact wpAny_truthy_bool hQ'
  ·intro h' tk k
   refine ⟨.bl (bs.all id),H,?_,?_,q⟩
   ·exact I.kept (t':=tk) fun b o e=>k b o (by simp; exact Nat.ne_of_lt (Heap.lt_size e)) (Heap.get?_push_of_some _ e)
   ·show Value.bool _=Value.bool _
    rw [<- all_range bs,List.size_toArray,<- hlen]
theorem aH5 (hc:X.calm=true):iE X (.builtin "any") (aJ3 X.K fun bs=>bs.any id):=by
 intro pins s σ H xs us Q I r h
 obtain ⟨p,bs,rfl,hq,q⟩:=h
 obtain ⟨u,rfl,rx⟩:=vals1 r
 cases rx
 refine call_any_walk ?_
 rcases hq with hq | hq
 ·obtain ⟨its,r',pl,hz⟩:=I.list hq
  have hlen:=r'.length
  rw [zLm] at hlen
  refine wpAny_pyIter_list pl.isList ?_
  have hne:p≠s.heap.objs.size:=Nat.ne_of_lt (Heap.lt_size pl.isList.choose_spec.1)
  refine ⟨_,_,_,_,_,_,fun i=>bs.getD i false,rfl,Walks.list (show X.A.in1.handled=none from I.ok.hd hc) s.heap.objs.size p hne its.toArray,⟨⟨_,Heap.get?_push_size _ rfl,rfl,rfl⟩,?_⟩,?_,?_⟩
  ·obtain ⟨o,e,z⟩:=pl.isList
   exact ⟨o,Heap.get?_push_of_some _ e,z⟩
  ·intro i v s' Q' E' hv hQ'
   rw [mX r' hv]
   exact wpAny_truthy_bool hQ'
  ·intro h' tk k
   refine ⟨.bl (bs.any id),H,?_,?_,q⟩
   ·exact I.kept (t':=tk) fun b o e=>k b o (by simp; exact Nat.ne_of_lt (Heap.lt_size e)) (Heap.get?_push_of_some _ e)
   ·show Value.bool _=Value.bool _
    rw [<- any_range bs,List.size_toArray,<- hlen]
 ·obtain ⟨its,r',pl,hz⟩:=I.tuple hq
  have hlen:=r'.length
  rw [zLm] at hlen
  have pl':s.heap.IsTuple p its.toArray:=pl
  refine wpAny_pyIter_tuple pl' ?_
  have hne:p≠s.heap.objs.size:=Nat.ne_of_lt (Heap.lt_size pl'.choose_spec.1)
  refine ⟨_,_,_,_,_,_,fun i=>bs.getD i false,rfl,Walks.tuple (show X.A.in1.handled=none from I.ok.hd hc) s.heap.objs.size p hne its.toArray,⟨⟨_,Heap.get?_push_size _ rfl,rfl,rfl⟩,?_⟩,?_,?_⟩
  ·obtain ⟨o,e,z⟩:=pl'
   exact ⟨o,Heap.get?_push_of_some _ e,z⟩
  ·intro i v s' Q' E' hv hQ'
   rw [mX r' hv]
   exact wpAny_truthy_bool hQ'
  ·intro h' tk k
   refine ⟨.bl (bs.any id),H,?_,?_,q⟩
   ·exact I.kept (t':=tk) fun b o e=>k b o (by simp; exact Nat.ne_of_lt (Heap.lt_size e)) (Heap.get?_push_of_some _ e)
   ·show Value.bool _=Value.bool _
    rw [<- any_range bs,List.size_toArray,<- hlen]
theorem vZ:∀ {ys:List Str}{its:List Value},Vals (ys.map V.str) its->StrsAre its ys
 | [],_,r=>by cases r; exact .nil
 | y::ys,_,r=>by
  cases r with
  | cons a b =>
   obtain ⟨t,rfl⟩:=a
   exact .cons y t (vZ b)
def rJoin (K:PySem.W.Frag):V->List V->Hp->VK->Prop:=fun x vs H Q=>∃ sep p ys,x = .str sep/\vs=[.ref p]/\(SqL K H p (ys.map V.str)\/SqT K H p (ys.map V.str))/\sep.length<=16/\(ys.map (·.length)).sum+ys.length<=1048576/\Q (.str (Txt.join sep ys)) H
theorem rO:MtR X "str.join" (rJoin X.K):=by
 intro pins s σ H x vs u us Q I rx rv h
 obtain ⟨sep,p,ys,rfl,rfl,hq,h1,h2,q⟩:=h
 obtain ⟨v,rfl,ry⟩:=vals1 rv
 cases ry
 obtain ⟨t,rfl⟩:=rx
 rcases hq with hq | hq
 ·obtain ⟨its,r',pl,hz⟩:=I.list hq
  exact join_listW pl.isList (vZ r') h1 h2 fun t' k=>⟨.str _,H,I.tok k,⟨t',rfl⟩,q⟩
 ·obtain ⟨its,r',pl,hz⟩:=I.tuple hq
  exact join_tupleW pl (vZ r') h1 h2 fun t' k=>⟨.str _,H,I.tok k,⟨t',rfl⟩,q⟩
def mD (x:Str) (n:Nat):Str:=⟨(List.replicate n x.cps).foldl (· ++ ·) #[]⟩
theorem aAL (a:Array Nat):∀ (n:Nat) (acc:Array Nat),((List.replicate n a).foldl (· ++ ·) acc).toList=acc.toList++(List.replicate n a.toList).flatten
 | 0,acc=>by simp
 | n+1,acc=>by
  rw [List.replicate_succ,List.foldl_cons,aAL a n,List.replicate_succ,List.flatten_cons]
  simp
theorem nS (x:Str) (n:Nat):(mD x n).cps.toList=(List.replicate n x.cps.toList).flatten:=by
 unfold mD
 rw [aAL]; rfl
theorem aHQ (x:Str) (n:Nat):(mD x n).length=x.length * n:=by
 show (mD x n).cps.size=x.cps.size * n
 rw [<- Array.length_toList,nS,<- Array.length_toList]
 generalize x.cps.toList=l
 induction n with
 | zero=>simp
 | succ n ih=>rw [List.replicate_succ,List.flatten_cons,List.length_append,ih,Nat.mul_succ,Nat.add_comm]
theorem lV {x y:Str} (h:x.cps.toList=y.cps.toList):x=y:=by
 cases x; cases y
 simp only [Str.mk.injEq]
 exact Array.toList_inj.mp h
theorem aI2 (x:Str):mD x 1=x:=lV (by rw [nS]; simp)
theorem aIS (x:Str) (n:Nat) (h:x.length=0):mD x n=x:=by
 have hx:x.cps.toList=[]:=List.eq_nil_of_length_eq_zero (by rw [Array.length_toList]; exact h)
 apply lV
 rw [nS,hx]
 induction n with
 | zero=>rfl
 | succ n ih=>rw [List.replicate_succ,List.flatten_cons,ih]; rfl
def aKA:R2:=fun x y H Q=>∃ z n,x = .str z/\y = .int n /\ -(2 ^ 40)<=n/\n < 2 ^ 40/\z.length * n.toNat<=sizeLine/\Q (.str (mD z n.toNat)) H
theorem aB9:OpR X (binaryOp .Mult) aKA:=by
 intro pins s σ H x y u v Q I rx ry h
 obtain ⟨z,n,rfl,rfl,h1,h2,h3,q⟩:=h
 obtain ⟨t,rfl⟩:=rx
 obtain ⟨t',rfl⟩:=ry
 refine P.mul_str (by rw [decide_eq_false (by omega),decide_eq_false (by omega)]; rfl) (fun a b => ?_) (fun a b => ?_) ?_
 ·have:(n.toNat:Int)=n:=by omega
  have h4:((z.length:Int)) * n<=(sizeLine:Nat):=by rw [<- this]; exact_mod_cast h3
  intro c
  have hn:0 < n:=by omega
  have:=(Int.ediv_lt_iff_lt_mul hn).mp c
  have h5:((sizeLine:Nat):Int) < 2 ^ 62:=by decide
  omega
 ·exact aIE h3
 ·by_cases c1:n < 1
  ·rw [if_pos c1]
   rw [show n.toNat=0 by omega] at q
   exact ⟨by decide, .str _,H,I.tok _,⟨_,rfl⟩,q⟩
  ·rw [if_neg c1]
   by_cases c2:(n == 1 || z.length == 0)=true
   ·rw [if_pos c2]
    refine ⟨.str z,H,I,⟨_,rfl⟩,?_⟩
    have e:mD z n.toNat=z:=by
     rw [Bool.or_eq_true,beq_iff_eq,beq_iff_eq] at c2
     rcases c2 with c | c
     ·rw [c]; exact aI2 z
     ·exact aIS z _ c
    rw [e] at q; exact q
   ·rw [if_neg c2]
    refine ⟨?_, .str _,H,I.tok _,⟨_,rfl⟩,q⟩
    show (mD z n.toNat).length<=sizeLine
    rw [aHQ]; exact h3
end
end L2
namespace L2
open PySem PySem.Spec PyProof.Rows
def jI (sc scope:Scope) (x:Str) (ns:List Str) (cap:List Nat) (N:List Str):Bool :=
 decide (scope.kind = .function) && scope.names.all (fun y=>decide (y.2 ≠ .local) || decide (scope.names.lookup y.1=some .local)) && (decide (scope.names.lookup x=some .local) || decide (scope.names.lookup x=some .cell)) &&
 decide ((x::ns).Nodup) && decide (cap.length=ns.length) &&
 (List.range cap.length).all (fun j=>match cap[j]?,ns[j]? with
  | some k,some nm=>decide (N[k]?=some nm) && (decide (sc.names.lookup nm=some .cell) || decide (sc.names.lookup nm=some .free))
  | _,_=>true) &&
 ns.all (fun nm=>decide ((nm,NameKind.free)∈scope.names) && decide ((nm,NameKind.cell) ∉ scope.names) && decide (scope.names.lookup nm=some .free)) &&
 scope.names.all (fun y=>decide (y.2 ≠ .free) || (decide (sc.names.lookup y.1=some .cell) || decide (sc.names.lookup y.1=some .free)))
theorem eO {env:Env}:∀ {names:List (Str × NameKind)}{x:Str},names.lookup x=some .cell ->
  (names.map fun (n,k)=>if (k == NameKind.free && env.scope.kind == .function && env.kindOf n == some .cell) then (n,NameKind.cell) else (n,k)).lookup x=some .cell
 | [],_,h=>by simp at h
 | (n,k)::r,x,h=>by
  have ih := @eO env r x
  show List.lookup x ((if (k == NameKind.free && env.scope.kind == .function && env.kindOf n == some .cell)=true then (n,NameKind.cell) else (n,k))::_)=_
  rw [List.lookup_cons] at h
  split
  ·rw [List.lookup_cons]
   cases hx:x == n with
   | true=>rfl
   | false=>rw [hx] at h; exact ih h
  ·rw [List.lookup_cons]
   cases hx:x == n with
   | true=>rw [hx] at h; exact h
   | false=>rw [hx] at h; exact ih h
structure CompOk (sc scope:Scope) (x:Str) (ns:List Str) (cap:List Nat) (N:List Str):Prop where
 hkind:scope.kind = .function
 hnames:∀ y∈scope.names,y.2 = .local->scope.names.lookup y.1=some .local
 hx:scope.names.lookup x=some .local\/scope.names.lookup x=some .cell
 hNc:(x::ns).Nodup
 hlen:cap.length=ns.length
 hcap:∀ (j k:Nat) (nm:Str),cap[j]?=some k->ns[j]?=some nm->N[k]?=some nm/\(sc.names.lookup nm=some .cell\/sc.names.lookup nm=some .free)
 hns:∀ nm∈ns,(nm,NameKind.free)∈scope.names/\(nm,NameKind.cell) ∉ scope.names
 hnsk:∀ nm∈ns,scope.names.lookup nm=some .free
 hfree:∀ y∈scope.names,y.2 = .free->sc.names.lookup y.1=some .cell\/sc.names.lookup y.1=some .free
theorem nP {sc scope:Scope}{x:Str}{ns:List Str}{cap:List Nat}{N:List Str} (h:jI sc scope x ns cap N=true):CompOk sc scope x ns cap N:=by
 unfold jI at h
 simp only [Bool.and_eq_true,Bool.or_eq_true,decide_eq_true_eq,List.all_eq_true] at h
 obtain ⟨⟨⟨⟨⟨⟨⟨h1,h2⟩,h3⟩,h4⟩,h5⟩,h6⟩,h7⟩,h8⟩:=h
 refine ⟨h1,fun y hy e=>(h2 y hy).resolve_left (fun z=>z e),h3,h4,h5,fun j k nm e1 e2 => ?_,fun nm hm=>(h7 nm hm).1,fun nm hm=>(h7 nm hm).2,fun y hy e=>(h8 y hy).resolve_left (fun z=>z e)⟩
 have hj:j < cap.length:=(zGs e1).1
 have:=h6 j (List.mem_range.mpr hj)
 rw [e1,e2] at this
 simpa using this
theorem aJW {X:Cx}{x:Str}{px pos:Pos}{iter elt:Expr}{ifs:List Expr}{scope sc:Scope}{N:List Str} (ns:List Str) (cap:List Nat) {wi:TI}{tt:TT}{te:TE} (hc:X.calm=true) (hsc:X.env.scope=sc) (hN:X.N=N) (ok:jI sc scope x ns cap N=true)
  (hi:PI X (.Name x px) iter wi)
  (ht:∀ cs C s₀ H₀ fp,PIf (aX X scope cs C (x::ns) s₀ H₀ fp) ifs tt) (he:∀ cs C s₀ H₀ fp,PE (aX X scope cs C (x::ns) s₀ H₀ fp) elt te)
  (hs:∀ v,foldedSetIterable iter X.env v=pure v:=by intro _; rfl) :
  PE X (.ListComp elt [⟨.Name x px,iter,ifs,0⟩] scope pos) (sF wi cap tt te):=by
 subst hsc hN
 have k:=nP ok
 refine aLQ hc k.hkind k.hnames ?_ ?_ k.hNc k.hlen k.hcap k.hns k.hnsk k.hfree hi ht he hs
 ·rcases k.hx with z | z
  ·exact .inl (lookup_relabel_local z)
  ·exact .inr (eO z)
 ·rcases k.hx with z | z
  ·exact .inr (lookup_relabel_local z)
  ·exact .inl z
theorem aBI {y:Str}{py spos:Pos} (iy:Nat) {X:Cx}{x:Str}{px pos:Pos}{iter elt:Expr}{ifs:List Expr}{scope sc:Scope}{N:List Str} (ns:List Str) (cap:List Nat) {wi:TI}{tt:TT}{te:TE} (hNd:N.Nodup) (hiy:N[iy]?=some y) (hyl:sc.names.lookup y=some .local) (hc:X.calm=true) (hsc:X.env.scope=sc) (hN:X.N=N) (ok:jI sc scope x ns cap N=true)
  (hi:PI X (.Name x px) iter wi)
  (ht:∀ cs C s₀ H₀ fp,PIf (aX X scope cs C (x::ns) s₀ H₀ fp) ifs tt) (he:∀ cs C s₀ H₀ fp,PE (aX X scope cs C (x::ns) s₀ H₀ fp) elt te)
  (hs:∀ v,foldedSetIterable iter X.env v=pure v:=by intro _; rfl)
  (hsw:swapsWith (.ListComp elt [⟨.Name x px,iter,ifs,0⟩] scope pos) (some (.Name y py)) spos.line X.env=pure true:=by rfl) :
  PS X (.Assign [.Name y py] (.ListComp elt [⟨.Name x px,iter,ifs,0⟩] scope pos) spos) (aDH (sF wi cap tt te) (pM iy)):=by
 subst hsc hN
 have k:=nP ok
 refine aD0 hNd hiy hyl hc k.hkind k.hnames ?_ ?_ k.hNc k.hlen k.hcap k.hns k.hnsk k.hfree hi ht he hs hsw
 ·rcases k.hx with z | z
  ·exact .inl (lookup_relabel_local z)
  ·exact .inr (eO z)
 ·rcases k.hx with z | z
  ·exact .inr (lookup_relabel_local z)
  ·exact .inl z
end L2
namespace R
open PySem L2
theorem BS:bootBuiltins "str" = some (.type "str"):=by decide +kernel
theorem BL:bootBuiltins "list" = some (.type "list"):=by decide +kernel
theorem BAll:bootBuiltins "all" = some (.builtin "all"):=by decide +kernel
theorem BMax:bootBuiltins "max" = some (.builtin "max"):=by decide +kernel
theorem BAny:bootBuiltins "any" = some (.builtin "any"):=by decide +kernel
structure Bn2 (mg:Str->Option Value):Prop where
 str:mg "str" = none
 list:mg "list" = none
 all:mg "all" = none
 any:mg "any" = none
 max:mg "max" = none
 enum:mg "enumerate" = none
theorem aH1 (c:Nat):(!(Builtin.Str.occurrences ("#." : Str) ⟨#[c]⟩ 0 ("#." : Str).length 1).isEmpty)=(c == 35 || c == 46):=by
 by_cases h1:c=35
 ·subst h1; decide +kernel
 by_cases h2:c=46
 ·subst h2; decide +kernel
 have e:("#." : Str)=⟨#[35,46]⟩:=by decide +kernel
 rw [e]
 have a0:Builtin.Str.subAt (⟨#[35,46]⟩:Str) ⟨#[c]⟩ 0=false:=by
  simp [Builtin.Str.subAt,Str.length]
  omega
 have a1:Builtin.Str.subAt (⟨#[35,46]⟩:Str) ⟨#[c]⟩ 1=false:=by
  simp [Builtin.Str.subAt,Str.length]
  omega
 simp [Builtin.Str.occurrences,Str.length,Std.Legacy.Range.forIn_eq_forIn_range',Std.Legacy.Range.size,List.range',a0,a1,h1,h2]
def sgn (c:Nat):Bool:=c == 35 || c == 46
def jR (wide:Int):V->Bool
 | .str z=>decide ((z.length:Int)=wide) && z.cps.toList.all sgn
 | _=>false
theorem bG {n:Nat} (h:n<=1000000):n<=sizeLine:=Nat.le_trans h (by decide)
abbrev Sq (K:PySem.W.Frag) (H:Hp) (a:Addr) (xs:List V):Prop:=SqL K H a xs\/SqT K H a xs
theorem aMN {H H':Hp}{a:Addr}{u:HO} (s:Same H H') (h:Rd H a u):Rd H' a u:=by
 rcases h with h | ⟨o,h⟩
 ·exact .inl (s _ _ h)
 ·exact .inr ⟨o,s _ _ h⟩
theorem eG {K:PySem.W.Frag}{H H':Hp}{a:Addr}{xs:List V} (s:Same H H') (h:SqT K H a xs):SqT K H' a xs:=h.imp (aMN s) id
def kT (us:List V) (na nb:Nat):Bool:=decide (us.length=nb - 1) && us.all (jR ((na - 1:Nat):Int))
def ofL (l:List Nat):Str:=⟨l.toArray⟩
def atS (z:Str) (j:Nat):Nat:=z.cps.getD j 0
theorem xT:∀ (ps:List Str) (acc:Array Nat),(ps.foldl (fun acc p=>acc++(Str.empty).cps++p.cps) acc).toList=acc.toList++(ps.map (·.cps.toList)).flatten
 | [],acc=>by simp
 | p::ps,acc=>by
  rw [List.foldl_cons,xT ps]
  simp [Str.empty]
theorem join_list (ps:List Str):(Txt.join Str.empty ps).cps.toList=(ps.map (·.cps.toList)).flatten:=by
 cases ps with
 | nil=>rfl
 | cons p ps =>
  show (((p::ps).drop 1).foldl (fun acc p=>acc++(Str.empty).cps++p.cps) ((p::ps).headD Str.empty).cps).toList=_
  rw [xT]
  simp
theorem wL (l:List Nat):Txt.join Str.empty (l.map fun c=>(⟨#[c]⟩:Str))=ofL l:=by
 apply lV
 rw [join_list]
 simp only [ofL,List.map_map]
 induction l with
 | nil=>rfl
 | cons a l ih=>rw [List.map_cons,List.flatten_cons,ih]; rfl
theorem oZ (l:List Nat):(ofL l).length=l.length:=by simp [ofL,Str.length]
theorem uQ {z:Str}{j:Nat} (h:j < z.length):atI z.cps.toList (j:Int)=some (atS z j):=by
 have h':j < z.cps.size:=h
 refine dC ?_
 simp [atS,h',Array.getD]
def aO (zs:List Str):List Str:=(List.range ((zs.head?.map (·.length)).getD 0)).map fun j=>ofL (zs.map (atS · j))
theorem aQK {K:PySem.W.Frag}{H:Hp}{p:Addr}{xs:List V}{i:Int}{v:V}{Q:VK} (h:Sq K H p xs) (e:atI xs i=some v) (q:Q v H):rIx K (.ref p) (.int i) H Q:=by
 rcases h with h | h
 ·exact .inl ⟨p,xs,i,v,rfl,rfl,h,e,q⟩
 ·exact .inr (.inl ⟨p,xs,i,v,rfl,rfl,h,e,q⟩)
theorem nD:("" : Str)=Str.empty:=by decide +kernel
def dots (n:Nat):Str:=ofL (List.replicate n 46)
theorem xH (n:Nat):mD "." n=dots n:=by
 apply lV
 rw [nS]
 have e:("." : Str).cps.toList=[46]:=by decide +kernel
 rw [e]
 show _=(List.replicate n 46)
 induction n with
 | zero=>rfl
 | succ n ih=>rw [List.replicate_succ,List.flatten_cons,ih,List.replicate_succ]; rfl
def framed (zs:List Str):List Str:=[dots ((zs.head?.map (·.length)).getD 0)]++zs++[dots ((zs.head?.map (·.length)).getD 0)]
def chg (zs:List Str):List Nat:=if zs.isEmpty then [] else (List.range (zs.length+1)).filter fun i => !decide ((framed zs)[i]?=(framed zs)[i+1]?)
theorem k7 (zs:List Str):(framed zs).length=zs.length+2:=by simp [framed]
theorem fG (zs:List Str):∀ i∈chg zs,i<=zs.length:=fun i hi=>by
 unfold chg at hi
 split at hi
 ·cases hi
 ·have:=List.mem_range.mp (List.mem_filter.mp hi).1
  omega
theorem cG (zs:List Str):(chg zs).Pairwise (· < ·):=by
 unfold chg
 split
 ·exact List.Pairwise.nil
 ·exact List.Pairwise.filter _ List.pairwise_lt_range
theorem aBW (zs:List Str):(chg zs).length<=zs.length+1:=by
 unfold chg
 split
 ·simp
 ·exact Nat.le_trans (List.length_filter_le _ _) (by simp)
theorem jU {l:List Nat}{n:Nat} (h:l.Pairwise (· < ·)) (b:∀ i∈l,i<=n):∀ i∈l.dropLast,i < n:=fun i hi=>by
 have hne:l≠[]:=fun e=>by rw [e] at hi; cases hi
 have e:=List.dropLast_concat_getLast hne
 rw [<- e] at h
 have h1:=(List.pairwise_append.mp h).2.2 i hi (l.getLast hne) (by simp)
 have h2:=b _ (List.getLast_mem hne)
 omega
theorem sM (zs:List Str) (h:chg zs≠[]):zs≠[]:=fun e=>h (by rw [e]; rfl)
def cJ (zs:List Str):List Str:=(chg zs).dropLast.map fun i=>ofL ((chg (aO zs)).dropLast.map (atS (zs.getD i Str.empty)))
theorem uF {zs:List Str}{n:Nat} (h:∀ z∈zs,z.length=n):(aO zs).length<=n/\(zs≠[]->(aO zs).length=n):=by
 unfold aO
 rw [zLm,List.length_range]
 cases zs with
 | nil=>exact ⟨Nat.zero_le _,fun e=>absurd rfl e⟩
 | cons z zr =>
  have:=h z (by simp)
  exact ⟨by show z.length<=n; omega,fun _=>this⟩
theorem iA {zs:List Str}:∀ z∈aO zs,z.length=zs.length:=fun z hz=>by
 obtain ⟨j,_,rfl⟩:=List.mem_map.mp hz
 rw [oZ,zLm]
structure KnL (K:PySem.W.Frag) (H:Hp) (v:V):Prop where
 kn:Kn K H v
 each:∀ a xs,v = .ref a->H a=some (.lst xs)->∀ x∈xs,Kn K H x
end R
namespace L2
open PySem PySem.Spec PyProof.Rows
section
variable {X:Cx}
end
end L2
namespace L2
open PySem PySem.Spec PyProof.Rows
def cutL (l:List Nat) (lo hi:Option Int):List Nat:=(l.drop (HT.sIx l.length 0 lo)).take (HT.sIx l.length l.length hi - HT.sIx l.length 0 lo)
def cutS (z:Str) (lo hi:Option Int):Str:=⟨(cutL z.cps.toList lo hi).toArray⟩
section
variable {X:Cx}
end
end L2
namespace L2
open PySem PySem.Spec PyProof.Rows
def aKB:V->Bool
 | .ref _=>true
 | .non=>true
 | .bl _=>true
 | .int _=>true
 | .str _=>true
 | _=>false
theorem aM3 {xs:List V}{us:List Value} (r:Vals xs us) {j:Nat} (h:j < us.toArray.size):∃ x,xs[j]?=some x/\RelV x us.toArray[j]:=by
 have l:=r.length
 rw [List.size_toArray] at h
 have g:xs[j]?=some (xs[j]'(by omega)):=by simp
 obtain ⟨u,eu,ru⟩:=r.get g
 refine ⟨_,g,?_⟩
 have:us.toArray[j]=u:=by
  rw [zGe h] at eu
  simpa using eu
 rw [this]
 exact ru
theorem all_true (n:Nat):((List.range n).all fun _=>true)=true:=List.all_eq_true.mpr fun _ _=>rfl
inductive Alike (K:PySem.W.Frag) (H:Hp):V->V->Prop
 | one {v:V} (h:aKB v=true):Alike K H v v
 | lists {a b:Addr}{xs:List V} (ha:SqL K H a xs) (hb:SqL K H b xs) (h:xs.all aKB=true):Alike K H (.ref a) (.ref b)
section
variable {X:Cx}
end
end L2
namespace L2
open PySem PySem.Spec PyProof.Rows
section
variable {X:Cx}{o e:Expr}{es:List Expr}{to:TE}{t:TA}{name:Str}{apos cpos:Pos}{T id:String}{r:V->List V->Hp->VK->Prop}
end
end L2
namespace Z
open PySem L2
inductive D where
 | non | bl (b:Bool) | int (i:Int) | str (x:Str) | mt (a:Addr) | tup (ds:List D) | lst (ds:List D) | fl (ds:List D) | st (ks:List (List Int))
abbrev Fg:=PySem.W.Frag
def aRA (k:List Int):Int:=reduceHash (Builtin.Tuple.tupleHashOf (k.map hashInt))
def entS (p:List Int × Addr):DictEntry:={ hash:=aRA p.1,key := .ref p.2,val := .bool true }
def DSt (a:Addr) (xs:List (List Int × Addr)) (ep:Nat) (h:Heap):Prop:=(a == sysModules)=false/\∃ o,h.get? a=some o/\o.ExactDict/\o.data = .dict (xs.map entS).toArray ep
structure StO (K:Fg) (G:Hp) (o:Option HO) (a:Addr) (ks:List (List Int)) (xs:List (List Int × Addr)) (ep:Nat):Prop where
 nd:ks.Nodup
 len:ks.length<=sizeLine
 keys:xs.map (·.1)=ks
 at_:∀ p∈xs,SqT K G p.2 (p.1.map V.int)
 ob:o=some (.ext (DSt a xs ep))
theorem StO.mv {K:Fg}{G G':Hp}{o o':Option HO}{a:Addr}{ks:List (List Int)}{xs:List (List Int × Addr)}{ep:Nat} (h:StO K G o a ks xs ep) (s:Same G G') (e:o'=o):StO K G' o' a ks xs ep :=
 ⟨h.nd,h.len,h.keys,fun p hp=>R.eG s (h.at_ p hp),e.trans h.ob⟩
mutual
def Den (K:Fg) (G:Hp):D->V->Prop
 | .non,v=>v = .non
 | .bl b,v=>v = .bl b
 | .int i,v=>v = .int i
 | .str x,v=>v = .str x
 | .mt a,v=>v = .ref a
 | .tup ds,v=>∃ a vs,v = .ref a/\SqT K G a vs/\Dens K G ds vs
 | .lst ds,v=>∃ a vs,v = .ref a/\G a=some (.lst vs)/\Dens K G ds vs
 | .fl ds,v=>∃ a vs,v = .ref a/\SqL K G a vs/\Dens K G ds vs
 | .st ks,v=>∃ a xs ep,v = .ref a/\StO K G (G a) a ks xs ep
def Dens (K:Fg) (G:Hp):List D->List V->Prop
 | [],vs=>vs=[]
 | d::ds,vs=>∃ v r,vs=v::r/\Den K G d v/\Dens K G ds r
end
mutual
theorem Den.mono {K:Fg}{G G':Hp} (s:Same G G'):∀ (d:D) {v:V},Den K G d v->Den K G' d v
 | .non,_,h=>by simp only [Den] at h ⊢; exact h
 | .bl _,_,h=>by simp only [Den] at h ⊢; exact h
 | .int _,_,h=>by simp only [Den] at h ⊢; exact h
 | .str _,_,h=>by simp only [Den] at h ⊢; exact h
 | .mt _,_,h=>by simp only [Den] at h ⊢; exact h
 | .tup ds,_,h=>by
  simp only [Den] at h ⊢
  obtain ⟨a,vs,e,q,r⟩:=h
  exact ⟨a,vs,e,R.eG s q,Dens.mono s ds r⟩
 | .lst ds,_,h=>by
  simp only [Den] at h ⊢
  obtain ⟨a,vs,e,q,r⟩:=h
  exact ⟨a,vs,e,s _ _ q,Dens.mono s ds r⟩
 | .fl ds,_,h=>by
  simp only [Den] at h ⊢
  obtain ⟨a,vs,e,q,r⟩:=h
  exact ⟨a,vs,e,s.seq q,Dens.mono s ds r⟩
 | .st ks,_,h=>by
  simp only [Den] at h ⊢
  obtain ⟨a,xs,ep,e,q⟩:=h
  exact ⟨a,xs,ep,e,q.mv s ((s _ _ q.ob).trans q.ob.symm)⟩
theorem Dens.mono {K:Fg}{G G':Hp} (s:Same G G'):∀ (ds:List D) {vs:List V},Dens K G ds vs->Dens K G' ds vs
 | [],_,h=>by simp only [Dens] at h ⊢; exact h
 | d::ds,_,h=>by
  simp only [Dens] at h ⊢
  obtain ⟨v,r,e,h1,h2⟩:=h
  exact ⟨v,r,e,Den.mono s d h1,Dens.mono s ds h2⟩
end
theorem Den.up {K:Fg}{G G':Hp}{d:D}{v:V} (h:Den K G d v) (s:Same G G'):Den K G' d v:=Den.mono s d h
theorem Dens.up {K:Fg}{G G':Hp}{ds:List D}{vs:List V} (h:Dens K G ds vs) (s:Same G G'):Dens K G' ds vs:=Dens.mono s ds h
theorem dB {K:Fg}{G:Hp}:Dens K G [] []:=by simp only [Dens]
theorem cB {K:Fg}{G:Hp}{d:D}{v:V}{ds:List D}{vs:List V} (h:Den K G d v) (r:Dens K G ds vs):Dens K G (d::ds) (v::vs):=by
 simp only [Dens]; exact ⟨v,vs,rfl,h,r⟩
theorem cC {K:Fg}{G:Hp}{d:D}{ds:List D}{vs:List V} (h:Dens K G (d::ds) vs):∃ v r,vs=v::r/\Den K G d v/\Dens K G ds r:=by simp only [Dens] at h; exact h
theorem cZ {K:Fg}{G:Hp}{vs:List V} (h:Dens K G [] vs):vs=[]:=by simp only [Dens] at h; exact h
theorem Dens.len {K:Fg}{G:Hp}:∀ {ds:List D}{vs:List V},Dens K G ds vs->ds.length=vs.length
 | [],_,h=>by rw [cZ h]; rfl
 | d::ds,_,h=>by
  obtain ⟨v,r,rfl,_,h2⟩:=cC h
  rw [List.length_cons,List.length_cons,Dens.len h2]
theorem Dens.get {K:Fg}{G:Hp}:∀ {ds:List D}{vs:List V}{i:Nat}{d:D},Dens K G ds vs->ds[i]?=some d->∃ v,vs[i]?=some v/\Den K G d v
 | [],_,_,_,_,e=>by simp at e
 | d0::ds,_,0,d,h,e=>by
  obtain ⟨v,r,rfl,h1,_⟩:=cC h
  simp at e; subst e
  exact ⟨v,rfl,h1⟩
 | d0::ds,_,i+1,d,h,e=>by
  obtain ⟨v,r,rfl,_,h2⟩:=cC h
  obtain ⟨u,a,b⟩:=Dens.get (i:=i) h2 (by simpa using e)
  exact ⟨u,by simpa using a,b⟩
theorem Dens.get' {K:Fg}{G:Hp}:∀ {ds:List D}{vs:List V}{i:Nat}{v:V},Dens K G ds vs->vs[i]?=some v->∃ d,ds[i]?=some d/\Den K G d v:=fun {ds vs i v} h e=>by
 have hi:i < vs.length:=(zGs e).1
 rw [<- h.len] at hi
 have e2:ds[i]?=some ds[i]:=by simp [hi]
 obtain ⟨u,a,b⟩:=h.get e2
 rw [e] at a; cases a
 exact ⟨_,e2,b⟩
theorem Dens.append {K:Fg}{G:Hp}:∀ {ds es:List D}{vs ws:List V},Dens K G ds vs->Dens K G es ws->Dens K G (ds++es) (vs++ws)
 | [],_,_,_,h,r=>by rw [cZ h]; exact r
 | d::ds,_,_,_,h,r=>by
  obtain ⟨v,t,rfl,h1,h2⟩:=cC h
  exact cB h1 (Dens.append h2 r)
theorem Dens.take {K:Fg}{G:Hp}:∀ {ds:List D}{vs:List V} (n:Nat),Dens K G ds vs->Dens K G (ds.take n) (vs.take n)
 | _,_,0,_=>by simp only [List.take_zero]; exact dB
 | [],_,n+1,h=>by rw [cZ h]; exact dB
 | d::ds,_,n+1,h=>by
  obtain ⟨v,t,rfl,h1,h2⟩:=cC h
  exact cB h1 (Dens.take n h2)
theorem Dens.drop {K:Fg}{G:Hp}:∀ {ds:List D}{vs:List V} (n:Nat),Dens K G ds vs->Dens K G (ds.drop n) (vs.drop n)
 | _,_,0,h=>h
 | [],_,n+1,h=>by rw [cZ h]; exact dB
 | d::ds,_,n+1,h=>by
  obtain ⟨v,t,rfl,h1,h2⟩:=cC h
  exact Dens.drop n h2
theorem Dens.set {K:Fg}{G:Hp}{d:D}{v:V} (e:Den K G d v):∀ {ds:List D}{vs:List V} (i:Nat),Dens K G ds vs->Dens K G (ds.set i d) (vs.set i v)
 | [],_,_,h=>by rw [cZ h]; exact dB
 | d0::ds,_,0,h=>by
  obtain ⟨u,t,rfl,h1,h2⟩:=cC h
  exact cB e h2
 | d0::ds,_,i+1,h=>by
  obtain ⟨u,t,rfl,h1,h2⟩:=cC h
  exact cB h1 (Dens.set e i h2)
theorem Dens.atI {K:Fg}{G:Hp}{ds:List D}{vs:List V}{i:Int}{d:D} (h:Dens K G ds vs) (e:atI ds i=some d):∃ v,L2.atI vs i=some v/\Den K G d v:=by
 unfold L2.atI at e ⊢
 rw [<- h.len]
 cases hj:ixN ds.length i with
 | none=>rw [hj] at e; cases e
 | some j =>
  rw [hj] at e
  exact h.get e
inductive MO where
 | lst (ds:List D)
 | st (ks:List (List Int))
 | ob (o:HO)
abbrev Mem:=Addr->Option MO
def b7 (M:Mem) (a:Addr) (o:MO):Mem:=fun b=>if b=a then some o else M b
def kU (M:Mem) (a:Addr):Mem:=fun b=>if b=a then none else M b
theorem aS {M:Mem}{a:Addr}{o:MO}:b7 M a o a=some o:=by unfold b7; rw [if_pos rfl]
theorem dS {M:Mem}{a b:Addr}{o:MO} (h:b≠a):b7 M a o b=M b:=by unfold b7; rw [if_neg h]
theorem dN {M:Mem}{a:Addr}{o u:MO}:b7 (b7 M a o) a u=b7 M a u:=by
 funext b; unfold b7; split <;> rfl
theorem aFW {M:Mem}{a:Addr}:kU M a a=none:=by unfold kU; rw [if_pos rfl]
theorem sV {M:Mem}{a b:Addr} (h:b≠a):kU M a b=M b:=by unfold kU; rw [if_neg h]
def Le (M M':Mem):Prop:=∀ a o,M a=some o->M' a=some o
theorem Le.refl (M:Mem):Le M M:=fun _ _ h=>h
theorem Le.upd {M M':Mem}{a:Addr}{o:MO} (h:Le M M') (n:M a=none):Le M (b7 M' a o):=fun b u e=>by
 rw [dS (fun z=>by rw [z,n] at e; cases e)]; exact h b u e
def MOk (K:Fg) (G H:Hp) (a:Addr):MO->Prop
 | .lst ds=>∃ vs,H a=some (.lst vs)/\Dens K G ds vs
 | .st ks=>∃ xs ep,StO K G (H a) a ks xs ep
 | .ob o=>H a=some o
theorem MOk.mv {K:Fg}{G G' H H':Hp}{a:Addr}{m:MO} (h:MOk K G H a m) (s:Same G G') (e:H' a=H a):MOk K G' H' a m:=by
 cases m with
 | lst ds=>obtain ⟨vs,e1,e2⟩:=h; exact ⟨vs,e.trans e1,e2.up s⟩
 | st ks=>obtain ⟨xs,ep,q⟩:=h; exact ⟨xs,ep,q.mv s e⟩
 | ob o=>exact e.trans h
structure Rel (K:Fg) (G H:Hp) (M:Mem):Prop where
 same:Same G H
 mem:∀ a o,M a=some o->G a=none/\MOk K G H a o
structure Stp (K:Fg) (G H:Hp) (M:Mem) (G' H':Hp) (M':Mem):Prop where
 gg:Same G G'
 rel:Rel K G' H' M'
 fr:∀ a o,H a=some o->G a=none->M a=none->H' a=some o/\G' a=none/\M' a=none
theorem Stp.refl {K:Fg}{G H:Hp}{M:Mem} (r:Rel K G H M):Stp K G H M G H M:=⟨Same.refl G,r,fun _ _ h h1 h2=>⟨h,h1,h2⟩⟩
theorem Stp.trans {K:Fg}{G H G1 H1 G2 H2:Hp}{M M1 M2:Mem} (a:Stp K G H M G1 H1 M1) (b:Stp K G1 H1 M1 G2 H2 M2):Stp K G H M G2 H2 M2 :=
 ⟨a.gg.trans b.gg,b.rel,fun c o h h1 h2=>let ⟨x,y,z⟩:=a.fr c o h h1 h2; b.fr c o x y z⟩
theorem Rel.le {K:Fg}{G H:Hp}{M M':Mem} (r:Rel K G H M) (l:Le M' M):Rel K G H M':=⟨r.same,fun a o h=>r.mem a o (l a o h)⟩
theorem Rel.got {K:Fg}{G H:Hp}{M:Mem}{a:Addr}{o:MO} (r:Rel K G H M) (h:M a=some o):∃ u,H a=some u:=by
 cases o with
 | lst ds=>obtain ⟨_,vs,e,_⟩:=r.mem a _ h; exact ⟨_,e⟩
 | st ks=>obtain ⟨_,xs,ep,q⟩:=r.mem a _ h; exact ⟨_,q.ob⟩
 | ob o=>exact ⟨o,(r.mem a _ h).2⟩
theorem Rel.free {K:Fg}{G H:Hp}{M:Mem}{p:Addr} (r:Rel K G H M) (h:H p=none):G p=none/\M p=none:=by
 refine ⟨r.same.free h,?_⟩
 cases e:M p with
 | none=>rfl
 | some o=>obtain ⟨u,q⟩:=r.got e; rw [h] at q; cases q
theorem Rel.new {K:Fg}{G H:Hp}{M:Mem}{p:Addr}{o:HO} (r:Rel K G H M) (h:H p=none):Stp K G H M (upd G p o) (upd H p o) M:=by
 have hG:=(r.free h).1
 have s1:Same G (upd G p o):=xP hG
 refine ⟨s1,⟨fun b u e => ?_,fun a m e => ?_⟩,fun a u e1 e2 e3 => ?_⟩
 ·by_cases z:b=p
  ·subst z; rw [bQ] at e ⊢; exact e
  ·rw [bF z] at e ⊢; exact r.same b u e
 ·obtain ⟨u,q⟩:=r.got e
  have z:a≠p:=bT q h
  refine ⟨by rw [bF z]; exact (r.mem a m e).1,?_⟩
  exact (r.mem a m e).2.mv s1 (bF z)
 ·have z:a≠p:=bT e1 h
  exact ⟨by rw [bF z]; exact e1,by rw [bF z]; exact e2,e3⟩
theorem Rel.newM {K:Fg}{G H:Hp}{M:Mem}{p:Addr}{vs:List V}{ds:List D} (r:Rel K G H M) (h:H p=none) (e:Dens K G ds vs):Stp K G H M G (upd H p (.lst vs)) (b7 M p (.lst ds)):=by
 have hG:=(r.free h).1
 refine ⟨Same.refl G,⟨fun b u q => ?_,fun a m q => ?_⟩,fun a u e1 e2 e3 => ?_⟩
 ·rw [bF (bT q hG)]; exact r.same b u q
 ·by_cases z:a=p
  ·subst z
   rw [aS] at q; cases q
   exact ⟨hG,vs,bQ,e⟩
  ·rw [dS z] at q
   refine ⟨(r.mem a m q).1,?_⟩
   exact (r.mem a m q).2.mv (Same.refl G) (bF z)
 ·have z:a≠p:=bT e1 h
  exact ⟨by rw [bF z]; exact e1,e2,by rw [dS z]; exact e3⟩
theorem Rel.wr {K:Fg}{G H:Hp}{M:Mem}{p:Addr}{vs:List V}{ds:List D}{o:MO} (r:Rel K G H M) (h:M p=some o) (e:Dens K G ds vs):Stp K G H M G (upd H p (.lst vs)) (b7 M p (.lst ds)):=by
 have hG:=(r.mem p _ h).1
 refine ⟨Same.refl G,⟨fun b u q => ?_,fun a m q => ?_⟩,fun a u e1 e2 e3 => ?_⟩
 ·rw [bF (bT q hG)]; exact r.same b u q
 ·by_cases z:a=p
  ·subst z
   rw [aS] at q; cases q
   exact ⟨hG,vs,bQ,e⟩
  ·rw [dS z] at q
   refine ⟨(r.mem a m q).1,?_⟩
   exact (r.mem a m q).2.mv (Same.refl G) (bF z)
 ·have z:a≠p:=fun z=>by rw [z,h] at e3; cases e3
  exact ⟨by rw [bF z]; exact e1,e2,by rw [dS z]; exact e3⟩
theorem Rel.frz {K:Fg}{G H:Hp}{M:Mem}{a:Addr}{ds:List D} (r:Rel K G H M) (h:M a=some (.lst ds)):∃ vs,H a=some (.lst vs)/\Dens K G ds vs/\Stp K G H M (upd G a (.lst vs)) H (kU M a):=by
 obtain ⟨hG,vs,e,q⟩:=r.mem a _ h
 have s1:Same G (upd G a (.lst vs)):=xP hG
 refine ⟨vs,e,q,s1,⟨fun b u z => ?_,fun b m z => ?_⟩,fun b u e1 e2 e3 => ?_⟩
 ·by_cases y:b=a
  ·subst y; rw [bQ] at z; cases z; exact e
  ·rw [bF y] at z; exact r.same b u z
 ·by_cases y:b=a
  ·subst y; rw [aFW] at z; cases z
  ·rw [sV y] at z
   refine ⟨by rw [bF y]; exact (r.mem b m z).1,?_⟩
   exact (r.mem b m z).2.mv s1 rfl
 ·have y:b≠a:=fun y=>by rw [y,h] at e3; cases e3
  exact ⟨e1,by rw [bF y]; exact e2,by rw [sV y]; exact e3⟩
theorem Rel.drop {K:Fg}{G H:Hp}{M M':Mem} (r:Rel K G H M) (l:Le M' M):Stp K G H M G H M' :=
 ⟨Same.refl G,r.le l,fun a o h1 h2 h3=>⟨h1,h2,by
  cases e:M' a with
  | none=>rfl
  | some u=>rw [l a u e] at h3; cases h3⟩⟩
abbrev Gm:=List (Option D)
structure EnvR (K:Fg) (G:Hp) (Γ:Gm) (σ:St):Prop where
 len:Γ.length=σ.length
 get:∀ (i:Nat) (d:D),Γ[i]?=some (some d)->∃ v,σ[i]?=some (some v)/\Den K G d v
theorem EnvR.up {K:Fg}{G G':Hp}{Γ:Gm}{σ:St} (h:EnvR K G Γ σ) (s:Same G G'):EnvR K G' Γ σ :=
 ⟨h.len,fun i d e=>let ⟨v,a,b⟩:=h.get i d e; ⟨v,a,b.up s⟩⟩
theorem EnvR.set {K:Fg}{G:Hp}{Γ:Gm}{σ:St} (h:EnvR K G Γ σ) {d:D}{v:V} (e:Den K G d v) (i:Nat):EnvR K G (Γ.set i (some d)) (σ.set i (some v)):=by
 refine ⟨by rw [List.length_set,List.length_set,h.len],fun j c q => ?_⟩
 rw [List.getElem?_set] at q ⊢
 by_cases z:i=j
 ·rw [if_pos z] at q ⊢
  split at q
  ·rename_i hl
   rw [if_pos (by rw [<- h.len]; exact hl)]
   cases q
   exact ⟨v,rfl,e⟩
  ·cases q
 ·rw [if_neg z] at q ⊢
  exact h.get j c q
theorem EnvR.start {K:Fg}{G:Hp}{ds:List D}{vs:List V} (h:Dens K G ds vs) (n:Nat):EnvR K G (ds.map some++List.replicate (n - ds.length) none) (vs.map some++List.replicate (n - vs.length) none):=by
 have hl:=h.len
 refine ⟨by simp [hl],fun i d e => ?_⟩
 by_cases hi:i < ds.length
 ·rw [List.getElem?_append_left (by simpa using hi),List.getElem?_map] at e
  rw [List.getElem?_append_left (by simp; omega),List.getElem?_map]
  cases q:ds[i]? with
  | none=>rw [q] at e; cases e
  | some c =>
   rw [q] at e; cases e
   obtain ⟨v,a,b⟩:=h.get q
   exact ⟨v,by rw [a]; rfl,b⟩
 ·rw [List.getElem?_append_right (by simpa using hi),List.getElem?_replicate] at e
  split at e <;> cases e
def tU (X:Cx) (e:Expr):TE:=fun σ H Q=>∀ pins s,Inv X pins σ H s->wpAny (model X.prog X.w) X.A (eval e X.env) (EP X pins σ Q) X.xe s
theorem pU {X:Cx}{e:Expr}:PE X e (tU X e):=fun pins s σ H Q I h=>h pins s I
theorem cK {X:Cx}{e:Expr}{t:TE} (p:PE X e t) {σ:St}{H:Hp}{Q:VK} (h:t σ H Q):tU X e σ H Q:=fun pins s I=>p pins s σ H Q I h
def tUT (X:Cx) (e:Expr):TT:=fun σ H Q=>∀ pins s,Inv X pins σ H s->wpAny (model X.prog X.w) X.A (isTrue e X.env (eval e X.env)) (TP X pins σ Q) X.xe s
theorem pUT {X:Cx}{e:Expr}:PT X e (tUT X e):=fun pins s σ H Q I h=>h pins s I
theorem vJ {X:Cx}{e:Expr}{t:TT} (p:PT X e t) {σ:St}{H:Hp}{Q:Bool->Hp->Prop} (h:t σ H Q):tUT X e σ H Q:=fun pins s I=>p pins s σ H Q I h
def tUW (X:Cx) (e:Expr):TT:=fun σ H Q=>∀ whole pins s,Inv X pins σ H s->wpAny (model X.prog X.w) X.A (isTrue e X.env whole) (TP X pins σ Q) X.xe s
theorem pUW {X:Cx}{e:Expr}:PW X e (tUW X e):=fun whole pins s σ H Q I h=>h whole pins s I
theorem uO {X:Cx}{e:Expr}{t:TT} (p:PW X e t) {σ:St}{H:Hp}{Q:Bool->Hp->Prop} (h:t σ H Q):tUW X e σ H Q:=fun whole pins s I=>p whole pins s σ H Q I h
def tUA (X:Cx) (es:List Expr):TA:=fun σ H Q=>∀ pos pins s,Inv X pins σ H s->wpAny (model X.prog X.w) X.A (spliced (backTo pos (starEach es X.env))) (AP X pins σ Q) X.xe s
theorem pUA {X:Cx}{es:List Expr}:PA X es (tUA X es):=fun pos pins s σ H Q I h=>h pos pins s I
theorem aEZ {X:Cx}{es:List Expr}{t:TA} (p:PA X es t) {σ:St}{H:Hp}{Q:List V->Hp->Prop} (h:t σ H Q):tUA X es σ H Q:=fun pos pins s I=>p pos pins s σ H Q I h
def tUS (X:Cx) (st:Stmt):TS:=fun E σ H=>∀ pins s,Inv X pins σ H s->wpAny (model X.prog X.w) X.A (exec st X.env) (SP X pins E) X.xe s
theorem pUS {X:Cx}{st:Stmt}:PS X st (tUS X st):=fun pins s σ H E I h=>h pins s I
theorem jL {X:Cx}{st:Stmt}{t:TS} (p:PS X st t) {σ:St}{H:Hp}{E:Ends} (h:t E σ H):tUS X st E σ H:=fun pins s I=>p pins s σ H E I h
def aIK (X:Cx) (st:List Stmt):TS:=fun E σ H=>∀ pins s,Inv X pins σ H s->wpAny (model X.prog X.w) X.A (execs st X.env) (SP X pins E) X.xe s
theorem xA {X:Cx}{st:List Stmt}:PSs X st (aIK X st):=fun pins s σ H E I h=>h pins s I
theorem wW {X:Cx}{st:List Stmt}{t:TS} (p:PSs X st t) {σ:St}{H:Hp}{E:Ends} (h:t E σ H):aIK X st E σ H:=fun pins s I=>p pins s σ H E I h
def tUG (X:Cx) (tg:Expr):TG:=fun v σ H Q=>∀ pins s u,Inv X pins σ H s->RelV v u->wpAny (model X.prog X.w) X.A (assign tg X.env u) (fun _ s'=>∃ σ' H',Inv X pins σ' H' s'/\Q σ' H') X.xe s
theorem pUG {X:Cx}{tg:Expr}:PG X tg (tUG X tg):=fun pins s σ H v u Q I r h=>h pins s u I r
theorem aAR {X:Cx}{tg:Expr}{t:TG} (p:PG X tg t) {v:V}{σ:St}{H:Hp}{Q:St->Hp->Prop} (h:t v σ H Q):tUG X tg v σ H Q:=fun pins s u I r=>p pins s σ H v u Q I r h
def aJA (X:Cx) (tg:List Expr):TGs:=fun vs σ H Q=>∀ pins s us,Inv X pins σ H s->Vals vs us->wpAny (model X.prog X.w) X.A (assignInOrder ((assignEach tg X.env).map (·.2)) us) (fun _ s'=>∃ σ' H',Inv X pins σ' H' s'/\Q σ' H') X.xe s
theorem pUGs {X:Cx}{tg:List Expr}:PGs X tg (aJA X tg):=fun pins s σ H vs us Q I r h=>h pins s us I r
theorem aCS {X:Cx}{tg:List Expr}{t:TGs} (p:PGs X tg t) {vs:List V}{σ:St}{H:Hp}{Q:St->Hp->Prop} (h:t vs σ H Q):aJA X tg vs σ H Q:=fun pins s us I r=>p pins s σ H vs us Q I r h
def tUI (X:Cx) (tg iter:Expr):TI:=fun σ H R=>∀ pins s,Inv X pins σ H s->wpAny (model X.prog X.w) X.A (eval iter X.env) (fun v s1=>wpAny (model X.prog X.w) X.A (pyIter v) (PIE X pins σ tg R) X.xe s1) X.xe s
theorem pUI {X:Cx}{tg iter:Expr}:PI X tg iter (tUI X tg iter):=fun pins s σ H R I h=>h pins s I
theorem kM {X:Cx}{tg iter:Expr}{t:TI} (p:PI X tg iter t) {σ:St}{H:Hp}{R:It->Hp->Prop} (h:t σ H R):tUI X tg iter σ H R:=fun pins s I=>p pins s σ H R I h
def Cont (K:Fg) (M:Mem) (k:D->Mem->Prop) (G H:Hp) (Q:VK):Prop:=∀ v G' H' d M',Stp K G H M G' H' M'->Den K G' d v->k d M'->Q v H'
def GE (X:Cx) (e:Expr) (Γ:Gm) (M:Mem) (k:D->Mem->Prop):Prop :=
 ∀ σ G H Q,EnvR X.K G Γ σ->Rel X.K G H M->Cont X.K M k G H Q->tU X e σ H Q
def sW (K:Fg) (M:Mem) (k:Bool->Mem->Prop) (G H:Hp) (Q:Bool->Hp->Prop):Prop:=∀ b G' H' M',Stp K G H M G' H' M'->k b M'->Q b H'
def GT (X:Cx) (e:Expr) (Γ:Gm) (M:Mem) (k:Bool->Mem->Prop):Prop :=
 ∀ σ G H Q,EnvR X.K G Γ σ->Rel X.K G H M->sW X.K M k G H Q->tUT X e σ H Q
def GW (X:Cx) (e:Expr) (Γ:Gm) (M:Mem) (k:Bool->Mem->Prop):Prop :=
 ∀ σ G H Q,EnvR X.K G Γ σ->Rel X.K G H M->sW X.K M k G H Q->tUW X e σ H Q
def GA (X:Cx) (es:List Expr) (Γ:Gm) (M:Mem) (k:List D->Mem->Prop):Prop :=
 ∀ σ G H Q,EnvR X.K G Γ σ->Rel X.K G H M->(∀ vs G' H' ds M',Stp X.K G H M G' H' M'->Dens X.K G' ds vs->k ds M'->Q vs H')->tUA X es σ H Q
def nO (K:Fg) (M:Mem) (k:Gm->Mem->Prop) (G H:Hp) (Q:St->Hp->Prop):Prop:=∀ σ' G' H' Γ' M',Stp K G H M G' H' M'->EnvR K G' Γ' σ'->k Γ' M'->Q σ' H'
def GG (X:Cx) (tg:Expr) (d:D) (Γ:Gm) (M:Mem) (k:Gm->Mem->Prop):Prop :=
 ∀ σ G H v Q,EnvR X.K G Γ σ->Rel X.K G H M->Den X.K G d v->nO X.K M k G H Q->tUG X tg v σ H Q
def GGs (X:Cx) (tgs:List Expr) (ds:List D) (Γ:Gm) (M:Mem) (k:Gm->Mem->Prop):Prop :=
 ∀ σ G H vs Q,EnvR X.K G Γ σ->Rel X.K G H M->Dens X.K G ds vs->nO X.K M k G H Q->aJA X tgs vs σ H Q
structure Fin where
 nx:Gm->Mem->Prop
 rt:D->Mem->Prop
 bk:Gm->Mem->Prop:=fun _ _=>False
 ct:Gm->Mem->Prop:=fun _ _=>False
structure EndsOk (K:Fg) (G H:Hp) (M:Mem) (F:Fin) (E:Ends):Prop where
 nx:nO K M F.nx G H E.nx
 rt:Cont K M F.rt G H E.rt
 bk:nO K M F.bk G H E.bk
 ct:nO K M F.ct G H E.ct
theorem Cont.up {K:Fg}{M M1:Mem}{k:D->Mem->Prop}{G H G1 H1:Hp}{Q:VK} (c:Cont K M k G H Q) (s:Stp K G H M G1 H1 M1):Cont K M1 k G1 H1 Q:=fun v G' H' d M' s'=>c v G' H' d M' (s.trans s')
theorem nO.up {K:Fg}{M M1:Mem}{k:Gm->Mem->Prop}{G H G1 H1:Hp}{Q:St->Hp->Prop} (c:nO K M k G H Q) (s:Stp K G H M G1 H1 M1):nO K M1 k G1 H1 Q:=fun v G' H' d M' s'=>c v G' H' d M' (s.trans s')
theorem sW.up {K:Fg}{M M1:Mem}{k:Bool->Mem->Prop}{G H G1 H1:Hp}{Q:Bool->Hp->Prop} (c:sW K M k G H Q) (s:Stp K G H M G1 H1 M1):sW K M1 k G1 H1 Q:=fun v G' H' M' s'=>c v G' H' M' (s.trans s')
theorem EndsOk.up {K:Fg}{M M1:Mem}{F:Fin}{E:Ends}{G H G1 H1:Hp} (c:EndsOk K G H M F E) (s:Stp K G H M G1 H1 M1):EndsOk K G1 H1 M1 F E:=⟨c.nx.up s,c.rt.up s,c.bk.up s,c.ct.up s⟩
def GS (X:Cx) (ss:List Stmt) (Γ:Gm) (M:Mem) (F:Fin):Prop :=
 ∀ σ G H E,EnvR X.K G Γ σ->Rel X.K G H M->EndsOk X.K G H M F E->aIK X ss E σ H
def G1 (X:Cx) (st:Stmt) (Γ:Gm) (M:Mem) (F:Fin):Prop :=
 ∀ σ G H E,EnvR X.K G Γ σ->Rel X.K G H M->EndsOk X.K G H M F E->tUS X st E σ H
end Z
namespace Z
open PySem L2
section
variable {K:Fg}{G H:Hp}{M:Mem}
theorem dJ {i:Int}:Den K G (.int i) (.int i):=by simp only [Den]
theorem dG {i:Bool}:Den K G (.bl i) (.bl i):=by simp only [Den]
theorem oM {i:Str}:Den K G (.str i) (.str i):=by simp only [Den]
theorem wH:Den K G .non .non:=by simp only [Den]
theorem yI {a:Addr}:Den K G (.mt a) (.ref a):=by simp only [Den]
theorem iH {a:Addr}{vs:List V}{ds:List D} (h:SqT K G a vs) (r:Dens K G ds vs):Den K G (.tup ds) (.ref a):=by simp only [Den]; exact ⟨a,vs,rfl,h,r⟩
theorem jC {a:Addr}{vs:List V}{ds:List D} (h:G a=some (.lst vs)) (r:Dens K G ds vs):Den K G (.lst ds) (.ref a):=by simp only [Den]; exact ⟨a,vs,rfl,h,r⟩
theorem aO2 {a:Addr}{vs:List V}{ds:List D} (h:SqL K G a vs) (r:Dens K G ds vs):Den K G (.fl ds) (.ref a):=by simp only [Den]; exact ⟨a,vs,rfl,h,r⟩
theorem Den.int_ {i:Int}{v:V} (h:Den K G (.int i) v):v = .int i:=by simp only [Den] at h; exact h
theorem Den.bl_ {i:Bool}{v:V} (h:Den K G (.bl i) v):v = .bl i:=by simp only [Den] at h; exact h
theorem Den.str_ {i:Str}{v:V} (h:Den K G (.str i) v):v = .str i:=by simp only [Den] at h; exact h
theorem Den.non_ {v:V} (h:Den K G .non v):v = .non:=by simp only [Den] at h; exact h
theorem Den.mt_ {a:Addr}{v:V} (h:Den K G (.mt a) v):v = .ref a:=by simp only [Den] at h; exact h
theorem Den.tup_ {ds:List D}{v:V} (h:Den K G (.tup ds) v):∃ a vs,v = .ref a/\SqT K G a vs/\Dens K G ds vs:=by simp only [Den] at h; exact h
theorem Den.lst_ {ds:List D}{v:V} (h:Den K G (.lst ds) v):∃ a vs,v = .ref a/\G a=some (.lst vs)/\Dens K G ds vs:=by simp only [Den] at h; exact h
theorem Den.fl_ {ds:List D}{v:V} (h:Den K G (.fl ds) v):∃ a vs,v = .ref a/\SqL K G a vs/\Dens K G ds vs:=by simp only [Den] at h; exact h
theorem Den.st_ {ks:List (List Int)}{v:V} (h:Den K G (.st ks) v):∃ a xs ep,v = .ref a/\StO K G (G a) a ks xs ep:=by simp only [Den] at h; exact h
inductive Seq (M:Mem):D->Bool->List D->Prop
 | tup (ds:List D):Seq M (.tup ds) false ds
 | lst (ds:List D):Seq M (.lst ds) true ds
 | fl (ds:List D):Seq M (.fl ds) true ds
 | mt {a:Addr}{ds:List D} (h:M a=some (.lst ds)):Seq M (.mt a) true ds
theorem Seq.sq {d:D}{t:Bool}{ds:List D}{v:V} (q:Seq M d t ds) (r:Rel K G H M) (h:Den K G d v):∃ a vs,v = .ref a/\(if t=true then SqL K H a vs else SqT K H a vs)/\Dens K G ds vs:=by
 cases q with
 | tup ds=>obtain ⟨a,vs,e,s,d⟩:=h.tup_; exact ⟨a,vs,e,R.eG r.same s,d⟩
 | lst ds=>obtain ⟨a,vs,e,s,d⟩:=h.lst_; exact ⟨a,vs,e,SqL.of (r.same _ _ s),d⟩
 | fl ds=>obtain ⟨a,vs,e,s,d⟩:=h.fl_; exact ⟨a,vs,e,r.same.seq s,d⟩
 | mt hm=>obtain ⟨_,vs,e,d⟩:=r.mem _ _ hm; exact ⟨_,vs,h.mt_,SqL.of e,d⟩
theorem Seq.sq2 {d:D}{t:Bool}{ds:List D}{v:V} (q:Seq M d t ds) (r:Rel K G H M) (h:Den K G d v):∃ a vs,v = .ref a/\(SqL K H a vs\/SqT K H a vs)/\Dens K G ds vs:=by
 obtain ⟨a,vs,e,s,d⟩:=q.sq r h
 refine ⟨a,vs,e,?_,d⟩
 cases t with
 | true=>exact .inl s
 | false=>exact .inr s
inductive Lst (M:Mem):D->List D->Prop
 | lst (ds:List D):Lst M (.lst ds) ds
 | mt {a:Addr}{ds:List D} (h:M a=some (.lst ds)):Lst M (.mt a) ds
theorem Lst.sq {d:D}{ds:List D}{v:V} (q:Lst M d ds) (r:Rel K G H M) (h:Den K G d v):∃ a vs,v = .ref a/\H a=some (.lst vs)/\Dens K G ds vs:=by
 cases q with
 | lst ds=>obtain ⟨a,vs,e,s,d⟩:=h.lst_; exact ⟨a,vs,e,r.same _ _ s,d⟩
 | mt hm=>obtain ⟨_,vs,e,d⟩:=r.mem _ _ hm; exact ⟨_,vs,h.mt_,e,d⟩
end
section
variable {X:Cx}{Γ:Gm}{M:Mem}{k:D->Mem->Prop}{kb:Bool->Mem->Prop}{pos:Pos}{a b c e:Expr}{es rest:List Expr}
theorem aB (i:Nat) {x:Str}{d:D} (hΓ:Γ[i]?=some (some d)) (h:k d M) (hN:X.N[i]?=some x:=by rfl) (hv:Vis X.env.scope x:=by first | exact Or.inl rfl | exact Or.inr (Or.inl rfl) | exact Or.inr (Or.inr rfl))
  (hd:(x == ("__debug__" : Str))=false:=by decide) (hcd:(x == ("__classdict__" : Str))=false:=by decide):GE X (.Name x pos) Γ M k :=
 fun σ G H Q en rl q=>cK (aGT hN hv hd hcd) (let ⟨v,e,dv⟩:=en.get i d hΓ; ⟨v,e,q v G H d M (Stp.refl rl) dv h⟩)
theorem z6 {i:Int}{j:Nat} (h:k (.int i) M):GE X (.Constant (.int i) j pos) Γ M k:=fun σ G H Q en rl q=>cK aNP (q _ G H _ M (Stp.refl rl) dJ h)
theorem kH {i:Bool}{j:Nat} (h:k (.bl i) M):GE X (.Constant (.bool i) j pos) Γ M k:=fun σ G H Q en rl q=>cK aQ0 (q _ G H _ M (Stp.refl rl) dG h)
theorem uP {j:Nat} (h:k .non M):GE X (.Constant .none j pos) Γ M k:=fun σ G H Q en rl q=>cK aPA (q _ G H _ M (Stp.refl rl) wH h)
theorem ge_str {x:Str}{j:Nat} (h:k (.str x) M):GE X (.Constant (.str x) j pos) Γ M k:=fun σ G H Q en rl q=>cK aOV (q _ G H _ M (Stp.refl rl) oM h)
theorem mV (h:GE X e Γ M fun d M1=>∃ a ds M2,d = .mt a/\M1 a=some (.lst ds)/\M2 a=none/\Le M2 M1/\k (.lst ds) M2):GE X e Γ M k:=fun σ G H Q en rl q =>
 h σ G H Q en rl fun v G1 H1 d M1 s1 e1 ⟨a,ds,M2,ed,h1,h2,h3,h4⟩=>by
  subst ed
  obtain ⟨vs,x1,x2,st⟩:=s1.rel.frz h1
  have l:Le M2 (kU M1 a):=fun b o z=>by rw [sV (fun y=>by rw [y,h2] at z; cases z)]; exact h3 b o z
  have st2:=st.trans (st.rel.drop l)
  exact q v _ _ (.lst ds) M2 (s1.trans st2) (by rw [e1.mt_]; exact jC bQ (x2.up st.gg)) h4
def Op2 (K:Fg) (r:R2) (d1 d2:D) (M:Mem) (k:D->Mem->Prop):Prop:=∀ G H v1 v2 Q,Rel K G H M->Den K G d1 v1->Den K G d2 v2->Cont K M k G H Q->r v1 v2 H Q
theorem two {r:R2} (h:GE X a Γ M fun d1 M1=>GE X b Γ M1 fun d2 M2=>Op2 X.K r d1 d2 M2 k) {σ:St}{G H:Hp}{Q:VK} (en:EnvR X.K G Γ σ) (rl:Rel X.K G H M) (q:Cont X.K M k G H Q):tOp r (tU X a) (tU X b) σ H Q:=by
 refine h σ G H _ en rl fun v1 G1 H1 d1 M1 s1 e1 h1 => ?_
 refine h1 σ G1 H1 _ (en.up s1.gg) s1.rel fun v2 G2 H2 d2 M2 s2 e2 h2 => ?_
 exact h2 G2 H2 v1 v2 Q s2.rel (e1.up s2.gg) e2 (q.up (s1.trans s2))
theorem aM {op:Operator}{r:R2} (ho:OpR X (binaryOp op) r) (h:GE X a Γ M fun d1 M1=>GE X b Γ M1 fun d2 M2=>Op2 X.K r d1 d2 M2 k):GE X (.BinOp a op b pos) Γ M k :=
 fun σ G H Q en rl q=>cK (aQS ho pU pU) (two h en rl q)
theorem gE {op:CmpOp}{r:R2} (ho:OpR X (compareOp op) r) (h:GE X a Γ M fun d1 M1=>GE X b Γ M1 fun d2 M2=>Op2 X.K r d1 d2 M2 k) (hm:behindInMarks op b=false:=by first | exact nomark _ | rfl):GE X (.Compare a [op] [b] pos) Γ M k :=
 fun σ G H Q en rl q=>cK (aKT ho pU pU hm) (two h en rl q)
theorem bC {op:CmpOp}{r:R2} (ho:OpR X (compareOp op) r) (h:GE X a Γ M fun d1 M1=>GE X b Γ M1 fun d2 M2=>Op2 X.K r d1 d2 M2 fun d M3=>∃ c,d = .bl c/\kb c M3) (hm:behindInMarks op b=false:=by first | exact nomark _ | rfl):GT X (.Compare a [op] [b] pos) Γ M kb :=
 fun σ G H Q en rl q=>vJ (aMJ ho pU pU hm) (two (k:=fun d M3=>∃ c,d = .bl c/\kb c M3) h en rl fun v G' H' d M' s e ⟨c,ed,hk⟩=>by subst ed; exact ⟨c,e.bl_,q c G' H' M' s hk⟩)
theorem aG {r:R2} (hr:IxR X r) (h:GE X a Γ M fun d1 M1=>GE X b Γ M1 fun d2 M2=>Op2 X.K r d1 d2 M2 k) (hs:aBU b:=by intro _ _; rfl):GE X (.Subscript a b pos) Γ M k :=
 fun σ G H Q en rl q=>cK (aQL hr pU pU hs) (two h en rl q)
theorem gA {op:UnaryOp}{g:Int->Int} (ho:UnR X (unaryOp op) (rU fun i => .int (g i))) (h:GE X a Γ M fun d M1=>∃ i,d = .int i/\k (.int (g i)) M1):GE X (.UnaryOp op a pos) Γ M k:=fun σ G H Q en rl q=>by
 refine cK (aQG ho pU) ?_
 refine h σ G H _ en rl fun v G1 H1 d M1 s1 e1 ⟨i,ed,h1⟩ => ?_
 subst ed
 exact ⟨i,e1.int_,q _ _ _ _ _ s1 dJ h1⟩
end
section
variable {K:Fg}{M:Mem}{k:D->Mem->Prop}{i j:Int}{x y:Str}
theorem bM {g:Int->Int->Int} (h:k (.int (g i j)) M):Op2 K (rI0 fun i j => .int (g i j)) (.int i) (.int j) M k:=fun G H v1 v2 Q rl e1 e2 q=>⟨i,j,e1.int_,e2.int_,q _ G H _ M (Stp.refl rl) dJ h⟩
theorem aZ {C:Int->Int->Prop}{g:Int->Int->Int} (hc:C i j) (h:k (.int (g i j)) M):Op2 K (rI C fun i j => .int (g i j)) (.int i) (.int j) M k:=fun G H v1 v2 Q rl e1 e2 q=>⟨i,j,e1.int_,e2.int_,hc,q _ G H _ M (Stp.refl rl) dJ h⟩
theorem eQ {g:Int->Int->Bool} (h:k (.bl (g i j)) M):Op2 K (rI0 fun i j => .bl (g i j)) (.int i) (.int j) M k:=fun G H v1 v2 Q rl e1 e2 q=>⟨i,j,e1.int_,e2.int_,q _ G H _ M (Stp.refl rl) dG h⟩
theorem iB (h:k (.bl (decide (i=j))) M):Op2 K rEq (.int i) (.int j) M k:=fun G H v1 v2 Q rl e1 e2 q=>by
 rw [e1.int_,e2.int_]
 exact ⟨rfl,by rw [show decide (V.int i=V.int j)=decide (i=j) from by simp]; exact q _ G H _ M (Stp.refl rl) dG h⟩
theorem aEV (h:k (.bl (!decide (i=j))) M):Op2 K rNe (.int i) (.int j) M k:=fun G H v1 v2 Q rl e1 e2 q=>by
 rw [e1.int_,e2.int_]
 exact ⟨rfl,by rw [show decide (V.int i=V.int j)=decide (i=j) from by simp]; exact q _ G H _ M (Stp.refl rl) dG h⟩
theorem aGP (h:k (.bl (decide (x=y))) M):Op2 K rEq (.str x) (.str y) M k:=fun G H v1 v2 Q rl e1 e2 q=>by
 rw [e1.str_,e2.str_]
 exact ⟨rfl,by rw [show decide (V.str x=V.str y)=decide (x=y) from by simp]; exact q _ G H _ M (Stp.refl rl) dG h⟩
theorem qM (h:k (.bl (!decide (x=y))) M):Op2 K rNe (.str x) (.str y) M k:=fun G H v1 v2 Q rl e1 e2 q=>by
 rw [e1.str_,e2.str_]
 exact ⟨rfl,by rw [show decide (V.str x=V.str y)=decide (x=y) from by simp]; exact q _ G H _ M (Stp.refl rl) dG h⟩
theorem aH {d1 d:D}{t:Bool}{ds:List D} (q1:Seq M d1 t ds) (e:atI ds i=some d) (h:k d M):Op2 K (rIx K) d1 (.int i) M k:=fun G H v1 v2 Q rl e1 e2 q=>by
 obtain ⟨a,vs,ev,s,dn⟩:=q1.sq2 rl e1
 obtain ⟨v,ei,dv⟩:=dn.atI e
 rw [ev,e2.int_]
 exact R.aQK s ei (q v G H d M (Stp.refl rl) dv h)
theorem rH {z:Str}{c:Nat} (hz:z.length<=sizeLine) (e:atI z.cps.toList i=some c) (h:k (.str ⟨#[c]⟩) M):Op2 K (rIx K) (.str z) (.int i) M k:=fun G H v1 v2 Q rl e1 e2 q =>
 .inr (.inr ⟨z,i,c,e1.str_,e2.int_,hz,e,q _ G H _ M (Stp.refl rl) oM h⟩)
theorem aC0 (h1 : -(2 ^ 40)<=i) (h2:i < 2 ^ 40) (h3:x.length * i.toNat<=sizeLine) (h:k (.str (mD x i.toNat)) M):Op2 K aKA (.str x) (.int i) M k :=
 fun G H v1 v2 Q rl e1 e2 q=>⟨x,i,e1.str_,e2.int_,h1,h2,h3,q _ G H _ M (Stp.refl rl) oM h⟩
theorem o0 {d1 d2:D}{xs ys:List D} (q1:Lst M d1 xs) (q2:Lst M d2 ys) (hl:xs.length+ys.length<=sizeLine) (h:k (.lst (xs++ys)) M):Op2 K rCat d1 d2 M k:=fun G H v1 v2 Q rl e1 e2 q=>by
 obtain ⟨a,vs,ev,s,dn⟩:=q1.sq rl e1
 obtain ⟨b,ws,ew,s2,dn2⟩:=q2.sq rl e2
 refine ⟨a,b,vs,ws,ev,ew,s,s2,by rw [<- dn.len,<- dn2.len]; exact hl,fun p hp => ?_⟩
 have st:=rl.new (o := .lst (vs++ws)) hp
 exact q _ _ _ _ _ st (jC bQ ((dn.append dn2).up st.gg)) h
end
end Z
namespace Z
open PySem L2
section
variable {X:Cx}{Γ:Gm}{M:Mem}{k:D->Mem->Prop}{kb:Bool->Mem->Prop}{pos:Pos}{a b c e o:Expr}{es rest:List Expr}
theorem b4 (h:GE X e Γ M fun d M1=>∃ c,d = .bl c/\kb c M1) (he:∀ whole,isTrue e X.env whole=(do let v <- whole; standAt e.pos; holding [v] (truthy v)):=by intro _; rfl):GT X e Γ M kb:=fun σ G H Q en rl q=>by
 refine vJ (aPZ pU he) ?_
 exact h σ G H _ en rl fun v G1 H1 d M1 s1 e1 ⟨c,ed,h1⟩=>by subst ed; exact ⟨c,e1.bl_,q _ _ _ _ s1 h1⟩
inductive Tru (M:Mem):D->Bool->Prop
 | seq {d:D}{t:Bool}{ds:List D} (q:Seq M d t ds):Tru M d (!ds.isEmpty)
 | str (x:Str) (h:x.length<=sizeLine):Tru M (.str x) ((x.length:Int) != 0)
 | bl (b:Bool):Tru M (.bl b) b
 | int (i:Int):Tru M (.int i) (i != 0)
 | non:Tru M .non false
theorem aAO {K:Fg}{G:Hp}{ds:List D}{vs:List V} (h:Dens K G ds vs):ds.isEmpty=vs.isEmpty:=by
 cases ds with
 | nil=>rw [cZ h]; rfl
 | cons d ds=>obtain ⟨v,r,rfl,_⟩:=cC h; rfl
theorem mI (h:GE X e Γ M fun d M1=>∃ c,Tru M1 d c/\kb c M1) (he:∀ whole,isTrue e X.env whole=(do let v <- whole; standAt e.pos; holding [v] (truthy v)):=by intro _; rfl):GT X e Γ M kb:=fun σ G H Q en rl q=>by
 refine vJ (aI0 pU he) ?_
 refine h σ G H _ en rl fun v G1 H1 d M1 s1 e1 ⟨c,tr,h1⟩=>⟨c,?_,q _ _ _ _ s1 h1⟩
 cases tr with
 | seq sq =>
  obtain ⟨a,vs,ev,s,dn⟩:=sq.sq2 s1.rel e1
  subst ev
  rw [aAO dn]
  rcases s with s | s
  ·exact .inl ⟨vs,s,rfl⟩
  ·exact .inr (.inl ⟨vs,s,rfl⟩)
 | str x hx=>rw [e1.str_]; exact ⟨hx,rfl⟩
 | bl b=>rw [e1.bl_]; rfl
 | int i=>rw [e1.int_]; rfl
 | non=>rw [e1.non_]; rfl
theorem c6 (h:GT X a Γ M fun c M1=>kb (!c) M1):GT X (.UnaryOp .Not a pos) Γ M kb:=fun σ G H Q en rl q=>by
 refine vJ (aNN pUT) ?_
 exact h σ G H _ en rl fun c G1 H1 M1 s1 h1=>q _ _ _ _ s1 h1
theorem f7 (h:GW X e Γ M kb):GT X e Γ M kb:=fun σ G H Q en rl q pins s I=>h σ G H Q en rl q (eval e X.env) pins s I
theorem oN (h:GT X a Γ M kb):GW X (.BoolOp .And [a] pos) Γ M kb:=fun σ G H Q en rl q=>uO (aLG pUT) (h σ G H _ en rl q)
theorem iU (h:GT X a Γ M kb):GW X (.BoolOp .Or [a] pos) Γ M kb:=fun σ G H Q en rl q=>uO (aNW pUT) (h σ G H _ en rl q)
theorem kL (h:GT X a Γ M fun c M1=>if c=true then GW X (.BoolOp .And (b::rest) pos) Γ M1 kb else kb false M1):GW X (.BoolOp .And (a::b::rest) pos) Γ M kb:=fun σ G H Q en rl q=>by
 refine uO (aO7 pUT pUW) ?_
 refine h σ G H _ en rl fun c G1 H1 M1 s1 h1 => ?_
 cases c with
 | true=>rw [if_pos rfl] at h1 ⊢; exact h1 σ G1 H1 _ (en.up s1.gg) s1.rel (q.up s1)
 | false=>rw [if_neg zBf] at h1 ⊢; exact q _ _ _ _ s1 h1
theorem gU (h:GT X a Γ M fun c M1=>if c=true then kb true M1 else GW X (.BoolOp .Or (b::rest) pos) Γ M1 kb):GW X (.BoolOp .Or (a::b::rest) pos) Γ M kb:=fun σ G H Q en rl q=>by
 refine uO (aQ6 pUT pUW) ?_
 refine h σ G H _ en rl fun c G1 H1 M1 s1 h1 => ?_
 cases c with
 | true=>rw [if_pos rfl] at h1 ⊢; exact q _ _ _ _ s1 h1
 | false=>rw [if_neg zBf] at h1 ⊢; exact h1 σ G1 H1 _ (en.up s1.gg) s1.rel (q.up s1)
theorem iQ {op:BoolOp} (h:GE X a Γ M k):GE X (.BoolOp op [a] pos) Γ M k:=fun σ G H Q en rl q=>cK (aOE pU) (h σ G H _ en rl q)
theorem jK (h:GE X a Γ M fun d M1=>∃ c,d = .bl c/\if c=true then GE X (.BoolOp .And (b::rest) pos) Γ M1 k else k (.bl false) M1):GE X (.BoolOp .And (a::b::rest) pos) Γ M k:=fun σ G H Q en rl q=>by
 refine cK (aN0 pU pU) ?_
 refine h σ G H _ en rl fun v G1 H1 d M1 s1 e1 ⟨c,ed,h1⟩ => ?_
 subst ed
 refine ⟨c,e1.bl_,?_⟩
 cases c with
 | true=>rw [if_pos rfl] at h1 ⊢; exact h1 σ G1 H1 _ (en.up s1.gg) s1.rel (q.up s1)
 | false=>rw [if_neg zBf] at h1 ⊢; exact q _ _ _ _ _ s1 dG h1
theorem aQD (h:GE X a Γ M fun d M1=>∃ c,d = .bl c/\if c=true then k (.bl true) M1 else GE X (.BoolOp .Or (b::rest) pos) Γ M1 k):GE X (.BoolOp .Or (a::b::rest) pos) Γ M k:=fun σ G H Q en rl q=>by
 refine cK (aQX pU pU) ?_
 refine h σ G H _ en rl fun v G1 H1 d M1 s1 e1 ⟨c,ed,h1⟩ => ?_
 subst ed
 refine ⟨c,e1.bl_,?_⟩
 cases c with
 | true=>rw [if_pos rfl] at h1 ⊢; exact q _ _ _ _ _ s1 dG h1
 | false=>rw [if_neg zBf] at h1 ⊢; exact h1 σ G1 H1 _ (en.up s1.gg) s1.rel (q.up s1)
theorem oJ (h:GE X a Γ M fun d M1=>∃ c,d = .bl c/\k (.bl (!c)) M1):GE X (.UnaryOp .Not a pos) Γ M k:=fun σ G H Q en rl q=>by
 refine cK (aNO pU) ?_
 exact h σ G H _ en rl fun v G1 H1 d M1 s1 e1 ⟨c,ed,h1⟩=>by subst ed; exact ⟨c,e1.bl_,q _ _ _ _ _ s1 dG h1⟩
theorem lZ (h:GT X c Γ M fun t M1=>if t=true then GE X a Γ M1 k else GE X b Γ M1 k):GE X (.IfExp c a b pos) Γ M k:=fun σ G H Q en rl q=>by
 refine cK (aIU pUT pU pU) ?_
 refine h σ G H _ en rl fun t G1 H1 M1 s1 h1 => ?_
 cases t with
 | true=>rw [if_pos rfl] at h1 ⊢; exact h1 σ G1 H1 _ (en.up s1.gg) s1.rel (q.up s1)
 | false=>rw [if_neg zBf] at h1 ⊢; exact h1 σ G1 H1 _ (en.up s1.gg) s1.rel (q.up s1)
variable {ka:List D->Mem->Prop}
theorem aC (h:ka [] M):GA X [] Γ M ka:=fun σ G H Q en rl q=>aEZ aHD (q _ _ _ _ _ (Stp.refl rl) dB h)
theorem aA (h:GE X e Γ M fun d M1=>GA X es Γ M1 fun ds M2=>ka (d::ds) M2) (hs:starEach (e::es) X.env=(false,eval e X.env)::starEach es X.env:=by rfl):GA X (e::es) Γ M ka:=fun σ G H Q en rl q=>by
 refine aEZ (wI pU pUA hs) ?_
 refine h σ G H _ en rl fun v G1 H1 d M1 s1 e1 h1 => ?_
 exact h1 σ G1 H1 _ (en.up s1.gg) s1.rel fun vs G2 H2 ds M2 s2 e2 h2=>q _ _ _ _ _ (s1.trans s2) (cB (e1.up s2.gg) e2) h2
theorem bV {x1} (h:GA X es Γ M fun ds M1=>ds.length<=sizeLine/\k (.tup ds) M1):GE X (.Tuple es x1 pos) Γ M k:=fun σ G H Q en rl q=>by
 refine cK (aN2 pUA) ?_
 refine h σ G H _ en rl fun vs G1 H1 ds M1 s1 e1 ⟨hl,h1⟩=>⟨by rw [<- e1.len]; exact hl,fun p hp => ?_⟩
 have st:=s1.rel.new (o := .tup vs) hp
 exact q _ _ _ _ _ (s1.trans st) (iH (SqT.of bQ) (e1.up st.gg)) h1
theorem dR (h:GA X es Γ M fun ds M1=>ds.length<=sizeLine/\k (.lst ds) M1):GE X (.List es pos) Γ M k:=fun σ G H Q en rl q=>by
 refine cK (aEW pUA) ?_
 refine h σ G H _ en rl fun vs G1 H1 ds M1 s1 e1 ⟨hl,h1⟩=>⟨by rw [<- e1.len]; exact hl,fun p hp => ?_⟩
 have st:=s1.rel.new (o := .lst vs) hp
 exact q _ _ _ _ _ (s1.trans st) (jC bQ (e1.up st.gg)) h1
theorem iF (h:GA X es Γ M fun ds M1=>ds.length<=sizeLine/\∀ a,M1 a=none->k (.mt a) (b7 M1 a (.lst ds))):GE X (.List es pos) Γ M k:=fun σ G H Q en rl q=>by
 refine cK (aEW pUA) ?_
 refine h σ G H _ en rl fun vs G1 H1 ds M1 s1 e1 ⟨hl,h1⟩=>⟨by rw [<- e1.len]; exact hl,fun p hp => ?_⟩
 exact q _ _ _ _ _ (s1.trans (s1.rel.newM hp e1)) yI (h1 p (s1.rel.free hp).2)
abbrev Ct:=List D->Mem->(D->Mem->Prop)->Prop
def spZ (K:Fg) (F:Ct):Sp:=fun vs H Q _=>∃ G M ds k,Rel K G H M/\Dens K G ds vs/\F ds M k/\Cont K M k G H Q
theorem aL8 {n:Nat}{f:Addr}{fd:FuncData}{ps:List Str}{x:Str}{p:Pos}{F:Ct} (Fk:FnOk X.prog X.w X.K X.mg X.base CX0 n f fd ps (spZ X.K F)) (hr:Room n X.A) (hm:X.mg x=some (.ref f)) (hk:PySem.W.keepIn X.K (.ref f)=true) (hb:Binds X.K fd ps [])
  (h:GA X (e::es) Γ M fun ds M1=>F ds M1 k) (hg:Gl X x:=by rfl) (hdb:(x == ("__debug__" : Str))=false:=by decide) (he:starEach (e::es) X.env=(false,eval e X.env)::starEach es X.env:=by rfl) (hpl:(backTo pos (starEach es X.env)).any (·.1)=false:=by rfl) :
  GE X (.Call (.Name x p) (e::es) [] pos) Γ M k:=fun σ G H Q en rl q=>by
 refine cK (aNE Fk hr hg hm hk hb .nil pass0 pUA hdb he hpl) ?_
 refine h σ G H _ en rl fun vs G1 H1 ds M1 s1 e1 h1 => ?_
 show spZ X.K F (vs++[]) H1 Q E0
 rw [List.append_nil]
 exact ⟨G1,M1,ds,k,s1.rel,e1,h1,q.up s1⟩
def OpN (K:Fg) (r:List V->Hp->VK->Prop) (ds:List D) (M:Mem) (k:D->Mem->Prop):Prop:=∀ G H vs Q,Rel K G H M->Dens K G ds vs->Cont K M k G H Q->r vs H Q
theorem aW {x:Str}{p:Pos}{id:String}{r:List V->Hp->VK->Prop} (hc:iE X (.builtin id) r) (hm:X.mg x=none) (hv:bootBuiltins x=some (.builtin id))
  (h:GA X (e::es) Γ M fun ds M1=>OpN X.K r ds M1 k) (hg:Gl X x:=by rfl) (hn:x ≠ "__name__" := by decide) (hdb:(x == ("__debug__" : Str))=false:=by decide)
  (he:starEach (e::es) X.env=(false,eval e X.env)::starEach es X.env:=by rfl) (hpl:(backTo pos (starEach es X.env)).any (·.1)=false:=by rfl):GE X (.Call (.Name x p) (e::es) [] pos) Γ M k:=fun σ G H Q en rl q=>by
 refine cK (aAU hc hg hm hv pUA hn hdb he hpl) ?_
 exact h σ G H _ en rl fun vs G1 H1 ds M1 s1 e1 h1=>h1 G1 H1 vs Q s1.rel e1 (q.up s1)
theorem c5 {x:Str}{p:Pos}{T:String}{r:List V->Hp->VK->Prop} (hc:iE X (.type T) r) (hm:X.mg x=none) (hv:bootBuiltins x=some (.type T))
  (h:GA X (e::es) Γ M fun ds M1=>OpN X.K r ds M1 k) (hg:Gl X x:=by rfl) (hn:x ≠ "__name__" := by decide) (hdb:(x == ("__debug__" : Str))=false:=by decide)
  (he:starEach (e::es) X.env=(false,eval e X.env)::starEach es X.env:=by rfl) (hpl:(backTo pos (starEach es X.env)).any (·.1)=false:=by rfl):GE X (.Call (.Name x p) (e::es) [] pos) Γ M k:=fun σ G H Q en rl q=>by
 refine cK (aFT hc hg hm hv pUA hn hdb he hpl) ?_
 exact h σ G H _ en rl fun vs G1 H1 ds M1 s1 e1 h1=>h1 G1 H1 vs Q s1.rel e1 (q.up s1)
theorem dens1 {K:Fg}{G:Hp}{d:D}{vs:List V} (h:Dens K G [d] vs):∃ v,vs=[v]/\Den K G d v:=by
 obtain ⟨v,r,rfl,h1,h2⟩:=cC h
 rw [cZ h2]; exact ⟨v,rfl,h1⟩
theorem dens2 {K:Fg}{G:Hp}{d c:D}{vs:List V} (h:Dens K G [d,c] vs):∃ v u,vs=[v,u]/\Den K G d v/\Den K G c u:=by
 obtain ⟨v,r,rfl,h1,h2⟩:=cC h
 obtain ⟨u,rfl,h3⟩:=dens1 h2
 exact ⟨v,u,rfl,h1,h3⟩
theorem cL {K:Fg}{d:D}{t:Bool}{ds:List D} (q1:Seq M d t ds) (h:k (.int (ds.length:Int)) M):OpN K (fun xs H Q=>∃ x n,xs=[x]/\aJC K x H n/\Q (.int n) H) [d] M k:=fun G H vs Q rl e q=>by
 obtain ⟨v,rfl,dv⟩:=dens1 e
 obtain ⟨a,ws,ev,s,dn⟩:=q1.sq2 rl dv
 subst ev
 refine ⟨_,ds.length,rfl,?_,q _ _ _ _ _ (Stp.refl rl) dJ h⟩
 rcases s with s | s
 ·exact .inl ⟨ws,s,dn.len⟩
 ·exact .inr ⟨ws,s,dn.len⟩
theorem j4 {K:Fg}{x:Str} (hz:x.length<=sizeLine) (h:k (.int (x.length:Int)) M):OpN K (fun xs H Q=>∃ x n,xs=[x]/\aJC K x H n/\Q (.int n) H) [.str x] M k:=fun G H vs Q rl e q=>by
 obtain ⟨v,rfl,dv⟩:=dens1 e
 rw [dv.str_]
 exact ⟨_,x.length,rfl,⟨hz,rfl⟩,q _ _ _ _ _ (Stp.refl rl) dJ h⟩
theorem qV {K:Fg}{i:Int} (h:k (.int (if i < 0 then -i else i)) M):OpN K (fun xs H Q=>∃ i,xs=[.int i]/\Q (.int (if i < 0 then -i else i)) H) [.int i] M k:=fun G H vs Q rl e q=>by
 obtain ⟨v,rfl,dv⟩:=dens1 e
 rw [dv.int_]
 exact ⟨i,rfl,q _ _ _ _ _ (Stp.refl rl) dJ h⟩
theorem uU {K:Fg}{i j:Int} (h:k (.int (if j > i then j else i)) M):OpN K (fun xs H Q=>∃ i j,xs=[.int i, .int j]/\Q (.int (if j > i then j else i)) H) [.int i, .int j] M k:=fun G H vs Q rl e q=>by
 obtain ⟨v,u,rfl,dv,du⟩:=dens2 e
 rw [dv.int_,du.int_]
 exact ⟨i,j,rfl,q _ _ _ _ _ (Stp.refl rl) dJ h⟩
theorem aOF {K:Fg}{i j:Int} (h:k (.int (if j < i then j else i)) M):OpN K (fun xs H Q=>∃ i j,xs=[.int i, .int j]/\Q (.int (if j < i then j else i)) H) [.int i, .int j] M k:=fun G H vs Q rl e q=>by
 obtain ⟨v,u,rfl,dv,du⟩:=dens2 e
 rw [dv.int_,du.int_]
 exact ⟨i,j,rfl,q _ _ _ _ _ (Stp.refl rl) dJ h⟩
theorem rN {K:Fg}{d:D}{t:Bool}{ds:List D} (q1:Seq M d t ds) (h:k (.lst ds) M):OpN K (fun xs H Q=>∃ p ys,xs=[.ref p]/\(SqL K H p ys\/SqT K H p ys)/\∀ l,H l=none->Q (.ref l) (upd H l (.lst ys))) [d] M k:=fun G H vs Q rl e q=>by
 obtain ⟨v,rfl,dv⟩:=dens1 e
 obtain ⟨a,ws,ev,s,dn⟩:=q1.sq2 rl dv
 subst ev
 refine ⟨a,ws,rfl,s,fun l hl => ?_⟩
 have st:=rl.new (o := .lst ws) hl
 exact q _ _ _ _ _ st (jC bQ (dn.up st.gg)) h
theorem fZ {K:Fg}{d:D}{t:Bool}{ds:List D} (q1:Seq M d t ds) (h:k (.tup ds) M):OpN K (fun xs H Q=>∃ p ys,xs=[.ref p]/\((SqL K H p ys/\∀ l,H l=none->Q (.ref l) (upd H l (.tup ys)))\/(SqT K H p ys/\Q (.ref p) H))) [d] M k:=fun G H vs Q rl e q=>by
 obtain ⟨v,rfl,dv⟩:=dens1 e
 cases q1 with
 | tup ds =>
  obtain ⟨a,ws,ev,s,dn⟩:=dv.tup_
  subst ev
  exact ⟨a,ws,rfl, .inr ⟨R.eG rl.same s,q _ _ _ _ _ (Stp.refl rl) dv h⟩⟩
 | lst ds =>
  obtain ⟨a,ws,ev,s,dn⟩:=(Seq.lst ds).sq rl dv
  subst ev
  refine ⟨a,ws,rfl, .inl ⟨s,fun l hl => ?_⟩⟩
  have st:=rl.new (o := .tup ws) hl
  exact q _ _ _ _ _ st (iH (SqT.of bQ) (dn.up st.gg)) h
 | fl ds =>
  obtain ⟨a,ws,ev,s,dn⟩:=(Seq.fl ds).sq rl dv
  subst ev
  refine ⟨a,ws,rfl, .inl ⟨s,fun l hl => ?_⟩⟩
  have st:=rl.new (o := .tup ws) hl
  exact q _ _ _ _ _ st (iH (SqT.of bQ) (dn.up st.gg)) h
 | mt hm =>
  obtain ⟨a,ws,ev,s,dn⟩:=(Seq.mt hm).sq rl dv
  subst ev
  refine ⟨a,ws,rfl, .inl ⟨s,fun l hl => ?_⟩⟩
  have st:=rl.new (o := .tup ws) hl
  exact q _ _ _ _ _ st (iH (SqT.of bQ) (dn.up st.gg)) h
theorem aB4 {K:Fg}{G:Hp}:∀ {bs:List Bool}{vs:List V},Dens K G (bs.map D.bl) vs->vs=bs.map V.bl
 | [],_,h=>cZ h
 | b::bs,_,h=>by
  obtain ⟨v,r,rfl,h1,h2⟩:=cC h
  rw [h1.bl_,aB4 h2]; rfl
theorem aAV {K:Fg}{G:Hp}:∀ {bs:List Str}{vs:List V},Dens K G (bs.map D.str) vs->vs=bs.map V.str
 | [],_,h=>cZ h
 | b::bs,_,h=>by
  obtain ⟨v,r,rfl,h1,h2⟩:=cC h
  rw [h1.str_,aAV h2]; rfl
theorem mH {K:Fg}{d:D}{t:Bool}{bs:List Bool}{g:List Bool->Bool} (q1:Seq M d t (bs.map D.bl)) (h:k (.bl (g bs)) M):OpN K (aJ3 K g) [d] M k:=fun G H vs Q rl e q=>by
 obtain ⟨v,rfl,dv⟩:=dens1 e
 obtain ⟨a,ws,ev,s,dn⟩:=q1.sq2 rl dv
 subst ev
 rw [aB4 dn] at s
 exact ⟨a,bs,rfl,s,q _ _ _ _ _ (Stp.refl rl) dG h⟩
def TyD (T:String) (d:D) (M:Mem):Prop:=match d with
 | .str _=>T = "str"
 | .lst _=>T = "list"
 | .mt a=>T = "list" /\ ∃ ds,M a=some (.lst ds)
 | _=>False
theorem TyD.ok {K:Fg}{G H:Hp}{T:String}{d:D}{v:V} (h:TyD T d M) (rl:Rel K G H M) (e:Den K G d v):tyV K T v H:=by
 cases d with
 | str x=>rw [e.str_]; exact h
 | lst ds=>obtain ⟨a,vs,ev,s,_⟩:=e.lst_; rw [ev]; exact .inl ⟨h,vs,SqL.of (rl.same _ _ s)⟩
 | mt a =>
  obtain ⟨h1,ds,h2⟩:=h
  obtain ⟨_,vs,s,_⟩:=rl.mem _ _ h2
  rw [e.mt_]; exact .inl ⟨h1,vs,SqL.of s⟩
 | _=>exact False.elim h
def OpM (K:Fg) (r:V->List V->Hp->VK->Prop) (d:D) (ds:List D) (M:Mem) (k:D->Mem->Prop):Prop:=∀ G H v vs Q,Rel K G H M->Den K G d v->Dens K G ds vs->Cont K M k G H Q->r v vs H Q
theorem fS {T id:String}{name:Str}{apos cpos:Pos}{r:V->List V->Hp->VK->Prop} (pa:PlainAttrs T) (slot:Slot T name id) (hty:typeOf (.builtin id)=pure (.type "method_descriptor")) (hm:MtR X id r)
  (h:GE X o Γ M fun d M1=>TyD T d M1/\GA X (e::es) Γ M1 fun ds M2=>OpM X.K r d ds M2 k)
  (hbase:attributeBase o name X.env (eval o X.env)=eval o X.env:=by rfl)
  (hfew:((backTo cpos (starEach (e::es) X.env)).all (fun x => !x.1) && (backToKw cpos (keywordEach [] X.env)).all (fun x=>x.1.isSome)
   && decide ((e::es).length+([]:List Keyword).length+(if ([]:List Keyword).isEmpty then 0 else 1) < 30))=true:=by rfl)
  (hline:(apos.endLine == cpos.line)=true:=by rfl) (hs:starEach (e::es) X.env=(false,eval e X.env)::starEach es X.env:=by rfl) (hplain:(backTo cpos (starEach es X.env)).any (·.1)=false:=by rfl) :
  GE X (.Call (.Attribute o name apos) (e::es) [] cpos) Γ M k:=fun σ G H Q en rl q=>by
 refine cK (aQR pa slot hty hm pU pUA hbase hfew hline hs hplain) ?_
 refine h σ G H _ en rl fun v G1 H1 d M1 s1 e1 ⟨ty,h1⟩=>⟨ty.ok s1.rel e1,?_⟩
 exact h1 σ G1 H1 _ (en.up s1.gg) s1.rel fun vs G2 H2 ds M2 s2 e2 h2=>h2 G2 H2 v vs Q s2.rel (e1.up s2.gg) e2 (q.up (s1.trans s2))
theorem dD {K:Fg}{a:Addr}{ds:List D}{d:D} (hm:M a=some (.lst ds)) (hl:ds.length < sizeLine) (h:k .non (b7 M a (.lst (ds++[d])))):OpM K aCU (.mt a) [d] M k:=fun G H v vs Q rl e e2 q=>by
 obtain ⟨u,rfl,du⟩:=dens1 e2
 obtain ⟨_,ws,s,dn⟩:=rl.mem _ _ hm
 exact ⟨a,ws,u,e.mt_,rfl,s,by rw [<- dn.len]; exact hl,q _ _ _ _ _ (rl.wr hm (dn.append (cB du dB))) wH h⟩
theorem rZ {K:Fg}{sep:Str}{d:D}{t:Bool}{ys:List Str} (q1:Seq M d t (ys.map D.str)) (h1:sep.length<=16) (h2:(ys.map (·.length)).sum+ys.length<=1048576) (h:k (.str (PySem.Txt.join sep ys)) M):OpM K (rJoin K) (.str sep) [d] M k:=fun G H v vs Q rl e e2 q=>by
 obtain ⟨u,rfl,du⟩:=dens1 e2
 obtain ⟨a,ws,ev,s,dn⟩:=q1.sq2 rl du
 subst ev
 rw [aAV dn] at s
 exact ⟨sep,a,ys,e.str_,rfl,s,h1,h2,q _ _ _ _ _ (Stp.refl rl) oM h⟩
end
end Z
namespace Z
open PySem L2
section
variable {X:Cx}{Γ:Gm}{M:Mem}{k:D->Mem->Prop}{kb:Bool->Mem->Prop}{pos:Pos}{a b c e o:Expr}{es rest:List Expr}{lo hi:Option Expr}{ko:Option Int->Mem->Prop}
def tUO (X:Cx) (e:Option Expr):TO:=fun σ H Q=>∀ pins s,Inv X pins σ H s->wpAny (model X.prog X.w) X.A (evalPart e X.env) (fun u s'=>∃ o H',Inv X pins σ H' s'/\IsPart u o/\Q o H') X.xe s
theorem pUO {e:Option Expr}:PO X e (tUO X e):=fun pins s σ H Q I h=>h pins s I
theorem aE0 {e:Option Expr}{t:TO} (p:PO X e t) {σ:St}{H:Hp}{Q:Option Int->Hp->Prop} (h:t σ H Q):tUO X e σ H Q:=fun pins s I=>p pins s σ H Q I h
def GO (X:Cx) (e:Option Expr) (Γ:Gm) (M:Mem) (ko:Option Int->Mem->Prop):Prop :=
 ∀ σ G H Q,EnvR X.K G Γ σ->Rel X.K G H M->(∀ o G' H' M',Stp X.K G H M G' H' M'->ko o M'->Q o H')->tUO X e σ H Q
theorem gJ (h:ko none M):GO X none Γ M ko:=fun σ G H Q en rl q=>aE0 aKL (q _ _ _ _ (Stp.refl rl) h)
theorem gL (h:GE X e Γ M fun d M1=>∃ i,d = .int i/\ko (some i) M1):GO X (some e) Γ M ko:=fun σ G H Q en rl q=>aE0 (aLX pU) (h σ G H _ en rl fun v G1 H1 d M1 s1 e1 ⟨i,ed,h1⟩=>by subst ed; exact ⟨i,e1.int_,q _ _ _ _ s1 h1⟩)
abbrev R3:=V->Option Int->Option Int->Hp->VK->Prop
def Op3 (K:Fg) (r:R3) (d:D) (l u:Option Int) (M:Mem) (k:D->Mem->Prop):Prop:=∀ G H v Q,Rel K G H M->Den K G d v->Cont K M k G H Q->r v l u H Q
theorem fH {r:R3}{p2:Pos} (hr:SlR X r) (h:GE X e Γ M fun d M1=>GO X lo Γ M1 fun l M2=>GO X hi Γ M2 fun u M3=>Op3 X.K r d l u M3 k):GE X (.Subscript e (.Slice lo hi none p2) pos) Γ M k:=fun σ G H Q en rl q=>by
 refine cK (aJX hr pU pUO pUO) ?_
 refine h σ G H _ en rl fun v G1 H1 d M1 s1 e1 h1 => ?_
 refine h1 σ G1 H1 _ (en.up s1.gg) s1.rel fun l G2 H2 M2 s2 h2 => ?_
 refine h2 σ G2 H2 _ (en.up (s1.trans s2).gg) s2.rel fun u G3 H3 M3 s3 h3 => ?_
 exact h3 G3 H3 v Q s3.rel (e1.up (s2.trans s3).gg) (q.up ((s1.trans s2).trans s3))
def cutD {α:Type} (xs:List α) (lo hi:Option Int):List α:=(xs.drop (HT.sIx xs.length 0 lo)).take (HT.sIx xs.length xs.length hi - HT.sIx xs.length 0 lo)
theorem Dens.cut {K:Fg}{G:Hp}{ds:List D}{vs:List V} (h:Dens K G ds vs) (l u:Option Int):Dens K G (cutD ds l u) (oE vs l u):=by
 unfold cutD oE
 rw [<- h.len]
 exact (h.drop _).take _
theorem kJ {K:Fg}{d:D}{ds:List D}{l u:Option Int} (q1:Seq M d true ds) (h:k (.lst (cutD ds l u)) M):Op3 K (rSlL K) d l u M k:=fun G H v Q rl e q=>by
 obtain ⟨a,vs,ev,s,dn⟩:=q1.sq rl e
 refine ⟨a,vs,ev,s,fun p hp => ?_⟩
 have st:=rl.new (o := .lst (oE vs l u)) hp
 exact q _ _ _ _ _ st (jC bQ ((dn.cut l u).up st.gg)) h
theorem aEU {K:Fg}{ds:List D}{l u:Option Int} (hw:¬ (HT.sIx ds.length 0 l=0/\HT.sIx ds.length ds.length u=ds.length)) (h:k (.tup (cutD ds l u)) M):Op3 K (rSlT K) (.tup ds) l u M k:=fun G H v Q rl e q=>by
 obtain ⟨a,vs,ev,s,dn⟩:=(Seq.tup ds).sq rl e
 refine ⟨a,vs,ev,s,by rw [<- dn.len]; exact hw,fun p hp => ?_⟩
 have st:=rl.new (o := .tup (oE vs l u)) hp
 exact q _ _ _ _ _ st (iH (SqT.of bQ) ((dn.cut l u).up st.gg)) h
structure YD (K:Fg) (J:It) (ds:List D) (G0:Hp):Prop where
 go:∀ i G H M,Same G0 G->Rel K G H M->i < ds.length->J.go i H
 yld:∀ i G H M x H',Same G0 G->Rel K G H M->i < ds.length->J.yld i H x H'->∃ G' d,Stp K G H M G' H' M/\ds[i]?=some d/\Den K G' d x
 stop:∀ i G H M,Same G0 G->Rel K G H M->i=ds.length->J.stop i H
theorem aCR {K:Fg}{a:Addr}{vs:List V}{ds:List D}{G0:Hp} (s:SqL K G0 a vs) (dn:Dens K G0 ds vs):YD K (Itl K a) ds G0 where
 go:=fun i G H M sg rl h=>wF.go i H (rl.same.seq (sg.seq s)) (by rw [<- dn.len]; exact h)
 yld:=fun i G H M x H' sg rl h y=>by
  obtain ⟨e,hx⟩:=wF.yld i H x H' (rl.same.seq (sg.seq s)) y (by rw [<- dn.len]; exact h)
  subst e
  obtain ⟨d,hd,e⟩:=dn.get' hx
  exact ⟨G,d,Stp.refl rl,hd,e.up sg⟩
 stop:=fun i G H M sg rl h=>wF.stop i H (rl.same.seq (sg.seq s)) (by rw [<- dn.len]; exact Nat.le_of_eq h.symm)
theorem aPW {K:Fg}{a:Addr}{vs:List V}{ds:List D}{G0:Hp} (s:SqT K G0 a vs) (dn:Dens K G0 ds vs):YD K (Itt K a) ds G0 where
 go:=fun i G H M sg rl h=>zW.go i H (R.eG rl.same (R.eG sg s)) (by rw [<- dn.len]; exact h)
 yld:=fun i G H M x H' sg rl h y=>by
  obtain ⟨e,hx⟩:=zW.yld i H x H' (R.eG rl.same (R.eG sg s)) y (by rw [<- dn.len]; exact h)
  subst e
  obtain ⟨d,hd,e⟩:=dn.get' hx
  exact ⟨G,d,Stp.refl rl,hd,e.up sg⟩
 stop:=fun i G H M sg rl h=>zW.stop i H (R.eG rl.same (R.eG sg s)) (by rw [<- dn.len]; exact Nat.le_of_eq h.symm)
def rD (lo:Int) (n:Nat):List D:=(List.range n).map fun i=>D.int (lo+(i:Nat))
theorem cP (lo:Int) (n:Nat):(rD lo n).length=n:=by simp [rD]
theorem fJ {lo:Int}{n i:Nat}{d:D} (h:(rD lo n)[i]?=some d):i < n/\d = .int (lo+(i:Nat)):=by
 have hi:i < n:=by rw [<- cP lo n]; exact (zGs h).1
 simp [rD,hi] at h
 exact ⟨hi,h.symm⟩
theorem aGH {K:Fg}{lo:Int}{n:Nat}{G0:Hp}:YD K (Itr lo n) (rD lo n) G0 where
 go:=fun i G H M sg rl h=>by rw [cP] at h; exact h
 yld:=fun i G H M x H' sg rl h y=>by
  obtain ⟨e,hx⟩:=y
  subst e hx
  rw [cP] at h
  exact ⟨G,_,Stp.refl rl,by simp [rD,h],dJ⟩
 stop:=fun i G H M sg rl h=>by rw [cP] at h; exact Nat.le_of_eq h.symm
def wT (x:Str):List D:=x.cps.toList.map fun c=>D.str ⟨#[c]⟩
theorem p7 (x:Str):(wT x).length=x.length:=by simp [wT,Str.length]
theorem aPP {K:Fg}{x:Str}{G0:Hp}:YD K (Its x) (wT x) G0 where
 go:=fun i G H M sg rl h=>by rw [p7] at h; exact h
 yld:=fun i G H M v H' sg rl h y=>by
  obtain ⟨e,c,hc,ev⟩:=y
  subst e ev
  exact ⟨G, .str ⟨#[c]⟩,Stp.refl rl,by simp only [wT,List.getElem?_map,Array.getElem?_toList,hc,Option.map_some],oM⟩
 stop:=fun i G H M sg rl h=>by rw [p7] at h; exact Nat.le_of_eq h.symm
variable {tg iter:Expr}{ki:List D->Mem->Prop}
def GI (X:Cx) (tg iter:Expr) (Γ:Gm) (M:Mem) (ki:List D->Mem->Prop):Prop :=
 ∀ σ G H R,EnvR X.K G Γ σ->Rel X.K G H M->(∀ J G' H' ds M',Stp X.K G H M G' H' M'->YD X.K J ds G'->ki ds M'->R J H')->tUI X tg iter σ H R
def iAny (K:Fg) (tl:TE):TI:=fun σ H R=>tl σ H fun x H1=>∃ a,x = .ref a/\(((∃ xs,SqL K H1 a xs)/\R (Itl K a) H1)\/((∃ xs,SqT K H1 a xs)/\R (Itt K a) H1))
theorem aPQ {l:Expr}{tl:TE} (hl:PE X l tl):PI X tg l (iAny X.K tl):=by
 intro pins s σ H R I h
 refine thn (hl pins s σ H _ I h) fun v s1 ⟨x,H1,I1,r1,q1⟩ => ?_
 obtain ⟨a,e,q⟩:=q1
 subst e
 cases r1
 have fp:∀ b∈[s1.heap.objs.size],kS X pins H1 b:=fun b hb=>by
  have e:b=s1.heap.objs.size:=by simpa using hb
  subst e
  exact I1.fpOk (Nat.le_refl _) (I1.hok.fresh (Nat.le_refl _))
 rcases q with ⟨⟨xs,hq⟩,q⟩ | ⟨⟨xs,hq⟩,q⟩
 ·obtain ⟨its,r',pl,hz⟩:=I1.list hq
  refine wpAny_pyIter_list pl.isList ?_
  exact ⟨s1.heap.objs.size,[s1.heap.objs.size],_,Itl X.K a,H1,rfl,I1.kept (t':=s1.toks) fun b o e=>Heap.get?_push_of_some _ e,aGE a _,⟨_,Heap.get?_push_size _ rfl,rfl,rfl⟩,fp,q⟩
 ·obtain ⟨its,r',pl,hz⟩:=I1.tuple hq
  refine wpAny_pyIter_tuple pl ?_
  exact ⟨s1.heap.objs.size,[s1.heap.objs.size],_,Itt X.K a,H1,rfl,I1.kept (t':=s1.toks) fun b o e=>Heap.get?_push_of_some _ e,aEC a _,⟨_,Heap.get?_push_size _ rfl,rfl,rfl⟩,fp,q⟩
theorem b3 (h:GE X iter Γ M fun d M1=>∃ ds,(d = .tup ds\/d = .lst ds\/d = .fl ds)/\ki ds M1):GI X tg iter Γ M ki:=fun σ G H Rr en rl q=>by
 refine kM (aPQ pU) ?_
 refine h σ G H _ en rl fun v G1 H1 d M1 s1 e1 ⟨ds,ed,h1⟩ => ?_
 rcases ed with rfl | rfl | rfl
 ·obtain ⟨a,vs,ev,s,dn⟩:=e1.tup_
  exact ⟨a,ev, .inr ⟨⟨vs,R.eG s1.rel.same s⟩,q _ _ _ _ _ s1 (aPW s dn) h1⟩⟩
 ·obtain ⟨a,vs,ev,s,dn⟩:=e1.lst_
  exact ⟨a,ev, .inl ⟨⟨vs,SqL.of (s1.rel.same _ _ s)⟩,q _ _ _ _ _ s1 (aCR (SqL.of s) dn) h1⟩⟩
 ·obtain ⟨a,vs,ev,s,dn⟩:=e1.fl_
  exact ⟨a,ev, .inl ⟨⟨vs,s1.rel.same.seq s⟩,q _ _ _ _ _ s1 (aCR s dn) h1⟩⟩
theorem kO {p:Pos} (hm:X.mg "range" = none) (h:GA X [a] Γ M fun ds M1=>∃ j:Int,ds=[.int j] /\ -(2 ^ 62)<=j/\j < 2 ^ 62/\ki (rD 0 j.toNat) M1) (hg:Gl X "range" := by rfl) (hs:starEach [a] X.env=[(false,eval a X.env)]:=by rfl):GI X tg (.Call (.Name "range" p) [a] [] pos) Γ M ki:=fun σ G H R en rl q=>by
 refine kM (aFR hg hm pUA hs) ?_
 refine h σ G H _ en rl fun vs G1 H1 ds M1 s1 e1 ⟨j,ed,h1,h2,h3⟩ => ?_
 subst ed
 obtain ⟨v,rfl,dv⟩:=dens1 e1
 rw [dv.int_]
 exact ⟨j,rfl,h1,h2,q _ _ _ _ _ s1 aGH h3⟩
theorem aCW {p:Pos} (hm:X.mg "range" = none) (h:GA X [a,b] Γ M fun ds M1=>∃ i j:Int,ds=[.int i, .int j]/\(-(2 ^ 62)<=i/\i < 2 ^ 62 /\ -(2 ^ 62)<=j/\j < 2 ^ 62)/\ki (rD i (j - i).toNat) M1) (hg:Gl X "range" := by rfl)
  (hs:starEach [a,b] X.env=[(false,eval a X.env),(false,eval b X.env)]:=by rfl) (hs2:starEach [b] X.env=[(false,eval b X.env)]:=by rfl):GI X tg (.Call (.Name "range" p) [a,b] [] pos) Γ M ki:=fun σ G H R en rl q=>by
 refine kM (aFE hg hm pUA hs hs2) ?_
 refine h σ G H _ en rl fun vs G1 H1 ds M1 s1 e1 ⟨i,j,ed,h1,h3⟩ => ?_
 subst ed
 obtain ⟨v,u,rfl,dv,du⟩:=dens2 e1
 rw [dv.int_,du.int_]
 exact ⟨i,j,rfl,h1,q _ _ _ _ _ s1 aGH h3⟩
theorem aN8 (h:GE X iter Γ M fun d M1=>∃ x,d = .str x/\ki (wT x) M1):GI X tg iter Γ M ki:=fun σ G H R en rl q=>by
 refine kM (aPS pU) ?_
 exact h σ G H _ en rl fun v G1 H1 d M1 s1 e1 ⟨x,ed,h1⟩=>by subst ed; exact ⟨x,e1.str_,q _ _ _ _ _ s1 aPP h1⟩
end
section
variable {K:Fg}{G H:Hp}{M:Mem}{Γ:Gm}{σ:St}
theorem join_some {α:Type}{o:Option (Option α)}{x:α} (h:o.join=some x):o=some (some x):=by
 cases o with
 | none=>cases h
 | some y=>cases y with
  | none=>cases h
  | some z=>cases h; rfl
theorem EnvR.cap (h:EnvR K G Γ σ) {d:D}{v:V} (e:Den K G d v) (cap:List Nat):EnvR K G (some d::cap.map fun k=>(Γ[k]?).join) (some v::cap.map fun k=>(σ[k]?).join):=by
 refine ⟨by simp,fun i c q => ?_⟩
 cases i with
 | zero=>simp at q; subst q; exact ⟨v,rfl,e⟩
 | succ i =>
  rw [List.getElem?_cons_succ,List.getElem?_map] at q ⊢
  cases hc:cap[i]? with
  | none=>rw [hc] at q; cases q
  | some j =>
   rw [hc,Option.map_some] at q
   have q':(Γ[j]?).join=some c:=by injection q
   obtain ⟨u,a,b⟩:=h.get j c (join_some q')
   exact ⟨u,by rw [Option.map_some,a]; rfl,b⟩
theorem Stp.aside {G0 H0:Hp}{M0:Mem}{p:Addr}{o:HO} (s:Stp K G0 H0 M0 G H M) (h0:H0 p=none) (hg:G p=none) (hm:M p=none):Stp K G0 H0 M0 G (upd H p o) M:=by
 refine ⟨s.gg,⟨fun b u e => ?_,fun a m e => ?_⟩,fun a u e1 e2 e3 => ?_⟩
 ·rw [bF (bT e hg)]; exact s.rel.same b u e
 ·have z:a≠p:=fun z=>by rw [z,hm] at e; cases e
  exact ⟨(s.rel.mem a m e).1,(s.rel.mem a m e).2.mv (Same.refl G) (bF z)⟩
 ·obtain ⟨x,y,z⟩:=s.fr a u e1 e2 e3
  exact ⟨by rw [bF (bT e1 h0)]; exact x,y,z⟩
theorem Stp.track {G0 H0:Hp}{M0:Mem}{p:Addr}{vs:List V}{ds:List D} (s:Stp K G0 H0 M0 G H M) (h0:H0 p=none) (hg:G p=none) (hp:H p=some (.lst vs)) (dn:Dens K G ds vs):Stp K G0 H0 M0 G H (b7 M p (.lst ds)):=by
 refine ⟨s.gg,⟨s.rel.same,fun a m e => ?_⟩,fun a u e1 e2 e3 => ?_⟩
 ·by_cases z:a=p
  ·subst z
   rw [aS] at e; cases e
   exact ⟨hg,vs,hp,dn⟩
  ·rw [dS z] at e; exact s.rel.mem a m e
 ·obtain ⟨x,y,z⟩:=s.fr a u e1 e2 e3
  exact ⟨x,y,by rw [dS (bT e1 h0)]; exact z⟩
end
def aDE (Y:Cx) (ifs:List Expr):TT:=fun σ H Q=>∀ pins s,Inv Y pins σ H s ->
  wpAny (model Y.prog Y.w) Y.A (forIn ifs true fun c r=>if r=true then do let ok <- isTrue c Y.env (eval c Y.env); pure (ForInStep.yield ok) else pure (ForInStep.yield r)) (TP Y pins σ Q) Y.xe s
def GIf (Y:Cx) (ifs:List Expr) (Γ:Gm) (M:Mem) (kb:Bool->Mem->Prop):Prop :=
 ∀ σ G H Q,EnvR Y.K G Γ σ->Rel Y.K G H M->sW Y.K M kb G H Q->aDE Y ifs σ H Q
theorem bY {Y:Cx}{Γ:Gm}{M:Mem}{kb:Bool->Mem->Prop} (h:kb true M):GIf Y [] Γ M kb:=fun σ G H Q en rl q pins s I=>aMF pins s σ H Q I (q _ _ _ _ (Stp.refl rl) h)
theorem oG {Y:Cx}{c:Expr}{Γ:Gm}{M:Mem}{kb:Bool->Mem->Prop} (h:GT Y c Γ M kb):GIf Y [c] Γ M kb:=fun σ G H Q en rl q pins s I=>aNH pUT pins s σ H Q I (h σ G H Q en rl q)
def Comp (X:Cx) (x:Str) (ns:List Str) (cap:List Nat) (elt:Expr) (ifs:List Expr) (scope:Scope) (Γ:Gm) (k:D->Mem->Prop) (ds:List D) (M1:Mem):Prop :=
 ds.length<=sizeLine/\∃ I:Nat->List D->Mem->Prop,I 0 [] M1 /\
  (∀ i d acc M2,ds[i]?=some d->I i acc M2->∀ cs C s₀ H₀ fp,GIf (aX X scope cs C (x::ns) s₀ H₀ fp) ifs (some d::cap.map fun k=>(Γ[k]?).join) M2 fun c M3 =>
   if c=true then (∀ cs C s₀ H₀ fp,GE (aX X scope cs C (x::ns) s₀ H₀ fp) elt (some d::cap.map fun k=>(Γ[k]?).join) M3 (fun y M4=>I (i+1) (acc++[y]) M4)) else I (i+1) acc M3) /\
  (∀ acc M2,I ds.length acc M2->∀ a,M2 a=none->k (.mt a) (b7 M2 a (.lst acc)))
theorem aHF {X:Cx}{x:Str}{px:Pos}{iter elt:Expr}{ifs:List Expr}{scope:Scope}{ns:List Str}{cap:List Nat}{Γ:Gm}{M:Mem}{k:D->Mem->Prop}
  (h:GI X (.Name x px) iter Γ M (Comp X x ns cap elt ifs scope Γ k)) {σ:St}{G H:Hp}{Q:VK} (en:EnvR X.K G Γ σ) (rl:Rel X.K G H M) (q:Cont X.K M k G H Q) :
  sF (tUI X (.Name x px) iter) cap (fun σ H Q=>∀ cs C s₀ H₀ fp,aDE (aX X scope cs C (x::ns) s₀ H₀ fp) ifs σ H Q) (fun σ H Q=>∀ cs C s₀ H₀ fp,tU (aX X scope cs C (x::ns) s₀ H₀ fp) elt σ H Q) σ H Q:=by
 refine h σ G H _ en rl fun J G1 H1 ds M1 s1 yd ⟨hlen,I,h0,hstep,hend⟩ A hA => ?_
 have hA':=s1.rel.free hA
 refine ⟨fun i m ys H2=>m=ds.length - i/\i<=ds.length/\∃ G2 M2 acc,Stp X.K G1 H1 M1 G2 H2 M2/\H2 A=some (.lst ys)/\G2 A=none/\M2 A=none/\Dens X.K G2 acc ys/\I i acc M2/\acc.length<=i,
  ⟨ds.length,by simp,Nat.zero_le _,G1,M1,[],(Stp.refl s1.rel).aside hA hA'.1 hA'.2,bQ,hA'.1,hA'.2,dB,h0,Nat.le_refl _⟩,?_⟩
 rintro i m ys H2 ⟨rfl,hi,G2,M2,acc,s2,hl,hg,hm,dn,hI,hacc⟩
 refine ⟨hl,?_⟩
 by_cases hlt:i < ds.length
 ·refine .inr ⟨yd.go i G2 H2 M2 s2.gg s2.rel hlt,by rw [<- dn.len]; omega,fun x H3 y => ?_⟩
  obtain ⟨G3,d,s3,hd,ex⟩:=yd.yld i G2 H2 M2 x H3 s2.gg s2.rel hlt y
  obtain ⟨l3,g3,m3⟩:=s3.fr A _ hl hg hm
  intro cs C s₀ H₀ fp
  have en3:=((en.up s1.gg).up (s2.trans s3).gg).cap ex cap
  refine hstep i d acc M2 hd hI cs C s₀ H₀ fp _ G3 H3 _ en3 s3.rel fun c G4 H4 M4 s4 h4 => ?_
  obtain ⟨l4,g4,m4⟩:=s4.fr A _ l3 g3 m3
  cases c with
  | true =>
   rw [if_pos rfl] at h4 ⊢
   intro cs C s₀ H₀ fp
   refine h4 cs C s₀ H₀ fp _ G4 H4 _ (en3.up s4.gg) s4.rel fun y G5 H5 d5 M5 s5 e5 h5 => ?_
   obtain ⟨l5,g5,m5⟩:=s5.fr A _ l4 g4 m4
   have s25:=((s2.trans s3).trans s4).trans s5
   exact ⟨l5,ds.length - (i+1),by omega,rfl,hlt,G5,M5,acc++[d5],s25.aside hA g5 m5,bQ,g5,m5,(dn.up ((s3.trans s4).trans s5).gg).append (cB e5 dB),h5,by rw [List.length_append,List.length_singleton]; omega⟩
  | false =>
   rw [if_neg zBf] at h4 ⊢
   exact ⟨ds.length - (i+1),by omega,rfl,hlt,G4,M4,acc,(s2.trans s3).trans s4,l4,g4,m4,dn.up (s3.trans s4).gg,h4,by omega⟩
 ·have e:i=ds.length:=by omega
  subst e
  exact .inl ⟨yd.stop _ G2 H2 M2 s2.gg s2.rel rfl,q _ _ _ _ _ (s1.trans (s2.track hA hg hl dn)) yI (hend acc M2 hI A hm)⟩
end Z
namespace Z
open PySem L2
section
variable {X:Cx}{Γ:Gm}{M:Mem}{k:D->Mem->Prop}{F:Fin}{pos:Pos}{a b c e o tg iter:Expr}{st:Stmt}{ss body:List Stmt}
theorem aK0 {x:Str}{px:Pos}{elt:Expr}{ifs:List Expr}{scope sc:Scope}{N:List Str} (ns:List Str) (cap:List Nat) (h:GI X (.Name x px) iter Γ M (Comp X x ns cap elt ifs scope Γ k))
  (hsc:X.env.scope=sc:=by rfl) (hN:X.N=N:=by rfl) (ok:jI sc scope x ns cap N=true:=by first | decide +kernel | kernel_rfl!) (hc:X.calm=true:=by rfl) (hs:∀ v,foldedSetIterable iter X.env v=pure v:=by intro _; rfl) :
  GE X (.ListComp elt [⟨.Name x px,iter,ifs,0⟩] scope pos) Γ M k:=fun σ G H Q en rl q =>
 cK (aJW ns cap hc hsc hN ok pUI (fun cs C s₀ H₀ fp pins s σ H Q I h=>h cs C s₀ H₀ fp pins s I) (fun cs C s₀ H₀ fp pins s σ H Q I h=>h cs C s₀ H₀ fp pins s I) hs) (aHF h en rl q)
def aKF (X:Cx) (x:Str) (ns:List Str) (cap:List Nat) (elt:Expr) (ifs:List Expr) (scope:Scope) (Γ:Gm) (k:D->Mem->Prop) (ds:List D) (M1:Mem):Prop :=
 ds.length<=sizeLine/\∃ I:Nat->List D->Mem->Prop,I 0 [] M1 /\
  (∀ i d acc M2,ds[i]?=some d->I i acc M2->∀ cs C s₀ H₀ fp,GIf (aX X scope cs C (x::ns) s₀ H₀ fp) ifs (some d::cap.map fun k=>(Γ[k]?).join) M2 fun c M3 =>
   if c=true then (∀ cs C s₀ H₀ fp,GE (aX X scope cs C (x::ns) s₀ H₀ fp) elt (some d::cap.map fun k=>(Γ[k]?).join) M3 (fun y M4=>I (i+1) (acc++[y]) M4)) else I (i+1) acc M3) /\
  (∀ acc M2,I ds.length acc M2->k (.lst acc) M2)
theorem bP {x:Str}{px:Pos}{elt:Expr}{ifs:List Expr}{scope sc:Scope}{N:List Str} (ns:List Str) (cap:List Nat) (h:GI X (.Name x px) iter Γ M (aKF X x ns cap elt ifs scope Γ k))
  (hsc:X.env.scope=sc:=by rfl) (hN:X.N=N:=by rfl) (ok:jI sc scope x ns cap N=true:=by first | decide +kernel | kernel_rfl!) (hc:X.calm=true:=by rfl) (hs:∀ v,foldedSetIterable iter X.env v=pure v:=by intro _; rfl) :
  GE X (.ListComp elt [⟨.Name x px,iter,ifs,0⟩] scope pos) Γ M k:=by
 refine mV (aK0 ns cap ?_ hsc hN ok hc hs)
 intro σ G H Rr en rl q
 refine h σ G H Rr en rl fun J G1 H1 ds M1 s1 yd ⟨hl,I,h0,hstep,hend⟩ => ?_
 exact q J G1 H1 ds M1 s1 yd ⟨hl,I,h0,hstep,fun acc M2 hI a ha=>⟨a,acc,M2,rfl,aS,ha,(Le.refl M2).upd ha,hend acc M2 hI⟩⟩
theorem cU {x:Str}{ns:List Str}{cap:List Nat}{elt:Expr}{ifs:List Expr}{scope:Scope}{ds:List D}{M1:Mem} (hl:ds.length<=sizeLine) (I:Nat->List D->Mem->Prop) (h0:I 0 [] M1)
  (hs:∀ i d acc M2,ds[i]?=some d->I i acc M2->∀ cs C s₀ H₀ fp,GIf (aX X scope cs C (x::ns) s₀ H₀ fp) ifs (some d::cap.map fun k=>(Γ[k]?).join) M2 fun c M3 =>
   if c=true then (∀ cs C s₀ H₀ fp,GE (aX X scope cs C (x::ns) s₀ H₀ fp) elt (some d::cap.map fun k=>(Γ[k]?).join) M3 (fun y M4=>I (i+1) (acc++[y]) M4)) else I (i+1) acc M3)
  (hd:∀ acc M2,I ds.length acc M2->k (.lst acc) M2):aKF X x ns cap elt ifs scope Γ k ds M1:=⟨hl,I,h0,hs,hd⟩
theorem bA (h:F.nx Γ M):GS X [] Γ M F:=fun σ G H E en rl q=>wW aK7 (q.nx σ G H Γ M (Stp.refl rl) en h)
theorem aE (h:G1 X st Γ M { F with nx:=fun Γ' M'=>GS X ss Γ' M' F }):GS X (st::ss) Γ M F:=fun σ G H E en rl q=>by
 refine wW (aJG pUS xA) ?_
 refine h σ G H _ en rl ⟨fun σ' G' H' Γ' M' s' en' h' => ?_,q.rt,q.bk,q.ct⟩
 exact h' σ' G' H' E en' s'.rel (q.up s')
theorem aK (h:G1 X st Γ M F):GS X [st] Γ M F:=fun σ G H E en rl q=>wW (aLR pUS) (h σ G H E en rl q)
theorem gY (i:Nat) {a:Addr}{ds:List D} (hΓ:Γ[i]?=some (some (.mt a))) (hM:M a=some (.lst ds)) (h:GS X ss (Γ.set i (some (.lst ds))) (kU M a) F):GS X ss Γ M F:=fun σ G H E en rl q=>by
 obtain ⟨vs,x1,x2,s1⟩:=rl.frz hM
 obtain ⟨v,ev,dv⟩:=en.get i _ hΓ
 have dl:Den X.K (upd G a (.lst vs)) (.lst ds) v:=by rw [dv.mt_]; exact jC bQ (x2.up s1.gg)
 have en':=(en.up s1.gg).set dl i
 have es:σ.set i (some v)=σ:=by
  apply List.ext_getElem?
  intro j
  rw [List.getElem?_set]
  by_cases z:i=j
  ·subst z
   rw [if_pos rfl,if_pos (zGs ev).1,ev]
  ·rw [if_neg z]
 rw [es] at en'
 exact h σ _ H E en' s1.rel (q.up s1)
theorem aQ (i:Nat) {x:Str}{pos':Pos} (hN:X.N.Nodup) (h:GE X e Γ M fun d M1=>F.nx (Γ.set i (some d)) M1) (hi:X.N[i]?=some x:=by rfl) (hx:Loc X.env.scope x:=by first | exact Or.inl rfl | exact Or.inr rfl)
  (hs:swapsWith e (some (.Name x pos')) pos.line X.env=pure false:=by rfl) (hf:X.fn x=true\/X.env.scope.names.lookup x=some .local:=by first | exact .inl rfl | exact .inr rfl):G1 X (.Assign [.Name x pos'] e pos) Γ M F:=fun σ G H E en rl q=>by
 refine jL (aN5 hN hi hx pU hs hf) ?_
 exact h σ G H _ en rl fun v G1 H1 d M1 s1 e1 h1=>q.nx _ _ _ _ _ s1 ((en.up s1.gg).set e1 i) h1
theorem pB (iy:Nat) {x y:Str}{px py spos:Pos}{elt:Expr}{ifs:List Expr}{scope sc:Scope}{N:List Str} (ns:List Str) (cap:List Nat) (hNd:N.Nodup) (h:GI X (.Name x px) iter Γ M (Comp X x ns cap elt ifs scope Γ fun d M1=>F.nx (Γ.set iy (some d)) M1))
  (hsc:X.env.scope=sc:=by rfl) (hN:X.N=N:=by rfl) (ok:jI sc scope x ns cap N=true:=by first | decide +kernel | kernel_rfl!) (hiy:N[iy]?=some y:=by rfl) (hyl:sc.names.lookup y=some .local:=by rfl) (hc:X.calm=true:=by rfl) (hs:∀ v,foldedSetIterable iter X.env v=pure v:=by intro _; rfl)
  (hsw:swapsWith (.ListComp elt [⟨.Name x px,iter,ifs,0⟩] scope pos) (some (.Name y py)) spos.line X.env=pure true:=by rfl) :
  G1 X (.Assign [.Name y py] (.ListComp elt [⟨.Name x px,iter,ifs,0⟩] scope pos) spos) Γ M F:=fun σ G H E en rl q=>by
 refine jL (aBI (tt:=fun σ H Q=>∀ cs C s₀ H₀ fp,aDE (aX X scope cs C (x::ns) s₀ H₀ fp) ifs σ H Q) (te:=fun σ H Q=>∀ cs C s₀ H₀ fp,tU (aX X scope cs C (x::ns) s₀ H₀ fp) elt σ H Q) iy ns cap hNd hiy hyl hc hsc hN ok pUI (fun cs C s₀ H₀ fp pins s σ H Q I h=>h cs C s₀ H₀ fp pins s I) (fun cs C s₀ H₀ fp pins s σ H Q I h=>h cs C s₀ H₀ fp pins s I) hs hsw) ?_
 exact aHF h en rl fun v G1 H1 d M1 s1 e1 h1=>q.nx _ _ _ _ _ s1 ((en.up s1.gg).set e1 iy) h1
theorem aDM {x:Str}{ns:List Str}{cap:List Nat}{elt:Expr}{ifs:List Expr}{scope:Scope}{ds:List D}{M1:Mem} (hl:ds.length<=sizeLine) (I:Nat->List D->Mem->Prop) (h0:I 0 [] M1)
  (hs:∀ i d acc M2,ds[i]?=some d->I i acc M2->∀ cs C s₀ H₀ fp,GIf (aX X scope cs C (x::ns) s₀ H₀ fp) ifs (some d::cap.map fun k=>(Γ[k]?).join) M2 fun c M3 =>
   if c=true then (∀ cs C s₀ H₀ fp,GE (aX X scope cs C (x::ns) s₀ H₀ fp) elt (some d::cap.map fun k=>(Γ[k]?).join) M3 (fun y M4=>I (i+1) (acc++[y]) M4)) else I (i+1) acc M3)
  (hd:∀ acc M2,I ds.length acc M2->∀ a,M2 a=none->k (.mt a) (b7 M2 a (.lst acc))):Comp X x ns cap elt ifs scope Γ k ds M1 :=
 ⟨hl,I,h0,hs,hd⟩
theorem mS (h:GE X e Γ M fun d M1=>GG X tg d Γ M1 F.nx) (hs:swapsWithSole [tg] e pos.line X.env=pure false:=by rfl) (hw:swappedStores [tg] e X.env=pure none:=by rfl)
  (h1:(assignEach [tg] X.env).map (·.2)=[assign tg X.env]:=by rfl):G1 X (.Assign [tg] e pos) Γ M F:=fun σ G H E en rl q=>by
 refine jL (aNL pU pUG hs hw h1) ?_
 exact h σ G H _ en rl fun v G1 H1 d M1 s1 e1 h1=>h1 σ G1 H1 v _ (en.up s1.gg) s1.rel e1 (q.nx.up s1)
theorem aNZ (i j:Nat) {x y:Str}{px py pt:Pos}{kt k2 pt2} (hN:X.N.Nodup) (hij:i≠j) (h:GA X [a,b] Γ M fun ds M1=>∃ d1 d2,ds=[d1,d2]/\F.nx ((Γ.set i (some d1)).set j (some d2)) M1) (hi:X.N[i]?=some x:=by rfl) (hj:X.N[j]?=some y:=by rfl)
  (hx:X.env.scope.names.lookup x=some .local:=by rfl) (hy:X.env.scope.names.lookup y=some .local:=by rfl) (hc:X.calm=true:=by rfl)
  (hw:swappedStores [.Tuple [.Name x px, .Name y py] kt pt] (.Tuple [a,b] k2 pt2) X.env=pure (some [x,y]):=by rfl)
  (hs:swapsWithSole [.Tuple [.Name x px, .Name y py] kt pt] (.Tuple [a,b] k2 pt2) pos.line X.env=pure false:=by rfl) :
  G1 X (.Assign [.Tuple [.Name x px, .Name y py] kt pt] (.Tuple [a,b] k2 pt2) pos) Γ M F:=fun σ G H E en rl q=>by
 refine jL (aO0 hc hN hi hj hij hx hy pUA hw hs) ?_
 refine h σ G H _ en rl fun vs G1 H1 ds M1 s1 e1 ⟨d1,d2,ed,h1⟩ => ?_
 subst ed
 obtain ⟨v,u,rfl,dv,du⟩:=dens2 e1
 exact ⟨v,u,rfl,q.nx _ _ _ _ _ s1 (((en.up s1.gg).set dv i).set du j) h1⟩
variable {kg:Gm->Mem->Prop}{d:D}
theorem bO (i:Nat) {x:Str} (hN:X.N.Nodup) (h:kg (Γ.set i (some d)) M) (hi:X.N[i]?=some x:=by rfl) (hx:Loc X.env.scope x:=by first | exact Or.inl rfl | exact Or.inr rfl)
  (hf:X.fn x=true\/X.env.scope.names.lookup x=some .local:=by first | exact .inl rfl | exact .inr rfl):GG X (.Name x pos) d Γ M kg:=fun σ G H v Q en rl e q =>
 aAR (sJ hN hi hx hf) (q _ _ _ _ _ (Stp.refl rl) (en.set e i) h)
theorem gI (h:kg Γ M):GGs X [] [] Γ M kg:=fun σ G H vs Q en rl e q=>aCS aBR ⟨cZ e,q _ _ _ _ _ (Stp.refl rl) en h⟩
theorem bZ {tgs:List Expr}{ds:List D} (h:GG X tg d Γ M fun Γ1 M1=>GGs X tgs ds Γ1 M1 kg) (hs:(assignEach (tg::tgs) X.env).map (·.2)=assign tg X.env::(assignEach tgs X.env).map (·.2):=by rfl):GGs X (tg::tgs) (d::ds) Γ M kg:=fun σ G H vs Q en rl e q=>by
 refine aCS (tY pUG pUGs hs) ?_
 obtain ⟨v,r,ev,e1,e2⟩:=cC e
 refine ⟨v,r,ev,h σ G H v _ en rl e1 fun σ1 G1 H1 Γ1 M1 s1 en1 h1 => ?_⟩
 exact h1 σ1 G1 H1 r Q en1 s1.rel (e2.up s1.gg) (q.up s1)
theorem iK {tgs:List Expr}{kk:Nat}{n:Nat}{ds:List D} (hl:ds.length=n) (h:GGs X tgs ds Γ M kg) (hc:X.calm=true:=by rfl) (hn:(assignEach tgs X.env).length=n:=by rfl) (hst:(assignEach tgs X.env).findIdx? (·.1)=none:=by rfl) :
  GG X (.Tuple tgs kk pos) (.tup ds) Γ M kg:=fun σ G H v Q en rl e q=>by
 refine aAR (aFV hc pUGs hn hst) ?_
 obtain ⟨a,vs,ev,s,dn⟩:=e.tup_
 exact ⟨a,vs,ev,R.eG rl.same s,by rw [<- dn.len]; exact hl,h σ G H vs Q en rl dn q⟩
theorem aAK {i:Expr} (h:GE X o Γ M fun d1 M1=>GE X i Γ M1 fun d2 M2=>∃ a n j ds,d1 = .mt a/\d2 = .int n/\M2 a=some (.lst ds)/\ixN ds.length n=some j/\kg Γ (b7 M2 a (.lst (ds.set j d))))
  (ha:∀ v,assign (.Subscript o i pos) X.env v=(do
   let ov <- holding [v] (eval o X.env)
   let iv <- holding [v,ov] (eval i X.env)
   standAt pos
   holding [v,ov,iv] (setItem ov iv v)
   release [v,ov,iv] []):=by intro _; rfl):GG X (.Subscript o i pos) d Γ M kg:=fun σ G H v Q en rl e q=>by
 refine aAR (aO1 pU pU set_list ha) ?_
 refine h σ G H _ en rl fun v1 G1 H1 d1 M1 s1 e1 h1 => ?_
 refine h1 σ G1 H1 _ (en.up s1.gg) s1.rel fun v2 G2 H2 d2 M2 s2 e2 ⟨a,n,j,ds,x1,x2,hm,hj,h2⟩ => ?_
 subst x1 x2
 obtain ⟨_,vs,es,dn⟩:=s2.rel.mem _ _ hm
 have s12:=s1.trans s2
 exact ⟨a,vs,n,j,(e1.up s2.gg).mt_,e2.int_,es,by rw [<- dn.len]; exact hj,q _ _ _ _ _ (s12.trans (s2.rel.wr hm (dn.set (e.up s12.gg) j))) (en.up s12.gg) h2⟩
theorem eU (h:GE X e Γ M fun _ M1=>F.nx Γ M1) (hs:swapsWith e none pos.line X.env=pure false:=by rfl):G1 X (.Expr e pos) Γ M F:=fun σ G H E en rl q =>
 jL (aLH pU hs) (h σ G H _ en rl fun v G1 H1 d M1 s1 e1 h1=>q.nx _ _ _ _ _ s1 (en.up s1.gg) h1)
theorem aR (h:GE X e Γ M F.rt):G1 X (.Return (some e) pos) Γ M F:=fun σ G H E en rl q=>jL (aPO pU) (h σ G H _ en rl q.rt)
theorem bK {ss1 ss2:List Stmt} (h:GT X c Γ M fun t M1=>if t=true then GS X ss1 Γ M1 F else GS X ss2 Γ M1 F):G1 X (.If c ss1 ss2 pos) Γ M F:=fun σ G H E en rl q=>by
 refine jL (aP4 pUT xA xA) ?_
 refine h σ G H _ en rl fun t G1 H1 M1 s1 h1 => ?_
 cases t with
 | true=>rw [if_pos rfl] at h1 ⊢; exact h1 σ G1 H1 E (en.up s1.gg) s1.rel (q.up s1)
 | false=>rw [if_neg zBf] at h1 ⊢; exact h1 σ G1 H1 E (en.up s1.gg) s1.rel (q.up s1)
theorem oV (P:Gm->Mem->Prop) (h:G1 X st Γ M { F with nx:=P }) (h2:∀ Γ' M',P Γ' M'->F.nx Γ' M'):G1 X st Γ M F:=fun σ G H E en rl q=>h σ G H E en rl ⟨fun σ' G' H' Γ' M' s' en' h'=>q.nx σ' G' H' Γ' M' s' en' (h2 _ _ h'),q.rt,q.bk,q.ct⟩
def Loop (X:Cx) (tg:Expr) (body:List Stmt) (Γ:Gm) (F:Fin) (ds:List D) (M:Mem):Prop:=∃ I:Nat->Gm->Mem->Prop,I 0 Γ M /\
 (∀ i d Γ' M',ds[i]?=some d->I i Γ' M'->GG X tg d Γ' M' fun Γ2 M2=>GS X body Γ2 M2 { F with nx:=I (i+1),ct:=I (i+1),bk:=F.nx })/\∀ Γ' M',I ds.length Γ' M'->F.nx Γ' M'
theorem eB (h:GI X tg iter Γ M (Loop X tg body Γ F)) (hp:PassesOwn (model X.prog X.w) X.A X.env X.xe:=by exact PassesOwn.never) (hc:X.calm=true:=by rfl) (hs:∀ x,foldedSetIterable iter X.env x=pure x:=by intro _; rfl):G1 X (.For tg iter body [] pos) Γ M F:=fun σ G H E en rl q=>by
 refine jL (aOZ hp hc pUI pUG xA hs) ?_
 refine h σ G H _ en rl fun J G1 H1 ds M1 s1 yd ⟨I,h0,hstep,hend⟩ => ?_
 refine ⟨fun i m σ' H'=>m=ds.length - i/\i<=ds.length/\∃ G' Γ' M',Stp X.K G1 H1 M1 G' H' M'/\EnvR X.K G' Γ' σ'/\I i Γ' M',⟨ds.length,by simp,Nat.zero_le _,G1,Γ,M1,Stp.refl s1.rel,en.up s1.gg,h0⟩,?_⟩
 rintro i m σ2 H2 ⟨rfl,hi,G2,Γ2,M2,s2,en2,hI⟩
 by_cases hlt:i < ds.length
 ·refine .inr ⟨yd.go i G2 H2 M2 s2.gg s2.rel hlt,fun σ' H'=>∃ G' Γ' M',Stp X.K G1 H1 M1 G' H' M'/\EnvR X.K G' Γ' σ'/\I (i+1) Γ' M',fun σ' H' z=>⟨ds.length - (i+1),by omega,rfl,hlt,z⟩,fun x H3 y => ?_⟩
  obtain ⟨G3,d,s3,hd,ex⟩:=yd.yld i G2 H2 M2 x H3 s2.gg s2.rel hlt y
  have s13:=s2.trans s3
  refine hstep i d Γ2 M2 hd hI σ2 G3 H3 x _ (en2.up s3.gg) s3.rel ex fun σ4 G4 H4 Γ4 M4 s4 en4 h4 => ?_
  have s14:=s13.trans s4
  refine h4 σ4 G4 H4 _ en4 s4.rel ⟨fun σ5 G5 H5 Γ5 M5 s5 en5 h5=>⟨G5,Γ5,M5,s14.trans s5,en5,h5⟩,q.rt.up (s1.trans s14),q.nx.up (s1.trans s14),fun σ5 G5 H5 Γ5 M5 s5 en5 h5=>⟨G5,Γ5,M5,s14.trans s5,en5,h5⟩⟩
 ·have e:i=ds.length:=by omega
  subst e
  exact .inl ⟨yd.stop _ G2 H2 M2 s2.gg s2.rel rfl,q.nx _ _ _ _ _ (s1.trans s2) en2 (hend _ _ hI)⟩
theorem aAH (I:Nat->Gm->Mem->Prop) {n:Nat} (h0:I n Γ M)
  (hs:∀ m Γ' M',I m Γ' M'->GT X c Γ' M' fun t M1=>if t=true then GS X body Γ' M1 { F with nx:=fun Γ2 M2=>∃ m',m' < m/\I m' Γ2 M2,ct:=fun Γ2 M2=>∃ m',m' < m/\I m' Γ2 M2,bk:=F.nx } else F.nx Γ' M1)
  (hp:PassesOwn (model X.prog X.w) X.A X.env X.xe:=by exact PassesOwn.never):G1 X (.While c body [] pos) Γ M F:=fun σ G H E en rl q=>by
 refine jL (aHR hp pUT xA) ?_
 refine ⟨fun m σ' H'=>∃ G' Γ' M',Stp X.K G H M G' H' M'/\EnvR X.K G' Γ' σ'/\I m Γ' M',⟨n,G,Γ,M,Stp.refl rl,en,h0⟩,?_⟩
 rintro m σ2 H2 ⟨G2,Γ2,M2,s2,en2,hI⟩
 refine hs m Γ2 M2 hI σ2 G2 H2 _ en2 s2.rel fun t G3 H3 M3 s3 h3 => ?_
 have s13:=s2.trans s3
 cases t with
 | true =>
  rw [if_pos rfl] at h3 ⊢
  refine ⟨fun σ' H'=>∃ m',m' < m/\∃ G' Γ' M',Stp X.K G H M G' H' M'/\EnvR X.K G' Γ' σ'/\I m' Γ' M',fun σ' H' z=>z,?_⟩
  refine h3 σ2 G3 H3 _ (en2.up s3.gg) s3.rel ⟨fun σ5 G5 H5 Γ5 M5 s5 en5 ⟨m',hm,h5⟩=>⟨m',hm,G5,Γ5,M5,s13.trans s5,en5,h5⟩,q.rt.up s13,q.nx.up s13,fun σ5 G5 H5 Γ5 M5 s5 en5 ⟨m',hm,h5⟩=>⟨m',hm,G5,Γ5,M5,s13.trans s5,en5,h5⟩⟩
 | false =>
  rw [if_neg zBf] at h3 ⊢
  exact q.nx _ _ _ _ _ s13 (en2.up s3.gg) h3
end
section
variable {P:Program}{w:World}{K:Fg}{mg:Str->Option Value}{base:Heap}
abbrev cxF (P:Program) (w:World) (K:Fg) (mg:Str->Option Value) (base:Heap) (N:List Str) (x:Str) (st:Stmt) (f:Addr) (cdv:Value) (A:Around) (outer:List Env) (s:Shared) (H:Hp) (E:XK):Cx :=
 (uB CX0 P w K mg base N x (aP st) f cdv A outer s H E).nox
theorem a9 {x:Str}{st:Stmt}{ps N:List Str}{f:Addr}{fd:FuncData}{n:Nat}{F:Ct} (Df:R.Df K mg x st ps f fd) (S:FnScope N ps (aP st)) (len:∀ ds M k,F ds M k->ds.length=ps.length)
  (h:∀ cdv A outer s H E,Room n (cxF P w K mg base N x st f cdv A outer s H E).A->∀ ds M k,F ds M k ->
   GS (cxF P w K mg base N x st f cdv A outer s H E) (eA st) (ds.map some++List.replicate (N.length - ds.length) none) M { nx:=fun _ M'=>k .non M',rt:=k }):FnOk P w K mg base CX0 (n+1) f fd ps (spZ K F):=by
 refine Df.F.ok S (fun vs H Q E h => ?_) (fun cdv A outer s H vs Q E hr hsp => ?_)
 ·obtain ⟨G,M,ds,k,rl,dn,hF,_⟩:=h
  rw [<- dn.len]; exact len _ _ _ hF
 ·obtain ⟨G,M,ds,k,rl,dn,hF,q⟩:=hsp
  refine ⟨_,xA,?_⟩
  refine h cdv A outer s H E hr ds M k hF (start N vs) G H _ (EnvR.start dn N.length) rl ⟨fun σ' G' H' Γ' M' s' en' h'=>q _ _ _ _ _ s' wH h',q,fun _ _ _ _ _ _ _ h'=>h'.elim,fun _ _ _ _ _ _ _ h'=>h'.elim⟩
end
end Z
namespace Z
open PySem L2
mutual
def eqD:D->D->Bool
 | .non, .non=>true
 | .bl a, .bl b=>a == b
 | .int a, .int b=>a == b
 | .bl a, .int b=>(if a then 1 else 0) == b
 | .int a, .bl b=>a == (if b then 1 else 0)
 | .str a, .str b=>a == b
 | .tup xs, .tup ys=>eqDs xs ys
 | .lst xs, .lst ys=>eqDs xs ys
 | _,_=>false
def eqDs:List D->List D->Bool
 | [],[]=>true
 | x::xs,y::ys=>eqD x y && eqDs xs ys
 | _,_=>false
end
mutual
def okD:Nat->D->Bool
 | _, .non | _, .bl _ | _, .int _ | _, .str _=>true
 | n+1, .tup ds=>okDs n ds
 | n+1, .lst ds=>okDs n ds
 | _,_=>false
def okDs:Nat->List D->Bool
 | _,[]=>true
 | n,d::ds=>okD n d && okDs n ds
end
mutual
theorem eqD_refl:∀ (n:Nat) (d:D),okD n d=true->eqD d d=true
 | _, .non,_=>by simp only [eqD]
 | _, .bl _,_=>by simp only [eqD,beq_self_eq_true]
 | _, .int _,_=>by simp only [eqD,beq_self_eq_true]
 | _, .str _,_=>by simp only [eqD,beq_self_eq_true]
 | n+1, .tup ds,h=>by simp only [okD] at h; simp only [eqD]; exact eqDs_refl n ds h
 | n+1, .lst ds,h=>by simp only [okD] at h; simp only [eqD]; exact eqDs_refl n ds h
 | 0, .tup _,h=>by simp [okD] at h
 | 0, .lst _,h=>by simp [okD] at h
 | _, .mt _,h=>by simp [okD] at h
 | _, .fl _,h=>by simp [okD] at h
theorem eqDs_refl:∀ (n:Nat) (ds:List D),okDs n ds=true->eqDs ds ds=true
 | _,[],_=>by simp only [eqDs]
 | n,d::ds,h=>by
  simp only [okDs,Bool.and_eq_true] at h
  simp only [eqDs,eqD_refl n d h.1,eqDs_refl n ds h.2,Bool.and_true]
end
def eqJ (xs ys:List D) (j:Nat):Bool:=match xs[j]?,ys[j]? with
 | some x,some y=>eqD x y
 | _,_=>true
theorem gM:∀ (xs ys:List D),((List.range (min xs.length ys.length)).all (eqJ xs ys) && xs.length == ys.length)=eqDs xs ys
 | [],[]=>by simp [eqDs]
 | [],_::_=>by simp [eqDs]
 | _::_,[]=>by simp [eqDs]
 | x::xs,y::ys=>by
  have ih:=gM xs ys
  simp only [eqDs,<- ih,List.length_cons]
  rw [show min (xs.length+1) (ys.length+1)=min xs.length ys.length+1 by omega,List.range_succ_eq_map,List.all_cons,List.all_map]
  have e1:eqJ (x::xs) (y::ys) 0=eqD x y:=rfl
  have e2:(eqJ (x::xs) (y::ys)) ∘ Nat.succ=eqJ xs ys:=by funext j; rfl
  rw [e1,e2,Bool.and_assoc]
  congr 2
  by_cases h:xs.length=ys.length
  ·rw [h]; simp
  ·rw [beq_eq_false_iff_ne.mpr h,beq_eq_false_iff_ne.mpr (by omega)]
section
variable {X:Cx}{pins:List (Addr × Obj)}{σ:St}{H:Hp}{s:Shared}
mutual
theorem den_inj (I:Inv X pins σ H s):∀ (n:Nat) (d e:D) (v:V),okD n d=true->okD n e=true->Den X.K H d v->Den X.K H e v->d=e
 | n, .non,e,v,h1,h2,x,y=>by
  rw [x.non_] at y
  cases e with
  | non=>rfl
  | bl b=>have:=y.bl_; cases this
  | int b=>have:=y.int_; cases this
  | str b=>have:=y.str_; cases this
  | mt b=>have:=y.mt_; cases this
  | tup b=>obtain ⟨_,_,q,_⟩:=y.tup_; cases q
  | lst b=>obtain ⟨_,_,q,_⟩:=y.lst_; cases q
  | fl b=>obtain ⟨_,_,q,_⟩:=y.fl_; cases q
  | st b=>obtain ⟨_,_,_,q,_⟩:=y.st_; cases q
 | n, .bl b,e,v,h1,h2,x,y=>by
  rw [x.bl_] at y
  cases e with
  | non=>have:=y.non_; cases this
  | bl b=>have:=y.bl_; cases this; rfl
  | int b=>have:=y.int_; cases this
  | str b=>have:=y.str_; cases this
  | mt b=>have:=y.mt_; cases this
  | tup b=>obtain ⟨_,_,q,_⟩:=y.tup_; cases q
  | lst b=>obtain ⟨_,_,q,_⟩:=y.lst_; cases q
  | fl b=>obtain ⟨_,_,q,_⟩:=y.fl_; cases q
  | st b=>obtain ⟨_,_,_,q,_⟩:=y.st_; cases q
 | n, .int b,e,v,h1,h2,x,y=>by
  rw [x.int_] at y
  cases e with
  | non=>have:=y.non_; cases this
  | bl b=>have:=y.bl_; cases this
  | int b=>have:=y.int_; cases this; rfl
  | str b=>have:=y.str_; cases this
  | mt b=>have:=y.mt_; cases this
  | tup b=>obtain ⟨_,_,q,_⟩:=y.tup_; cases q
  | lst b=>obtain ⟨_,_,q,_⟩:=y.lst_; cases q
  | fl b=>obtain ⟨_,_,q,_⟩:=y.fl_; cases q
  | st b=>obtain ⟨_,_,_,q,_⟩:=y.st_; cases q
 | n, .str b,e,v,h1,h2,x,y=>by
  rw [x.str_] at y
  cases e with
  | non=>have:=y.non_; cases this
  | bl b=>have:=y.bl_; cases this
  | int b=>have:=y.int_; cases this
  | str b=>have:=y.str_; cases this; rfl
  | mt b=>have:=y.mt_; cases this
  | tup b=>obtain ⟨_,_,q,_⟩:=y.tup_; cases q
  | lst b=>obtain ⟨_,_,q,_⟩:=y.lst_; cases q
  | fl b=>obtain ⟨_,_,q,_⟩:=y.fl_; cases q
  | st b=>obtain ⟨_,_,_,q,_⟩:=y.st_; cases q
 | n, .mt _,_,_,h1,_,_,_=>by simp [okD] at h1
 | n, .fl _,_,_,h1,_,_,_=>by simp [okD] at h1
 | 0, .tup _,_,_,h1,_,_,_=>by simp [okD] at h1
 | 0, .lst _,_,_,h1,_,_,_=>by simp [okD] at h1
 | n+1, .tup ds,e,v,h1,h2,x,y=>by
  obtain ⟨a,vs,rfl,sq,dn⟩:=x.tup_
  cases e with
  | non=>have:=y.non_; cases this
  | bl b=>have:=y.bl_; cases this
  | int b=>have:=y.int_; cases this
  | str b=>have:=y.str_; cases this
  | mt b=>simp [okD] at h2
  | fl b=>simp [okD] at h2
  | st b=>simp [okD] at h2
  | tup es =>
   obtain ⟨b,ws,q,sq2,dn2⟩:=y.tup_
   cases q
   rw [<- I.tuple_inj sq sq2] at dn2
   simp only [okD] at h1 h2
   rw [dens_inj I n ds es vs h1 h2 dn dn2]
  | lst es =>
   obtain ⟨b,ws,q,sq2,dn2⟩:=y.lst_
   cases q
   exfalso
   obtain ⟨its,_,pt,_⟩:=I.tuple sq
   obtain ⟨jts,_,pl,_⟩:=I.list (SqL.of sq2)
   obtain ⟨o,e1,c1,_⟩:=pt
   obtain ⟨o2,n2,e2,c2,_⟩:=pl
   rw [e1] at e2; cases e2
   rw [c1] at c2; exact absurd c2 (by simp)
 | n+1, .lst ds,e,v,h1,h2,x,y=>by
  obtain ⟨a,vs,rfl,sq,dn⟩:=x.lst_
  cases e with
  | non=>have:=y.non_; cases this
  | bl b=>have:=y.bl_; cases this
  | int b=>have:=y.int_; cases this
  | str b=>have:=y.str_; cases this
  | mt b=>simp [okD] at h2
  | fl b=>simp [okD] at h2
  | st b=>simp [okD] at h2
  | lst es =>
   obtain ⟨b,ws,q,sq2,dn2⟩:=y.lst_
   cases q
   rw [sq] at sq2; cases sq2
   simp only [okD] at h1 h2
   rw [dens_inj I n ds es vs h1 h2 dn dn2]
  | tup es =>
   obtain ⟨b,ws,q,sq2,dn2⟩:=y.tup_
   cases q
   exfalso
   obtain ⟨its,_,pt,_⟩:=I.tuple sq2
   obtain ⟨jts,_,pl,_⟩:=I.list (SqL.of sq)
   obtain ⟨o,e1,c1,_⟩:=pt
   obtain ⟨o2,n2,e2,c2,_⟩:=pl
   rw [e1] at e2; cases e2
   rw [c1] at c2; exact absurd c2 (by simp)
theorem dens_inj (I:Inv X pins σ H s):∀ (n:Nat) (ds es:List D) (vs:List V),okDs n ds=true->okDs n es=true->Dens X.K H ds vs->Dens X.K H es vs->ds=es
 | _,[],es,vs,_,_,x,y=>by
  rw [cZ x] at y
  cases es with
  | nil=>rfl
  | cons e es=>obtain ⟨_,_,q,_⟩:=cC y; cases q
 | n,d::ds,es,vs,h1,h2,x,y=>by
  obtain ⟨v,r,rfl,a,b⟩:=cC x
  cases es with
  | nil=>have:=cZ y; cases this
  | cons e es =>
   obtain ⟨_,_,q,a2,b2⟩:=cC y
   cases q
   simp only [okDs,Bool.and_eq_true] at h1 h2
   rw [den_inj I n d e v h1.1 h2.1 a a2,dens_inj I n ds es r h1.2 h2.2 b b2]
end
end
end Z
namespace Z
open PySem L2
section
variable {X:Cx}{pins:List (Addr × Obj)}{σ:St}{H:Hp}{s:Shared}
theorem dW (I:Inv X pins σ H s) {ds:List D}{v:V}{u:Value} (h:Den X.K H (.tup ds) v) (r:RelV v u):∃ a its vs,u = .ref a/\s.heap.IsTuple a (List.toArray its)/\Vals vs its/\Dens X.K H ds vs:=by
 obtain ⟨a,vs,rfl,sq,dn⟩:=h.tup_
 obtain ⟨its,rv,pt,_⟩:=I.tuple sq
 exact ⟨a,its,vs,r,pt,rv,dn⟩
theorem dZ (I:Inv X pins σ H s) {ds:List D}{v:V}{u:Value} (h:Den X.K H (.lst ds) v) (r:RelV v u):∃ a its vs,u = .ref a/\s.heap.IsList a (List.toArray its)/\Vals vs its/\Dens X.K H ds vs:=by
 obtain ⟨a,vs,rfl,sq,dn⟩:=h.lst_
 obtain ⟨its,rv,pt,_⟩:=I.list (SqL.of sq)
 exact ⟨a,its,vs,r,pt.isList,rv,dn⟩
theorem cR:∀ {n:Nat}{ds:List D}{j:Nat}{d:D},okDs n ds=true->ds[j]?=some d->okD n d=true
 | _,[],_,_,_,e=>by simp at e
 | n,d0::ds,0,d,h,e=>by simp at e; subst e; simp only [okDs,Bool.and_eq_true] at h; exact h.1
 | n,d0::ds,j+1,d,h,e=>by simp only [okDs,Bool.and_eq_true] at h; exact cR (j:=j) h.2 (by simpa using e)
theorem eX {ds:List D}{vs:List V}{its:List Value} (dn:Dens X.K H ds vs) (rv:Vals vs its) {j:Nat} (h:j < its.toArray.size):∃ d v,ds[j]?=some d/\Den X.K H d v/\RelV v its.toArray[j]:=by
 obtain ⟨v,e1,r1⟩:=aM3 rv h
 obtain ⟨d,e2,q⟩:=dn.get' e1
 exact ⟨d,v,e2,q,r1⟩
mutual
theorem eqAt_D (I:Inv X pins σ H s):∀ (d:D) (n:Nat) (e:D) (v u:V) (v' u':Value) (A:Around),okD n d=true->okD n e=true->Den X.K H d v->Den X.K H e u->RelV v v'->RelV u u'->A.units+n < cLine->SeqAt.EqAt A s v' u' (eqD d e)
 | .non,n,e,v,u,v',u',A,h1,h2,x,y,rx,ry,hu=>by
  rw [x.non_] at rx; cases (show v'=Value.none from rx)
  cases e with
  | non=>rw [y.non_] at ry; cases (show u'=Value.none from ry); simp only [eqD]; exact SeqAt.EqAt.same _
  | bl b=>rw [y.bl_] at ry; cases (show u'=Value.bool b from ry); simp only [eqD]; exact SeqAt.EqAt.none_bool b
  | int b=>rw [y.int_] at ry; obtain ⟨t,rfl⟩:=ry; simp only [eqD]; exact SeqAt.EqAt.none_int b t
  | str b=>rw [y.str_] at ry; obtain ⟨t,rfl⟩:=ry; simp only [eqD]; exact SeqAt.EqAt.none_str b t
  | mt b=>simp [okD] at h2
  | fl b=>simp [okD] at h2
  | st b=>simp [okD] at h2
  | tup es=>obtain ⟨a,its,vs,rfl,it,_⟩:=dW I y ry; simp only [eqD]; exact SeqAt.EqAt.none_tuple it (by omega)
  | lst es=>obtain ⟨a,its,vs,rfl,it,_⟩:=dZ I y ry; simp only [eqD]; exact SeqAt.EqAt.none_list it (by omega)
 | .bl c,n,e,v,u,v',u',A,h1,h2,x,y,rx,ry,hu=>by
  rw [x.bl_] at rx; cases (show v'=Value.bool c from rx)
  cases e with
  | non=>rw [y.non_] at ry; cases (show u'=Value.none from ry); simp only [eqD]; exact SeqAt.EqAt.bool_none c
  | bl b=>rw [y.bl_] at ry; cases (show u'=Value.bool b from ry); simp only [eqD]; exact SeqAt.EqAt.bool_bool c b
  | int b=>rw [y.int_] at ry; obtain ⟨t,rfl⟩:=ry; simp only [eqD]; exact SeqAt.EqAt.bool_int c b t
  | str b=>rw [y.str_] at ry; obtain ⟨t,rfl⟩:=ry; simp only [eqD]; exact SeqAt.EqAt.bool_str c b t
  | mt b=>simp [okD] at h2
  | fl b=>simp [okD] at h2
  | st b=>simp [okD] at h2
  | tup es=>obtain ⟨a,its,vs,rfl,it,_⟩:=dW I y ry; simp only [eqD]; exact SeqAt.EqAt.bool_tuple c it (by omega)
  | lst es=>obtain ⟨a,its,vs,rfl,it,_⟩:=dZ I y ry; simp only [eqD]; exact SeqAt.EqAt.bool_list c it (by omega)
 | .int c,n,e,v,u,v',u',A,h1,h2,x,y,rx,ry,hu=>by
  rw [x.int_] at rx; obtain ⟨t0,rfl⟩:=rx
  cases e with
  | non=>rw [y.non_] at ry; cases (show u'=Value.none from ry); simp only [eqD]; exact SeqAt.EqAt.int_none c t0
  | bl b=>rw [y.bl_] at ry; cases (show u'=Value.bool b from ry); simp only [eqD]; exact SeqAt.EqAt.int_bool c t0 b
  | int b=>rw [y.int_] at ry; obtain ⟨t,rfl⟩:=ry; simp only [eqD]; exact SeqAt.EqAt.int_int c t0 b t
  | str b=>rw [y.str_] at ry; obtain ⟨t,rfl⟩:=ry; simp only [eqD]; exact SeqAt.EqAt.int_str c t0 b t
  | mt b=>simp [okD] at h2
  | fl b=>simp [okD] at h2
  | st b=>simp [okD] at h2
  | tup es=>obtain ⟨a,its,vs,rfl,it,_⟩:=dW I y ry; simp only [eqD]; exact SeqAt.EqAt.int_tuple c t0 it (by omega)
  | lst es=>obtain ⟨a,its,vs,rfl,it,_⟩:=dZ I y ry; simp only [eqD]; exact SeqAt.EqAt.int_list c t0 it (by omega)
 | .str c,n,e,v,u,v',u',A,h1,h2,x,y,rx,ry,hu=>by
  rw [x.str_] at rx; obtain ⟨t0,rfl⟩:=rx
  cases e with
  | non=>rw [y.non_] at ry; cases (show u'=Value.none from ry); simp only [eqD]; exact SeqAt.EqAt.str_none c t0
  | bl b=>rw [y.bl_] at ry; cases (show u'=Value.bool b from ry); simp only [eqD]; exact SeqAt.EqAt.str_bool c t0 b
  | int b=>rw [y.int_] at ry; obtain ⟨t,rfl⟩:=ry; simp only [eqD]; exact SeqAt.EqAt.str_int c t0 b t
  | str b=>rw [y.str_] at ry; obtain ⟨t,rfl⟩:=ry; simp only [eqD]; exact SeqAt.EqAt.str_str c t0 b t
  | mt b=>simp [okD] at h2
  | fl b=>simp [okD] at h2
  | st b=>simp [okD] at h2
  | tup es=>obtain ⟨a,its,vs,rfl,it,_⟩:=dW I y ry; simp only [eqD]; exact SeqAt.EqAt.str_tuple c t0 it (by omega)
  | lst es=>obtain ⟨a,its,vs,rfl,it,_⟩:=dZ I y ry; simp only [eqD]; exact SeqAt.EqAt.str_list c t0 it (by omega)
 | .mt _,n,_,_,_,_,_,_,h1,_,_,_,_,_,_=>by simp [okD] at h1
 | .fl _,n,_,_,_,_,_,_,h1,_,_,_,_,_,_=>by simp [okD] at h1
 | .st _,n,_,_,_,_,_,_,h1,_,_,_,_,_,_=>by simp [okD] at h1
 | .tup ds,0,_,_,_,_,_,_,h1,_,_,_,_,_,_=>by simp [okD] at h1
 | .lst ds,0,_,_,_,_,_,_,h1,_,_,_,_,_,_=>by simp [okD] at h1
 | .tup ds,n+1,e,v,u,v',u',A,h1,h2,x,y,rx,ry,hu=>by
  obtain ⟨a,its,vs,rfl,it,rv,dn⟩:=dW I x rx
  cases e with
  | non=>rw [y.non_] at ry; cases (show u'=Value.none from ry); simp only [eqD]; exact SeqAt.EqAt.tuple_none it (by omega)
  | bl b=>rw [y.bl_] at ry; cases (show u'=Value.bool b from ry); simp only [eqD]; exact SeqAt.EqAt.tuple_bool b it (by omega)
  | int b=>rw [y.int_] at ry; obtain ⟨t,rfl⟩:=ry; simp only [eqD]; exact SeqAt.EqAt.tuple_int b t it (by omega)
  | str b=>rw [y.str_] at ry; obtain ⟨t,rfl⟩:=ry; simp only [eqD]; exact SeqAt.EqAt.tuple_str b t it (by omega)
  | mt b=>simp [okD] at h2
  | fl b=>simp [okD] at h2
  | st b=>simp [okD] at h2
  | lst es=>obtain ⟨b,its2,vs2,rfl,it2,_⟩:=dZ I y ry; simp only [eqD]; exact SeqAt.EqAt.tuple_list it it2 (by omega)
  | tup es =>
   obtain ⟨b,its2,vs2,rfl,it2,rv2,dn2⟩:=dW I y ry
   have k1:okDs n ds=true:=by simpa only [okD] using h1
   have k2:okDs n es=true:=by simpa only [okD] using h2
   by_cases hab:a=b
   ·subst hab
    have e0:D.tup ds=D.tup es:=den_inj I (n+1) _ _ v h1 h2 x (by
     have:v=u:=by
      obtain ⟨_,_,e3,_⟩:=x.tup_
      obtain ⟨_,_,e4,_⟩:=y.tup_
      rw [e3] at rx; rw [e4] at ry
      cases rx; cases ry; rw [e3,e4]
     rw [this]; exact y)
    rw [<- e0,eqD_refl (n+1) _ h1]
    exact SeqAt.EqAt.same _
   ·have:=SeqAt.RcAt.tuples (A:=A) (s:=s) (e:=eqJ ds es) it it2 (by omega) (fun j g1 g2=>by
     obtain ⟨c,v1,e1,q1,r1⟩:=eX dn rv g1
     obtain ⟨c2,v2,e2,q2,r2⟩:=eX dn2 rv2 g2
     have:=eqAts_D I ds n j c e1 c2 v1 v2 _ _ A.in1 (cR k1 e1) (cR k2 e2) q1 q2 r1 r2 (by show A.units+1+n < cLine; omega)
     unfold eqJ; rw [e1,e2]; exact this)
    rw [List.size_toArray,List.size_toArray,<- rv.length,<- rv2.length,<- dn.len,<- dn2.len,gM] at this
    simp only [eqD]
    exact SeqAt.EqAt.of_refs hab this
 | .lst ds,n+1,e,v,u,v',u',A,h1,h2,x,y,rx,ry,hu=>by
  obtain ⟨a,its,vs,rfl,it,rv,dn⟩:=dZ I x rx
  cases e with
  | non=>rw [y.non_] at ry; cases (show u'=Value.none from ry); simp only [eqD]; exact SeqAt.EqAt.list_none it (by omega)
  | bl b=>rw [y.bl_] at ry; cases (show u'=Value.bool b from ry); simp only [eqD]; exact SeqAt.EqAt.list_bool b it (by omega)
  | int b=>rw [y.int_] at ry; obtain ⟨t,rfl⟩:=ry; simp only [eqD]; exact SeqAt.EqAt.list_int b t it (by omega)
  | str b=>rw [y.str_] at ry; obtain ⟨t,rfl⟩:=ry; simp only [eqD]; exact SeqAt.EqAt.list_str b t it (by omega)
  | mt b=>simp [okD] at h2
  | fl b=>simp [okD] at h2
  | st b=>simp [okD] at h2
  | tup es=>obtain ⟨b,its2,vs2,rfl,it2,_⟩:=dW I y ry; simp only [eqD]; exact SeqAt.EqAt.list_tuple it it2 (by omega)
  | lst es =>
   obtain ⟨b,its2,vs2,rfl,it2,rv2,dn2⟩:=dZ I y ry
   have k1:okDs n ds=true:=by simpa only [okD] using h1
   have k2:okDs n es=true:=by simpa only [okD] using h2
   by_cases hab:a=b
   ·subst hab
    have e0:D.lst ds=D.lst es:=den_inj I (n+1) _ _ v h1 h2 x (by
     have:v=u:=by
      obtain ⟨_,_,e3,_⟩:=x.lst_
      obtain ⟨_,_,e4,_⟩:=y.lst_
      rw [e3] at rx; rw [e4] at ry
      cases rx; cases ry; rw [e3,e4]
     rw [this]; exact y)
    rw [<- e0,eqD_refl (n+1) _ h1]
    exact SeqAt.EqAt.same _
   ·simp only [eqD]
    refine SeqAt.EqAt.of_refs hab ?_
    by_cases hl:ds.length=es.length
    ·have hsz:its.toArray.size=its2.toArray.size:=by rw [List.size_toArray,List.size_toArray,<- rv.length,<- rv2.length,<- dn.len,<- dn2.len,hl]
     have:=SeqAt.RcAt.lists (A:=A) (s:=s) (e:=eqJ ds es) it it2 hsz (by omega) (fun j g1 g2=>by
      obtain ⟨c,v1,e1,q1,r1⟩:=eX dn rv g1
      obtain ⟨c2,v2,e2,q2,r2⟩:=eX dn2 rv2 g2
      have:=eqAts_D I ds n j c e1 c2 v1 v2 _ _ A.in1 (cR k1 e1) (cR k2 e2) q1 q2 r1 r2 (by show A.units+1+n < cLine; omega)
      unfold eqJ; rw [e1,e2]; exact this)
     have e3:=gM ds es
     rw [<- hl,Nat.min_self,beq_self_eq_true,Bool.and_true] at e3
     rw [List.size_toArray,<- rv.length,<- dn.len,e3] at this
     exact this
    ·have hsz:(its.toArray.size != its2.toArray.size)=true:=by rw [bne_iff_ne,List.size_toArray,List.size_toArray,<- rv.length,<- rv2.length,<- dn.len,<- dn2.len]; exact hl
     have e3:=gM ds es
     rw [beq_eq_false_iff_ne.mpr hl,Bool.and_false] at e3
     rw [<- e3]
     exact SeqAt.RcAt.lists_lengths it it2 hsz (by omega)
theorem eqAts_D (I:Inv X pins σ H s):∀ (ds:List D) (n j:Nat) (d:D),ds[j]?=some d->∀ (e:D) (v u:V) (v' u':Value) (A:Around),okD n d=true->okD n e=true->Den X.K H d v->Den X.K H e u->RelV v v'->RelV u u'->A.units+n < cLine->SeqAt.EqAt A s v' u' (eqD d e)
 | [],_,_,_,q=>by simp at q
 | d0::ds,n,0,d,q=>by
  simp at q; subst q
  exact fun e v u v' u' A=>eqAt_D I d0 n e v u v' u' A
 | d0::ds,n,j+1,d,q=>eqAts_D I ds n j d (by simpa using q)
end
inductive Disp:D->Prop
 | tup (ds:List D):Disp (.tup ds)
 | lst (ds:List D):Disp (.lst ds)
inductive Rs (M:Mem):D->D->Prop
 | tup (ds:List D):Rs M (.tup ds) (.tup ds)
 | lst (ds:List D):Rs M (.lst ds) (.lst ds)
 | mt {a:Addr}{ds:List D} (h:M a=some (.lst ds)):Rs M (.mt a) (.lst ds)
theorem Rs.disp {M:Mem}{d e:D} (h:Rs M d e):Disp e:=by cases h <;> constructor
theorem Rs.den {K:Fg}{G H:Hp}{M:Mem}{d e:D}{v:V} (h:Rs M d e) (rl:Rel K G H M) (q:Den K G d v):Den K H e v:=by
 cases h with
 | tup ds=>exact q.up rl.same
 | lst ds=>exact q.up rl.same
 | mt hm =>
  obtain ⟨_,vs,e1,dn⟩:=rl.mem _ _ hm
  rw [q.mt_]; exact jC e1 (dn.up rl.same)
def aAQ (K:Fg) (n:Nat) (neg:Bool):R2:=fun x y H Q=>∃ d e,Disp d/\Disp e/\okD n d=true/\okD n e=true/\Den K H d x/\Den K H e y/\Q (.bl (if neg then !eqD d e else eqD d e)) H
theorem rc_D (I:Inv X pins σ H s) {n:Nat}{d e:D}{v u:V}{v' u':Value} (A:Around) (g1:Disp d) (g2:Disp e) (h1:okD n d=true) (h2:okD n e=true) (x:Den X.K H d v) (y:Den X.K H e u) (rx:RelV v v') (ry:RelV u u') (hu:A.units+n < cLine):SeqAt.RcAt A s v' u' (eqD d e):=by
 cases g1 with
 | tup ds =>
  obtain ⟨a,its,vs,rfl,it,rv,dn⟩:=dW I x rx
  cases g2 with
  | lst es=>obtain ⟨b,its2,vs2,rfl,it2,_⟩:=dZ I y ry; simp only [eqD]; exact SeqAt.RcAt.tuple_list it it2 (by omega)
  | tup es =>
   obtain ⟨b,its2,vs2,rfl,it2,rv2,dn2⟩:=dW I y ry
   cases n with
   | zero=>simp [okD] at h1
   | succ n =>
    have k1:okDs n ds=true:=by simpa only [okD] using h1
    have k2:okDs n es=true:=by simpa only [okD] using h2
    have:=SeqAt.RcAt.tuples (A:=A) (s:=s) (e:=eqJ ds es) it it2 (by omega) (fun j g1 g2=>by
     obtain ⟨c,v1,e1,q1,r1⟩:=eX dn rv g1
     obtain ⟨c2,v2,e2,q2,r2⟩:=eX dn2 rv2 g2
     have:=eqAt_D I c n c2 v1 v2 _ _ A.in1 (cR k1 e1) (cR k2 e2) q1 q2 r1 r2 (by show A.units+1+n < cLine; omega)
     unfold eqJ; rw [e1,e2]; exact this)
    rw [List.size_toArray,List.size_toArray,<- rv.length,<- rv2.length,<- dn.len,<- dn2.len,gM] at this
    simp only [eqD]; exact this
 | lst ds =>
  obtain ⟨a,its,vs,rfl,it,rv,dn⟩:=dZ I x rx
  cases g2 with
  | tup es=>obtain ⟨b,its2,vs2,rfl,it2,_⟩:=dW I y ry; simp only [eqD]; exact SeqAt.RcAt.list_tuple it it2 (by omega)
  | lst es =>
   obtain ⟨b,its2,vs2,rfl,it2,rv2,dn2⟩:=dZ I y ry
   cases n with
   | zero=>simp [okD] at h1
   | succ n =>
    have k1:okDs n ds=true:=by simpa only [okD] using h1
    have k2:okDs n es=true:=by simpa only [okD] using h2
    simp only [eqD]
    by_cases hl:ds.length=es.length
    ·have hsz:its.toArray.size=its2.toArray.size:=by rw [List.size_toArray,List.size_toArray,<- rv.length,<- rv2.length,<- dn.len,<- dn2.len,hl]
     have:=SeqAt.RcAt.lists (A:=A) (s:=s) (e:=eqJ ds es) it it2 hsz (by omega) (fun j g1 g2=>by
      obtain ⟨c,v1,e1,q1,r1⟩:=eX dn rv g1
      obtain ⟨c2,v2,e2,q2,r2⟩:=eX dn2 rv2 g2
      have:=eqAt_D I c n c2 v1 v2 _ _ A.in1 (cR k1 e1) (cR k2 e2) q1 q2 r1 r2 (by show A.units+1+n < cLine; omega)
      unfold eqJ; rw [e1,e2]; exact this)
     have e3:=gM ds es
     rw [<- hl,Nat.min_self,beq_self_eq_true,Bool.and_true] at e3
     rw [List.size_toArray,<- rv.length,<- dn.len,e3] at this
     exact this
    ·have hsz:(its.toArray.size != its2.toArray.size)=true:=by rw [bne_iff_ne,List.size_toArray,List.size_toArray,<- rv.length,<- rv2.length,<- dn.len,<- dn2.len]; exact hl
     have e3:=gM ds es
     rw [beq_eq_false_iff_ne.mpr hl,Bool.and_false] at e3
     rw [<- e3]
     exact SeqAt.RcAt.lists_lengths it it2 hsz (by omega)
end
section
variable {X:Cx}
theorem lY {n:Nat} (hu:X.A.units+n < cLine):OpR X (compareOp .Eq) (aAQ X.K n false):=by
 intro pins s σ H x y v u Q I rx ry h
 obtain ⟨d,e,g1,g2,h1,h2,dx,dy,q⟩:=h
 exact rc_D I X.A g1 g2 h1 h2 dx dy rx ry hu X.prog X.w X.xe _ ⟨.bl (eqD d e),H,I,rfl,q⟩
theorem lX {K:Fg}{n:Nat}{M:Mem}{k:D->Mem->Prop}{d1 d2 e1 e2:D} (r1:Rs M d1 e1) (r2:Rs M d2 e2) (h1:okD n e1=true) (h2:okD n e2=true) (h:k (.bl (eqD e1 e2)) M):Op2 K (aAQ K n false) d1 d2 M k:=fun G H v1 v2 Q rl x y q =>
 ⟨e1,e2,r1.disp,r2.disp,h1,h2,r1.den rl x,r2.den rl y,q _ _ _ _ _ (Stp.refl rl) dG h⟩
end
end Z
namespace Z
open PySem L2
mutual
def toPy:D->PyData
 | .non => .none
 | .bl b => .bool b
 | .int i => .int i
 | .str x => .str x
 | .tup ds => .tuple (toPys ds)
 | .lst ds => .list (toPys ds)
 | .mt _ => .none
 | .fl _ => .none
 | .st _ => .none
def toPys:List D->List PyData
 | []=>[]
 | d::ds=>toPy d::toPys ds
end
mutual
theorem depth_le:∀ (d:D) (n:Nat),okD n d=true->(toPy d).depth<=n
 | .non,_,_=>by simp [toPy,PyData.depth]
 | .bl _,_,_=>by simp [toPy,PyData.depth]
 | .int _,_,_=>by simp [toPy,PyData.depth]
 | .str _,_,_=>by simp [toPy,PyData.depth]
 | .mt _,n,h=>by simp [okD] at h
 | .fl _,n,h=>by simp [okD] at h
 | .st _,n,h=>by simp [okD] at h
 | .tup ds,0,h=>by simp [okD] at h
 | .lst ds,0,h=>by simp [okD] at h
 | .tup ds,n+1,h=>by
  simp only [toPy,PyData.depth]
  have:=depths_le ds n (by simpa only [okD] using h)
  omega
 | .lst ds,n+1,h=>by
  simp only [toPy,PyData.depth]
  have:=depths_le ds n (by simpa only [okD] using h)
  omega
theorem depths_le:∀ (ds:List D) (n:Nat),okDs n ds=true->PyData.depthAll (toPys ds)<=n
 | [],_,_=>by simp [toPys,PyData.depthAll]
 | d::ds,n,h=>by
  simp only [okDs,Bool.and_eq_true] at h
  simp only [toPys,PyData.depthAll]
  have h1:=depth_le d n h.1
  have h2:=depths_le ds n h.2
  omega
end
mutual
theorem noDict:∀ (d:D),(toPy d).hasDict=false
 | .non=>by simp only [toPy,PyData.hasDict]
 | .bl _=>by simp only [toPy,PyData.hasDict]
 | .int _=>by simp only [toPy,PyData.hasDict]
 | .str _=>by simp only [toPy,PyData.hasDict]
 | .mt _=>by simp only [toPy,PyData.hasDict]
 | .fl _=>by simp only [toPy,PyData.hasDict]
 | .st _=>by simp only [toPy,PyData.hasDict]
 | .tup ds=>by simp only [toPy,PyData.hasDict]; exact noDicts ds
 | .lst ds=>by simp only [toPy,PyData.hasDict]; exact noDicts ds
theorem noDicts:∀ (ds:List D),PyData.hasDictAll (toPys ds)=false
 | []=>by simp only [toPys,PyData.hasDictAll]
 | d::ds=>by simp only [toPys,PyData.hasDictAll,noDict d,noDicts ds,Bool.or_false]
end
section
variable {X:Cx}{pins:List (Addr × Obj)}{σ:St}{H:Hp}{s:Shared}
mutual
theorem reads_D (I:Inv X pins σ H s):∀ (d:D) (n:Nat) (v:V) (u:Value),okD n d=true->Den X.K H d v->RelV v u->∃ as,Reads s.heap u (toPy d) as
 | .non,_,v,u,_,x,r=>by rw [x.non_] at r; cases (show u=Value.none from r); exact ⟨_,by simp only [toPy]; exact .none⟩
 | .bl b,_,v,u,_,x,r=>by rw [x.bl_] at r; cases (show u=Value.bool b from r); exact ⟨_,by simp only [toPy]; exact .bool b⟩
 | .int b,_,v,u,_,x,r=>by rw [x.int_] at r; obtain ⟨t,rfl⟩:=r; exact ⟨_,by simp only [toPy]; exact .int b t⟩
 | .str b,_,v,u,_,x,r=>by rw [x.str_] at r; obtain ⟨t,rfl⟩:=r; exact ⟨_,by simp only [toPy]; exact .str b t⟩
 | .mt _,n,_,_,h,_,_=>by simp [okD] at h
 | .fl _,n,_,_,h,_,_=>by simp [okD] at h
 | .st _,n,_,_,h,_,_=>by simp [okD] at h
 | .tup ds,0,_,_,h,_,_=>by simp [okD] at h
 | .lst ds,0,_,_,h,_,_=>by simp [okD] at h
 | .tup ds,n+1,v,u,h,x,r=>by
  obtain ⟨a,its,vs,rfl,⟨o,e1,e2,m,e3⟩,rv,dn⟩:=dW I x r
  obtain ⟨as,q⟩:=readss_D I ds n vs its (by simpa only [okD] using h) dn rv
  exact ⟨as,by simp only [toPy]; exact .tuple e1 e2 e3 (by simpa using q)⟩
 | .lst ds,n+1,v,u,h,x,r=>by
  obtain ⟨a,its,vs,rfl,⟨o,e1,e2,m,e3⟩,rv,dn⟩:=dZ I x r
  obtain ⟨as,q⟩:=readss_D I ds n vs its (by simpa only [okD] using h) dn rv
  exact ⟨a::as,by simp only [toPy]; exact .list e1 e2 e3 (by simpa using q)⟩
theorem readss_D (I:Inv X pins σ H s):∀ (ds:List D) (n:Nat) (vs:List V) (us:List Value),okDs n ds=true->Dens X.K H ds vs->Vals vs us->∃ as,ReadsAll s.heap us (toPys ds) as
 | [],_,vs,us,_,x,r=>by
  rw [cZ x] at r
  cases r
  exact ⟨[],by simp only [toPys]; exact .nil⟩
 | d::ds,n,vs,us,h,x,r=>by
  obtain ⟨v,t,rfl,a,b⟩:=cC x
  cases r with
  | cons r1 r2 =>
   simp only [okDs,Bool.and_eq_true] at h
   obtain ⟨as,q⟩:=reads_D I d n v _ h.1 a r1
   obtain ⟨bs,q2⟩:=readss_D I ds n t _ h.2 b r2
   exact ⟨as++bs,by simp only [toPys]; exact .cons q q2⟩
end
end
section
variable {X:Cx}
theorem aKU {x y:Value} (h:(x == y)=true):x=y:=eq_of_beq h
def eOf (ds:List D) (its:List Value) (c:D) (y:Value):Bool:=match (its.zip ds).find? (fun p=>p.1 == y) with
 | some p=>eqD p.2 c
 | none=>false
theorem zD {pins:List (Addr × Obj)}{σ:St}{H:Hp}{s:Shared} (I:Inv X pins σ H s) {n:Nat}{ds:List D}{vs:List V}{its:List Value} (ok:okDs n ds=true) (dn:Dens X.K H ds vs) (rv:Vals vs its) {c:D}{j:Nat}{y:Value}{d:D}
  (hy:its[j]?=some y) (hd:ds[j]?=some d):eOf ds its c y=eqD d c:=by
 unfold eOf
 have hl:its.length=ds.length:=by rw [dn.len,rv.length]
 have hz:(its.zip ds)[j]?=some (y,d):=by rw [List.getElem?_zip_eq_some]; exact ⟨hy,hd⟩
 cases hf:(its.zip ds).find? (fun p=>p.1 == y) with
 | none =>
  have:=List.find?_eq_none.mp hf (y,d) (zMo hz)
  exact absurd (by simp) this
 | some p =>
  have h1:=List.find?_some hf
  have h2:=List.mem_of_find?_eq_some hf
  obtain ⟨i,hi⟩:=List.getElem?_of_mem h2
  obtain ⟨a1,a2⟩:=List.getElem?_zip_eq_some.mp (show (its.zip ds)[i]?=some (p.1,p.2) from hi)
  have ey:p.1=y:=aKU h1
  rw [ey] at a1
  obtain ⟨v1,w1,q1⟩:=dn.get a2
  obtain ⟨v2,w2,q2⟩:=dn.get hd
  obtain ⟨u1,x1,r1⟩:=rv.get w1
  obtain ⟨u2,x2,r2⟩:=rv.get w2
  rw [a1] at x1; cases x1
  rw [hy] at x2; cases x2
  have:v1=v2:=r1.inj r2
  subst this
  show eqD p.2 c=eqD d c
  rw [den_inj I n p.2 d v1 (cR ok a2) (cR ok hd) q1 q2]
theorem aCL {pins:List (Addr × Obj)}{σ:St}{H:Hp}{s:Shared} (I:Inv X pins σ H s) {n:Nat}{ds:List D}{vs:List V}{its:List Value} (ok:okDs n ds=true) (dn:Dens X.K H ds vs) (rv:Vals vs its) (c:D):its.toArray.any (eOf ds its c)=ds.any fun d=>eqD d c:=by
 have hl:its.length=ds.length:=by rw [dn.len,rv.length]
 rw [List.any_toArray]
 rw [Bool.eq_iff_iff,List.any_eq_true,List.any_eq_true]
 constructor
 ·rintro ⟨y,hy,e⟩
  obtain ⟨j,hj⟩:=List.getElem?_of_mem hy
  have hlt:j < ds.length:=by rw [<- hl]; exact (zGs hj).1
  rw [zD I ok dn rv hj (zGe hlt)] at e
  exact ⟨_,List.getElem_mem hlt,e⟩
 ·rintro ⟨d,hd,e⟩
  obtain ⟨j,hj⟩:=List.getElem?_of_mem hd
  have hlt:j < its.length:=by rw [hl]; exact (zGs hj).1
  refine ⟨its[j],List.getElem_mem hlt,?_⟩
  rw [zD I ok dn rv (zGe hlt) hj]
  exact e
def rInD (K:Fg) (n:Nat) (neg:Bool):R2:=fun x y H Q=>∃ c d ds,(d = .tup ds\/d = .lst ds)/\okD n c=true/\okDs n ds=true/\Den K H c x/\Den K H d y/\Q (.bl (if neg then !(ds.any fun e=>eqD e c) else ds.any fun e=>eqD e c)) H
end
end Z
namespace R
open PySem L2
theorem fW {z:Str}{j:Nat} (h:j < z.length):z.cps.toList[j]?=some (atS z j):=by
 have h':j < z.cps.size:=h
 simp [atS,Array.getD,h']
theorem lT {l:List Nat}{j:Nat}:atS (ofL l) j=l.getD j 0:=by
 unfold atS ofL
 rw [Array.getD_eq_getD_getElem?,List.getElem?_toArray,zGd]
def Good (n:Nat) (zs:List Str):Prop:=∀ z∈zs,z.length=n/\z.cps.toList.all sgn=true
theorem rJ {n:Nat}{zs:List Str} (h:Good n zs) {z:Str} (hz:z∈zs) {j:Nat} (hj:j < n):atS z j=35\/atS z j=46:=by
 obtain ⟨h1,h2⟩:=h z hz
 have e:=fW (z:=z) (j:=j) (by omega)
 have:=List.all_eq_true.mp h2 _ (zMo e)
 unfold sgn at this
 rw [Bool.or_eq_true,beq_iff_eq,beq_iff_eq] at this
 exact this
theorem uE (n:Nat):(dots n).length=n:=by unfold dots; rw [oZ,List.length_replicate]
theorem aKQ {n:Nat}{z:Str} (hl:z.length=n) (h:∀ j,j < n->atS z j=46):z=dots n:=by
 apply lV
 show z.cps.toList=List.replicate n 46
 apply List.ext_getElem?
 intro j
 by_cases hj:j < n
 ·rw [fW (by omega),h j hj,List.getElem?_replicate,if_pos hj]
 ·rw [List.getElem?_eq_none (by rw [Array.length_toList]; have:z.cps.size=n:=hl; omega),List.getElem?_eq_none (by simp; omega)]
theorem lU {n j:Nat}:atS (dots n) j=if j < n then 46 else 0:=by
 unfold dots
 rw [lT,zGd,List.getElem?_replicate]
 split <;> rfl
theorem kR {α:Type} (f:Nat->α):∀ p,f p≠f 0->∃ k,k < p/\f k≠f (k+1)
 | 0,h=>absurd rfl h
 | p+1,h=>by
  by_cases e:f p=f 0
  ·exact ⟨p,by omega,by rw [e]; exact Ne.symm h⟩
  ·obtain ⟨k,h1,h2⟩:=kR f p e
   exact ⟨k,by omega,h2⟩
theorem jG {α:Type} (f:Nat->α):∀ m p,f p≠f (p+m)->∃ k,p<=k/\k < p+m/\f k≠f (k+1)
 | 0,p,h=>absurd rfl h
 | m+1,p,h=>by
  by_cases e:f p=f (p+m)
  ·exact ⟨p+m,by omega,by omega,by rw [<- e]; exact h⟩
  ·obtain ⟨k,h1,h2,h3⟩:=jG f m p e
   exact ⟨k,h1,by omega,h3⟩
theorem cV {zs:List Str}{i:Nat} (h:i < zs.length):(framed zs)[i+1]?=zs[i]?:=by
 unfold framed
 rw [List.append_assoc,List.singleton_append,List.getElem?_cons_succ,List.getElem?_append_left h]
theorem f6 (zs:List Str):(framed zs)[0]?=some (dots ((zs.head?.map (·.length)).getD 0)):=by simp [framed]
theorem d9 (zs:List Str):(framed zs)[zs.length+1]?=some (dots ((zs.head?.map (·.length)).getD 0)):=by
 unfold framed
 rw [List.append_assoc,List.singleton_append,List.getElem?_cons_succ,List.getElem?_append_right (Nat.le_refl _)]
 simp
theorem fU {zs:List Str}{i:Nat} (hz:zs≠[]):i∈chg zs↔i<=zs.length/\(framed zs)[i]?≠(framed zs)[i+1]?:=by
 unfold chg
 have:zs.isEmpty=false:=by cases zs with
  | nil=>exact absurd rfl hz
  | cons _ _=>rfl
 rw [this]
 simp only [Bool.false_eq_true,if_false,List.mem_filter,List.mem_range,Bool.not_eq_true',decide_eq_false_iff_not]
 exact ⟨fun ⟨a,b⟩=>⟨by omega,b⟩,fun ⟨a,b⟩=>⟨by omega,b⟩⟩
theorem cW {n:Nat}{zs:List Str} (h:∀ z∈zs,z.length=n) (hz:zs≠[]):(zs.head?.map (·.length)).getD 0=n:=by
 cases zs with
 | nil=>exact absurd rfl hz
 | cons z zr=>exact h z (by simp)
theorem aKZ {n:Nat}{zs:List Str} (h:∀ z∈zs,z.length=n) {i:Nat}{z:Str} (hi:zs[i]?=some z) (hz:z≠dots n):2<=(chg zs).length:=by
 have hlt:i < zs.length:=(zGs hi).1
 have hne:zs≠[]:=fun e=>by rw [e] at hlt; simp at hlt
 have hw:=cW h hne
 have f0:(framed zs)[0]?=some (dots n):=by rw [f6,hw]
 have fl:(framed zs)[zs.length+1]?=some (dots n):=by rw [d9,hw]
 have fp:(framed zs)[i+1]?=some z:=by rw [cV hlt,hi]
 obtain ⟨k1,a1,b1⟩:=kR (fun k=>(framed zs)[k]?) (i+1) (by show (framed zs)[i+1]?≠(framed zs)[0]?; rw [fp,f0]; exact fun e=>hz (Option.some.inj e))
 obtain ⟨k2,a2,a3,b2⟩:=jG (fun k=>(framed zs)[k]?) (zs.length - i) (i+1) (by
  show (framed zs)[i+1]?≠(framed zs)[i+1+(zs.length - i)]?
  rw [show i+1+(zs.length - i)=zs.length+1 by omega,fp,fl]; exact fun e=>hz (Option.some.inj e))
 have m1:k1∈chg zs:=(fU hne).mpr ⟨by omega,b1⟩
 have m2:k2∈chg zs:=(fU hne).mpr ⟨by omega,b2⟩
 match hc:chg zs,m1,m2 with
 | [],m1,_=>cases m1
 | [x],m1,m2 =>
  simp at m1 m2
  omega
 | _::_::_,_,_=>simp
def aV (zs:List Str):List Str:=(chg zs).dropLast.map fun i=>zs.getD i Str.empty
theorem kK {zs:List Str}:∀ z∈aV zs,z∈zs:=fun z hz=>by
 obtain ⟨i,hi,rfl⟩:=List.mem_map.mp hz
 have:=jU (cG zs) (fG zs) i hi
 rw [zGd,zGe this]
 exact List.getElem_mem _
theorem jN {n:Nat}{zs:List Str} (h:Good n zs):Good n (aV zs):=fun z hz=>h z (kK z hz)
theorem fF (zs:List Str):(aV zs).length=(chg zs).length - 1:=by unfold aV; rw [zLm,List.length_dropLast]
theorem tW {n:Nat}{zs:List Str} (h:∀ z∈zs,z.length=n) (hr:aV zs≠[]):∃ z∈aV zs,z≠dots n:=by
 have h2:2<=(chg zs).length:=by
  have:=List.length_pos_iff.mpr hr
  rw [fF] at this
  omega
 have hne:zs≠[]:=fun e=>by rw [e] at h2; simp [chg] at h2
 match hc:chg zs,h2 with
 | k0::k1::r,_ =>
  have m0:k0∈chg zs:=by rw [hc]; simp
  have s:=cG zs
  rw [hc] at s
  have hk1:k1<=zs.length:=fG zs k1 (by rw [hc]; simp)
  have hk:k0 < k1:=(List.pairwise_cons.mp s).1 k1 (by simp)
  have hk0:k0 < zs.length:=by omega
  obtain ⟨_,b0⟩:=(fU hne).mp m0
  have same:∀ j,j<=k0->(framed zs)[j]?=(framed zs)[0]?:=fun j hj=>Classical.byContradiction fun q=>by
   obtain ⟨k,a1,b1⟩:=kR (fun k=>(framed zs)[k]?) j q
   have:k∈chg zs:=(fU hne).mpr ⟨by omega,b1⟩
   rw [hc] at this
   rcases List.mem_cons.mp this with rfl | this
   ·omega
   ·have:=(List.pairwise_cons.mp s).1 k this
    omega
  refine ⟨zs.getD k0 Str.empty,?_,fun q=>b0 ?_⟩
  ·unfold aV
   rw [hc]
   simp
  ·rw [same k0 (Nat.le_refl _),f6,cW h hne,cV hk0,<- q,zGd,zGe hk0]
   rfl
theorem jA {zs:List Str}{n j:Nat} (h:∀ z∈zs,z.length=n) (hz:zs≠[]) (hj:j < n):(aO zs)[j]?=some (ofL (zs.map (atS · j))):=by
 unfold aO
 rw [cW h hz,List.getElem?_map,List.getElem?_range hj]
 rfl
theorem nI {n:Nat}{zs:List Str} (h:Good n zs):Good zs.length (aO zs):=fun z hz=>by
 refine ⟨iA z hz,?_⟩
 obtain ⟨j,hj,rfl⟩:=List.mem_map.mp hz
 rw [List.mem_range] at hj
 show (zs.map (atS · j)).all sgn=true
 rw [List.all_eq_true]
 intro c hc
 obtain ⟨z,hz,rfl⟩:=List.mem_map.mp hc
 have hne:zs≠[]:=fun e=>by rw [e] at hz; cases hz
 rw [cW (fun z hz=>(h z hz).1) hne] at hj
 rcases rJ h hz hj with e | e <;> rw [e] <;> rfl
structure Wf (nx ny:Nat) (zs:List Str):Prop where
 rows:zs.length+1=ny\/(nx=0/\ny=0/\zs=[])
 good:Good (nx - 1) zs
 wide:0 < nx\/(nx=0/\ny=0/\zs=[])
theorem aAM {n:Nat}{zs:List Str} (h:Good n zs) {z:Str} (hz:z∈zs) (hd:z≠dots n):∃ j,j < n/\atS z j=35:=by
 refine Classical.byContradiction fun q=>hd (aKQ (h z hz).1 fun j hj => ?_)
 rcases rJ h hz hj with e | e
 ·exact absurd ⟨j,hj,e⟩ q
 ·exact e
theorem aLJ {n:Nat}{zs:List Str} (h:Good n zs) (hr:aV zs≠[]) :
  2<=(chg (aO (aV zs))).length/\Wf (chg (aO (aV zs))).length (chg zs).length (aO (aV (aO (aV zs))))/\(aO (aV (aO (aV zs)))).length=(aV zs).length:=by
 have g1:=jN h
 obtain ⟨z,hz,hd⟩:=tW (fun z hz=>(h z hz).1) hr
 obtain ⟨j,hj,e35⟩:=aAM g1 hz hd
 have gc:=nI g1
 have hc:=jA (fun z hz=>(g1 z hz).1) hr hj
 have hnd:ofL ((aV zs).map (atS · j))≠dots (aV zs).length:=fun q=>by
  obtain ⟨i,hi,ez⟩:=List.getElem_of_mem hz
  have e1:atS (ofL ((aV zs).map (atS · j))) i=35:=by
   rw [lT,zGd,List.getElem?_map,zGe hi,ez]
   exact e35
  rw [q,lU,if_pos hi] at e1
  cases e1
 have c2:=aKZ (fun z hz=>(gc z hz).1) hc hnd
 have hk:aV (aO (aV zs))≠[]:=fun q=>by
  have:=fF (aO (aV zs))
  rw [q] at this
  simp at this
  omega
 have g2:=jN gc
 have l2:=(uF (fun z hz=>(g2 z hz).1)).2 hk
 have zl:=fF zs
 have pos:=List.length_pos_iff.mpr hr
 refine ⟨c2,⟨.inl (by rw [l2]; omega),?_, .inl (by omega)⟩,l2⟩
 have g3:=nI g2
 rw [fF] at g3
 exact g3
def aT (zs:List Str) (a u:Int):Bool:=decide (0<=u) && decide (0<=a) && ((zs[u.toNat]?).bind fun z=>z.cps.toList[a.toNat]?) == some 35
theorem fC {zs:List Str}{a u:Int} (h:u < 0):aT zs a u=false:=by
 unfold aT; rw [decide_eq_false (by omega)]; rfl
theorem cD {zs:List Str}{a u:Int} (h:a < 0):aT zs a u=false:=by
 unfold aT; rw [decide_eq_false (show ¬ (0:Int)<=a by omega),Bool.and_false]; rfl
theorem fI {zs:List Str}{a u:Int} (h:(zs.length:Int)<=u):aT zs a u=false:=by
 unfold aT
 rw [List.getElem?_eq_none (by omega)]
 simp
theorem kG {zs:List Str}{a u:Int}{z:Str} (e:zs[u.toNat]?=some z) (h:(z.length:Int)<=a):aT zs a u=false:=by
 unfold aT
 rw [e]
 have:z.cps.toList[a.toNat]?=none:=List.getElem?_eq_none (by rw [Array.length_toList]; have:z.cps.size=z.length:=rfl; omega)
 rw [Option.bind_some,this]
 cases decide (0<=u) <;> cases decide (0<=a) <;> rfl
theorem iC {zs:List Str}{a u:Int}{z:Str}{c:Nat} (hu:0<=u) (ha:0<=a) (e:zs[u.toNat]?=some z) (ec:z.cps.toList[a.toNat]?=some c):aT zs a u=decide (c=35):=by
 unfold aT
 rw [decide_eq_true hu,decide_eq_true ha,e]
 simp only [Option.bind_some,ec,Bool.and_true,Bool.true_and]
 by_cases h:c=35
 ·subst h; rfl
 ·rw [decide_eq_false h]; simp [h]
def sg (b:Bool):Nat:=if b then 35 else 46
end R
namespace Q
open PySem L2 Z
theorem BMin:bootBuiltins "min" = some (.builtin "min"):=by decide +kernel
theorem BEnum:bootBuiltins "enumerate" = some (.type "enumerate"):=by decide +kernel
structure Bt (mg:Str->Option Value):Prop where
 len:mg "len" = none
 abs:mg "abs" = none
 int:mg "int" = none
 min:mg "min" = none
 max:mg "max" = none
 range:mg "range" = none
 list:mg "list" = none
 tuple:mg "tuple" = none
 repr:mg "repr" = none
 all:mg "all" = none
 any:mg "any" = none
 enumerate:mg "enumerate" = none
 isi:mg "isinstance" = none
 bool:mg "bool" = none
 str:mg "str" = none
 zip:mg "zip" = none
 reversed:mg "reversed" = none
 sorted:mg "sorted" = none
 dict:mg "dict" = none
def cH (p:Addr) (M M':Mem):Prop:=∀ a o,a≠p->M a=some o->M' a=some o
theorem cH.refl (p:Addr) (M:Mem):cH p M M:=fun _ _ _ h=>h
theorem cH.trans {p:Addr}{M M1 M2:Mem} (a:cH p M M1) (b:cH p M1 M2):cH p M M2:=fun c o n h=>b c o n (a c o n h)
theorem cH.upd {p:Addr}{M M':Mem}{o:MO} (h:cH p M M'):cH p M (b7 M' p o):=fun a u n e=>by rw [dS n]; exact h a u n e
theorem cH.new {p a:Addr}{M M':Mem}{o:MO} (h:cH p M M') (n:M a=none):cH p M (b7 M' a o):=fun b u nb e=>by
 rw [dS (fun z=>by rw [z,n] at e; cases e)]; exact h b u nb e
def aK4:Ct:=fun ds M k=>∃ a b:Int,ds=[.int a, .int b]/\k (.int ((Int.gcd a b:Nat):Int)) M
theorem aHV {ns:List Int}{k:Int} (h0:0<=k) (h:k < ns.length):∃ z:Int,atI (ns.map D.int) k=some (.int z):=by
 obtain ⟨j,rfl⟩:∃ j:Nat,k=(j:Int):=⟨k.toNat,by omega⟩
 have hj:j < ns.length:=by omega
 exact ⟨ns[j],dC (by simp [hj])⟩
theorem fL {M:Mem}{a:Addr}{o:MO} (h:M a=none):kU (b7 M a o) a=M:=by
 funext b
 unfold kU b7
 by_cases e:b=a
 ·rw [if_pos e,e,h]
 ·rw [if_neg e,if_neg e]
def aKH (bt at_:Int):D := .tup [.int (at_ / ((Int.gcd at_ bt:Nat):Int)), .int (bt / ((Int.gcd at_ bt:Nat):Int))]
structure Ats (bt:Int) (ats:List Int):Prop where
 bt:bt=1\/bt=2\/bt=9
 up:ats.Pairwise (· < ·)
 bd:∀ a∈ats, -20<=a/\a<=10 ^ 10
def yE (xs:List D) (js:List Nat):List D:=js.map fun j=>xs.getD j .non
def o7 (xs ys:List D) (zs:List Str):D := .tup [.tup xs, .tup ys, .tup (zs.map .str)]
structure YardOk (xs ys:List D) (zs:List Str):Prop where
 lx:∃ bt ats,xs=ats.map (aKH bt)/\Ats bt ats
 ly:∃ bt ats,ys=ats.map (aKH bt)/\Ats bt ats
 wf:R.Wf xs.length ys.length zs
 few:xs.length<=21/\ys.length<=21
 full:zs=[]->xs=[]/\ys=[]
theorem cA {α β:Type}{f:α->β}{l:List α}{i:Nat}{y:β} (h:(l.map f)[i]?=some y):∃ x,l[i]?=some x/\y=f x:=by
 rw [List.getElem?_map] at h
 cases e:l[i]? with
 | none=>rw [e] at h; cases h
 | some x=>rw [e] at h; exact ⟨x,rfl,(Option.some.inj h).symm⟩
end Q
namespace PySem
open Sem (wp)
open AutoSeq1 (wpAny_loadPart')
section
variable {prog:Program}{w:World}{A:Around}{E:Value->Shared->Prop}{s:Shared}
theorem aAB {iq tu:Addr}{i:Nat}{its}{x:Value}{Q:Value->Shared->Prop} (hI:s.heap.IsTupleIter iq tu i) (hT:s.heap.IsTuple tu its) (hq:its[i]?=some x)
  (kQ:∀ h',h'.IsTupleIter iq tu (i+1)->Heap.SameBut iq s.heap h'->Q x { s with heap:=h' }):wpAny (model prog w) A (Builtin.SmallTypes.nextOf (.ref iq)) Q E s:=by
 obtain ⟨oI,eI,cI,dI⟩:=id hI
 obtain ⟨oT,eT,_,nT,dT⟩:=hT
 unfold Builtin.SmallTypes.nextOf
 refine wpAny_bind (wpAny_callSpecial?_slot (name:=Str.ofString "__next__") hI.typeIs F.slot_tuple_iterator_next (wpAny_call_entry F.slot_tuple_iterator_next hI.typeIs F.entry_tuple_iterator_next ?_ (F.args_tuple_iterator_next_1 _)))
 show wpAny _ _ (field (.ref iq) 0 >>= _) _ _ s
 refine wpAny_bind (wpAny_field eI dI (x := .ref tu) rfl ?_)
 show wpAny _ _ (if (Value.ref tu == Value.none)=true then _ else _) _ _ s
 rw [if_neg (show ¬ ((Value.ref tu == Value.none)=true) from zBf)]
 show wpAny _ _ (field (.ref iq) 1 >>= _) _ _ s
 refine wpAny_bind (wpAny_field eI dI (x := .int i 0) rfl ?_)
 show wpAny _ _ (seqItems? (.ref tu) >>= _) _ _ s
 refine wpAny_bind (wpAny_seqItems eT dT ?_)
 simp only [Int.toNat_natCast,hq]
 refine wpAny_bind (wpAny_setField eI dI (by simp) (wpAny_pure ⟨x,rfl,wpAny_pure (kQ _ ?_ (Heap.SameBut.update ..))⟩))
 exact ⟨_,Heap.get?_update_self _ eI (Obj.isFreed_of_fields (Obj.data_mapFields dI _)),(Obj.cls_mapFields ..).trans cI,by rw [Obj.data_mapFields dI]; simp [rawInt]⟩
theorem aBB {iq tu:Addr}{i:Nat}{its}{Q:Value->Shared->Prop} (hh:A.handled=none) (hI:s.heap.IsTupleIter iq tu i) (hT:s.heap.IsTuple tu its) (hq:its[i]?=none)
  (kE:∀ h' e,Heap.ExtBut iq s.heap h'->(∃ o,h'.get? e=some o/\o.cls = .type "StopIteration")->E (.ref e) { s with heap:=h' }):wpAny (model prog w) A (Builtin.SmallTypes.nextOf (.ref iq)) Q E s:=by
 obtain ⟨oI,eI,cI,dI⟩:=id hI
 obtain ⟨oT,eT,_,nT,dT⟩:=hT
 unfold Builtin.SmallTypes.nextOf
 refine wpAny_bind (wpAny_callSpecial?_slot (name:=Str.ofString "__next__") hI.typeIs F.slot_tuple_iterator_next (wpAny_call_entry F.slot_tuple_iterator_next hI.typeIs F.entry_tuple_iterator_next ?_ (F.args_tuple_iterator_next_1 _)))
 show wpAny _ _ (field (.ref iq) 0 >>= _) _ _ s
 refine wpAny_bind (wpAny_field eI dI (x := .ref tu) rfl ?_)
 show wpAny _ _ (if (Value.ref tu == Value.none)=true then _ else _) _ _ s
 rw [if_neg (show ¬ ((Value.ref tu == Value.none)=true) from zBf)]
 show wpAny _ _ (field (.ref iq) 1 >>= _) _ _ s
 refine wpAny_bind (wpAny_field eI dI (x := .int i 0) rfl ?_)
 show wpAny _ _ (seqItems? (.ref tu) >>= _) _ _ s
 refine wpAny_bind (wpAny_seqItems eT dT ?_)
 simp only [Int.toNat_natCast,hq]
 refine wpAny_bind (wpAny_rule (wpAny_bind (wpAny_setField eI dI (by simp) ?_)))
 show wpAny _ _ ((newExc (.type "StopIteration") []) >>= _) _ _ _
 refine wpAny_bind ?_
 simp only [newExc,newTuple]
 refine (wpAny_bind (wpAny_newObj_type ?_ (by size_fits)))
 refine wpAny_bind (m:=firstArgMember _ _) (wpAny_of_eq (a:=Value.none) (by first | rfl | (simp only [firstArgMember]; rfl) | skip) ?_)
 refine (wpAny_newObj_type ?_ (by size_fits))
 simp only [raiseNew]
 refine wpAny_bind (wpAny_handled ?_)
 first | rw [show (A.in1).handled=none from hh] | rw [hh]
 refine (wpAny_bind (wpAny_pure (wpAny_throw ?_)))
 exact kE _ _ (((Heap.SameBut.update ..).extBut.push _).push _) ⟨_,Heap.get?_push_size _ rfl,rfl⟩
end
theorem Draws.tup {prog:Program}{w:World}{A:Around} (hh:A.handled=none) (iq tu:Addr) (hne:tu≠iq) (its:Array Value) :
  Draws prog w A iq [iq,tu] its.size (fun i v=>its[i]?=some v) (fun i h=>h.IsTupleIter iq tu i/\h.IsTuple tu its) where
 live:=fun _ _ q=>let ⟨o,ho,_⟩:=q.1; ⟨o,ho⟩
 frame:=fun _ _ _ q hk=>⟨let ⟨o,ho,r⟩:=q.1; ⟨o,hk iq (by simp) o ho,r⟩,let ⟨o,ho,r⟩:=q.2; ⟨o,hk tu (by simp) o ho,r⟩⟩
 item:=fun i s Q E hi q kQ=>by
  refine aAB q.1 q.2 (x:=its[i]) (by simp [hi]) fun h' hit' hs' => ?_
  exact kQ _ h' s.toks (by simp [hi]) ⟨hit',let ⟨o,ho,r⟩:=q.2; ⟨o,(hs'.2 tu hne).trans ho,r⟩⟩ hs'
 done:=fun s Q E q kE=>aBB hh q.1 q.2 (by simp) kE
theorem aF6 (tu:Addr) (its:Array Value) (n:Nat) (dct:Option Addr) (sl:Array (Option Value)) :
  Meets (Builtin.«enumerate.__new__» ⟨[.type "enumerate", .ref tu],[]⟩) (fun _ R s=>s.heap.get? tu=some { cls := .type "tuple", dict:=dct,data := .seq its n,slots:=sl } /\
   R (.ok (.ret (.ref (s.heap.push { cls := .type "tuple_iterator", data := .fields #[.ref tu, .int 0 0] }).objs.size)))
    { s with heap:=(s.heap.push { cls := .type "tuple_iterator", data := .fields #[.ref tu, .int 0 0] }).push { cls := .type "enumerate", data := .fields #[.none, .bool false, .ref s.heap.objs.size,rawInt 0, .none, .none] } }) :=
 .of_wp fun prog w A R s hR=>by
  obtain ⟨hp,g,d,tk,os⟩:=s; obtain ⟨hl,hR⟩:=hR
  have hsubE:=sub_enumerate
  have hTu:Heap.IsTuple (Shared.heap ⟨hp,g,d,tk,os⟩) tu its:=⟨_,hl,rfl,n,rfl⟩
  wp_walk using wpAny_loadPart' hl
  refine wpAny_stack_any fun st=>wpAny_pure ?_
  split
  ·rename_i c _ _ _ _ _
   cases (c == Value.type "enumerate")
   ·wp_walk using wpAny_loadPart' hl,wpAny_pyIter_tuple hTu
    exact ⟨_,rfl,hR⟩
   ·wp_walk using wpAny_loadPart' hl,wpAny_pyIter_tuple hTu
    exact ⟨_,rfl,hR⟩
  ·wp_walk using wpAny_loadPart' hl,wpAny_pyIter_tuple hTu
   exact ⟨_,rfl,hR⟩
section
variable {prog:Program}{w:World}{A:Around}{E:Value->Shared->Prop}{s:Shared}
theorem aD6 {tu:Addr}{its:Array Value}{Q:Value->Shared->Prop} (hT:s.heap.IsTuple tu its)
  (kQ:∀ h',IsEnum h' (s.heap.objs.size+1) s.heap.objs.size 0 .none->h'.IsTupleIter s.heap.objs.size tu 0->h'.objs.size=s.heap.objs.size+2 ->
   (∀ b o,s.heap.get? b=some o->h'.get? b=some o)->Q (.ref (s.heap.objs.size+1)) { s with heap:=h' }):wpAny (model prog w) A (call (.type "enumerate") [.ref tu]) Q E s:=by
 obtain ⟨⟨c,dct,dt,sl⟩,hl,hc,n,hd⟩:=hT
 have hc':c = .type "tuple" := hc
 have hd':dt = .seq its n:=hd
 subst hc' hd'
 refine callType_new F.called_enumerate (by decide) (F.typeCall_enumerate_1 _) (F.newCall_enumerate_1 _) (fun obj=>F.args_object_init_2 obj _) F.entry_enumerate_new (aF6 tu its n dct sl) ⟨hl,?_⟩
 have hz:(s.heap.push { cls := .type "tuple_iterator", data := .fields #[.ref tu, .int 0 0] }).objs.size=s.heap.objs.size+1:=Heap.size_push ..
 show _/\_
 rw [hz]
 have he:IsEnum ((s.heap.push { cls := .type "tuple_iterator", data := .fields #[.ref tu, .int 0 0] }).push { cls := .type "enumerate", data := .fields #[.none, .bool false, .ref s.heap.objs.size,rawInt 0, .none, .none] }) (s.heap.objs.size+1) s.heap.objs.size 0 .none:=by
  have q:=Heap.get?_push_size (s.heap.push { cls := .type "tuple_iterator", data := .fields #[.ref tu, .int 0 0] }) (o:={ cls := .type "enumerate", data := .fields #[.none, .bool false, .ref s.heap.objs.size,rawInt 0, .none, .none] }) rfl
  rw [hz] at q; exact q
 exact ⟨⟨_,he,rfl⟩,kQ _ he ⟨_,Heap.get?_push_of_some _ (Heap.get?_push_size _ rfl),rfl,rfl⟩ (by rw [Heap.size_push,hz]) fun b o x=>Heap.get?_push_of_some _ (Heap.get?_push_of_some _ x)⟩
end
end PySem
namespace L2
open PySem PySem.Spec PyProof.Rows
section
variable {X:Cx}{pins:List (Addr × Obj)}{σ:St}{H:Hp}{s:Shared}{h':Heap}
theorem Inv.turnedT {t':Nat}{ch:List Addr}{T:Addr}{o:HO} (I:Inv X pins σ H s) (k:∀ b ob,b ∉ ch->s.heap.get? b=some ob->h'.get? b=some ob) (hf:∀ b∈ch,kS X pins H b) (hT:s.heap.objs.size<=T)
  (new:f8 X.prog X.w (upd H T o) h' T o):Inv X pins σ (upd H T o) { s with heap:=h',toks:=t' }:=by
 have hn:H T=none:=I.hok.fresh hT
 have nit:∀ b u,H b=some u->b ∉ ch:=fun b u e z=>by rw [(hf b z).1] at e; cases e
 have ne:∀ b u,s.heap.get? b=some u->b≠T:=fun b u e=>Nat.ne_of_lt (Nat.lt_of_lt_of_le (Heap.lt_size e) hT)
 refine I.step (g':=s.gens) (d':=s.drawn) (ch:=ch) (fun b hb => ?_) (fun b ob _ _ hc e _=>k b ob hc e) (fun b ob _ _ hc e _=>⟨ob.slots,k b ob hc e⟩) (fun b ob _ e n=>by rw [bF (ne b ob e)]; exact n)
  (fun b ob hc e=>⟨ob,k b ob hc e⟩) (fun b xs e=>by rw [bF (bT e hn)]; exact e) (fun b ob u e=>by rw [bF (bT e hn)]; exact e) (fun b ps e=>⟨#[],by rw [bF (bT e hn),e]; simp⟩) (fun m hm => ?_) (fun b u e => ?_) I.bare
 ·obtain ⟨f0,f1,f2,f3,f4,f5⟩:=hf b hb
  exact ⟨f3,f1,f4,f5⟩
 ·obtain ⟨ob,es,ep,ho,r⟩:=hm
  exact ⟨ob,es,ep,k _ ob (fun z=>(hf _ z).2.1 rfl) ho,r⟩
 ·by_cases z:b=T
  ·subst z; rw [bQ] at e; cases e; exact new
  ·rw [bF z] at e
   refine (I.hok b u e).stay (fun c v hc q=>k c v ?_ q) (fun c q=>by rw [bF (bT q hn)]; exact q) fun c xs q=>by rw [bF (bT q hn)]; exact q
   rcases hc with y | y
   ·rw [y]; exact nit b u e
   ·exact nit c _ y
theorem Inv.turnedL {t':Nat}{ch:List Addr} (I:Inv X pins σ H s) (k:∀ b ob,b ∉ ch->s.heap.get? b=some ob->h'.get? b=some ob) (hf:∀ b∈ch,kS X pins H b):Inv X pins σ H { s with heap:=h',toks:=t' }:=by
 have nit:∀ b u,H b=some u->b ∉ ch:=fun b u e z=>by rw [(hf b z).1] at e; cases e
 refine I.step (g':=s.gens) (d':=s.drawn) (ch:=ch) (fun b hb => ?_) (fun b ob _ _ hc e _=>k b ob hc e) (fun b ob _ _ hc e _=>⟨ob.slots,k b ob hc e⟩) (fun _ _ _ _ n=>n)
  (fun b ob hc e=>⟨ob,k b ob hc e⟩) (fun _ _ e=>e) (fun _ _ _ e=>e) (fun b ps e=>⟨#[],by rw [e]; simp⟩) (fun m hm => ?_) (fun b u e => ?_) I.bare
 ·obtain ⟨f0,f1,f2,f3,f4,f5⟩:=hf b hb
  exact ⟨f3,f1,f4,f5⟩
 ·obtain ⟨ob,es,ep,ho,r⟩:=hm
  exact ⟨ob,es,ep,k _ ob (fun z=>(hf _ z).2.1 rfl) ho,r⟩
 ·refine (I.hok b u e).stay (fun c v hc q=>k c v ?_ q) (fun _ q=>q) fun _ _ q=>q
  rcases hc with y | y
  ·rw [y]; exact nit b u e
  ·exact nit c _ y
def Iet (K:PySem.W.Frag) (a:Addr):It:=⟨fun i H=>∃ xs x,SqT K H a xs/\xs[i]?=some x,
 fun i H v H'=>∃ T x,H T=none/\v = .ref T/\H'=upd H T (.tup [.int (i:Int),x])/\∀ xs,SqT K H a xs->xs[i]?=some x,fun i H=>∃ xs,SqT K H a xs/\xs.length=i⟩
theorem aDS {P:Program}{w:World}{K:PySem.W.Frag}{elts:List Expr}{kk:Nat}{tp:Pos} (a e it:Addr) (hei:e≠it) :
  Turn P w K (.Tuple elts kk tp) (Iet K a) [e,it] e (fun i h=>(∃ old,IsEnum h e it (i:Nat) old)/\h.IsTupleIter it a i) where
 mem:=by simp
 obj:=fun i h st b hb=>by
  obtain ⟨⟨old,he⟩,o,ho,hc,hd⟩:=st
  rcases List.mem_cons.mp hb with rfl | hb
  ·exact ⟨_,he,fun v z=>by cases z⟩
  ·rw [List.mem_singleton] at hb
   subst hb
   exact ⟨o,ho,fun v z=>by rw [hd] at z; cases z⟩
 keep:=fun i h h' st k=>by
  obtain ⟨⟨old,he⟩,o,ho,r⟩:=st
  exact ⟨⟨old,k e (by simp) _ he⟩,o,k it (by simp) o ho,r⟩
 item:=by
  intro X hP hw hK hc i pins s σ H E I hf st hg
  subst hP hw hK
  obtain ⟨⟨old,he⟩,hit⟩:=st
  obtain ⟨xs,x,hq,hx⟩:=hg
  obtain ⟨its,rv,pt,hz⟩:=I.tuple hq
  have pt':s.heap.IsTuple a its.toArray:=pt
  have hai:a≠it:=fun z=>by
   obtain ⟨o,e1,c1,_⟩:=pt'
   obtain ⟨o2,e2,c2,_⟩:=hit
   rw [z,e2] at e1; cases e1
   rw [c1] at c2; exact absurd c2 (by simp)
  have hae:e ∉ [it,a]:=fun z=>by
   rcases List.mem_cons.mp z with y | y
   ·exact hei y
   ·rw [List.mem_singleton] at y
    obtain ⟨o,e1,c1,_⟩:=pt'
    have he':=he
    unfold IsEnum at he'
    rw [y,e1] at he'; cases he'
    exact absurd c1 (by simp)
  have Dr:=Draws.tup (prog:=X.prog) (w:=X.w) (A:=X.A.in1) (I.ok.hd hc) it a hai its.toArray
  have hlt:i < its.toArray.size:=by rw [List.size_toArray,<- rv.length]; exact (zGs hx).1
  refine wpAny_pyNext_enum_itemD Dr he ⟨hit,pt'⟩ hlt hei hae fun y h1 tk hy ho hs1 hT hsz hk => ?_
  refine ⟨_,rfl,wpAny_letOwnedTupleGo_enum ho fun h2 he2 hs2 => ?_⟩
  obtain ⟨u,hu,ru⟩:=rv.get hx
  have ey:y=u:=by
   have e3:its[i]?=some y:=by simpa using hy
   rw [hu] at e3; exact (Option.some.inj e3).symm
  subst ey
  have hTe:s.heap.objs.size≠e:=Nat.ne_of_gt (Heap.lt_size he)
  have tup2:h2.get? s.heap.objs.size=some { cls := .type "tuple", data := .seq #[.int (i:Int) tk,y] }:=(hs2.2 _ hTe).trans hT
  have k2:∀ b ob,b ∉ [e,it]->s.heap.get? b=some ob->h2.get? b=some ob:=fun b ob hb q=>by
   have b1:b≠e:=fun z=>hb (by simp [z])
   have b2:b≠it:=fun z=>hb (by simp [z])
   exact (hs2.2 b b1).trans (hk b ob b1 b2 q)
  have I2:Inv X pins σ (upd H s.heap.objs.size (.tup [.int (i:Int),x])) { s with heap:=h2,toks:=tk+1 }:=I.turnedT k2 hf (Nat.le_refl _) ⟨(show 2<=sizeLine by decide),[.int (i:Int) tk,y], .cons ⟨tk,rfl⟩ (.cons ru .nil),_,tup2,rfl,_,rfl⟩
  have hn:H s.heap.objs.size=none:=I.hok.fresh (Nat.le_refl _)
  refine ⟨.ref s.heap.objs.size,_,I2,rfl,⟨s.heap.objs.size,x,hn,rfl,rfl,fun xs' q' => ?_⟩,⟨⟨_,by simpa using he2⟩,?_⟩,fun b hb => ?_⟩
  ·rw [<- I.tuple_inj hq q']; exact hx
  ·obtain ⟨⟨o,ho3,r3⟩,_⟩:=hs1
   exact ⟨o,(hs2.2 it (Ne.symm hei)).trans ho3,r3⟩
  ·rw [bF (fun z => ?_)]
   ·exact (hf b hb).1
   ·rcases List.mem_cons.mp hb with y | y
    ·exact hTe (by rw [<- z,y])
    ·rw [List.mem_singleton] at y
     obtain ⟨o,ho3,_⟩:=hit
     exact absurd (Heap.lt_size ho3) (by rw [<- y,z]; exact Nat.lt_irrefl _)
 done:=by
  intro X hP hw hK hc i pins s σ H E I hf st hg
  subst hP hw hK
  obtain ⟨⟨old,he⟩,hit⟩:=st
  obtain ⟨xs,hq,hl⟩:=hg
  obtain ⟨its,rv,pt,hz⟩:=I.tuple hq
  have pt':s.heap.IsTuple a its.toArray:=pt
  have hai:a≠it:=fun z=>by
   obtain ⟨o,e1,c1,_⟩:=pt'
   obtain ⟨o2,e2,c2,_⟩:=hit
   rw [z,e2] at e1; cases e1
   rw [c1] at c2; exact absurd c2 (by simp)
  have Dr:=Draws.tup (prog:=X.prog) (w:=X.w) (A:=X.A.in1) (I.ok.hd hc) it a hai its.toArray
  have hn:its.toArray.size=i:=by rw [List.size_toArray,<- rv.length]; exact hl
  subst hn
  refine wpAny_pyNext_enum_endD Dr he ⟨hit,pt'⟩ fun h2 hx=>⟨rfl,I.turnedL (t':=s.toks) (ch:=[it]) (fun b ob hb q=>hx b ob (fun z=>hb (by simp [z])) q) fun b hb=>hf b ?_⟩
  rw [List.mem_singleton] at hb
  rw [hb]; simp
 self:=fun A i s Q E st h=>by
  obtain ⟨⟨old,he⟩,_⟩:=st
  exact wpAny_pyIter_enum he h
def aOP (K:PySem.W.Frag) (ta:TA):TI:=fun σ H R=>ta σ H fun vs H1=>∃ a,vs=[.ref a]/\(∃ xs,SqT K H1 a xs)/\R (Iet K a) H1
theorem aIR {elts:List Expr}{kk:Nat}{tp:Pos}{a:Expr}{ta:TA}{p pos:Pos} (hg:Gl X "enumerate") (hm:X.mg "enumerate" = none) (hv:bootBuiltins "enumerate" = some (.type "enumerate")) (ha:PA X [a] ta) (hs:starEach [a] X.env=[(false,eval a X.env)]:=by rfl) :
  PI X (.Tuple elts kk tp) (.Call (.Name "enumerate" p) [a] [] pos) (aOP X.K ta):=by
 intro pins s σ H R I h
 refine Call_ (kP I hg hm hv (PyProof.Rows.callWith_type1 (thn (ha pos pins s σ H _ I h) fun us s1 ⟨vs,H1,I1,r1,q1⟩ => ?_) hs rfl))
 obtain ⟨b,e,⟨xs,hq⟩,q⟩:=q1
 subst e
 obtain ⟨u,rfl,ru⟩:=vals1 r1
 cases ru
 obtain ⟨its,rv,pt,hz⟩:=I1.tuple hq
 refine aD6 (show s1.heap.IsTuple b its.toArray from pt) fun h' he hi hsz hk => ?_
 have I2:Inv X pins σ H1 { s1 with heap:=h' }:=I1.kept (t':=s1.toks) hk
 refine wpAny_pyIter_enum he ?_
 refine ⟨_,[s1.heap.objs.size+1,s1.heap.objs.size],_,Iet X.K b,H1,rfl,I2,aDS b _ _ (Nat.succ_ne_self _),⟨⟨_,he⟩,hi⟩,fun c hc => ?_,q⟩
 rcases List.mem_cons.mp hc with rfl | hc
 ·exact I1.fpOk (Nat.le_succ _) (I1.hok.fresh (Nat.le_succ _))
 ·rw [List.mem_singleton] at hc
  subst hc
  exact I1.fpOk (Nat.le_refl _) (I1.hok.fresh (Nat.le_refl _))
end
end L2
namespace Z
open PySem L2
section
variable {X:Cx}{Γ:Gm}{M:Mem}{k:D->Mem->Prop}{pos:Pos}{a b:Expr}{rest:List Expr}
def gS (ds:List D):List D:=ds.mapIdx fun i d => .tup [.int (i:Int),d]
theorem aIA {K:Fg}{a:Addr}{vs:List V}{ds:List D}{G0:Hp} (s:SqT K G0 a vs) (dn:Dens K G0 ds vs):YD K (Iet K a) (gS ds) G0 where
 go:=fun i G H M sg rl h=>by
  have hi:i < vs.length:=by rw [<- dn.len]; simpa [gS] using h
  exact ⟨vs,vs[i],R.eG rl.same (R.eG sg s),by simp [hi]⟩
 yld:=fun i G H M x H' sg rl h y=>by
  obtain ⟨T,v,hT,rfl,rfl,hx⟩:=y
  have hx':=hx vs (R.eG rl.same (R.eG sg s))
  obtain ⟨d,hd,e⟩:=dn.get' hx'
  have st:=rl.new (o := .tup [.int (i:Int),v]) hT
  exact ⟨_, .tup [.int (i:Int),d],st,by simp [gS,hd],iH (SqT.of bQ) (cB dJ (cB ((e.up sg).up st.gg) dB))⟩
 stop:=fun i G H M sg rl h=>⟨vs,R.eG rl.same (R.eG sg s),by rw [<- dn.len]; simpa [gS] using h.symm⟩
theorem aL0 {elts:List Expr}{kk:Nat}{tp p:Pos}{ki:List D->Mem->Prop} (hm:X.mg "enumerate" = none) (hv:bootBuiltins "enumerate" = some (.type "enumerate")) (h:GA X [a] Γ M fun ds M1=>∃ es,ds=[.tup es]/\ki (gS es) M1) (hg:Gl X "enumerate" := by rfl) (hs:starEach [a] X.env=[(false,eval a X.env)]:=by rfl) :
  GI X (.Tuple elts kk tp) (.Call (.Name "enumerate" p) [a] [] pos) Γ M ki:=fun σ G H Rr en rl q=>by
 refine kM (aIR hg hm hv pUA hs) ?_
 refine h σ G H _ en rl fun vs G1 H1 ds M1 s1 e1 ⟨es,ed,h1⟩ => ?_
 subst ed
 obtain ⟨v,rfl,dv⟩:=dens1 e1
 obtain ⟨b,ws,rfl,sq,dn⟩:=dv.tup_
 exact ⟨b,rfl,⟨ws,R.eG s1.rel.same sq⟩,q _ _ _ _ _ s1 (aIA sq dn) h1⟩
end
end Z
namespace Z
open PySem L2
def Fo (P:Program) (w:World) (K:PySem.W.Frag) (mg:Str->Option Value) (base:Heap) (x:Str) (st:Stmt) (ps:List Str) (n:Nat) (c:Ct):Prop:=∃ f fd,R.Df K mg x st ps f fd/\FnOk P w K mg base CX0 n f fd ps (spZ K c)
theorem aJ {X:Cx}{Γ:Gm}{M:Mem}{k:D->Mem->Prop}{pos p:Pos}{e:Expr}{es:List Expr}{x:Str}{st:Stmt}{ps:List Str}{n j:Nat}{c:Ct} (g:Fo X.prog X.w X.K X.mg X.base x st ps n c) (hr:Room j X.A)
  (h:GA X (e::es) Γ M fun ds M1=>c ds M1 k) (hn:n<=j:=by decide) (hg:Gl X x:=by rfl) (hdb:(x == ("__debug__" : Str))=false:=by decide) (he:starEach (e::es) X.env=(false,eval e X.env)::starEach es X.env:=by rfl) (hpl:(backTo pos (starEach es X.env)).any (·.1)=false:=by rfl) :
  GE X (.Call (.Name x p) (e::es) [] pos) Γ M k:=by
 obtain ⟨f,fd,D,G⟩:=g
 exact aL8 G (hr.mono hn) D.m D.F.kp D.b h hg hdb he hpl
end Z
namespace R
open PySem L2
theorem tS {α:Type} (f:Nat->α):∀ p,f p≠f 0->∃ k,k < p/\f k≠f (k+1)/\f (k+1)=f p
 | 0,h=>absurd rfl h
 | p+1,h=>by
  by_cases e:f p=f (p+1)
  ·obtain ⟨k,h1,h2,h3⟩:=tS f p (by rw [e]; exact h)
   exact ⟨k,by omega,h2,h3.trans e⟩
  ·exact ⟨p,by omega,e,rfl⟩
theorem aAN {l:List Nat} (s:l.Pairwise (· < ·)) {a b:Nat} (ha:a∈l) (hb:b∈l) (h:a < b):a∈l.dropLast:=by
 have hne:l≠[]:=fun e=>by rw [e] at ha; cases ha
 have e:=List.dropLast_concat_getLast hne
 rw [<- e] at ha hb s
 rw [List.pairwise_append] at s
 rcases List.mem_append.mp ha with ha | ha
 ·exact ha
 ·rw [List.mem_singleton] at ha
  rcases List.mem_append.mp hb with hb | hb
  ·have:=s.2.2 b hb _ (List.mem_singleton_self _)
   omega
  ·rw [List.mem_singleton] at hb
   omega
theorem row_kept {n:Nat}{zs:List Str} (h:∀ z∈zs,z.length=n) {z:Str} (hz:z∈zs):z=dots n\/z∈aV zs:=by
 by_cases hd:z=dots n
 ·exact .inl hd
 refine .inr ?_
 obtain ⟨p,hp,ez⟩:=List.getElem_of_mem hz
 have hne:zs≠[]:=fun e=>by rw [e] at hz; cases hz
 have hw:=cW h hne
 have f0:(framed zs)[0]?=some (dots n):=by rw [f6,hw]
 have fl:(framed zs)[zs.length+1]?=some (dots n):=by rw [d9,hw]
 have fp:(framed zs)[p+1]?=some z:=by rw [cV hp,zGe hp,ez]
 have ne:∀ {o:Option Str},o=some (dots n)->(framed zs)[p+1]?≠o:=fun e q=>hd (by rw [fp,e] at q; injection q)
 obtain ⟨k,k1,k2,k3⟩:=tS (fun i=>(framed zs)[i]?) (p+1) (ne f0)
 obtain ⟨j,j1,j2,j3⟩:=jG (fun i=>(framed zs)[i]?) (zs.length - p) (p+1) (by
  show (framed zs)[p+1]?≠(framed zs)[p+1+(zs.length - p)]?
  rw [show p+1+(zs.length - p)=zs.length+1 by omega]; exact ne fl)
 have mk:k∈chg zs:=(fU hne).mpr ⟨by omega,k2⟩
 have mj:j∈chg zs:=(fU hne).mpr ⟨by omega,j3⟩
 have:=aAN (cG zs) mk mj (by omega)
 refine List.mem_map.mpr ⟨k,this,?_⟩
 have e:(framed zs)[k+1]?=some z:=k3.trans fp
 rw [cV (by omega)] at e
 rw [zGd,e]; rfl
theorem yL {n:Nat}{zs:List Str} (h:∀ z∈zs,z=dots n):chg zs=[]:=by
 by_cases hne:zs=[]
 ·rw [hne]; simp [chg]
 have hl:∀ z∈zs,z.length=n:=fun z hz=>by rw [h z hz,uE]
 have hw:=cW hl hne
 have all:∀ i,i<=zs.length+1->(framed zs)[i]?=some (dots n):=fun i hi=>by
  rcases Nat.eq_zero_or_pos i with rfl | hp
  ·rw [f6,hw]
  ·obtain ⟨j,rfl⟩:∃ j,i=j+1:=⟨i - 1,by omega⟩
   by_cases hj:j < zs.length
   ·rw [cV hj,zGe hj,h _ (List.getElem_mem hj)]
   ·rw [show j=zs.length by omega,d9,hw]
 refine List.eq_nil_iff_forall_not_mem.mpr fun i hi => ?_
 obtain ⟨a,b⟩:=(fU hne).mp hi
 exact b (by rw [all i (by omega),all (i+1) (by omega)])
theorem xU {n:Nat}{zs:List Str} (h:∀ z∈zs,z.length=n) (hr:aV zs=[]):chg zs=[]/\chg (aO zs)=[]:=by
 have hd:∀ z∈zs,z=dots n:=fun z hz=>(row_kept h hz).elim id fun q=>by rw [hr] at q; cases q
 refine ⟨yL hd,yL (n:=zs.length) fun c hc => ?_⟩
 obtain ⟨j,hj,rfl⟩:=List.mem_map.mp hc
 rw [List.mem_range] at hj
 by_cases hne:zs=[]
 ·rw [hne] at hj; simp at hj
 rw [cW h hne] at hj
 unfold dots ofL
 congr 2
 refine List.eq_replicate_iff.mpr ⟨by simp,fun b hb => ?_⟩
 obtain ⟨z,hz,rfl⟩:=List.mem_map.mp hb
 rw [hd z hz,lU,if_pos hj]
def uZ (n i:Nat) (z:Str):Nat:=if i=0\/i=n+1 then 46 else atS z (i - 1)
theorem c7 {n:Nat}{zs:List Str} (h:∀ z∈zs,z.length=n) (hz:zs≠[]):(aO zs).length=n:=by
 unfold aO; rw [cW h hz]; simp
theorem iW {n i:Nat}{zs:List Str} (h:∀ z∈zs,z.length=n) (hz:zs≠[]) (hn:0 < n) (hi:i<=n+1):(framed (aO zs))[i]?=some (ofL (zs.map (uZ n i))):=by
 have hc:=c7 h hz
 have hne:aO zs≠[]:=fun e=>by rw [e] at hc; simp at hc; omega
 have hw:((aO zs).head?.map (·.length)).getD 0=zs.length:=cW (fun c hc=>iA c hc) hne
 have hd:dots zs.length=ofL (zs.map fun _=>46):=by
  unfold dots; rw [List.map_const']
 rcases Nat.eq_zero_or_pos i with rfl | hp
 ·rw [f6,hw,hd]; rfl
 ·obtain ⟨j,rfl⟩:∃ j,i=j+1:=⟨i - 1,by omega⟩
  by_cases hj:j < n
  ·rw [cV (by omega),jA h hz hj]
   congr 2
   apply List.map_congr_left
   intro z _
   unfold uZ
   rw [if_neg (by omega)]; rfl
  ·have e:j=(aO zs).length:=by omega
   rw [e,d9,hw,hd]
   congr 2
   apply List.map_congr_left
   intro z _
   unfold uZ
   rw [if_pos (by omega)]
theorem xB {zs:List Str}{f g:Str->Nat}:(some (ofL (zs.map f))=some (ofL (zs.map g)))↔∀ z∈zs,f z=g z:=by
 constructor
 ·intro e
  injection e with e
  unfold ofL at e
  injection e with e
  have e:zs.map f=zs.map g:=by injection e
  exact fun z hz=>(List.map_inj_left.mp e) z hz
 ·intro e
  rw [List.map_congr_left e]
theorem rA {n:Nat}{zs:List Str} (h:∀ z∈zs,z.length=n) (hr:aV zs≠[]):chg (aO (aV zs))=chg (aO zs):=by
 have hz:zs≠[]:=fun e=>by subst e; exact hr (by simp [aV,chg])
 have hk:∀ z∈aV zs,z.length=n:=fun z q=>h z (kK z q)
 rcases Nat.eq_zero_or_pos n with rfl | hn
 ·have e1:aO zs=[]:=List.length_eq_zero_iff.mp (c7 h hz)
  have e2:aO (aV zs)=[]:=List.length_eq_zero_iff.mp (c7 hk hr)
  rw [e1,e2]
 ·have l1:=c7 h hz
  have l2:=c7 hk hr
  have n1:(aO zs).isEmpty=false:=by cases hc:aO zs with
   | nil=>rw [hc] at l1; simp at l1; omega
   | cons _ _=>rfl
  have n2:(aO (aV zs)).isEmpty=false:=by cases hc:aO (aV zs) with
   | nil=>rw [hc] at l2; simp at l2; omega
   | cons _ _=>rfl
  unfold chg
  rw [n1,n2,l1,l2,if_neg zBf,if_neg zBf]
  apply List.filter_congr
  intro i hi
  rw [List.mem_range] at hi
  rw [iW h hz hn (by omega),iW h hz hn (by omega),iW hk hr hn (by omega),iW hk hr hn (by omega)]
  congr 1
  apply decide_eq_decide.mpr
  rw [xB,xB]
  constructor
  ·intro q z hz
   rcases row_kept h hz with rfl | hz
   ·unfold uZ
    rw [lU,lU]
    split <;> split <;> (try split) <;> (try split) <;> first | rfl | omega
   ·exact q z hz
  ·exact fun q z hz=>q z (kK z hz)
theorem rB {n:Nat}{zs:List Str} (h:Good n zs) (hr:aV zs≠[]):aO (aV (aO (aV zs)))=cJ zs:=by
 have g1:=jN h
 have hl:∀ z∈aV zs,z.length=n:=fun z hz=>(g1 z hz).1
 obtain ⟨c2,wf,le⟩:=aLJ h hr
 have hJ:=rA (fun z hz=>(h z hz).1) hr
 have lt:∀ j∈(chg (aO (aV zs))).dropLast,j < n:=fun j hj=>by
  have:=jU (cG _) (fG _) j hj
  rw [c7 hl hr] at this
  exact this
 have e1:aV (aO (aV zs))=(chg (aO (aV zs))).dropLast.map fun j=>ofL ((aV zs).map (atS · j)):=by
  show List.map _ _=_
  apply List.map_congr_left
  intro j hj
  rw [zGd,jA hl hr (lt j hj)]; rfl
 have hk:aV (aO (aV zs))≠[]:=fun q=>by
  have:=fF (aO (aV zs))
  rw [q] at this
  simp at this
  omega
 have hw:((aV (aO (aV zs))).head?.map (·.length)).getD 0=(aV zs).length:=cW (fun z hz=>iA z (kK z hz)) hk
 have ek:cJ zs=(aV zs).map fun z=>ofL ((chg (aO (aV zs))).dropLast.map (atS z)):=by
  rw [hJ]; unfold aV cJ; rw [List.map_map]; rfl
 rw [ek]
 show (List.range (((aV (aO (aV zs))).head?.map (·.length)).getD 0)).map (fun j=>ofL ((aV (aO (aV zs))).map (atS · j)))=_
 rw [hw,e1]
 apply List.ext_getElem
 ·simp
 ·intro r hr1 hr2
  rw [zLm,List.length_range] at hr1
  rw [List.getElem_map,List.getElem_map,List.getElem_range,List.map_map]
  congr 1
  apply List.map_congr_left
  intro j _
  show atS (ofL ((aV zs).map (atS · j))) r=_
  rw [lT,zGd,List.getElem?_map,zGe hr1]; rfl
abbrev Cell:=List Int
def oO (zs:List Str) (inside:Bool) (nx ny:Nat):List Cell:=(List.range (ny+1)).flatMap fun (u:Nat)=>(List.range (nx+1)).filterMap fun (a:Nat)=>if aT zs ((a:Int) - 1) ((u:Int) - 1)=inside then some [(a:Int) - 1,(u:Int) - 1] else none
def bN (zs:List Str) (w:Nat):List Cell:=(List.range zs.length).flatMap fun (u:Nat)=>(List.range w).filterMap fun (a:Nat)=>if aT zs (a:Int) (u:Int)=true then some [(a:Int),(u:Int)] else none
inductive Rch (cells:List Cell) (st:List (Int × Int)) (s:Cell):Cell->Prop
 | refl:Rch cells st s s
 | step {x y:Int}{d:Int × Int}:Rch cells st s [x,y]->d∈st->[x+d.1,y+d.2]∈cells->Rch cells st s [x+d.1,y+d.2]
open Classical in
noncomputable def starts (cells:List Cell) (st:List (Int × Int)):Nat->List Cell
 | 0=>[]
 | i+1=>match cells[i]? with
  | some c=>if ∃ s∈starts cells st i,Rch cells st s c then starts cells st i else starts cells st i++[c]
  | none=>starts cells st i
def rowsOf (f:Int->Int->Bool) (w h:Nat):List Str:=(List.range h).map fun (u:Nat)=>ofL ((List.range w).map fun (a:Nat)=>sg (f (a:Int) (u:Int)))
theorem still {zs:List Str} (hz:zs≠[]) {a b:Nat} (hab:a<=b) (hb:b<=zs.length+1) (hn:∀ c∈chg zs,¬ (a<=c/\c < b)):(framed zs)[a]?=(framed zs)[b]?:=by
 refine Classical.byContradiction fun q => ?_
 obtain ⟨k,h1,h2,h3⟩:=jG (fun i=>(framed zs)[i]?) (b - a) a (by rw [show a+(b - a)=b by omega]; exact q)
 exact hn k ((fU hz).mpr ⟨by omega,h3⟩) ⟨h1,by omega⟩
theorem q8 {zs:List Str}{i j:Nat}{c d:Nat} (hi:(chg zs)[i]?=some c) (hj:(chg zs)[j]?=some d) (h:i < j):c < d:=by
 obtain ⟨h1,e1⟩:=zGs hi
 obtain ⟨h2,e2⟩:=zGs hj
 have:=List.pairwise_iff_getElem.mp (cG zs) i j h1 h2 h
 rw [e1,e2] at this; exact this
theorem zA {zs:List Str}{i:Nat}{c d e:Nat} (hi:(chg zs)[i]?=some c) (hj:(chg zs)[i+1]?=some d) (he:e∈chg zs) (h:c < e):d<=e:=by
 obtain ⟨k,hk,ek⟩:=List.getElem_of_mem he
 have ek':(chg zs)[k]?=some e:=by rw [zGe hk,ek]
 by_cases h1:k<=i
 ·by_cases h2:k=i
  ·subst h2; rw [hi] at ek'; cases ek'; omega
  ·have:=q8 ek' hi (by omega); omega
 ·by_cases h2:k=i+1
  ·subst h2; rw [hj] at ek'; cases ek'; omega
  ·have:=q8 hj ek' (by omega); omega
theorem xW {zs:List Str}{c e:Nat} (hi:(chg zs)[0]?=some c) (he:e∈chg zs):c<=e:=by
 obtain ⟨k,hk,ek⟩:=List.getElem_of_mem he
 have ek':(chg zs)[k]?=some e:=by rw [zGe hk,ek]
 by_cases h:k=0
 ·subst h; rw [hi] at ek'; cases ek'; omega
 ·have:=q8 hi ek' (by omega); omega
theorem aEY {zs:List Str}{c e:Nat} (hi:(chg zs)[(chg zs).length - 1]?=some c) (he:e∈chg zs):e<=c:=by
 obtain ⟨k,hk,ek⟩:=List.getElem_of_mem he
 have ek':(chg zs)[k]?=some e:=by rw [zGe hk,ek]
 by_cases h:k=(chg zs).length - 1
 ·subst h; rw [hi] at ek'; cases ek'; omega
 ·have:=q8 ek' hi (by omega); omega
theorem aAX {zs:List Str}{i c:Nat} (hi:(chg zs)[i]?=some c) (h:i+1 < (chg zs).length):(aV zs)[i]?=zs[c]?/\c < zs.length:=by
 have hd:(chg zs).dropLast[i]?=some c:=by rw [List.getElem?_dropLast,if_pos (by omega)]; exact hi
 have hl:=jU (cG zs) (fG zs) c (zMo hd)
 unfold aV
 rw [List.getElem?_map,hd,Option.map_some,zGd,zGe hl]
 exact ⟨rfl,hl⟩
theorem yV {n:Nat}{zs:List Str} (h:∀ z∈zs,z.length=n) (hr:aV zs≠[]):chg (aV zs)=List.range (chg zs).length:=by
 have hc:chg zs≠[]:=fun e=>hr (by unfold aV; rw [e]; rfl)
 have hz:zs≠[]:=sM zs hc
 have hkl:=fF zs
 have hk1:1<=(aV zs).length:=List.length_pos_iff.mpr hr
 have hK:∀ z∈aV zs,z.length=n:=fun z hz=>h z (kK z hz)
 have w1:=cW h hz
 have w2:=cW hK hr
 have f0:=f6 zs
 have fl:=d9 zs
 have g0:=f6 (aV zs)
 have gl:=d9 (aV zs)
 rw [w1] at f0 fl
 rw [w2] at g0 gl
 have A:∀ i c,(chg zs)[i]?=some c->(framed (aV zs))[i]?=(framed zs)[c]?:=fun i c hi=>by
  have hil:=(zGs hi).1
  have hcl:=fG zs c (zMo hi)
  cases i with
  | zero =>
   rw [g0,<- f0]
   exact still hz (Nat.zero_le _) (by omega) fun e he z=>by have:=xW hi he; omega
  | succ i =>
   obtain ⟨b,hb⟩:∃ b,(chg zs)[i]?=some b:=⟨(chg zs)[i],zGe (by omega)⟩
   obtain ⟨k1,k2⟩:=aAX hb (by omega)
   have lt:=q8 hb hi (Nat.lt_succ_self i)
   rw [cV (by omega),k1,<- cV k2]
   exact still hz (by omega) (by omega) fun e he z=>by have:=zA hb hi he (by omega); omega
 have B:∀ i c,(chg zs)[i]?=some c->(framed (aV zs))[i+1]?=(framed zs)[c+1]?:=fun i c hi=>by
  have hil:=(zGs hi).1
  have hcl:=fG zs c (zMo hi)
  by_cases hlast:i+1 < (chg zs).length
  ·obtain ⟨k1,k2⟩:=aAX hi hlast
   rw [cV (by omega),k1,<- cV k2]
  ·have ei:i=(chg zs).length - 1:=by omega
   rw [show i+1=(aV zs).length+1 by omega,gl,<- fl]
   exact (still hz (by omega) (Nat.le_refl _) fun e he z=>by have:=aEY (ei ▸ hi) he; omega).symm
 have:chg (aV zs)=(List.range ((aV zs).length+1)).filter fun i => !decide ((framed (aV zs))[i]?=(framed (aV zs))[i+1]?):=by
  unfold chg
  rw [if_neg (by rw [List.isEmpty_iff]; exact hr)]
 rw [this,show (aV zs).length+1=(chg zs).length by omega]
 refine List.filter_eq_self.mpr fun i hi => ?_
 have hil:=List.mem_range.mp hi
 have hi':(chg zs)[i]?=some (chg zs)[i]:=zGe hil
 have hne:=((fU hz).mp (zMo hi')).2
 rw [<- A i _ hi',<- B i _ hi'] at hne
 rw [decide_eq_false hne]; rfl
theorem q5 {n:Nat}{zs:List Str} (h:∀ z∈zs,z.length=n) (hz:zs≠[]) (hn:0 < n):aO (aO zs)=zs:=by
 have hc:(aO zs).length=n:=c7 h hz
 have hcn:aO zs≠[]:=fun e=>by rw [e] at hc; simp at hc; omega
 have hce:∀ z∈aO zs,z.length=zs.length:=fun z hz=>iA z hz
 have hzl:0 < zs.length:=List.length_pos_iff.mpr hz
 have hcc:=c7 hce hcn
 apply List.ext_getElem?
 intro i
 by_cases hi:i < zs.length
 ·rw [jA hce hcn hi,zGe hi]
  congr 1
  apply lV
  show (aO zs).map (atS · i)=zs[i].cps.toList
  apply List.ext_getElem?
  intro j
  have hl:=h zs[i] (List.getElem_mem hi)
  by_cases hj:j < n
  ·rw [List.getElem?_map,jA h hz hj,Option.map_some,fW (by omega),lT,zGd,List.getElem?_map,zGe hi]
   rfl
  ·rw [List.getElem?_eq_none (by rw [zLm]; omega),List.getElem?_eq_none (by rw [Array.length_toList]; have:zs[i].cps.size=zs[i].length:=rfl; omega)]
 ·rw [List.getElem?_eq_none (by omega),List.getElem?_eq_none (by omega)]
theorem aEA {n:Nat}{zs:List Str} (h:Good n zs) (hr:aV zs≠[]) :
  chg (cJ zs)=List.range (chg zs).length/\chg (aO (cJ zs))=List.range (chg (aO zs)).length/\cJ zs≠[]/\Good ((chg (aO zs)).length - 1) (cJ zs)/\2<=(chg (aO zs)).length/\2<=(chg zs).length:=by
 have hl:∀ z∈zs,z.length=n:=fun z hz=>(h z hz).1
 have gR:=jN h
 have hR:∀ z∈aV zs,z.length=n:=fun z hz=>(gR z hz).1
 obtain ⟨z0,hz0,hd0⟩:=tW hl hr
 obtain ⟨j0,hj0,_⟩:=aAM gR hz0 hd0
 have hn:0 < n:=by omega
 have eR:=yV hl hr
 have eC:=rA hl hr
 have gC:=nI gR
 have hC:∀ z∈aO (aV zs),z.length=(aV zs).length:=fun z hz=>(gC z hz).1
 have cne:aO (aV zs)≠[]:=fun e=>by have:=c7 hR hr; rw [e] at this; simp at this; omega
 have kne:aV (aO (aV zs))≠[]:=fun e=>by
  have h1:=(xU hC e).2
  rw [q5 hR hr hn,eR] at h1
  have h2:(chg zs).length=0:=by simpa using congrArg List.length h1
  have:=fF zs
  exact hr (List.length_eq_zero_iff.mp (by omega))
 have eK:=yV hC kne
 have gK:=jN gC
 have hK:∀ z∈aV (aO (aV zs)),z.length=(aV zs).length:=fun z hz=>(gK z hz).1
 have rl:0 < (aV zs).length:=List.length_pos_iff.mpr hr
 have e1:=rA hC kne
 rw [q5 hR hr hn,eR,rB h hr] at e1
 have e2:aO (cJ zs)=aV (aO (aV zs)):=by rw [<- rB h hr]; exact q5 hK kne rl
 have kl:=fF (aO (aV zs))
 have kp:0 < (aV (aO (aV zs))).length:=List.length_pos_iff.mpr kne
 have kz:=fF zs
 rw [eC] at kl
 refine ⟨e1,by rw [e2,eK,eC],fun e => ?_,?_,by omega,by omega⟩
 ·rw [e] at e1
  have h2:=congrArg List.length e1
  rw [List.length_range,show (chg ([]:List Str)).length=0 from rfl] at h2
  omega
 ·rw [<- rB h hr]
  have:=nI gK
  rw [kl] at this
  exact this
theorem aBT {zs:List Str}{r j c d:Nat} (hj:j < zs.length) (h1:(chg zs)[r]?=some c) (h2:(chg zs)[r+1]?=some d) (hc:c<=j) (hd:j < d):zs[j]?=zs[c]?:=by
 have hz:zs≠[]:=fun e=>by rw [e] at hj; simp at hj
 rw [<- cV hj,<- cV (show c < zs.length by omega)]
 exact (still hz (by omega) (by omega) fun e he z=>by have:=zA h1 h2 he (by omega); omega).symm
theorem zM {n:Nat}{zs:List Str} (h:∀ z∈zs,z.length=n) {j:Nat} (hj:j < zs.length) (hn:∀ r c d,(chg zs)[r]?=some c->(chg zs)[r+1]?=some d->¬ (c<=j/\j < d)):zs[j]?=some (dots n):=by
 have hz:zs≠[]:=fun e=>by rw [e] at hj; simp at hj
 have w:=cW h hz
 have f0:=f6 zs
 have fl:=d9 zs
 rw [w] at f0 fl
 rw [<- cV hj]
 by_cases hall:∀ e∈chg zs,j < e
 ·rw [<- f0]
  exact (still hz (Nat.zero_le _) (by omega) fun e he z=>by have:=hall e he; omega).symm
 ·have h0:∀ (r c:Nat),(chg zs)[r]?=some c->c<=j:=fun r=>by
   induction r with
   | zero =>
    intro c hc
    refine Classical.byContradiction fun q=>hall fun e he => ?_
    have:=xW hc he; omega
   | succ r ih =>
    intro d hd
    have hr:=(zGs hd).1
    have hc:(chg zs)[r]?=some (chg zs)[r]:=zGe (by omega)
    have:=hn r _ d hc hd
    have:=ih _ hc
    omega
  rw [<- fl]
  refine still hz (by omega) (Nat.le_refl _) fun e he z => ?_
  obtain ⟨k,hk,ek⟩:=List.getElem_of_mem he
  have:=h0 k e (by rw [zGe hk,ek])
  omega
theorem aLK {zs:List Str}{r c i j:Nat} (hr:(chg zs)[r]?=some i) (hr1:r+1 < (chg zs).length) (hc:(chg (aO zs))[c]?=some j) (hc1:c+1 < (chg (aO zs)).length) {z:Str} (hz:zs[i]?=some z):∃ y,(cJ zs)[r]?=some y/\atS y c=atS z j:=by
 have d1:(chg zs).dropLast[r]?=some i:=by rw [List.getElem?_dropLast,if_pos (by omega)]; exact hr
 have d2:(chg (aO zs)).dropLast[c]?=some j:=by rw [List.getElem?_dropLast,if_pos (by omega)]; exact hc
 unfold cJ
 rw [List.getElem?_map,d1]
 refine ⟨_,rfl,?_⟩
 rw [lT,zGd,List.getElem?_map,d2,zGd,hz]
 rfl
theorem aNM {n:Nat}{zs:List Str} (h:∀ z∈zs,z.length=n) {c k i d:Nat} (hk:k < n) (h1:(chg (aO zs))[c]?=some i) (h2:(chg (aO zs))[c+1]?=some d) (hc:i<=k) (hd:k < d):∀ z∈zs,atS z k=atS z i:=fun z hz=>by
 have hne:zs≠[]:=fun e=>by rw [e] at hz; cases hz
 have hl:=c7 h hne
 have:=aBT (zs:=aO zs) (by omega) h1 h2 hc hd
 rw [jA h hne hk,jA h hne (by omega)] at this
 exact xB.mp this z hz
theorem aMP {n:Nat}{zs:List Str} (h:∀ z∈zs,z.length=n) {k:Nat} (hk:k < n) (hn:∀ r c d,(chg (aO zs))[r]?=some c->(chg (aO zs))[r+1]?=some d->¬ (c<=k/\k < d)):∀ z∈zs,atS z k=46:=fun z hz=>by
 have hne:zs≠[]:=fun e=>by rw [e] at hz; cases hz
 have hl:=c7 h hne
 have:=zM (zs:=aO zs) (fun z hz=>iA z hz) (j:=k) (by omega) hn
 rw [jA h hne hk] at this
 have e:ofL (zs.map (atS · k))=dots zs.length:=by injection this
 obtain ⟨i,hi,rfl⟩:=List.getElem_of_mem hz
 have e2:=congrArg (fun s=>atS s i) e
 simp only [lT,lU,if_pos hi] at e2
 rw [zGd,List.getElem?_map,zGe hi] at e2
 exact e2
def dL (C:List Nat) (k:Int):Nat:=(C.filter fun (i:Nat)=>decide ((i:Int)<=k)).length
def bd (C:List Nat) (k:Int):Int:=(dL C k:Int) - 1
theorem wP {k:Int}:∀ {C:List Nat},C.Pairwise (· < ·)->∀ {i c:Nat},C[i]?=some c->((c:Int)<=k↔i < dL C k)
 | [],_,i,c,h=>by simp at h
 | a::l,hs,i,c,h=>by
  obtain ⟨h1,h2⟩:=List.pairwise_cons.mp hs
  unfold dL
  by_cases ha:(a:Int)<=k
  ·rw [List.filter_cons_of_pos (by simpa using ha),List.length_cons]
   cases i with
   | zero=>simp at h; subst h; exact ⟨fun _=>by omega,fun _=>ha⟩
   | succ i =>
    have:=wP (k:=k) h2 (i:=i) (c:=c) (by simpa using h)
    unfold dL at this
    rw [this]; omega
  ·rw [List.filter_cons_of_neg (by simpa using ha)]
   have e:l.filter (fun (i:Nat)=>decide ((i:Int)<=k))=[]:=List.filter_eq_nil_iff.mpr fun x hx=>by have:=h1 x hx; simp; omega
   rw [e]
   cases i with
   | zero=>simp at h; subst h; exact ⟨fun z=>absurd z ha,fun z=>by simp at z⟩
   | succ i =>
    have:=h1 c (zMo (i:=i) (by simpa using h))
    exact ⟨fun z=>by omega,fun z=>by simp at z⟩
theorem aF0 (C:List Nat) (k:Int):dL C k<=C.length:=List.length_filter_le _ _
theorem aM7 {n:Nat}{zs:List Str} (g:Good n zs) (k j:Int):aT (cJ zs) (bd (chg (aO zs)) k) (bd (chg zs) j)=aT zs k j:=by
 have h:∀ z∈zs,z.length=n:=fun z hz=>(g z hz).1
 have kl:(cJ zs).length=(chg zs).length - 1:=by unfold cJ; rw [zLm,List.length_dropLast]
 have kw:∀ z∈cJ zs,z.length=(chg (aO zs)).length - 1:=fun z hz=>by
  unfold cJ at hz
  obtain ⟨i,_,rfl⟩:=List.mem_map.mp hz
  rw [oZ,zLm,List.length_dropLast]
 have c1:=aF0 (chg zs) j
 have c2:=aF0 (chg (aO zs)) k
 have key1:=fun {i c}=>wP (k:=j) (cG zs) (i:=i) (c:=c)
 have key2:=fun {i c}=>wP (k:=k) (cG (aO zs)) (i:=i) (c:=c)
 unfold bd
 -- the row is none: both are out
 by_cases hr:0 < dL (chg zs) j/\dL (chg zs) j < (chg zs).length
 rotate_left
 ·have lhs:aT (cJ zs) ((dL (chg (aO zs)) k:Int) - 1) ((dL (chg zs) j:Int) - 1)=false:=by
   by_cases h0:dL (chg zs) j=0
   ·exact fC (by omega)
   ·exact fI (by omega)
  rw [lhs]
  symm
  by_cases hj0:j < 0
  ·exact fC hj0
  by_cases hj1:(zs.length:Int)<=j
  ·exact fI hj1
  obtain ⟨m,rfl⟩:∃ m:Nat,j=(m:Int):=⟨j.toNat,by omega⟩
  have hd:=zM h (j:=m) (by omega) fun r c d h1 h2 h3=>by
   have a1:=key1 h1
   have a2:=key1 h2
   have hl2:=(zGs h2).1
   omega
  by_cases hk0:k < 0
  ·exact cD hk0
  obtain ⟨q,rfl⟩:∃ q:Nat,k=(q:Int):=⟨k.toNat,by omega⟩
  by_cases hk1:n<=q
  ·exact kG (z:=dots n) (by rw [Int.toNat_natCast]; exact hd) (by rw [uE]; omega)
  ·rw [iC (z:=dots n) (c:=46) (by omega) (by omega) (by rw [Int.toNat_natCast]; exact hd) (by rw [Int.toNat_natCast,fW (by rw [uE]; omega),lU,if_pos (by omega)])]
   rfl
 obtain ⟨r,hr0⟩:∃ r,dL (chg zs) j=r+1:=⟨dL (chg zs) j - 1,by omega⟩
 have er:(((dL (chg zs) j:Nat):Int) - 1)=(r:Int):=by omega
 have g1:(chg zs)[r]?=some (chg zs)[r]:=zGe (by omega)
 have g2:(chg zs)[r+1]?=some (chg zs)[r+1]:=zGe (by omega)
 have b1:=(key1 g1).mpr (by omega)
 have b2:=key1 g2
 have hd2:=fG _ _ (zMo g2)
 obtain ⟨m,rfl⟩:∃ m:Nat,j=(m:Int):=⟨j.toNat,by omega⟩
 have hm:m < zs.length:=by omega
 have eb:=aBT hm g1 g2 (by omega) (by omega)
 obtain ⟨z,hz⟩:∃ z,zs[m]?=some z:=⟨zs[m],zGe hm⟩
 rw [hz] at eb
 have hzm:=zMo hz
 have hkr:r < (cJ zs).length:=by omega
 have hky:(cJ zs)[r]?=some (cJ zs)[r]:=zGe hkr
 have hyl:=kw _ (List.getElem_mem hkr)
 rw [er]
 by_cases hc:0 < dL (chg (aO zs)) k/\dL (chg (aO zs)) k < (chg (aO zs)).length
 rotate_left
 ·have lhs:aT (cJ zs) ((dL (chg (aO zs)) k:Int) - 1) (r:Int)=false:=by
   by_cases h0:dL (chg (aO zs)) k=0
   ·exact cD (by omega)
   ·exact kG (z:=(cJ zs)[r]) (by rw [Int.toNat_natCast]; exact hky) (by omega)
  rw [lhs]
  symm
  by_cases hk0:k < 0
  ·exact cD hk0
  obtain ⟨q,rfl⟩:∃ q:Nat,k=(q:Int):=⟨k.toNat,by omega⟩
  by_cases hk1:n<=q
  ·exact kG (z:=z) (by rw [Int.toNat_natCast]; exact hz) (by rw [h z hzm]; omega)
  ·have:=aMP h (k:=q) (by omega) (fun r c d h1 h2 h3=>by
    have a1:=key2 h1
    have a2:=key2 h2
    have hl2:=(zGs h2).1
    omega) z hzm
   rw [iC (z:=z) (c:=46) (by omega) (by omega) (by rw [Int.toNat_natCast]; exact hz) (by rw [Int.toNat_natCast,fW (by rw [h z hzm]; omega),this])]
   rfl
 obtain ⟨c,hc0⟩:∃ c,dL (chg (aO zs)) k=c+1:=⟨dL (chg (aO zs)) k - 1,by omega⟩
 have ec:(((dL (chg (aO zs)) k:Nat):Int) - 1)=(c:Int):=by omega
 have f1:(chg (aO zs))[c]?=some (chg (aO zs))[c]:=zGe (by omega)
 have f2:(chg (aO zs))[c+1]?=some (chg (aO zs))[c+1]:=zGe (by omega)
 have d1:=(key2 f1).mpr (by omega)
 have d2:=key2 f2
 have hne:zs≠[]:=fun e=>by rw [e] at hm; simp at hm
 have hcl:=c7 h hne
 have hd3:=fG _ _ (zMo f2)
 obtain ⟨q,rfl⟩:∃ q:Nat,k=(q:Int):=⟨k.toNat,by omega⟩
 have hq:q < n:=by omega
 obtain ⟨y,hy,ey⟩:=aLK g1 (by omega) f1 (by omega) eb.symm
 have ecol:=aNM h (k:=q) hq f1 f2 (by omega) (by omega) z hzm
 have hyl2:=kw y (zMo hy)
 rw [ec,iC (z:=y) (c:=atS y c) (by omega) (by omega) (by rw [Int.toNat_natCast]; exact hy) (by rw [Int.toNat_natCast]; exact fW (by omega)),
  iC (z:=z) (c:=atS z q) (by omega) (by omega) (by rw [Int.toNat_natCast]; exact hz) (by rw [Int.toNat_natCast]; exact fW (by rw [h z hzm]; exact hq)),ey,ecol]
theorem o4 {K:List Str}{a u:Int}:aT K a u=true↔0<=u/\0<=a/\∃ z,K[u.toNat]?=some z/\z.cps.toList[a.toNat]?=some 35:=by
 unfold aT
 rw [Bool.and_eq_true,Bool.and_eq_true,decide_eq_true_eq,decide_eq_true_eq,beq_iff_eq]
 constructor
 ·rintro ⟨⟨h1,h2⟩,h3⟩
  obtain ⟨z,hz,e⟩:=Option.bind_eq_some_iff.mp h3
  exact ⟨h1,h2,z,hz,e⟩
 ·rintro ⟨h1,h2,z,hz,e⟩
  exact ⟨⟨h1,h2⟩,Option.bind_eq_some_iff.mpr ⟨z,hz,e⟩⟩
def negr (xs:List Int):List Int:=xs.reverse.map fun x=>0 - x
def aff (b a:Int) (xs:List Int):List Int:=xs.map fun x=>x * b+a
end R
namespace U
open PySem
abbrev Up (ws:List Rat):Prop:=ws.Pairwise (· < ·)
def ix (ws:List Rat) (x:Rat):Int:=((ws.filter fun w=>decide (w<=x)).length:Int) - 1
theorem pC (ws:List Rat) (x:Rat) : -1<=ix ws x:=by unfold ix; omega
theorem o8 (ws:List Rat) (x:Rat):ix ws x < ws.length:=by
 unfold ix
 have:=List.length_filter_le (fun w=>decide (w<=x)) ws
 omega
theorem d6 {x:Rat}:∀ {ws:List Rat},Up ws->∀ {i:Nat} (h:i < ws.length),ws[i]<=x↔(i:Int)<=ix ws x
 | [],_,i,h=>absurd h (Nat.not_lt_zero _)
 | w::r,u,i,h=>by
  obtain ⟨u1,u2⟩:=List.pairwise_cons.mp u
  unfold ix
  by_cases hw:w<=x
  ·rw [List.filter_cons_of_pos (by simpa using hw),List.length_cons]
   cases i with
   | zero=>exact ⟨fun _=>by omega,fun _=>hw⟩
   | succ i =>
    have:=d6 (x:=x) u2 (i:=i) (by simpa using h)
    unfold ix at this
    simp only [List.getElem_cons_succ]
    rw [this]
    omega
  ·rw [List.filter_cons_of_neg (by simpa using hw)]
   have e:r.filter (fun w=>decide (w<=x))=[]:=List.filter_eq_nil_iff.mpr fun a ha=>by
    have:=u1 a ha
    simp only [decide_eq_true_eq]
    grind
   rw [e]
   have h1:¬ (w::r)[i]<=x:=by
    cases i with
    | zero=>simpa using hw
    | succ i =>
     have:=u1 _ (List.getElem_mem (by simpa using h:i < r.length))
     simp only [List.getElem_cons_succ]
     grind
   exact ⟨fun z=>absurd z h1,fun z=>by simp at z; omega⟩
theorem rM {ws:List Rat}{x:Rat}{k:Int} (u:Up ws) (h0 : -1<=k) (h1:k < ws.length) (h:∀ (i:Nat) (hi:i < ws.length),ws[i]<=x↔(i:Int)<=k):ix ws x=k:=by
 have a:=pC ws x
 have b:=o8 ws x
 apply Int.le_antisymm
 ·by_cases hk:0<=ix ws x
  ·have q:=(h (ix ws x).toNat (by omega)).mp ((d6 u (by omega)).mpr (by omega))
   omega
  ·omega
 ·by_cases hk:0<=k
  ·have q:=(d6 (x:=x) u (i:=k.toNat) (by omega)).mp ((h k.toNat (by omega)).mpr (by omega))
   omega
  ·omega
theorem i6 {ws:List Rat} (u:Up ws) {i j:Nat} (hi:i < ws.length) (hj:j < ws.length):ws[i] < ws[j]↔i < j:=by
 have p:=List.pairwise_iff_getElem.mp u
 constructor
 ·intro h
  rcases Nat.lt_trichotomy i j with q | q | q
  ·exact q
  ·subst q; grind
  ·have:=p j i hj hi q; grind
 ·exact p i j hi hj
theorem gQ {ws:List Rat} (u:Up ws) {i j:Nat} (hi:i < ws.length) (hj:j < ws.length):ws[i]<=ws[j]↔i<=j:=by
 have:=i6 u hj hi
 constructor
 ·intro h; refine Nat.le_of_not_lt fun q => ?_
  have:=this.mpr q; grind
 ·intro h
  have:¬ ws[j] < ws[i]:=fun q=>by have:=this.mp q; omega
  grind
theorem fT {ws:List Rat} (u:Up ws) {i:Nat} (hi:i < ws.length):ix ws ws[i]=i :=
 rM u (by omega) (by omega) fun j hj=>by rw [gQ u hj hi]; omega
theorem aE5 {ws vs:List Rat} (u:Up ws) (v:Up vs) (h:∀ x,x∈ws↔x∈vs):ws=vs:=by
 induction ws generalizing vs with
 | nil =>
  cases vs with
  | nil=>rfl
  | cons a r=>exact absurd ((h a).mpr (.head _)) (by simp)
 | cons w ws ih =>
  cases vs with
  | nil=>exact absurd ((h w).mp (.head _)) (by simp)
  | cons a r =>
   obtain ⟨u1,u2⟩:=List.pairwise_cons.mp u
   obtain ⟨v1,v2⟩:=List.pairwise_cons.mp v
   have e:w=a:=by
    rcases List.mem_cons.mp ((h w).mp (.head _)) with q | q
    ·exact q
    ·rcases List.mem_cons.mp ((h a).mpr (.head _)) with z | z
     ·exact z.symm
     ·have:=v1 w q; have:=u1 a z; grind
   subst e
   rw [ih u2 v2 fun x => ?_]
   constructor
   ·intro hx
    rcases List.mem_cons.mp ((h x).mp (.tail _ hx)) with q | q
    ·subst q; have:=u1 x hx; grind
    ·exact q
   ·intro hx
    rcases List.mem_cons.mp ((h x).mpr (.tail _ hx)) with q | q
    ·subst q; have:=v1 x hx; grind
    ·exact q
theorem aB8 {ws xs:List Rat} (u:Up ws) (v:Up xs) (hs:∀ w∈ws,w∈xs) {x:Rat}{i:Nat} (hi:i < xs.length) (e:ix xs x=i):ix ws x=ix ws xs[i]:=by
 unfold ix
 refine congrArg (fun l:List Rat=>(l.length:Int) - 1) (List.filter_congr fun w hw => ?_)
 obtain ⟨j,hj,rfl⟩:=List.getElem_of_mem (hs w hw)
 have h1:=d6 (x:=x) v hj
 have h2:=gQ v hj hi
 rw [decide_eq_decide,h1,h2,e]
 omega
theorem aHA {ws xs:List Rat} (v:Up xs) (hs:∀ w∈ws,w∈xs) {x:Rat} (e:ix xs x = -1):ix ws x = -1:=by
 unfold ix
 rw [List.filter_eq_nil_iff.mpr fun w hw => ?_]
 ·rfl
 ·obtain ⟨j,hj,rfl⟩:=List.getElem_of_mem (hs w hw)
  have h1:=d6 (x:=x) v hj
  rw [decide_eq_true_eq,h1,e]
  omega
theorem aBX {ws xs:List Rat} (v:Up xs) (hs:∀ w∈ws,w∈xs) {x:Rat} (e:ix xs x=(xs.length:Int) - 1):ix ws x=(ws.length:Int) - 1:=by
 unfold ix
 rw [List.filter_eq_self.mpr fun w hw => ?_]
 obtain ⟨j,hj,rfl⟩:=List.getElem_of_mem (hs w hw)
 have h1:=d6 (x:=x) v hj
 rw [decide_eq_true_eq,h1,e]
 omega
def iY (xs:List Rat) (js:List Nat):List Rat:=js.map fun j=>xs.getD j 0
theorem yZ {xs:List Rat} (u:Up xs) {js:List Nat} (hs:js.Pairwise (· < ·)) (h:∀ j∈js,j < xs.length):Up (iY xs js):=by
 unfold iY Up
 rw [List.pairwise_map]
 refine List.Pairwise.imp_of_mem ?_ hs
 intro a b ha hb hab
 have h1:=h a ha
 have h2:=h b hb
 rw [zGd,zGd,zGe h1,zGe h2]
 exact (i6 u h1 h2).mpr hab
theorem xE {xs:List Rat}{js:List Nat} (h:∀ j∈js,j < xs.length):∀ x∈iY xs js,x∈xs:=fun x hx=>by
 obtain ⟨j,hj,rfl⟩:=List.mem_map.mp hx
 rw [zGd,zGe (h j hj)]
 exact List.getElem_mem _
theorem aCK {xs:List Rat} (u:Up xs) {js:List Nat} (h:∀ j∈js,j < xs.length) (x:Rat):ix (iY xs js) x=R.bd js (ix xs x):=by
 unfold ix iY R.bd R.dL
 rw [List.filter_map,zLm]
 congr 2
 congr 1
 refine List.filter_congr fun j hj => ?_
 have h1:=h j hj
 have:=d6 (x:=x) u h1
 show decide (xs.getD j 0<=x)=_
 rw [zGd,zGe h1,decide_eq_decide]
 exact this
end U
namespace Z
open PySem L2
end Z
namespace Q
open PySem L2 Z
theorem zZ {n:Nat} (h:n<=1000):("." : Str).length * ((n:Int)).toNat<=sizeLine:=by
 have e:("." : Str).length=1:=by decide +kernel
 rw [e,Int.toNat_natCast,Nat.one_mul]
 exact R.bG (by omega)
theorem kZ {zs:List Str}{i:Nat} (h:i < zs.length+2):∃ u,(R.framed zs)[i]?=some u:=⟨(R.framed zs)[i]'(by rw [R.k7]; exact h),by simp [R.k7,h]⟩
theorem rV {zs:List Str}{i:Nat}{z:Str} (h:zs[i]?=some z):atI (zs.map D.str) (0+(i:Int))=some (.str z):=by
 rw [Int.zero_add]; exact dC (by rw [List.getElem?_map,h]; rfl)
theorem aAF {zs:List Str}{i:Nat}{z:Str} (h:zs[i+1]?=some z):atI (zs.map D.str) (0+(i:Int)+1)=some (.str z):=by
 rw [Int.zero_add]; exact dC (j:=i+1) (by rw [List.getElem?_map,h]; rfl)
def eM (l:List Nat):List D:=l.map fun (i:Nat)=>D.int (i:Int)
theorem i7 {l:List Nat}{i:Nat}{d:D} (h:(eM l)[i]?=some d):∃ j,l[i]?=some j/\d = .int (j:Int):=cA h
theorem c9 (l:List Nat):(eM l).length=l.length:=by simp [eM]
theorem aFO {zs:List Str}:(List.range (zs.length+1)).filter (fun i => !decide ((R.framed zs)[i]?=(R.framed zs)[i+1]?))=R.chg zs:=by
 unfold R.chg
 cases zs with
 | nil=>rfl
 | cons z zr=>rfl
theorem kI {p:Nat->Bool}{n:Nat}:(List.range (n+1)).filter p=if p n=true then (List.range n).filter p++[n] else (List.range n).filter p:=by
 rw [List.range_succ,List.filter_append]
 by_cases h:p n=true
 ·rw [if_pos h,List.filter_cons_of_pos h]; rfl
 ·rw [if_neg h,List.filter_cons_of_neg h,List.filter_nil,List.append_nil]
theorem nZ {α:Type} (l:List α):cutD l none (some (-1))=l.dropLast:=by
 unfold cutD
 have e1:HT.sIx l.length 0 none=0:=rfl
 have e2:HT.sIx l.length l.length (some (-1))=l.length - 1:=by
  show (if (-1:Int) < 0 then ((-1:Int)+(l.length:Int)).toNat else min (-1:Int).toNat l.length)=l.length - 1
  rw [if_pos (by decide)]; omega
 rw [e1,e2,List.drop_zero,Nat.sub_zero,List.dropLast_eq_take]
theorem i5 (l:List Nat):(eM l).dropLast=eM l.dropLast:=by simp [eM,List.map_dropLast]
theorem cS {α β:Type}{f:α->β}{l:List α}{i:Nat}{x:α} (h:l[i]?=some x):(l.take (i+1)).map f=(l.take i).map f++[f x]:=by
 rw [take_snoc h,List.map_append]; rfl
theorem aDK {xs:List D}{j:Nat} (h:j < xs.length):atI xs (j:Int)=some (xs.getD j .non):=dC (by simp [h])
theorem rQ (l:List Str) (h:∀ z∈l,z.length=1):(l.map (·.length)).sum=l.length:=by
 induction l with
 | nil=>rfl
 | cons a l ih =>
  rw [List.map_cons,List.sum_cons,ih fun z hz=>h z (by simp [hz]),h a (by simp),List.length_cons,Nat.add_comm]
theorem zO (zs:List Str) (j:Nat):PySem.Txt.join Str.empty (zs.map fun z=>(⟨#[R.atS z j]⟩:Str))=R.ofL (zs.map (R.atS · j)):=by
 have:=R.wL (zs.map (R.atS · j))
 rw [List.map_map] at this
 exact this
theorem map_nil {α β:Type}{f:α->β}{l:List α} (h:decide (l.map f=[])=true):l=[]:=by
 have:=of_decide_eq_true h
 cases l with
 | nil=>rfl
 | cons a l=>cases this
end Q
namespace R
open PySem L2
theorem units_le {A:Around}{k n:Nat} (hr:Room k A) (h:n<=64:=by decide):A.units+n < cLine:=by have:=hr.units; omega
end R
namespace Q
open PySem L2 Z
theorem cH.del {p a:Addr}{M M':Mem} (h:cH p M M') (n:M a=none):cH p M (kU M' a):=fun b u nb e=>by
 rw [sV (fun z=>by rw [z,n] at e; cases e)]; exact h b u nb e
theorem cH.none_of {p a:Addr}{M M':Mem} (h:cH p M M') (n:M' a=none) (np:a≠p):M a=none:=by
 cases e:M a with
 | none=>rfl
 | some o=>rw [h a o np e] at n; cases n
theorem aGO {n:Nat}{zs:List Str} (h:R.Good n zs) {cs:List Nat} (hl:cs.length=n) (hs:∀ c∈cs,c=35\/c=46):R.Good n (zs++[R.ofL cs]):=fun z hz=>by
 rcases List.mem_append.mp hz with hz | hz
 ·exact h z hz
 ·rw [List.mem_singleton] at hz
  subst hz
  refine ⟨by rw [R.oZ]; exact hl,?_⟩
  show cs.all R.sgn=true
  rw [List.all_eq_true]
  intro c hc
  rcases hs c hc with rfl | rfl <;> rfl
theorem aM6 (l:List Nat):((l.map fun c=>(⟨#[c]⟩:Str)).map (·.length)).sum=l.length:=by
 rw [rQ _ fun z hz=>by obtain ⟨c,_,rfl⟩:=List.mem_map.mp hz; rfl,zLm]
end Q
namespace Z
open PySem L2
section
variable {K:Fg}{M:Mem}{k:D->Mem->Prop}
def aD8:D->Bool
 | .non=>true
 | _=>false
theorem aBP {G:Hp}{d:D}{v:V} (h:Den K G d v):decide (v = .non)=aD8 d:=by
 cases d with
 | non=>rw [h.non_]; rfl
 | bl b=>rw [h.bl_]; rfl
 | int b=>rw [h.int_]; rfl
 | str b=>rw [h.str_]; rfl
 | mt b=>rw [h.mt_]; rfl
 | tup b=>obtain ⟨_,_,e,_⟩:=h.tup_; rw [e]; rfl
 | lst b=>obtain ⟨_,_,e,_⟩:=h.lst_; rw [e]; rfl
 | fl b=>obtain ⟨_,_,e,_⟩:=h.fl_; rw [e]; rfl
 | st b=>obtain ⟨_,_,_,e,_⟩:=h.st_; rw [e]; rfl
theorem aN4 {d:D} (h:k (.bl (aD8 d)) M):Op2 K (fun x y H Q=>y = .non/\Q (.bl (decide (x = .non))) H) d .non M k:=fun G H v1 v2 Q rl e1 e2 q =>
 ⟨e2.non_,by rw [aBP e1]; exact q _ _ _ _ _ (Stp.refl rl) dG h⟩
theorem aMK {d:D} (h:k (.bl (!aD8 d)) M):Op2 K (fun x y H Q=>y = .non/\Q (.bl (!decide (x = .non))) H) d .non M k:=fun G H v1 v2 Q rl e1 e2 q =>
 ⟨e2.non_,by rw [aBP e1]; exact q _ _ _ _ _ (Stp.refl rl) dG h⟩
end
theorem nW {es:List D}{i:Nat}{d:D} (h:(gS es)[i]?=some d):∃ x,es[i]?=some x/\d = .tup [.int (i:Int),x]:=by
 unfold gS at h
 rw [List.getElem?_mapIdx] at h
 cases e:es[i]? with
 | none=>rw [e] at h; cases h
 | some x=>rw [e] at h; exact ⟨x,rfl,(Option.some.inj h).symm⟩
theorem nV (es:List D):(gS es).length=es.length:=by simp [gS]
end Z
namespace L2
open PySem PySem.Spec PyProof.Rows
section
variable {X:Cx}
end
end L2
namespace Z
open PySem L2
section
variable {K:Fg}{M:Mem}{k:D->Mem->Prop}
end
end Z
namespace Q
open PySem L2 Z
def cHas:Ct:=fun ds M k=>∃ (x y:D) (zs:List Str) (a u:Int),ds=[.tup [x,y, .tup (zs.map .str)], .int a, .int u]/\(∀ z∈zs,z.length<=1000)/\k (.bl (R.aT zs a u)) M
theorem aE7 {c:Nat}:decide ((⟨#[c]⟩:Str)=("#" : Str))=decide (c=35):=by
 have e:("#" : Str)=⟨#[35]⟩:=by decide +kernel
 rw [e]
 by_cases h:c=35
 ·rw [h]; simp
 ·rw [decide_eq_false h]
  exact decide_eq_false fun z=>h (by injection z with z; simpa using z)
theorem cell_in {zs:List Str}{a u:Int} (h1:¬ decide (u < 0)=true) (h2:¬ decide (((zs.map D.str).length:Int)<=u)=true) (h3:¬ decide (a < 0)=true):0<=u/\0<=a/\∃ z,zs[u.toNat]?=some z/\atI (zs.map D.str) u=some (.str z):=by
 have h1':¬ u < 0:=fun z=>h1 (decide_eq_true z)
 have h2':¬ ((zs.length:Nat):Int)<=u:=fun z=>h2 (decide_eq_true (by rw [zLm]; exact z))
 have h3':¬ a < 0:=fun z=>h3 (decide_eq_true z)
 obtain ⟨j,rfl⟩:∃ j:Nat,u=(j:Int):=⟨u.toNat,by omega⟩
 have hj:j < zs.length:=by omega
 refine ⟨by omega,by omega,zs[j],by simp [hj],dC (by simp [hj])⟩
theorem aMG {z:Str}{a:Int} (ha:0<=a) (h:¬ ((z.length:Nat):Int)<=a):∃ c,z.cps.toList[a.toNat]?=some c/\atI z.cps.toList a=some c:=by
 obtain ⟨j,rfl⟩:∃ j:Nat,a=(j:Int):=⟨a.toNat,by omega⟩
 have hj:j < z.cps.toList.length:=by rw [Array.length_toList]; have:z.cps.size=z.length:=rfl; omega
 exact ⟨z.cps.toList[j],by simp,dC (zGe hj)⟩
end Q
namespace HT
open PySem PySem.Spec PyProof.Rows
section
variable {prog:Program}{w:World}{A:Around}{E:Value->Shared->Prop}{s:Shared}
end
end HT
namespace L2
open PySem PySem.Spec PyProof.Rows
section
variable {X:Cx}
end
end L2
namespace Z
open PySem L2
section
variable {X:Cx}{Γ:Gm}{M:Mem}{k:D->Mem->Prop}{e:Expr}
theorem aFN {n:Nat} (hu:X.A.units+(n+1) < cLine):OpR X (compareOp .NotIn) (rInD X.K n true):=by
 intro pins s σ H x y v u Q I rx ry h
 obtain ⟨c,d,ds,hd,okc,okd,dx,dy,q⟩:=h
 have one:∀ {its:List Value}{vs:List V},Vals vs its->Dens X.K H ds vs->∀ y∈its.toArray,SeqAt.EqAt X.A.in1 s y v (eOf ds its c y):=fun {its vs} rv dn y hy=>by
  obtain ⟨j,hj⟩:=List.getElem?_of_mem (show y∈its by simpa using hy)
  have hlt:j < vs.length:=by rw [rv.length]; exact (zGs hj).1
  obtain ⟨u2,e2,r1⟩:=rv.get (zGe hlt)
  rw [hj] at e2; cases e2
  obtain ⟨e,e2,q2⟩:=dn.get' (zGe hlt)
  rw [zD I okd dn rv hj e2]
  exact eqAt_D I e n c _ x y v X.A.in1 (cR okd e2) okc q2 dx r1 rx (by show X.A.units+1+n < cLine; omega)
 rcases hd with rfl | rfl
 ·obtain ⟨a,its,vs,rfl,it,rv,dn⟩:=dW I dy ry
  refine SeqAt.notIn_tupleAt (eOf ds its c) it (one rv dn) ?_
  rw [aCL I okd dn rv]
  exact ⟨.bl _,H,I,rfl,q⟩
 ·obtain ⟨a,its,vs,rfl,it,rv,dn⟩:=dZ I dy ry
  refine SeqAt.notIn_listAt (eOf ds its c) it (one rv dn) ?_
  rw [aCL I okd dn rv]
  exact ⟨.bl _,H,I,rfl,q⟩
theorem aFH {K:Fg}{n:Nat}{c d e:D}{ds:List D} (r:Rs M d e) (he:e = .tup ds\/e = .lst ds) (hc:okD n c=true) (hd:okDs n ds=true) (h:k (.bl (!ds.any fun x=>eqD x c)) M):Op2 K (rInD K n true) c d M k:=fun G H v1 v2 Q rl e1 e2 q =>
 ⟨c,e,ds,he,hc,hd,e1.up rl.same,r.den rl e2,q _ _ _ _ _ (Stp.refl rl) dG h⟩
end
end Z
namespace Q
open PySem L2 Z
end Q
namespace Z
open PySem L2
theorem slen (a b:Str):(a++b).length=a.length+b.length:=by
 show (a.cps++b.cps).size=_
 rw [Array.size_append]; rfl
theorem tJ:∀ (ts:List Str) (k:Nat) (acc:Str),(textFrom k acc ts).length<=acc.length+(ts.map (·.length)).sum+2 * ts.length
 | [],k,acc=>by simp [textFrom]
 | t::ts,k,acc=>by
  have ih:=tJ ts (k+1) (acc++(if k > 0 then ", " else "" : String)++t)
  have e:(acc++((if k > 0 then ", " else "" : String):Str)++t).length<=acc.length+2+t.length:=by
   rw [slen,slen]
   split
   ·have:((", " : String):Str).length=2:=by decide +kernel
    omega
   ·have:(("" : String):Str).length=0:=by decide +kernel
    omega
  show (textFrom (k+1) (acc++(if k > 0 then ", " else "" : String)++t) ts).length<=_
  rw [List.map_cons,List.sum_cons,List.length_cons]
  omega
theorem aA1 (ts:List Str):(listText ts).length<=(ts.map (·.length)).sum+2 * ts.length+2:=by
 unfold listText
 rw [slen]
 have h:=tJ ts 0 "["
 have e1:("[" : Str).length=1:=by decide +kernel
 have e2:("]" : Str).length=1:=by decide +kernel
 omega
theorem join_le:∀ ts:List Str,(Str.join ", " ts).length<=(ts.map (·.length)).sum+2 * ts.length
 | []=>by show (Str.empty).length<=_; exact Nat.zero_le _
 | [x]=>by show x.length<=_; simp
 | x::y::r=>by
  have ih:=join_le (y::r)
  show (x ++ ", " ++ Str.join ", " (y::r)).length<=_
  rw [slen,slen]
  have e2:((", " : String):Str).length=2:=by decide +kernel
  rw [List.map_cons,List.sum_cons,List.length_cons]
  omega
theorem yJ (ts:List Str):(tupleText ts).length<=(ts.map (·.length)).sum+2 * ts.length+3:=by
 unfold tupleText
 rw [slen,slen]
 have h:=join_le ts
 have e1:("(" : Str).length=1:=by decide +kernel
 have e2:(((if ts.length == 1 then ",)" else ")" : String)):Str).length<=2:=by split <;> decide +kernel
 omega
mutual
def smD:D->Bool
 | .non | .bl _ | .str _=>true
 | .int i=>decide (i.natAbs < 10 ^ 65)
 | .tup ds=>smDs ds
 | .lst ds=>smDs ds
 | .mt _ | .fl _ | .st _=>false
def smDs:List D->Bool
 | []=>true
 | d::ds=>smD d && smDs ds
end
mutual
def wt:D->Nat
 | .non=>4
 | .bl _=>5
 | .int _=>66
 | .str x=>(reprText x).length
 | .tup ds=>wts ds+3
 | .lst ds=>wts ds+2
 | .mt _ | .fl _ | .st _=>0
def wts:List D->Nat
 | []=>0
 | d::ds=>wt d+2+wts ds
end
mutual
theorem shown_le:∀ d:D,smD d=true->(toPy d).showable=true/\(toPy d).shown.length<=wt d
 | .non,_=>by simp only [toPy,PyData.showable,PyData.shown,wt]; exact ⟨trivial,by decide +kernel⟩
 | .bl b,_=>by simp only [toPy,PyData.showable,PyData.shown,wt]; exact ⟨trivial,by cases b <;> decide +kernel⟩
 | .str x,_=>by simp only [toPy,PyData.showable,PyData.shown,wt]; exact ⟨trivial,Nat.le_refl _⟩
 | .int i,h=>by
  simp only [smD,decide_eq_true_eq] at h
  simp only [toPy,PyData.showable,PyData.shown,wt,decide_eq_true_eq]
  refine ⟨?_,?_⟩
  ·have h2:i.natAbs < 2 ^ 1920:=Nat.lt_of_lt_of_le h (by decide)
   by_cases h0:i.natAbs=0
   ·rw [h0]; decide
   ·exact (Nat.log2_lt h0).mpr h2
  ·have:=int_text_length_le10 (a:=i) (k:=65) (by decide) h
   show (Str.ofString (toString i)).length<=66
   rw [ofString_length]; exact this
 | .mt _,h=>by simp [smD] at h
 | .fl _,h=>by simp [smD] at h
 | .st _,h=>by simp [smD] at h
 | .tup ds,h=>by
  simp only [smD] at h
  obtain ⟨h1,h2⟩:=showns_le ds h
  simp only [toPy,PyData.showable,PyData.shown,wt]
  exact ⟨h1,Nat.le_trans (yJ _) (by omega)⟩
 | .lst ds,h=>by
  simp only [smD] at h
  obtain ⟨h1,h2⟩:=showns_le ds h
  simp only [toPy,PyData.showable,PyData.shown,wt]
  exact ⟨h1,Nat.le_trans (aA1 _) (by omega)⟩
theorem showns_le:∀ ds:List D,smDs ds=true->PyData.showableAll (toPys ds)=true/\((PyData.shownAll (toPys ds)).map (·.length)).sum+2 * (PyData.shownAll (toPys ds)).length<=wts ds
 | [],_=>by simp [toPys,PyData.showableAll,PyData.shownAll,wts]
 | d::ds,h=>by
  simp only [smDs,Bool.and_eq_true] at h
  obtain ⟨a1,a2⟩:=shown_le d h.1
  obtain ⟨b1,b2⟩:=showns_le ds h.2
  simp only [toPys,PyData.showableAll,PyData.shownAll,wts,List.map_cons,List.sum_cons,List.length_cons]
  exact ⟨by rw [a1,b1]; rfl,by omega⟩
end
theorem wB {n:Nat}:∀ {ds:List D},(∀ d∈ds,okD n d=true)->okDs n ds=true
 | [],_=>by simp only [okDs]
 | d::ds,h=>by
  have ih:=wB (ds:=ds) fun e he=>h e (List.mem_cons_of_mem _ he)
  simp only [okDs,h d (by simp),ih,Bool.and_true]
end Z
namespace Q
open PySem L2 Z
def pairD (p:Int × Int):D := .tup [.int p.1, .int p.2]
def aDT:Ct:=fun ds M k=>∃ ns:List Int,ds=[.fl (ns.map .int)]/\ns.length<=63/\∀ M',k (.bl true) M'
end Q
namespace L2
open PySem PySem.Spec PyProof.Rows
section
variable {X:Cx}
def Iel (K:PySem.W.Frag) (a:Addr):It:=⟨fun i H=>∃ xs x,SqL K H a xs/\xs[i]?=some x,
 fun i H v H'=>∃ T x,H T=none/\v = .ref T/\H'=upd H T (.tup [.int (i:Int),x])/\∀ xs,SqL K H a xs->xs[i]?=some x,fun i H=>∃ xs,SqL K H a xs/\xs.length=i⟩
theorem aD3 {P:Program}{w:World}{K:PySem.W.Frag}{elts:List Expr}{kk:Nat}{tp:Pos} (a e it:Addr) (hei:e≠it) :
  Turn P w K (.Tuple elts kk tp) (Iel K a) [e,it] e (fun i h=>(∃ old,IsEnum h e it (i:Nat) old)/\h.IsListIter it a i) where
 mem:=by simp
 obj:=fun i h st b hb=>by
  obtain ⟨⟨old,he⟩,o,ho,hc,hd⟩:=st
  rcases List.mem_cons.mp hb with rfl | hb
  ·exact ⟨_,he,fun v z=>by cases z⟩
  ·rw [List.mem_singleton] at hb
   subst hb
   exact ⟨o,ho,fun v z=>by rw [hd] at z; cases z⟩
 keep:=fun i h h' st k=>by
  obtain ⟨⟨old,he⟩,o,ho,r⟩:=st
  exact ⟨⟨old,k e (by simp) _ he⟩,o,k it (by simp) o ho,r⟩
 item:=by
  intro X hP hw hK hc i pins s σ H E I hf st hg
  subst hP hw hK
  obtain ⟨⟨old,he⟩,hit⟩:=st
  obtain ⟨xs,x,hq,hx⟩:=hg
  obtain ⟨its,rv,pt,hz⟩:=I.list hq
  have pt':s.heap.IsList a its.toArray:=pt.isList
  have hai:a≠it:=fun z=>by
   obtain ⟨o,e1,c1,_⟩:=pt'
   obtain ⟨o2,e2,c2,_⟩:=hit
   rw [z,e2] at e1; cases e1
   rw [c1] at c2; exact absurd c2 (by simp)
  have hae:e ∉ [it,a]:=fun z=>by
   rcases List.mem_cons.mp z with y | y
   ·exact hei y
   ·rw [List.mem_singleton] at y
    obtain ⟨o,e1,c1,_⟩:=pt'
    have he':=he
    unfold IsEnum at he'
    rw [y,e1] at he'; cases he'
    exact absurd c1 (by simp)
  have Dr:=Draws.list (prog:=X.prog) (w:=X.w) (A:=X.A.in1) (I.ok.hd hc) it a hai its.toArray
  have hlt:i < its.toArray.size:=by rw [List.size_toArray,<- rv.length]; exact (zGs hx).1
  refine wpAny_pyNext_enum_itemD Dr he ⟨hit,pt'⟩ hlt hei hae fun y h1 tk hy ho hs1 hT hsz hk => ?_
  refine ⟨_,rfl,wpAny_letOwnedTupleGo_enum ho fun h2 he2 hs2 => ?_⟩
  obtain ⟨u,hu,ru⟩:=rv.get hx
  have ey:y=u:=by
   have e3:its[i]?=some y:=by simpa using hy
   rw [hu] at e3; exact (Option.some.inj e3).symm
  subst ey
  have hTe:s.heap.objs.size≠e:=Nat.ne_of_gt (Heap.lt_size he)
  have tup2:h2.get? s.heap.objs.size=some { cls := .type "tuple", data := .seq #[.int (i:Int) tk,y] }:=(hs2.2 _ hTe).trans hT
  have k2:∀ b ob,b ∉ [e,it]->s.heap.get? b=some ob->h2.get? b=some ob:=fun b ob hb q=>by
   have b1:b≠e:=fun z=>hb (by simp [z])
   have b2:b≠it:=fun z=>hb (by simp [z])
   exact (hs2.2 b b1).trans (hk b ob b1 b2 q)
  have I2:Inv X pins σ (upd H s.heap.objs.size (.tup [.int (i:Int),x])) { s with heap:=h2,toks:=tk+1 }:=I.turnedT k2 hf (Nat.le_refl _) ⟨(show 2<=sizeLine by decide),[.int (i:Int) tk,y], .cons ⟨tk,rfl⟩ (.cons ru .nil),_,tup2,rfl,_,rfl⟩
  have hn:H s.heap.objs.size=none:=I.hok.fresh (Nat.le_refl _)
  refine ⟨.ref s.heap.objs.size,_,I2,rfl,⟨s.heap.objs.size,x,hn,rfl,rfl,fun xs' q' => ?_⟩,⟨⟨_,by simpa using he2⟩,?_⟩,fun b hb => ?_⟩
  ·rw [I.list_inj q' hq]; exact hx
  ·obtain ⟨⟨o,ho3,r3⟩,_⟩:=hs1
   exact ⟨o,(hs2.2 it (Ne.symm hei)).trans ho3,r3⟩
  ·rw [bF (fun z => ?_)]
   ·exact (hf b hb).1
   ·rcases List.mem_cons.mp hb with y | y
    ·exact hTe (by rw [<- z,y])
    ·rw [List.mem_singleton] at y
     obtain ⟨o,ho3,_⟩:=hit
     exact absurd (Heap.lt_size ho3) (by rw [<- y,z]; exact Nat.lt_irrefl _)
 done:=by
  intro X hP hw hK hc i pins s σ H E I hf st hg
  subst hP hw hK
  obtain ⟨⟨old,he⟩,hit⟩:=st
  obtain ⟨xs,hq,hl⟩:=hg
  obtain ⟨its,rv,pt,hz⟩:=I.list hq
  have pt':s.heap.IsList a its.toArray:=pt.isList
  have hai:a≠it:=fun z=>by
   obtain ⟨o,e1,c1,_⟩:=pt'
   obtain ⟨o2,e2,c2,_⟩:=hit
   rw [z,e2] at e1; cases e1
   rw [c1] at c2; exact absurd c2 (by simp)
  have Dr:=Draws.list (prog:=X.prog) (w:=X.w) (A:=X.A.in1) (I.ok.hd hc) it a hai its.toArray
  have hn:its.toArray.size=i:=by rw [List.size_toArray,<- rv.length]; exact hl
  subst hn
  refine wpAny_pyNext_enum_endD Dr he ⟨hit,pt'⟩ fun h2 hx=>⟨rfl,I.turnedL (t':=s.toks) (ch:=[it]) (fun b ob hb q=>hx b ob (fun z=>hb (by simp [z])) q) fun b hb=>hf b ?_⟩
  rw [List.mem_singleton] at hb
  rw [hb]; simp
 self:=fun A i s Q E st h=>by
  obtain ⟨⟨old,he⟩,_⟩:=st
  exact wpAny_pyIter_enum he h
def aOR (K:PySem.W.Frag) (ta:TA):TI:=fun σ H R=>ta σ H fun vs H1=>∃ a,vs=[.ref a]/\(∃ xs,SqL K H1 a xs)/\R (Iel K a) H1
theorem aIH {elts:List Expr}{kk:Nat}{tp:Pos}{a:Expr}{ta:TA}{p pos:Pos} (hg:Gl X "enumerate") (hm:X.mg "enumerate" = none) (hv:bootBuiltins "enumerate" = some (.type "enumerate")) (ha:PA X [a] ta) (hs:starEach [a] X.env=[(false,eval a X.env)]:=by rfl) :
  PI X (.Tuple elts kk tp) (.Call (.Name "enumerate" p) [a] [] pos) (aOR X.K ta):=by
 intro pins s σ H R I h
 refine Call_ (kP I hg hm hv (PyProof.Rows.callWith_type1 (thn (ha pos pins s σ H _ I h) fun us s1 ⟨vs,H1,I1,r1,q1⟩ => ?_) hs rfl))
 obtain ⟨b,e,⟨xs,hq⟩,q⟩:=q1
 subst e
 obtain ⟨u,rfl,ru⟩:=vals1 r1
 cases ru
 obtain ⟨its,rv,pt,hz⟩:=I1.list hq
 refine call_enumerate_list (show s1.heap.IsList b its.toArray from pt.isList) fun h' he hi hsz hk => ?_
 have I2:Inv X pins σ H1 { s1 with heap:=h' }:=I1.kept (t':=s1.toks) hk
 refine wpAny_pyIter_enum he ?_
 refine ⟨_,[s1.heap.objs.size+1,s1.heap.objs.size],_,Iel X.K b,H1,rfl,I2,aD3 b _ _ (Nat.succ_ne_self _),⟨⟨_,he⟩,hi⟩,fun c hc => ?_,q⟩
 rcases List.mem_cons.mp hc with rfl | hc
 ·exact I1.fpOk (Nat.le_succ _) (I1.hok.fresh (Nat.le_succ _))
 ·rw [List.mem_singleton] at hc
  subst hc
  exact I1.fpOk (Nat.le_refl _) (I1.hok.fresh (Nat.le_refl _))
end
end L2
namespace Z
open PySem L2
section
variable {X:Cx}{Γ:Gm}{M:Mem}{k:D->Mem->Prop}{pos:Pos}{a b:Expr}{rest:List Expr}
theorem aJ2 {K:Fg}{a:Addr}{vs:List V}{ds:List D}{G0:Hp} (s:G0 a=some (.lst vs)) (dn:Dens K G0 ds vs):YD K (Iel K a) (gS ds) G0 where
 go:=fun i G H M sg rl h=>by
  have hi:i < vs.length:=by rw [<- dn.len]; simpa [gS] using h
  exact ⟨vs,vs[i],SqL.of (rl.same _ _ (sg _ _ s)),by simp [hi]⟩
 yld:=fun i G H M x H' sg rl h y=>by
  obtain ⟨T,v,hT,rfl,rfl,hx⟩:=y
  have hx':=hx vs (SqL.of (rl.same _ _ (sg _ _ s)))
  obtain ⟨d,hd,e⟩:=dn.get' hx'
  have st:=rl.new (o := .tup [.int (i:Int),v]) hT
  exact ⟨_, .tup [.int (i:Int),d],st,by simp [gS,hd],iH (SqT.of bQ) (cB dJ (cB ((e.up sg).up st.gg) dB))⟩
 stop:=fun i G H M sg rl h=>⟨vs,SqL.of (rl.same _ _ (sg _ _ s)),by rw [<- dn.len]; simpa [gS] using h.symm⟩
theorem uG {elts:List Expr}{kk:Nat}{tp p:Pos}{ki:List D->Mem->Prop} (hm:X.mg "enumerate" = none) (hv:bootBuiltins "enumerate" = some (.type "enumerate")) (h:GA X [a] Γ M fun ds M1=>∃ es,ds=[.lst es]/\ki (gS es) M1) (hg:Gl X "enumerate" := by rfl) (hs:starEach [a] X.env=[(false,eval a X.env)]:=by rfl) :
  GI X (.Tuple elts kk tp) (.Call (.Name "enumerate" p) [a] [] pos) Γ M ki:=fun σ G H Rr en rl q=>by
 refine kM (aIH hg hm hv pUA hs) ?_
 refine h σ G H _ en rl fun vs G1 H1 ds M1 s1 e1 ⟨es,ed,h1⟩ => ?_
 subst ed
 obtain ⟨v,rfl,dv⟩:=dens1 e1
 obtain ⟨b,ws,rfl,sq,dn⟩:=dv.lst_
 exact ⟨b,rfl,⟨ws,SqL.of (s1.rel.same _ _ sq)⟩,q _ _ _ _ _ s1 (aJ2 sq dn) h1⟩
end
section
variable {X:Cx}{pins:List (Addr × Obj)}{σ:St}{H:Hp}{s:Shared}
theorem aPY (I:Inv X pins σ H s) {n:Nat}{d e:D}{v u:V}{v' u':Value} (A:Around) (g1:Disp d) (g2:Disp e) (h1:okD n d=true) (h2:okD n e=true) (x:Den X.K H d v) (y:Den X.K H e u) (rx:RelV v v') (ry:RelV u u') (hu:A.units+n < cLine):SeqAt.RcNeAt A s v' u' (!eqD d e):=by
 cases g1 with
 | tup ds =>
  obtain ⟨a,its,vs,rfl,it,rv,dn⟩:=dW I x rx
  cases g2 with
  | lst es=>obtain ⟨b,its2,vs2,rfl,it2,_⟩:=dZ I y ry; simp only [eqD]; exact SeqAt.RcNeAt.tuple_list it it2 (by omega)
  | tup es =>
   obtain ⟨b,its2,vs2,rfl,it2,rv2,dn2⟩:=dW I y ry
   cases n with
   | zero=>simp [okD] at h1
   | succ n =>
    have k1:okDs n ds=true:=by simpa only [okD] using h1
    have k2:okDs n es=true:=by simpa only [okD] using h2
    have:=SeqAt.RcNeAt.tuples (A:=A) (s:=s) (e:=eqJ ds es) it it2 (by omega) (fun j g1 g2=>by
     obtain ⟨c,v1,e1,q1,r1⟩:=eX dn rv g1
     obtain ⟨c2,v2,e2,q2,r2⟩:=eX dn2 rv2 g2
     have:=eqAt_D I c n c2 v1 v2 _ _ A.in1 (cR k1 e1) (cR k2 e2) q1 q2 r1 r2 (by show A.units+1+n < cLine; omega)
     unfold eqJ; rw [e1,e2]; exact this)
    rw [List.size_toArray,List.size_toArray,<- rv.length,<- rv2.length,<- dn.len,<- dn2.len,gM] at this
    simp only [eqD]; exact this
 | lst ds =>
  obtain ⟨a,its,vs,rfl,it,rv,dn⟩:=dZ I x rx
  cases g2 with
  | tup es=>obtain ⟨b,its2,vs2,rfl,it2,_⟩:=dW I y ry; simp only [eqD]; exact SeqAt.RcNeAt.list_tuple it it2 (by omega)
  | lst es =>
   obtain ⟨b,its2,vs2,rfl,it2,rv2,dn2⟩:=dZ I y ry
   cases n with
   | zero=>simp [okD] at h1
   | succ n =>
    have k1:okDs n ds=true:=by simpa only [okD] using h1
    have k2:okDs n es=true:=by simpa only [okD] using h2
    simp only [eqD]
    by_cases hl:ds.length=es.length
    ·have hsz:its.toArray.size=its2.toArray.size:=by rw [List.size_toArray,List.size_toArray,<- rv.length,<- rv2.length,<- dn.len,<- dn2.len,hl]
     have:=SeqAt.RcNeAt.lists (A:=A) (s:=s) (e:=eqJ ds es) it it2 hsz (by omega) (fun j g1 g2=>by
      obtain ⟨c,v1,e1,q1,r1⟩:=eX dn rv g1
      obtain ⟨c2,v2,e2,q2,r2⟩:=eX dn2 rv2 g2
      have:=eqAt_D I c n c2 v1 v2 _ _ A.in1 (cR k1 e1) (cR k2 e2) q1 q2 r1 r2 (by show A.units+1+n < cLine; omega)
      unfold eqJ; rw [e1,e2]; exact this)
     have e3:=gM ds es
     rw [<- hl,Nat.min_self,beq_self_eq_true,Bool.and_true] at e3
     rw [List.size_toArray,<- rv.length,<- dn.len,e3] at this
     exact this
    ·have hsz:(its.toArray.size != its2.toArray.size)=true:=by rw [bne_iff_ne,List.size_toArray,List.size_toArray,<- rv.length,<- rv2.length,<- dn.len,<- dn2.len]; exact hl
     have e3:=gM ds es
     rw [beq_eq_false_iff_ne.mpr hl,Bool.and_false] at e3
     rw [<- e3]
     exact SeqAt.RcNeAt.lists_lengths it it2 hsz (by omega)
end
section
variable {X:Cx}
theorem mK {n:Nat} (hu:X.A.units+n < cLine):OpR X (compareOp .NotEq) (aAQ X.K n true):=by
 intro pins s σ H x y v u Q I rx ry h
 obtain ⟨d,e,g1,g2,h1,h2,dx,dy,q⟩:=h
 exact aPY I X.A g1 g2 h1 h2 dx dy rx ry hu X.prog X.w X.xe _ ⟨.bl (!eqD d e),H,I,rfl,q⟩
theorem mJ {K:Fg}{n:Nat}{M:Mem}{k:D->Mem->Prop}{d1 d2 e1 e2:D} (r1:Rs M d1 e1) (r2:Rs M d2 e2) (h1:okD n e1=true) (h2:okD n e2=true) (h:k (.bl (!eqD e1 e2)) M):Op2 K (aAQ K n true) d1 d2 M k:=fun G H v1 v2 Q rl x y q =>
 ⟨e1,e2,r1.disp,r2.disp,h1,h2,r1.den rl x,r2.den rl y,q _ _ _ _ _ (Stp.refl rl) dG h⟩
end
section
variable {X:Cx}{M:Mem}{k:D->Mem->Prop}{K:Fg}
end
end Z
namespace Z
open PySem L2 PySem.Spec PyProof.Rows
def tyN:D->String
 | .non => "NoneType"
 | .bl _ => "bool"
 | .int _ => "int"
 | .str _ => "str"
 | .tup _ => "tuple"
 | .lst _ | .fl _ | .mt _ | .st _ => "list"
def isN (T S:String):Bool:=S == T || (S == "bool" && T == "int")
def isD (T:String) (d:D):Bool:=isN T (tyN d)
def Plain5 (T:String):Prop:=T = "int" \/ T = "bool" \/ T = "str" \/ T = "tuple" \/ T = "list"
theorem aP5 {K:Fg}{T S:String} (h:Plain5 T) (h2:S = "NoneType" \/ Plain5 S):PySem.W.kitOne K (.type S) (.type T)=some (isN T S):=by
 rcases h with rfl | rfl | rfl | rfl | rfl <;> rcases h2 with rfl | rfl | rfl | rfl | rfl | rfl <;> first
  | exact aOG (by decide +kernel) (by decide +kernel) (by decide +kernel)
  | (rw [aIN (by decide +kernel)]; decide +kernel)
theorem aOI (d:D):tyN d = "NoneType" \/ Plain5 (tyN d):=by
 cases d with
 | non=>exact .inl rfl
 | bl b=>exact .inr (.inr (.inl rfl))
 | int b=>exact .inr (.inl rfl)
 | str b=>exact .inr (.inr (.inr (.inl rfl)))
 | tup b=>exact .inr (.inr (.inr (.inr (.inl rfl))))
 | lst b=>exact .inr (.inr (.inr (.inr (.inr rfl))))
 | fl b=>exact .inr (.inr (.inr (.inr (.inr rfl))))
 | mt b=>exact .inr (.inr (.inr (.inr (.inr rfl))))
 | st b=>exact .inr (.inr (.inr (.inr (.inr rfl))))
theorem aQC {K:Fg}{T:String} (h:Plain5 T) (d:D):PySem.W.kitOne K (.type (tyN d)) (.type T)=some (isD T d):=aP5 h (aOI d)
def Slv:D->Prop
 | .mt _ | .st _=>False
 | _=>True
theorem aFS {X:Cx}{T:String} (hT:Plain5 T):iE X (.builtin "isinstance") (fun xs H Q=>∃ x d,xs=[x, .ty T]/\Slv d/\Den X.K H d x/\Q (.bl (isD T d)) H):=by
 intro pins s σ H xs us Q I r h
 obtain ⟨x,d,rfl,nm,dx,q⟩:=h
 obtain ⟨u,w',rfl,rx,r2⟩:=vals2 r
 cases (show w'=Value.type T from r2)
 have e:=aQC (K:=X.K) hT d
 have fin:∀ tk,∃ v H',Inv X pins σ H' { s with toks:=tk }/\RelV v (Value.bool (isD T d))/\Q v H':=fun tk=>⟨.bl (isD T d),H,I.tok tk,rfl,q⟩
 cases d with
 | non=>rw [dx.non_] at rx; cases (show u=Value.none from rx); exact PySem.W.kia_one PySem.W.kitx_none I.kIn True.intro e (fun z=>nomatch z) fin
 | bl y=>rw [dx.bl_] at rx; cases (show u=Value.bool y from rx); exact PySem.W.kia_one PySem.W.kitx_bool I.kIn True.intro e (fun z=>nomatch z) fin
 | int i=>rw [dx.int_] at rx; obtain ⟨t,q2⟩:=(show ∃ t,u=Value.int i t from rx); cases q2; exact PySem.W.kia_one PySem.W.kitx_int I.kIn True.intro e (fun z=>nomatch z) fin
 | str y=>rw [dx.str_] at rx; obtain ⟨t,q2⟩:=(show ∃ t,u=Value.str y t from rx); cases q2; exact PySem.W.kia_one PySem.W.kitx_str I.kIn True.intro e (fun z=>nomatch z) fin
 | mt a=>exact nm.elim
 | st a=>exact nm.elim
 | tup ds =>
  obtain ⟨a,its,vs,rfl,⟨o,h1,h2,_⟩,_⟩:=dW I dx rx
  exact PySem.W.kia_one PySem.W.kitx_tuple I.kIn ⟨o,h1,h2⟩ e (fun z=>nomatch z) fin
 | lst ds =>
  obtain ⟨a,its,vs,rfl,⟨o,h1,h2,_⟩,_⟩:=dZ I dx rx
  exact PySem.W.kia_one PySem.W.kitx_list I.kIn ⟨o,h1,h2⟩ e (fun z=>nomatch z) fin
 | fl ds =>
  obtain ⟨a,vs,rfl,sq,dn⟩:=dx.fl_
  cases (show u=Value.ref a from rx)
  obtain ⟨its,rv,pt,_⟩:=I.list sq
  obtain ⟨o,h1,h2,_⟩:=pt.isList
  exact PySem.W.kia_one PySem.W.kitx_list I.kIn ⟨o,h1,h2⟩ e (fun z=>nomatch z) fin
inductive Rz (M:Mem):D->D->Prop
 | self {d:D} (h:Slv d):Rz M d d
 | mt {a:Addr}{ds:List D} (h:M a=some (.lst ds)):Rz M (.mt a) (.lst ds)
section
variable {X:Cx}{Γ:Gm}{M:Mem}{k:D->Mem->Prop}{pos p1 p2:Pos}{e:Expr}
theorem mL {C:Str}{T:String} (hT:Plain5 T) (hm:X.mg "isinstance" = none) (hmT:X.mg C=none) (hvT:bootBuiltins C=some (.type T)) (h:GE X e Γ M fun d M1=>∃ d',Rz M1 d d'/\k (.bl (isD T d')) M1) (hg:Gl X "isinstance" := by rfl) (hgT:Gl X C:=by rfl)
  (hn:C ≠ "__name__" := by decide) (hdb:(C == ("__debug__" : Str))=false:=by decide)
  (he:starEach [e, .Name C p2] X.env=(false,eval e X.env)::starEach [.Name C p2] X.env:=by rfl) (hpl:(backTo pos (starEach [.Name C p2] X.env)).any (·.1)=false:=by rfl):GE X (.Call (.Name "isinstance" p1) [e, .Name C p2] [] pos) Γ M k:=fun σ G H Q en rl q=>by
 refine cK (aAU (aFS hT) hg hm PyProof.Rows.boot_isinstance (wI (hs:=he) pU (wI (aMO (v := .ty T) hgT hmT hvT rfl hn hdb) aHD)) (by decide) (by decide) he hpl) ?_
 refine h σ G H _ en rl fun v G1 H1 d M1 s1 e1 ⟨d',rz,h1⟩ => ?_
 refine ⟨v,d',rfl,?_,?_,q _ _ _ _ _ s1 dG h1⟩
 ·cases rz with
  | self h=>exact h
  | mt h=>exact True.intro
 ·cases rz with
  | self h=>exact e1.up s1.rel.same
  | mt hm =>
   obtain ⟨_,vs,e2,dn⟩:=s1.rel.mem _ _ hm
   rw [e1.mt_]; exact jC e2 (dn.up s1.rel.same)
end
end Z
namespace HD
open PySem PySem.Spec PyProof.Rows
section
variable {prog:Program}{w:World}{A:Around}{E:Value->Shared->Prop}{s:Shared}{d it:Addr}{o:Obj}{es:Array DictEntry}{ep:Nat}
end
end HD
namespace HD
open PySem PySem.Spec PyProof.Rows
section
variable {prog:Program}{w:World}{K:Type} [DecidableEq K] {knd:HeapKind prog w K}{A:Around}{E:Value->Shared->Prop}{s:Shared}{d a:Addr}{xs:List (K × Addr × Value)}{k:K}{v:Value}
end
end HD
namespace HD
open PySem PySem.Spec PyProof.Rows
section
variable {prog:Program}{w:World}{K:Type} [DecidableEq K] {knd:HeapKind prog w K}{A:Around}{E:Value->Shared->Prop}{s:Shared}{d o:Addr}{xs ys:List (K × Addr × Value)}
end
end HD
namespace Z
open PySem PySem.Spec PyProof.Rows L2
end Z
namespace Z
open PySem PySem.Spec PyProof.Rows L2
section
variable {X:Cx}{pins:List (Addr × Obj)}{σ:L2.St}{H:Hp}{s:Shared}{a b:Addr}{k:List Int}{ks:List (List Int)}{xs:List (List Int × Addr)}{ep:Nat}
theorem items_int {P:Program}{w:World}:∀ {ks:List Int}{us:List Value},Vals (ks.map V.int) us->ItemsAre (intKind P w) ks us
 | [],_,r=>by rw [List.map_nil] at r; cases r; exact .nil
 | k::ks,_,r=>by
  rw [List.map_cons] at r
  cases r with
  | @cons x y l m h t =>
   obtain ⟨tk,rfl⟩:=(show ∃ t,y=Value.int k t from h)
   exact .cons (by show Value.isInt k (Value.int k tk)=true; simp [Value.isInt]) (items_int t)
end
end Z
namespace Z
open PySem L2
inductive Stt (M:Mem):D->List (List Int)->Prop
 | st (ks:List (List Int)):Stt M (.st ks) ks
 | mt {a:Addr}{ks:List (List Int)} (h:M a=some (.st ks)):Stt M (.mt a) ks
section
variable {K:Fg}{G H:Hp}{M:Mem}{k:D->Mem->Prop}
end
section
variable {X:Cx}{Γ:Gm}{M:Mem}{k:D->Mem->Prop}{kg:Gm->Mem->Prop}{F:Fin}{pos:Pos}{a b c e o tg iter:Expr}{ss:List Stmt}
end
end Z
namespace Z
open PySem L2
section
variable {X:Cx}{Γ:Gm}{M:Mem}{tg iter:Expr}{ki:List D->Mem->Prop}
end
end Z
namespace R
structure Gth (cells:List Cell) (st:List (Int × Int)) (s:Cell) (ks ws:List Cell) (busy:Option (Int × Int × List (Int × Int))):Prop where
 s0:s∈ks
 all:∀ c∈ks,Rch cells st s c
 sub:∀ c∈ks,c∈cells
 nd:ks.Nodup
 ww:∀ c∈ws,c∈ks
 cl:∀ x y,[x,y]∈ks->[x,y]∈ws\/(∃ dn,busy=some (x,y,dn))\/∀ d∈st,[x+d.1,y+d.2]∈cells->[x+d.1,y+d.2]∈ks
 bz:∀ x y dn,busy=some (x,y,dn)->[x,y]∈ks/\∀ d∈dn,[x+d.1,y+d.2]∈cells->[x+d.1,y+d.2]∈ks
section
variable {cells:List Cell}{st:List (Int × Int)}{s:Cell}{ks ws:List Cell}{x y:Int}{dn:List (Int × Int)}{d:Int × Int}
end
end R
namespace Q
open PySem L2 Z
end Q
namespace R
open PySem L2
def edge (zs:List Str) (f p b:Nat):Bool :=
 let on:=if f % 2=0 then aT zs (p:Int) (b:Int) else aT zs (b:Int) (p:Int)
 let off:=if f % 2=0 then aT zs ((p:Int) - 1) (b:Int) else aT zs (b:Int) ((p:Int) - 1)
 if f < 2 then on && !off else off && !on
abbrev RS:=List (Nat × Nat) × Option Nat
def rstep (q:RS) (i:Nat) (t:Bool):RS:=match t,q.2 with
 | true,none=>(q.1,some i)
 | true,some b=>(q.1,some b)
 | false,none=>(q.1,none)
 | false,some b=>(q.1++[(b,i)],none)
def rto (bs:List Bool):Nat->RS
 | 0=>([],none)
 | n+1=>rstep (rto bs n) n (bs.getD n false)
def runs (bs:List Bool):List (Nat × Nat):=(rto (bs++[false]) (bs.length+1)).1
structure RInv (bs:List Bool) (n:Nat) (q:RS):Prop where
 bd:∀ p∈q.1,p.1 < p.2/\p.2 < n
 bg:∀ b,q.2=some b->b < n
 len:q.1.length<=n
 any:(q.1≠[]\/q.2≠none)↔∃ i,i < n/\bs.getD i false=true
theorem any_succ {bs:List Bool}{n:Nat}:(∃ i,i < n+1/\bs.getD i false=true)↔((∃ i,i < n/\bs.getD i false=true)\/bs.getD n false=true):=by
 constructor
 ·rintro ⟨i,hi,e⟩
  by_cases h:i=n
  ·subst h; exact .inr e
  ·exact .inl ⟨i,by omega,e⟩
 ·rintro (⟨i,hi,e⟩ | e)
  ·exact ⟨i,by omega,e⟩
  ·exact ⟨n,by omega,e⟩
theorem sQ (bs:List Bool):∀ n,RInv bs n (rto bs n)
 | 0=>⟨fun p h=>(nomatch h),fun b h=>(nomatch h),Nat.le_refl _,by simp [rto]⟩
 | n+1=>by
  have I:=sQ bs n
  show RInv bs (n+1) (rstep (rto bs n) n (bs.getD n false))
  generalize hq:rto bs n=q at I
  obtain ⟨tl,bg⟩:=q
  have ia:=I.any
  cases ht:bs.getD n false with
  | true =>
   cases bg with
   | none=>exact ⟨fun p h=>by have:=I.bd p h; omega,fun b h=>by cases h; omega,by have:=I.len; simp only [rstep] at *; omega,by rw [any_succ,ht]; simp [rstep]⟩
   | some b=>exact ⟨fun p h=>by have:=I.bd p h; omega,fun c h=>by cases h; have:=I.bg b rfl; omega,by have:=I.len; simp only [rstep] at *; omega,by rw [any_succ,ht]; simp [rstep]⟩
  | false =>
   cases bg with
   | none=>exact ⟨fun p h=>by have:=I.bd p h; omega,fun b h=>(nomatch h),by have:=I.len; simp only [rstep] at *; omega,by rw [any_succ,ht,<- ia]; simp [rstep]⟩
   | some b =>
    have hb:=I.bg b rfl
    refine ⟨fun p h => ?_,fun c h=>(nomatch h),by have:=I.len; simp only [rstep,List.length_append,List.length_cons,List.length_nil] at *; omega,by rw [any_succ,ht,<- ia]; simp [rstep]⟩
    rcases List.mem_append.mp h with h | h
    ·have:=I.bd p h; omega
    ·rw [List.mem_singleton] at h; subst h; exact ⟨hb,Nat.lt_succ_self _⟩
theorem aIM (bs:List Bool) (n:Nat) (h:bs.getD n false=false):(rto bs (n+1)).2=none:=by
 show (rstep (rto bs n) n (bs.getD n false)).2=none
 rw [h]
 generalize rto bs n=q
 obtain ⟨tl,bg⟩:=q
 cases bg <;> rfl
theorem aL6 {bs:List Bool}{p:Nat × Nat} (h:p∈runs bs):p.1 < p.2/\p.2<=bs.length:=by
 have:=(sQ (bs++[false]) (bs.length+1)).bd p h
 omega
theorem aAE (bs:List Bool):(runs bs).length<=bs.length+1:=(sQ (bs++[false]) (bs.length+1)).len
theorem getD_snoc (bs:List Bool) (i:Nat):(bs++[false]).getD i false=bs.getD i false:=by
 rw [zGd,zGd]
 by_cases h:i < bs.length
 ·rw [List.getElem?_append_left h]
 ·rw [List.getElem?_append_right (by omega),List.getElem?_eq_none (l:=bs) (by omega)]
  by_cases h2:i - bs.length=0
  ·rw [h2]; rfl
  ·rw [List.getElem?_eq_none (by simp; omega)]
def dY (zs:List Str) (f p n:Nat):List Bool:=(List.range n).map (edge zs f p)
end R
namespace Q
open PySem L2 Z
def aQP:Ct:=fun ds M k=>∃ (x y:D) (zs:List Str) (f p b:Nat),ds=[.tup [x,y, .tup (zs.map .str)], .int (f:Int), .int (p:Int), .int (b:Int)]/\(∀ z∈zs,z.length<=1000)/\k (.bl (R.edge zs f p b)) M
def prD (p:Nat × Nat):D := .tup [.int (p.1:Int), .int (p.2:Int)]
def bgD:Option Nat->D
 | some b => .int (b:Int)
 | none => .non
def aP9:Ct:=fun ds M k=>∃ bs:List Bool,ds=[.lst (bs.map .bl)]/\bs.length<=1000/\k (.lst ((R.runs bs).map prD)) M
def b6 (f:Nat) (xs ys:List D):List D:=if f % 2=0 then ys else xs
def dA (f:Nat) (xs ys:List D):List D:=if f % 2=0 then xs else ys
def aHN:Ct:=fun ds M k=>∃ (xs ys:List D) (zs:List Str) (f p:Nat),ds=[o7 xs ys zs, .int (f:Int), .int (p:Int)]/\(∀ z∈zs,z.length<=1000)/\xs.length<=100/\ys.length<=100/\k (.lst ((R.runs (R.dY zs f p ((b6 f xs ys).length - 1))).map prD)) M
def mkS (f:Nat) (l:D) (al:List D) (r:Nat × Nat):D := .tup [.int (f:Int),l,al.getD r.1 .non,al.getD r.2 .non]
def lW (zs:List Str) (f:Nat) (al:List D) (p:Nat) (l:D):List D:=(R.runs (R.dY zs f p (al.length - 1))).map (mkS f l al)
def gB (zs:List Str) (f:Nat) (ls al:List D) (n:Nat):List D:=(List.range n).flatMap fun i=>(ls[i]?.map (lW zs f al i)).getD []
def gH (zs:List Str) (xs ys:List D) (n:Nat):List D:=(List.range n).flatMap fun f=>gB zs f (dA f xs ys) (b6 f xs ys) (dA f xs ys).length
def aO4:Ct:=fun ds M k=>∃ (xs ys:List D) (zs:List Str),ds=[o7 xs ys zs]/\(∀ z∈zs,z.length<=1000)/\xs.length<=100/\ys.length<=100/\∀ a,M a=none->k (.mt a) (b7 M a (.lst (gH zs xs ys 4)))
theorem aBA {zs:List Str}{f:Nat}{ls al:List D}{i:Nat}{l:D} (h:ls[i]?=some l):gB zs f ls al (i+1)=gB zs f ls al i++lW zs f al i l:=by
 unfold gB
 rw [List.range_succ,List.flatMap_append]
 congr 1
 simp [h]
theorem tQ {zs:List Str}{xs ys:List D} (n:Nat):gH zs xs ys (n+1)=gH zs xs ys n++gB zs n (dA n xs ys) (b6 n xs ys) (dA n xs ys).length:=by
 unfold gH
 rw [List.range_succ,List.flatMap_append]
 congr 1
 simp
theorem n5 (zs:List Str) (f p n:Nat):(R.dY zs f p n).length=n:=by simp [R.dY]
theorem aA7 {zs:List Str}{f:Nat}{al:List D}{p:Nat}{l:D}:(lW zs f al p l).length<=al.length - 1+1:=by
 unfold lW
 rw [zLm]
 exact Nat.le_trans (R.aAE _) (by rw [n5]; exact Nat.le_refl _)
theorem pZ {zs:List Str}{f:Nat}{ls al:List D} (ha:al.length<=100):∀ n,(gB zs f ls al n).length<=n * 101
 | 0=>by simp [gB]
 | n+1=>by
  have ih:=pZ (zs:=zs) (f:=f) (ls:=ls) ha n
  unfold gB at ih ⊢
  rw [List.range_succ,List.flatMap_append,List.length_append,Nat.succ_mul]
  refine Nat.add_le_add ih ?_
  simp only [List.flatMap_cons,List.flatMap_nil,List.append_nil]
  cases ls[n]? with
  | none=>simp
  | some x=>exact Nat.le_trans aA7 (by omega)
theorem qH {f:Nat}{xs ys:List D} (hx:xs.length<=100) (hy:ys.length<=100):(b6 f xs ys).length<=100:=by unfold b6; split <;> assumption
theorem xK {f:Nat}{xs ys:List D} (hx:xs.length<=100) (hy:ys.length<=100):(dA f xs ys).length<=100:=by unfold dA; split <;> assumption
theorem pF {zs:List Str}{xs ys:List D} (hx:xs.length<=100) (hy:ys.length<=100):∀ n,(gH zs xs ys n).length<=n * 10100
 | 0=>by simp [gH]
 | n+1=>by
  have ih:=pF (zs:=zs) hx hy n
  rw [tQ,List.length_append,Nat.succ_mul]
  refine Nat.add_le_add ih (Nat.le_trans (pZ (qH hx hy) _) ?_)
  have:=xK (f:=n) hx hy
  omega
theorem aAW {xs ys:List D}{zs:List Str} (f:Nat):atI [D.tup xs, .tup ys, .tup (zs.map .str)] (1 - (f:Int) % 2)=some (.tup (b6 f xs ys)):=by
 rcases Nat.mod_two_eq_zero_or_one f with h | h
 ·have:(f:Int) % 2=0:=by omega
  rw [this]; unfold b6; rw [if_pos h]; rfl
 ·have:(f:Int) % 2=1:=by omega
  rw [this]; unfold b6; rw [if_neg (by omega)]; rfl
theorem aH3 {xs ys:List D}{zs:List Str} (f:Nat):atI [D.tup xs, .tup ys, .tup (zs.map .str)] ((f:Int) % 2)=some (.tup (dA f xs ys)):=by
 rcases Nat.mod_two_eq_zero_or_one f with h | h
 ·have:(f:Int) % 2=0:=by omega
  rw [this]; unfold dA; rw [if_pos h]; rfl
 ·have:(f:Int) % 2=1:=by omega
  rw [this]; unfold dA; rw [if_neg (by omega)]; rfl
theorem aJV (bs:List Bool):bs.map D.bl++[D.bl false]=(bs++[false]).map D.bl:=by simp
theorem aLA {bs:List Bool}{i:Nat}{t:Bool} (h:bs[i]?=some t):bs.getD i false=t:=by rw [zGd,h]; rfl
theorem at_getD {al:List D}{i:Nat} (h:i < al.length):atI al (i:Int)=some (al.getD i .non):=by
 rw [zGd,zGe h]
 exact dC (zGe h)
def qZ:D->D
 | .tup (f::l::_) => .tup [f,l]
 | d=>d
def eZ (acc:List D) (s:D):List D:=match acc.getLast? with
 | none=>acc++[qZ s]
 | some e=>if eqD e (qZ s)=true then acc else acc++[qZ s]
def oC (ss:List D):List D:=ss.foldl eZ []
def wY (d:D):Prop:=∃ f l,d = .tup [f,l]/\okD 2 (.tup [f,l])=true
def aAZ (d:D):Prop:=∃ f l b e,d = .tup [f,l,b,e]/\okD 2 (.tup [f,l])=true
def aGB:Ct:=fun ds M k=>∃ ss:List D,ds=[.lst ss]/\(∀ s∈ss,aAZ s)/\ss.length<=60000/\∀ a,M a=none->k (.mt a) (b7 M a (.lst (oC ss)))
theorem aDA (acc:List D) (s:D):(eZ acc s).length<=acc.length+1:=by
 unfold eZ
 split
 ·simp
 ·split <;> simp
theorem zF:∀ (ss:List D) (acc:List D),(ss.foldl eZ acc).length<=acc.length+ss.length
 | [],acc=>Nat.le_refl _
 | s::ss,acc=>by
  have:=zF ss (eZ acc s)
  have h2:=aDA acc s
  rw [List.foldl_cons,List.length_cons]
  omega
theorem aF9 {acc:List D}{s:D} (ha:∀ d∈acc,wY d) (hs:aAZ s):∀ d∈eZ acc s,wY d:=by
 obtain ⟨f,l,b,e,rfl,ok⟩:=hs
 have hn:∀ d∈acc++[qZ (.tup [f,l,b,e])],wY d:=fun d hd=>by
  rcases List.mem_append.mp hd with h | h
  ·exact ha d h
  ·rw [List.mem_singleton] at h; subst h; exact ⟨f,l,rfl,ok⟩
 unfold eZ
 split
 ·exact hn
 ·split
  ·exact ha
  ·exact hn
theorem aCM:∀ {ss:List D}{acc:List D},(∀ d∈acc,wY d)->(∀ s∈ss,aAZ s)->∀ d∈ss.foldl eZ acc,wY d
 | [],acc,ha,_=>ha
 | s::ss,acc,ha,hs=>aCM (ss:=ss) (aF9 ha (hs s (by simp))) fun t ht=>hs t (by simp [ht])
theorem aH4 {ss:List D}{i:Nat}{s:D} (h:ss[i]?=some s):oC (ss.take (i+1))=eZ (oC (ss.take i)) s:=by
 unfold oC
 rw [List.take_add_one,h,List.foldl_append]; rfl
theorem yC (acc:List D) (e s:D):eZ (acc++[e]) s=if eqD e (qZ s)=true then acc++[e] else acc++[e]++[qZ s]:=by
 unfold eZ
 rw [List.getLast?_concat]
end Q
namespace R
open PySem L2
end R
namespace Q
open PySem L2 Z
def pc (k:Nat) (z:Str):Str:=cutS (R.ofL (46::z.cps.toList++[46])) (some (0+(k:Int))) (some (0+(k:Int)+2))
theorem rS (z:Str) (zr:List Str):atI ((z::zr).map D.str) 0=some (.str z):=dC (j:=0) rfl
theorem aC5 (z:Str) (js:List Nat):PySem.Txt.join Str.empty (js.map fun j=>(⟨#[R.atS z j]⟩:Str))=R.ofL (js.map (R.atS z)):=by
 have:=R.wL (js.map (R.atS z))
 rw [List.map_map] at this
 exact this
def aMD:Ct:=fun ds M k=>∃ (z:Str) (js:List Nat),ds=[.str z, .lst (eM js)]/\z.length<=1000/\js.length<=1000/\(∀ j∈js,j < z.length)/\k (.str (R.ofL (js.map (R.atS z)))) M
def rY (xs ys:List D) (zs:List Str):D:=o7 (yE xs (R.chg (R.aO zs))) (yE ys (R.chg zs)) (R.cJ zs)
structure Grp (cells:List R.Cell) (st:List (Int × Int)) (n:Nat) (gs:List (List R.Cell)):Prop where
 len:gs.length=(R.starts cells st n).length
 at_:∀ (j:Nat) s,(R.starts cells st n)[j]?=some s->∃ ks,gs[j]?=some ks/\∀ c,c∈ks↔R.Rch cells st s c
noncomputable def aQH (cells:List R.Cell) (st:List (Int × Int)) (s:R.Cell) (w h:Nat):List Str:=R.rowsOf (fun a u => @decide (R.Rch cells st s [a,u]) (Classical.propDecidable _)) w h
noncomputable def aB7 (xs ys:List D) (cells:List R.Cell) (st:List (Int × Int)) (ss:List R.Cell):List D:=ss.map fun s=>rY xs ys (aQH cells st s (xs.length - 1) (ys.length - 1))
def straight:List (Int × Int):=[(1,0),(0,1),(-1,0),(0, -1)]
def yM:List (Int × Int):=[(1,0),(1,1),(0,1),(-1,1),(-1,0),(-1, -1),(0, -1),(1, -1)]
noncomputable def pcs (xs ys:List D) (zs:List Str):List D:=aB7 xs ys (R.oO zs true xs.length ys.length) straight (R.starts (R.oO zs true xs.length ys.length) straight (R.oO zs true xs.length ys.length).length)
theorem jQ {X:Cx}{Γ:Gm}{M:Mem}{k:D->Mem->Prop}{pos:Pos}{x:Str}{a:Addr}{d:D} (hm:X.mg x=some (.ref a)) (hd:∀ G,Den X.K G d (.ref a)) (h:k d M) (hg:Gl X x:=by rfl) (hb:(x == ("__debug__" : Str))=false:=by decide):GE X (.Name x pos) Γ M k :=
 fun σ G H Q en rl q=>cK (aCJ (v := .ref a) hg hm rfl hb) (q _ G H d M (Stp.refl rl) (hd G) h)
def al9 (all:Bool) (r u:Int):Bool:=all || r * u == 0
def st9 (all:Bool):List (Int × Int):=[(-1, -1),(-1,0),(-1,1),(0, -1),(0,0),(0,1),(1, -1),(1,0),(1,1)].filter fun d=>al9 all d.1 d.2
def l3:List Int:=[-1,0,1]
theorem aOU {K:Fg}{G:Hp}{a:Addr}{i j:Int}{ti tj n:Nat}{od:Option Addr}{sl:Array (Option Value)} (h:K.lookup a=some ⟨.type "tuple", od, .seq #[.int i ti, .int j tj] n,sl⟩):Den K G (pairD (i,j)) (.ref a) :=
 iH (vs:=[.int i, .int j]) (.inr ⟨_,_,_,h,rfl,rfl,(by show (2:Nat)<=sizeLine; decide), .cons ⟨ti,rfl⟩ (.cons ⟨tj,rfl⟩ .nil)⟩) (cB dJ (cB dJ dB))
noncomputable def hls (xs ys:List D) (zs:List Str):List D:=aB7 xs ys (R.oO zs false xs.length ys.length) yM ((R.starts (R.oO zs false xs.length ys.length) yM (R.oO zs false xs.length ys.length).length).drop 1)
end Q
namespace HT
open PySem PySem.Spec PyProof.Rows
section
variable {prog:Program}{w:World}{A:Around}{E:Value->Shared->Prop}{s:Shared}
end
end HT
namespace L2
open PySem PySem.Spec PyProof.Rows
section
variable {X:Cx}
end
end L2
namespace Z
open PySem L2
theorem pR {α:Type} (l:List α):cutD l (some 1) none=l.drop 1:=by
 unfold cutD
 have e1:HT.sIx l.length 0 (some 1)=min 1 l.length:=HT.aMC l.length 0 1
 have e2:HT.sIx l.length l.length none=l.length:=rfl
 rw [e1,e2]
 by_cases h:1<=l.length
 ·rw [Nat.min_eq_left h,List.take_of_length_le (by rw [List.length_drop]; exact Nat.le_refl _)]
 ·have:l=[]:=List.length_eq_zero_iff.mp (by omega)
  subst this; rfl
end Z
namespace Q
open PySem L2 Z
mutual
def tameB:Nat->D->Bool
 | _, .non | _, .bl _=>true
 | _, .int i=>decide (i.natAbs < 10 ^ 65)
 | _, .str z=>decide (z.length<=1000)
 | n+1, .tup ds=>decide (ds.length<=100) && tamesB n ds
 | n+1, .lst ds=>decide (ds.length<=100) && tamesB n ds
 | _,_=>false
def tamesB:Nat->List D->Bool
 | _,[]=>true
 | n,d::ds=>tameB n d && tamesB n ds
end
mutual
theorem tame_ok:∀ (n:Nat) (d:D),tameB n d=true->okD n d=true
 | _, .non,_=>by simp only [okD]
 | _, .bl _,_=>by simp only [okD]
 | _, .int _,_=>by simp only [okD]
 | _, .str _,_=>by simp only [okD]
 | n+1, .tup ds,h=>by
  simp only [tameB,Bool.and_eq_true] at h
  simp only [okD]; exact tames_ok n ds h.2
 | n+1, .lst ds,h=>by
  simp only [tameB,Bool.and_eq_true] at h
  simp only [okD]; exact tames_ok n ds h.2
 | 0, .tup _,h=>by simp [tameB] at h
 | 0, .lst _,h=>by simp [tameB] at h
 | _, .mt _,h=>by simp [tameB] at h
 | _, .fl _,h=>by simp [tameB] at h
 | _, .st _,h=>by simp [tameB] at h
theorem tames_ok:∀ (n:Nat) (ds:List D),tamesB n ds=true->okDs n ds=true
 | _,[],_=>by simp only [okDs]
 | n,d::ds,h=>by
  simp only [tamesB,Bool.and_eq_true] at h
  simp only [okDs,tame_ok n d h.1,tames_ok n ds h.2,Bool.and_true]
end
theorem aH2 {n:Nat}{d:D} (h:tameB n d=true):Slv d:=by
 cases d <;> first | exact trivial | (exfalso; simp [tameB] at h)
theorem yR {n:Nat}{z:Str} (h:tameB n (.str z)=true):z.length<=1000:=by simpa [tameB] using h
mutual
theorem tame_up:∀ (n:Nat) (d:D),tameB n d=true->tameB (n+1) d=true
 | _, .non,_=>by simp only [tameB]
 | _, .bl _,_=>by simp only [tameB]
 | _, .int _,h=>by simpa only [tameB] using h
 | _, .str _,h=>by simpa only [tameB] using h
 | n+1, .tup ds,h=>by
  simp only [tameB,Bool.and_eq_true] at h ⊢
  exact ⟨h.1,tames_up n ds h.2⟩
 | n+1, .lst ds,h=>by
  simp only [tameB,Bool.and_eq_true] at h ⊢
  exact ⟨h.1,tames_up n ds h.2⟩
 | 0, .tup _,h=>by simp [tameB] at h
 | 0, .lst _,h=>by simp [tameB] at h
 | _, .mt _,h=>by simp [tameB] at h
 | _, .fl _,h=>by simp [tameB] at h
 | _, .st _,h=>by simp [tameB] at h
theorem tames_up:∀ (n:Nat) (ds:List D),tamesB n ds=true->tamesB (n+1) ds=true
 | _,[],_=>by simp only [tamesB]
 | n,d::ds,h=>by
  simp only [tamesB,Bool.and_eq_true] at h ⊢
  exact ⟨tame_up n d h.1,tames_up n ds h.2⟩
end
theorem sS (z:Str):isD "str" (.str z)=true:=rfl
theorem iI (i:Int):isD "int" (.int i)=true:=rfl
theorem bI (i:Int):isD "bool" (.int i)=false:=rfl
theorem aO3 (d:D):(∃ z,d = .str z)\/(isD "str" d=false/\∀ z,d ≠ .str z):=by
 cases d with
 | str ls=>exact .inl ⟨ls,rfl⟩
 | _=>exact .inr ⟨rfl,fun _ h=>nomatch h⟩
def isW:D->Bool
 | .int _=>true
 | _=>false
theorem aOC (d:D):(∃ i,d = .int i)\/(isW d=false/\(isD "int" d=false\/isD "int" d=true/\isD "bool" d=true)):=by
 cases d with
 | int i=>exact .inl ⟨i,rfl⟩
 | bl b=>exact .inr ⟨rfl, .inr ⟨rfl,rfl⟩⟩
 | _=>exact .inr ⟨rfl, .inl rfl⟩
def ltP (p q:Int × Int):Bool:=decide (p.1 * q.2 < q.1 * p.2)
def jR (w:Nat):D->Bool
 | .str z=>decide (z.length=w) && z.cps.toList.all fun c=>c == 35 || c == 46
 | _=>false
theorem aPC {w:Nat}{d:D} (h:∀ z,d ≠ .str z):jR w d=false:=by
 cases d with
 | str z=>exact absurd rfl (h z)
 | _=>rfl
def kT (rs:List D) (nx ny:Nat):Bool:=decide (rs.length=ny - 1) && rs.all (jR (nx - 1))
def Sq2 (t:Bool) (d:D) (ds:List D):Prop:=d=if t=true then .lst ds else .tup ds
def aI4:Ct:=fun ds M k=>∃ d,ds=[d]/\Slv d/\k (.bl (isW d)) M
def aPN:Ct:=fun ds M k=>∃ d n w,ds=[d, .int ((w:Nat):Int)]/\tameB n d=true/\k (.bl (jR w d)) M
def aQV:Ct:=fun ds M k=>∃ t dr dx dy rs xs ys n,ds=[dr,dx,dy]/\Sq2 t dr rs/\Sq2 t dx xs/\Sq2 t dy ys/\(∀ r∈rs,tameB n r=true)/\rs.length<=100/\xs.length<=100/\ys.length<=100/\k (.bl (kT rs xs.length ys.length)) M
def aJM:Ct:=fun ds M k=>∃ (t:Bool) (r:D) (zs:List Str) (n j:Nat),ds=[r, .int (j:Int)]/\Sq2 t r (zs.map .str)/\zs.length<=1000/\n<=1000/\(∀ z∈zs,z.length=n)/\j < n/\k (.str (R.ofL (zs.map (R.atS · j)))) M
def aG8:Ct:=fun ds M k=>∃ (t:Bool) (r:D) (zs:List Str) (n:Nat),ds=[r]/\Sq2 t r (zs.map .str)/\zs.length<=1000/\n<=1000/\(∀ z∈zs,z.length=n)/\k (.lst ((R.aO zs).map .str)) M
def aES:Ct:=fun ds M k=>∃ (t:Bool) (r:D) (zs:List Str) (n:Nat),ds=[r]/\Sq2 t r (zs.map .str)/\zs.length<=1000/\n<=1000/\(∀ z∈zs,z.length=n)/\k (.lst (eM (R.chg zs))) M
def aJE:Ct:=fun ds M k=>∃ (t:Bool) (dx dy dr:D) (xs ys:List D) (zs:List Str) (n:Nat),ds=[dx,dy,dr]/\Sq2 t dx xs/\Sq2 t dy ys/\Sq2 t dr (zs.map .str)/\zs.length<=900/\n<=900/\(∀ z∈zs,z.length=n)/\(∀ j∈R.chg (R.aO zs),j < xs.length)/\(∀ j∈R.chg zs,j < ys.length)/\k (rY xs ys zs) M
theorem maxz0 (n:Nat):(if 0 > (n:Int) - 1 then 0 else (n:Int) - 1)=((n - 1:Nat):Int):=by split <;> omega
theorem aAP {α:Type} (f:α->Bool) (l:List α):(l.map f).all id=l.all f:=by rw [List.all_map]; rfl
theorem aIV {K:Fg}{M:Mem}{k:D->Mem->Prop}{x y:Str} (h:k (.bl (!(Builtin.Str.occurrences y x 0 y.length 1).isEmpty)) M):Op2 K (fun x y H Q=>∃ i j,x = .str i/\y = .str j/\Q (.bl (!(Builtin.Str.occurrences j i 0 j.length 1).isEmpty)) H) (.str x) (.str y) M k:=fun G H v1 v2 Q rl e1 e2 q =>
 ⟨x,y,e1.str_,e2.str_,q _ _ _ _ _ (Stp.refl rl) dG h⟩
theorem tf (b:Bool):b=false\/b=true:=by cases b <;> simp
theorem u8 {b:Bool}{P Q:Prop} (h:b=true) (p:P):if b=true then P else Q:=by rw [if_pos h]; exact p
theorem sD {b:Bool}{P Q:Prop} (h:b=false) (p:Q):if b=true then P else Q:=by rw [if_neg (by rw [h]; exact zBf)]; exact p
theorem sM:R.chg []=[]:=by decide +kernel
theorem iN {zs:List Str}{ny:Nat} (h:zs.length=ny - 1):∀ j∈R.chg zs,j < ny:=fun j hj=>by
 have:=R.fG zs j hj
 cases zs with
 | nil=>rw [sM] at hj; cases hj
 | cons z zr=>rw [List.length_cons] at h this; omega
theorem iM {zs:List Str}{nx:Nat} (h:∀ z∈zs,z.length=nx - 1):∀ j∈R.chg (R.aO zs),j < nx:=fun j hj=>by
 have h1:=(R.uF h).1
 have:=R.fG _ j hj
 cases hc:R.aO zs with
 | nil=>rw [hc,sM] at hj; cases hj
 | cons z zr=>rw [hc] at h1 this; rw [List.length_cons] at h1 this; omega
end Q
namespace Z
open PySem L2 PySem.Spec PyProof.Rows
section
variable {K:Fg}{M:Mem}{k:D->Mem->Prop}{ds es:List D}
end
end Z
namespace Q
open PySem L2 Z
theorem aPB {X:Cx}{e:Expr}{Γ:Gm}{M:Mem}{P kb:Bool->Mem->Prop} (h:GT X e Γ M P) (hk:∀ c M1,P c M1->kb c M1):GT X e Γ M kb:=fun σ G H Q en rl q=>h σ G H Q en rl fun b G' H' M' s hp=>q b G' H' M' s (hk _ _ hp)
theorem wO {α:Type}{l:List α} (h:l≠[]):∃ r x,l=r++[x]:=by
 rcases List.eq_nil_or_concat l with e | ⟨r,x,e⟩
 ·exact absurd e h
 ·exact ⟨r,x,by simpa using e⟩
structure TT (n:Nat) (xs:List D):Prop where
 len:xs.length<=n
 each:∀ x∈xs,tameB 2 x=true
theorem aM5 {n:Nat}{zs:List Str} (hz:∀ z∈zs,z.length<=1000) (hl:zs.length<=n):TT n (zs.map .str):=⟨by rw [zLm]; exact hl,fun x hx=>by
 obtain ⟨z,hz',rfl⟩:=List.mem_map.mp hx
 simp only [tameB,decide_eq_true_eq]
 exact hz z hz'⟩
theorem aE6 {n:Nat}{z:Str} (h:z.length<=1000):tameB n (.str z)=true:=by cases n <;> simpa only [tameB,decide_eq_true_eq] using h
theorem two {n:Nat}{x y:D} (hx:tameB n x=true) (hy:tameB n y=true):∀ d∈[x,y],tameB n d=true:=fun d hd=>by
 simp only [List.mem_cons,List.not_mem_nil,or_false] at hd
 rcases hd with rfl | rfl <;> assumption
end Q
namespace Z
open PySem L2
end Z
namespace Q
open PySem L2 Z
theorem aPH {zs:List Str}{nx ny:Nat} (h:zs.length=ny - 1) (hz:∀ z∈zs,z.length=nx - 1):kT (zs.map .str) nx ny=zs.all fun z=>z.cps.toList.all R.sgn:=by
 unfold kT
 rw [zLm,decide_eq_true h,Bool.true_and,List.all_map]
 rw [Bool.eq_iff_iff,List.all_eq_true,List.all_eq_true]
 constructor
 ·intro a z hz'
  have:=a z hz'
  simp only [Function.comp,jR,Bool.and_eq_true] at this
  exact this.2
 ·intro a z hz'
  simp only [Function.comp,jR,Bool.and_eq_true]
  exact ⟨decide_eq_true (hz z hz'),a z hz'⟩
def sc (c:Nat) (l:List Nat):Int:=(l.map fun n=>if decide (n=c)=true then (1:Int) else 0).sum
end Q
namespace HD
open PySem PySem.Spec PyProof.Rows
section
variable {prog:Program}{w:World}{K:Type} [DecidableEq K] {knd:HeapKind prog w K}{A:Around}{E:Value->Shared->Prop}{s:Shared}{d a:Addr}{xs:List (K × Addr × Value)}{k:K}
end
end HD
namespace HD
open PySem PySem.Spec PyProof.Rows
section
variable {prog:Program}{w:World}{K:Type} [DecidableEq K] {knd:HeapKind prog w K}{A:Around}{E:Value->Shared->Prop}{s:Shared}{o:Addr}{ys:List (K × Addr × Value)}
end
end HD
namespace HD
open PySem PySem.Spec PyProof.Rows
section
variable {prog:Program}{w:World}{A:Around}{E:Value->Shared->Prop}{s:Shared}{d o:Addr}{od oo:Obj}{es eo:Array DictEntry}{ep e2:Nat}
end
end HD
namespace Z
open PySem L2
section
variable {X:Cx}{Γ:Gm}{M:Mem}{k:D->Mem->Prop}{e o:Expr}
end
end Z
namespace Z
open PySem L2
end Z
namespace HD
open PySem PySem.Spec PyProof.Rows
end HD
namespace Z
open PySem L2
end Z
namespace HT
open PySem PyProof.Rows
section
open PySem.SeqAt
open PySem.AutoSeq1 (wpAny_loadPart')
open PySem.MeetsSeq PySem.MeetsSeq2 PySem.MeetsSeq3
end
end HT
namespace Z
open PySem L2
section
variable {X:Cx}{Γ:Gm}{M:Mem}{F:Fin}{tg iter:Expr}{body:List Stmt}{pos:Pos}
end
end Z
namespace Z
open PySem L2
def tk (M:Mem) (b:Addr):Bool:=match M b with
 | some (.lst _)=>true
 | _=>false
def aQ3 (G H:Hp) (M:Mem):Hp:=fun b=>if tk M b=true then H b else G b
def qJ (G1:Hp) (M:Mem):Hp:=fun b=>if tk M b=true then none else G1 b
mutual
def noL:D->Bool
 | .non | .bl _ | .int _ | .str _=>true
 | .tup ds=>noLs ds
 | _=>false
def noLs:List D->Bool
 | []=>true
 | d::ds=>noL d && noLs ds
end
section
variable {K:Fg}{G H G1 H1:Hp}{M M1:Mem}
theorem aDJ {a:Addr}{vs:List V} (hl:∀ b,tk M b=true->∃ ws,G1 b=some (.lst ws)) (h:SqT K G1 a vs):SqT K (qJ G1 M) a vs:=by
 rcases h with h | h
 ·refine .inl ?_
  have ne:¬ tk M a=true:=fun t=>by
   obtain ⟨ws,e⟩:=hl a t
   rcases h with h | ⟨o,h⟩ <;> rw [e] at h <;> cases h
  have e:qJ G1 M a=G1 a:=by unfold qJ; rw [if_neg ne]
  rcases h with h | ⟨o,h⟩
  ·exact .inl (e.trans h)
  ·exact .inr ⟨o,e.trans h⟩
 ·exact .inr h
mutual
theorem den_strip (hl:∀ b,tk M b=true->∃ ws,G1 b=some (.lst ws)):∀ (d:D) {v:V},noL d=true->Den K G1 d v->Den K (qJ G1 M) d v
 | .non,_,_,h=>by simp only [Den] at h ⊢; exact h
 | .bl _,_,_,h=>by simp only [Den] at h ⊢; exact h
 | .int _,_,_,h=>by simp only [Den] at h ⊢; exact h
 | .str _,_,_,h=>by simp only [Den] at h ⊢; exact h
 | .tup ds,_,n,h=>by
  simp only [noL] at n
  simp only [Den] at h ⊢
  obtain ⟨a,vs,e,q,r⟩:=h
  exact ⟨a,vs,e,aDJ hl q,dens_strip hl ds n r⟩
 | .mt _,_,n,_=>by simp [noL] at n
 | .lst _,_,n,_=>by simp [noL] at n
 | .fl _,_,n,_=>by simp [noL] at n
 | .st _,_,n,_=>by simp [noL] at n
theorem dens_strip (hl:∀ b,tk M b=true->∃ ws,G1 b=some (.lst ws)):∀ (ds:List D) {vs:List V},noLs ds=true->Dens K G1 ds vs->Dens K (qJ G1 M) ds vs
 | [],_,_,h=>by simp only [Dens] at h ⊢; exact h
 | d::ds,_,n,h=>by
  simp only [noLs,Bool.and_eq_true] at n
  simp only [Dens] at h ⊢
  obtain ⟨v,r,e,h1,h2⟩:=h
  exact ⟨v,r,e,den_strip hl d n.1 h1,dens_strip hl ds n.2 h2⟩
end
end
def Ln (M:Mem) (d d':D):Prop:=∀ K G H v,Rel K G H M->Den K G d v->Den K (aQ3 G H M) d' v
inductive LnE (M:Mem):Gm->Gm->Prop
 | n:LnE M [] []
 | s {o:Option D}{Γ Γ':Gm} (r:LnE M Γ Γ'):LnE M (o::Γ) (none::Γ')
 | c {d d':D}{Γ Γ':Gm} (h:Ln M d d') (r:LnE M Γ Γ'):LnE M (some d::Γ) (some d'::Γ')
section
variable {X:Cx}{Γ Γ':Gm}{M:Mem}{k:D->Mem->Prop}{kb:Bool->Mem->Prop}{e:Expr}{d0:D}{b0:Bool}
end
end Z
namespace Z
open PySem L2
section
variable {X:Cx}{Γ:Gm}{M:Mem}{k:D->Mem->Prop}{kb:Bool->Mem->Prop}{pos:Pos}{a b c:Expr}
theorem uH {x:Str}{n:Int}{t:Tok} (hm:X.mg x=some (.int n t)) (h:k (.int n) M) (hg:Gl X x:=by rfl) (hb:(x == ("__debug__" : Str))=false:=by decide):GE X (.Name x pos) Γ M k :=
 fun σ G H Q en rl q=>cK (aCJ (v := .int n) hg hm ⟨t,rfl⟩ hb) (q _ G H _ M (Stp.refl rl) dJ h)
theorem aHI {op op':CmpOp}{r r':R2} (ho:OpR X (compareOp op) r) (ho':OpR X (compareOp op') r')
  (h:GE X a Γ M fun d1 M1=>GE X b Γ M1 fun d2 M2=>Op2 X.K r d1 d2 M2 fun e M3=>∃ t,e = .bl t/\if t=true then GE X c Γ M3 fun d3 M4=>Op2 X.K r' d2 d3 M4 k else k (.bl false) M3)
  (hm:lastMarks [op,op'] [b,c]=false:=by with_unfolding_all rfl):GE X (.Compare a [op,op'] [b,c] pos) Γ M k:=fun σ G H Q en rl q=>by
 refine cK (aHU ho ho' pU pU pU hm) ?_
 refine h σ G H _ en rl fun v1 G1 H1 d1 M1 s1 e1 h1 => ?_
 refine h1 σ G1 H1 _ (en.up s1.gg) s1.rel fun v2 G2 H2 d2 M2 s2 e2 h2 => ?_
 refine h2 G2 H2 v1 v2 _ s2.rel (e1.up s2.gg) e2 fun z G3 H3 d3 M3 s3 e3 ⟨t,ed,h3⟩ => ?_
 subst ed
 have s13:=(s1.trans s2).trans s3
 refine ⟨t,e3.bl_,?_⟩
 cases t with
 | true =>
  rw [if_pos rfl] at h3 ⊢
  refine h3 σ G3 H3 _ (en.up s13.gg) s3.rel fun w G4 H4 d4 M4 s4 e4 h4 => ?_
  exact h4 G4 H4 v2 w Q s4.rel (e2.up (s3.trans s4).gg) e4 (q.up (s13.trans s4))
 | false =>
  rw [if_neg zBf] at h3 ⊢
  exact q _ _ _ _ _ s13 dG h3
end
end Z
namespace Q
open PySem L2 Z
def p1 (x:Int):Int × Int:=(x,1)
def iT (xs:List Int):List D:=(xs.map p1).map pairD
structure Up7 (xs:List Int):Prop where
 up:xs.Pairwise (· < ·)
 few:xs.length<=7
 bd:∀ x∈xs, -1000000000<=x/\x<=1000000000
def dv (a b:Int):Int:=if b < 0 then -((Int.gcd a b:Nat):Int) else ((Int.gcd a b:Nat):Int)
def lowP (a b:Int):Int × Int:=(a.fdiv (dv a b),b.fdiv (dv a b))
def aK3:Ct:=fun ds M k=>∃ a b:Int,ds=[.int a, .int b]/\b≠0/\b.natAbs < 10 ^ 1000/\k (pairD (lowP a b)) M
def aG5:Ct:=fun ds M k=>∃ a b:Int,ds=[.int a, .int b]/\b≠0/\b.natAbs < 10 ^ 1000/\k (pairD (lowP a b)) M
def aEH:Ct:=fun ds M k=>∃ x:Int,ds=[.int x] /\ -1000000000<=x/\x<=1000000000/\k (.bl true) M
def aBJ:Ct:=fun ds M k=>∃ xs:List Int,ds=[.lst (xs.map .int)]/\Up7 xs/\k (.bl true) M
def aQW:Ct:=fun ds M k=>∃ (xs ys:List Int) (zs:List Str),ds=[.lst (xs.map .int), .lst (ys.map .int), .lst (zs.map .str)]/\Up7 xs/\Up7 ys/\R.Good (xs.length - 1) zs/\zs.length=ys.length - 1/\k (rY (iT xs) (iT ys) zs) M
theorem low1 (x:Int):lowP x 1=p1 x:=by
 have e:dv x 1=1:=by unfold dv; rw [if_neg (by decide),Int.gcd_one]; rfl
 unfold lowP p1
 rw [e,Int.fdiv_one]
 rfl
theorem lL (ds:List D):isD "list" (.lst ds)=true:=rfl
theorem all_true (n:Nat):(List.replicate n true).all id=true:=by
 rw [List.all_eq_true]; intro b hb; rw [(List.mem_replicate.mp hb).2]; rfl
theorem int_at {xs:List Int}{i:Nat} (h:i < xs.length):atI (xs.map D.int) (i:Int)=some (.int xs[i]):=dC (by rw [List.getElem?_map,zGe h]; rfl)
theorem uM (xs:List Int):(iT xs).length=xs.length:=by unfold iT; rw [zLm,zLm]
theorem aID {n:Nat}{zs:List Str} (h:R.Good n zs):(zs.all fun z=>z.cps.toList.all R.sgn)=true:=List.all_eq_true.mpr fun z hz=>(h z hz).2
theorem TT.tame1 {n:Nat}{zs:List Str} (h:TT n (zs.map .str)):∀ r∈zs.map D.str,tameB 1 r=true:=fun r hr=>by
 obtain ⟨z,hz,rfl⟩:=List.mem_map.mp hr
 exact aE6 (yR (h.each _ hr))
theorem gQ {xs:List Int} (h:xs.Pairwise (· < ·)) {i j:Nat} (hij:i<=j) (hj:j < xs.length):xs.getD i 0<=xs.getD j 0:=by
 rw [zGd,zGd,zGe (show i < xs.length by omega),zGe hj]
 by_cases e:i=j
 ·subst e; exact Int.le_refl _
 ·exact Int.le_of_lt (List.pairwise_iff_getElem.mp h i j (by omega) hj (by omega))
theorem i6 {xs:List Int} (h:xs.Pairwise (· < ·)) {i j:Nat} (hij:i < j) (hj:j < xs.length):xs.getD i 0 < xs.getD j 0:=by
 rw [zGd,zGd,zGe (show i < xs.length by omega),zGe hj]
 exact List.pairwise_iff_getElem.mp h i j (by omega) hj (by omega)
end Q
namespace L2
open PySem PySem.Spec PyProof.Rows
section
variable {X:Cx}
end
end L2
namespace Z
open PySem L2
section
variable {X:Cx}{Γ:Gm}{M:Mem}{k:D->Mem->Prop}{pos:Pos}{a b:Expr}{rest:List Expr}
end
end Z
namespace Q
open PySem L2 Z
structure Bg (p:Int × Int):Prop where
 a:p.1.natAbs < 10 ^ 400
 b:p.2.natAbs < 10 ^ 400
 c:p.2≠0
theorem big400 {i:Int} (h:i.natAbs < 10 ^ 400):i.natAbs < big:=Nat.lt_of_lt_of_le h (by unfold big; decide)
theorem aAD {p q:Int × Int} (hp:Bg p) (hq:Bg q):p.2 * q.2≠0/\(p.2 * q.2).natAbs < 10 ^ 1000:=by
 refine ⟨Int.mul_ne_zero hp.c hq.c,?_⟩
 rw [Int.natAbs_mul]
 refine Nat.lt_of_lt_of_le (Nat.mul_lt_mul'' hp.b hq.b) ?_
 rw [<- Nat.pow_add]
 exact Nat.pow_le_pow_right (by decide) (by decide)
def bN (K:List Str) (bx bu:List Int):List Bool:=bu.flatMap fun u=>bx.map fun a=>R.aT K a u
def c8 (l:List Bool):Str:=if l.all id then "in" else if l.any id then "rim" else "out"
theorem aD7 (K:List Str) (bx bu:List Int) (h1:bx.length<=2) (h2:bu.length<=2):(bN K bx bu).length<=4:=by
 unfold bN
 match bu,h2 with
 | [],_=>simp
 | [a],_=>simp; omega
 | [a,b],_=>simp; omega
def lowG (t b:Int):Int × Int:=(t.fdiv ((Int.gcd t b:Nat):Int),b.fdiv ((Int.gcd t b:Nat):Int))
structure Spot (xs:List Int) (v:Int × Int) (cols:List Int):Prop where
 pos:0 < v.2
 sm:v.1.natAbs < 10 ^ 65/\v.2.natAbs < 10 ^ 65
 at_:(∃ k:Nat,k < xs.length/\v=p1 (xs.getD k 0)/\cols=[(k:Int) - 1,(k:Int)])\/(∃ k:Int,cols=[k]/\∀ i,i < xs.length->(xs.getD i 0 * v.2 < v.1↔(i:Int)<=k)/\xs.getD i 0 * v.2≠v.1)
end Q
namespace PySem
namespace F
end F
section
variable {prog:Program}{w:World}{A:Around}{E:Value->Shared->Prop}{s:Shared}
end
end PySem
namespace PySem
open PyProof.Rows
section
variable {prog:Program}{w:World}{A:Around}{E:Value->Shared->Prop}{s:Shared}{I:Addr}
end
end PySem
namespace PySem
open PyProof.Rows
open Builtin Builtin.Str Builtin.Int
section
variable {prog:Program}{w:World}{A:Around}{E:Value->Shared->Prop}{s:Shared}{I:Addr}
end
end PySem
namespace L2
open PySem PySem.Spec PyProof.Rows
section
variable {X:Cx}
end
end L2
namespace Z
open PySem L2
section
variable {X:Cx}{Γ:Gm}{M:Mem}{k:D->Mem->Prop}{pos:Pos}{a b o tg:Expr}{rest:List Expr}{ki:List D->Mem->Prop}
end
end Z
namespace Q
open PySem L2 Z
theorem aKW {t b:Int} (hb:0 < b):lowP t b=lowG t b:=by
 unfold lowP lowG dv
 rw [if_neg (by omega)]
structure Tidy2 (K:List Str) (a b:Nat):Prop where
 v:(K=[]/\a=0/\b=0)\/(K≠[]/\R.chg K=List.range b/\R.chg (R.aO K)=List.range a/\R.Good (a - 1) K/\K.length+1=b/\2<=a/\2<=b)
theorem Tidy2.good {K:List Str}{a b:Nat} (h:Tidy2 K a b):R.Good (a - 1) K/\K.length=b - 1:=by
 rcases h.v with ⟨rfl,rfl,rfl⟩ | ⟨_,_,_,g,l,_,_⟩
 ·exact ⟨fun z hz=>(nomatch hz),rfl⟩
 ·exact ⟨g,by omega⟩
theorem aDN {n:Nat}{zs:List Str} (g:R.Good n zs):Tidy2 (R.cJ zs) (R.chg (R.aO zs)).length (R.chg zs).length:=by
 by_cases hr:R.aV zs=[]
 ·obtain ⟨e1,e2⟩:=R.xU (fun z hz=>(g z hz).1) hr
  refine ⟨.inl ⟨?_,?_,?_⟩⟩
  ·unfold R.cJ; rw [e1] <;> first | rfl | (rw [e2]; rfl)
  ·first | (rw [e2]; rfl) | (rw [e1]; rfl)
  ·first | (rw [e1]; rfl) | (rw [e2]; rfl)
 ·obtain ⟨t1,t2,t3,t4,t5,t6⟩:=R.aEA g hr
  have hkl:(R.cJ zs).length=(R.chg zs).length - 1:=by unfold R.cJ; rw [zLm,List.length_dropLast]
  exact ⟨.inr ⟨t3,t1,t2,t4,by omega,t5,t6⟩⟩
def bX (w:Nat) (p:Int × Int) (xs ys:List Int):List Int:=match w with | 0=>R.aff p.2 p.1 xs | 1=>R.negr ys | 2=>R.negr xs | _=>R.aff p.1 0 xs
structure By (w:Nat) (p:Int × Int):Prop where
 b0:0 < p.2
 b9:p.2<=9
 a20:p.1.natAbs<=20
 a0:w=3->0 < p.1
end Q
namespace U
open PySem
def inY (ws us:List Rat) (K:List Str) (x y:Rat):Bool:=R.aT K (ix ws x) (ix us y)
theorem nE {n:Nat}{K:List Str} (h:∀ z∈K,z.length=n) {a u:Int} (ha:(n:Int)<=a):R.aT K a u=false:=by
 cases e:R.aT K a u with
 | false=>rfl
 | true =>
  obtain ⟨h1,h2,z,hz,hc⟩:=R.o4.mp e
  have:=h z (zMo hz)
  have h3:a.toNat < z.cps.toList.length:=(zGs hc).1
  rw [Array.length_toList] at h3
  have h4:z.cps.size=z.length:=rfl
  omega
structure Steps (f:Rat->Rat->Bool) (xs ys:List Rat):Prop where
 out:∀ x y,ix xs x = -1\/ix xs x=(xs.length:Int) - 1\/ix ys y = -1\/ix ys y=(ys.length:Int) - 1->f x y=false
 at_:∀ x y (i j:Nat) (hi:i < xs.length) (hj:j < ys.length),ix xs x=i->ix ys y=j->f x y=f xs[i] ys[j]
theorem aET {ws us xs ys:List Rat}{K:List Str} (u:Up ws) (u':Up us) (hK:∀ z∈K,z.length=ws.length - 1) (lK:K.length=us.length - 1) (v:Up xs) (v':Up ys) (hs:∀ w∈ws,w∈xs) (hs':∀ w∈us,w∈ys):Steps (inY ws us K) xs ys where
 out x y h:=by
  unfold inY
  rcases h with h | h | h | h
  ·rw [aHA v hs h]; exact R.cD (by omega)
  ·rw [aBX v hs h]
   cases ws with
   | nil=>exact R.cD (by simp)
   | cons w r=>exact nE hK (by simp)
  ·rw [aHA v' hs' h]; exact R.fC (by omega)
  ·rw [aBX v' hs' h]
   cases us with
   | nil=>exact R.fC (by simp)
   | cons w r=>exact R.fI (by rw [lK]; simp)
 at_ x y i j hi hj e e':=by
  unfold inY
  rw [aB8 u v hs hi e,aB8 u' v' hs' hj e']
theorem Steps.pick {f g:Rat->Rat->Bool}{xs ys:List Rat} (hf:Steps f xs ys) (hg:Steps g xs ys) (p:Bool->Bool->Bool) (h0:p false false=false):Steps (fun x y=>p (f x y) (g x y)) xs ys :=
 ⟨fun x y h=>by rw [hf.out x y h,hg.out x y h]; exact h0,fun x y i j hi hj e e'=>by rw [hf.at_ x y i j hi hj e e',hg.at_ x y i j hi hj e e']⟩
def lI (f:Rat->Rat->Bool) (xs ys:List Rat):List Str:=ys.dropLast.map fun y=>R.ofL (xs.dropLast.map fun x=>R.sg (f x y))
theorem xG (f:Rat->Rat->Bool) (xs ys:List Rat):(lI f xs ys).length=ys.length - 1:=by unfold lI; rw [zLm,List.length_dropLast]
theorem vV (f:Rat->Rat->Bool) (xs ys:List Rat):R.Good (xs.length - 1) (lI f xs ys):=fun z hz=>by
 unfold lI at hz
 obtain ⟨y,_,rfl⟩:=List.mem_map.mp hz
 refine ⟨by rw [R.oZ,zLm,List.length_dropLast],?_⟩
 rw [List.all_eq_true]
 intro c hc
 have hc':c∈xs.dropLast.map fun x=>R.sg (f x y):=hc
 obtain ⟨q,_,rfl⟩:=List.mem_map.mp hc'
 unfold R.sg; split <;> rfl
theorem aHO {f:Rat->Rat->Bool}{xs ys:List Rat}{i j:Nat} (hi:i+1 < xs.length) (hj:j+1 < ys.length):R.aT (lI f xs ys) (i:Int) (j:Int)=f xs[i] ys[j]:=by
 have hj':j < ys.dropLast.length:=by rw [List.length_dropLast]; omega
 have hi':i < xs.dropLast.length:=by rw [List.length_dropLast]; omega
 have e1:(lI f xs ys)[((j:Int)).toNat]?=some (R.ofL (xs.dropLast.map fun x=>R.sg (f x ys[j]))):=by
  rw [Int.toNat_natCast]; unfold lI
  rw [List.getElem?_map,zGe hj',List.getElem_dropLast]; rfl
 have e2:(R.ofL (xs.dropLast.map fun x=>R.sg (f x ys[j]))).cps.toList[((i:Int)).toNat]?=some (R.sg (f xs[i] ys[j])):=by
  rw [Int.toNat_natCast]
  show (xs.dropLast.map fun x=>R.sg (f x ys[j]))[i]?=_
  rw [List.getElem?_map,zGe hi',List.getElem_dropLast]; rfl
 rw [R.iC (by omega) (by omega) e1 e2]
 unfold R.sg
 cases f xs[i] ys[j] <;> rfl
theorem aNC {f:Rat->Rat->Bool}{xs ys:List Rat} (h:Steps f xs ys) (x y:Rat):R.aT (lI f xs ys) (ix xs x) (ix ys y)=f x y:=by
 have a1:=pC xs x
 have a2:=o8 xs x
 have b1:=pC ys y
 have b2:=o8 ys y
 by_cases ha:ix xs x = -1
 ·rw [h.out x y (.inl ha),ha]; exact R.cD (by omega)
 by_cases ha':ix xs x=(xs.length:Int) - 1
 ·rw [h.out x y (.inr (.inl ha')),ha']
  exact nE (fun z hz=>(vV f xs ys z hz).1) (by omega)
 by_cases hb:ix ys y = -1
 ·rw [h.out x y (.inr (.inr (.inl hb))),hb]; exact R.fC (by omega)
 by_cases hb':ix ys y=(ys.length:Int) - 1
 ·rw [h.out x y (.inr (.inr (.inr hb'))),hb']
  exact R.fI (by rw [xG]; omega)
 obtain ⟨i,hi⟩:∃ i:Nat,ix xs x=i:=⟨(ix xs x).toNat,by omega⟩
 obtain ⟨j,hj⟩:∃ j:Nat,ix ys y=j:=⟨(ix ys y).toNat,by omega⟩
 rw [h.at_ x y i j (by omega) (by omega) hi hj,hi,hj]
 exact aHO (by omega) (by omega)
theorem aLI {xs ys:List Rat}{zs:List Str} (u:Up xs) (v:Up ys) (g:R.Good (xs.length - 1) zs) (hz:zs.length=ys.length - 1) (x y:Rat) :
  inY (iY xs (R.chg (R.aO zs))) (iY ys (R.chg zs)) (R.cJ zs) x y=R.aT zs (ix xs x) (ix ys y):=by
 unfold inY
 rw [aCK u (Q.iM fun z hz=>(g z hz).1),aCK v (Q.iN hz),R.aM7 g]
theorem aAI {n:Nat}{K:List Str} (g:R.Good n K) {j:Nat}{z:Str} (hz:K[j]?=some z):z=R.ofL ((List.range n).map fun (c:Nat)=>R.sg (R.aT K (c:Int) (j:Int))):=by
 obtain ⟨hl,hs⟩:=g z (zMo hz)
 have e:z.cps.toList=(List.range n).map fun (c:Nat)=>R.sg (R.aT K (c:Int) (j:Int)):=by
  refine List.ext_getElem? fun c => ?_
  rw [List.getElem?_map]
  by_cases hc:c < n
  ·rw [List.getElem?_range hc,R.fW (by omega)]
   have h2:=R.rJ g (zMo hz) hc
   rw [Option.map_some,R.iC (z:=z) (c:=R.atS z c) (by omega) (by omega) (by rw [Int.toNat_natCast]; exact hz) (by rw [Int.toNat_natCast]; exact R.fW (by omega))]
   unfold R.sg
   rcases h2 with h2 | h2 <;> rw [h2] <;> rfl
  ·rw [List.getElem?_eq_none (by rw [Array.length_toList]; have:z.cps.size=z.length:=rfl; omega),List.getElem?_eq_none (by simpa using hc)]; rfl
 unfold R.ofL
 rw [<- e]
theorem aK1 {n:Nat}{K K':List Str} (g:R.Good n K) (g':R.Good n K') (hl:K.length=K'.length) (h:∀ a u:Nat,a < n->u < K.length->R.aT K (a:Int) (u:Int)=R.aT K' (a:Int) (u:Int)):K=K':=by
 refine List.ext_getElem? fun j => ?_
 by_cases hj:j < K.length
 ·have e1:K[j]?=some K[j]:=zGe hj
  have e2:K'[j]?=some (K'[j]'(by omega)):=zGe (by omega)
  rw [e1,e2,aAI g e1,aAI g' e2]
  congr 2
  refine List.map_congr_left fun c hc => ?_
  rw [h c j (List.mem_range.mp hc) hj]
 ·rw [List.getElem?_eq_none (by omega),List.getElem?_eq_none (by omega)]
theorem frow {n:Nat}{K:List Str} (g:R.Good n K) (hK:K≠[]) {j:Nat} (hj:j<=K.length+1):(R.framed K)[j]?=some (R.ofL ((List.range n).map fun (c:Nat)=>R.sg (R.aT K (c:Int) ((j:Int) - 1)))):=by
 have hw:=R.cW (fun z hz=>(g z hz).1) hK
 have hd:∀ u:Int,(∀ c:Nat,R.aT K (c:Int) u=false)->R.dots n=R.ofL ((List.range n).map fun (c:Nat)=>R.sg (R.aT K (c:Int) u)):=fun u hu=>by
  unfold R.dots
  congr 1
  refine (List.eq_replicate_iff.mpr ⟨by simp,fun b hb => ?_⟩).symm
  obtain ⟨c,_,rfl⟩:=List.mem_map.mp hb
  rw [hu c]; rfl
 rcases Nat.eq_zero_or_pos j with rfl | hp
 ·rw [R.f6,hw,<- hd _ fun c=>R.fC (by omega)]
 ·obtain ⟨k,rfl⟩:∃ k,j=k+1:=⟨j - 1,by omega⟩
  rw [show (((k+1:Nat):Int) - 1)=(k:Int) by omega]
  by_cases hk:k < K.length
  ·rw [R.cV hk,zGe hk,<- aAI g (zGe hk)]
  ·have e:k=K.length:=by omega
   rw [e,R.d9,hw,<- hd _ fun c=>R.fI (by omega)]
theorem fcol {n:Nat}{K:List Str} (g:R.Good n K) (hK:K≠[]) (hn:0 < n) {i:Nat} (hi:i<=n+1):(R.framed (R.aO K))[i]?=some (R.ofL ((List.range K.length).map fun (r:Nat)=>R.sg (R.aT K ((i:Int) - 1) (r:Int)))):=by
 rw [R.iW (fun z hz=>(g z hz).1) hK hn hi]
 congr 2
 refine List.ext_getElem? fun r => ?_
 rw [List.getElem?_map,List.getElem?_map]
 by_cases hr:r < K.length
 ·rw [zGe hr,List.getElem?_range hr,Option.map_some,Option.map_some]
  congr 1
  have e1:K[r]?=some K[r]:=zGe hr
  have hl:=(g _ (List.getElem_mem hr)).1
  unfold R.uZ
  split
  ·rename_i h
   rcases h with rfl | rfl
   ·rw [R.cD (by omega)]; rfl
   ·rw [nE (fun z hz=>(g z hz).1) (by omega)]; rfl
  ·rename_i h
   have hi':i - 1 < n:=by omega
   have h2:=R.rJ g (List.getElem_mem hr) hi'
   rw [show ((i:Int) - 1)=((i - 1:Nat):Int) by omega,R.iC (z:=K[r]) (c:=R.atS K[r] (i - 1)) (by omega) (by omega) (by rw [Int.toNat_natCast]; exact e1) (by rw [Int.toNat_natCast]; exact R.fW (by omega))]
   unfold R.sg
   rcases h2 with h2 | h2 <;> rw [h2] <;> rfl
 ·rw [List.getElem?_eq_none (by omega),List.getElem?_eq_none (by simpa using hr)]; rfl
theorem aG2 {n:Nat}{f g:Nat->Bool} (h:some (R.ofL ((List.range n).map fun c=>R.sg (f c)))≠some (R.ofL ((List.range n).map fun c=>R.sg (g c)))):∃ c,c < n/\f c≠g c:=by
 refine Classical.byContradiction fun q=>h ?_
 congr 2
 refine List.map_congr_left fun c hc => ?_
 have:=List.mem_range.mp hc
 have e:f c=g c:=Classical.byContradiction fun z=>q ⟨c,this,z⟩
 rw [e]
theorem aAJ {K:List Str}{a b:Nat} (T:Q.Tidy2 K a b) {i:Nat} (hi:i < a):∃ j:Nat,j+1 < b/\R.aT K ((i:Int) - 1) (j:Int)≠R.aT K (i:Int) (j:Int):=by
 rcases T.v with ⟨_,rfl,_⟩ | ⟨hK,t1,t2,g,l,ha,hb⟩
 ·omega
 ·have hm:i∈R.chg (R.aO K):=by rw [t2]; exact List.mem_range.mpr hi
  have lc:=R.c7 (fun z hz=>(g z hz).1) hK
  have hcn:R.aO K≠[]:=fun e=>by rw [e] at lc; simp at lc; omega
  obtain ⟨h1,h2⟩:=(R.fU hcn).mp hm
  rw [fcol g hK (by omega) (by omega),fcol g hK (by omega) (by omega)] at h2
  obtain ⟨c,hc,hne⟩:=aG2 h2
  refine ⟨c,by omega,?_⟩
  rwa [show (((i+1:Nat):Int) - 1)=(i:Int) by omega] at hne
theorem aI1 {K:List Str}{a b:Nat} (T:Q.Tidy2 K a b) {j:Nat} (hj:j < b):∃ i:Nat,i+1 < a/\R.aT K (i:Int) ((j:Int) - 1)≠R.aT K (i:Int) (j:Int):=by
 rcases T.v with ⟨_,_,rfl⟩ | ⟨hK,t1,t2,g,l,ha,hb⟩
 ·omega
 ·have hm:j∈R.chg K:=by rw [t1]; exact List.mem_range.mpr hj
  obtain ⟨h1,h2⟩:=(R.fU hK).mp hm
  rw [frow g hK (by omega),frow g hK (by omega)] at h2
  obtain ⟨c,hc,hne⟩:=aG2 h2
  refine ⟨c,by omega,?_⟩
  rwa [show (((j+1:Nat):Int) - 1)=(j:Int) by omega] at hne
def JX (f:Rat->Rat->Bool) (w:Rat):Prop:=∃ y,∀ x,x < w->∃ x',x<=x'/\x' < w/\f x' y≠f w y
theorem qI {ws:List Rat} (u:Up ws) {i:Nat} (hi:i < ws.length) {x:Rat} (hx:x < ws[i]) (h:∀ k (hk:k < ws.length),k < i->ws[k]<=x):ix ws x=(i:Int) - 1 :=
 rM u (by omega) (by omega) fun k hk=>by
  constructor
  ·intro h1
   have:=(i6 u hk hi).mp (by grind)
   omega
  ·intro h1
   exact h k hk (by omega)
theorem before {ws:List Rat} (u:Up ws) {i:Nat} (hi:i < ws.length) {x:Rat} (hx:x < ws[i]):∃ x',x<=x'/\x' < ws[i]/\ix ws x'=(i:Int) - 1:=by
 by_cases h0:i=0
 ·subst h0
  exact ⟨x,by grind,hx,qI u hi hx fun k _ q=>absurd q (Nat.not_lt_zero _)⟩
 ·have hp:i - 1 < ws.length:=by omega
  have hl:=(i6 u hp hi).mpr (by omega)
  have le:∀ k (hk:k < ws.length),k < i->ws[k]<=ws[i - 1]:=fun k hk q=>(gQ u hk hp).mpr (by omega)
  by_cases hm:x<=ws[i - 1]
  ·exact ⟨ws[i - 1],hm,hl,qI u hi hl le⟩
  ·exact ⟨x,by grind,hx,qI u hi hx fun k hk q=>by have:=le k hk q; grind⟩
theorem still {ws:List Rat} (u:Up ws) {w:Rat} (hw:w ∉ ws):∃ x,x < w/\∀ x',x<=x'->x' < w->ix ws x'=ix ws w:=by
 have a:=pC ws w
 have b:=o8 ws w
 by_cases hk:ix ws w = -1
 ·refine ⟨w - 1,by grind,fun x' h1 h2 => ?_⟩
  rw [hk]
  refine rM u (by omega) (by omega) fun i hi => ?_
  constructor
  ·intro h; have:=(d6 (x:=w) u hi).mp (by grind); omega
  ·intro h; omega
 ·have hi:(ix ws w).toNat < ws.length:=by omega
  have hle:=(d6 (x:=w) u hi).mpr (by omega)
  have hne:ws[(ix ws w).toNat]≠w:=fun e=>hw (e ▸ List.getElem_mem hi)
  refine ⟨ws[(ix ws w).toNat],by grind,fun x' h1 h2 => ?_⟩
  refine rM u a b fun i hi' => ?_
  constructor
  ·intro h; exact (d6 (x:=w) u hi').mp (by grind)
  ·intro h
   have:=(gQ u hi' hi).mpr (by omega)
   grind
theorem aE1 {ws us:List Rat}{K:List Str} (u:Up ws) (u':Up us) (T:Q.Tidy2 K ws.length us.length) (w:Rat):w∈ws↔JX (inY ws us K) w:=by
 constructor
 ·intro hw
  obtain ⟨i,hi,rfl⟩:=List.getElem_of_mem hw
  obtain ⟨j,hj,hne⟩:=aAJ T hi
  refine ⟨us[j],fun x hx => ?_⟩
  obtain ⟨x',h1,h2,h3⟩:=before u hi hx
  refine ⟨x',h1,h2,?_⟩
  unfold inY
  rw [h3,fT u hi,fT u' (by omega)]
  exact hne
 ·rintro ⟨y,h⟩
  refine Classical.byContradiction fun hw => ?_
  obtain ⟨x,hx,hs⟩:=still u hw
  obtain ⟨x',h1,h2,h3⟩:=h x hx
  unfold inY at h3
  rw [hs x' h1 h2] at h3
  exact h3 rfl
theorem aG7 {ws us:List Rat}{K:List Str} (u:Up ws) (u':Up us) (T:Q.Tidy2 K ws.length us.length) (w:Rat):w∈us↔JX (fun y x=>inY ws us K x y) w:=by
 constructor
 ·intro hw
  obtain ⟨j,hj,rfl⟩:=List.getElem_of_mem hw
  obtain ⟨i,hi,hne⟩:=aI1 T hj
  refine ⟨ws[i],fun x hx => ?_⟩
  obtain ⟨x',h1,h2,h3⟩:=before u' hj hx
  refine ⟨x',h1,h2,?_⟩
  unfold inY
  dsimp only
  rw [h3,fT u' hj,fT u (by omega)]
  exact hne
 ·rintro ⟨x,h⟩
  refine Classical.byContradiction fun hw => ?_
  obtain ⟨y,hy,hs⟩:=still u' hw
  obtain ⟨y',h1,h2,h3⟩:=h y hy
  unfold inY at h3
  dsimp only at h3
  rw [hs y' h1 h2] at h3
  exact h3 rfl
theorem aIW {ws us ws' us':List Rat}{K K':List Str} (u:Up ws) (v:Up us) (T:Q.Tidy2 K ws.length us.length) (u':Up ws') (v':Up us') (T':Q.Tidy2 K' ws'.length us'.length)
  (h:∀ x y,inY ws us K x y=inY ws' us' K' x y):ws=ws'/\us=us'/\K=K':=by
 have hf:inY ws us K=inY ws' us' K':=funext fun x=>funext fun y=>h x y
 have e1:ws=ws':=aE5 u u' fun x=>by rw [aE1 u v T,aE1 u' v' T',hf]
 have e2:us=us':=aE5 v v' fun x=>by rw [aG7 u v T,aG7 u' v' T',hf]
 subst e1 e2
 refine ⟨rfl,rfl,?_⟩
 obtain ⟨g,l⟩:=T.good
 obtain ⟨g',l'⟩:=T'.good
 refine aK1 g g' (by omega) fun a b ha hb => ?_
 have:=h ws[a] us[b]
 unfold inY at this
 rwa [fT u (by omega),fT v (by omega)] at this
def dX:List Rat->List Rat->List Rat
 | [],ys=>ys
 | x::xs,[]=>x::xs
 | x::xs,y::ys=>if y < x then y::dX (x::xs) ys else if x=y then x::dX xs ys else x::dX xs (y::ys)
termination_by xs ys=>xs.length+ys.length
theorem eY:∀ (xs ys:List Rat) (a:Rat),a∈dX xs ys↔a∈xs\/a∈ys
 | [],ys,a=>by rw [dX]; simp
 | x::xs,[],a=>by rw [dX]; simp
 | x::xs,y::ys,a=>by
  rw [dX]
  split
  ·rw [List.mem_cons,eY (x::xs) ys a,List.mem_cons (a:=a) (b:=y)]
   constructor
   ·rintro (h | h | h)
    ·exact .inr (.inl h)
    ·exact .inl h
    ·exact .inr (.inr h)
   ·rintro (h | h | h)
    ·exact .inr (.inl h)
    ·exact .inl h
    ·exact .inr (.inr h)
  ·split
   ·rename_i h1 h2
    subst h2
    rw [List.mem_cons,eY xs ys a,List.mem_cons,List.mem_cons]
    constructor
    ·rintro (h | h | h)
     ·exact .inl (.inl h)
     ·exact .inl (.inr h)
     ·exact .inr (.inr h)
    ·rintro ((h | h) | h | h)
     ·exact .inl h
     ·exact .inr (.inl h)
     ·exact .inl h
     ·exact .inr (.inr h)
   ·rw [List.mem_cons,eY xs (y::ys) a,List.mem_cons (a:=a) (b:=x)]
    constructor
    ·rintro (h | h | h)
     ·exact .inl (.inl h)
     ·exact .inl (.inr h)
     ·exact .inr h
    ·rintro ((h | h) | h)
     ·exact .inl h
     ·exact .inr (.inl h)
     ·exact .inr (.inr h)
termination_by xs ys=>xs.length+ys.length
theorem d8:∀ {xs ys:List Rat},xs.Pairwise (· < ·)->ys.Pairwise (· < ·)->(dX xs ys).Pairwise (· < ·)
 | [],ys,_,hy=>by rw [dX]; exact hy
 | x::xs,[],hx,_=>by rw [dX]; exact hx
 | x::xs,y::ys,hx,hy=>by
  obtain ⟨x1,x2⟩:=List.pairwise_cons.mp hx
  obtain ⟨y1,y2⟩:=List.pairwise_cons.mp hy
  rw [dX]
  split
  ·rename_i h
   refine List.pairwise_cons.mpr ⟨fun a ha => ?_,d8 hx y2⟩
   rcases (eY _ _ _).mp ha with h1 | h1
   ·rcases List.mem_cons.mp h1 with rfl | h1
    ·exact h
    ·have:=x1 a h1; grind
   ·exact y1 a h1
  ·split
   ·rename_i h1 h2
    subst h2
    refine List.pairwise_cons.mpr ⟨fun a ha => ?_,d8 x2 y2⟩
    rcases (eY _ _ _).mp ha with h1 | h1
    ·exact x1 a h1
    ·exact y1 a h1
   ·rename_i h1 h2
    refine List.pairwise_cons.mpr ⟨fun a ha => ?_,d8 x2 hy⟩
    rcases (eY _ _ _).mp ha with h3 | h3
    ·exact x1 a h3
    ·rcases List.mem_cons.mp h3 with rfl | h3
     ·grind
     ·have:=y1 a h3; grind
termination_by xs ys=>xs.length+ys.length
structure Yd where
 ws:List Rat
 us:List Rat
 K:List Str
 uw:Up ws
 uu:Up us
 T:Q.Tidy2 K ws.length us.length
def Yd.has (A:Yd) (x y:Rat):Bool:=inY A.ws A.us A.K x y
theorem Yd.ext' {A B:Yd} (h:∀ x y,A.has x y=B.has x y):A=B:=by
 obtain ⟨ws,us,K,uw,uu,T⟩:=A
 obtain ⟨ws',us',K',uw',uu',T'⟩:=B
 obtain ⟨rfl,rfl,rfl⟩:=aIW uw uu T uw' uu' T' h
 rfl
theorem Yd.wide (A:Yd):(∀ z∈A.K,z.length=A.ws.length - 1)/\A.K.length=A.us.length - 1:=⟨fun z hz=>(A.T.good.1 z hz).1,A.T.good.2⟩
theorem Yd.steps (A:Yd) {xs ys:List Rat} (v:Up xs) (v':Up ys) (hs:∀ w∈A.ws,w∈xs) (hs':∀ w∈A.us,w∈ys):Steps A.has xs ys:=aET A.uw A.uu A.wide.1 A.wide.2 v v' hs hs'
def Yd.ofG (xs ys:List Rat) (zs:List Str) (u:Up xs) (v:Up ys) (g:R.Good (xs.length - 1) zs) (hz:zs.length=ys.length - 1):Yd where
 ws:=iY xs (R.chg (R.aO zs))
 us:=iY ys (R.chg zs)
 K:=R.cJ zs
 uw:=yZ u (R.cG _) (Q.iM fun z hz=>(g z hz).1)
 uu:=yZ v (R.cG _) (Q.iN hz)
 T:=by
  have:=Q.aDN g
  unfold iY
  rw [zLm,zLm]
  exact this
theorem Yd.ofG_has {xs ys:List Rat}{zs:List Str} (u:Up xs) (v:Up ys) (g:R.Good (xs.length - 1) zs) (hz:zs.length=ys.length - 1) (x y:Rat):(Yd.ofG xs ys zs u v g hz).has x y=R.aT zs (ix xs x) (ix ys y):=aLI u v g hz x y
theorem Yd.ofG_ws {xs ys:List Rat}{zs:List Str} (u:Up xs) (v:Up ys) (g:R.Good (xs.length - 1) zs) (hz:zs.length=ys.length - 1):(∀ w∈(Yd.ofG xs ys zs u v g hz).ws,w∈xs)/\∀ w∈(Yd.ofG xs ys zs u v g hz).us,w∈ys :=
 ⟨xE (Q.iM fun z hz=>(g z hz).1),xE (Q.iN hz)⟩
def Yd.ofF (f:Rat->Rat->Bool) (xs ys:List Rat) (u:Up xs) (v:Up ys):Yd:=Yd.ofG xs ys (lI f xs ys) u v (vV f xs ys) (xG f xs ys)
theorem Yd.ofF_has {f:Rat->Rat->Bool}{xs ys:List Rat} (u:Up xs) (v:Up ys) (h:Steps f xs ys) (x y:Rat):(Yd.ofF f xs ys u v).has x y=f x y:=by
 unfold Yd.ofF
 rw [Yd.ofG_has,aNC h]
theorem mgl {ws vs:List Rat}:∀ w∈ws,w∈dX ws vs:=fun w hw=>(eY _ _ _).mpr (.inl hw)
theorem mgr {ws vs:List Rat}:∀ w∈vs,w∈dX ws vs:=fun w hw=>(eY _ _ _).mpr (.inr hw)
def Yd.op (p:Bool->Bool->Bool) (A B:Yd):Yd:=Yd.ofF (fun x y=>p (A.has x y) (B.has x y)) (dX A.ws B.ws) (dX A.us B.us) (d8 A.uw B.uw) (d8 A.uu B.uu)
theorem Yd.op_has {p:Bool->Bool->Bool} (h0:p false false=false) (A B:Yd) (x y:Rat):(Yd.op p A B).has x y=p (A.has x y) (B.has x y) :=
 Yd.ofF_has _ _ ((A.steps (d8 A.uw B.uw) (d8 A.uu B.uu) mgl mgl).pick (B.steps (d8 A.uw B.uw) (d8 A.uu B.uu) mgr mgr) p h0) x y
structure On (Sx Sy:List Rat) (A:Yd):Prop where
 x:∀ w∈A.ws,w∈Sx
 y:∀ w∈A.us,w∈Sy
theorem aH9 {ws:List Rat} (u:Up ws):ws.Nodup:=u.imp fun h=>by grind
theorem aG3 {ws S:List Rat} (u:Up ws) (h:∀ w∈ws,w∈S):ws.length<=S.length:=(aH9 u).length_le_of_subset h
theorem Yd.void_iff (A:Yd):A.K=[]↔∀ x y,A.has x y=false:=by
 constructor
 ·intro h x y
  unfold Yd.has inY
  rw [h]
  cases e:R.aT [] (ix A.ws x) (ix A.us y) with
  | false=>rfl
  | true=>obtain ⟨_,_,z,hz,_⟩:=R.o4.mp e; cases hz
 ·intro h
  rcases A.T.v with ⟨e,_,_⟩ | ⟨hK,t1,t2,g,l,ha,hb⟩
  ·exact e
  ·exfalso
   obtain ⟨j,hj,hne⟩:=aAJ A.T (i:=0) (by omega)
   have:=h (A.ws[0]'(by omega)) (A.us[j]'(by omega))
   unfold Yd.has inY at this
   rw [fT A.uw,fT A.uu] at this
   rw [R.cD (by omega)] at hne
   exact hne this.symm
def Yd.void:Yd:=⟨[],[],[], .nil, .nil,⟨.inl ⟨rfl,rfl,rfl⟩⟩⟩
theorem Yd.void_has (x y:Rat):Yd.void.has x y=false:=(Yd.void_iff _).mp rfl x y
inductive Cmp (g:Rat->Rat):Rat->List Rat->List Rat->Prop
 | nil {v:Rat}{xs:List Rat} (hv:v=0) (h:∀ x∈xs,g x=0):Cmp g v xs []
 | skip {v a:Rat}{r ws:List Rat} (e:g a=v) (h:Cmp g v r ws):Cmp g v (a::r) ws
 | keep {v a:Rat}{r ws:List Rat} (h:Cmp g (g a) r ws):Cmp g v (a::r) (a::ws)
def Yd.scale (A:Yd) (a b:Rat) (ha:0 < a) (hb:0 < b):Yd where
 ws:=A.ws.map (· * a)
 us:=A.us.map (· * b)
 K:=A.K
 uw:=by unfold Up; rw [List.pairwise_map]; exact A.uw.imp fun h=>Rat.mul_lt_mul_of_pos_right h ha
 uu:=by unfold Up; rw [List.pairwise_map]; exact A.uu.imp fun h=>Rat.mul_lt_mul_of_pos_right h hb
 T:=by rw [zLm,zLm]; exact A.T
theorem aGC {a w x:Rat} (ha:0 < a):w * a<=x↔w<=x / a:=by
 have:=Rat.div_lt_iff (a:=x) (c:=w) ha
 constructor
 ·intro h; refine Rat.not_lt.mp fun q => ?_; have:=this.mp q; grind
 ·intro h; refine Rat.not_lt.mp fun q => ?_; have:=this.mpr q; grind
theorem cnil (a u:Int):R.aT [] a u=false:=by
 cases e:R.aT [] a u with
 | false=>rfl
 | true=>obtain ⟨_,_,z,hz,_⟩:=R.o4.mp e; cases hz
theorem Yd.big (A:Yd):A.K=[]\/(2<=A.ws.length/\2<=A.us.length):=by
 rcases A.T.v with ⟨h,_,_⟩ | ⟨_,_,_,_,_,h1,h2⟩
 ·exact .inl h
 ·exact .inr ⟨h1,h2⟩
theorem gap:∀ (S:List Rat) (x:Rat),∃ n,x < n/\∀ s∈S,x < s->n<=s
 | [],x=>⟨x+1,by grind,fun s hs=>(nomatch hs)⟩
 | a::S,x=>by
  obtain ⟨n,h1,h2⟩:=gap S x
  by_cases ha:x < a
  ·by_cases hn:a < n
   ·exact ⟨a,ha,fun s hs hx=>by
     rcases List.mem_cons.mp hs with q | q
     ·grind
     ·have:=h2 s q hx; grind⟩
   ·exact ⟨n,h1,fun s hs hx=>by
     rcases List.mem_cons.mp hs with q | q
     ·grind
     ·exact h2 s q hx⟩
  ·exact ⟨n,h1,fun s hs hx=>by
    rcases List.mem_cons.mp hs with q | q
    ·grind
    ·exact h2 s q hx⟩
def hit (s:Bool) (ws:List Rat) (dn up:Rat) (h:Int->Bool) (x:Rat):Prop:=∃ u,x - up<=u/\u<=x+dn/\h (ix ws u)=s
open Classical in
noncomputable def gro (s:Bool) (ws:List Rat) (dn up:Rat) (h:Int->Bool) (x:Rat):Bool:=if hit s ws dn up h x then s else !s
def aEB (ws:List Rat) (dn:Rat):List Rat:=ws.map (· - dn)
def aDI (ws:List Rat) (up:Rat):List Rat:=ws.map (· + up)
def aEG (ws:List Rat) (dn up:Rat):List Rat:=dX (aEB ws dn) (aDI ws up)
theorem aM9 {ws:List Rat} (u:Up ws) (dn:Rat):Up (aEB ws dn):=by unfold aEB Up; rw [List.pairwise_map]; exact u.imp fun h=>by grind
theorem aKJ {ws:List Rat} (u:Up ws) (up:Rat):Up (aDI ws up):=by unfold aDI Up; rw [List.pairwise_map]; exact u.imp fun h=>by grind
theorem aBQ {ws:List Rat} (u:Up ws) (dn up:Rat):Up (aEG ws dn up):=d8 (aM9 u dn) (aKJ u up)
noncomputable def growS (s:Bool) (ws:List Rat) (dn up:Rat) (z:Str):Str:=R.ofL ((aEG ws dn up).dropLast.map fun x=>R.sg (gro s ws dn up (fun i=>R.aT [z] i 0) x))
noncomputable def groF (s:Bool) (A:Yd) (a b c d:Rat) (x y:Rat):Bool:=gro s A.us b d (fun r=>gro s A.ws a c (fun i=>R.aT A.K i r) x) y
theorem Yd.lowX (A:Yd) (r:Int):R.aT A.K (-1) r=false/\R.aT A.K ((A.ws.length:Int) - 1) r=false:=by
 refine ⟨R.cD (by omega),?_⟩
 rcases A.big with e | ⟨h1,h2⟩
 ·rw [e]; exact cnil _ _
 ·exact nE A.wide.1 (by omega)
theorem Yd.lowY (A:Yd) (i:Int):R.aT A.K i (-1)=false/\R.aT A.K i ((A.us.length:Int) - 1)=false:=by
 refine ⟨R.fC (by omega),?_⟩
 rcases A.big with e | ⟨h1,h2⟩
 ·rw [e]; exact cnil _ _
 ·exact R.fI (by rw [A.wide.2]; omega)
structure Nn (a b c d:Rat):Prop where
 a:0<=a
 b:0<=b
 c:0<=c
 d:0<=d
noncomputable def Yd.grow (A:Yd) (s:Bool) (a b c d:Rat):Yd:=Yd.ofF (groF s A a b c d) (aEG A.ws a c) (aEG A.us b d) (aBQ A.uw a c) (aBQ A.uu b d)
structure Bx where
 w:Rat
 s:Rat
 e:Rat
 n:Rat
structure Bx.Ok (b:Bx):Prop where
 w:0<=b.w
 s:0<=b.s
 e:0<=b.e
 n:0<=b.n
noncomputable def Yd.cut (A:Yd) (b:Bx):Yd:=A.grow false b.e b.n b.w b.s
noncomputable def Yd.back (A:Yd) (b:Bx):Yd:=A.grow true b.w b.s b.e b.n
end U
namespace Q
open PySem L2 Z
theorem aJI (p v:Int × Int):eqD (pairD p) (pairD v)=decide (p=v):=by
 obtain ⟨a,b⟩:=v
 obtain ⟨x,y⟩:=p
 unfold pairD
 simp only [eqD,eqDs,Bool.and_true]
 by_cases h1:x=a
 ·by_cases h2:y=b
  ·rw [decide_eq_true (by rw [h1,h2])]; simp [h1,h2]
  ·rw [decide_eq_false (by intro e; injection e with e1 e2; exact h2 e2)]; simp [h2]
 ·rw [decide_eq_false (by intro e; injection e with e1 e2; exact h1 e1)]; simp [h1]
theorem mF {α:Type} (l:List α):(cutD l (some 1) none).length=l.length - 1:=by rw [pR,List.length_drop]
end Q
namespace PySem
open Builtin
structure ZAp (z TI TO i1 i2:Addr) (fp1 fp2:List Addr):Prop where
 TIz:TI≠z
 TOz:TO≠z
 i1z:i1≠z
 i2z:i2≠z
 TOi1:TO≠i1
 TOi2:TO≠i2
 i12:i1≠i2
 f1:∀ b∈fp1,b≠z/\b≠TO/\b≠i2
 f2:∀ b∈fp2,b≠z/\b≠TO/\b≠i1
section
variable {prog:Program}{w:World}{A:Around}{E:Value->Shared->Prop}{s:Shared}{z TI TO i1 i2:Addr}{fp1 fp2:List Addr}{n1 n2 k:Nat}{P1 P2:Nat->Value->Prop}{S1 S2:Nat->Heap->Prop}{a b:Value}
theorem aFG {Q:Value->Shared->Prop} (D1:Draws prog w A i1 fp1 n1 P1 S1) (D2:Draws prog w A i2 fp2 n2 P2 S2) (ap:ZAp z TI TO i1 i2 fp1 fp2)
  (hz:IsZip s.heap z TI TO .none) (hTI:IsPair s.heap TI (.ref i1) (.ref i2)) (hTO:IsPair s.heap TO a b) (s1:S1 k s.heap) (s2:S2 k s.heap) (l1:k < n1) (l2:k < n2)
  (hQ:∀ x y h' tk,P1 k x->P2 k y->IsZip h' z TI TO (rawInt s.heap.objs.size)->IsPair h' TO x y->S1 (k+1) h'->S2 (k+1) h'->IsPair h' s.heap.objs.size x y->h'.objs.size=s.heap.objs.size+1 ->
   (∀ c o,c≠z->c≠TO->c≠i1->c≠i2->s.heap.get? c=some o->h'.get? c=some o)->Q (.ref s.heap.objs.size) { s with heap:=h',toks:=tk }) :
  wpAny (model prog w) A (Builtin.«zip.__next__» ⟨[.ref z],[]⟩) (fun fin s'=>∃ v,fin = .done (.ret v)/\Q v s') E s:=by
 show wpAny _ _ (field (.ref z) 2 >>= _) _ _ _
 refine wpAny_bind (wpAny_field hz rfl (x := .bool false) rfl ?_)
 show wpAny _ _ (field (.ref z) 3 >>= _) _ _ _
 refine wpAny_bind (wpAny_field hz rfl (x := .ref TI) rfl ?_)
 refine wpAny_bind (wpAny_seqItems hTI rfl ?_)
 show wpAny _ _ (Builtin.SmallTypes.ownedTupleIsFree (.ref z) >>= _) _ _ _
 refine wpAny_bind ?_
 unfold Builtin.SmallTypes.ownedTupleIsFree
 refine wpAny_bind (wpAny_field hz rfl (x := .none) rfl (wpAny_pure ?_))
 simp only [if_true]
 refine wpAny_bind (wpAny_rule ?_)
 refine wpAny_bind (wpAny_field hz rfl (x := .ref TO) rfl ?_)
 refine wpAny_bind (wpAny_setField_rec hz (by simp) fun h1 hz1 hs1 => ?_)
 replace hz1:IsZip h1 z TI TO .ellipsis:=hz1
 refine wpAny_bind ?_
 simp only [List.zipIdx_cons,List.zipIdx_nil,List.forIn_cons,List.forIn_nil]
 have k1:∀ c o,c≠z->s.heap.get? c=some o->h1.get? c=some o:=fun c o h e=>hs1.extBut _ _ h e
 refine wpAny_bind (wpAny_bind (wpAny_onRaise ?_))
 show wpAny _ _ (Builtin.SmallTypes.nextOf (.ref i1) >>= _) _ _ _
 refine wpAny_bind (D1.item k _ _ _ l1 (D1.frame _ _ _ s1 fun c hc o e=>k1 c o (ap.f1 c hc).1 e) fun x h2 t2 px st2 hs2=>wpAny_pure ?_)
 have k2:∀ c o,c≠i1->h1.get? c=some o->h2.get? c=some o:=fun c o h e=>hs2.extBut _ _ h e
 have hTO2:IsPair h2 TO a b:=k2 _ _ ap.TOi1 (k1 _ _ ap.TOz hTO)
 refine wpAny_bind (wpAny_seqItems hTO2 rfl ?_)
 refine wpAny_bind (wpAny_updateSeq_pair hTO2 fun h3 hTO3 hs3 => ?_)
 replace hTO3:IsPair h3 TO x b:=hTO3
 have k3:∀ c o,c≠TO->h2.get? c=some o->h3.get? c=some o:=fun c o h e=>hs3.extBut _ _ h e
 refine wpAny_bind (wpAny_letGo (wpAny_pure ?_))
 refine wpAny_bind (wpAny_bind (wpAny_onRaise ?_))
 show wpAny _ _ (Builtin.SmallTypes.nextOf (.ref i2) >>= _) _ _ _
 refine wpAny_bind (D2.item k _ _ _ l2 (D2.frame _ _ _ s2 fun c hc o e=>k3 c o (ap.f2 c hc).2.1 (k2 c o (ap.f2 c hc).2.2 (k1 c o (ap.f2 c hc).1 e))) fun y h4 t4 py st4 hs4=>wpAny_pure ?_)
 have k4:∀ c o,c≠i2->h3.get? c=some o->h4.get? c=some o:=fun c o h e=>hs4.extBut _ _ h e
 have hTO4:IsPair h4 TO x b:=k4 _ _ ap.TOi2 hTO3
 refine wpAny_bind (wpAny_seqItems hTO4 rfl ?_)
 refine wpAny_bind (wpAny_updateSeq_pair hTO4 fun h5 hTO5 hs5 => ?_)
 replace hTO5:IsPair h5 TO x y:=hTO5
 have k5:∀ c o,c≠TO->h4.get? c=some o->h5.get? c=some o:=fun c o h e=>hs5.extBut _ _ h e
 refine wpAny_bind (wpAny_letGo (wpAny_pure (wpAny_pure ?_)))
 refine wpAny_bind (wpAny_seqItems hTO5 rfl ?_)
 refine wpAny_bind (wpAny_newTuple ?_)
 have hsz:h5.objs.size=s.heap.objs.size:=by rw [hs5.1,hs4.1,hs3.1,hs2.1,hs1.1]
 have hz5:IsZip h5 z TI TO .ellipsis:=k5 _ _ ap.TOz.symm (k4 _ _ ap.i2z.symm (k3 _ _ ap.TOz.symm (k2 _ _ ap.i1z.symm hz1)))
 have hzlt:z < h5.objs.size:=Heap.lt_size hz5
 show wpAny _ _ (Builtin.SmallTypes.ownedTupleHandOut (.ref z) (.ref h5.objs.size) >>= _) _ _ _
 refine wpAny_bind ?_
 unfold Builtin.SmallTypes.ownedTupleHandOut
 have hz6:IsZip (h5.push { cls := .type "tuple", data := .seq #[x,y] }) z TI TO .ellipsis:=Heap.get?_push_of_some _ hz5
 refine wpAny_bind (wpAny_setField_rec hz6 (by simp) fun h7 hz7 hs7 => ?_)
 replace hz7:IsZip h7 z TI TO (rawInt h5.objs.size):=hz7
 refine wpAny_setField_rec hz7 (by simp) fun h8 hz8 hs8 => ?_
 replace hz8:IsZip h8 z TI TO (rawInt h5.objs.size):=hz8
 have up:∀ c o,c≠z->h5.get? c=some o->h8.get? c=some o:=fun c o c1 e=>hs8.extBut _ _ c1 (hs7.extBut _ _ c1 (Heap.get?_push_of_some _ e))
 have hT8:IsPair h8 h5.objs.size x y:=hs8.extBut _ _ (Nat.ne_of_gt hzlt) (hs7.extBut _ _ (Nat.ne_of_gt hzlt) (Heap.get?_push_size _ rfl))
 have sz8:h8.objs.size=h5.objs.size+1:=by rw [hs8.1,hs7.1,Heap.size_push]
 rw [hsz] at hz8 hT8 sz8
 refine wpAny_pure ⟨_,rfl,?_⟩
 show Q (.ref h5.objs.size) _
 rw [hsz]
 refine hQ x y h8 _ px py hz8 (up _ _ ap.TOz hTO5) (D1.frame _ _ _ st2 fun c hc o e=>up c o (ap.f1 c hc).1 (k5 c o (ap.f1 c hc).2.1 (k4 c o (ap.f1 c hc).2.2 (k3 c o (ap.f1 c hc).2.1 e))))
  (D2.frame _ _ _ st4 fun c hc o e=>up c o (ap.f2 c hc).1 (k5 c o (ap.f2 c hc).2.1 e)) hT8 sz8 fun c o c1 c2 c3 c4 e=>up c o c1 (k5 c o c2 (k4 c o c4 (k3 c o c2 (k2 c o c3 (k1 c o c1 e)))))
theorem aI8 {Q:Fin->Shared->Prop} (D1:Draws prog w A i1 fp1 n1 P1 S1) (ap:ZAp z TI TO i1 i2 fp1 fp2)
  (hz:IsZip s.heap z TI TO .none) (hTI:IsPair s.heap TI (.ref i1) (.ref i2)) (s1:S1 n1 s.heap)
  (hE:∀ h' e,(∀ c o,c≠z->c≠i1->s.heap.get? c=some o->h'.get? c=some o)->(∃ o,h'.get? e=some o/\o.cls = .type "StopIteration")->E (.ref e) { s with heap:=h' }) :
  wpAny (model prog w) A (Builtin.«zip.__next__» ⟨[.ref z],[]⟩) Q E s:=by
 show wpAny _ _ (field (.ref z) 2 >>= _) _ _ _
 refine wpAny_bind (wpAny_field hz rfl (x := .bool false) rfl ?_)
 show wpAny _ _ (field (.ref z) 3 >>= _) _ _ _
 refine wpAny_bind (wpAny_field hz rfl (x := .ref TI) rfl ?_)
 refine wpAny_bind (wpAny_seqItems hTI rfl ?_)
 show wpAny _ _ (Builtin.SmallTypes.ownedTupleIsFree (.ref z) >>= _) _ _ _
 refine wpAny_bind ?_
 unfold Builtin.SmallTypes.ownedTupleIsFree
 refine wpAny_bind (wpAny_field hz rfl (x := .none) rfl (wpAny_pure ?_))
 simp only [if_true]
 refine wpAny_bind (wpAny_rule ?_)
 refine wpAny_bind (wpAny_field hz rfl (x := .ref TO) rfl ?_)
 refine wpAny_bind (wpAny_setField_rec hz (by simp) fun h1 hz1 hs1 => ?_)
 replace hz1:IsZip h1 z TI TO .ellipsis:=hz1
 refine wpAny_bind ?_
 simp only [List.zipIdx_cons,List.zipIdx_nil,List.forIn_cons,List.forIn_nil]
 refine wpAny_bind (wpAny_bind (wpAny_onRaise ?_))
 show wpAny _ _ (Builtin.SmallTypes.nextOf (.ref i1) >>= _) _ _ _
 refine wpAny_bind (D1.done _ _ _ (D1.frame _ _ _ s1 fun c hc o e=>hs1.extBut _ _ (ap.f1 c hc).1 e) fun h2 e hs2 he => ?_)
 obtain ⟨oe,hoe,hce⟩:=he
 have hz2:IsZip h2 z TI TO .ellipsis:=hs2 _ _ ap.i1z.symm hz1
 have hez:e≠z:=fun x=>by subst x; rw [hz2] at hoe; cases hoe; simp at hce
 refine wpAny_setField_rec hz2 (by simp) fun h3 _ hs3=>hE h3 e (fun c o c1 c3 x=>hs3.extBut _ _ c1 (hs2 _ _ c3 (hs1.extBut _ _ c1 x))) ⟨oe,hs3.extBut _ _ hez hoe,hce⟩
theorem aBL {Q:Option Value->Shared->Prop} (D1:Draws prog w A.in1 i1 fp1 n1 P1 S1) (D2:Draws prog w A.in1 i2 fp2 n2 P2 S2) (ap:ZAp z TI TO i1 i2 fp1 fp2)
  (hz:IsZip s.heap z TI TO .none) (hTI:IsPair s.heap TI (.ref i1) (.ref i2)) (hTO:IsPair s.heap TO a b) (s1:S1 k s.heap) (s2:S2 k s.heap) (l1:k < n1) (l2:k < n2)
  (hQ:∀ x y h' tk,P1 k x->P2 k y->IsZip h' z TI TO (rawInt s.heap.objs.size)->IsPair h' TO x y->S1 (k+1) h'->S2 (k+1) h'->IsPair h' s.heap.objs.size x y->h'.objs.size=s.heap.objs.size+1 ->
   (∀ c o,c≠z->c≠TO->c≠i1->c≠i2->s.heap.get? c=some o->h'.get? c=some o)->Q (some (.ref s.heap.objs.size)) { s with heap:=h',toks:=tk }) :
  wpAny (model prog w) A (pyNext (.ref z)) Q E s:=by
 have hT:s.TypeIs (.ref z) "zip" := ⟨_,hz,rfl⟩
 unfold pyNext
 exact wpAny_bind (wpAny_attempt (wpAny_callSpecial?_slot (name:=Str.ofString "__next__") hT F.slot_zip_next
  (wpAny_call_entry F.slot_zip_next hT F.entry_zip_next
   (aFG D1 D2 ap hz hTI hTO s1 s2 l1 l2 fun x y h' tk a0 a1 a2 a3 a4 a5 a6 a7 a8=>wpAny_pure (hQ x y h' tk a0 a1 a2 a3 a4 a5 a6 a7 a8)) (F.args_zip_next_1 _))))
theorem aEL {Q:Option Value->Shared->Prop} (D1:Draws prog w A.in1 i1 fp1 n1 P1 S1) (ap:ZAp z TI TO i1 i2 fp1 fp2)
  (hz:IsZip s.heap z TI TO .none) (hTI:IsPair s.heap TI (.ref i1) (.ref i2)) (s1:S1 n1 s.heap)
  (hQ:∀ h',(∀ c o,c≠z->c≠i1->s.heap.get? c=some o->h'.get? c=some o)->Q none { s with heap:=h' }):wpAny (model prog w) A (pyNext (.ref z)) Q E s:=by
 have hT:s.TypeIs (.ref z) "zip" := ⟨_,hz,rfl⟩
 unfold pyNext
 refine wpAny_bind (wpAny_attempt (wpAny_callSpecial?_slot (name:=Str.ofString "__next__") hT F.slot_zip_next
  (wpAny_call_entry F.slot_zip_next hT F.entry_zip_next (aI8 D1 ap hz hTI s1 fun h' e hk he => ?_) (F.args_zip_next_1 _))))
 obtain ⟨o,ho,hc⟩:=he
 refine wpAny_bind (wpAny_isInstance (T := "StopIteration") (b:=true) ⟨o,ho,hc⟩ isSubtype_stop ?_)
 exact wpAny_pure (hQ _ hk)
end
end PySem
namespace PySem
open PyProof.Rows
section
variable {prog:Program}{w:World}{A:Around}{E:Value->Shared->Prop}{s:Shared}
end
end PySem
namespace L2
open PySem PySem.Spec PyProof.Rows
section
variable {X:Cx}
theorem aKM (n:Nat):ZAp (n+4) (n+2) (n+3) n (n+1) [n] [n+1] :=
  ⟨Nat.ne_of_lt (Nat.add_lt_add_left (by decide) n),Nat.ne_of_lt (Nat.add_lt_add_left (by decide) n),Nat.ne_of_lt (Nat.lt_add_of_pos_right (by decide)),Nat.ne_of_lt (Nat.add_lt_add_left (by decide) n),Nat.ne_of_gt (Nat.lt_add_of_pos_right (by decide)),Nat.ne_of_gt (Nat.add_lt_add_left (by decide) n),Nat.ne_of_lt (Nat.lt_add_of_pos_right (by decide)),
   fun b hb=>by rw [List.mem_singleton] at hb; subst hb; exact ⟨Nat.ne_of_lt (Nat.lt_add_of_pos_right (by decide)),Nat.ne_of_lt (Nat.lt_add_of_pos_right (by decide)),Nat.ne_of_lt (Nat.lt_add_of_pos_right (by decide))⟩,
   fun b hb=>by rw [List.mem_singleton] at hb; subst hb; exact ⟨Nat.ne_of_lt (Nat.add_lt_add_left (by decide) n),Nat.ne_of_lt (Nat.add_lt_add_left (by decide) n),Nat.ne_of_gt (Nat.lt_add_of_pos_right (by decide))⟩⟩
theorem aHK (n:Nat):n+2≠n+3/\n+2≠n/\n+2≠n+1:=⟨by omega,by omega,by omega⟩
end
end L2
namespace Z
open PySem L2
section
variable {X:Cx}{Γ:Gm}{M:Mem}{k:D->Mem->Prop}{pos:Pos}{a b:Expr}{rest:List Expr}
def jZ (xs ys:List D):List D:=(xs.zip ys).map fun p => .tup [p.1,p.2]
end
end Z
namespace L2
open PySem PySem.Spec PyProof.Rows
section
variable {X:Cx}
theorem aMI {h:Heap}{a b:Addr}{its:Array Value}{o:Obj} (hl:h.IsList a its) (ho:h.get? b=some o) (hc:o.cls ≠ .type "list"):a≠b:=fun z=>by
 obtain ⟨o1,e1,c1,_⟩:=hl
 rw [z,ho] at e1; cases e1
 exact hc c1
end
end L2
namespace Z
open PySem L2
section
variable {X:Cx}{Γ:Gm}{M:Mem}{k:D->Mem->Prop}{pos:Pos}{a b:Expr}{rest:List Expr}
end
end Z
namespace Q
open PySem L2 Z
end Q
namespace Z
open PySem L2
end Z
namespace Q
open PySem L2 Z
end Q
namespace L2
open PySem PySem.Spec PyProof.Rows
def aOD (K:PySem.W.Frag) (J:It) (cap:List Nat) (tt:TT) (te:TE) (σ:St) (H1:Hp) (Q:VK) (D:Addr):Prop:=∃ W:Nat->Nat->List V->Hp->Prop,(∃ m,W 0 m [] (upd H1 D (.lst [])))/\∀ i m ys H2,W i m ys H2 ->
 H2 D=some (.lst ys)/\((J.stop i H2/\Q (.ref D) H2)\/(J.go i H2/\ys.length < sizeLine/\∀ x H3,J.yld i H2 x H3->∃ p a b,x = .ref p/\SqT K H3 p [a,b] /\
  tt (some a::some b::cap.map fun k=>(σ[k]?).join) H3 fun c H4=>if c=true then te (some a::some b::cap.map fun k=>(σ[k]?).join) H4 fun y H5=>H5 D=some (.lst ys)/\∃ m',m' < m/\W (i+1) m' (ys++[y]) (upd H5 D (.lst (ys++[y])))
   else ∃ m',m' < m/\W (i+1) m' ys H4))
def vS (K:PySem.W.Frag) (wi:TI) (cap:List Nat) (tt:TT) (te:TE):TE:=fun σ H Q=>wi σ H fun J H1=>∀ D,H1 D=none->aOD K J cap tt te σ H1 Q D
theorem aDG {X:Cx}{x1 x2:Str}{px1 px2 tp pos:Pos}{kk:Nat}{iter elt:Expr}{ifs:List Expr}{scope:Scope}{ns:List Str}{cap:List Nat}{wi:TI}{tt:TT}{te:TE} (hc:X.calm=true) (hkind:scope.kind = .function)
  (hnames:∀ y∈scope.names,y.2 = .local->scope.names.lookup y.1=some .local) (hx1:Loc (relabel scope X.env) x1) (hxf1:scope.names.lookup x1=some .cell\/(relabel scope X.env).names.lookup x1=some .local) (hx2:Loc (relabel scope X.env) x2) (hxf2:scope.names.lookup x2=some .cell\/(relabel scope X.env).names.lookup x2=some .local)
  (hNc:(x1::x2::ns).Nodup) (hlen:cap.length=ns.length) (hcap:∀ (j k:Nat) (nm:Str),cap[j]?=some k->ns[j]?=some nm->X.N[k]?=some nm/\(X.env.scope.names.lookup nm=some .cell\/X.env.scope.names.lookup nm=some .free))
  (hns:∀ nm∈ns,(nm,NameKind.free)∈scope.names/\(nm,NameKind.cell) ∉ scope.names) (hnsk:∀ nm∈ns,scope.names.lookup nm=some .free) (hfree:∀ y∈scope.names,y.2 = .free->X.env.scope.names.lookup y.1=some .cell\/X.env.scope.names.lookup y.1=some .free)
  (hi:PI X (.Tuple [.Name x1 px1, .Name x2 px2] kk tp) iter wi)
  (ht:∀ cs C s₀ H₀ fp,PIf (aX X scope cs C (x1::x2::ns) s₀ H₀ fp) ifs tt) (he:∀ cs C s₀ H₀ fp,PE (aX X scope cs C (x1::x2::ns) s₀ H₀ fp) elt te)
  (hs:∀ v,foldedSetIterable iter X.env v=pure v:=by intro _; rfl)
  {use:Option (Value->Sem Unit)}{Q':Value->Shared->Prop}{pins:List (Addr × Obj)}{s:Shared}{σ:St}{H:Hp}{Q:VK}{ip:Pos} (I:Inv X pins σ H s) (h:vS X.K wi cap tt te σ H Q)
  (hfin:∀ (D C:Addr) (H':Hp) (s':Shared),Inv X pins σ H' s'->Q (.ref D) H'->(∃ m,s'.heap.Ns C m)->CFree X pins H' C->compPost (model X.prog X.w) X.A X.xe use Q' (.ref D) C (.ok .next) s') :
  wpAny (model X.prog X.w) X.A (comprehension (.ListComp elt [⟨.Tuple [.Name x1 px1, .Name x2 px2] kk tp,iter,ifs,0⟩] scope pos) scope X.env ip (newList []) false (eval iter X.env) use) Q' X.xe s:=by
 obtain ⟨cl,ecl,cl1,cl2⟩:=qF (scope:=scope) (env:=X.env) fun n hn=>I.ok.has n (hfree (n, .free) hn rfl)
 refine wpAny_comprehension_free (use:=use) rfl hs ecl hkind hnames (thn (hi pins s σ H _ I h) fun xv s1 h1=>thn h1 fun itv s2 h2 => ?_)
 obtain ⟨it,fp,tn,J,H2,rfl,I2,T,st2,f2,q⟩:=h2
 have hD:H2 s2.heap.objs.size=none:=I2.fresh
 obtain ⟨W,⟨m0,w0⟩,step⟩:=q s2.heap.objs.size hD
 refine wpAny_newObj_type ?_ (by show 0<=sizeLine; exact Nat.zero_le _)
 have I3:Inv X pins σ (upd H2 s2.heap.objs.size (.lst [])) { s2 with heap:=s2.heap.push { cls := .type "list", data := .seq ([]:List Value).toArray } } :=
  I2.laid (t':=s2.toks) (fun b u e=>Heap.get?_push_of_some _ e) (Nat.le_refl _) ⟨Nat.zero_le _,[],0, .nil,Heap.get?_push_size _ rfl⟩
 have sz3:(s2.heap.push { cls := .type "list", data := .seq ([]:List Value).toArray }).objs.size=s2.heap.objs.size+1:=Heap.size_push ..
 have hfp3:∀ b∈fp,∀ o,(upd H2 s2.heap.objs.size (.lst [])) b≠some o:=fun b hb o z=>by
  obtain ⟨ob,e,_⟩:=T.obj 0 _ st2 b hb
  rw [bF (Nat.ne_of_lt (Heap.lt_size e)),(f2 b hb).1] at z
  cases z
 revert I3 sz3 w0 step hfp3
 generalize upd H2 s2.heap.objs.size (.lst [])=H3
 generalize hs3:({ s2 with heap:=s2.heap.push { cls := .type "list", data := .seq ([]:List Value).toArray } }:Shared)=s3
 intro step w0 I3 sz3 hfp3
 have st3:tn 0 s3.heap:=T.keep 0 _ _ st2 fun b _ o e=>by rw [<- hs3]; exact Heap.get?_push_of_some _ e
 have fpLt:∀ b∈fp,b < s3.heap.objs.size:=fun b hb=>by
  obtain ⟨o,e,_⟩:=T.obj 0 _ st3 b hb
  exact Heap.lt_size e
 refine tG ?_
 have new:CellsOk (pushCells (s3.heap.push { cls := .type "dict", data := .dict #[] }) scope.names) (s3.heap.objs.size+1) (cellsFrom (s3.heap.objs.size+1) scope.names []):=by
  have ok:=cellsFrom_ok scope.names (s3.heap.push { cls := .type "dict", data := .dict #[] }) (s3.heap.objs.size+1) [] ⟨fun _ _ hm=>(nomatch hm),List.Pairwise.nil⟩ (by rw [Heap.size_push]; exact Nat.le_refl _)
  rw [Heap.size_push] at ok
  exact ok
 have keep4:∀ b o,s3.heap.get? b=some o->(pushCells (s3.heap.push { cls := .type "dict", data := .dict #[] }) scope.names).get? b=some o:=fun b o e=>pushCells_keeps _ _ b o (Heap.get?_push_of_some _ e)
 have nsC:(pushCells (s3.heap.push { cls := .type "dict", data := .dict #[] }) scope.names).Ns s3.heap.objs.size (fun _=>none):=(Heap.Ns.new s3.heap (.type "dict")).keeps (pushCells_keeps _ _)
 have lk:∀ y c,(cellsFrom (s3.heap.objs.size+1) scope.names cl).lookup y=some c->((y,c)∈cellsFrom (s3.heap.objs.size+1) scope.names []/\(y,NameKind.cell)∈scope.names)\/(cl.lookup y=some c/\X.env.cells.lookup y=some c):=fun y c e=>by
  rw [fB,fY] at e
  cases z:(cellsFrom (s3.heap.objs.size+1) scope.names []).lookup y with
  | some c' =>
   rw [z] at e
   have e':c'=c:=Option.some.inj e
   subst e'
   have hm:=PySem.mem_of_lookup z
   rcases oK _ _ _ hm with q | q
   ·exact .inl ⟨hm,q⟩
   ·cases q
  | none=>rw [z] at e; exact .inr ⟨e,cl1 y c e⟩
 have oldLt:∀ y c,X.env.cells.lookup y=some c->c < s3.heap.objs.size:=fun y c e=>by
  obtain ⟨v,z⟩:=I3.cell y c e
  exact z.lt
 have hlk2:∀ nm∈ns,∃ c,(cellsFrom (s3.heap.objs.size+1) scope.names cl).lookup nm=some c/\X.env.cells.lookup nm=some c:=fun nm hnm=>by
  obtain ⟨h1,h2⟩:=hns nm hnm
  obtain ⟨c,e⟩:=cl2 nm h1
  refine ⟨c,?_,cl1 nm c e⟩
  rw [fB,fY]
  cases z:(cellsFrom (s3.heap.objs.size+1) scope.names []).lookup nm with
  | some c' =>
   rcases oK _ _ _ (PySem.mem_of_lookup z) with q | q
   ·exact absurd q h2
   ·cases q
  | none=>exact e
 show codeAny (model X.prog X.w) X.A (.compStart (.ListComp elt [⟨.Tuple [.Name x1 px1, .Name x2 px2] kk tp,iter,ifs,0⟩] scope pos) 0 (.ref it) (.ref s2.heap.objs.size) (aX X scope (cellsFrom (s3.heap.objs.size+1) scope.names cl) s3.heap.objs.size (x1::x2::ns) s3 H3 fp).env) (compPost (model X.prog X.w) X.A X.xe use Q' (.ref s2.heap.objs.size) s3.heap.objs.size) { s3 with heap:=pushCells (s3.heap.push { cls := .type "dict", data := .dict #[] }) scope.names }
 have ht':=ht (cellsFrom (s3.heap.objs.size+1) scope.names cl) s3.heap.objs.size s3 H3 fp
 have he':=he (cellsFrom (s3.heap.objs.size+1) scope.names cl) s3.heap.objs.size s3 H3 fp
 have OK:(aX X scope (cellsFrom (s3.heap.objs.size+1) scope.names cl) s3.heap.objs.size (x1::x2::ns) s3 H3 fp).Ok:=by
  refine ⟨I3.ok.mod,hkind,I3.ok.glob,I3.ok.blt,Nat.le_refl _,fun y z c e1 e2 => ?_,fun y hy => ?_,fun y c hf e => ?_,fun _=>I3.ok.hd hc,I3.ok.frames, .inl rfl,fun b hb=>⟨Nat.ne_of_lt (fpLt b hb),fun y c e => ?_⟩,I3.bs,Nat.le_trans I3.ok.bsz I3.sz,fun b o e hb => ?_,fun b hb hm => ?_,I3.stack,I3.stkFree⟩
  ·rcases lk y c e1 with ⟨a1,_⟩ | ⟨a1,a2⟩ <;> rcases lk z c e2 with ⟨b1,_⟩ | ⟨b1,b2⟩
   ·exact name_of_addr new.apart a1 b1
   ·exact absurd (Nat.lt_of_lt_of_le (oldLt z c b2) (Nat.le_of_succ_le (new.empty y c a1).2)) (Nat.lt_irrefl _)
   ·exact absurd (Nat.lt_of_lt_of_le (oldLt y c a2) (Nat.le_of_succ_le (new.empty z c b1).2)) (Nat.lt_irrefl _)
   ·exact I3.ok.inj y z c a2 b2
  ·have key:scope.names.lookup y=some .cell\/scope.names.lookup y=some .free:=by
    rcases hy with hy | hy
    ·rcases dH (env:=X.env) (names:=scope.names) hy with q | ⟨q,_⟩
     ·exact .inl q
     ·exact .inr q
    ·rcases dH (env:=X.env) (names:=scope.names) hy with q | ⟨q,_⟩
     ·exact .inr q
     ·exact .inr q
   rcases key with q | q
   ·exact Option.isSome_iff_exists.mp (PySem.W.cellsFrom_some scope.names (s3.heap.objs.size+1) cl (.inl q))
   ·obtain ⟨c,e⟩:=cl2 y (PySem.mem_of_lookup q)
    exact Option.isSome_iff_exists.mp (PySem.W.cellsFrom_some scope.names (s3.heap.objs.size+1) cl (.inr (by rw [e]; rfl)))
  ·have hf':scope.names.lookup y=some .cell:=by
    have hf0:(scope.names.lookup y == some .cell)=true:=hf
    simpa using hf0
   have e':(cellsFrom (s3.heap.objs.size+1) scope.names cl).lookup y=some c:=e
   have e0:=Option.isSome_iff_exists.mp (PySem.W.cellsFrom_some scope.names (s3.heap.objs.size+1) [] (.inl hf'))
   obtain ⟨c',z⟩:=e0
   rw [fB,fY,z] at e'
   cases e'
   exact Nat.le_of_succ_le (new.empty y c (PySem.mem_of_lookup z)).2
  ·rcases lk y c e with ⟨a1,_⟩ | ⟨a1,a2⟩
   ·exact fun z=>absurd (Nat.lt_of_lt_of_le (fpLt b hb) (z ▸ Nat.le_of_succ_le (new.empty y c a1).2)) (Nat.lt_irrefl _)
   ·exact (f2 b hb).2.2.2.2.1 y c a2
  ·rcases (f2 b hb).2.2.2.1 with z | z
   ·exact I3.ok.noex b o e z
   ·exact absurd (Nat.lt_of_lt_of_le (Heap.lt_size (I3.ok.bs b o e).1) z) (Nat.lt_irrefl _)
  ·rcases List.mem_cons.mp (I3.stkSub b hm) with z | z
   ·exact (f2 b hb).2.1 z
   ·exact (f2 b hb).2.2.1 z
 have IY:Inv (aX X scope (cellsFrom (s3.heap.objs.size+1) scope.names cl) s3.heap.objs.size (x1::x2::ns) s3 H3 fp) [] (none::none::cap.map fun k=>(σ[k]?).join) H3 { s3 with heap:=pushCells (s3.heap.push { cls := .type "dict", data := .dict #[] }) scope.names }:=by
  refine ⟨OK,rfl,I3.bare,Un.kept keep4,⟨_,nsC,fun i nm v e1 e2 e3 => ?_⟩,fun y c e => ?_,I3.fresh,fun y c e => ?_,fun p hp=>absurd (show p∈([]:List (Addr × Obj)) from hp) (by simp),I3.hok.kept keep4,by simp [aX,hlen]⟩
  ·cases i with
   | zero=>cases e2
   | succ i' =>
   cases i' with
   | zero=>cases e2
   | succ j =>
    have e1':ns[j]?=some nm:=e1
    have e2':(cap.map fun k=>(σ[k]?).join)[j]?=some (some v):=e2
    rw [List.getElem?_map] at e2'
    cases hk:cap[j]? with
    | none=>rw [hk] at e2'; cases e2'
    | some k =>
     rw [hk] at e2'
     have e2'':(σ[k]?).join=some v:=Option.some.inj e2'
     have e4:σ[k]?=some (some v):=by
      cases z:σ[k]? with
      | none=>rw [z] at e2''; cases e2''
      | some o=>rw [z] at e2''; exact congrArg some e2''
     obtain ⟨hN,hcell⟩:=hcap j k nm hk e1'
     obtain ⟨m,_,hl⟩:=I3.loc
     obtain ⟨u,r,l⟩:=hl k nm v hN e4 (.inr hcell)
     refine ⟨u,r,?_⟩
     rcases l with ⟨l1,_⟩ | ⟨_,c,ec,z⟩
     ·have l1':X.env.scope.names.lookup nm=some .local:=l1
      rcases hcell with q | q <;> rw [q] at l1' <;> cases l1'
     ·obtain ⟨c',g1,g2⟩:=hlk2 nm (zMo e1')
      rw [ec] at g2
      cases g2
      refine .inr ⟨?_,c,g1,?_⟩
      ·rcases e3 with q | q
       ·rcases dH (env:=X.env) (names:=scope.names) q with w1 | ⟨_,w1⟩
        ·exfalso
         have hmem:=(hns nm (zMo e1')).1
         have:=hnames (nm, .local) (PySem.mem_of_lookup w1) rfl
         -- a name has one kind in a scope: its cell is known,so it is not local here
         exact absurd (I3.ok.has nm (hfree (nm, .free) hmem rfl)) (fun _=>by
          have hk2:=(hnsk nm (zMo e1'))
          rw [w1] at hk2; cases hk2)
        ·cases w1
       ·exact q
      ·obtain ⟨o,ho,hd⟩:=z
       exact ⟨o,keep4 c o ho,hd⟩
  ·rcases lk y c e with ⟨a1,_⟩ | ⟨a1,a2⟩
   ·exact ⟨none,(new.empty y c a1).1⟩
   ·obtain ⟨v,o,ho,hd⟩:=I3.cell y c a2
    exact ⟨v,o,keep4 c o ho,hd⟩
  ·rcases lk y c e with ⟨a1,_⟩ | ⟨a1,a2⟩
   ·exact I3.hok.fresh (Nat.le_of_succ_le (new.empty y c a1).2)
   ·exact I3.freeC y c a2
 -- what is reached at the end
 have fin:∀ {σ':St}{H':Hp}{s':Shared},Inv (aX X scope (cellsFrom (s3.heap.objs.size+1) scope.names cl) s3.heap.objs.size (x1::x2::ns) s3 H3 fp) [] σ' H' s'->Q (.ref s2.heap.objs.size) H' ->
   compPost (model X.prog X.w) X.A X.xe use Q' (.ref s2.heap.objs.size) s3.heap.objs.size (.ok .next) s':=fun {σ' H' s'} J qd=>by
  obtain ⟨m',hn',_⟩:=J.loc
  have hCn:H' s3.heap.objs.size=none:=J.free
  refine hfin _ _ H' s' (I3.call' (ch:=fp) J.os J.base J.hok J.bare fun b hb=>⟨(f2 b hb).2.2.2.1,(f2 b hb).2.1,(f2 b hb).2.2.2.2.1,(f2 b hb).2.2.2.2.2⟩) qd ⟨m',hn'⟩ ⟨hCn,Nat.ne_of_gt I3.lt,I3.sz,fun y c e=>Nat.ne_of_lt (oldLt y c e),fun p hp=>Nat.ne_of_lt (Heap.lt_size (I3.pin p hp).1)⟩
 have fpY:∀ {H':Hp},(∀ b∈fp,H' b=none)->∀ b∈fp,kS (aX X scope (cellsFrom (s3.heap.objs.size+1) scope.names cl) s3.heap.objs.size (x1::x2::ns) s3 H3 fp) [] H' b:=fun {H'} hn b hb =>
  ⟨hn b hb,(OK.exf b hb).1,OK.exfs b hb, .inl hb,(OK.exf b hb).2,fun p hp=>absurd (show p∈([]:List (Addr × Obj)) from hp) (by simp)⟩
 have st4:tn 0 (pushCells (s3.heap.push { cls := .type "dict", data := .dict #[] }) scope.names):=T.keep 0 _ _ st3 fun b _ o e=>keep4 b o e
 have fr3:∀ b∈fp,H3 b=none:=fun b hb=>by
  cases z:H3 b with
  | none=>rfl
  | some o=>exact absurd rfl (fun _:(1:Nat)=1=>hfp3 b hb o z)
 have loop:codeAny (model X.prog X.w) X.A (.compLoop (.ListComp elt [⟨.Tuple [.Name x1 px1, .Name x2 px2] kk tp,iter,ifs,0⟩] scope pos) 0 (.ref it) (.ref s2.heap.objs.size) (aX X scope (cellsFrom (s3.heap.objs.size+1) scope.names cl) s3.heap.objs.size (x1::x2::ns) s3 H3 fp).env) (compPost (model X.prog X.w) X.A X.xe use Q' (.ref s2.heap.objs.size) s3.heap.objs.size) { s3 with heap:=pushCells (s3.heap.push { cls := .type "dict", data := .dict #[] }) scope.names }:=by
  refine qY (fun n s'=>∃ i ys o1 o2 H',Inv (aX X scope (cellsFrom (s3.heap.objs.size+1) scope.names cl) s3.heap.objs.size (x1::x2::ns) s3 H3 fp) [] (o1::o2::cap.map fun k=>(σ[k]?).join) H' s'/\tn i s'.heap/\(∀ b∈fp,H' b=none)/\W i n ys H') ?_ m0 ⟨0,[],none,none,H3,IY,st4,fr3,w0⟩
  rintro n s5 ⟨i,ys,o1,o2,H5,I5,st5,fr5,w5⟩
  obtain ⟨eD,alt⟩:=step i n ys H5 w5
  rcases alt with ⟨stop,qd⟩ | ⟨go,hz,turn⟩
  ·refine thn (T.done (aX X scope (cellsFrom (s3.heap.objs.size+1) scope.names cl) s3.heap.objs.size (x1::x2::ns) s3 H3 fp) rfl rfl rfl hc i [] s5 _ H5 (fun _ _=>False) I5 (fpY fr5) st5 stop) fun r s6 ⟨hr,I6⟩ => ?_
   subst hr
   exact fin I6 qd
  ·refine thn (T.item (aX X scope (cellsFrom (s3.heap.objs.size+1) scope.names cl) s3.heap.objs.size (x1::x2::ns) s3 H3 fp) rfl rfl rfl hc i [] s5 _ H5 (fun _ _=>False) I5 (fpY fr5) st5 go) fun r s6 ⟨u,hr,h6⟩ => ?_
   subst hr
   refine thn h6 fun _ s7 ⟨xv',H7,I7,r7,y7,st7,fr7⟩ => ?_
   have I7':=I7.pinned (fpY fr7) (T.obj _ _ st7)
   obtain ⟨pv,xa,xb,ex,sq,turn'⟩:=turn xv' _ y7
   have fnx:∀ {x:Str},(scope.names.lookup x=some .cell\/(relabel scope X.env).names.lookup x=some .local)->(aX X scope (cellsFrom (s3.heap.objs.size+1) scope.names cl) s3.heap.objs.size (x1::x2::ns) s3 H3 fp).fn x=true\/(relabel scope X.env).names.lookup x=some .local:=fun h=>h.elim (fun z => .inl (by show (scope.names.lookup _ == some .cell)=true; rw [z]; rfl)) .inr
   have hst:PG (aX X scope (cellsFrom (s3.heap.objs.size+1) scope.names cl) s3.heap.objs.size (x1::x2::ns) s3 H3 fp) (.Tuple [.Name x1 px1, .Name x2 px2] kk tp) (gTup X.K 2 (aD1 (pM 0) (aD1 (pM 1) gNil))):=aFV hc (tY (sJ hNc rfl hx1 (fnx hxf1)) (tY (sJ hNc rfl hx2 (fnx hxf2)) aBR rfl) rfl) rfl rfl
   refine thn (hst _ s7 _ H7 xv' u (fun σ8 H8=>σ8=(some xa::some xb::cap.map fun k=>(σ[k]?).join)/\H8=H7) I7' r7 ⟨pv,[xa,xb],ex,sq,rfl,_,_,rfl,_,_,rfl,rfl,rfl,rfl⟩) fun _ s8 ⟨σ8,H8,I8,e8,e8'⟩ => ?_
   subst e8 e8'
   have back:∀ {σ9:St}{H9:Hp}{s9:Shared},Inv (aX X scope (cellsFrom (s3.heap.objs.size+1) scope.names cl) s3.heap.objs.size (x1::x2::ns) s3 H3 fp) ([]++oP fp s7.heap) σ9 H9 s9->tn (i+1) s9.heap/\∀ b∈fp,H9 b=none:=fun {σ9 H9 s9} I9=>by
    refine ⟨T.keep _ _ _ st7 fun b hb o e=>(I9.pin (b,o) (List.mem_append_right _ (List.mem_append_right _ (iJ hb e)))).1,fun b hb => ?_⟩
    obtain ⟨o,e,d⟩:=T.obj _ _ st7 b hb
    exact (I9.pin (b,o) (List.mem_append_right _ (List.mem_append_right _ (iJ hb e)))).2.1
   refine thn (ht' _ s8 _ _ _ I8 turn') fun b s9 ⟨H9,I9,q9⟩ => ?_
   cases b with
   | false =>
    rw [if_neg zBf] at q9 ⊢
    obtain ⟨m',hm,w9⟩:=q9
    obtain ⟨st9,fr9⟩:=back I9
    exact ⟨m',hm,i+1,ys,_,_,H9,I9.unpinned,st9,fr9,w9⟩
   | true =>
    rw [if_pos rfl] at q9 ⊢
    refine thn (he' _ s9 _ _ _ I9 q9) fun yv s10 ⟨y,H10,I10,r10,eD10,m',hm,w10⟩ => ?_
    refine thn (cT (X:=aX X scope (cellsFrom (s3.heap.objs.size+1) scope.names cl) s3.heap.objs.size (x1::x2::ns) s3 H3 fp) _ s10 _ H10 (.ref s2.heap.objs.size) [y] (.ref s2.heap.objs.size) [yv] (fun _ H11=>H11=upd H10 s2.heap.objs.size (.lst (ys++[y]))) I10 rfl (.cons r10 .nil) ⟨_,ys,y,rfl,rfl,eD10,hz,rfl⟩) fun _ s11 ⟨_,H11,I11,_,e11⟩ => ?_
    subst e11
    obtain ⟨st11,fr11⟩:=back I11
    exact ⟨m',hm,i+1,_,_,_,_,I11.unpinned,st11,fr11,w10⟩
 exact codeAny_compStart_list loop (T.self X.A 0 _ _ _ st4 loop)
theorem aIJ {X:Cx}{x1 x2:Str}{px1 px2 tp pos:Pos}{kk:Nat}{iter elt:Expr}{ifs:List Expr}{scope:Scope}{ns:List Str}{cap:List Nat}{wi:TI}{tt:TT}{te:TE} (hc:X.calm=true) (hkind:scope.kind = .function)
  (hnames:∀ y∈scope.names,y.2 = .local->scope.names.lookup y.1=some .local) (hx1:Loc (relabel scope X.env) x1) (hxf1:scope.names.lookup x1=some .cell\/(relabel scope X.env).names.lookup x1=some .local) (hx2:Loc (relabel scope X.env) x2) (hxf2:scope.names.lookup x2=some .cell\/(relabel scope X.env).names.lookup x2=some .local)
  (hNc:(x1::x2::ns).Nodup) (hlen:cap.length=ns.length) (hcap:∀ (j k:Nat) (nm:Str),cap[j]?=some k->ns[j]?=some nm->X.N[k]?=some nm/\(X.env.scope.names.lookup nm=some .cell\/X.env.scope.names.lookup nm=some .free))
  (hns:∀ nm∈ns,(nm,NameKind.free)∈scope.names/\(nm,NameKind.cell) ∉ scope.names) (hnsk:∀ nm∈ns,scope.names.lookup nm=some .free) (hfree:∀ y∈scope.names,y.2 = .free->X.env.scope.names.lookup y.1=some .cell\/X.env.scope.names.lookup y.1=some .free)
  (hi:PI X (.Tuple [.Name x1 px1, .Name x2 px2] kk tp) iter wi)
  (ht:∀ cs C s₀ H₀ fp,PIf (aX X scope cs C (x1::x2::ns) s₀ H₀ fp) ifs tt) (he:∀ cs C s₀ H₀ fp,PE (aX X scope cs C (x1::x2::ns) s₀ H₀ fp) elt te)
  (hs:∀ v,foldedSetIterable iter X.env v=pure v:=by intro _; rfl) :
  PE X (.ListComp elt [⟨.Tuple [.Name x1 px1, .Name x2 px2] kk tp,iter,ifs,0⟩] scope pos) (vS X.K wi cap tt te):=by
 intro pins s σ H Q I h
 rw [eval_ListComp]
 refine aDG hc hkind hnames hx1 hxf1 hx2 hxf2 hNc hlen hcap hns hnsk hfree hi ht he hs (use:=none) I h fun D C H' s' J q ⟨m,hn⟩ cf=>⟨m,hn,fun h' hs' => ?_⟩
 exact ⟨.ref D,H',J.turned (t':=s'.toks) (it:=C) (fun b o hb e=>(hs'.2 b hb).trans e) cf.hn cf.hL (.inr cf.h1) cf.h2 cf.h3,rfl,q⟩
def sO (sc scope:Scope) (x1 x2:Str) (ns:List Str) (cap:List Nat) (N:List Str):Bool:=jI sc scope x1 ns cap N && jI sc scope x2 ns cap N && decide (x1≠x2)
theorem aFB {X:Cx}{x1 x2:Str}{px1 px2 tp pos:Pos}{kk:Nat}{iter elt:Expr}{ifs:List Expr}{scope sc:Scope}{N:List Str} (ns:List Str) (cap:List Nat) {wi:TI}{tt:TT}{te:TE} (hc:X.calm=true) (hsc:X.env.scope=sc) (hN:X.N=N) (ok:sO sc scope x1 x2 ns cap N=true)
  (hi:PI X (.Tuple [.Name x1 px1, .Name x2 px2] kk tp) iter wi)
  (ht:∀ cs C s₀ H₀ fp,PIf (aX X scope cs C (x1::x2::ns) s₀ H₀ fp) ifs tt) (he:∀ cs C s₀ H₀ fp,PE (aX X scope cs C (x1::x2::ns) s₀ H₀ fp) elt te)
  (hs:∀ v,foldedSetIterable iter X.env v=pure v:=by intro _; rfl) :
  PE X (.ListComp elt [⟨.Tuple [.Name x1 px1, .Name x2 px2] kk tp,iter,ifs,0⟩] scope pos) (vS X.K wi cap tt te):=by
 subst hsc hN
 unfold sO at ok
 simp only [Bool.and_eq_true,decide_eq_true_eq] at ok
 obtain ⟨⟨ok1,ok2⟩,hne⟩:=ok
 have k:=nP ok1
 have k2:=nP ok2
 have nd:(x1::x2::ns).Nodup:=by
  obtain ⟨a1,a2⟩:=List.nodup_cons.mp k.hNc
  obtain ⟨b1,b2⟩:=List.nodup_cons.mp k2.hNc
  refine List.nodup_cons.mpr ⟨fun h => ?_,k2.hNc⟩
  rcases List.mem_cons.mp h with h | h
  ·exact hne h
  ·exact a1 h
 have one:∀ {x:Str},(scope.names.lookup x=some .local\/scope.names.lookup x=some .cell)->Loc (relabel scope X.env) x:=fun h=>by
  rcases h with z | z
  ·exact .inl (lookup_relabel_local z)
  ·exact .inr (eO z)
 have two:∀ {x:Str},(scope.names.lookup x=some .local\/scope.names.lookup x=some .cell)->scope.names.lookup x=some .cell\/(relabel scope X.env).names.lookup x=some .local:=fun h=>by
  rcases h with z | z
  ·exact .inr (lookup_relabel_local z)
  ·exact .inl z
 exact aIJ hc k.hkind k.hnames (one k.hx) (two k.hx) (one k2.hx) (two k2.hx) nd k.hlen k.hcap k.hns k.hnsk k.hfree hi ht he hs
end L2
namespace Z
open PySem L2
theorem EnvR.cap2 {K:Fg}{G:Hp}{Γ:Gm}{σ:St} (h:EnvR K G Γ σ) {d1 d2:D}{v1 v2:V} (e1:Den K G d1 v1) (e2:Den K G d2 v2) (cap:List Nat):EnvR K G (some d1::some d2::cap.map fun k=>(Γ[k]?).join) (some v1::some v2::cap.map fun k=>(σ[k]?).join):=by
 have c:=h.cap e2 cap
 refine ⟨by simp,fun i q' z => ?_⟩
 cases i with
 | zero=>simp at z; subst z; exact ⟨v1,rfl,e1⟩
 | succ i=>exact c.get i q' z
def Comp2 (X:Cx) (x1 x2:Str) (ns:List Str) (cap:List Nat) (elt:Expr) (ifs:List Expr) (scope:Scope) (Γ:Gm) (k:D->Mem->Prop) (ds:List D) (M1:Mem):Prop :=
 ds.length<=sizeLine/\(∀ d∈ds,∃ d1 d2,d = .tup [d1,d2])/\∃ I:Nat->List D->Mem->Prop,I 0 [] M1 /\
  (∀ i d1 d2 acc M2,ds[i]?=some (.tup [d1,d2])->I i acc M2->∀ cs C s₀ H₀ fp,GIf (aX X scope cs C (x1::x2::ns) s₀ H₀ fp) ifs (some d1::some d2::cap.map fun k=>(Γ[k]?).join) M2 fun c M3 =>
   if c=true then (∀ cs C s₀ H₀ fp,GE (aX X scope cs C (x1::x2::ns) s₀ H₀ fp) elt (some d1::some d2::cap.map fun k=>(Γ[k]?).join) M3 (fun y M4=>I (i+1) (acc++[y]) M4)) else I (i+1) acc M3) /\
  (∀ acc M2,I ds.length acc M2->∀ a,M2 a=none->k (.mt a) (b7 M2 a (.lst acc)))
theorem aLP {X:Cx}{x1 x2:Str}{px1 px2 tp:Pos}{kk:Nat}{iter elt:Expr}{ifs:List Expr}{scope:Scope}{ns:List Str}{cap:List Nat}{Γ:Gm}{M:Mem}{k:D->Mem->Prop}
  (h:GI X (.Tuple [.Name x1 px1, .Name x2 px2] kk tp) iter Γ M (Comp2 X x1 x2 ns cap elt ifs scope Γ k)) {σ:St}{G H:Hp}{Q:VK} (en:EnvR X.K G Γ σ) (rl:Rel X.K G H M) (q:Cont X.K M k G H Q) :
  vS X.K (tUI X (.Tuple [.Name x1 px1, .Name x2 px2] kk tp) iter) cap (fun σ H Q=>∀ cs C s₀ H₀ fp,aDE (aX X scope cs C (x1::x2::ns) s₀ H₀ fp) ifs σ H Q) (fun σ H Q=>∀ cs C s₀ H₀ fp,tU (aX X scope cs C (x1::x2::ns) s₀ H₀ fp) elt σ H Q) σ H Q:=by
 refine h σ G H _ en rl fun J G1 H1 ds M1 s1 yd ⟨hlen,hpair,I,h0,hstep,hend⟩ A hA => ?_
 have hA':=s1.rel.free hA
 refine ⟨fun i m ys H2=>m=ds.length - i/\i<=ds.length/\∃ G2 M2 acc,Stp X.K G1 H1 M1 G2 H2 M2/\H2 A=some (.lst ys)/\G2 A=none/\M2 A=none/\Dens X.K G2 acc ys/\I i acc M2/\acc.length<=i,
  ⟨ds.length,by simp,Nat.zero_le _,G1,M1,[],(Stp.refl s1.rel).aside hA hA'.1 hA'.2,bQ,hA'.1,hA'.2,dB,h0,Nat.le_refl _⟩,?_⟩
 rintro i m ys H2 ⟨rfl,hi,G2,M2,acc,s2,hl,hg,hm,dn,hI,hacc⟩
 refine ⟨hl,?_⟩
 by_cases hlt:i < ds.length
 ·refine .inr ⟨yd.go i G2 H2 M2 s2.gg s2.rel hlt,by rw [<- dn.len]; omega,fun x H3 y => ?_⟩
  obtain ⟨G3,d,s3,hd,ex⟩:=yd.yld i G2 H2 M2 x H3 s2.gg s2.rel hlt y
  obtain ⟨l3,g3,m3⟩:=s3.fr A _ hl hg hm
  obtain ⟨d1,d2,ed⟩:=hpair d (zMo hd)
  subst ed
  obtain ⟨p,vs,ev,sq,dn3⟩:=ex.tup_
  obtain ⟨va,vb,evs,da,db⟩:=dens2 dn3
  subst evs
  refine ⟨p,va,vb,ev,R.eG s3.rel.same sq,?_⟩
  intro cs C s₀ H₀ fp
  have en3:=((en.up s1.gg).up (s2.trans s3).gg).cap2 da db cap
  refine hstep i d1 d2 acc M2 hd hI cs C s₀ H₀ fp _ G3 H3 _ en3 s3.rel fun c G4 H4 M4 s4 h4 => ?_
  obtain ⟨l4,g4,m4⟩:=s4.fr A _ l3 g3 m3
  cases c with
  | true =>
   rw [if_pos rfl] at h4 ⊢
   intro cs C s₀ H₀ fp
   refine h4 cs C s₀ H₀ fp _ G4 H4 _ (en3.up s4.gg) s4.rel fun y G5 H5 d5 M5 s5 e5 h5 => ?_
   obtain ⟨l5,g5,m5⟩:=s5.fr A _ l4 g4 m4
   have s25:=((s2.trans s3).trans s4).trans s5
   exact ⟨l5,ds.length - (i+1),by omega,rfl,hlt,G5,M5,acc++[d5],s25.aside hA g5 m5,bQ,g5,m5,(dn.up ((s3.trans s4).trans s5).gg).append (cB e5 dB),h5,by rw [List.length_append,List.length_singleton]; omega⟩
  | false =>
   rw [if_neg zBf] at h4 ⊢
   exact ⟨ds.length - (i+1),by omega,rfl,hlt,G4,M4,acc,(s2.trans s3).trans s4,l4,g4,m4,dn.up (s3.trans s4).gg,h4,by omega⟩
 ·have e:i=ds.length:=by omega
  subst e
  exact .inl ⟨yd.stop _ G2 H2 M2 s2.gg s2.rel rfl,q _ _ _ _ _ (s1.trans (s2.track hA hg hl dn)) yI (hend acc M2 hI A hm)⟩
section
variable {X:Cx}{Γ:Gm}{M:Mem}{k:D->Mem->Prop}{pos:Pos}{iter:Expr}
theorem aI3 {x1 x2:Str}{px1 px2 tp:Pos}{kk:Nat}{elt:Expr}{ifs:List Expr}{scope sc:Scope}{N:List Str} (ns:List Str) (cap:List Nat) (h:GI X (.Tuple [.Name x1 px1, .Name x2 px2] kk tp) iter Γ M (Comp2 X x1 x2 ns cap elt ifs scope Γ k))
  (hsc:X.env.scope=sc:=by rfl) (hN:X.N=N:=by rfl) (ok:sO sc scope x1 x2 ns cap N=true:=by first | decide +kernel | kernel_rfl!) (hc:X.calm=true:=by rfl) (hs:∀ v,foldedSetIterable iter X.env v=pure v:=by intro _; rfl) :
  GE X (.ListComp elt [⟨.Tuple [.Name x1 px1, .Name x2 px2] kk tp,iter,ifs,0⟩] scope pos) Γ M k:=fun σ G H Q en rl q =>
 cK (aFB ns cap hc hsc hN ok pUI (fun cs C s₀ H₀ fp pins s σ H Q I h=>h cs C s₀ H₀ fp pins s I) (fun cs C s₀ H₀ fp pins s σ H Q I h=>h cs C s₀ H₀ fp pins s I) hs) (aLP h en rl q)
def aGA (X:Cx) (x1 x2:Str) (ns:List Str) (cap:List Nat) (elt:Expr) (ifs:List Expr) (scope:Scope) (Γ:Gm) (k:D->Mem->Prop) (ds:List D) (M1:Mem):Prop :=
 ds.length<=sizeLine/\(∀ d∈ds,∃ d1 d2,d = .tup [d1,d2])/\∃ I:Nat->List D->Mem->Prop,I 0 [] M1 /\
  (∀ i d1 d2 acc M2,ds[i]?=some (.tup [d1,d2])->I i acc M2->∀ cs C s₀ H₀ fp,GIf (aX X scope cs C (x1::x2::ns) s₀ H₀ fp) ifs (some d1::some d2::cap.map fun k=>(Γ[k]?).join) M2 fun c M3 =>
   if c=true then (∀ cs C s₀ H₀ fp,GE (aX X scope cs C (x1::x2::ns) s₀ H₀ fp) elt (some d1::some d2::cap.map fun k=>(Γ[k]?).join) M3 (fun y M4=>I (i+1) (acc++[y]) M4)) else I (i+1) acc M3) /\
  (∀ acc M2,I ds.length acc M2->k (.lst acc) M2)
theorem aEX {x1 x2:Str}{px1 px2 tp:Pos}{kk:Nat}{elt:Expr}{ifs:List Expr}{scope sc:Scope}{N:List Str} (ns:List Str) (cap:List Nat) (h:GI X (.Tuple [.Name x1 px1, .Name x2 px2] kk tp) iter Γ M (aGA X x1 x2 ns cap elt ifs scope Γ k))
  (hsc:X.env.scope=sc:=by rfl) (hN:X.N=N:=by rfl) (ok:sO sc scope x1 x2 ns cap N=true:=by first | decide +kernel | kernel_rfl!) (hc:X.calm=true:=by rfl) (hs:∀ v,foldedSetIterable iter X.env v=pure v:=by intro _; rfl) :
  GE X (.ListComp elt [⟨.Tuple [.Name x1 px1, .Name x2 px2] kk tp,iter,ifs,0⟩] scope pos) Γ M k:=by
 refine mV (aI3 ns cap ?_ hsc hN ok hc hs)
 intro σ G H Rr en rl q
 refine h σ G H Rr en rl fun J G1 H1 ds M1 s1 yd ⟨hl,hpair,I,h0,hstep,hend⟩ => ?_
 exact q J G1 H1 ds M1 s1 yd ⟨hl,hpair,I,h0,hstep,fun acc M2 hI a ha=>⟨a,acc,M2,rfl,aS,ha,(Le.refl M2).upd ha,hend acc M2 hI⟩⟩
theorem aNX {x1 x2:Str}{ns:List Str}{cap:List Nat}{elt:Expr}{ifs:List Expr}{scope:Scope}{ds:List D}{M1:Mem} (hl:ds.length<=sizeLine) (hpair:∀ d∈ds,∃ d1 d2,d = .tup [d1,d2]) (I:Nat->List D->Mem->Prop) (h0:I 0 [] M1)
  (hs:∀ i d1 d2 acc M2,ds[i]?=some (.tup [d1,d2])->I i acc M2->∀ cs C s₀ H₀ fp,GIf (aX X scope cs C (x1::x2::ns) s₀ H₀ fp) ifs (some d1::some d2::cap.map fun k=>(Γ[k]?).join) M2 fun c M3 =>
   if c=true then (∀ cs C s₀ H₀ fp,GE (aX X scope cs C (x1::x2::ns) s₀ H₀ fp) elt (some d1::some d2::cap.map fun k=>(Γ[k]?).join) M3 (fun y M4=>I (i+1) (acc++[y]) M4)) else I (i+1) acc M3)
  (hd:∀ acc M2,I ds.length acc M2->k (.lst acc) M2):aGA X x1 x2 ns cap elt ifs scope Γ k ds M1:=⟨hl,hpair,I,h0,hs,hd⟩
end
end Z
namespace Q
open PySem L2 Z
theorem zN {xs ys:List D}{d:D} (h:d∈jZ xs ys):∃ d1 d2,d = .tup [d1,d2]:=by
 unfold jZ at h
 obtain ⟨p,_,rfl⟩:=List.mem_map.mp h
 exact ⟨_,_,rfl⟩
theorem aFP {xs ys:List D}{i:Nat}{d1 d2:D} (h:(jZ xs ys)[i]?=some (.tup [d1,d2])):xs[i]?=some d1/\ys[i]?=some d2:=by
 unfold jZ at h
 rw [List.getElem?_map] at h
 obtain ⟨p,hp,e⟩:=Option.map_eq_some_iff.mp h
 injection e with e
 injection e with e1 e
 injection e with e2 _
 have:=List.getElem?_zip_eq_some.mp (show (xs.zip ys)[i]?=some (p.1,p.2) from hp)
 rw [e1,e2] at this
 exact this
end Q
namespace Q
open PySem L2 Z U
def pq (q:Rat):Int × Int:=(q.num,(q.den:Int))
def aL (q:Rat):D:=pairD (pq q)
def bD (xs:List Rat):List D:=xs.map aL
theorem cQ (xs:List Rat):(bD xs).length=xs.length:=zLm ..
structure Bq (q:Rat):Prop where
 a:q.num.natAbs < 10 ^ 400
 b:q.den < 10 ^ 400
theorem Bq.g {q:Rat} (h:Bq q):Bg (pq q):=⟨h.a,by show ((q.den:Int)).natAbs < _; rw [Int.natAbs_natCast]; exact h.b,by show (q.den:Int)≠0; have:=q.den_nz; omega⟩
def BqL (xs:List Rat):Prop:=∀ x∈xs,Bq x
theorem lQ (a b:Rat):ltP (pq a) (pq b)=decide (a < b):=by
 unfold ltP pq
 rw [decide_eq_decide]
 exact (Rat.lt_iff a b).symm
theorem aPU {a b:Rat}:pq a=pq b↔a=b:=by
 constructor
 ·intro e
  unfold pq at e
  injection e with e1 e2
  exact Rat.ext e1 (by omega)
 ·intro e; rw [e]
theorem iP (a b:Rat):eqD (aL a) (aL b)=decide (a=b):=by
 unfold aL
 rw [aJI,decide_eq_decide,aPU]
theorem l7 (t b:Int) (hb:b≠0):lowP t b=pq (Rat.divInt t b):=by
 obtain ⟨h1,h2⟩:=Num.xL t b hb
 unfold pq
 rw [<- h1,<- h2]
 rfl
theorem fV (q:Rat):(q.den:Int)≠0:=by have:=q.den_nz; omega
theorem aKP (a b:Rat):lowP ((pq a).1 * (pq b).2+(pq b).1 * (pq a).2) ((pq a).2 * (pq b).2)=pq (a+b):=by
 exact (l7 _ _ (Int.mul_ne_zero (fV a) (fV b))).trans (congrArg pq (Num.aCC a b))
theorem aJ1 (a b:Rat):lowP ((pq a).1 * (pq b).2 - (pq b).1 * (pq a).2) ((pq a).2 * (pq b).2)=pq (a - b):=by
 exact (l7 _ _ (Int.mul_ne_zero (fV a) (fV b))).trans (congrArg pq (Num.aBV a b))
theorem aIB (a b:Rat):lowP ((pq a).1 * (pq b).1) ((pq a).2 * (pq b).2)=pq (a * b):=by
 exact (l7 _ _ (Int.mul_ne_zero (fV a) (fV b))).trans (congrArg pq (Num.aKO a b))
theorem yS (xs:List Int):iT xs=bD (xs.map fun (x:Int)=>(x:Rat)):=by
 unfold iT bD
 rw [List.map_map,List.map_map]; rfl
def aME:Ct:=fun ds M k=>∃ p q:Int × Int,ds=[pairD p,pairD q]/\(p.1.natAbs < 10 ^ 400/\p.2.natAbs < 10 ^ 400)/\(q.1.natAbs < 10 ^ 400/\q.2.natAbs < 10 ^ 400)/\k (.bl (ltP p q)) M
theorem Bq.p {q:Rat} (h:Bq q):(pq q).1.natAbs < 10 ^ 400/\(pq q).2.natAbs < 10 ^ 400:=⟨h.g.a,h.g.b⟩
def aOH:Ct:=fun ds M k=>∃ a b:Rat,ds=[aL a,aL b]/\Bq a/\Bq b/\k (aL (a+b)) M
def aLB:Ct:=fun ds M k=>∃ a b:Rat,ds=[aL a,aL b]/\Bq a/\Bq b/\k (aL (a - b)) M
def aKK:Ct:=fun ds M k=>∃ a b:Rat,ds=[aL a,aL b]/\Bq a/\Bq b/\k (aL (a * b)) M
theorem pX {ws:List Rat}{i:Nat} (h:i < ws.length):atI (bD ws) (i:Int)=some (aL (ws.getD i 0)):=dC (by
 unfold bD
 rw [List.getElem?_map,zGd,zGe h]; rfl)
def gZ (ws:List Rat) (x:Rat):Nat:=(ws.filter fun w=>decide (w < x)).length
def aU (ws:List Rat) (x:Rat):List Int:=if gZ ws x < ws.length/\ws.getD (gZ ws x) 0=x then [(gZ ws x:Int) - 1,(gZ ws x:Int)] else [(gZ ws x:Int) - 1]
theorem aMT {ws:List Rat}{x:Rat} (h:x ∉ ws):(gZ ws x:Int) - 1=ix ws x:=by
 unfold gZ ix
 congr 3
 refine List.filter_congr fun w hw => ?_
 have:w≠x:=fun e=>h (e ▸ hw)
 rw [decide_eq_decide]
 grind
theorem aOW {ws:List Rat} (u:Up ws) {i:Nat} (h:i < ws.length):gZ ws ws[i]=i:=by
 have e:ix ws ws[i]=i:=fT u h
 have:(ws.filter fun w=>decide (w<=ws[i])).length=gZ ws ws[i]+1:=by
  unfold gZ
  clear e
  revert i
  induction ws with
  | nil=>intro i h; exact absurd h (Nat.not_lt_zero _)
  | cons a r ih =>
   intro i h
   obtain ⟨u1,u2⟩:=List.pairwise_cons.mp u
   cases i with
   | zero =>
    have e1:r.filter (fun w=>decide (w<=a))=[]:=List.filter_eq_nil_iff.mpr fun b hb=>by have:=u1 b hb; simp only [decide_eq_true_eq]; grind
    have e2:r.filter (fun w=>decide (w < a))=[]:=List.filter_eq_nil_iff.mpr fun b hb=>by have:=u1 b hb; simp only [decide_eq_true_eq]; grind
    show ((a::r).filter fun w=>decide (w<=a)).length=((a::r).filter fun w=>decide (w < a)).length+1
    rw [List.filter_cons_of_pos (by simp only [decide_eq_true_eq]; grind),List.filter_cons_of_neg (by simp only [decide_eq_true_eq]; grind),e1,e2]; rfl
   | succ i =>
    have hi:i < r.length:=by simpa using h
    have:=u1 _ (List.getElem_mem hi)
    show ((a::r).filter fun w=>decide (w<=r[i])).length=((a::r).filter fun w=>decide (w < r[i])).length+1
    rw [List.filter_cons_of_pos (by simp only [decide_eq_true_eq]; grind),List.filter_cons_of_pos (by simp only [decide_eq_true_eq]; grind),List.length_cons,List.length_cons,ih u2 hi]
 unfold ix at e
 omega
theorem qQ {ws:List Rat}{x:Rat} (h:x ∉ ws):aU ws x=[ix ws x]:=by
 unfold aU
 rw [if_neg,aMT h]
 rintro ⟨h1,h2⟩
 refine h ?_
 rw [zGd,zGe h1] at h2
 exact h2 ▸ List.getElem_mem h1
theorem l8 {ws:List Rat} (u:Up ws) {i:Nat} (h:i < ws.length):aU ws ws[i]=[(i:Int) - 1,(i:Int)]:=by
 unfold aU
 rw [aOW u h,if_pos ⟨h,by rw [zGd,zGe h]; rfl⟩]
theorem vL (ws:List Rat) (x:Rat):(aU ws x).length<=2:=by unfold aU; split <;> simp
def aL4:Ct:=fun ds M k=>∃ (ws:List Rat) (x:Rat),ds=[.tup (bD ws),aL x]/\BqL ws/\ws.length<=100/\Bq x/\k (.lst ((aU ws x).map .int)) M
theorem pV (xs ys:List Rat):bD xs++bD ys=bD (xs++ys):=by unfold bD; rw [List.map_append]
theorem tR {xs:List Rat}{js:List Nat} (h:∀ j∈js,j < xs.length):yE (bD xs) js=bD (iY xs js):=by
 unfold yE bD iY
 rw [List.map_map]
 refine List.map_congr_left fun j hj => ?_
 have:=h j hj
 rw [zGd,List.getElem?_map,zGe this]
 show aL xs[j]=aL (xs.getD j 0)
 rw [zGd,zGe this]; rfl
def yd (A:Yd):D:=o7 (bD A.ws) (bD A.us) A.K
theorem aK8 {xs ys:List Rat}{zs:List Str} (u:Up xs) (v:Up ys) (g:R.Good (xs.length - 1) zs) (hz:zs.length=ys.length - 1):rY (bD xs) (bD ys) zs=yd (Yd.ofG xs ys zs u v g hz):=by
 unfold rY yd
 rw [tR (iM fun z hz=>(g z hz).1),tR (iN hz)]; rfl
noncomputable instance:DecidableEq Yd:=fun _ _=>Classical.propDecidable _
structure Bnd (S:List Rat):Prop where
 len:S.length<=90
 b:BqL S
def aKE (a b:Bool):Bool:=a && b
def aNB (a b:Bool):Bool:=a || b
def aJ7 (a b:Bool):Bool:=a && !b
end Q
namespace U
open PySem
def dU (a b:Rat):Rat:=if a < b then b else a
def i8 (a b:Rat):Rat:=if b < a then b else a
theorem le_max {t a b:Rat}:t<=dU a b↔t<=a\/t<=b:=by
 unfold dU; split <;> grind
theorem max_le {t a b:Rat}:dU a b<=t↔a<=t/\b<=t:=by
 unfold dU; split <;> grind
theorem le_min {t a b:Rat}:t<=i8 a b↔t<=a/\t<=b:=by
 unfold i8; split <;> grind
def tB (ws:List Rat) (x p q:Rat) (b:Nat):Rat :=
 if b=0 then (x - ws.getD 0 0) / p else if b < ws.length then dU ((x - ws.getD b 0) / p) ((ws.getD (b - 1) 0 - x) / q) else (ws.getD (b - 1) 0 - x) / q
theorem gD {ws:List Rat}{i:Nat} (h:i < ws.length):ws.getD i 0=ws[i]:=by rw [zGd,zGe h]; rfl
theorem oQ {a w x:Rat} (ha:0 < a):w<=x / a↔w * a<=x:=(aGC ha).symm
theorem uS {ws:List Rat}{x p q t:Rat} (hp:0 < p) (hq:0 < q) (hl:1<=ws.length) {b:Nat} (hb:b<=ws.length):t<=tB ws x p q b↔(∃ h:b < ws.length,t * p<=x - ws[b])\/∃ h:b - 1 < ws.length,0 < b/\t * q<=ws[b - 1] - x:=by
 unfold tB
 by_cases h0:b=0
 ·subst h0
  rw [if_pos rfl,oQ hp,gD (show 0 < ws.length by omega)]
  constructor
  ·intro h; exact .inl ⟨by omega,h⟩
  ·rintro (⟨_,h⟩ | ⟨_,h,_⟩)
   ·exact h
   ·omega
 ·rw [if_neg h0]
  by_cases h1:b < ws.length
  ·rw [if_pos h1,le_max,oQ hp,oQ hq,gD h1,gD (show b - 1 < ws.length by omega)]
   constructor
   ·rintro (h | h)
    ·exact .inl ⟨h1,h⟩
    ·exact .inr ⟨by omega,by omega,h⟩
   ·rintro (⟨_,h⟩ | ⟨_,_,h⟩)
    ·exact .inl h
    ·exact .inr h
  ·rw [if_neg h1,oQ hq,gD (show b - 1 < ws.length by omega)]
   constructor
   ·intro h; exact .inr ⟨by omega,by omega,h⟩
   ·rintro (⟨h,_⟩ | ⟨_,_,h⟩)
    ·exact absurd h h1
    ·exact h
theorem pK {ws:List Rat} (u:Up ws) {x p q t:Rat} (hp:0 < p) (hq:0 < q) (hl:1<=ws.length) (ht:0 < t) {b:Nat} (hb:b<=ws.length):¬ t<=tB ws x p q b↔∃ v,x - p * t < v/\v < x+q * t/\ix ws v=(b:Int) - 1:=by
 rw [uS hp hq hl hb]
 have pt:0 < p * t:=Rat.mul_pos hp ht
 have qt:0 < q * t:=Rat.mul_pos hq ht
 have cp:t * p=p * t:=Rat.mul_comm _ _
 have cq:t * q=q * t:=Rat.mul_comm _ _
 constructor
 ·intro h
  have g1:∀ h':b < ws.length,x - p * t < ws[b]:=fun h'=>by
   refine Rat.not_le.mp fun z=>h (.inl ⟨h',?_⟩); rw [cp]; grind
  have g2:∀ h':b - 1 < ws.length,0 < b->ws[b - 1] < x+q * t:=fun h' hb0=>by
   refine Rat.not_le.mp fun z=>h (.inr ⟨h',hb0,?_⟩); rw [cq]; grind
  obtain ⟨lo,l1,l2,l3⟩:∃ lo,x - p * t<=lo/\(∀ h':b - 1 < ws.length,0 < b->ws[b - 1]<=lo)/\(lo < x+q * t/\∀ h':b < ws.length,lo < ws[b]):=by
   by_cases hb0:0 < b
   ·have hb1:b - 1 < ws.length:=by omega
    have g3:∀ h':b < ws.length,ws[b - 1] < ws[b]:=fun h'=>(i6 u hb1 h').mpr (by omega)
    by_cases hc:x - p * t<=ws[b - 1]
    ·exact ⟨ws[b - 1],hc,fun _ _=>by grind,g2 hb1 hb0,g3⟩
    ·exact ⟨x - p * t,by grind,fun _ _=>by grind,by grind,g1⟩
   ·exact ⟨x - p * t,by grind,fun _ h=>absurd h hb0,by grind,g1⟩
  obtain ⟨hi,k1,k2,k3⟩:∃ hi,hi<=x+q * t/\(∀ h':b < ws.length,hi<=ws[b])/\lo < hi:=by
   by_cases h':b < ws.length
   ·by_cases hc:ws[b]<=x+q * t
    ·exact ⟨ws[b],hc,fun _=>by grind,l3.2 h'⟩
    ·exact ⟨x+q * t,by grind,fun _=>by grind,l3.1⟩
   ·exact ⟨x+q * t,by grind,fun z=>absurd z h',l3.1⟩
  refine ⟨(lo+hi) / 2,by grind,by grind,?_⟩
  refine rM u (by omega) (by omega) fun i hi' => ?_
  constructor
  ·intro z
   by_cases h':b < ws.length
   ·have a1:=k2 h'
    have:=(i6 u hi' h').mp (by grind)
    omega
   ·omega
  ·intro z
   have hb1:b - 1 < ws.length:=by omega
   have a1:=l2 hb1 (by omega)
   have a2:=(gQ u hi' hb1).mpr (by omega)
   grind
 ·rintro ⟨v,v1,v2,v3⟩ (⟨h',z⟩ | ⟨h',hb0,z⟩)
  ·have:¬ ws[b]<=v:=fun y=>by have:=(d6 u h').mp y; omega
   rw [cp] at z
   grind
  ·have:ws[b - 1]<=v:=(d6 u h').mpr (by omega)
   rw [cq] at z
   grind
theorem oB {ws:List Rat} (u:Up ws) {x p q:Rat} (hp:0 < p) (hq:0 < q) (hl:1<=ws.length) {b:Nat} (hb:b<=ws.length):tB ws x p q b<=0↔(b:Int) - 1∈Q.aU ws x:=by
 have key:tB ws x p q b<=0↔(∀ h:b < ws.length,x<=ws[b])/\∀ h:b - 1 < ws.length,0 < b->ws[b - 1]<=x:=by
  have e:∀ a r:Rat,0 < a->(r / a<=0↔r<=0):=fun a r ha=>by
   have:=Rat.div_lt_iff (a:=r) (c:=0) ha
   have h2:=oQ (w:=0) (x:=r) ha
   have h3:=Rat.lt_div_iff (a:=0) (b:=r) ha
   constructor
   ·intro z; refine Rat.not_lt.mp fun y => ?_; have:=h3.mpr (by grind); grind
   ·intro z; refine Rat.not_lt.mp fun y => ?_; have:=h3.mp y; grind
  unfold tB
  by_cases h0:b=0
  ·subst h0
   rw [if_pos rfl,e _ _ hp,gD (show 0 < ws.length by omega)]
   constructor
   ·intro z; exact ⟨fun _=>by grind,fun _ y=>by omega⟩
   ·rintro ⟨z,_⟩; have:=z (by omega); grind
  ·rw [if_neg h0]
   by_cases h1:b < ws.length
   ·rw [if_pos h1,max_le,e _ _ hp,e _ _ hq,gD h1,gD (show b - 1 < ws.length by omega)]
    constructor
    ·rintro ⟨y,z⟩; exact ⟨fun _=>by grind,fun _ _=>by grind⟩
    ·rintro ⟨y,z⟩; have:=y h1; have:=z (by omega) (by omega); exact ⟨by grind,by grind⟩
   ·rw [if_neg h1,e _ _ hq,gD (show b - 1 < ws.length by omega)]
    constructor
    ·intro z; exact ⟨fun y=>absurd y h1,fun _ _=>by grind⟩
    ·rintro ⟨_,z⟩; have:=z (by omega) (by omega); grind
 rw [key]
 by_cases hx:x∈ws
 ·obtain ⟨i,hi,rfl⟩:=List.getElem_of_mem hx
  rw [Q.l8 u hi]
  simp only [List.mem_cons,List.not_mem_nil,or_false]
  constructor
  ·rintro ⟨y,z⟩
   have a:b < ws.length->i<=b:=fun h=>(gQ u hi h).mp (y h)
   have c:0 < b->b - 1<=i:=fun h=>(gQ u (by omega) hi).mp (z (by omega) h)
   by_cases h1:b < ws.length
   ·have:=a h1
    by_cases h2:0 < b
    ·have:=c h2; omega
    ·omega
   ·have:=c (by omega); omega
  ·intro h
   refine ⟨fun h1=>(gQ u hi h1).mpr (by omega),fun h1 h2=>(gQ u h1 hi).mpr (by omega)⟩
 ·rw [Q.qQ hx,List.mem_singleton]
  have a:=pC ws x
  have c:=o8 ws x
  constructor
  ·rintro ⟨y,z⟩
   refine (rM u (by omega) (by omega) fun i hi => ?_).symm
   constructor
   ·intro w
    by_cases h1:b < ws.length
    ·have h2:=y h1
     have h3:ws[i]≠x:=fun e=>hx (e ▸ List.getElem_mem hi)
     have:=(i6 u hi h1).mp (by grind)
     omega
    ·omega
   ·intro w
    have h2:=z (by omega) (by omega)
    have:=(gQ u hi (show b - 1 < ws.length by omega)).mpr (by omega)
    grind
  ·intro h
   refine ⟨fun h1 => ?_,fun h1 h2=>(d6 u h1).mpr (by omega)⟩
   have:¬ ws[b]<=x:=fun z=>by have:=(d6 u h1).mp z; omega
   grind
def gN (tx:Nat->Rat) (ty:Rat) (out:Nat->Bool):Nat->Rat->Rat
 | 0,t=>t
 | n+1,t=>if out n then i8 (gN tx ty out n t) (dU (tx n) ty) else gN tx ty out n t
def i9 (tx ty:Nat->Rat) (out:Nat->Nat->Bool) (na:Nat):Nat->Rat->Rat
 | 0,t=>t
 | m+1,t=>gN tx (ty m) (fun a=>out a m) na (i9 tx ty out na m t)
theorem aBZ {tx:Nat->Rat}{ty:Rat}{out:Nat->Bool}{t0 t:Rat}:∀ n,t<=gN tx ty out n t0↔t<=t0/\∀ a,a < n->out a=true->t<=dU (tx a) ty
 | 0=>by unfold gN; exact ⟨fun h=>⟨h,fun a ha=>absurd ha (Nat.not_lt_zero _)⟩,fun h=>h.1⟩
 | n+1=>by
  have ih:=aBZ (tx:=tx) (ty:=ty) (out:=out) (t0:=t0) (t:=t) n
  unfold gN
  by_cases ho:out n=true
  ·rw [if_pos ho,le_min,ih]
   constructor
   ·rintro ⟨⟨h1,h2⟩,h3⟩
    refine ⟨h1,fun a ha hoa => ?_⟩
    by_cases e:a=n
    ·subst e; exact h3
    ·exact h2 a (by omega) hoa
   ·rintro ⟨h1,h2⟩
    exact ⟨⟨h1,fun a ha=>h2 a (by omega)⟩,h2 n (by omega) ho⟩
  ·rw [if_neg ho,ih]
   constructor
   ·rintro ⟨h1,h2⟩
    refine ⟨h1,fun a ha hoa => ?_⟩
    by_cases e:a=n
    ·subst e; exact absurd hoa ho
    ·exact h2 a (by omega) hoa
   ·rintro ⟨h1,h2⟩
    exact ⟨h1,fun a ha=>h2 a (by omega)⟩
theorem rK {tx ty:Nat->Rat}{out:Nat->Nat->Bool}{na:Nat}{t0 t:Rat}:∀ m,t<=i9 tx ty out na m t0↔t<=t0/\∀ b,b < m->∀ a,a < na->out a b=true->t<=dU (tx a) (ty b)
 | 0=>by unfold i9; exact ⟨fun h=>⟨h,fun a ha=>absurd ha (Nat.not_lt_zero _)⟩,fun h=>h.1⟩
 | m+1=>by
  have ih:=rK (tx:=tx) (ty:=ty) (out:=out) (na:=na) (t0:=t0) (t:=t) m
  unfold i9
  rw [aBZ,ih]
  constructor
  ·rintro ⟨⟨h1,h2⟩,h3⟩
   refine ⟨h1,fun b hb a ha ho => ?_⟩
   by_cases e:b=m
   ·subst e; exact h3 a ha ho
   ·exact h2 b (by omega) a ha ho
  ·rintro ⟨h1,h2⟩
   exact ⟨⟨h1,fun b hb=>h2 b (by omega)⟩,h2 m (by omega)⟩
def fP (A:Yd) (x y:Rat):Bool:=(Q.aU A.us y).all fun l=>(Q.aU A.ws x).all fun k=>R.aT A.K k l
structure Pz (p q r s:Rat):Prop where
 p:0 < p
 q:0 < q
 r:0 < r
 s:0 < s
def hgt (A:Yd) (p q r s x y:Rat):Rat:=i9 (tB A.ws x p r) (tB A.us y q s) (fun a b => !R.aT A.K ((a:Int) - 1) ((b:Int) - 1)) (A.ws.length+1) (A.us.length+1) (tB A.ws x p r 0)
def aI (A:Yd) (p q r s x y:Rat):Rat:=if fP A x y then hgt A p q r s x y else 0
structure IsH (A:Yd) (p q r s x y h:Rat):Prop where
 nn:0<=h
 i:∀ t,0 < t->(t<=h↔∀ u v,x - p * t < u->u < x+r * t->y - q * t < v->v < y+s * t->A.has u v=true)
theorem mE (ws:List Rat) (x:Rat):∃ k,k∈Q.aU ws x:=by
 unfold Q.aU
 split <;> exact ⟨_, .head _⟩
theorem k8 {ws:List Rat}{x:Rat}{k:Int} (h:k∈Q.aU ws x):∃ b:Nat,b<=ws.length/\k=(b:Int) - 1:=by
 have hl:Q.gZ ws x<=ws.length:=List.length_filter_le _ _
 unfold Q.aU at h
 split at h
 ·rename_i g
  simp only [List.mem_cons,List.not_mem_nil,or_false] at h
  rcases h with rfl | rfl
  ·exact ⟨_,hl,rfl⟩
  ·exact ⟨Q.gZ ws x+1,by omega,by omega⟩
 ·rw [List.mem_singleton] at h
  exact ⟨_,hl,h⟩
theorem uK {A:Yd}{x y:Rat} (h:fP A x y=true):2<=A.ws.length/\2<=A.us.length:=by
 rcases A.big with e | e
 ·exfalso
  obtain ⟨l,hl⟩:=mE A.us y
  obtain ⟨k,hk⟩:=mE A.ws x
  unfold fP at h
  rw [List.all_eq_true] at h
  have:=h l hl
  rw [List.all_eq_true] at this
  have:=this k hk
  rw [e,cnil] at this
  cases this
 ·exact e
theorem rW {A:Yd}{x y:Rat} (h:fP A x y=true) {k l:Int} (hk:k∈Q.aU A.ws x) (hl:l∈Q.aU A.us y):R.aT A.K k l=true:=by
 unfold fP at h
 rw [List.all_eq_true] at h
 have:=h l hl
 rw [List.all_eq_true] at this
 exact this k hk
theorem vY {A:Yd}{x y:Rat} (h:¬ fP A x y=true):∃ k∈Q.aU A.ws x,∃ l∈Q.aU A.us y,R.aT A.K k l=false:=by
 refine Classical.byContradiction fun z=>h ?_
 unfold fP
 rw [List.all_eq_true]
 intro l hl
 rw [List.all_eq_true]
 intro k hk
 refine (Bool.not_eq_false _).mp fun e=>z ⟨k,hk,l,hl,e⟩
theorem n4 (A:Yd) {p q r s:Rat} (z:Pz p q r s) (x y:Rat):IsH A p q r s x y (aI A p q r s x y):=by
 unfold aI
 by_cases hin:fP A x y=true
 ·rw [if_pos hin]
  obtain ⟨b1,b2⟩:=uK hin
  have ge:∀ t,t<=hgt A p q r s x y↔t<=tB A.ws x p r 0/\∀ b,b < A.us.length+1->∀ a,a < A.ws.length+1->R.aT A.K ((a:Int) - 1) ((b:Int) - 1)=false->t<=dU (tB A.ws x p r a) (tB A.us y q s b):=fun t=>by
   unfold hgt
   rw [rK]
   simp only [Bool.not_eq_true']
  constructor
  ·refine (ge 0).mpr ⟨?_,fun b hb a ha ho => ?_⟩
   ·refine Rat.not_lt.mp fun w => ?_
    have h0:=(oB A.uw z.p z.r (x:=x) (b:=0) (by omega) (by omega)).mp (by grind)
    obtain ⟨l,hl⟩:=mE A.us y
    have:=rW hin h0 hl
    rw [R.cD (by omega)] at this
    cases this
   ·refine Rat.not_lt.mp fun w => ?_
    have w':dU (tB A.ws x p r a) (tB A.us y q s b)<=0:=by grind
    obtain ⟨w1,w2⟩:=max_le.mp w'
    have:=rW hin ((oB A.uw z.p z.r (by omega) (by omega)).mp w1) ((oB A.uu z.q z.s (by omega) (by omega)).mp w2)
    rw [ho] at this; cases this
  ·intro t ht
   rw [ge t]
   constructor
   ·rintro ⟨_,h⟩ u v h1 h2 h3 h4
    refine (Bool.not_eq_false _).mp fun e => ?_
    have a1:=pC A.ws u
    have a2:=o8 A.ws u
    have c1:=pC A.us v
    have c2:=o8 A.us v
    obtain ⟨a,ha⟩:∃ a:Nat,ix A.ws u=(a:Int) - 1:=⟨(ix A.ws u+1).toNat,by omega⟩
    obtain ⟨b,hb⟩:∃ b:Nat,ix A.us v=(b:Int) - 1:=⟨(ix A.us v+1).toNat,by omega⟩
    have e':R.aT A.K ((a:Int) - 1) ((b:Int) - 1)=false:=by rw [<- ha,<- hb]; exact e
    rcases le_max.mp (h b (by omega) a (by omega) e') with g | g
    ·exact (pK A.uw z.p z.r (by omega) ht (by omega)).mpr ⟨u,h1,h2,ha⟩ g
    ·exact (pK A.uu z.q z.s (by omega) ht (by omega)).mpr ⟨v,h3,h4,hb⟩ g
   ·intro h
    have qt:0 < q * t:=Rat.mul_pos z.q ht
    have st:0 < s * t:=Rat.mul_pos z.s ht
    constructor
    ·refine Classical.byContradiction fun w => ?_
     obtain ⟨u,h1,h2,h3⟩:=(pK A.uw z.p z.r (b:=0) (by omega) ht (by omega)).mp w
     have:=h u y h1 h2 (by grind) (by grind)
     unfold Yd.has inY at this
     rw [h3,R.cD (by omega)] at this
     cases this
    ·intro b hb a ha ho
     rw [le_max]
     refine Classical.byContradiction fun w => ?_
     obtain ⟨u,h1,h2,h3⟩:=(pK A.uw z.p z.r (b:=a) (by omega) ht (by omega)).mp fun g=>w (.inl g)
     obtain ⟨v,g1,g2,g3⟩:=(pK A.uu z.q z.s (b:=b) (by omega) ht (by omega)).mp fun g=>w (.inr g)
     have:=h u v h1 h2 g1 g2
     unfold Yd.has inY at this
     rw [h3,g3,ho] at this
     cases this
 ·rw [if_neg hin]
  refine ⟨by grind,fun t ht=>⟨fun h=>absurd h (by grind),fun h => ?_⟩⟩
  exfalso
  have pt:0 < p * t:=Rat.mul_pos z.p ht
  have rt:0 < r * t:=Rat.mul_pos z.r ht
  have qt:0 < q * t:=Rat.mul_pos z.q ht
  have st:0 < s * t:=Rat.mul_pos z.s ht
  rcases A.big with e | ⟨b1,b2⟩
  ·have:=h x y (by grind) (by grind) (by grind) (by grind)
   unfold Yd.has inY at this
   rw [e,cnil] at this
   cases this
  ·obtain ⟨k,hk,l,hl,hc⟩:=vY hin
   obtain ⟨a,ha,rfl⟩:=k8 hk
   obtain ⟨b,hb,rfl⟩:=k8 hl
   have w1:=(oB A.uw z.p z.r (by omega) ha).mpr hk
   have w2:=(oB A.uu z.q z.s (by omega) hb).mpr hl
   obtain ⟨u,h1,h2,h3⟩:=(pK A.uw z.p z.r (x:=x) (b:=a) (by omega) ht ha).mp (by grind)
   obtain ⟨v,g1,g2,g3⟩:=(pK A.uu z.q z.s (x:=y) (b:=b) (by omega) ht hb).mp (by grind)
   have:=h u v h1 h2 g1 g2
   unfold Yd.has inY at this
   rw [h3,g3,hc] at this
   cases this
theorem uY (A:Yd) {p q r s:Rat} (z:Pz p q r s) {x y:Rat} (h:fP A x y=true):0 < aI A p q r s x y:=by
 have i:=n4 A z x y
 refine Classical.byContradiction fun w => ?_
 unfold aI at w
 rw [if_pos h] at w
 obtain ⟨b1,b2⟩:=uK h
 have ge:∀ t,t<=hgt A p q r s x y↔t<=tB A.ws x p r 0/\∀ b,b < A.us.length+1->∀ a,a < A.ws.length+1->R.aT A.K ((a:Int) - 1) ((b:Int) - 1)=false->t<=dU (tB A.ws x p r a) (tB A.us y q s b):=fun t=>by
  unfold hgt
  rw [rK]
  simp only [Bool.not_eq_true']
 -- the least of finitely many times above nought
 have fin:∀ (f:Nat->Rat) (n:Nat),∃ d,0 < d/\∀ a,a < n->0 < f a->d<=f a:=fun f n=>by
  induction n with
  | zero=>exact ⟨1,by grind,fun a ha=>absurd ha (Nat.not_lt_zero _)⟩
  | succ n ih =>
   obtain ⟨d,h1,h2⟩:=ih
   by_cases hf:0 < f n/\f n < d
   ·refine ⟨f n,hf.1,fun a ha hp => ?_⟩
    by_cases e:a=n
    ·subst e; grind
    ·have:=h2 a (by omega) hp; grind
   ·refine ⟨d,h1,fun a ha hp => ?_⟩
    by_cases e:a=n
    ·subst e; grind
    ·exact h2 a (by omega) hp
 obtain ⟨d1,p1,q1⟩:=fin (tB A.ws x p r) (A.ws.length+1)
 obtain ⟨d2,p2,q2⟩:=fin (tB A.us y q s) (A.us.length+1)
 have hd:i8 d1 d2<=hgt A p q r s x y:=by
  have m1:i8 d1 d2<=d1:=(le_min.mp (Rat.le_refl)).1
  have m2:i8 d1 d2<=d2:=(le_min.mp (Rat.le_refl)).2
  refine (ge _).mpr ⟨?_,fun b hb a ha ho=>le_max.mpr ?_⟩
  ·have:0 < tB A.ws x p r 0:=by
    refine Rat.not_le.mp fun w => ?_
    have h0:=(oB A.uw z.p z.r (x:=x) (b:=0) (by omega) (by omega)).mp w
    obtain ⟨l,hl⟩:=mE A.us y
    have:=rW h h0 hl
    rw [R.cD (by omega)] at this
    cases this
   have:=q1 0 (by omega) this
   grind
  ·by_cases w1:0 < tB A.ws x p r a
   ·have:=q1 a ha w1; exact .inl (by grind)
   ·by_cases w2:0 < tB A.us y q s b
    ·have:=q2 b hb w2; exact .inr (by grind)
    ·exfalso
     have:=rW h ((oB A.uw z.p z.r (by omega) (by omega)).mp (Rat.not_lt.mp w1)) ((oB A.uu z.q z.s (by omega) (by omega)).mp (Rat.not_lt.mp w2))
     rw [ho] at this; cases this
 have:0 < i8 d1 d2:=by unfold i8; split <;> assumption
 grind
end U
namespace R
open PySem L2
structure RFull (bs:List Bool) (n:Nat) (q:RS):Prop where
 run:∀ r∈q.1,r.1 < r.2/\r.2 < n/\(∀ a,r.1<=a->a < r.2->bs.getD a false=true)/\bs.getD r.2 false=false/\∀ a,a+1=r.1->bs.getD a false=false
 opn:∀ b,q.2=some b->b < n/\(∀ a,b<=a->a < n->bs.getD a false=true)/\∀ a,a+1=b->bs.getD a false=false
 non:q.2=none->∀ a,a+1=n->bs.getD a false=false
 cov:∀ a,a < n->bs.getD a false=true->(∃ r∈q.1,r.1<=a/\a < r.2)\/∃ b,q.2=some b/\b<=a
 ord:q.1.Pairwise fun r s=>r.2<=s.1
 bef:∀ r∈q.1,∀ b,q.2=some b->r.2<=b
theorem qC (bs:List Bool):∀ n,RFull bs n (rto bs n)
 | 0=>⟨fun r h=>(nomatch h),fun b h=>(nomatch h),fun _ a h=>by omega,fun a h=>by omega, .nil,fun r h=>(nomatch h)⟩
 | n+1=>by
  have I:=qC bs n
  show RFull bs (n+1) (rstep (rto bs n) n (bs.getD n false))
  generalize hq:rto bs n=q at I
  obtain ⟨tl,bg⟩:=q
  cases ht:bs.getD n false with
  | true =>
   cases bg with
   | none =>
    refine ⟨fun r h => ?_,fun b h => ?_,fun h=>(nomatch h),fun a h e => ?_,I.ord,fun r h b hb => ?_⟩
    ·obtain ⟨h1,h2,h3,h4,h5⟩:=I.run r h
     exact ⟨h1,by omega,h3,h4,h5⟩
    ·cases h
     exact ⟨by omega,fun a h1 h2=>by rw [show a=n by omega]; exact ht,I.non rfl⟩
    ·by_cases ha:a=n
     ·exact .inr ⟨n,rfl,by omega⟩
     ·rcases I.cov a (by omega) e with h1 | ⟨b,h1,h2⟩
      ·exact .inl h1
      ·cases h1
    ·cases hb
     have:=(I.run r h).2.1
     exact Nat.le_of_lt this
   | some b0 =>
    refine ⟨fun r h => ?_,fun b h => ?_,fun h=>(nomatch h),fun a h e => ?_,I.ord,fun r h b hb=>I.bef r h b hb⟩
    ·obtain ⟨h1,h2,h3,h4,h5⟩:=I.run r h
     exact ⟨h1,by omega,h3,h4,h5⟩
    ·cases h
     obtain ⟨h1,h2,h3⟩:=I.opn b0 rfl
     exact ⟨by omega,fun a g1 g2=>by
      by_cases ha:a=n
      ·rw [ha]; exact ht
      ·exact h2 a g1 (by omega),h3⟩
    ·by_cases ha:a=n
     ·exact .inr ⟨b0,rfl,by have:=(I.opn b0 rfl).1; omega⟩
     ·exact I.cov a (by omega) e
  | false =>
   cases bg with
   | none =>
    refine ⟨fun r h => ?_,fun b h=>(nomatch h),fun _ a ha=>by rw [show a=n by omega]; exact ht,fun a h e => ?_,I.ord,fun r h b hb=>(nomatch hb)⟩
    ·obtain ⟨h1,h2,h3,h4,h5⟩:=I.run r h
     exact ⟨h1,by omega,h3,h4,h5⟩
    ·refine I.cov a ?_ e
     by_cases ha:a=n
     ·rw [ha,ht] at e; cases e
     ·omega
   | some b0 =>
    obtain ⟨o1,o2,o3⟩:=I.opn b0 rfl
    refine ⟨fun r h => ?_,fun b h=>(nomatch h),fun _ a ha=>by rw [show a=n by omega]; exact ht,fun a h e => ?_,?_,fun r h b hb=>(nomatch hb)⟩
    ·rcases List.mem_append.mp h with h | h
     ·obtain ⟨h1,h2,h3,h4,h5⟩:=I.run r h
      exact ⟨h1,by omega,h3,h4,h5⟩
     ·rw [List.mem_singleton] at h
      subst h
      exact ⟨o1,by show n < n+1; omega,o2,ht,o3⟩
    ·have ha:a < n:=by
      by_cases ha:a=n
      ·rw [ha,ht] at e; cases e
      ·omega
     rcases I.cov a ha e with ⟨r,h1,h2⟩ | ⟨b,h1,h2⟩
     ·exact .inl ⟨r,List.mem_append_left _ h1,h2⟩
     ·cases h1
      exact .inl ⟨(b0,n),List.mem_append_right _ (List.mem_singleton.mpr rfl),h2,ha⟩
    ·show (tl++[(b0,n)]).Pairwise _
     rw [List.pairwise_append]
     refine ⟨I.ord,List.pairwise_singleton _ _,fun r hr s hs => ?_⟩
     rw [List.mem_singleton] at hs
     subst hs
     exact I.bef r hr b0 rfl
theorem aHY {bs:List Bool}{r:Nat × Nat} (h:r∈runs bs):r.1 < r.2/\r.2<=bs.length/\(∀ a,r.1<=a->a < r.2->bs.getD a false=true)/\bs.getD r.2 false=false/\∀ a,a+1=r.1->bs.getD a false=false:=by
 obtain ⟨h1,h2,h3,h4,h5⟩:=(qC (bs++[false]) (bs.length+1)).run r h
 simp only [getD_snoc] at h3 h4 h5
 exact ⟨h1,by omega,h3,h4,h5⟩
theorem aHJ {bs:List Bool}{a:Nat} (h:bs.getD a false=true):∃ r∈runs bs,r.1<=a/\a < r.2:=by
 have I:=qC (bs++[false]) (bs.length+1)
 have ha:a < bs.length:=by
  by_cases ha:a < bs.length
  ·exact ha
  ·rw [zGd,List.getElem?_eq_none (by omega)] at h; cases h
 rcases I.cov a (by omega) (by rw [getD_snoc]; exact h) with h1 | ⟨b,h1,_⟩
 ·exact h1
 ·rw [aIM (bs++[false]) bs.length (by rw [getD_snoc,zGd,List.getElem?_eq_none (by omega)]; rfl)] at h1
  cases h1
theorem aJB (bs:List Bool):(runs bs).Pairwise fun r s=>r.2<=s.1:=(qC (bs++[false]) (bs.length+1)).ord
structure Qd where
 f:Nat
 p:Nat
 b:Nat
 e:Nat
def qsP (zs:List Str) (f n p:Nat):List Qd:=(runs (dY zs f p n)).map fun r=>⟨f,p,r.1,r.2⟩
def qsF (zs:List Str) (f n m:Nat):List Qd:=(List.range m).flatMap (qsP zs f n)
def Lf (nx ny f:Nat):Nat:=if f % 2=0 then nx else ny
def Nf (nx ny f:Nat):Nat:=(if f % 2=0 then ny else nx) - 1
def qsN (zs:List Str) (nx ny k:Nat):List Qd:=(List.range k).flatMap fun f=>qsF zs f (Nf nx ny f) (Lf nx ny f)
def Bef (q r:Qd):Prop:=q.f < r.f\/q.f=r.f/\(q.p < r.p\/q.p=r.p/\q.e<=r.b)
theorem oR {zs:List Str}{f n p:Nat}{q:Qd}:q∈qsP zs f n p↔q.f=f/\q.p=p/\(q.b,q.e)∈runs (dY zs f p n):=by
 unfold qsP
 rw [List.mem_map]
 constructor
 ·rintro ⟨r,hr,rfl⟩; exact ⟨rfl,rfl,hr⟩
 ·rintro ⟨rfl,rfl,h⟩; exact ⟨_,h,rfl⟩
theorem aB1 {zs:List Str}{nx ny k:Nat}{q:Qd}:q∈qsN zs nx ny k↔q.f < k/\q.p < Lf nx ny q.f/\(q.b,q.e)∈runs (dY zs q.f q.p (Nf nx ny q.f)):=by
 unfold qsN qsF
 simp only [List.mem_flatMap,List.mem_range,oR]
 constructor
 ·rintro ⟨f,hf,p,hp,rfl,rfl,h⟩; exact ⟨hf,hp,h⟩
 ·rintro ⟨hf,hp,h⟩; exact ⟨_,hf,_,hp,rfl,rfl,h⟩
theorem aPX (zs:List Str) (nx ny k:Nat):(qsN zs nx ny k).Pairwise Bef:=by
 unfold qsN qsF
 rw [List.pairwise_flatMap]
 refine ⟨fun f _ => ?_,List.pairwise_lt_range.imp fun {f g} hfg x hx y hy => ?_⟩
 ·rw [List.pairwise_flatMap]
  refine ⟨fun p _ => ?_,List.pairwise_lt_range.imp fun {p q} hpq x hx y hy => ?_⟩
  ·unfold qsP
   rw [List.pairwise_map]
   exact (aJB _).imp fun {r s} h => .inr ⟨rfl, .inr ⟨rfl,h⟩⟩
  ·obtain ⟨e1,e2,_⟩:=oR.mp hx
   obtain ⟨e3,e4,_⟩:=oR.mp hy
   exact .inr ⟨by rw [e1,e3], .inl (by rw [e2,e4]; exact hpq)⟩
 ·obtain ⟨p,_,hx⟩:=List.mem_flatMap.mp hx
  obtain ⟨q,_,hy⟩:=List.mem_flatMap.mp hy
  obtain ⟨e1,_⟩:=oR.mp hx
  obtain ⟨e3,_⟩:=oR.mp hy
  exact .inl (by rw [e1,e3]; exact hfg)
def yH (zs:List Str) (nx ny f p a:Nat):Prop:=f < 4/\p < Lf nx ny f/\a < Nf nx ny f/\edge zs f p a=true
theorem vI (zs:List Str) (f p n a:Nat):(dY zs f p n).getD a false=(decide (a < n) && edge zs f p a):=by
 unfold dY
 rw [zGd,List.getElem?_map]
 by_cases h:a < n
 ·rw [List.getElem?_range h,decide_eq_true h]; simp
 ·rw [List.getElem?_eq_none (by rw [List.length_range]; omega),decide_eq_false h]; rfl
theorem gW {zs:List Str}{nx ny:Nat}{q:Qd} (h:q∈qsN zs nx ny 4):q.f < 4/\q.p < Lf nx ny q.f/\q.b < q.e/\q.e<=Nf nx ny q.f/\(∀ a,q.b<=a->a < q.e->yH zs nx ny q.f q.p a)/\¬ yH zs nx ny q.f q.p q.e/\∀ a,a+1=q.b->¬ yH zs nx ny q.f q.p a:=by
 obtain ⟨h1,h2,h3⟩:=aB1.mp h
 obtain ⟨r1,r2,r3,r4,r5⟩:=aHY h3
 simp only [vI] at r3 r4 r5
 have len:(dY zs q.f q.p (Nf nx ny q.f)).length=Nf nx ny q.f:=by simp [dY]
 rw [len] at r2
 refine ⟨h1,h2,r1,r2,fun a g1 g2 => ?_,fun e => ?_,fun a g1 e => ?_⟩
 ·have:=r3 a g1 g2
  rw [Bool.and_eq_true,decide_eq_true_eq] at this
  exact ⟨h1,h2,this.1,this.2⟩
 ·rw [e.2.2.2,decide_eq_true e.2.2.1] at r4; cases r4
 ·have:=r5 a g1
  rw [e.2.2.2,decide_eq_true e.2.2.1] at this; cases this
def Cov (l:List Qd) (f p a:Nat):Prop:=∃ q∈l,q.f=f/\q.p=p/\q.b<=a/\a < q.e
theorem aNK {zs:List Str}{nx ny f p a:Nat} (h:yH zs nx ny f p a):Cov (qsN zs nx ny 4) f p a:=by
 obtain ⟨h1,h2,h3,h4⟩:=h
 obtain ⟨r,hr,g1,g2⟩:=aHJ (bs:=dY zs f p (Nf nx ny f)) (a:=a) (by rw [vI,h4,decide_eq_true h3]; rfl)
 exact ⟨⟨f,p,r.1,r.2⟩,aB1.mpr ⟨h1,h2,hr⟩,rfl,rfl,g1,g2⟩
structure Keys (P:Nat->Nat->Nat->Prop) (ks:List (List Int)):Prop where
 nd:ks.Nodup
 iff:∀ x,x∈ks↔∃ f p a:Nat,x=[(f:Int),(p:Int),(a:Int)]/\P f p a
end R
namespace U
open PySem
structure Ax where
 ls:List Rat
 al:List Rat
 c:Int->Int->Bool
 x:Rat
 y:Rat
 dn:Rat
 up:Rat
 da:Rat
 ua:Rat
structure Ax.Ok (X:Ax):Prop where
 ul:Up X.ls
 uy:Up X.al
 dn:0 < X.dn
 up:0 < X.up
 da:0 < X.da
 ua:0 < X.ua
structure Ax.Hi (X:Ax) (H:Rat):Prop where
 nn:0<=H
 i:∀ t,0 < t->(t<=H↔∀ u v,X.x - X.dn * t < u->u < X.x+X.up * t->X.y - X.da * t < v->v < X.y+X.ua * t->X.c (ix X.ls u) (ix X.al v)=true)
def Ax.edge (X:Ax) (d:Bool) (p a:Nat):Prop:=if d then X.c ((p:Int) - 1) (a:Int)=true/\X.c (p:Int) (a:Int)=false else X.c (p:Int) (a:Int)=true/\X.c ((p:Int) - 1) (a:Int)=false
def Ax.at (X:Ax) (d:Bool) (h:Rat):Rat:=if d then X.x+X.up * h else X.x - X.dn * h
structure Ax.Tc (X:Ax) (d:Bool) (p b e:Nat) (h:Rat):Prop where
 line:X.ls.getD p 0=X.at d h
 lo:X.y - X.da * h<=X.al.getD e 0
 hi:X.al.getD b 0<=X.y+X.ua * h
theorem lD {a b c:Rat} (hc:0 < c):a * c<=b * c↔a<=b:=by
 rw [U.aGC hc,Rat.mul_div_cancel (by grind)]
theorem aOA {b e L U:Rat} (h1:b < e) (h2:L < U) (h3:L < e) (h4:b < U):∃ v,b<=v/\v < e/\L < v/\v < U:=by
 by_cases h:L < b
 ·exact ⟨b,by grind,h1,h,h4⟩
 ·by_cases g:U < e
  ·exact ⟨(L+U) / 2,by grind,by grind,by grind,by grind⟩
  ·exact ⟨(L+e) / 2,by grind,by grind,by grind,by grind⟩
theorem oU {a h H:Rat} (ha:0 < a) (hh:h < H):a * h < a * H:=Rat.mul_lt_mul_of_pos_left hh ha
theorem aKG {ws:List Rat} (u:Up ws) {b e:Nat} (he:e < ws.length) {v:Rat} (hbe:b < e) (h1:ws.getD b 0<=v) (h2:v < ws.getD e 0):∃ a:Nat,b<=a/\a < e/\ix ws v=(a:Int):=by
 rw [gD (by omega)] at h1 h2
 have g1:=(d6 (x:=v) u (i:=b) (by omega)).mp h1
 have g2:¬ ((e:Nat):Int)<=ix ws v:=fun z=>by have:=(d6 (x:=v) u (i:=e) (by omega)).mpr z; grind
 exact ⟨(ix ws v).toNat,by omega,by omega,by omega⟩
theorem aQN {X:Ax} (o:X.Ok) {H:Rat} (hi:X.Hi H) {d:Bool}{p b e:Nat}{h:Rat} (hp:p < X.ls.length) (hbe:b < e) (he:e < X.al.length) (ed:∀ a,b<=a->a < e->X.edge d p a) (tc:X.Tc d p b e h) (h0:0<=h) (hH:h<=H):h=H:=by
 refine Classical.byContradiction fun ne => ?_
 have hlt:h < H:=by grind
 have H0:0 < H:=by grind
 have full:=(hi.i H H0).mp (by grind)
 have m1:=oU o.dn hlt
 have m2:=oU o.up hlt
 have m3:=oU o.da hlt
 have m4:=oU o.ua hlt
 have z1:0<=X.dn * h:=Rat.mul_nonneg (by have:=o.dn; grind) h0
 have z2:0<=X.up * h:=Rat.mul_nonneg (by have:=o.up; grind) h0
 have z3:0<=X.da * h:=Rat.mul_nonneg (by have:=o.da; grind) h0
 have z4:0<=X.ua * h:=Rat.mul_nonneg (by have:=o.ua; grind) h0
 have lo:=tc.lo
 have hi':=tc.hi
 have bl:X.al.getD b 0 < X.al.getD e 0:=by rw [gD (by omega),gD he]; exact (i6 o.uy (by omega) he).mpr hbe
 obtain ⟨v,v1,v2,v3,v4⟩:=aOA (b:=X.al.getD b 0) (e:=X.al.getD e 0) (L:=X.y - X.da * H) (U:=X.y+X.ua * H) bl (by grind) (by grind) (by grind)
 obtain ⟨a,a1,a2,ea⟩:=aKG o.uy he hbe v1 v2
 have edg:=ed a a1 a2
 have ln:=tc.line
 rw [gD hp] at ln
 unfold Ax.edge at edg
 unfold Ax.at at ln
 cases d with
 | true =>
  rw [if_pos rfl] at edg ln
  have:=full X.ls[p] v (by grind) (by grind) v3 v4
  rw [fT o.ul hp,ea,edg.2] at this
  cases this
 | false =>
  rw [if_neg zBf] at edg ln
  obtain ⟨u,u1,u2,eu⟩:=before o.ul hp (x:=(X.x - X.dn * H+X.ls[p]) / 2) (by grind)
  have:=full u v (by grind) (by grind) v3 v4
  rw [eu,ea,edg.2] at this
  cases this
theorem toward {ws:List Rat} (u:Up ws) {x p q:Rat} (hp:0 < p) (hq:0 < q) (hl:1<=ws.length) {a:Nat} (ha:a<=ws.length) {T:Rat} (hT:tB ws x p q a=T) (h0:0 < T) :
  (a < ws.length/\ws.getD a 0=x - p * T/\tB ws x p q (a+1) < T)\/(0 < a/\ws.getD (a - 1) 0=x+q * T/\tB ws x p q (a - 1) < T):=by
 have qT:0 < q * T:=Rat.mul_pos hq h0
 have pT:0 < p * T:=Rat.mul_pos hp h0
 have le:=fun t=>uS (t:=t) (x:=x) hp hq hl ha
 rw [hT] at le
 rcases (le T).mp (by grind) with ⟨h1,h2⟩ | ⟨h1,h2,h3⟩
 ·left
  have h4:=(le ((x - ws[a]) / p)).mpr (.inl ⟨h1,by rw [Rat.div_mul_cancel (by grind)]; grind⟩)
  have h5:x - ws[a]<=T * p:=by
   have:=(U.lD hp).mpr h4
   rwa [Rat.div_mul_cancel (by grind)] at this
  have e:ws[a]=x - p * T:=by grind
  refine ⟨h1,by rw [gD h1,e],Rat.not_le.mp fun z => ?_⟩
  rcases (uS (t:=T) (x:=x) hp hq hl (b:=a+1) (by omega)).mp z with ⟨g1,g2⟩ | ⟨g1,g2,g3⟩
  ·have:=(i6 u (i:=a) (j:=a+1) h1 g1).mpr (by omega)
   grind
  ·have e2:ws[a+1 - 1]=ws[a]:=by congr 1
   rw [e2] at g3
   grind
 ·right
  have h4:=(le ((ws[a - 1] - x) / q)).mpr (.inr ⟨h1,h2,by rw [Rat.div_mul_cancel (by grind)]; grind⟩)
  have h5:ws[a - 1] - x<=T * q:=by
   have:=(U.lD hq).mpr h4
   rwa [Rat.div_mul_cancel (by grind)] at this
  have e:ws[a - 1]=x+q * T:=by grind
  refine ⟨h2,by rw [gD h1,e],Rat.not_le.mp fun z => ?_⟩
  rcases (uS (t:=T) (x:=x) hp hq hl (b:=a - 1) (by omega)).mp z with ⟨g1,g2⟩ | ⟨g1,g2,g3⟩
  ·grind
  ·have:=(i6 u (i:=a - 1 - 1) (j:=a - 1) g1 h1).mpr (by omega)
   grind
theorem aCV {ws:List Rat}{y p q T:Rat} (hp:0 < p) (hq:0 < q) (hl:1<=ws.length) {b:Nat} (hb:b<=ws.length) (h:tB ws y p q b<=T):(b < ws.length->y - p * T<=ws.getD b 0)/\(0 < b->ws.getD (b - 1) 0<=y+q * T):=by
 have le:=fun t=>uS (t:=t) (x:=y) hp hq hl hb
 refine ⟨fun g => ?_,fun g => ?_⟩
 ·rw [gD g]
  have h4:=(le ((y - ws[b]) / p)).mpr (.inl ⟨g,by rw [Rat.div_mul_cancel (by grind)]; grind⟩)
  have:=(U.lD hp).mpr (Rat.le_trans h4 h)
  rw [Rat.div_mul_cancel (by grind)] at this
  grind
 ·rw [gD (by omega)]
  have h4:=(le ((ws[b - 1] - y) / q)).mpr (.inr ⟨by omega,g,by rw [Rat.div_mul_cancel (by grind)]; grind⟩)
  have:=(U.lD hq).mpr (Rat.le_trans h4 h)
  rw [Rat.div_mul_cancel (by grind)] at this
  grind
structure Ax.Fr (X:Ax):Prop where
 l0:∀ j,X.c (-1) j=false
 l1:∀ j,X.c ((X.ls.length:Int) - 1) j=false
 a0:∀ i,X.c i (-1)=false
 a1:∀ i,X.c i ((X.al.length:Int) - 1)=false
theorem aBY {X:Ax} (o:X.Ok) (hl:1<=X.ls.length) (hm:1<=X.al.length) (fr:X.Fr) {H:Rat} (H0:0 < H) {a b:Nat} (ha:a<=X.ls.length) (hb:b<=X.al.length) (ht:tB X.ls X.x X.dn X.up a=H) (hy:tB X.al X.y X.da X.ua b<=H) (ho:X.c ((a:Int) - 1) ((b:Int) - 1)=false) :
  ∃ a',a'<=X.ls.length/\tB X.ls X.x X.dn X.up a' < H/\(X.c ((a':Int) - 1) ((b:Int) - 1)=true->∃ (d:Bool) (p:Nat),p < X.ls.length/\1<=b/\b < X.al.length/\X.edge d p (b - 1)/\X.ls.getD p 0=X.at d H/\X.y - X.da * H<=X.al.getD b 0/\X.al.getD (b - 1) 0<=X.y+X.ua * H):=by
 obtain ⟨y1,y2⟩:=aCV o.da o.ua hm hb hy
 have bb:∀ i,X.c i ((b:Int) - 1)=true->1<=b/\b < X.al.length:=fun i hc=>by
  refine ⟨?_,?_⟩
  ·refine Classical.byContradiction fun z => ?_
   have:b=0:=by omega
   subst this
   have:=fr.a0 i
   rw [show (((0:Nat):Int) - 1) = -1 by omega,this] at hc; cases hc
  ·refine Classical.byContradiction fun z => ?_
   have:b=X.al.length:=by omega
   rw [this,fr.a1 i] at hc; cases hc
 rcases toward o.ul o.dn o.up hl ha ht H0 with ⟨h1,h2,h3⟩ | ⟨h1,h2,h3⟩
 ·refine ⟨a+1,by omega,h3,fun hc => ?_⟩
  obtain ⟨b1,b2⟩:=bb _ hc
  refine ⟨false,a,h1,b1,b2,?_,by unfold Ax.at; rw [if_neg zBf]; exact h2,y1 b2,y2 (by omega)⟩
  unfold Ax.edge
  rw [if_neg zBf,show (((b - 1:Nat):Int))=(b:Int) - 1 by omega]
  rw [show (((a+1:Nat):Int) - 1)=(a:Int) by omega] at hc
  exact ⟨hc,ho⟩
 ·refine ⟨a - 1,by omega,h3,fun hc => ?_⟩
  obtain ⟨b1,b2⟩:=bb _ hc
  refine ⟨true,a - 1,by omega,b1,b2,?_,by unfold Ax.at; rw [if_pos rfl]; exact h2,y1 b2,y2 (by omega)⟩
  unfold Ax.edge
  rw [if_pos rfl,show (((b - 1:Nat):Int))=(b:Int) - 1 by omega]
  rw [show (((a - 1:Nat):Int))=(a:Int) - 1 by omega]
  rw [show (((a - 1:Nat):Int) - 1)=(a:Int) - 1 - 1 by omega] at hc
  exact ⟨hc,ho⟩
def axX (A:Yd) (p q r s x y:Rat):Ax:=⟨A.ws,A.us,fun i j=>R.aT A.K i j,x,y,p,r,q,s⟩
def axY (A:Yd) (p q r s x y:Rat):Ax:=⟨A.us,A.ws,fun i j=>R.aT A.K j i,y,x,q,s,p,r⟩
def axF (A:Yd) (p q r s x y:Rat) (f:Nat):Ax:=if f % 2=0 then axX A p q r s x y else axY A p q r s x y
theorem aF3 {A:Yd}{p q r s:Rat} (z:Pz p q r s) (x y:Rat):(axX A p q r s x y).Ok:=⟨A.uw,A.uu,z.p,z.r,z.q,z.s⟩
theorem aFK {A:Yd}{p q r s:Rat} (z:Pz p q r s) (x y:Rat):(axY A p q r s x y).Ok:=⟨A.uu,A.uw,z.q,z.s,z.p,z.r⟩
theorem hU {A:Yd}{p q r s:Rat} (z:Pz p q r s) (x y:Rat) (f:Nat):(axF A p q r s x y f).Ok:=by unfold axF; split; exact aF3 z x y; exact aFK z x y
theorem aNU {A:Yd}{p q r s x y H:Rat} (h:IsH A p q r s x y H):(axX A p q r s x y).Hi H:=⟨h.nn,h.i⟩
theorem aOK {A:Yd}{p q r s x y H:Rat} (h:IsH A p q r s x y H):(axY A p q r s x y).Hi H:=⟨h.nn,fun t ht=>(h.i t ht).trans ⟨fun g u v h1 h2 h3 h4=>g v u h3 h4 h1 h2,fun g u v h1 h2 h3 h4=>g v u h3 h4 h1 h2⟩⟩
theorem aPE {A:Yd}{p q r s x y H:Rat} (h:IsH A p q r s x y H) (f:Nat):(axF A p q r s x y f).Hi H:=by unfold axF; split; exact aNU h; exact aOK h
theorem aNR (A:Yd) (p q r s x y:Rat):(axX A p q r s x y).Fr:=⟨fun j=>(A.lowX j).1,fun j=>(A.lowX j).2,fun i=>(A.lowY i).1,fun i=>(A.lowY i).2⟩
theorem aN6 (A:Yd) (p q r s x y:Rat):(axY A p q r s x y).Fr:=⟨fun j=>(A.lowY j).1,fun j=>(A.lowY j).2,fun i=>(A.lowX i).1,fun i=>(A.lowX i).2⟩
def eS (f:Nat):Bool:=decide (2<=f)
theorem wA {A:Yd}{p q r s x y:Rat}{f l a:Nat}:R.edge A.K f l a=true↔(axF A p q r s x y f).edge (eS f) l a:=by
 unfold R.edge Ax.edge axF eS axX axY
 dsimp only
 by_cases h:f % 2=0
 ·rw [if_pos h,if_pos h,if_pos h]
  by_cases g:f < 2
  ·rw [if_pos g,decide_eq_false (by omega),if_neg zBf,Bool.and_eq_true,Bool.not_eq_true']
  ·rw [if_neg g,decide_eq_true (by omega),if_pos rfl,Bool.and_eq_true,Bool.not_eq_true']
 ·rw [if_neg h,if_neg h,if_neg h]
  by_cases g:f < 2
  ·rw [if_pos g,decide_eq_false (by omega),if_neg zBf,Bool.and_eq_true,Bool.not_eq_true']
  ·rw [if_neg g,decide_eq_true (by omega),if_pos rfl,Bool.and_eq_true,Bool.not_eq_true']
def cX (A:Yd):List R.Qd:=R.qsN A.K A.ws.length A.us.length 4
def Tch (A:Yd) (p q r s x y h:Rat) (d:R.Qd):Prop:=(axF A p q r s x y d.f).Tc (eS d.f) d.p d.b d.e h
theorem aEM (A:Yd) (p q r s x y:Rat) (f:Nat):(axF A p q r s x y f).ls.length=R.Lf A.ws.length A.us.length f:=by unfold axF R.Lf; split <;> rfl
theorem yF (A:Yd) (p q r s x y:Rat) (f:Nat):(axF A p q r s x y f).al.length - 1=R.Nf A.ws.length A.us.length f:=by unfold axF R.Nf; split <;> rfl
theorem aPM {A:Yd}{p q r s x y H h:Rat} (z:Pz p q r s) (hi:IsH A p q r s x y H) {d:R.Qd} (hd:d∈cX A) (tc:Tch A p q r s x y h d) (h0:0<=h) (hH:h<=H):h=H:=by
 obtain ⟨r1,r2,r3,r4,r5,_⟩:=R.gW hd
 have n1:=aEM A p q r s x y d.f
 have n2:=yF A p q r s x y d.f
 exact aQN (hU z x y d.f) (aPE hi d.f) (by omega) r3 (by omega) (fun a g1 g2=>wA.mp (r5 a g1 g2).2.2.2) tc h0 hH
theorem dQ {A:Yd}{p q r s x y h:Rat} (z:Pz p q r s) {f l a:Nat} (hf:f < 4) (hl:l < (axF A p q r s x y f).ls.length) (ha:a+1 < (axF A p q r s x y f).al.length) (he:(axF A p q r s x y f).edge (eS f) l a) (h1:(axF A p q r s x y f).ls.getD l 0=(axF A p q r s x y f).at (eS f) h) (h2:(axF A p q r s x y f).y - (axF A p q r s x y f).da * h<=(axF A p q r s x y f).al.getD (a+1) 0) (h3:(axF A p q r s x y f).al.getD a 0<=(axF A p q r s x y f).y+(axF A p q r s x y f).ua * h):∃ d∈cX A,Tch A p q r s x y h d:=by
 have n1:=aEM A p q r s x y f
 have n2:=yF A p q r s x y f
 obtain ⟨d,hd,rfl,rfl,d1,d2⟩:=R.aNK (zs:=A.K) (nx:=A.ws.length) (ny:=A.us.length) (f:=f) (p:=l) (a:=a) ⟨hf,by omega,by omega,wA.mpr he⟩
 obtain ⟨_,_,r3,r4,_⟩:=R.gW hd
 have o:=hU (A:=A) z x y d.f
 refine ⟨d,hd,⟨h1,Rat.le_trans h2 ?_,Rat.le_trans ?_ h3⟩⟩
 ·rw [gD (by omega),gD (by omega)]; exact (gQ o.uy (by omega) (by omega)).mpr (by omega)
 ·rw [gD (by omega),gD (by omega)]; exact (gQ o.uy (by omega) (by omega)).mpr d1
theorem zC {tx:Nat->Rat}{ty:Rat}{out:Nat->Bool}{t0:Rat}:∀ n,gN tx ty out n t0=t0\/∃ a,a < n/\out a=true/\gN tx ty out n t0=dU (tx a) ty
 | 0 => .inl rfl
 | n+1=>by
  have ih:=zC (tx:=tx) (ty:=ty) (out:=out) (t0:=t0) n
  have keep:gN tx ty out n t0=t0\/(∃ a,a < n+1/\out a=true/\gN tx ty out n t0=dU (tx a) ty):=ih.imp id fun ⟨a,h1,h2⟩=>⟨a,by omega,h2⟩
  unfold gN
  by_cases ho:out n=true
  ·rw [if_pos ho]
   unfold i8
   split
   ·exact .inr ⟨n,by omega,ho,rfl⟩
   ·exact keep
  ·rw [if_neg ho]; exact keep
theorem aAY {tx ty:Nat->Rat}{out:Nat->Nat->Bool}{na:Nat}{t0:Rat}:∀ m,i9 tx ty out na m t0=t0\/∃ b,b < m/\∃ a,a < na/\out a b=true/\i9 tx ty out na m t0=dU (tx a) (ty b)
 | 0 => .inl rfl
 | m+1=>by
  have ih:=aAY (tx:=tx) (ty:=ty) (out:=out) (na:=na) (t0:=t0) m
  unfold i9
  rcases zC (tx:=tx) (ty:=ty m) (out:=fun a=>out a m) (t0:=i9 tx ty out na m t0) na with e | ⟨a,h1,h2,e⟩
  ·rw [e]
   exact ih.imp id fun ⟨b,h1,h2⟩=>⟨b,by omega,h2⟩
  ·exact .inr ⟨m,by omega,a,h1,h2,e⟩
theorem aJ4 {A:Yd}{p q r s x y:Rat} (z:Pz p q r s) (hin:fP A x y=true):∃ d∈cX A,Tch A p q r s x y (aI A p q r s x y) d:=by
 obtain ⟨b1,b2⟩:=uK hin
 have H0:=uY A z hin
 have eH:aI A p q r s x y=hgt A p q r s x y:=by unfold aI; rw [if_pos hin]
 generalize aI A p q r s x y=H at *
 have ge:∀ a b:Nat,a<=A.ws.length->b<=A.us.length->R.aT A.K ((a:Int) - 1) ((b:Int) - 1)=false->H<=dU (tB A.ws x p r a) (tB A.us y q s b):=fun a b ha hb ho=>by
  have:=((rK (tx:=tB A.ws x p r) (ty:=tB A.us y q s) (out:=fun a b => !R.aT A.K ((a:Int) - 1) ((b:Int) - 1)) (na:=A.ws.length+1) (t0:=tB A.ws x p r 0) (t:=H) (A.us.length+1)).mp (by rw [eH]; exact Rat.le_refl)).2 b (by omega) a (by omega) (by rw [ho]; rfl)
  exact this
 have mem:∃ a b:Nat,a<=A.ws.length/\b<=A.us.length/\R.aT A.K ((a:Int) - 1) ((b:Int) - 1)=false/\H=dU (tB A.ws x p r a) (tB A.us y q s b):=by
  rcases aAY (tx:=tB A.ws x p r) (ty:=tB A.us y q s) (out:=fun a b => !R.aT A.K ((a:Int) - 1) ((b:Int) - 1)) (na:=A.ws.length+1) (t0:=tB A.ws x p r 0) (A.us.length+1) with e | ⟨b,h1,a,h2,h3,e⟩
  ·obtain ⟨l,hl⟩:=mE A.us y
   obtain ⟨b,hb,rfl⟩:=k8 hl
   have t0:=(oB A.uu z.q z.s (x:=y) (b:=b) (by omega) hb).mpr hl
   refine ⟨0,b,by omega,hb,R.cD (by omega),?_⟩
   have e2:H=tB A.ws x p r 0:=by rw [eH]; exact e
   unfold dU
   rw [if_neg (by grind)]; exact e2
  ·exact ⟨a,b,by omega,by omega,by simpa using h3,by rw [eH]; exact e⟩
 obtain ⟨a,b,ha,hb,ho,em⟩:=mem
 have m1:tB A.ws x p r a<=H/\tB A.us y q s b<=H:=max_le.mp (by rw [<- em]; exact Rat.le_refl)
 have two:tB A.ws x p r a=H\/tB A.us y q s b=H:=by
  unfold dU at em
  split at em
  ·exact .inr em.symm
  ·exact .inl em.symm
 have doneX:∀ {b:Nat},(∃ (d:Bool) (l:Nat),l < (axX A p q r s x y).ls.length/\1<=b/\b < (axX A p q r s x y).al.length/\(axX A p q r s x y).edge d l (b - 1)/\(axX A p q r s x y).ls.getD l 0=(axX A p q r s x y).at d H/\(axX A p q r s x y).y - (axX A p q r s x y).da * H<=(axX A p q r s x y).al.getD b 0/\(axX A p q r s x y).al.getD (b - 1) 0<=(axX A p q r s x y).y+(axX A p q r s x y).ua * H)->∃ d∈cX A,Tch A p q r s x y H d:=fun {b} ⟨d,l,h1,h2,h3,h4,h5,h6,h7⟩=>by
  have e1:b - 1+1=b:=by omega
  cases d with
  | false=>exact dQ (f:=0) z (by omega) h1 (a:=b - 1) (by rw [e1]; exact h3) h4 h5 (by rw [e1]; exact h6) h7
  | true=>exact dQ (f:=2) z (by omega) h1 (a:=b - 1) (by rw [e1]; exact h3) h4 h5 (by rw [e1]; exact h6) h7
 have doneY:∀ {b:Nat},(∃ (d:Bool) (l:Nat),l < (axY A p q r s x y).ls.length/\1<=b/\b < (axY A p q r s x y).al.length/\(axY A p q r s x y).edge d l (b - 1)/\(axY A p q r s x y).ls.getD l 0=(axY A p q r s x y).at d H/\(axY A p q r s x y).y - (axY A p q r s x y).da * H<=(axY A p q r s x y).al.getD b 0/\(axY A p q r s x y).al.getD (b - 1) 0<=(axY A p q r s x y).y+(axY A p q r s x y).ua * H)->∃ d∈cX A,Tch A p q r s x y H d:=fun {b} ⟨d,l,h1,h2,h3,h4,h5,h6,h7⟩=>by
  have e1:b - 1+1=b:=by omega
  cases d with
  | false=>exact dQ (f:=1) z (by omega) h1 (a:=b - 1) (by rw [e1]; exact h3) h4 h5 (by rw [e1]; exact h6) h7
  | true=>exact dQ (f:=3) z (by omega) h1 (a:=b - 1) (by rw [e1]; exact h3) h4 h5 (by rw [e1]; exact h6) h7
 have stepX:=fun {a b:Nat} (ha:a<=A.ws.length) (hb:b<=A.us.length) (h1:tB A.ws x p r a=H) (h2:tB A.us y q s b<=H) (ho:R.aT A.K ((a:Int) - 1) ((b:Int) - 1)=false)=>aBY (aF3 (A:=A) z x y) (show 1<=A.ws.length by omega) (show 1<=A.us.length by omega) (aNR A p q r s x y) H0 ha hb h1 h2 ho
 have stepY:=fun {a b:Nat} (ha:a<=A.ws.length) (hb:b<=A.us.length) (h1:tB A.us y q s b=H) (h2:tB A.ws x p r a<=H) (ho:R.aT A.K ((a:Int) - 1) ((b:Int) - 1)=false)=>aBY (aFK (A:=A) z x y) (show 1<=A.us.length by omega) (show 1<=A.ws.length by omega) (aN6 A p q r s x y) H0 hb ha h1 h2 ho
 rcases two with e | e
 ·obtain ⟨a',g1,g2,g3⟩:=stepX ha hb e m1.2 ho
  cases hc:R.aT A.K ((a':Int) - 1) ((b:Int) - 1) with
  | true=>exact doneX (g3 hc)
  | false =>
   have:=ge a' b g1 hb hc
   have g2':tB A.ws x p r a' < H:=g2
   have e2:tB A.us y q s b=H:=by
    rcases U.le_max.mp this with w | w
    ·grind
    ·have:=m1.2; grind
   obtain ⟨b',k1,k2,k3⟩:=stepY g1 hb e2 (by grind) hc
   cases hc2:R.aT A.K ((a':Int) - 1) ((b':Int) - 1) with
   | true=>exact doneY (k3 hc2)
   | false =>
    have k2':tB A.us y q s b' < H:=k2
    rcases U.le_max.mp (ge a' b' g1 k1 hc2) with w | w <;> grind
 ·obtain ⟨b',g1,g2,g3⟩:=stepY ha hb e m1.1 ho
  cases hc:R.aT A.K ((a:Int) - 1) ((b':Int) - 1) with
  | true=>exact doneY (g3 hc)
  | false =>
   have:=ge a b' ha g1 hc
   have g2':tB A.us y q s b' < H:=g2
   have e2:tB A.ws x p r a=H:=by
    rcases U.le_max.mp this with w | w
    ·have:=m1.1; grind
    ·grind
   obtain ⟨a',k1,k2,k3⟩:=stepX ha g1 e2 (by grind) hc
   cases hc2:R.aT A.K ((a':Int) - 1) ((b':Int) - 1) with
   | true=>exact doneX (k3 hc2)
   | false =>
    have k2':tB A.ws x p r a' < H:=k2
    rcases U.le_max.mp (ge a' b' k1 g1 hc2) with w | w <;> grind
end U
namespace Q
open PySem L2 Z U
theorem sB (q:Rat):q * (q.den:Rat)=(q.num:Rat):=by
 have h:=Rat.num_divInt_den q
 have hd:((q.den:Int):Rat)≠0:=by
  intro e
  have:=Rat.intCast_inj.mp (e.trans (Rat.intCast_zero).symm)
  have:=q.den_nz; omega
 conv=>lhs; lhs; rw [<- h,Rat.divInt_eq_div]
 rw [<- Rat.intCast_natCast,Rat.div_mul_cancel hd]
structure Fr (m B:Nat) (q:Rat):Prop where
 ex:∃ k:Int,q * (m:Rat)=(k:Rat)/\k.natAbs<=B
theorem Fr.cross {m B:Nat}{q:Rat} (h:Fr m B q):∃ k:Int,q.num * (m:Int)=k * (q.den:Int)/\k.natAbs<=B:=by
 obtain ⟨k,e,hk⟩:=h.ex
 refine ⟨k,?_,hk⟩
 have h1:q * (q.den:Rat)=(q.num:Rat):=sB q
 have h2:((q.num * (m:Int):Int):Rat)=((k * (q.den:Int):Int):Rat):=by
  rw [Rat.intCast_mul,Rat.intCast_mul,Rat.intCast_natCast,Rat.intCast_natCast,<- h1,<- e]
  grind
 exact Rat.intCast_inj.mp h2
theorem Fr.bd {m B:Nat}{q:Rat} (h:Fr m B q) (hm:0 < m):q.num.natAbs<=B/\q.den<=m:=by
 obtain ⟨k,e,hk⟩:=h.cross
 have e':q.num.natAbs * m=k.natAbs * q.den:=by
  have:=congrArg Int.natAbs e
  rwa [Int.natAbs_mul,Int.natAbs_mul,Int.natAbs_natCast,Int.natAbs_natCast] at this
 have hd:q.den ∣ m:=by
  refine Nat.Coprime.dvd_of_dvd_mul_left (k:=q.den) (m:=q.num.natAbs) (Nat.Coprime.symm q.reduced) ?_
  rw [e']; exact Nat.dvd_mul_left _ _
 have hl:=Nat.le_of_dvd hm hd
 refine ⟨?_,hl⟩
 have:q.num.natAbs * m<=B * m:=by
  rw [e']; exact Nat.mul_le_mul hk hl
 exact Nat.le_of_mul_le_mul_right this hm
theorem Fr.bq {m B:Nat}{q:Rat} (h:Fr m B q) (hm:0 < m) (h1:m < 10 ^ 400) (h2:B < 10 ^ 400):Bq q:=⟨Nat.lt_of_le_of_lt (h.bd hm).1 h2,Nat.lt_of_le_of_lt (h.bd hm).2 h1⟩
theorem Fr.mono {m B B':Nat}{q:Rat} (h:Fr m B q) (hB:B<=B'):Fr m B' q:=let ⟨k,e,hk⟩:=h.ex; ⟨k,e,by omega⟩
theorem Fr.zero (m B:Nat):Fr m B 0:=⟨0,by rw [Rat.zero_mul]; rfl,by simp⟩
theorem Fr.add {m B C:Nat}{a b:Rat} (h:Fr m B a) (g:Fr m C b):Fr m (B+C) (a+b):=by
 obtain ⟨k,e,hk⟩:=h.ex
 obtain ⟨l,e',hl⟩:=g.ex
 exact ⟨k+l,by rw [Rat.intCast_add,<- e,<- e']; grind,by omega⟩
theorem Fr.sub {m B C:Nat}{a b:Rat} (h:Fr m B a) (g:Fr m C b):Fr m (B+C) (a - b):=by
 obtain ⟨k,e,hk⟩:=h.ex
 obtain ⟨l,e',hl⟩:=g.ex
 exact ⟨k - l,by rw [Rat.intCast_sub,<- e,<- e']; grind,by omega⟩
theorem Fr.mul {m n B C:Nat}{a b:Rat} (h:Fr m B a) (g:Fr n C b):Fr (m * n) (B * C) (a * b):=by
 obtain ⟨k,e,hk⟩:=h.ex
 obtain ⟨l,e',hl⟩:=g.ex
 exact ⟨k * l,by rw [Rat.intCast_mul,<- e,<- e',Rat.natCast_mul]; grind,by rw [Int.natAbs_mul]; exact Nat.mul_le_mul hk hl⟩
theorem Fr.int {m B:Nat}{x:Int} (h:x.natAbs * m<=B):Fr m B (x:Rat):=⟨x * m,by rw [Rat.intCast_mul,Rat.intCast_natCast],by rw [Int.natAbs_mul,Int.natAbs_natCast]; exact h⟩
def FrL (m B:Nat) (ws:List Rat):Prop:=∀ w∈ws,Fr m B w
theorem FrL.at {m B:Nat}{ws:List Rat} (h:FrL m B ws) (i:Nat):Fr m B (ws.getD i 0):=by
 rw [zGd]
 cases e:ws[i]? with
 | none=>exact Fr.zero m B
 | some w=>exact h w (zMo e)
def sm:Nat:=10 ^ 60
def toQ (xs:List Int):List Rat:=xs.map fun (x:Int)=>(x:Rat)
theorem lS (xs:List Int):(toQ xs).length=xs.length:=zLm ..
theorem uX {xs:List Int} (h:xs.Pairwise (· < ·)):Up (toQ xs):=by
 unfold toQ Up
 rw [List.pairwise_map]
 exact h.imp fun hxy=>Rat.intCast_lt_intCast.mpr hxy
def gF (xs ys:List Int) (zs:List Str) (hx:xs.Pairwise (· < ·)) (hy:ys.Pairwise (· < ·)) (g:R.Good (xs.length - 1) zs) (hz:zs.length=ys.length - 1):Yd:=Yd.ofG (toQ xs) (toQ ys) zs (uX hx) (uX hy) (by rw [lS]; exact g) (by rw [lS]; exact hz)
theorem aIC {xs ys:List Int}{zs:List Str} (hx:xs.Pairwise (· < ·)) (hy:ys.Pairwise (· < ·)) (g:R.Good (xs.length - 1) zs) (hz:zs.length=ys.length - 1):rY (iT xs) (iT ys) zs=yd (gF xs ys zs hx hy g hz):=by
 rw [yS,yS]
 exact aK8 _ _ _ _
def aBG:Ct:=fun ds M k=>∃ (A:Yd) (a b:Rat) (ha:0 < a) (hb:0 < b),ds=[yd A,aL a,aL b]/\BqL A.ws/\BqL A.us/\Bq a/\Bq b/\A.ws.length<=90/\A.us.length<=90/\k (yd (Yd.scale A a b ha hb)) M
end Q
namespace Z
open PySem L2
section
variable {X:Cx}{Γ:Gm}{M:Mem}{k:D->Mem->Prop}
end
end Z
namespace Q
open PySem L2 Z U
theorem wK (p:Int):Rat.divInt p 1=(p:Rat):=by
 rw [Rat.divInt_eq_div]
 show (p:Rat) / (1:Rat)=p
 grind
def aP3:Ct:=fun ds M k=>∃ (p:Int) (t:Rat),ds=[.int p,aL t]/\p.natAbs < 1000/\Bq t/\k (aL ((p:Rat) * t)) M
structure Gr (ws:List Rat) (dn up:Rat):Prop where
 u:Up ws
 d0:0<=dn
 u0:0<=up
 b:BqL ws
 bd:Bq dn
 bu:Bq up
 lo:BqL (aEB ws dn)
 hi:BqL (aDI ws up)
 len:ws.length<=90
def bxP (p q r s:Int) (t:Rat):Bx:=⟨(p:Rat) * t,(q:Rat) * t,(r:Rat) * t,(s:Rat) * t⟩
structure CutOk (A:Yd) (p q r s:Int) (t:Rat):Prop where
 hp:p.natAbs < 1000
 hq:q.natAbs < 1000
 hr:r.natAbs < 1000
 hs:s.natAbs < 1000
 ht:Bq t
 xc:Gr A.ws (bxP p q r s t).e (bxP p q r s t).w
 yc:Gr A.us (bxP p q r s t).n (bxP p q r s t).s
 xb:Gr A.ws (bxP p q r s t).w (bxP p q r s t).e
 yb:Gr A.us (bxP p q r s t).s (bxP p q r s t).n
def fE (p q r s:Int):D := .tup [.int p, .int q, .int r, .int s]
end Q
namespace Q
open PySem L2 Z U
theorem hB (A B:Yd) (x y:Rat):(Yd.op aKE A B).has x y=(A.has x y && B.has x y):=Yd.op_has rfl A B x y
theorem hE (A B:Yd) (x y:Rat):(Yd.op aNB A B).has x y=(A.has x y || B.has x y):=Yd.op_has rfl A B x y
theorem hL (A B:Yd) (x y:Rat):(Yd.op aJ7 A B).has x y=(A.has x y && !B.has x y):=Yd.op_has rfl A B x y
theorem in1 (A B:Yd):Yd.op aJ7 (Yd.op aKE A B) A=Yd.void:=Yd.ext' fun x y=>by rw [hL,hB,Yd.void_has]; cases A.has x y <;> cases B.has x y <;> rfl
theorem aOO {K:Fg}{M:Mem}{k:D->Mem->Prop}{a b:Rat} (h:k (.bl (!decide (a=b))) M):Op2 K (aAQ K 1 true) (aL a) (aL b) M k :=
 mJ (e1:=aL a) (e2:=aL b) (.tup _) (.tup _) rfl rfl (by rw [iP]; exact h)
structure Y8 (A:Yd):Prop where
 x:FrL 6 100000000000 A.ws
 y:FrL 6 100000000000 A.us
 lx:A.ws.length<=7
 ly:A.us.length<=7
structure S8 (S:List Rat):Prop where
 len:S.length<=30
 fr:FrL 6 100000000000 S
structure O8 (Sx Sy:List Rat) (A:Yd):Prop where
 on:On Sx Sy A
 sx:S8 Sx
 sy:S8 Sy
theorem aIT {xs ys:List Int}{zs:List Str} (ux:Up7 xs) (uy:Up7 ys) (g:R.Good (xs.length - 1) zs) (hz:zs.length=ys.length - 1):(∀ w∈(gF xs ys zs ux.up uy.up g hz).ws,∃ x∈xs,w=(x:Rat))/\(∀ w∈(gF xs ys zs ux.up uy.up g hz).us,∃ x∈ys,w=(x:Rat))/\(gF xs ys zs ux.up uy.up g hz).ws.length<=7/\(gF xs ys zs ux.up uy.up g hz).us.length<=7:=by
 obtain ⟨h1,h2⟩:=Yd.ofG_ws (uX ux.up) (uX uy.up) (by rw [lS]; exact g:R.Good ((toQ xs).length - 1) zs) (by rw [lS]; exact hz)
 have fx:=ux.few
 have fy:=uy.few
 refine ⟨fun w hw => ?_,fun w hw => ?_,?_,?_⟩
 ·obtain ⟨x,hx,rfl⟩:=List.mem_map.mp (h1 w hw); exact ⟨x,hx,rfl⟩
 ·obtain ⟨x,hx,rfl⟩:=List.mem_map.mp (h2 w hw); exact ⟨x,hx,rfl⟩
 ·exact Nat.le_trans (aG3 (gF xs ys zs ux.up uy.up g hz).uw h1) (by rw [lS]; exact fx)
 ·exact Nat.le_trans (aG3 (gF xs ys zs ux.up uy.up g hz).uu h2) (by rw [lS]; exact fy)
end Q
namespace Q
open PySem L2 Z U
def aOL:Ct:=fun ds M k=>∃ a b:Rat,ds=[aL a,aL b]/\Bq a/\Bq b/\b≠0/\k (aL (a / b)) M
theorem aGZ {b:Rat} (h:b≠0):b.num≠0:=fun e=>h (Rat.num_eq_zero.mp e)
theorem aMX {a b:Rat} (h:b≠0):lowP ((pq a).1 * (pq b).2) ((pq a).2 * (pq b).1)=pq (a / b) :=
 (l7 _ _ (Int.mul_ne_zero (fV a) (aGZ h))).trans (congrArg pq (Num.aK5 a b))
theorem aL9 {p q:Int × Int} (hp:Bg p) (hq:Bg q):(p.2 * q.1).natAbs < 10 ^ 1000:=by
 rw [Int.natAbs_mul]
 have:p.2.natAbs * q.1.natAbs<=10 ^ 400 * 10 ^ 400:=Nat.mul_le_mul (Nat.le_of_lt hp.b) (Nat.le_of_lt hq.a)
 rw [<- Nat.pow_add] at this
 exact Nat.lt_of_le_of_lt this (Nat.pow_lt_pow_right (by decide) (by decide))
theorem jP {t b:Int} (hb:0 < b):pairD (lowG t b)=aL (Rat.divInt t b):=by
 rw [<- aKW hb,l7 _ _ (by omega)]; rfl
end Q
namespace Q
open PySem L2 Z U
def PnM (M:Mem) (p:Addr) (b:Int):Prop:=∃ (ns:List Int) (st g:Int),M p=some (.lst [.fl (ns.map .int), .int st, .int g])/\0<=st/\st<=b/\0<=g
theorem PnM.mono {M:Mem}{p:Addr}{b c:Int} (h:PnM M p b) (l:b<=c):PnM M p c:=by
 obtain ⟨ns,st,g,h1,h2,h3,h4⟩:=h
 exact ⟨ns,st,g,h1,h2,by omega,h4⟩
theorem PnM.ne {M:Mem}{p a:Addr}{b:Int} (h:PnM M p b) (n:M a=none):a≠p:=fun z=>by
 obtain ⟨ns,st,g,h1,_⟩:=h
 rw [z,h1] at n; cases n
theorem PnM.new {M:Mem}{p a:Addr}{b:Int}{o:MO} (h:PnM M p b) (n:a≠p):PnM (b7 M a o) p b:=by
 obtain ⟨ns,st,g,h1,h2⟩:=h
 exact ⟨ns,st,g,by rw [dS (fun e=>n e.symm)]; exact h1,h2⟩
theorem PnM.del {M:Mem}{p a:Addr}{b:Int} (h:PnM M p b) (n:a≠p):PnM (kU M a) p b:=by
 obtain ⟨ns,st,g,h1,h2⟩:=h
 exact ⟨ns,st,g,by unfold kU; rw [if_neg (fun e=>n e.symm)]; exact h1,h2⟩
def cPen:Ct:=fun ds M k=>∃ (ns:List Int),ds=[.fl (ns.map .int)]/\∀ p M',M p=none->Le M M'->PnM M' p 0->k (.mt p) M'
def aQA:Ct:=fun ds M k=>∃ (p:Addr) (n b:Int),ds=[.mt p, .int n]/\0 < n/\n < 1073741824/\PnM M p b/\b<=1000000/\∀ z M',0<=z->z < n->PnM M' p (b+1)->cH p M M'->(∀ a,a≠p->M' a=M a)->k (.int z) M'
def aND:Ct:=fun ds M k=>∃ (p:Addr) (b gap:Int),ds=[.mt p, .int gap]/\1<=gap/\gap<=100000000/\PnM M p b/\b<=900000/\∀ xs M',Up7 xs->2<=xs.length->PnM M' p (b+20)->cH p M M'->k (.lst (xs.map .int)) M'
def aL2:Ct:=fun ds M k=>∃ (p:Addr) (b:Int) (xs ys:List Int),ds=[.mt p, .lst (xs.map .int), .lst (ys.map .int)]/\PnM M p b/\b<=900000/\2<=xs.length/\2<=ys.length/\xs.length<=20/\ys.length<=20/\∀ zs M',R.Good (xs.length - 1) zs->zs.length=ys.length - 1->PnM M' p (b+500)->cH p M M'->k (.lst (zs.map .str)) M'
structure Pc (p:Int):Prop where
 a:1<=p
 b:p<=9
def aP0:Ct:=fun ds M k=>∃ (p:Addr) (b:Int),ds=[.mt p]/\PnM M p b/\b<=900000/\∀ e n w s M',Pc e->Pc n->Pc w->Pc s->PnM M' p (b+10)->cH p M M'->k (fE e n w s) M'
structure Tm (t:Rat):Prop where
 p:0<=t
 n:t.num.natAbs<=1000000000000
 d:t.den<=1000000
theorem nL {a b:Int} (hb:0 < b):Fr b.toNat a.natAbs (Rat.divInt a b):=by
 have nb:((b:Int):Rat)≠0:=fun e=>by have:=Rat.intCast_inj.mp (e.trans Rat.intCast_zero.symm); omega
 refine ⟨a,?_,Nat.le_refl _⟩
 have e:((b.toNat:Nat):Rat)=((b:Int):Rat):=by rw [<- Rat.intCast_natCast,Int.toNat_of_nonneg (by omega)]
 rw [Rat.divInt_eq_div,e]
 grind
theorem zQ {a b:Int} (hb:0 < b):(Rat.divInt a b).num.natAbs<=a.natAbs/\((Rat.divInt a b).den:Int)<=b:=by
 obtain ⟨h1,h2⟩:=(nL (a:=a) hb).bd (by omega)
 exact ⟨h1,by omega⟩
structure Yk (m B n:Nat) (A:Yd):Prop where
 x:FrL m B A.ws
 y:FrL m B A.us
 lx:A.ws.length<=n
 ly:A.us.length<=n
structure Mk (m:Nat) (t:Rat):Prop where
 m0:0 < m
 m1:m<=100000000000000000000
 p:0<=t
 f:Fr m 100000000000000000000000000000000 t
theorem Mk.of {t:Rat} (h:Tm t):Mk t.den t:=⟨t.den_pos,Nat.le_trans h.d (by decide),h.p,⟨t.num,sB t,Nat.le_trans h.n (by decide)⟩⟩
theorem Mk.bq {m B:Nat}{t q:Rat} (h:Mk m t) (f:Fr m B q) (hB:B<=10 ^ 60):Bq q:=f.bq h.m0 (Nat.lt_of_le_of_lt h.m1 (by decide +kernel)) (Nat.lt_of_le_of_lt hB (by decide +kernel))
structure Pp (p q r s:Int):Prop where
 p:Pc p
 q:Pc q
 r:Pc r
 s:Pc s
theorem aHM {xs ys:List Int}{zs:List Str} (ux:Up7 xs) (uy:Up7 ys) (g:R.Good (xs.length - 1) zs) (hz:zs.length=ys.length - 1) {m:Nat}{t:Rat} (h:Mk m t):Yk m 1000000000000000000000000000000 7 (gF xs ys zs ux.up uy.up g hz):=by
 obtain ⟨h1,h2,h3,h4⟩:=aIT ux uy g hz
 have hm:=h.m1
 have key:∀ x:Int, -1000000000<=x/\x<=1000000000->Fr m 1000000000000000000000000000000 (x:Rat):=fun x hx=>Fr.int (Nat.le_trans (Nat.mul_le_mul (show x.natAbs<=1000000000 by omega) hm) (by decide))
 exact ⟨fun w hw=>by obtain ⟨x,hx,rfl⟩:=h1 w hw; exact key x (ux.bd x hx),fun w hw=>by obtain ⟨x,hx,rfl⟩:=h2 w hw; exact key x (uy.bd x hx),h3,h4⟩
theorem aIL {z:Int} (h0:0<=z) (h1:z < 3):∃ m:Int,atI [D.int 3, .int 40, .int (10 ^ (8:Int).toNat)] z=some (.int m)/\1<=m/\m<=100000000:=by
 have:z=0\/z=1\/z=2:=by omega
 rcases this with rfl | rfl | rfl
 ·exact ⟨3,rfl,by decide,by decide⟩
 ·exact ⟨40,rfl,by decide,by decide⟩
 ·exact ⟨10 ^ (8:Int).toNat,rfl,by decide,by decide⟩
theorem aE2 {z:Int} (h0:0<=z) (h1:z < 5):∃ t:Str,atI [D.str "#####.", .str "##.", .str "#.", .str "#....", .str "#"] z=some (.str t)/\1<=t.length/\t.length<=6/\t.cps.toList.all R.sgn=true:=by
 have:z=0\/z=1\/z=2\/z=3\/z=4:=by omega
 rcases this with rfl | rfl | rfl | rfl | rfl
 ·exact ⟨"#####.", rfl,by decide +kernel,by decide +kernel,by decide +kernel⟩
 ·exact ⟨"##.", rfl,by decide +kernel,by decide +kernel,by decide +kernel⟩
 ·exact ⟨"#.", rfl,by decide +kernel,by decide +kernel,by decide +kernel⟩
 ·exact ⟨"#....", rfl,by decide +kernel,by decide +kernel,by decide +kernel⟩
 ·exact ⟨"#", rfl,by decide +kernel,by decide +kernel,by decide +kernel⟩
theorem aMZ {t:Str} (h:t.cps.toList.all R.sgn=true) {j:Nat} (hj:j < t.length):R.atS t j=35\/R.atS t j=46:=by
 have e:=R.fW (z:=t) (j:=j) hj
 rw [List.all_eq_true] at h
 have:=h _ (zMo e)
 simpa [R.sgn] using this
theorem wQ {xs:List Int}{i:Int} (h0:0<=i) (h:i < xs.length):∃ x,xs[i.toNat]?=some x/\atI (xs.map D.int) i=some (.int x):=by
 obtain ⟨j,rfl⟩:∃ j:Nat,i=j:=⟨i.toNat,by omega⟩
 have hj:j < xs.length:=by omega
 exact ⟨xs[j],by rw [Int.toNat_natCast]; exact zGe hj,dC (by rw [List.getElem?_map,zGe hj]; rfl)⟩
theorem tm0:Tm 0:=⟨by decide +kernel,by decide +kernel,by decide +kernel⟩
end Q
namespace Q
open PySem L2 Z U
def aJD:Ct:=fun ds M k=>∃ a b:Rat,ds=[aL a,aL b]/\Bq a/\Bq b/\k (aL (dU a b)) M
def aK9:Ct:=fun ds M k=>∃ a b:Rat,ds=[aL a,aL b]/\Bq a/\Bq b/\k (aL (i8 a b)) M
def aLW:Ct:=fun ds M k=>∃ (a:Rat) (p:Int),ds=[aL a, .int p]/\Bq a/\Pc p/\k (aL (a / (p:Rat))) M
def aOT:Ct:=fun ds M k=>∃ (A:Yd) (v u:Rat),ds=[yd A,aL v,aL u]/\BqL A.ws/\BqL A.us/\A.ws.length<=100/\A.us.length<=100/\Bq v/\Bq u/\k (.str (c8 (bN A.K (aU A.ws v) (aU A.us u)))) M
theorem aER (A:Yd) (x y:Rat):decide (c8 (bN A.K (aU A.ws x) (aU A.us y))=("in" : Str))=fP A x y:=by
 have e:(bN A.K (aU A.ws x) (aU A.us y)).all id=fP A x y:=by
  unfold bN fP
  rw [List.all_flatMap]
  congr 1
  funext l
  rw [List.all_map]; rfl
 unfold c8
 rw [e]
 cases h:fP A x y with
 | true=>exact decide_eq_true rfl
 | false =>
  rw [if_neg zBf]
  split
  ·decide +kernel
  ·decide +kernel
structure Nm (m B:Nat):Prop where
 m0:0 < m
 m1:m<=sm
 b:B<=sm
structure Dn (m B:Nat) (q:Rat):Prop where
 n:q.num.natAbs<=2 * B
 d:q.den<=9 * m
theorem Dn.bq {m B:Nat}{q:Rat} (h:Dn m B q) (n:Nm m B):Bq q:=by
 have h1:=h.n
 have h2:=h.d
 have a:=n.m1
 have b:=n.b
 exact ⟨Nat.lt_of_le_of_lt (Nat.le_trans h1 (Nat.mul_le_mul_left 2 b)) (by unfold sm; decide +kernel),Nat.lt_of_le_of_lt (Nat.le_trans h2 (Nat.mul_le_mul_left 9 a)) (by unfold sm; decide +kernel)⟩
theorem Nm.bq {m B:Nat} (n:Nm m B) {q:Rat} (h:Fr m B q):Bq q:=h.bq n.m0 (Nat.lt_of_le_of_lt n.m1 (by unfold sm; decide +kernel)) (Nat.lt_of_le_of_lt n.b (by unfold sm; decide +kernel))
theorem Nm.bq2 {m B:Nat} (n:Nm m B) {q:Rat} (h:Fr m (B+B) q):Bq q:=h.bq n.m0 (Nat.lt_of_le_of_lt n.m1 (by unfold sm; decide +kernel)) (Nat.lt_of_le_of_lt (Nat.add_le_add n.b n.b) (by unfold sm; decide +kernel))
theorem Nm.div {m B:Nat} (n:Nm m B) {q:Rat} (h:Fr m (B+B) q) {p:Int} (hp:Pc p):Dn m B (q / (p:Rat)):=by
 obtain ⟨h1,h2⟩:=hp
 obtain ⟨k,e,hk⟩:=h.ex
 have np:((p:Int):Rat)≠0:=fun e=>by have:=Rat.intCast_inj.mp (e.trans Rat.intCast_zero.symm); omega
 have ep:((p.toNat:Nat):Rat)=((p:Int):Rat):=by rw [<- Rat.intCast_natCast,Int.toNat_of_nonneg (by omega)]
 have f:Fr (m * p.toNat) (B+B) (q / (p:Rat)):=⟨k,by rw [Rat.natCast_mul,ep,<- e]; grind,hk⟩
 obtain ⟨a,b⟩:=f.bd (Nat.mul_pos n.m0 (by omega))
 refine ⟨by omega,Nat.le_trans b ?_⟩
 rw [Nat.mul_comm]
 exact Nat.mul_le_mul_right m (by omega)
theorem yO {m B:Nat}{a b:Rat} (h:Dn m B a) (g:Dn m B b):Dn m B (dU a b):=by unfold dU; split <;> assumption
theorem aNY {m B:Nat}{a b:Rat} (h:Dn m B a) (g:Dn m B b):Dn m B (i8 a b):=by unfold i8; split <;> assumption
theorem vG {m B:Nat} (n:Nm m B) {ws:List Rat} (f:FrL m B ws) {x:Rat} (fx:Fr m B x) {p q:Int} (hp:Pc p) (hq:Pc q) (b:Nat):Dn m B (tB ws x p q b):=by
 unfold U.tB
 split
 ·exact n.div (fx.sub (f.at 0)) hp
 ·split
  ·exact yO (n.div (fx.sub (f.at _)) hp) (n.div ((f.at _).sub fx) hq)
  ·exact n.div ((f.at _).sub fx) hq
theorem sI {m B:Nat}{tx:Nat->Rat}{ty:Rat}{out:Nat->Bool} (h1:∀ a,Dn m B (tx a)) (h2:Dn m B ty) {t:Rat} (h3:Dn m B t):∀ n,Dn m B (gN tx ty out n t)
 | 0=>h3
 | n+1=>by
  unfold gN
  split
  ·exact aNY (sI h1 h2 h3 n) (yO (h1 n) h2)
  ·exact sI h1 h2 h3 n
theorem wX {m B:Nat}{tx ty:Nat->Rat}{out:Nat->Nat->Bool}{na:Nat} (h1:∀ a,Dn m B (tx a)) (h2:∀ b,Dn m B (ty b)) {t:Rat} (h3:Dn m B t):∀ n,Dn m B (i9 tx ty out na n t)
 | 0=>h3
 | n+1=>sI h1 (h2 n) (wX h1 h2 h3 n) na
def eF (ws:List Rat) (x p q:Rat) (n:Nat):List D:=(List.range n).map fun b=>aL (tB ws x p q b)
theorem k9 (ws:List Rat) (x p q:Rat) (n:Nat):(eF ws x p q n).length=n:=by unfold eF; rw [zLm,List.length_range]
theorem tE (ws:List Rat) (x p q:Rat) (n:Nat):eF ws x p q (n+1)=eF ws x p q n++[aL (tB ws x p q n)]:=by unfold eF; rw [List.range_succ,List.map_append]; rfl
theorem vH {ws:List Rat}{x p q:Rat}{n i:Nat}{d:D} (h:(eF ws x p q n)[i]?=some d):i < n/\d=aL (tB ws x p q i):=by
 unfold eF at h
 obtain ⟨j,hj,rfl⟩:=cA h
 obtain ⟨h1,h2⟩:=zGs hj
 rw [List.getElem_range] at h2
 subst h2
 rw [List.length_range] at h1
 exact ⟨h1,rfl⟩
theorem aHP (ws:List Rat) (x p q:Rat) (n:Nat):atI (eF ws x p q (n+1)) 0=some (aL (U.tB ws x p q 0)):=dC (j:=0) (by
 unfold eF
 rw [List.getElem?_map,List.getElem?_range (by omega)]; rfl)
def aJR:Ct:=fun ds M k=>∃ (ws:List Rat) (x:Rat) (p q:Int) (m B:Nat),ds=[.tup (bD ws),aL x, .int p, .int q]/\Nm m B/\FrL m B ws/\Fr m B x/\1<=ws.length/\ws.length<=90/\Pc p/\Pc q/\k (.lst (eF ws x p q (ws.length+1))) M
def aJH:Ct:=fun ds M k=>∃ (A:Yd) (e n w s:Int) (x y:Rat) (m B:Nat),ds=[yd A,fE e n w s,aL x,aL y]/\Nm m B/\FrL m B A.ws/\FrL m B A.us/\Fr m B x/\Fr m B y/\A.ws.length<=90/\A.us.length<=90/\Pp e n w s/\k (aL (aI A e n w s x y)) M
theorem aD4 {ws:List Rat} (h:1<=ws.length):atI (bD ws) (-1)=some (aL (ws.getD (ws.length - 1) 0)):=by
 obtain ⟨r,w,rfl⟩:=wO (l:=ws) (fun e=>by rw [e] at h; simp at h)
 have:bD (r++[w])=bD r++[aL w]:=by unfold bD; rw [List.map_append]; rfl
 rw [this,l6,zGd,List.length_append]
 simp
theorem aG4 {m B:Nat} (n:Nm m B) {A:Yd} (f:FrL m B A.ws) (g:FrL m B A.us) {x y:Rat} (fx:Fr m B x) (fy:Fr m B y) {p q r s:Int} (o:Pp p q r s):Dn m B (aI A p q r s x y):=by
 unfold aI
 split
 ·exact wX (fun a=>vG n f fx o.p o.r a) (fun b=>vG n g fy o.q o.s b) (vG n f fx o.p o.r 0) _
 ·exact ⟨Nat.zero_le _,by show 1<=9 * m; have:=n.m0; omega⟩
end Q
namespace Q
open PySem L2 Z U
theorem wZ (a b:Rat) (g:Int):Rat.divInt (a.num * (b.den:Int)+g * b.num * (a.den:Int)) ((a.den:Int) * (b.den:Int))=a+(g:Rat) * b:=by
 have ha:(a.den:Rat)≠0:=fun e=>by rw [<- Rat.intCast_natCast] at e; have:=Rat.intCast_inj.mp (e.trans Rat.intCast_zero.symm); have:=a.den_nz; omega
 have hb:(b.den:Rat)≠0:=fun e=>by rw [<- Rat.intCast_natCast] at e; have:=Rat.intCast_inj.mp (e.trans Rat.intCast_zero.symm); have:=b.den_nz; omega
 rw [Rat.divInt_eq_div,Rat.intCast_add,Rat.intCast_mul,Rat.intCast_mul,Rat.intCast_mul,Rat.intCast_mul,Rat.intCast_natCast,Rat.intCast_natCast,<- sB a,<- sB b]
 grind
structure Tm2 (t:Rat):Prop where
 p:0<=t
 n:t.num.natAbs<=100000000000000000000
 d:t.den<=1000000000000
theorem Fr.lift {m B:Nat}{q:Rat} (h:Fr m B q) (k:Nat):Fr (m * k) (B * k) q:=by
 obtain ⟨l,e,hl⟩:=h.ex
 refine ⟨l * k,?_,?_⟩
 ·rw [Rat.natCast_mul,<- Rat.mul_assoc,e,Rat.intCast_mul,Rat.intCast_natCast]
 ·rw [Int.natAbs_mul,Int.natAbs_natCast]; exact Nat.mul_le_mul_right k hl
def bot:Int:=200000000000000000000
structure Al (a b:Int):Prop where
 n:a.natAbs<=10 ^ 35
def aO8:Ct:=fun ds M k=>∃ (p:Addr) (b:Int) (xs:List Int) (c:Int),ds=[.mt p, .lst (xs.map .int), .int c]/\PnM M p b/\b<=900000/\Up7 xs/\2<=xs.length/\1<=c/\c<=bot/\∀ a M',Al a c->PnM M' p (b+10)->cH p M M'->k (.int a) M'
def aPV:Ct:=fun ds M k=>∃ (p:Addr) (b:Int) (xs ys:List Int),ds=[.mt p, .lst (xs.map .int), .lst (ys.map .int)]/\PnM M p b/\b<=800000/\Up7 xs/\2<=xs.length/\Up7 ys/\2<=ys.length/\∀ u v c M',Al u c->Al v c->1<=c->c<=bot->PnM M' p (b+40)->cH p M M'->k (.tup [.int u, .int v, .int c]) M'
theorem aJP {z1 z2 z:Int} (h1:0<=z1) (h2:z1 < 12) (h3:0<=z2) (h4:z2 < 10 ^ (6:Int).toNat) (h0:0<=z) (h:z < 4):∃ c:Int,atI [D.int 1, .int 2, .int (1+z1), .int (10 ^ (20:Int).toNat+z2)] z=some (.int c)/\1<=c/\c<=bot:=by
 have h4':z2 < 1000000:=h4
 have e:(10:Int) ^ (20:Int).toNat=100000000000000000000:=rfl
 have:z=0\/z=1\/z=2\/z=3:=by omega
 unfold bot
 rcases this with rfl | rfl | rfl | rfl
 ·exact ⟨1,rfl,by omega,by omega⟩
 ·exact ⟨2,rfl,by omega,by omega⟩
 ·exact ⟨1+z1,rfl,by omega,by omega⟩
 ·exact ⟨_,rfl,by rw [e]; omega,by rw [e]; omega⟩
theorem al0 {x c:Int}{X:Nat} (hx:x.natAbs<=X) (hc:c.natAbs<=200000000000000000000):(x * c).natAbs<=X * 200000000000000000000:=by
 rw [Int.natAbs_mul]; exact Nat.mul_le_mul hx hc
theorem al1 {x c:Int} (hx:x.natAbs<=1000000000) (hc:c.natAbs<=200000000000000000000):(x * c).natAbs<=10 ^ 35:=Nat.le_trans (al0 hx hc) (by decide)
theorem al2 {x c z:Int} (hx:x.natAbs<=1000000000) (hc:c.natAbs<=200000000000000000000) (hz:z.natAbs<=9):(x * c - z).natAbs<=10 ^ 35:=by
 have:=al0 hx hc
 generalize x * c=y at *
 exact Nat.le_trans (show _<=1000000000 * 200000000000000000000+9 by omega) (by decide)
theorem al2' {x c z:Int} (hx:x.natAbs<=1000000000) (hc:c.natAbs<=200000000000000000000) (hz:z.natAbs<=9):(x * c+z).natAbs<=10 ^ 35:=by
 have:=al0 hx hc
 generalize x * c=y at *
 exact Nat.le_trans (show _<=1000000000 * 200000000000000000000+9 by omega) (by decide)
theorem al3 {x o c z:Int} (hx:x.natAbs<=1000000000) (ho:o.natAbs<=1000000000) (hc:c.natAbs<=200000000000000000000) (hz:z.natAbs<=12):(x * c+(o - x) * c * z / 12).natAbs<=10 ^ 35:=by
 have h1:=al0 hx hc
 have h2:((o - x) * c * z).natAbs<=2000000000 * 200000000000000000000 * 12:=by
  rw [Int.natAbs_mul]; exact Nat.mul_le_mul (al0 (show (o - x).natAbs<=2000000000 by omega) hc) hz
 generalize x * c=y at *
 generalize (o - x) * c * z=v at *
 exact Nat.le_trans (show _<=1000000000 * 200000000000000000000+(2000000000 * 200000000000000000000 * 12+1) by omega) (by decide)
theorem aG1 {z a b:Int} (h0:0<=z) (h:z < 2):∃ q:Int,atI [D.int a, .int b] z=some (.int q)/\(q=a\/q=b):=by
 have:z=0\/z=1:=by omega
 rcases this with rfl | rfl
 ·exact ⟨a,rfl, .inl rfl⟩
 ·exact ⟨b,rfl, .inr rfl⟩
theorem aDZ {e n w s:Int} (o:Pp e n w s):Pz (e:Rat) (n:Rat) (w:Rat) (s:Rat):=⟨Rat.intCast_pos.mpr (by have:=o.p.a; omega),Rat.intCast_pos.mpr (by have:=o.q.a; omega),Rat.intCast_pos.mpr (by have:=o.r.a; omega),Rat.intCast_pos.mpr (by have:=o.s.a; omega)⟩
end Q
namespace HD
open PySem PySem.Spec PyProof.Rows L2 PySem.W
section
variable {prog:Program}{w:World}{A:Around}{E:Value->Shared->Prop}{s:Shared}
end
end HD
namespace Z
open PySem L2
section
variable {K:Fg}{G H:Hp}{M:Mem}{p:Addr}
end
section
variable {X:Cx}{Γ:Gm}{M:Mem}{k:D->Mem->Prop}{kg:Gm->Mem->Prop}{pos:Pos}{o:Expr}{pins:List (Addr × Obj)}{σ:St}{H:Hp}{s:Shared}
theorem nR:∀ {vs:List Value}{ns:List Int},PyProof.Rows.IntsAre vs ns->Vals (ns.map V.int) vs
 | _,_, .nil => .nil
 | _,_, .cons n t h => .cons ⟨t,rfl⟩ (nR h)
end
end Z
namespace Q
open PySem L2 Z U
end Q
namespace PySem
open Builtin
section
variable {prog:Program}{w:World}{A:Around}{E:Value->Shared->Prop}{s:Shared}{z TI TO i1 i2:Addr}{fp1 fp2:List Addr}{n1 n2 k:Nat}{P1 P2:Nat->Value->Prop}{S1 S2:Nat->Heap->Prop}{a b:Value}
theorem aE4 {Q:Fin->Shared->Prop} (D1:Draws prog w A i1 fp1 n1 P1 S1) (D2:Draws prog w A i2 fp2 n2 P2 S2) (ap:ZAp z TI TO i1 i2 fp1 fp2)
  (hz:IsZip s.heap z TI TO .none) (hTI:IsPair s.heap TI (.ref i1) (.ref i2)) (hTO:IsPair s.heap TO a b) (s1:S1 k s.heap) (l1:k < n1) (s2:S2 n2 s.heap)
  (hE:∀ h' tk e,(∀ c o,c≠z->c≠TO->c≠i1->c≠i2->s.heap.get? c=some o->h'.get? c=some o)->(∃ o,h'.get? e=some o/\o.cls = .type "StopIteration")->E (.ref e) { s with heap:=h',toks:=tk }) :
  wpAny (model prog w) A (Builtin.«zip.__next__» ⟨[.ref z],[]⟩) Q E s:=by
 show wpAny _ _ (field (.ref z) 2 >>= _) _ _ _
 refine wpAny_bind (wpAny_field hz rfl (x := .bool false) rfl ?_)
 show wpAny _ _ (field (.ref z) 3 >>= _) _ _ _
 refine wpAny_bind (wpAny_field hz rfl (x := .ref TI) rfl ?_)
 refine wpAny_bind (wpAny_seqItems hTI rfl ?_)
 show wpAny _ _ (Builtin.SmallTypes.ownedTupleIsFree (.ref z) >>= _) _ _ _
 refine wpAny_bind ?_
 unfold Builtin.SmallTypes.ownedTupleIsFree
 refine wpAny_bind (wpAny_field hz rfl (x := .none) rfl (wpAny_pure ?_))
 simp only [if_true]
 refine wpAny_bind (wpAny_rule ?_)
 refine wpAny_bind (wpAny_field hz rfl (x := .ref TO) rfl ?_)
 refine wpAny_bind (wpAny_setField_rec hz (by simp) fun h1 hz1 hs1 => ?_)
 replace hz1:IsZip h1 z TI TO .ellipsis:=hz1
 refine wpAny_bind ?_
 simp only [List.zipIdx_cons,List.zipIdx_nil,List.forIn_cons,List.forIn_nil]
 have k1:∀ c o,c≠z->s.heap.get? c=some o->h1.get? c=some o:=fun c o h e=>hs1.extBut _ _ h e
 refine wpAny_bind (wpAny_bind (wpAny_onRaise ?_))
 show wpAny _ _ (Builtin.SmallTypes.nextOf (.ref i1) >>= _) _ _ _
 refine wpAny_bind (D1.item k _ _ _ l1 (D1.frame _ _ _ s1 fun c hc o e=>k1 c o (ap.f1 c hc).1 e) fun x h2 t2 px st2 hs2=>wpAny_pure ?_)
 have k2:∀ c o,c≠i1->h1.get? c=some o->h2.get? c=some o:=fun c o h e=>hs2.extBut _ _ h e
 have hTO2:IsPair h2 TO a b:=k2 _ _ ap.TOi1 (k1 _ _ ap.TOz hTO)
 refine wpAny_bind (wpAny_seqItems hTO2 rfl ?_)
 refine wpAny_bind (wpAny_updateSeq_pair hTO2 fun h3 hTO3 hs3 => ?_)
 replace hTO3:IsPair h3 TO x b:=hTO3
 have k3:∀ c o,c≠TO->h2.get? c=some o->h3.get? c=some o:=fun c o h e=>hs3.extBut _ _ h e
 refine wpAny_bind (wpAny_letGo (wpAny_pure ?_))
 refine wpAny_bind (wpAny_bind (wpAny_onRaise ?_))
 show wpAny _ _ (Builtin.SmallTypes.nextOf (.ref i2) >>= _) _ _ _
 refine wpAny_bind (D2.done _ _ _ (D2.frame _ _ _ s2 fun c hc o e=>k3 c o (ap.f2 c hc).2.1 (k2 c o (ap.f2 c hc).2.2 (k1 c o (ap.f2 c hc).1 e))) fun h4 e hs4 he => ?_)
 obtain ⟨oe,hoe,hce⟩:=he
 have hz4:IsZip h4 z TI TO .ellipsis:=hs4 _ _ ap.i2z.symm (k3 _ _ ap.TOz.symm (k2 _ _ ap.i1z.symm hz1))
 have hez:e≠z:=fun x=>by subst x; rw [hz4] at hoe; cases hoe; simp at hce
 refine wpAny_setField_rec hz4 (by simp) fun h5 _ hs5=>hE h5 _ e (fun c o c1 c2 c3 c4 q=>hs5.extBut _ _ c1 (hs4 _ _ c4 (k3 c o c2 (k2 c o c3 (k1 c o c1 q))))) ⟨oe,hs5.extBut _ _ hez hoe,hce⟩
theorem aBO {Q:Option Value->Shared->Prop} (D1:Draws prog w A.in1 i1 fp1 n1 P1 S1) (D2:Draws prog w A.in1 i2 fp2 n2 P2 S2) (ap:ZAp z TI TO i1 i2 fp1 fp2)
  (hz:IsZip s.heap z TI TO .none) (hTI:IsPair s.heap TI (.ref i1) (.ref i2)) (hTO:IsPair s.heap TO a b) (s1:S1 k s.heap) (l1:k < n1) (s2:S2 n2 s.heap)
  (hQ:∀ h' tk,(∀ c o,c≠z->c≠TO->c≠i1->c≠i2->s.heap.get? c=some o->h'.get? c=some o)->Q none { s with heap:=h',toks:=tk }):wpAny (model prog w) A (pyNext (.ref z)) Q E s:=by
 have hT:s.TypeIs (.ref z) "zip" := ⟨_,hz,rfl⟩
 unfold pyNext
 refine wpAny_bind (wpAny_attempt (wpAny_callSpecial?_slot (name:=Str.ofString "__next__") hT F.slot_zip_next
  (wpAny_call_entry F.slot_zip_next hT F.entry_zip_next (aE4 D1 D2 ap hz hTI hTO s1 l1 s2 fun h' tk e hk he => ?_) (F.args_zip_next_1 _))))
 obtain ⟨o,ho,hc⟩:=he
 refine wpAny_bind (wpAny_isInstance (T := "StopIteration") (b:=true) ⟨o,ho,hc⟩ isSubtype_stop ?_)
 exact wpAny_pure (hQ _ _ hk)
end
end PySem
namespace L2
open PySem PySem.Spec PyProof.Rows
section
variable {X:Cx}
end
end L2
namespace Z
open PySem L2
section
variable {X:Cx}{Γ:Gm}{M:Mem}{k:D->Mem->Prop}{pos:Pos}{a b:Expr}{rest:List Expr}
end
end Z
namespace Q
open PySem L2 Z U
def ends (ns:List Int) (a b:Int):List Int:=(a - 2)::(ns++[b+2])
structure MidOf (xs vs:List Int) (t:Rat) (m:Int):Prop where
 off:∀ x∈xs,∀ v∈vs,2 * (x * (t.den:Int)+v * t.num)≠m
 bd : -10000000000000000<=m/\m<=10000000000000000
theorem aHH {n:Nat}{zs:List Str} (g:R.Good n zs) {a u:Int} (h:R.aT zs a u=true):0<=a/\a < n/\0<=u/\u < zs.length:=by
 obtain ⟨h1,h2,z,hz,hc⟩:=R.o4.mp h
 have q1:=(zGs hz).1
 have q2:=(zGs hc).1
 have q3:=(g z (zMo hz)).1
 rw [Array.length_toList] at q2
 have q4:z.cps.size=z.length:=rfl
 exact ⟨h2,by omega,h1,by omega⟩
theorem aI6 {xs ys:List Int}{zs:List Str} (hx:xs.Pairwise (· < ·)) (hy:ys.Pairwise (· < ·)) (g:R.Good (xs.length - 1) zs) (hz:zs.length=ys.length - 1):(∀ w∈(gF xs ys zs hx hy g hz).ws,w∈toQ xs)/\∀ w∈(gF xs ys zs hx hy g hz).us,w∈toQ ys:=Yd.ofG_ws _ _ _ _
end Q
namespace Q
open PySem L2 Z U
end Q
namespace PySem
section
variable {prog:Program}{w:World}{A:Around}{E:Value->Shared->Prop}{s:Shared}
end
end PySem
namespace L2
open PySem PySem.Spec
section
variable {X:Cx}
end
end L2
namespace Z
open PySem L2
section
variable {X:Cx}{Γ:Gm}{M:Mem}{k:D->Mem->Prop}
end
end Z
namespace Q
open PySem L2 Z U
structure Wy (W E p:Int):Prop where
 eW:W=E * p
 p0:0 < p
 E0:0 < E
structure Four (W E N Wt S e n w s:Int):Prop where
 e:Wy W E e
 n:Wy W N n
 w:Wy W Wt w
 s:Wy W S s
end Q
namespace Q
open PySem L2 Z U
structure Pt (q:Int × Int × Int):Prop where
 u:Al q.1 q.2.2
 v:Al q.2.1 q.2.2
 c1:1<=q.2.2
 c2:q.2.2<=bot
theorem aQJ {m:Int} (h:1<=m):aL (Rat.divInt 1 m) = .tup [.int 1, .int m]:=by
 rw [<- jP (show 0 < m by omega)]
 unfold lowG
 simp [pairD]
theorem one_pos {m:Int} (h:1<=m):(0:Rat) < Rat.divInt 1 m:=by
 rw [Rat.divInt_eq_div]
 have h1:(0:Rat) < (m:Rat):=Rat.intCast_pos.mpr (by omega)
 refine (Rat.lt_div_iff h1).mpr ?_
 rw [Rat.zero_mul]; decide
theorem aFQ {m:Int} (h:1<=m) (h2:m<=1000000007):Bq (Rat.divInt 1 m):=by
 obtain ⟨a,b⟩:=zQ (a:=1) (b:=m) (by omega)
 exact ⟨Nat.lt_of_le_of_lt (show _<=1 by simpa using a) (by decide +kernel),Nat.lt_of_le_of_lt (show _<=1000000007 by omega) (by decide +kernel)⟩
theorem aDU {z:Int} (h0:0<=z) (h1:z < 5):∃ m:Int,atI [D.int 1, .int 1, .int 6, .int 12, .int (10 ^ (9:Int).toNat+7)] z=some (.int m)/\1<=m/\m<=1000000007:=by
 have:z=0\/z=1\/z=2\/z=3\/z=4:=by omega
 rcases this with rfl | rfl | rfl | rfl | rfl
 ·exact ⟨1,rfl,by decide,by decide⟩
 ·exact ⟨1,rfl,by decide,by decide⟩
 ·exact ⟨6,rfl,by decide,by decide⟩
 ·exact ⟨12,rfl,by decide,by decide⟩
 ·exact ⟨10 ^ (9:Int).toNat+7,rfl,by decide,by decide⟩
theorem aKD {u c m:Int}:Rat.divInt u c * Rat.divInt 1 m=Rat.divInt u (c * m):=by rw [Rat.divInt_mul_divInt,Int.mul_one]
end Q
namespace R
open PySem
def itx (i:Int):List Nat:=(Str.ofString (toString i)).cps.toList
inductive Tr where
 | lf:Tr
 | nd:Tr->Int->Tr->Tr
end R
namespace R
open PySem L2
end R
namespace Q
open PySem L2 Z
def sdQ (xs ys:List D) (q:R.Qd):D:=mkS q.f ((dA q.f xs ys).getD q.p .non) (b6 q.f xs ys) (q.b,q.e)
theorem jT {α β:Type}{f g:α->List β}:∀ {l:List α},(∀ x∈l,f x=g x)->l.flatMap f=l.flatMap g
 | [],_=>rfl
 | x::l,h=>by rw [List.flatMap_cons,List.flatMap_cons,h x List.mem_cons_self,jT fun y hy=>h y (List.mem_cons_of_mem _ hy)]
theorem zB (xs ys:List D) (f:Nat):(dA f xs ys).length=R.Lf xs.length ys.length f:=by unfold dA R.Lf; split <;> rfl
theorem aIQ (xs ys:List D) (f:Nat):(b6 f xs ys).length - 1=R.Nf xs.length ys.length f:=by unfold b6 R.Nf; split <;> rfl
theorem aH8 (zs:List Str) (xs ys:List D) (n:Nat):gH zs xs ys n=(R.qsN zs xs.length ys.length n).map (sdQ xs ys):=by
 unfold gH R.qsN
 rw [List.map_flatMap]
 refine jT fun f _ => ?_
 unfold gB R.qsF
 rw [List.map_flatMap,zB]
 refine jT fun p hp => ?_
 have hp':p < (dA f xs ys).length:=by rw [zB]; exact List.mem_range.mp hp
 rw [zGe hp']
 show lW zs f (b6 f xs ys) p (dA f xs ys)[p]=_
 unfold lW R.qsP
 rw [List.map_map,aIQ]
 refine List.map_congr_left fun r _ => ?_
 show mkS f _ _ r=mkS f _ _ (r.1,r.2)
 rw [zGd,zGe hp']
 rfl
end Q
namespace Q
open PySem L2 Z U
theorem vR {K:List Str}{bx bu:List Int}:(c8 (bN K bx bu)=("out" : Str)->∀ k∈bx,∀ l∈bu,R.aT K k l=false)/\(c8 (bN K bx bu)≠("out" : Str)->c8 (bN K bx bu)≠("in" : Str)->(∃ k∈bx,∃ l∈bu,R.aT K k l=true)/\∃ k∈bx,∃ l∈bu,R.aT K k l=false):=by
 have mem:∀ {c},c∈bN K bx bu↔∃ l∈bu,∃ k∈bx,R.aT K k l=c:=fun {c}=>by
  unfold bN
  simp only [List.mem_flatMap,List.mem_map]
 unfold c8
 by_cases h1:(bN K bx bu).all id=true
 ·rw [if_pos h1]
  exact ⟨fun z=>absurd z (by decide +kernel),fun _ z=>absurd rfl z⟩
 ·rw [if_neg h1]
  by_cases h2:(bN K bx bu).any id=true
  ·rw [if_pos h2]
   refine ⟨fun z=>absurd z (by decide +kernel),fun _ _=>⟨?_,?_⟩⟩
   ·obtain ⟨c,hc,e⟩:=List.any_eq_true.mp h2
    obtain ⟨l,hl,k,hk,q⟩:=mem.mp hc
    exact ⟨k,hk,l,hl,q.trans e⟩
   ·refine Classical.byContradiction fun z=>h1 (List.all_eq_true.mpr fun c hc => ?_)
    obtain ⟨l,hl,k,hk,q⟩:=mem.mp hc
    cases c with
    | true=>rfl
    | false=>exact absurd ⟨k,hk,l,hl,q⟩ z
  ·rw [if_neg h2]
   refine ⟨fun _ k hk l hl => ?_,fun z=>absurd rfl z⟩
   cases e:R.aT K k l with
   | false=>rfl
   | true=>exact absurd (List.any_eq_true.mpr ⟨true,mem.mpr ⟨l,hl,k,hk,e⟩,rfl⟩) h2
theorem aLF {ws:List Rat} (u:Up ws) (x:Rat):ix ws x∈aU ws x:=by
 by_cases h:x∈ws
 ·obtain ⟨i,hi,rfl⟩:=List.getElem_of_mem h
  rw [l8 u hi,fT u hi]; simp
 ·rw [qQ h]; simp
theorem aB2 {ws:List Rat} (u:Up ws) (hl:1<=ws.length) {x:Rat}{a:Nat} (h:(a:Int)∈aU ws x):(a < ws.length->ws.getD a 0<=x)/\(a+1 < ws.length->x<=ws.getD (a+1) 0):=by
 obtain ⟨b,hb,e⟩:=k8 h
 have hba:b=a+1:=by omega
 subst hba
 have t:=(oB u (x:=x) (p:=1) (q:=1) (by decide) (by decide) hl hb).mpr (by rw [show (((a+1:Nat):Int) - 1)=(a:Int) by omega]; exact h)
 obtain ⟨g1,g2⟩:=aCV (p:=1) (q:=1) (by decide) (by decide) hl hb t
 refine ⟨fun _ => ?_,fun g => ?_⟩
 ·have:=g2 (by omega)
  rw [Nat.add_sub_cancel] at this
  grind
 ·have:=g1 g; grind
theorem xR {ws:List Rat} (u:Up ws) {x:Rat}{k k':Int} (h:k∈aU ws x) (h':k'∈aU ws x) (ne:k≠k'):∃ i:Nat,i < ws.length/\ws.getD i 0=x/\(k=(i:Int) - 1/\k'=(i:Int)\/k=(i:Int)/\k'=(i:Int) - 1):=by
 by_cases m:x∈ws
 ·obtain ⟨i,hi,rfl⟩:=List.getElem_of_mem m
  rw [l8 u hi] at h h'
  simp only [List.mem_cons,List.not_mem_nil,or_false] at h h'
  exact ⟨i,hi,gD hi,by omega⟩
 ·rw [qQ m,List.mem_singleton] at h h'
  exact absurd (h.trans h'.symm) ne
theorem xV {A:Yd}{k l:Int} (h:R.aT A.K k l=true):∃ a b:Nat,k=(a:Int)/\l=(b:Int)/\a+1 < A.ws.length/\b+1 < A.us.length:=by
 obtain ⟨h1,h2,h3,h4⟩:=aHH (n:=A.ws.length - 1) A.T.good.1 h
 have:=A.wide.2
 exact ⟨k.toNat,l.toNat,by omega,by omega,by omega,by omega⟩
theorem aG9 {A:Yd}{p q r s x y:Rat} (z:Pz p q r s) (h1:c8 (bN A.K (aU A.ws x) (aU A.us y))≠("out" : Str)) (h2:c8 (bN A.K (aU A.ws x) (aU A.us y))≠("in" : Str)):∃ d∈cX A,Tch A p q r s x y 0 d:=by
 obtain ⟨⟨k,hk,l,hl,ci⟩,k',hk',l',hl',co⟩:=vR.2 h1 h2
 have edgeX:∀ {k k' l:Int},k∈aU A.ws x->k'∈aU A.ws x->l∈aU A.us y->R.aT A.K k l=true->R.aT A.K k' l=false->∃ d∈cX A,Tch A p q r s x y 0 d:=fun {k k' l} hk hk' hl c1 c2=>by
  obtain ⟨i,hi,ex,w⟩:=xR A.uw hk hk' (fun e=>by rw [e,c2] at c1; cases c1)
  obtain ⟨a,b,ea,eb,a1,b1⟩:=xV c1
  subst eb
  obtain ⟨y1,y2⟩:=aB2 A.uu (by omega) hl
  have y1:=y1 (by omega)
  have y2:=y2 (by omega)
  rcases w with ⟨w1,w2⟩ | ⟨w1,w2⟩
  ·refine dQ (f:=2) (l:=i) (a:=b) z (by omega) hi b1 ?_ ?_ ?_ ?_
   ·show Ax.edge _ true i b
    unfold Ax.edge
    rw [if_pos rfl,<- w1,<- w2]
    exact ⟨c1,c2⟩
   ·show A.ws.getD i 0=x+r * 0; grind
   ·show y - q * 0<=A.us.getD (b+1) 0; grind
   ·show A.us.getD b 0<=y+s * 0; grind
  ·refine dQ (f:=0) (l:=i) (a:=b) z (by omega) hi b1 ?_ ?_ ?_ ?_
   ·show Ax.edge _ false i b
    unfold Ax.edge
    rw [if_neg zBf,<- w2,<- w1]
    exact ⟨c1,c2⟩
   ·show A.ws.getD i 0=x - p * 0; grind
   ·show y - q * 0<=A.us.getD (b+1) 0; grind
   ·show A.us.getD b 0<=y+s * 0; grind
 cases e:R.aT A.K k l' with
 | true=>exact edgeX hk hk' hl' e co
 | false =>
  obtain ⟨i,hi,ex,w⟩:=xR A.uu hl hl' (fun q=>by rw [<- q,ci] at e; cases e)
  obtain ⟨a,b,ea,eb,a1,b1⟩:=xV ci
  subst ea
  obtain ⟨y1,y2⟩:=aB2 A.uw (by omega) hk
  have y1:=y1 (by omega)
  have y2:=y2 (by omega)
  rcases w with ⟨w1,w2⟩ | ⟨w1,w2⟩
  ·refine dQ (f:=3) (l:=i) (a:=a) z (by omega) hi a1 ?_ ?_ ?_ ?_
   ·show Ax.edge _ true i a
    unfold Ax.edge
    rw [if_pos rfl,<- w1,<- w2]
    exact ⟨ci,e⟩
   ·show A.us.getD i 0=y+s * 0; grind
   ·show x - p * 0<=A.ws.getD (a+1) 0; grind
   ·show A.ws.getD a 0<=x+r * 0; grind
  ·refine dQ (f:=1) (l:=i) (a:=a) z (by omega) hi a1 ?_ ?_ ?_ ?_
   ·show Ax.edge _ false i a
    unfold Ax.edge
    rw [if_neg zBf,<- w2,<- w1]
    exact ⟨ci,e⟩
   ·show A.us.getD i 0=y - q * 0; grind
   ·show x - p * 0<=A.ws.getD (a+1) 0; grind
   ·show A.ws.getD a 0<=x+r * 0; grind
theorem aA8 {al:List Rat} (u:Up al) {b e:Nat} (hbe:b < e) (he:e < al.length) {y:Rat} (h1:y<=al.getD e 0) (h2:al.getD b 0<=y):∃ a:Nat,b<=a/\a < e/\(a:Int)∈aU al y:=by
 by_cases h:y < al.getD e 0
 ·obtain ⟨a,a1,a2,ea⟩:=aKG u he hbe h2 h
  exact ⟨a,a1,a2,by rw [<- ea]; exact aLF u y⟩
 ·have e1:y=al[e]:=by rw [gD he] at h h1; grind
  refine ⟨e - 1,by omega,by omega,?_⟩
  rw [e1,l8 u he]
  simp; omega
theorem aAC {A:Yd}{p q r s x y:Rat} (z:Pz p q r s) (h:c8 (bN A.K (aU A.ws x) (aU A.us y))=("out" : Str)) {d:R.Qd} (hd:d∈cX A):¬ Tch A p q r s x y 0 d:=fun tc=>by
 have out:=vR.1 h
 obtain ⟨r1,r2,r3,r4,r5,_⟩:=R.gW hd
 have n1:=aEM A p q r s x y d.f
 have n2:=yF A p q r s x y d.f
 have o:=hU (A:=A) z x y d.f
 have ln:=tc.line
 have lo:=tc.lo
 have hi:=tc.hi
 have key:∀ {X:Ax},X.Ok->X.ls.getD d.p 0=X.at (eS d.f) 0->X.y - X.da * 0<=X.al.getD d.e 0->X.al.getD d.b 0<=X.y+X.ua * 0->d.p < X.ls.length->d.e < X.al.length->(∀ a,d.b<=a->a < d.e->X.edge (eS d.f) d.p a)->∃ k∈aU X.ls X.x,∃ l∈aU X.al X.y,X.c k l=true:=fun {X} o ln lo hi hp he ed=>by
  have ex:X.x=X.ls[d.p]:=by
   rw [gD hp] at ln
   unfold Ax.at at ln
   split at ln <;> grind
  obtain ⟨a,a1,a2,ha⟩:=aA8 o.uy r3 he (y:=X.y) (by grind) (by grind)
  have edg:=ed a a1 a2
  unfold Ax.edge at edg
  rw [ex,l8 o.ul hp]
  split at edg
  ·exact ⟨_, .head _,a,ha,edg.1⟩
  ·exact ⟨_, .tail _ (.head _),a,ha,edg.1⟩
 obtain ⟨k,hk,l,hl,c⟩:=key o ln lo hi (by omega) (by omega) (fun a g1 g2=>wA.mp (r5 a g1 g2).2.2.2)
 unfold axF at hk hl c
 split at hk
 ·rename_i ev
  rw [if_pos ev] at hl c
  have:=out k hk l hl
  rw [show (axX A p q r s x y).c k l=R.aT A.K k l from rfl,this] at c
  cases c
 ·rename_i ev
  rw [if_neg ev] at hl c
  have:=out l hl k hk
  rw [show (axY A p q r s x y).c k l=R.aT A.K l k from rfl,this] at c
  cases c
def lsF (A:Yd) (f:Nat):List Rat:=if f % 2=0 then A.ws else A.us
def alF (A:Yd) (f:Nat):List Rat:=if f % 2=0 then A.us else A.ws
def dE (A:Yd) (d:R.Qd):Rat:=(lsF A d.f).getD d.p 0
def zI (A:Yd) (d:R.Qd):Rat:=(alF A d.f).getD d.b 0
def wU (A:Yd) (d:R.Qd):Rat:=(alF A d.f).getD d.e 0
end Q
namespace Q
open PySem L2 Z U
abbrev FrT:=Nat × Rat
def frK (A:Yd) (d:R.Qd):FrT:=(d.f,dE A d)
def dP (t:FrT):D := .tup [.int (t.1:Int),aL t.2]
def sdR (A:Yd) (d:R.Qd):D := .tup [.int (d.f:Int),aL (dE A d),aL (zI A d),aL (wU A d)]
theorem p9 {l:List Rat}{i:Nat} (h:i < l.length):(bD l).getD i .non=aL (l.getD i 0):=by
 unfold bD
 rw [zGd,List.getElem?_map,zGd,zGe h]; rfl
theorem aII (A:Yd) (f:Nat):dA f (bD A.ws) (bD A.us)=bD (lsF A f):=by unfold dA lsF; split <;> rfl
theorem aJL (A:Yd) (f:Nat):b6 f (bD A.ws) (bD A.us)=bD (alF A f):=by unfold b6 alF; split <;> rfl
theorem wD (A:Yd) (f:Nat):(lsF A f).length=R.Lf A.ws.length A.us.length f:=by unfold lsF R.Lf; split <;> rfl
theorem aK2 (A:Yd) (f:Nat):(alF A f).length - 1=R.Nf A.ws.length A.us.length f:=by unfold alF R.Nf; split <;> rfl
theorem aB6 (A:Yd):gH A.K (bD A.ws) (bD A.us) 4=(cX A).map (sdR A):=by
 rw [aH8,cQ,cQ]
 refine List.map_congr_left fun d hd => ?_
 obtain ⟨_,r2,r3,r4,_⟩:=R.gW hd
 have n1:=wD A d.f
 have n2:=aK2 A d.f
 unfold sdQ mkS sdR dE zI wU
 rw [aII,aJL,p9 (by omega)]
 show D.tup [_,_,(bD (alF A d.f)).getD d.b .non,(bD (alF A d.f)).getD d.e .non]=_
 rw [p9 (by omega),p9 (by omega)]
def uJ (acc:List FrT) (x:FrT):List FrT:=if x∈acc then acc else acc++[x]
def nubK (l:List FrT):List FrT:=l.foldl uJ []
def j5 (acc:List FrT) (x:FrT):List FrT:=if acc.getLast?=some x then acc else acc++[x]
def oD (l:List FrT):List FrT:=l.foldl j5 []
theorem vM (a b:FrT):eqD (dP a) (dP b)=decide (a=b):=by
 show (eqD (.int (a.1:Int)) (.int (b.1:Int)) && (eqD (aL a.2) (aL b.2) && true))=_
 rw [Bool.and_true,iP]
 show ((a.1:Int) == (b.1:Int) && _)=_
 rw [Bool.eq_iff_iff,Bool.and_eq_true,beq_iff_eq,decide_eq_true_eq,decide_eq_true_eq,Prod.ext_iff]
 exact and_congr_left fun _=>by omega
theorem aLD (acc:List FrT):(acc.map dP).getLast?=acc.getLast?.map dP:=by rw [List.getLast?_map]
theorem aJ8 (A:Yd):∀ (ts:List R.Qd) (acc:List FrT),(ts.map (sdR A)).foldl eZ (acc.map dP)=((ts.map (frK A)).foldl j5 acc).map dP
 | [],acc=>rfl
 | d::ts,acc=>by
  have e:eZ (acc.map dP) (sdR A d)=(j5 acc (frK A d)).map dP:=by
   unfold eZ j5
   rw [aLD]
   cases h:acc.getLast? with
   | none=>simp only [Option.map_none]; rw [if_neg (by simp),List.map_append]; rfl
   | some x =>
    simp only [Option.map_some]
    rw [show qZ (sdR A d)=dP (frK A d) from rfl,vM]
    by_cases q:x=frK A d
    ·rw [decide_eq_true q,if_pos rfl,if_pos (by rw [q])]
    ·rw [decide_eq_false q,if_neg zBf,if_neg (fun z=>q (Option.some.inj z)),List.map_append]; rfl
  rw [List.map_cons,List.foldl_cons,e,aJ8 A ts,List.map_cons,List.foldl_cons]
theorem aPJ (A:Yd) (ts:List R.Qd):oC (ts.map (sdR A))=(oD (ts.map (frK A))).map dP:=aJ8 A ts []
def kD (a b:FrT):Prop:=a.1 < b.1\/a.1=b.1/\a.2<=b.2
theorem kD.anti {a b:FrT} (h:kD a b) (g:kD b a):a=b:=by
 unfold kD at *
 refine Prod.ext (by omega) ?_
 rcases h with h | ⟨_,h⟩ <;> rcases g with g | ⟨_,g⟩
 ·omega
 ·omega
 ·omega
 ·exact Rat.le_antisymm h g
theorem rF:∀ (l acc:List FrT),l.Pairwise kD->(∀ a∈acc,∀ x∈l,kD a x)->(∀ z,acc.getLast?=some z->∀ a∈acc,kD a z)->l.foldl uJ acc=l.foldl j5 acc
 | [],acc,_,_,_=>rfl
 | x::l,acc,hp,ha,hz=>by
  obtain ⟨p1,p2⟩:=List.pairwise_cons.mp hp
  have e:uJ acc x=j5 acc x:=by
   unfold uJ j5
   by_cases m:x∈acc
   ·rw [if_pos m]
    cases h:acc.getLast? with
    | none=>rw [List.getLast?_eq_none_iff] at h; rw [h] at m; cases m
    | some z =>
     have q1:=hz z h x m
     have q2:=ha z (List.mem_of_getLast? h) x (by simp)
     rw [if_pos (by rw [q2.anti q1])]
   ·rw [if_neg m,if_neg fun q=>m (List.mem_of_getLast? q)]
  rw [List.foldl_cons,List.foldl_cons,e]
  have mem:∀ a∈j5 acc x,a∈acc\/a=x:=fun a h=>by
   unfold j5 at h
   split at h
   ·exact .inl h
   ·exact (List.mem_append.mp h).imp id (fun q=>by rwa [List.mem_singleton] at q)
  refine rF l (j5 acc x) p2 (fun a h y hy => ?_) (fun z h a hm => ?_)
  ·rcases mem a h with q | q
   ·exact ha a q y (List.mem_cons_of_mem _ hy)
   ·rw [q]; exact p1 y hy
  ·have hzx:z=x:=by
    unfold j5 at h
    split at h
    ·rename_i g; rw [g] at h; exact (Option.some.inj h).symm
    ·rw [List.getLast?_append] at h; simpa using h.symm
   rw [hzx]
   rcases mem a hm with q | q
   ·exact ha a q x (by simp)
   ·rw [q]; exact .inr ⟨rfl,Rat.le_refl⟩
theorem aMQ {l:List FrT} (h:l.Pairwise kD):nubK l=oD l:=rF l [] h (fun a z=>(nomatch z)) (fun z h=>by simp at h)
theorem aCX:∀ (l acc:List FrT) (x:FrT),x∈l.foldl uJ acc↔x∈acc\/x∈l
 | [],acc,x=>by simp
 | y::l,acc,x=>by
  rw [List.foldl_cons,aCX l (uJ acc y) x,List.mem_cons]
  unfold uJ
  split
  ·rename_i h
   constructor
   ·rintro (q | q)
    ·exact .inl q
    ·exact .inr (.inr q)
   ·rintro (q | q | q)
    ·exact .inl q
    ·exact .inl (q ▸ h)
    ·exact .inr q
  ·rw [List.mem_append,List.mem_singleton,or_assoc]
open Classical in
noncomputable def qG (A:Yd) (p q r s x y h:Rat) (d:R.Qd):Bool:=decide (Tch A p q r s x y h d)
theorem fK {A:Yd}{p q r s x y h:Rat}{d:R.Qd}:qG A p q r s x y h d=true↔Tch A p q r s x y h d:=by unfold qG; exact @decide_eq_true_iff _ (Classical.propDecidable _)
noncomputable def d7 (A:Yd) (p q r s x y h:Rat):List R.Qd:=(cX A).filter (qG A p q r s x y h)
theorem aEF {A:Yd}{l:List R.Qd} (hs:∀ d∈l,d∈cX A) (h:l.Pairwise R.Bef):(l.map (frK A)).Pairwise kD:=by
 rw [List.pairwise_map]
 refine h.imp_of_mem fun {a b} ha hb q => ?_
 obtain ⟨_,a2,_⟩:=R.gW (hs a ha)
 obtain ⟨_,b2,_⟩:=R.gW (hs b hb)
 have n1:=wD A a.f
 have n2:=wD A b.f
 rcases q with q | ⟨q1,q2⟩
 ·exact .inl q
 ·refine .inr ⟨q1,?_⟩
  show dE A a<=dE A b
  unfold dE
  rw [<- q1] at n2 b2 ⊢
  rw [gD (by omega),gD (by omega)]
  have u:Up (lsF A a.f):=by unfold lsF; split; exact A.uw; exact A.uu
  exact (U.gQ u (by omega) (by omega)).mpr (by rcases q2 with q | ⟨q,_⟩ <;> omega)
theorem aMU (A:Yd) (p q r s x y h:Rat):((d7 A p q r s x y h).map (frK A)).Pairwise kD:=aEF (fun d hd=>(List.mem_filter.mp hd).1) ((R.aPX A.K A.ws.length A.us.length 4).filter _)
noncomputable def letBy (A:Yd) (p q r s x y H:Rat) (n:Nat) (l:List R.Qd):List FrT:=l.flatMap fun d=>if qG A p q r s x y H d=true then List.replicate (n+1) (frK A d) else []
structure Sz (k:Nat) (q:Rat):Prop where
 n:q.num.natAbs<=10 ^ k
 d:q.den<=10 ^ k
theorem Sz.bq {k:Nat}{q:Rat} (h:Sz k q) (hk:k<=390):Bq q:=by
 have:10 ^ k<=10 ^ 390:=Nat.pow_le_pow_right (by decide) hk
 exact ⟨Nat.lt_of_le_of_lt (Nat.le_trans h.n this) (by decide +kernel),Nat.lt_of_le_of_lt (Nat.le_trans h.d this) (by decide +kernel)⟩
theorem Sz.tog {j k:Nat}{a b:Rat} (h:Sz j a) (g:Sz k b) {c:Int} (hc:c.natAbs<=1):Sz (j+k+1) (a+(c:Rat) * b):=by
 rw [<- wZ]
 have d0:0 < (a.den:Int) * (b.den:Int):=Int.mul_pos (by have:=a.den_pos; omega) (by have:=b.den_pos; omega)
 obtain ⟨h1,h2⟩:=zQ (a:=a.num * (b.den:Int)+c * b.num * (a.den:Int)) d0
 have m1:a.num.natAbs * b.den<=10 ^ j * 10 ^ k:=Nat.mul_le_mul h.n g.d
 have m2:c.natAbs * b.num.natAbs * a.den<=1 * 10 ^ k * 10 ^ j:=Nat.mul_le_mul (Nat.mul_le_mul hc g.n) h.d
 have m3:a.den * b.den<=10 ^ j * 10 ^ k:=Nat.mul_le_mul h.d g.d
 have e1:10 ^ (j+k+1)=10 ^ j * 10 ^ k * 10:=by rw [Nat.pow_succ,Nat.pow_add]
 rw [Nat.one_mul,Nat.mul_comm (10 ^ k)] at m2
 have t:(a.num * (b.den:Int)+c * b.num * (a.den:Int)).natAbs<=a.num.natAbs * b.den+c.natAbs * b.num.natAbs * a.den:=by
  refine Nat.le_trans (Int.natAbs_add_le _ _) ?_
  rw [Int.natAbs_mul,Int.natAbs_mul,Int.natAbs_mul,Int.natAbs_natCast,Int.natAbs_natCast]
  exact Nat.le_refl _
 refine ⟨by rw [e1]; omega,?_⟩
 have h3:(Rat.divInt (a.num * (b.den:Int)+c * b.num * (a.den:Int)) ((a.den:Int) * (b.den:Int))).den<=a.den * b.den:=by
  have:=h2
  rw [<- Int.natCast_mul] at this
  exact Int.ofNat_le.mp this
 rw [e1]; omega
theorem Sz.add {j k:Nat}{a b:Rat} (h:Sz j a) (g:Sz k b):Sz (j+k+1) (a+b):=by
 have:=h.tog g (c:=1) (by decide)
 rwa [show a+((1:Int):Rat) * b=a+b by rw [show ((1:Int):Rat)=1 from rfl,Rat.one_mul]] at this
theorem Sz.sub {j k:Nat}{a b:Rat} (h:Sz j a) (g:Sz k b):Sz (j+k+1) (a - b):=by
 have:=h.tog g (c := -1) (by decide)
 rwa [show a+((-1:Int):Rat) * b=a - b by rw [show ((-1:Int):Rat) = -1 from rfl]; grind] at this
theorem Sz.mulI {k:Nat}{q:Rat} (h:Sz k q) {p:Int} (hp:Pc p):Sz (k+1) ((p:Rat) * q):=by
 have p1:=hp.a
 have p2:=hp.b
 have e:(p:Rat) * q=Rat.divInt (p * q.num) (q.den:Int):=by
  conv=>lhs; rw [<- Rat.num_divInt_den q]
  have:=Rat.divInt_mul_divInt p q.num (d₁:=1) (d₂:=(q.den:Int))
  rw [Int.one_mul] at this
  rw [<- this,wK]
 rw [e]
 obtain ⟨h1,h2⟩:=zQ (a:=p * q.num) (b:=(q.den:Int)) (by have:=q.den_pos; omega)
 rw [Int.natAbs_mul] at h1
 have m:p.natAbs * q.num.natAbs<=10 * 10 ^ k:=Nat.mul_le_mul (by omega) h.n
 have hd:=h.d
 exact ⟨by rw [Nat.pow_succ]; omega,by rw [Nat.pow_succ]; omega⟩
theorem Sz.mono {j k:Nat}{q:Rat} (h:Sz j q) (hk:j<=k):Sz k q:=by
 have:10 ^ j<=10 ^ k:=Nat.pow_le_pow_right (by decide) hk
 exact ⟨Nat.le_trans h.n this,Nat.le_trans h.d this⟩
theorem Sz.ofFr {M:Nat} (n:Nm M (10 ^ 60)) {q:Rat} (h:Fr M (10 ^ 60) q):Sz 60 q:=by
 obtain ⟨a,b⟩:=h.bd n.m0
 exact ⟨a,Nat.le_trans b n.m1⟩
theorem Sz.ofDn {M:Nat} (n:Nm M (10 ^ 60)) {q:Rat} (h:Dn M (10 ^ 60) q):Sz 61 q:=by
 refine ⟨Nat.le_trans h.n (by decide +kernel),Nat.le_trans h.d (Nat.le_trans (Nat.mul_le_mul_left 9 n.m1) (by unfold sm; decide +kernel))⟩
structure Env (A:Yd) (e n w s:Int) (x y:Rat) (M:Nat):Prop where
 o:Pp e n w s
 nm:Nm M (10 ^ 60)
 ax:FrL M (10 ^ 60) A.ws
 ay:FrL M (10 ^ 60) A.us
 fx:Fr M (10 ^ 60) x
 fy:Fr M (10 ^ 60) y
 lx:A.ws.length<=7
 ly:A.us.length<=7
theorem Env.ls {A:Yd}{e n w s:Int}{x y:Rat}{M:Nat} (h:Env A e n w s x y M) (d:R.Qd):Fr M (10 ^ 60) (dE A d)/\Fr M (10 ^ 60) (zI A d)/\Fr M (10 ^ 60) (wU A d):=by
 have f1:FrL M (10 ^ 60) (lsF A d.f):=by unfold lsF; split; exact h.ax; exact h.ay
 have f2:FrL M (10 ^ 60) (alF A d.f):=by unfold alF; split; exact h.ay; exact h.ax
 exact ⟨f1.at _,f2.at _,f2.at _⟩
def aI9 (e n w s:Int) (x y t:Rat):D := .tup [aL (x - (e:Rat) * t),aL (y - (n:Rat) * t),aL (x+(w:Rat) * t),aL (y+(s:Rat) * t)]
def aNV:Ct:=fun ds M k=>∃ (e n w s:Int) (x y t:Rat),ds=[fE e n w s,aL x,aL y,aL t]/\Pp e n w s/\Sz 60 x/\Sz 60 y/\Sz 62 t/\k (aI9 e n w s x y t) M
def aJN:Ct:=fun ds M k=>∃ (A:Yd) (d:R.Qd) (e n w s:Int) (x y t:Rat) (N:Nat),ds=[sdR A d,aI9 e n w s x y t]/\d.f < 4/\Env A e n w s x y N/\Sz 62 t/\∀ b:Bool,(b=true↔Tch A e n w s x y t d)->k (.bl b) M
def aF4:Ct:=fun ds M k=>∃ (A:Yd) (e n w s:Int) (x y t:Rat) (N:Nat),ds=[yd A,aI9 e n w s x y t]/\Env A e n w s x y N/\Sz 62 t/\k (.lst ((d7 A e n w s x y t).map (sdR A))) M
def aIF:Ct:=fun ds M k=>∃ (A:Yd) (e n w s:Int) (x y:Rat) (N:Nat),ds=[yd A,fE e n w s,aL x,aL y]/\Env A e n w s x y N/\∀ a,M a=none->k (.mt a) (b7 M a (.lst ((oD ((d7 A e n w s x y (aI A e n w s x y)).map (frK A))).map dP)))
theorem aMB (A:Yd) (e n w s:Int) (x y t:Rat) {f:Nat} (hf:f < 4):atI [aL (x - (e:Rat) * t),aL (y - (n:Rat) * t),aL (x+(w:Rat) * t),aL (y+(s:Rat) * t)] (f:Int)=some (aL ((axF A e n w s x y f).at (eS f) t))/\atI [aL (x - (e:Rat) * t),aL (y - (n:Rat) * t),aL (x+(w:Rat) * t),aL (y+(s:Rat) * t)] (1 - (f:Int) % 2)=some (aL ((axF A e n w s x y f).y - (axF A e n w s x y f).da * t))/\atI [aL (x - (e:Rat) * t),aL (y - (n:Rat) * t),aL (x+(w:Rat) * t),aL (y+(s:Rat) * t)] (3 - (f:Int) % 2)=some (aL ((axF A e n w s x y f).y+(axF A e n w s x y f).ua * t)):=by
 have:f=0\/f=1\/f=2\/f=3:=by omega
 rcases this with rfl | rfl | rfl | rfl <;> exact ⟨rfl,rfl,rfl⟩
theorem aG6 (A:Yd) (p q r s x y:Rat) (f:Nat):(axF A p q r s x y f).ls=lsF A f/\(axF A p q r s x y f).al=alF A f:=by unfold axF lsF alF; split <;> exact ⟨rfl,rfl⟩
end Q
namespace Q
open PySem L2 Z U
def aQ5:Ct:=fun ds M k=>∃ t b:Int,ds=[.int t, .int b]/\0 < b/\b < 10 ^ 300/\k (pairD (lowG t b)) M
open Classical in
noncomputable def reps (H:Rat):Nat:=if H=0 then 2 else 0
theorem Env.sx {A:Yd}{e n w s:Int}{x y:Rat}{M:Nat} (h:Env A e n w s x y M):Sz 60 x/\Sz 60 y:=⟨.ofFr h.nm h.fx, .ofFr h.nm h.fy⟩
theorem Env.high {A:Yd}{e n w s:Int}{x y:Rat}{M:Nat} (h:Env A e n w s x y M):Sz 61 (aI A e n w s x y) := .ofDn h.nm (aG4 h.nm h.ax h.ay h.fx h.fy h.o)
theorem oF {A:Yd} (lx:A.ws.length<=7) (ly:A.us.length<=7):(cX A).length<=60000:=by
 have:=pF (zs:=A.K) (xs:=bD A.ws) (ys:=bD A.us) (by rw [cQ]; omega) (by rw [cQ]; omega) 4
 rw [aB6,zLm] at this
 omega
theorem qN (A:Yd) (x y:Rat):fP A x y=true↔c8 (bN A.K (aU A.ws x) (aU A.us y))=("in" : Str):=by
 rw [<- aER]; exact decide_eq_true_iff
theorem lR {A:Yd}{p q r s x y t:Rat}{d:R.Qd}:Tch A p q r s x y t d↔dE A d=(axF A p q r s x y d.f).at (eS d.f) t/\¬ wU A d < (axF A p q r s x y d.f).y - (axF A p q r s x y d.f).da * t/\¬ (axF A p q r s x y d.f).y+(axF A p q r s x y d.f).ua * t < zI A d:=by
 have e:=aG6 A p q r s x y d.f
 unfold dE zI wU
 rw [<- e.1,<- e.2,Rat.not_lt,Rat.not_lt]
 exact ⟨fun h=>⟨h.line,h.lo,h.hi⟩,fun h=>⟨h.1,h.2.1,h.2.2⟩⟩
theorem Env.edges {A:Yd}{e n w s:Int}{x y:Rat}{N:Nat} (h:Env A e n w s x y N) {t:Rat} (ht:Sz 62 t) (f:Nat):Bq ((axF A e n w s x y f).y - (axF A e n w s x y f).da * t)/\Bq ((axF A e n w s x y f).y+(axF A e n w s x y f).ua * t):=by
 obtain ⟨sx,sy⟩:=h.sx
 unfold axF
 split
 ·exact ⟨(sy.sub (ht.mulI h.o.q)).bq (by decide),(sy.add (ht.mulI h.o.s)).bq (by decide)⟩
 ·exact ⟨(sx.sub (ht.mulI h.o.p)).bq (by decide),(sx.add (ht.mulI h.o.r)).bq (by decide)⟩
theorem m9 {α:Type}{l:List α}{i:Nat}{x:α} (p:α->Bool) (h:l[i]?=some x):(l.take (i+1)).filter p=(l.take i).filter p++if p x=true then [x] else []:=by
 rw [List.take_add_one,h,List.filter_append]
 congr 1
 show List.filter p [x]=_
 by_cases q:p x=true
 ·rw [if_pos q,List.filter_cons_of_pos q]; rfl
 ·rw [if_neg q,List.filter_cons_of_neg q]; rfl
theorem aOB {z:Int} (h:z.natAbs<=9) {t:Rat} (b:Bq t):(z * (pq t).1).natAbs < big:=by
 rw [Int.natAbs_mul]
 have h2:(pq t).1.natAbs < 10 ^ 400:=b.g.a
 exact Nat.lt_of_le_of_lt (Nat.mul_le_mul h (Nat.le_of_lt h2)) (by unfold big; decide +kernel)
theorem b0:Bq 0:=⟨by decide +kernel,by decide +kernel⟩
theorem aNI (l:List FrT) (t:FrT):((l.map dP).any fun x=>eqD x (dP t))=decide (t∈l):=by
 rw [Bool.eq_iff_iff,List.any_eq_true,decide_eq_true_eq]
 constructor
 ·rintro ⟨d,hd,e⟩
  obtain ⟨q,hq,rfl⟩:=List.mem_map.mp hd
  rw [vM,decide_eq_true_eq] at e
  rw [<- e]; exact hq
 ·intro h
  exact ⟨dP t,List.mem_map.mpr ⟨t,h,rfl⟩,by rw [vM,decide_eq_true_eq]⟩
def top (i:Nat):Stmt:=PySem.Challenge.pw_roofridges_k46_whole_rain_goes_down.main.body.getD i (.Pass ⟨0,0,0,0⟩)
abbrev kX:Stmt:=top 7
abbrev f9:Stmt:=top 8
abbrev pE:Stmt:=top 9
abbrev lE:Stmt:=top 10
abbrev vX:Stmt:=top 11
abbrev rL:Stmt:=top 12
abbrev rR:Stmt:=top 13
abbrev vK:Stmt:=top 14
abbrev sN:Stmt:=top 15
abbrev o6:Stmt:=top 16
abbrev n8:Stmt:=top 17
abbrev pY:Stmt:=top 21
abbrev lF:Stmt:=top 22
abbrev p8:Stmt:=top 23
abbrev nA:Stmt:=top 24
abbrev nK:Stmt:=top 25
abbrev pW:Stmt:=top 26
abbrev pH:Stmt:=top 27
abbrev gO:Stmt:=top 28
abbrev fN:Stmt:=top 29
abbrev vQ:Stmt:=top 30
abbrev lJ:Stmt:=top 31
abbrev lG:Stmt:=top 32
abbrev uW:Stmt:=top 33
abbrev nJ:Stmt:=top 35
abbrev uL:Stmt:=top 36
abbrev kC:Stmt:=top 37
abbrev sY:Stmt:=top 38
abbrev j7:Stmt:=top 39
abbrev vF:Stmt:=top 41
abbrev nM:Stmt:=top 42
abbrev kY:Stmt:=top 43
abbrev p3:Stmt:=top 44
abbrev kB:Stmt:=top 45
abbrev nU:Stmt:=top 46
abbrev k6:Stmt:=top 47
abbrev nC:Stmt:=top 48
abbrev rX:Stmt:=top 49
abbrev nX:Stmt:=top 51
abbrev iZ:Stmt:=top 53
abbrev mZ:Stmt:=top 54
abbrev lP:Stmt:=top 55
abbrev vB:Stmt:=top 56
abbrev kA:Stmt:=top 58
abbrev yG:Stmt:=top 60
abbrev vC:Stmt:=top 61
abbrev sR:Stmt:=top 62
abbrev sK:Stmt:=top 63
abbrev r0:Stmt:=top 64
abbrev qB:Stmt:=top 65
abbrev sP:Stmt:=top 66
abbrev sA:Stmt:=top 67
abbrev vW:Stmt:=top 68
abbrev n9:Stmt:=top 69
abbrev gT:Stmt:=top 70
abbrev iX:Stmt:=top 71
abbrev j8:Stmt:=top 72
abbrev jM:Stmt:=top 73
abbrev sC:Stmt:=top 74
section
variable {P:Program}{w:World}{K:PySem.W.Frag}{mg:Str->Option Value}{base:Heap}{f:Addr}{fd:FuncData}
abbrev zl0:List Str:=["_law_pen_here", "_law_yard", "_law_paces_here", "_law_front", "_law_one", "_law_other"]
abbrev zl1:List Str:=["_law_pen_here", "_law_yard", "_law_paces_here", "_law_x", "_law_y"]
abbrev zl2:List Str:=["_law_paces_here", "_law_front", "_law_one", "_law_other"]
abbrev zl3:List Str:=["_law_pen_here", "_law_lines_here", "_law_bottom"]
abbrev zl4:List Str:=["_law_one", "_law_other", "_law_part_here"]
abbrev zl5:List Str:=["_law_pen_here", "_law_xs", "_law_ys"]
abbrev zl6:List Str:=["yard", "facing", "place", "band"]
abbrev zl7:List Str:=["lines", "where", "down", "up"]
abbrev zl8:List Str:=["_law_pen_here", "_law_many"]
abbrev zl9:List Str:=["_law_upper", "_law_bottom"]
abbrev zl10:List Str:=["_law_pen_here", "_law_gap"]
abbrev zl11:List Str:=["paces", "front", "height"]
abbrev zl12:List Str:=["paces", "x", "y", "time"]
abbrev zl13:List Str:=["yard", "facing", "place"]
abbrev zl14:List Str:=["yard", "paces", "x", "y"]
abbrev zl15:List Str:=["yard", "across", "up"]
abbrev zl16:List Str:=["yard", "by_x", "by_y"]
abbrev zl17:List Str:=["paces", "side", "at"]
abbrev zl18:List Str:=["front", "line", "at"]
abbrev zl19:List Str:=["xs", "ys", "rows"]
abbrev zl20:List Str:=["rows", "xs", "ys"]
abbrev zl21:List Str:=["top", "bottom"]
abbrev zl22:List Str:=["yard", "edges"]
abbrev zl23:List Str:=["rows", "place"]
abbrev zl24:List Str:=["row", "places"]
abbrev zl25:List Str:=["thing", "wide"]
abbrev zl26:List Str:=["one", "other"]
abbrev zl27:List Str:=["pace", "time"]
abbrev zl28:List Str:=["_law_script"]
abbrev zl29:List Str:=["way", "pace"]
abbrev zl30:List Str:=["thing"]
theorem zSc {N ps:List Str}{sc:Scope} (h:FnScope N ps sc:=by exact ⟨rfl,rfl,rfl,by decide +kernel,rfl,by decide +kernel,by decide +kernel⟩):FnScope N ps sc:=h
theorem aBF:FnScope zl30 zl30 (aP kX):=zSc
abbrev pI (P w K mg base):=Fo P w K mg base "is_whole" kX zl30 1 aI4
theorem aA9 (Df:R.Df K mg "is_whole" kX zl30 f fd) (T:Bt mg):pI P w K mg z:=by
 refine ⟨f,fd,Df,a9 Df aBF (fun ds M k h=>?_) (fun _ _ _ _ _ _ hr ds M k h=>?_)⟩
 ·obtain ⟨d,rfl,_⟩:=h; rfl
 obtain ⟨d,rfl,hs,hk⟩:=h
 refine aK (aR (jK (mL (.inl rfl) T.isi T.int R.BI (aB 0 rfl ⟨_, .self hs,⟨_,rfl,?_⟩⟩))))
 rcases aOC d with ⟨i,rfl⟩ | ⟨e0,e1 | ⟨e1,e2⟩⟩
 ·rw [iI]
  refine bU (iQ (oJ (mL (.inr (.inl rfl)) T.isi T.bool R.BB (aB 0 rfl ⟨_, .self trivial,?_⟩))))
  rw [bI]
  exact ⟨_,rfl,hk⟩
 ·rw [e1]
  rw [e0] at hk
  exact b5 hk
 ·rw [e1]
  refine bU (iQ (oJ (mL (.inr (.inl rfl)) T.isi T.bool R.BB (aB 0 rfl ⟨_, .self hs,?_⟩))))
  rw [e2]
  rw [e0] at hk
  exact ⟨_,rfl,hk⟩
theorem fR:FnScope ["one", "other", "rest"] zl26 (aP f9):=zSc
abbrev mQ (P w K mg z):=Fo P w K mg z "common_divisor" f9 zl26 1 aK4
theorem tD (Df:R.Df K mg "common_divisor" f9 zl26 f fd) (T:Bt mg):mQ P w K mg z:=by
 refine ⟨f,fd,Df,a9 Df fR (fun ds M k h=>?_) (fun _ _ _ _ _ _ hr ds M k h=>?_)⟩
 ·obtain ⟨a,b,rfl,_⟩:=h; rfl
 obtain ⟨a,b,rfl,hk⟩:=h
 refine aE (aAH (fun m Γ' M'=>M'=M/\∃ (x y:Int) (v:Option D),Γ'=[some (.int x),some (.int y),v]/\Int.gcd x y=Int.gcd a b/\m=y.natAbs) (n:=b.natAbs) ⟨rfl,a,b,_,rfl,rfl,rfl⟩ ?_)
 rintro m Γ' M' ⟨rfl,x,y,v,rfl,hg,rfl⟩
 refine bC pG (aB 1 rfl (z6 (aEV ⟨_,rfl,(ite2 (fun hb => ?_) (fun hb => ?_))⟩)))
 ·have hy:y≠0:=fun z=>by subst z; simp at hb
  refine aE (aQ 2 fR.nd (aM aCT (aB 0 rfl (aB 1 rfl (aZ hy (aE (aQ 0 fR.nd (aB 1 rfl (aK (aQ 1 fR.nd (aB 2 rfl ⟨_,Num.aCB x y hy,rfl,_,_,_,rfl,?_,rfl⟩)))))))))))
  rw [Num.aAT]; exact hg
 ·have hy:y=0:=by simpa using hb
  subst hy
  refine aK (aR (aW mB T.abs PyProof.Rows.boot_abs (aA (aB 0 rfl (aC (qV ?_))))))
  rw [R.aKR,hg]
  exact hk
end
end Q
namespace Q
open PySem L2 Z
open U
section
variable {P:Program}{w:World}{K:PySem.W.Frag}{mg:Str->Option Value}{z:Heap}{f:Addr}{fd:FuncData}
theorem nB:FnScope ["_law_upper", "_law_bottom", "_law_one", "_law_other"] zl9 (aP qB):=zSc
abbrev p5 (P w K mg z):=Fo P w K mg z "_law_number" qB zl9 1 aQ5
theorem aGR (Df:R.Df K mg "_law_number" qB zl9 f fd) (T:Bt mg):p5 P w K mg z:=by
 refine ⟨f,fd,Df,a9 Df nB (fun ds M k h=>?_) (fun _ _ _ _ _ _ hr ds M k h=>?_)⟩
 ·obtain ⟨t,b,rfl,_⟩:=h; rfl
 obtain ⟨t,b,rfl,hb,hb2,hk⟩:=h
 have hg:Int.gcd t b≠0:=fun e=>by have:=(Int.gcd_eq_zero_iff.mp e).2; omega
 have hgl:Int.gcd t b<=b.natAbs:=Nat.le_of_dvd (by omega) (Int.gcd_dvd_natAbs_right t b)
 have hd:((Int.gcd t b:Nat):Int)≠0/\((Int.gcd t b:Nat):Int).natAbs < big:=⟨by omega,Nat.lt_of_lt_of_le (show _ < 10 ^ 300 by omega) (by unfold big; decide)⟩
 refine aE (aQ 2 nB.nd (aW mB T.abs PyProof.Rows.boot_abs (aA (aB 0 rfl (aC (qV (aE (aQ 3 nB.nd (aB 1 rfl (aE (aAH (fun m Γ' M'=>M'=M/\∃ x y:Int,Γ'=[some (.int t),some (.int b),some (.int x),some (.int y)]/\0<=x/\0<=y/\Int.gcd x y=Int.gcd t b/\m=y.natAbs) (n:=b.natAbs) ⟨rfl,_,b,rfl,by split <;> omega,by omega,by split <;> simp [Int.gcd_neg,Int.neg_gcd],rfl⟩ ?_)))))))))))
 rintro m Γ' M' ⟨rfl,x,y,rfl,hx,hy,hgx,rfl⟩
 refine bC pP (aB 3 rfl (z6 (eQ ⟨_,rfl,(ite2 (fun hb1 => ?_) (fun hb1 => ?_))⟩)))
 ·have hy0:=of_decide_eq_true hb1
  refine aK (aNZ 2 3 nB.nd (by decide) (aA (aB 3 rfl (aA (aM aCT (aB 2 rfl (aB 3 rfl (aZ (show y≠0 by omega) (aC ⟨_,_,rfl,_,Num.aCB x y (by omega),rfl,_,_,rfl,by omega,?_,?_,rfl⟩)))))))))
  ·rw [Int.fmod_eq_emod_of_nonneg _ (by omega)]; exact Int.emod_nonneg _ (by omega)
  ·rw [Num.aAT]; exact hgx
 ·have hy0:y=0:=by
   have:¬ 0 < y:=fun z=>hb1 (decide_eq_true z)
   omega
  subst hy0
  rw [Int.gcd_zero_right] at hgx
  have ex:x=((Int.gcd t b:Nat):Int):=by omega
  rw [ex]
  exact aK (aR (bV (aA (aM pL (aB 0 rfl (aB 2 rfl (aZ hd (aA (aM pL (aB 1 rfl (aB 2 rfl (aZ hd (aC ⟨(show 2<=sizeLine by decide),hk⟩)))))))))))))
end
end Q
namespace Q
open PySem L2 Z U
structure Gd (A:Yd) (p q r s x y H:Rat) (d:R.Qd) (x' y' h:Rat):Prop where
 nn:0<=h
 gw:x - p * H<=x' - p * h
 ge:x'+r * h<=x+r * H
 gs:y - q * H<=y' - q * h
 gn:y'+s * h<=y+s * H
 gt:Tch A p q r s x' y' h d
theorem nY {A:Yd}{p q r s x y H:Rat} (z:Pz p q r s) (hi:IsH A p q r s x y H) {d:R.Qd} (hd:d∈cX A) {x' y' h:Rat} (g:Gd A p q r s x y H d x' y' h) (H0:0 < H):aI A p q r s x' y'=h:=by
 have hi':=n4 A z x' y'
 refine (aPM z hi' hd g.gt g.nn ?_).symm
 by_cases h0:0 < h
 ·refine (hi'.i h h0).mpr fun u v h1 h2 h3 h4=>(hi.i H H0).mp Rat.le_refl u v ?_ ?_ ?_ ?_
  ·have:=g.gw; grind
  ·have:=g.ge; grind
  ·have:=g.gs; grind
  ·have:=g.gn; grind
 ·have:=hi'.nn; have:=g.nn; grind
def bB (l a b:Rat):Rat:=a * (1 - l)+b * l
theorem mU {l a b c d:Rat} (h0:0<=l) (h1:l<=1) (h:a<=b) (g:c<=d):bB l a c<=bB l b d:=by
 unfold bB
 have m1:a * (1 - l)<=b * (1 - l):=Rat.mul_le_mul_of_nonneg_right h (by grind)
 have m2:c * l<=d * l:=Rat.mul_le_mul_of_nonneg_right g h0
 grind
theorem sE (l a b a' b' p:Rat):bB l a a' - p * bB l b b'=bB l (a - p * b) (a' - p * b'):=by unfold bB; grind
theorem rT (l a b a' b' p:Rat):bB l a a'+p * bB l b b'=bB l (a+p * b) (a'+p * b'):=by unfold bB; grind
theorem eJ (l a:Rat):bB l a a=a:=by unfold bB; grind
theorem aFX {X:U.Ax}{dr:Bool}{pl b e:Nat}{x y x' y' h h' l:Rat} (h0:0<=l) (h1:l<=1) (t:({ X with x:=x,y:=y }:U.Ax).Tc dr pl b e h) (t':({ X with x:=x',y:=y' }:U.Ax).Tc dr pl b e h'):({ X with x:=bB l x x',y:=bB l y y' }:U.Ax).Tc dr pl b e (bB l h h'):=by
 have a1:=t.line
 have a2:=t'.line
 have b1:=t.lo
 have b2:=t'.lo
 have c1:=t.hi
 have c2:=t'.hi
 dsimp only at a1 a2 b1 b2 c1 c2
 refine ⟨?_,?_,?_⟩
 ·dsimp only
  unfold U.Ax.at at *
  dsimp only at *
  cases dr with
  | true =>
   rw [if_pos rfl] at *
   rw [rT,<- a1,<- a2,eJ]
  | false =>
   rw [if_neg zBf] at *
   rw [sE,<- a1,<- a2,eJ]
 ·dsimp only
  rw [sE,<- eJ l (X.al.getD e 0)]
  exact mU h0 h1 b1 b2
 ·dsimp only
  rw [rT,<- eJ l (X.al.getD b 0)]
  exact mU h0 h1 c1 c2
theorem aPG (A:Yd) (p q r s x y:Rat) (f:Nat):axF A p q r s x y f=if f % 2=0 then { axX A p q r s 0 0 with x:=x,y:=y } else { axY A p q r s 0 0 with x:=y,y:=x }:=by unfold axF; split <;> rfl
theorem pN {A:Yd}{p q r s x y H:Rat}{d:R.Qd}{x1 y1 h1 x2 y2 h2 l:Rat} (l0:0<=l) (l1:l<=1) (g:Gd A p q r s x y H d x1 y1 h1) (g':Gd A p q r s x y H d x2 y2 h2):Gd A p q r s x y H d (bB l x1 x2) (bB l y1 y2) (bB l h1 h2) where
 nn:=by rw [<- eJ l 0]; exact mU l0 l1 g.nn g'.nn
 gw:=by rw [sE,<- eJ l (x - p * H)]; exact mU l0 l1 g.gw g'.gw
 ge:=by rw [rT,<- eJ l (x+r * H)]; exact mU l0 l1 g.ge g'.ge
 gs:=by rw [sE,<- eJ l (y - q * H)]; exact mU l0 l1 g.gs g'.gs
 gn:=by rw [rT,<- eJ l (y+s * H)]; exact mU l0 l1 g.gn g'.gn
 gt:=by
  have t1:=g.gt
  have t2:=g'.gt
  unfold Tch at t1 t2 ⊢
  rw [aPG] at t1 t2 ⊢
  split
  ·rename_i ev
   rw [if_pos ev] at t1 t2
   exact aFX l0 l1 t1 t2
  ·rename_i ev
   rw [if_neg ev] at t1 t2
   exact aFX l0 l1 t1 t2
structure Near (X:U.Ax) (b e:Nat) (t z:Rat):Prop where
 v:(t=0/\z=X.y/\X.al.getD b 0<=X.y/\X.y<=X.al.getD e 0)\/(z=X.al.getD e 0/\z < X.y/\X.y - z=X.da * t)\/(z=X.al.getD b 0/\X.y < z/\z - X.y=X.ua * t)
theorem aGU {a t:Rat} (ha:0 < a) (h:0 < a * t):0 < t:=by
 refine Rat.not_le.mp fun z => ?_
 have:=Rat.mul_le_mul_of_nonneg_left (c:=a) z (by grind)
 grind
theorem Near.nn {X:U.Ax} (o:X.Ok) {b e:Nat}{t z:Rat} (n:Near X b e t z):0<=t:=by
 rcases n.v with ⟨h,_⟩ | ⟨_,h1,h2⟩ | ⟨_,h1,h2⟩
 ·rw [h]; exact Rat.le_refl
 ·have:=aGU o.da (t:=t) (by grind); grind
 ·have:=aGU o.ua (t:=t) (by grind); grind
theorem n6 {a t u:Rat} (ha:0 < a) (h:a * t<=a * u):t<=u:=by
 refine Rat.not_lt.mp fun z => ?_
 have:=Rat.mul_lt_mul_of_pos_left z ha
 grind
theorem Near.le {X:U.Ax} (o:X.Ok) {dr:Bool}{pl b e:Nat}{t z h:Rat} (n:Near X b e t z) (tc:X.Tc dr pl b e h) (h0:0<=h):t<=h:=by
 have lo:=tc.lo
 have hi:=tc.hi
 rcases n.v with ⟨q,_⟩ | ⟨q,h1,h2⟩ | ⟨q,h1,h2⟩
 ·rw [q]; exact h0
 ·exact n6 o.da (by rw [<- h2,q]; grind)
 ·exact n6 o.ua (by rw [<- h2,q]; grind)
def crX (X:U.Ax) (dr:Bool) (H h:Rat):Rat:=if dr then X.at dr H - X.up * h else X.at dr H+X.dn * h
structure GdX (X:U.Ax) (dr:Bool) (pl b e:Nat) (H x' y' h:Rat):Prop where
 nn:0<=h
 c0:X.x - X.dn * H<=x' - X.dn * h
 c1:x'+X.up * h<=X.x+X.up * H
 a0:X.y - X.da * H<=y' - X.da * h
 a1:y'+X.ua * h<=X.y+X.ua * H
 tc:({ X with x:=x',y:=y' }:U.Ax).Tc dr pl b e h
theorem aHC {X:U.Ax} (o:X.Ok) {dr:Bool}{pl b e:Nat}{H h y':Rat} (ln:X.ls.getD pl 0=X.at dr H) (h0:0<=h) (h1:h<=H) (a0:X.y - X.da * H<=y' - X.da * h) (a1:y'+X.ua * h<=X.y+X.ua * H) (lo:y' - X.da * h<=X.al.getD e 0) (hi:X.al.getD b 0<=y'+X.ua * h):GdX X dr pl b e H (crX X dr H h) y' h:=by
 have m1:X.dn * h<=X.dn * H:=Rat.mul_le_mul_of_nonneg_left h1 (by have:=o.dn; grind)
 have m2:X.up * h<=X.up * H:=Rat.mul_le_mul_of_nonneg_left h1 (by have:=o.up; grind)
 have m3:0<=X.dn * h:=Rat.mul_nonneg (by have:=o.dn; grind) h0
 have m4:0<=X.up * h:=Rat.mul_nonneg (by have:=o.up; grind) h0
 unfold crX
 unfold U.Ax.at at *
 cases dr with
 | true =>
  rw [if_pos rfl] at *
  rw [if_pos rfl]
  refine ⟨h0,by grind,by grind,a0,a1,?_,lo,hi⟩
  show X.ls.getD pl 0=U.Ax.at _ true h
  unfold U.Ax.at
  rw [if_pos rfl,ln]
  dsimp only
  grind
 | false =>
  rw [if_neg zBf] at *
  rw [if_neg zBf]
  refine ⟨h0,by grind,by grind,a0,a1,?_,lo,hi⟩
  show X.ls.getD pl 0=U.Ax.at _ false h
  unfold U.Ax.at
  rw [if_neg zBf,ln]
  dsimp only
  grind
theorem mulle {a t u:Rat} (ha:0 < a) (h:t<=u):a * t<=a * u:=Rat.mul_le_mul_of_nonneg_left h (by grind)
theorem aJZ {X:U.Ax} (o:X.Ok) {dr:Bool}{pl b e:Nat}{H t z:Rat} (hbe:X.al.getD b 0 < X.al.getD e 0) (tc:X.Tc dr pl b e H) (H0:0<=H) (n:Near X b e t z) {h:Rat} (h0:t<=h) (h1:h<=H):GdX X dr pl b e H (crX X dr H h) X.y h:=by
 have tn:=n.nn o
 have m1:=mulle o.da h1
 have m2:=mulle o.ua h1
 have m3:=mulle o.da h0
 have m4:=mulle o.ua h0
 have m5:=mulle o.da tn
 have m6:=mulle o.ua tn
 refine aHC o tc.line (by grind) h1 (by grind) (by grind) ?_ ?_
 ·rcases n.v with ⟨q,_,_,q2⟩ | ⟨q,q1,q2⟩ | ⟨q,q1,q2⟩ <;> grind
 ·rcases n.v with ⟨q,_,q2,_⟩ | ⟨q,q1,q2⟩ | ⟨q,q1,q2⟩ <;> grind
theorem aIX {X:U.Ax} (o:X.Ok) {dr:Bool}{pl b e:Nat}{H t z:Rat} (hbe:X.al.getD b 0 < X.al.getD e 0) (tc:X.Tc dr pl b e H) (H0:0<=H) (n:Near X b e t z):GdX X dr pl b e H (crX X dr H 0) z 0:=by
 have tn:=n.nn o
 have tl:=n.le o tc H0
 have m1:=mulle o.da tl
 have m2:=mulle o.ua tl
 have m5:=mulle o.da tn
 have m6:=mulle o.ua tn
 have m7:=mulle o.da H0
 have m8:=mulle o.ua H0
 refine aHC o tc.line Rat.le_refl H0 ?_ ?_ ?_ ?_
 ·rcases n.v with ⟨q,q0,_,q2⟩ | ⟨q,q1,q2⟩ | ⟨q,q1,q2⟩ <;> grind
 ·rcases n.v with ⟨q,q0,_,q2⟩ | ⟨q,q1,q2⟩ | ⟨q,q1,q2⟩ <;> grind
 ·rcases n.v with ⟨q,q0,_,q2⟩ | ⟨q,q1,q2⟩ | ⟨q,q1,q2⟩ <;> grind
 ·rcases n.v with ⟨q,q0,q3,q2⟩ | ⟨q,q1,q2⟩ | ⟨q,q1,q2⟩ <;> grind
def ptF (f:Nat) (c a:Rat):Rat × Rat:=if f % 2=0 then (c,a) else (a,c)
theorem aJ6 {A:Yd}{p q r s x y H:Rat}{d:R.Qd}{c a h:Rat} (g:GdX (axF A p q r s x y d.f) (eS d.f) d.p d.b d.e H c a h):Gd A p q r s x y H d (ptF d.f c a).1 (ptF d.f c a).2 h:=by
 have g1:=g.nn; have g2:=g.c0; have g3:=g.c1; have g4:=g.a0; have g5:=g.a1; have g6:=g.tc
 unfold ptF
 unfold axF at g2 g3 g4 g5 g6
 by_cases ev:d.f % 2=0
 ·rw [if_pos ev] at *
  refine ⟨g1,g2,g3,g4,g5,?_⟩
  unfold Tch axF
  rw [if_pos ev]
  exact g6
 ·rw [if_neg ev] at *
  refine ⟨g1,g4,g5,g2,g3,?_⟩
  unfold Tch axF
  rw [if_neg ev]
  exact g6
theorem o9 {A:Yd}{p q r s x y H:Rat}{d:R.Qd} (H0:0<=H) (t:Tch A p q r s x y H d):Gd A p q r s x y H d x y H:=⟨H0,Rat.le_refl,Rat.le_refl,Rat.le_refl,Rat.le_refl,t⟩
end Q
namespace Q
open PySem L2 Z U
def neR (X:U.Ax) (b e:Nat):Rat × Rat:=if X.al.getD e 0 < X.y then ((X.y - X.al.getD e 0) / X.da,X.al.getD e 0) else if X.y < X.al.getD b 0 then ((X.al.getD b 0 - X.y) / X.ua,X.al.getD b 0) else (0,X.y)
theorem aJK {X:U.Ax} (o:X.Ok) (b e:Nat):Near X b e (neR X b e).1 (neR X b e).2:=by
 have h1:=o.da
 have h2:=o.ua
 unfold neR
 split
 ·rename_i h
  exact ⟨.inr (.inl ⟨rfl,h,by show _=X.da * (_ / X.da); rw [Rat.mul_comm,Rat.div_mul_cancel (by grind)]⟩)⟩
 ·split
  ·rename_i h
   exact ⟨.inr (.inr ⟨rfl,h,by show _=X.ua * (_ / X.ua); rw [Rat.mul_comm,Rat.div_mul_cancel (by grind)]⟩)⟩
  ·exact ⟨.inl ⟨rfl,rfl,by grind,by grind⟩⟩
def fQ (a b:Rat × Rat):Rat × Rat:=if b.1 < a.1 then b else a
def soon (l:List (Rat × Rat)):Rat × Rat:=l.foldl fQ (l.headD (0,0))
structure SoonD (g:R.Qd->Rat × Rat) (l:List R.Qd) (d:R.Qd):Prop where
 ex:∃ l1 l2,l=l1++d::l2/\(∀ q∈l1,(g d).1 < (g q).1)/\∀ q∈l2,(g d).1<=(g q).1
theorem SoonD.mem {g:R.Qd->Rat × Rat}{l:List R.Qd}{d:R.Qd} (h:SoonD g l d):d∈l/\∀ q∈l,(g d).1<=(g q).1:=by
 obtain ⟨l1,l2,rfl,h1,h2⟩:=h.ex
 refine ⟨by simp,fun q hq => ?_⟩
 rcases List.mem_append.mp hq with m | m
 ·have:=h1 q m; grind
 ·rcases List.mem_cons.mp m with rfl | m
  ·exact Rat.le_refl
  ·exact h2 q m
theorem qK (g:R.Qd->Rat × Rat):∀ (l pre:List R.Qd) (d:R.Qd),SoonD g pre d->∃ d',SoonD g (pre++l) d'/\(l.map g).foldl fQ (g d)=g d'
 | [],pre,d,h=>⟨d,by rw [List.append_nil]; exact h,rfl⟩
 | q::l,pre,d,h=>by
  rw [List.map_cons,List.foldl_cons]
  unfold fQ
  obtain ⟨l1,l2,e,h1,h2⟩:=h.ex
  by_cases c:(g q).1 < (g d).1
  ·rw [if_pos c]
   have hm:=h.mem.2
   obtain ⟨d',k1,k2⟩:=qK g l (pre++[q]) q ⟨pre,[],rfl,fun a ha=>by have:=hm a ha; grind,fun a ha=>(nomatch ha)⟩
   exact ⟨d',by rw [List.append_assoc] at k1; exact k1,k2⟩
  ·rw [if_neg c]
   obtain ⟨d',k1,k2⟩:=qK g l (pre++[q]) d ⟨l1,l2++[q],by rw [e]; simp,h1,fun a ha=>by
    rcases List.mem_append.mp ha with m | m
    ·exact h2 a m
    ·rw [List.mem_singleton] at m; rw [m]; grind⟩
   exact ⟨d',by rw [List.append_assoc] at k1; exact k1,k2⟩
theorem aKY (g:R.Qd->Rat × Rat) {l:List R.Qd} (h:l≠[]):∃ d,SoonD g l d/\soon (l.map g)=g d:=by
 cases l with
 | nil=>exact absurd rfl h
 | cons q l =>
  obtain ⟨d,h1,h2⟩:=qK g l [q] q ⟨[],[],rfl,fun a ha=>(nomatch ha),fun a ha=>(nomatch ha)⟩
  refine ⟨d,h1,?_⟩
  unfold soon
  rw [List.map_cons,List.foldl_cons]
  show (l.map g).foldl fQ (fQ (g q) (g q))=_
  rw [show fQ (g q) (g q)=g q from if_neg (by grind)]
  exact h2
theorem SoonD.filter {g:R.Qd->Rat × Rat}{l:List R.Qd}{d:R.Qd} (h:SoonD g l d) {P:R.Qd->Bool} (hd:P d=true):SoonD g (l.filter P) d:=by
 obtain ⟨l1,l2,rfl,h1,h2⟩:=h.ex
 refine ⟨l1.filter P,l2.filter P,by rw [List.filter_append,List.filter_cons_of_pos hd],fun q hq=>h1 q (List.mem_filter.mp hq).1,fun q hq=>h2 q (List.mem_filter.mp hq).1⟩
theorem SoonD.uniq {g:R.Qd->Rat × Rat}{l:List R.Qd}{d d':R.Qd} (h:SoonD g l d) (h':SoonD g l d'):d=d':=by
 obtain ⟨l1,l2,e,h1,h2⟩:=h.ex
 obtain ⟨k1,k2,e',i1,i2⟩:=h'.ex
 rw [e] at e'
 rcases List.append_eq_append_iff.mp e' with ⟨m,a1,a2⟩ | ⟨m,a1,a2⟩
 ·cases m with
  | nil=>rw [List.nil_append] at a2; injection a2
  | cons z m =>
   rw [List.cons_append] at a2
   injection a2 with b1 b2
   have c1:=h2 d' (by rw [b2]; simp)
   have c2:=i1 d (by rw [a1,b1]; simp)
   grind
 ·cases m with
  | nil=>rw [List.nil_append] at a2; injection a2 with b _; exact b.symm
  | cons z m =>
   rw [List.cons_append] at a2
   injection a2 with b1 b2
   have c1:=i2 d (by rw [b2]; simp)
   have c2:=h1 d' (by rw [a1,b1]; simp)
   grind
noncomputable def reachF (A:Yd) (p q r s x y H:Rat) (fr:FrT):List R.Qd:=(d7 A p q r s x y H).filter fun d=>decide (frK A d=fr)
def neD (A:Yd) (p q r s x y:Rat) (d:R.Qd):Rat × Rat:=neR (axF A p q r s x y d.f) d.b d.e
abbrev P3:=Rat × Rat × Rat
def aY (A:Yd) (p q r s x y H:Rat) (d:R.Qd) (h a:Rat):P3:=((ptF d.f (crX (axF A p q r s x y d.f) (eS d.f) H h) a).1,(ptF d.f (crX (axF A p q r s x y d.f) (eS d.f) H h) a).2,h)
def eP (A:Yd) (p q r s x y H:Rat) (d:R.Qd):List P3:=(x,y,H)::((if (neD A p q r s x y d).1≠0/\(neD A p q r s x y d).1≠H then [aY A p q r s x y H d (neD A p q r s x y d).1 (axF A p q r s x y d.f).y] else [])++[aY A p q r s x y H d 0 (neD A p q r s x y d).2])
structure Rn (A:Yd) (p q r s x y H:Rat) (d:R.Qd):Prop where
 z:Pz p q r s
 hi:IsH A p q r s x y H
 hd:d∈cX A
 tc:Tch A p q r s x y H d
 H0:0 < H
theorem Rn.be {A:Yd}{p q r s x y H:Rat}{d:R.Qd} (h:Rn A p q r s x y H d):(axF A p q r s x y d.f).al.getD d.b 0 < (axF A p q r s x y d.f).al.getD d.e 0:=by
 obtain ⟨r1,r2,r3,r4,r5,_⟩:=R.gW h.hd
 have n2:=yF A p q r s x y d.f
 rw [gD (by omega),gD (by omega)]
 exact (U.i6 (hU h.z x y d.f).uy (by omega) (by omega)).mpr r3
theorem Rn.near {A:Yd}{p q r s x y H:Rat}{d:R.Qd} (h:Rn A p q r s x y H d):Near (axF A p q r s x y d.f) d.b d.e (neD A p q r s x y d).1 (neD A p q r s x y d).2:=aJK (hU h.z x y d.f) d.b d.e
theorem Rn.le {A:Yd}{p q r s x y H:Rat}{d:R.Qd} (h:Rn A p q r s x y H d):0<=(neD A p q r s x y d).1/\(neD A p q r s x y d).1<=H:=⟨h.near.nn (hU h.z x y d.f),h.near.le (hU h.z x y d.f) h.tc (by have:=h.H0; grind)⟩
theorem Rn.turn {A:Yd}{p q r s x y H:Rat}{d:R.Qd} (h:Rn A p q r s x y H d) {k:Rat} (k0:(neD A p q r s x y d).1<=k) (k1:k<=H):Gd A p q r s x y H d (aY A p q r s x y H d k (axF A p q r s x y d.f).y).1 (aY A p q r s x y H d k (axF A p q r s x y d.f).y).2.1 k :=
 aJ6 (aJZ (hU h.z x y d.f) h.be h.tc (by have:=h.H0; grind) h.near k0 k1)
theorem Rn.last {A:Yd}{p q r s x y H:Rat}{d:R.Qd} (h:Rn A p q r s x y H d):Gd A p q r s x y H d (aY A p q r s x y H d 0 (neD A p q r s x y d).2).1 (aY A p q r s x y H d 0 (neD A p q r s x y d).2).2.1 0 :=
 aJ6 (aIX (hU h.z x y d.f) h.be h.tc (by have:=h.H0; grind) h.near)
theorem aE3 {A:Yd}{p q r s x y H:Rat}{d:R.Qd} (h:Tch A p q r s x y H d) {x' y' k:Rat} (g:Gd A p q r s x y H d x' y' k) {d':R.Qd} (e:frK A d'=frK A d) (t:Tch A p q r s x' y' k d'):Tch A p q r s x y H d':=by
 have ef:d'.f=d.f:=congrArg Prod.fst e
 have el:dE A d'=dE A d:=congrArg Prod.snd e
 rw [lR] at h t ⊢
 rw [Rat.not_lt,Rat.not_lt] at t ⊢
 rw [el,ef] at t ⊢
 refine ⟨h.1,Rat.le_trans ?_ t.2.1,Rat.le_trans t.2.2 ?_⟩
 ·have a1:=g.gw; have a2:=g.gs
  unfold axF
  split
  ·exact a2
  ·exact a1
 ·have a1:=g.ge; have a2:=g.gn
  unfold axF
  split
  ·exact a2
  ·exact a1
theorem aGF {A:Yd}{p q r s x y H:Rat}{d:R.Qd} (h:Tch A p q r s x y H d) {x' y' k:Rat} (g:Gd A p q r s x y H d x' y' k):reachF A p q r s x' y' k (frK A d)=(reachF A p q r s x y H (frK A d)).filter (qG A p q r s x' y' k):=by
 unfold reachF d7
 rw [List.filter_filter,List.filter_filter,List.filter_filter]
 refine List.filter_congr fun q' hq => ?_
 by_cases e:frK A q'=frK A d
 ·rw [decide_eq_true e,Bool.true_and,Bool.and_true]
  cases t:qG A p q r s x' y' k q' with
  | false=>rw [Bool.false_and]
  | true=>rw [Bool.true_and,fK.mpr (aE3 h g e (fK.mp t))]
 ·rw [decide_eq_false e,Bool.false_and,Bool.and_false,Bool.false_and]
theorem rE (A:Yd) (p q r s x y c a:Rat) (f:Nat):axF A p q r s (ptF f c a).1 (ptF f c a).2 f={ axF A p q r s x y f with x:=c,y:=a }:=by
 unfold axF ptF
 split <;> rfl
theorem aEO {X:U.Ax}{dr:Bool}{H k c a:Rat} (hc:c=crX X dr H k) (h:Rat):crX { X with x:=c,y:=a } dr k h=crX X dr H h:=by
 unfold crX U.Ax.at at *
 cases dr with
 | true=>rw [if_pos rfl] at *; rw [if_pos rfl] at *; dsimp only; grind
 | false=>rw [if_neg zBf] at *; rw [if_neg zBf] at *; dsimp only; grind
theorem SoonD.congr {g g':R.Qd->Rat × Rat}{l:List R.Qd}{d:R.Qd} (h:SoonD g l d) (e:∀ q∈l,(g q).1=(g' q).1):SoonD g' l d:=by
 obtain ⟨l1,l2,el,h1,h2⟩:=h.ex
 have hd:(g d).1=(g' d).1:=e d (by rw [el]; simp)
 refine ⟨l1,l2,el,fun q hq => ?_,fun q hq => ?_⟩
 ·rw [<- hd,<- e q (by rw [el]; simp [hq])]; exact h1 q hq
 ·rw [<- hd,<- e q (by rw [el]; simp [hq])]; exact h2 q hq
theorem aGS {A:Yd}{p q r s x y H:Rat}{d:R.Qd} (h:Rn A p q r s x y H d) (sd:SoonD (neD A p q r s x y) (reachF A p q r s x y H (frK A d)) d) {k:Rat} (k0:(neD A p q r s x y d).1<=k) (k1:k<=H) (k2:0 < k) (kt:(neD A p q r s x y d).1=0\/(neD A p q r s x y d).1 < k/\(neD A p q r s x y d).1≠H) {d':R.Qd}
  (sd':SoonD (neD A p q r s (aY A p q r s x y H d k (axF A p q r s x y d.f).y).1 (aY A p q r s x y H d k (axF A p q r s x y d.f).y).2.1) (reachF A p q r s (aY A p q r s x y H d k (axF A p q r s x y d.f).y).1 (aY A p q r s x y H d k (axF A p q r s x y d.f).y).2.1 k (frK A d)) d') :
  eP A p q r s (aY A p q r s x y H d k (axF A p q r s x y d.f).y).1 (aY A p q r s x y H d k (axF A p q r s x y d.f).y).2.1 k d'=aY A p q r s x y H d k (axF A p q r s x y d.f).y::(eP A p q r s x y H d).tail:=by
 have g:=h.turn k0 k1
 have same:∀ q':R.Qd,q'.f=d.f->neD A p q r s (aY A p q r s x y H d k (axF A p q r s x y d.f).y).1 (aY A p q r s x y H d k (axF A p q r s x y d.f).y).2.1 q'=neD A p q r s x y q':=fun q' e=>by
  unfold neD
  rw [e]
  unfold aY
  dsimp only
  rw [rE A p q r s x y]
  rfl
 have sub:=aGF h.tc g
 have e1:d'=d:=by
  refine sd'.uniq ?_
  rw [sub]
  refine (sd.filter (fK.mpr g.gt)).congr fun q' hq => ?_
  have m:=(List.mem_filter.mp (List.mem_filter.mp hq).1).2
  have ef:q'.f=d.f:=congrArg Prod.fst (of_decide_eq_true m)
  rw [same q' ef]
 subst e1
 unfold eP
 rw [same d' rfl]
 have ax:axF A p q r s (aY A p q r s x y H d' k (axF A p q r s x y d'.f).y).1 (aY A p q r s x y H d' k (axF A p q r s x y d'.f).y).2.1 d'.f={ axF A p q r s x y d'.f with x:=crX (axF A p q r s x y d'.f) (eS d'.f) H k,y:=(axF A p q r s x y d'.f).y }:=rE A p q r s x y _ _ _
 have tp:∀ h' a,aY A p q r s (aY A p q r s x y H d' k (axF A p q r s x y d'.f).y).1 (aY A p q r s x y H d' k (axF A p q r s x y d'.f).y).2.1 k d' h' a=aY A p q r s x y H d' h' a:=fun h' a=>by
  unfold aY
  dsimp only
  rw [rE A p q r s x y,aEO (H:=H) (k:=k) rfl]
 rw [tp,tp,List.tail_cons,ax]
 have c:((neD A p q r s x y d').1≠0/\(neD A p q r s x y d').1≠k)↔((neD A p q r s x y d').1≠0/\(neD A p q r s x y d').1≠H):=by
  rcases kt with e | ⟨e1,e2⟩
  ·exact ⟨fun z=>absurd e z.1,fun z=>absurd e z.1⟩
  ·exact ⟨fun z=>⟨z.1,e2⟩,fun z=>⟨z.1,by grind⟩⟩
 by_cases w:(neD A p q r s x y d').1≠0/\(neD A p q r s x y d').1≠H
 ·rw [if_pos w,if_pos (c.mpr w)]; rfl
 ·rw [if_neg w,if_neg fun z=>w (c.mp z)]; rfl
end Q
namespace Q
open PySem L2 Z U
theorem div_eq {a b c:Rat} (hc:0 < c) (e:a=c * b):a / c=b:=by rw [e,Rat.mul_comm,Rat.mul_div_cancel (by grind)]
theorem aPK {A:Yd}{p q r s x y H:Rat}{d:R.Qd} (h:Rn A p q r s x y H d) (sd:SoonD (neD A p q r s x y) (reachF A p q r s x y H (frK A d)) d) {k a:Rat} (k1:k < H) (k2:0 < k) (kt:(neD A p q r s x y d).1=H)
  (ka:(neD A p q r s x y d).2 < (axF A p q r s x y d.f).y/\a=(neD A p q r s x y d).2+(axF A p q r s x y d.f).da * k\/(axF A p q r s x y d.f).y < (neD A p q r s x y d).2/\a=(neD A p q r s x y d).2 - (axF A p q r s x y d.f).ua * k)
  (g:Gd A p q r s x y H d (aY A p q r s x y H d k a).1 (aY A p q r s x y H d k a).2.1 k) {d':R.Qd} (hd':d'∈reachF A p q r s (aY A p q r s x y H d k a).1 (aY A p q r s x y H d k a).2.1 k (frK A d)) :
  eP A p q r s (aY A p q r s x y H d k a).1 (aY A p q r s x y H d k a).2.1 k d'=aY A p q r s x y H d k a::(eP A p q r s x y H d).tail:=by
 have H0:=h.H0
 have o:=hU (A:=A) h.z x y d.f
 have m:=List.mem_filter.mp hd'
 have mt:=List.mem_filter.mp m.1
 have efr:frK A d'=frK A d:=of_decide_eq_true m.2
 have ef:d'.f=d.f:=congrArg Prod.fst efr
 have tc':=fK.mp mt.2
 have tcU:=aE3 h.tc g efr tc'
 have inR:d'∈reachF A p q r s x y H (frK A d):=List.mem_filter.mpr ⟨List.mem_filter.mpr ⟨mt.1,fK.mpr tcU⟩,m.2⟩
 have r':Rn A p q r s x y H d':=⟨h.z,h.hi,mt.1,tcU,H0⟩
 have mn:=sd.mem.2 d' inR
 have tH:(neD A p q r s x y d').1=H:=by have:=r'.le.2; grind
 have nv:=r'.near.v
 have nd:=h.near.v
 have be:=r'.be
 rw [tH] at nv
 rw [kt] at nd
 have axE:axF A p q r s (aY A p q r s x y H d k a).1 (aY A p q r s x y H d k a).2.1 d.f={ axF A p q r s x y d.f with x:=crX (axF A p q r s x y d.f) (eS d.f) H k,y:=a }:=rE A p q r s x y _ _ _
 have lo:=tc'.lo
 have hi:=tc'.hi
 rw [ef] at nv be lo hi
 rw [axE] at lo hi
 dsimp only at lo hi
 have pa:=o.da
 have pu:=o.ua
 have mk1:=oU pa k1
 have mk2:=oU pu k1
 have pk1:0 < (axF A p q r s x y d.f).da * k:=Rat.mul_pos pa k2
 have pk2:0 < (axF A p q r s x y d.f).ua * k:=Rat.mul_pos pu k2
 have ne':neD A p q r s (aY A p q r s x y H d k a).1 (aY A p q r s x y H d k a).2.1 d'=(k,(neD A p q r s x y d).2):=by
  conv=>lhs; unfold neD
  rw [ef,axE]
  generalize hX:axF A p q r s x y d.f=X at *
  generalize hz:(neD A p q r s x y d).2=z at *
  unfold neR
  dsimp only
  rcases ka with ⟨ka1,ka2⟩ | ⟨ka1,ka2⟩
  ·have e1:X.y - z=X.da * H:=by rcases nd with ⟨e,_⟩ | ⟨_,_,e⟩ | ⟨_,e,_⟩ <;> grind
   rcases nv with ⟨e,_⟩ | ⟨v1,v2,v3⟩ | ⟨v1,v2,v3⟩
   ·grind
   ·have ez:X.al.getD d'.e 0=z:=by grind
    rw [if_pos (by grind),ez]
    exact Prod.ext (div_eq pa (by grind)) rfl
   ·exfalso; grind
  ·have e1:z - X.y=X.ua * H:=by rcases nd with ⟨e,_⟩ | ⟨_,e,_⟩ | ⟨_,_,e⟩ <;> grind
   rcases nv with ⟨e,_⟩ | ⟨v1,v2,v3⟩ | ⟨v1,v2,v3⟩
   ·grind
   ·exfalso; grind
   ·have ez:X.al.getD d'.b 0=z:=by grind
    rw [if_neg (by grind),if_pos (by grind),ez]
    exact Prod.ext (div_eq pu (by grind)) rfl
 unfold eP
 rw [ne',if_neg (fun z=>z.2 rfl),List.tail_cons,kt,if_neg (fun z=>z.2 rfl)]
 have tp:aY A p q r s (aY A p q r s x y H d k a).1 (aY A p q r s x y H d k a).2.1 k d' 0 (neD A p q r s x y d).2=aY A p q r s x y H d 0 (neD A p q r s x y d).2:=by
  have e2:∀ x1 y1 H1 h1 a1,aY A p q r s x1 y1 H1 d' h1 a1=aY A p q r s x1 y1 H1 d h1 a1:=fun x1 y1 H1 h1 a1=>by unfold aY; rw [ef]
  rw [e2]
  generalize (neD A p q r s x y d).2=zz
  unfold aY
  dsimp only
  rw [rE A p q r s x y,aEO (H:=H) (k:=k) rfl]
 rw [tp]
 rfl
theorem aLS (A:Yd) (p q r s x y:Rat) (f:Nat):ptF f (axF A p q r s x y f).x (axF A p q r s x y f).y=(x,y):=by unfold ptF axF; split <;> rfl
theorem aLL {X:U.Ax}{dr:Bool} (H:Rat):crX X dr H H=X.x:=by unfold crX U.Ax.at; cases dr <;> simp <;> grind
theorem aOS {X:U.Ax}{dr:Bool} (H l h h':Rat):bB l (crX X dr H h) (crX X dr H h')=crX X dr H (bB l h h'):=by unfold crX bB; cases dr <;> simp <;> grind
theorem aOQ (f:Nat) (l c a c' a':Rat):(bB l (ptF f c a).1 (ptF f c' a').1,bB l (ptF f c a).2 (ptF f c' a').2)=ptF f (bB l c c') (bB l a a'):=by unfold ptF; split <;> rfl
def cM (l:Rat) (a b:P3):P3:=(bB l a.1 b.1,bB l a.2.1 b.2.1,bB l a.2.2 b.2.2)
theorem nH (A:Yd) (p q r s x y H:Rat) (d:R.Qd) (l h a h' a':Rat):cM l (aY A p q r s x y H d h a) (aY A p q r s x y H d h' a')=aY A p q r s x y H d (bB l h h') (bB l a a'):=by
 unfold cM aY
 dsimp only
 have e:=aOQ d.f l (crX (axF A p q r s x y d.f) (eS d.f) H h) a (crX (axF A p q r s x y d.f) (eS d.f) H h') a'
 rw [aOS] at e
 rw [<- e]
theorem uN (A:Yd) (p q r s x y H:Rat) (d:R.Qd):aY A p q r s x y H d H (axF A p q r s x y d.f).y=(x,y,H):=by
 unfold aY
 rw [aLL,aLS]
theorem aLC {A:Yd}{p q r s x y H:Rat}{d:R.Qd} (h:Rn A p q r s x y H d) (sd:SoonD (neD A p q r s x y) (reachF A p q r s x y H (frK A d)) d) {W1:P3}{rest:List P3} (hw:eP A p q r s x y H d=(x,y,H)::W1::rest) {l:Rat} (l0:0 < l) (l1:l < 1) {d':R.Qd}
  (sd':SoonD (neD A p q r s (cM l (x,y,H) W1).1 (cM l (x,y,H) W1).2.1) (reachF A p q r s (cM l (x,y,H) W1).1 (cM l (x,y,H) W1).2.1 (cM l (x,y,H) W1).2.2 (frK A d)) d') :
  eP A p q r s (cM l (x,y,H) W1).1 (cM l (x,y,H) W1).2.1 (cM l (x,y,H) W1).2.2 d'=cM l (x,y,H) W1::W1::rest:=by
 have H0:=h.H0
 obtain ⟨t0,tH⟩:=h.le
 have tl:(eP A p q r s x y H d).tail=W1::rest:=by rw [hw]; rfl
 have nv:=h.near.v
 have o:=hU (A:=A) h.z x y d.f
 rw [<- uN A p q r s x y H d] at sd' ⊢
 unfold eP at hw
 have lH:H * l < H:=by have:=Rat.mul_lt_mul_of_pos_left l1 H0; grind
 have lH0:0 < H * l:=Rat.mul_pos H0 l0
 by_cases w:(neD A p q r s x y d).1≠0/\(neD A p q r s x y d).1≠H
 ·rw [if_pos w] at hw
  injection hw with _ hw
  injection hw with hw1 hw2
  subst hw1
  rw [nH,eJ] at sd' ⊢
  have tlt:(neD A p q r s x y d).1 < H:=by have:=w.2; grind
  generalize hT:(neD A p q r s x y d).1=T at *
  have e1:T * l < H * l:=Rat.mul_lt_mul_of_pos_right tlt l0
  have tl1:T * l<=T:=by have:=mulle (a:=T) (t:=l) (u:=1); rcases Rat.le_iff_lt_or_eq.mp t0 with q | q <;> grind
  have e3:T * (1 - l) < H * (1 - l):=Rat.mul_lt_mul_of_pos_right tlt (by grind)
  have b1:T < bB l H T:=by unfold bB; grind
  have b2:bB l H T<=H:=by unfold bB; grind
  have:=aGS h sd (k:=bB l H T) (by rw [hT]; grind) b2 (by grind) (.inr ⟨by rw [hT]; exact b1,by rw [hT]; exact w.2⟩) sd'
  rw [tl] at this
  exact this
 ·rw [if_neg w,List.nil_append] at hw
  injection hw with _ hw
  injection hw with hw1 hw2
  subst hw1
  have k1:bB l H 0 < H:=by unfold bB; grind
  have k2:0 < bB l H 0:=by unfold bB; grind
  by_cases z0:(neD A p q r s x y d).1=0
  ·have ez:(neD A p q r s x y d).2=(axF A p q r s x y d.f).y:=by
    rw [z0] at nv
    rcases nv with ⟨_,e,_⟩ | ⟨_,e,e2⟩ | ⟨_,e,e2⟩ <;> grind
   rw [ez,nH,eJ] at sd' ⊢
   have:=aGS h sd (k:=bB l H 0) (by rw [z0]; grind) (by grind) k2 (.inl z0) sd'
   rw [tl,ez] at this
   exact this
  ·have eH:(neD A p q r s x y d).1=H:=Classical.byContradiction fun q=>w ⟨z0,q⟩
   rw [nH] at sd' ⊢
   have g:=pN (l:=l) (by grind) (by grind) (o9 (by grind) h.tc) h.last
   have ge:(bB l x (aY A p q r s x y H d 0 (neD A p q r s x y d).2).1,bB l y (aY A p q r s x y H d 0 (neD A p q r s x y d).2).2.1,bB l H 0)=aY A p q r s x y H d (bB l H 0) (bB l (axF A p q r s x y d.f).y (neD A p q r s x y d).2):=by
    have:=nH A p q r s x y H d l H (axF A p q r s x y d.f).y 0 (neD A p q r s x y d).2
    rw [uN] at this
    exact this
   have g1:=congrArg (fun v:P3=>v.1) ge
   have g2:=congrArg (fun v:P3=>v.2.1) ge
   dsimp only at g1 g2
   rw [g1,g2] at g
   have ka:(neD A p q r s x y d).2 < (axF A p q r s x y d.f).y/\bB l (axF A p q r s x y d.f).y (neD A p q r s x y d).2=(neD A p q r s x y d).2+(axF A p q r s x y d.f).da * bB l H 0\/(axF A p q r s x y d.f).y < (neD A p q r s x y d).2/\bB l (axF A p q r s x y d.f).y (neD A p q r s x y d).2=(neD A p q r s x y d).2 - (axF A p q r s x y d.f).ua * bB l H 0:=by
    rw [eH] at nv
    unfold bB
    rcases nv with ⟨e,_⟩ | ⟨_,e,e2⟩ | ⟨_,e,e2⟩
    ·grind
    ·exact .inl ⟨e,by grind⟩
    ·exact .inr ⟨e,by grind⟩
   have:=aPK h sd k1 k2 eH ka g sd'.mem.1
   rw [tl] at this
   exact this
end Q
namespace PySem
open Builtin PyProof.Rows
abbrev aDF (h:Heap) (l1:Addr):Heap:=h.push { cls := .type "tuple_iterator", data := .fields #[.ref l1, .int 0 0] }
abbrev aDY (h:Heap) (l1 l2:Addr):Heap:=(aDF h l1).push { cls := .type "tuple_iterator", data := .fields #[.ref l2, .int 0 0] }
abbrev aD9 (h:Heap) (l1 l2:Addr):Heap:=(aDY h l1 l2).push { cls := .type "tuple", data := .seq #[.ref h.objs.size, .ref (aDF h l1).objs.size] }
abbrev aDP (h:Heap) (l1 l2:Addr):Heap:=(aD9 h l1 l2).push { cls := .type "tuple", data := .seq #[.none, .none] }
abbrev uI (h:Heap) (l1 l2:Addr):Heap:=(aDP h l1 l2).push { cls := .type "zip", data := .fields #[.none, .bool false, .bool false, .ref (aDY h l1 l2).objs.size, .ref (aD9 h l1 l2).objs.size] }
theorem aF8 (l1 l2:Addr) (xs ys:Array Value) :
  Meets (Builtin.«zip.__new__» ⟨[.type "zip", .ref l1, .ref l2],[]⟩) (fun _ R s=>s.heap.IsTuple l1 xs/\s.heap.IsTuple l2 ys /\
   R (.ok (.ret (.ref (aDP s.heap l1 l2).objs.size))) { s with heap:=uI s.heap l1 l2 }) :=
 .of_wp fun prog w A R s h=>by
  obtain ⟨hp,g,d,tk,os⟩:=s; obtain ⟨hl1,hl2,h⟩:=h
  have hsub:=sub_zip
  have hL1:Heap.IsTuple (Shared.heap ⟨hp,g,d,tk,os⟩) l1 xs:=hl1
  have hL2:Heap.IsTuple (Shared.heap ⟨hp.push { cls := .type "tuple_iterator", data := .fields #[.ref l1, .int 0 0] },g,d,tk,os⟩) l2 ys:=Heap.IsTuple.push hl2 _
  wp_walk using wpAny_pyIter_tuple hL1,wpAny_pyIter_tuple hL2
  exact ⟨_,rfl,h⟩
section
variable {prog:Program}{w:World}{A:Around}{E:Value->Shared->Prop}{s:Shared}
theorem aA3 {l1 l2:Addr}{xs ys:Array Value}{Q:Value->Shared->Prop} (hl1:s.heap.IsTuple l1 xs) (hl2:s.heap.IsTuple l2 ys)
  (h:∀ h',IsZip h' (s.heap.objs.size+4) (s.heap.objs.size+2) (s.heap.objs.size+3) .none->IsPair h' (s.heap.objs.size+2) (.ref s.heap.objs.size) (.ref (s.heap.objs.size+1)) ->
   IsPair h' (s.heap.objs.size+3) .none .none->h'.IsTupleIter s.heap.objs.size l1 0->h'.IsTupleIter (s.heap.objs.size+1) l2 0->h'.objs.size=s.heap.objs.size+5 ->
   (∀ c o,s.heap.get? c=some o->h'.get? c=some o)->Q (.ref (s.heap.objs.size+4)) { s with heap:=h' }) :
  wpAny (model prog w) A (call (.type "zip") [.ref l1, .ref l2]) Q E s:=by
 refine callType_new F.called_zip (by decide) (F.typeCall_zip_2 _ _) (F.newCall_zip_2 _ _) (fun obj=>F.args_object_init_3 obj _ _) F.entry_zip_new
  (aF8 l1 l2 xs ys) ⟨hl1,hl2,?_⟩
 have z1:(aDF s.heap l1).objs.size=s.heap.objs.size+1:=Heap.size_push ..
 have z2:(aDY s.heap l1 l2).objs.size=s.heap.objs.size+2:=by rw [Heap.size_push,z1]
 have z3:(aD9 s.heap l1 l2).objs.size=s.heap.objs.size+3:=by rw [Heap.size_push,z2]
 have z4:(aDP s.heap l1 l2).objs.size=s.heap.objs.size+4:=by rw [Heap.size_push,z3]
 have z5:(uI s.heap l1 l2).objs.size=s.heap.objs.size+5:=by rw [Heap.size_push,z4]
 have g5:(uI s.heap l1 l2).get? (aDP s.heap l1 l2).objs.size=some _:=Heap.get?_push_size _ rfl
 have g4:(uI s.heap l1 l2).get? (aD9 s.heap l1 l2).objs.size=some _:=Heap.get?_push_of_some _ (Heap.get?_push_size _ rfl)
 have g3:(uI s.heap l1 l2).get? (aDY s.heap l1 l2).objs.size=some _:=Heap.get?_push_of_some _ (Heap.get?_push_of_some _ (Heap.get?_push_size _ rfl))
 have g2:(uI s.heap l1 l2).get? (aDF s.heap l1).objs.size=some _:=Heap.get?_push_of_some _ (Heap.get?_push_of_some _ (Heap.get?_push_of_some _ (Heap.get?_push_size _ rfl)))
 have g1:(uI s.heap l1 l2).get? s.heap.objs.size=some _:=Heap.get?_push_of_some _ (Heap.get?_push_of_some _ (Heap.get?_push_of_some _ (Heap.get?_push_of_some _ (Heap.get?_push_size _ rfl))))
 show _/\_
 rw [z2,z3,z4] at g5
 rw [z1,z2] at g3
 rw [z3] at g4
 rw [z1] at g2
 rw [z4]
 exact ⟨⟨_,g5,rfl⟩,h _ g5 g3 g4 ⟨_,g1,rfl,rfl⟩ ⟨_,g2,rfl,rfl⟩ z5 fun c o x =>
  Heap.get?_push_of_some _ (Heap.get?_push_of_some _ (Heap.get?_push_of_some _ (Heap.get?_push_of_some _ (Heap.get?_push_of_some _ x))))⟩
end
end PySem
namespace L2
open PySem PySem.Spec PyProof.Rows
section
variable {X:Cx}
theorem tup_ne {h:Heap}{a b:Addr}{its:Array Value}{o:Obj} (hl:h.IsTuple a its) (ho:h.get? b=some o) (hc:o.cls ≠ .type "tuple"):a≠b:=fun z=>by
 obtain ⟨o1,e1,c1,_⟩:=hl
 rw [z,ho] at e1; cases e1
 exact hc c1
end
end L2
namespace Z
open PySem L2
section
variable {X:Cx}{Γ:Gm}{M:Mem}{k:D->Mem->Prop}{pos:Pos}{a b:Expr}{rest:List Expr}
end
end Z
namespace Q
open PySem L2 Z U
def p3D (t:P3):D := .tup [aL t.1,aL t.2.1,aL t.2.2]
theorem aJ9 {P:Rat->Prop}{a b:Rat} (h:P a) (g:P b):P (dU a b):=by unfold dU; split <;> assumption
theorem aQB {P:Rat->Prop}{a b:Rat} (h:P a) (g:P b):P (i8 a b):=by unfold i8; split <;> assumption
theorem yP {P:Rat->Prop}{tx:Nat->Rat}{ty:Rat}{out:Nat->Bool} (h1:∀ a,P (tx a)) (h2:P ty) {t:Rat} (h3:P t):∀ n,P (gN tx ty out n t)
 | 0=>h3
 | n+1=>by
  unfold gN
  split
  ·exact aQB (yP h1 h2 h3 n) (aJ9 (h1 n) h2)
  ·exact yP h1 h2 h3 n
theorem aHE {P:Rat->Prop}{tx ty:Nat->Rat}{out:Nat->Nat->Bool}{na:Nat} (h1:∀ a,P (tx a)) (h2:∀ b,P (ty b)) {t:Rat} (h3:P t):∀ n,P (i9 tx ty out na n t)
 | 0=>h3
 | n+1=>yP h1 (h2 n) (aHE h1 h2 h3 n) na
theorem oS {M B:Nat}{q:Rat} (h:Fr M B q) {p:Int} (hp:Pc p):Fr (M * 2520) (B * 2520) (q / (p:Rat)):=by
 obtain ⟨h1,h2⟩:=hp
 obtain ⟨k,e,hk⟩:=h.ex
 have np:((p:Int):Rat)≠0:=fun e=>by have:=Rat.intCast_inj.mp (e.trans Rat.intCast_zero.symm); omega
 obtain ⟨g,g1,g2⟩:∃ g:Int,p * g=2520/\g.natAbs<=2520:=by
  have:p=1\/p=2\/p=3\/p=4\/p=5\/p=6\/p=7\/p=8\/p=9:=by omega
  rcases this with rfl | rfl | rfl | rfl | rfl | rfl | rfl | rfl | rfl
  ·exact ⟨2520,by decide,by decide⟩
  ·exact ⟨1260,by decide,by decide⟩
  ·exact ⟨840,by decide,by decide⟩
  ·exact ⟨630,by decide,by decide⟩
  ·exact ⟨504,by decide,by decide⟩
  ·exact ⟨420,by decide,by decide⟩
  ·exact ⟨360,by decide,by decide⟩
  ·exact ⟨315,by decide,by decide⟩
  ·exact ⟨280,by decide,by decide⟩
 refine ⟨k * g,?_,by rw [Int.natAbs_mul]; exact Nat.mul_le_mul hk g2⟩
 have e2:((2520:Nat):Rat)=(p:Rat) * (g:Rat):=by rw [<- Rat.intCast_mul,g1]; rfl
 rw [Rat.natCast_mul,e2,Rat.intCast_mul,<- e]
 grind
theorem aDL {m B:Nat}{ws:List Rat} (f:FrL m B ws) {x:Rat} (fx:Fr m B x) {p q:Int} (hp:Pc p) (hq:Pc q) (b:Nat):Fr (m * 2520) ((B+B) * 2520) (tB ws x p q b):=by
 unfold U.tB
 split
 ·exact oS (fx.sub (f.at 0)) hp
 ·split
  ·exact aJ9 (P:=Fr (m * 2520) ((B+B) * 2520)) (oS (fx.sub (f.at _)) hp) (oS ((f.at _).sub fx) hq)
  ·exact oS ((f.at _).sub fx) hq
structure Bs (A:Yd) (e n w s:Int) (x y:Rat) (M:Nat):Prop where
 o:Pp e n w s
 m0:0 < M
 m1:M<=10 ^ 30
 ax:FrL M (10 ^ 36) A.ws
 ay:FrL M (10 ^ 36) A.us
 fx:Fr M (10 ^ 36) x
 fy:Fr M (10 ^ 36) y
 lx:A.ws.length<=7
 ly:A.us.length<=7
theorem Bs.env {A:Yd}{e n w s:Int}{x y:Rat}{M:Nat} (h:Bs A e n w s x y M):Env A e n w s x y M where
 o:=h.o
 nm:=⟨h.m0,Nat.le_trans h.m1 (by unfold sm; decide +kernel),by unfold sm; decide +kernel⟩
 ax:=fun v hv=>(h.ax v hv).mono (by decide +kernel)
 ay:=fun v hv=>(h.ay v hv).mono (by decide +kernel)
 fx:=h.fx.mono (by decide +kernel)
 fy:=h.fy.mono (by decide +kernel)
 lx:=h.lx
 ly:=h.ly
theorem Bs.high {A:Yd}{e n w s:Int}{x y:Rat}{M:Nat} (h:Bs A e n w s x y M):Fr (M * 2520) (10 ^ 40) (aI A e n w s x y):=by
 refine Fr.mono (B:=(10 ^ 36+10 ^ 36) * 2520) ?_ (by decide +kernel)
 unfold aI
 split
 ·exact aHE (P:=Fr (M * 2520) ((10 ^ 36+10 ^ 36) * 2520)) (fun a=>aDL h.ax h.fx h.o.p h.o.r a) (fun b=>aDL h.ay h.fy h.o.q h.o.s b) (aDL h.ax h.fx h.o.p h.o.r 0) _
 ·exact Fr.zero _ _
theorem Fr.l20 {M:Nat}{q:Rat} (h:Fr M (10 ^ 36) q):Fr (M * 2520) (10 ^ 40) q:=(h.lift 2520).mono (by decide +kernel)
theorem Bs.ne {A:Yd}{e n w s:Int}{x y:Rat}{M:Nat} (h:Bs A e n w s x y M) (d:R.Qd):Fr (M * 2520) (10 ^ 40) (neD A e n w s x y d).1/\Fr (M * 2520) (10 ^ 40) (neD A e n w s x y d).2:=by
 have le:(10 ^ 36+10 ^ 36) * 2520<=10 ^ 40:=by decide +kernel
 have key:∀ {X:U.Ax}{b c:Int},FrL M (10 ^ 36) X.al->Fr M (10 ^ 36) X.y->X.da=(b:Rat)->X.ua=(c:Rat)->Pc b->Pc c->Fr (M * 2520) (10 ^ 40) (neR X d.b d.e).1/\Fr (M * 2520) (10 ^ 40) (neR X d.b d.e).2:=fun {X b c} fl fy e1 e2 hb hc=>by
  unfold neR
  split
  ·exact ⟨by rw [e1]; exact (oS (fy.sub (fl.at _)) hb).mono le,(fl.at _).l20⟩
  ·split
   ·exact ⟨by rw [e2]; exact (oS ((fl.at _).sub fy) hc).mono le,(fl.at _).l20⟩
   ·exact ⟨Fr.zero _ _,fy.l20⟩
 unfold neD axF
 split
 ·exact key (X:=axX A e n w s x y) h.ay h.fy rfl rfl h.o.q h.o.s
 ·exact key (X:=axY A e n w s x y) h.ax h.fx rfl rfl h.o.p h.o.r
structure W3 (m B:Nat) (t:P3):Prop where
 x:Fr m B t.1
 y:Fr m B t.2.1
 h:Fr m B t.2.2
theorem Fr.mulP {m B:Nat}{q:Rat} (h:Fr m B q) {p:Int} (hp:Pc p):Fr m (9 * B) ((p:Rat) * q):=by
 obtain ⟨h1,h2⟩:=hp
 obtain ⟨k,e,hk⟩:=h.ex
 refine ⟨p * k,?_,by rw [Int.natAbs_mul]; exact Nat.mul_le_mul (by omega) hk⟩
 rw [Rat.mul_assoc,e,Rat.intCast_mul]
theorem Bs.turn {A:Yd}{e n w s:Int}{x y:Rat}{M:Nat} (b:Bs A e n w s x y M) {d:R.Qd}{h a:Rat} (hh:Fr (M * 2520) (10 ^ 40) h) (ha:Fr (M * 2520) (10 ^ 40) a):W3 (M * 2520) (10 ^ 42) (aY A e n w s x y (aI A e n w s x y) d h a):=by
 have le:10 ^ 40+9 * 10 ^ 40+9 * 10 ^ 40<=10 ^ 42:=by decide +kernel
 have le2:10 ^ 40<=10 ^ 42:=by decide +kernel
 have key:∀ {X:U.Ax}{u v:Int} (dr:Bool),Fr M (10 ^ 36) X.x->X.dn=(u:Rat)->X.up=(v:Rat)->Pc u->Pc v->Fr (M * 2520) (10 ^ 42) (crX X dr (aI A e n w s x y) h):=fun {X u v} dr fx e1 e2 hu hv=>by
  unfold crX U.Ax.at
  cases dr with
  | true=>rw [if_pos rfl,if_pos rfl,e2]; exact ((fx.l20.add (b.high.mulP hv)).sub (hh.mulP hv)).mono le
  | false=>rw [if_neg zBf,if_neg zBf,e1]; exact ((fx.l20.sub (b.high.mulP hu)).add (hh.mulP hu)).mono le
 have kc:Fr (M * 2520) (10 ^ 42) (crX (axF A e n w s x y d.f) (eS d.f) (aI A e n w s x y) h):=by
  unfold axF
  split
  ·exact key (X:=axX A e n w s x y) _ b.fx rfl rfl b.o.p b.o.r
  ·exact key (X:=axY A e n w s x y) _ b.fy rfl rfl b.o.q b.o.s
 unfold aY ptF
 split
 ·exact ⟨kc,ha.mono le2,hh.mono le2⟩
 ·exact ⟨ha.mono le2,kc,hh.mono le2⟩
theorem Bs.way {A:Yd}{e n w s:Int}{x y:Rat}{M:Nat} (b:Bs A e n w s x y M) (d:R.Qd):∀ t∈eP A e n w s x y (aI A e n w s x y) d,W3 (M * 2520) (10 ^ 42) t:=fun t ht=>by
 have le2:10 ^ 40<=10 ^ 42:=by decide +kernel
 obtain ⟨n1,n2⟩:=b.ne d
 have fy:Fr (M * 2520) (10 ^ 40) (axF A e n w s x y d.f).y:=by
  unfold axF
  split
  ·exact b.fy.l20
  ·exact b.fx.l20
 unfold eP at ht
 rcases List.mem_cons.mp ht with rfl | ht
 ·exact ⟨b.fx.l20.mono le2,b.fy.l20.mono le2,b.high.mono le2⟩
 rcases List.mem_append.mp ht with ht | ht
 ·split at ht
  ·rw [List.mem_singleton] at ht; subst ht
   exact b.turn n1 fy
  ·cases ht
 ·rw [List.mem_singleton] at ht; subst ht
  exact b.turn (Fr.zero _ _) n2
structure Prt (j k:Int):Prop where
 j0:0<=j
 jk:j<=k
 k0:0 < k
 k1:k<=31
 dv:∃ g:Int,k * g=806
theorem Prt.le {j k:Int} (h:Prt j k):0<=Rat.divInt j k/\Rat.divInt j k<=1:=by
 obtain ⟨h1,h2,h3,_⟩:=h
 have c:(0:Rat) < (k:Rat):=Rat.intCast_pos.mpr h3
 rw [Rat.divInt_eq_div]
 have e:(j:Rat) / (k:Rat) * (k:Rat)=(j:Rat):=Rat.div_mul_cancel (by grind)
 have c1:(0:Rat)<=(j:Rat):=Rat.intCast_nonneg.mpr h1
 have c2:(j:Rat)<=(k:Rat):=Rat.intCast_le_intCast.mpr h2
 generalize (j:Rat) / (k:Rat)=l at *
 rw [Rat.mul_comm] at e
 exact ⟨n6 c (by rw [e]; grind),n6 c (by rw [e]; grind)⟩
theorem Prt.lt {j k:Int} (h:Prt j k) (h0:0 < j) (h1:j < k):0 < Rat.divInt j k/\Rat.divInt j k < 1:=by
 have h3:=h.k0
 obtain ⟨a,b⟩:=h.le
 rw [Rat.divInt_eq_div] at *
 have c:(0:Rat) < (k:Rat):=Rat.intCast_pos.mpr h3
 have e:(j:Rat) / (k:Rat) * (k:Rat)=(j:Rat):=Rat.div_mul_cancel (by grind)
 have c1:(0:Rat) < (j:Rat):=Rat.intCast_pos.mpr h0
 have c2:(j:Rat) < (k:Rat):=Rat.intCast_lt_intCast.mpr h1
 generalize (j:Rat) / (k:Rat)=l at *
 refine ⟨Rat.not_le.mp fun z => ?_,Rat.not_le.mp fun z => ?_⟩
 ·have:l=0:=by grind
  rw [this,Rat.zero_mul] at e; grind
 ·have:l=1:=by grind
  rw [this,Rat.one_mul] at e; grind
theorem aGI {m B:Nat}{a b:Rat} (ha:Fr m B a) (hb:Fr m B b) {j k:Int} (h:Prt j k):Fr (m * 806) (B * 806+B * 806) (bB (Rat.divInt j k) a b):=by
 obtain ⟨h1,h2,h3,h4,g,hg⟩:=h
 obtain ⟨u,eu,hu⟩:=ha.ex
 obtain ⟨v,ev,hv⟩:=hb.ex
 have g0:0 < g:=Int.not_le.mp fun z=>by have:=Int.mul_nonneg_of_nonpos_of_nonpos (show -k<=0 by omega) z; rw [Int.neg_mul,hg] at this; omega
 have np:((k:Int):Rat)≠0:=fun e=>by have:=Rat.intCast_inj.mp (e.trans Rat.intCast_zero.symm); omega
 have q1:(k - j) * g<=806:=by rw [<- hg]; exact Int.mul_le_mul_of_nonneg_right (by omega) (by omega)
 have q2:j * g<=806:=by rw [<- hg]; exact Int.mul_le_mul_of_nonneg_right (by omega) (by omega)
 have q3:0<=(k - j) * g:=Int.mul_nonneg (by omega) (by omega)
 have q4:0<=j * g:=Int.mul_nonneg (by omega) (by omega)
 refine ⟨u * ((k - j) * g)+v * (j * g),?_,?_⟩
 ·have e8:((806:Nat):Rat)=(k:Rat) * (g:Rat):=by rw [<- Rat.intCast_mul,hg]; rfl
  unfold bB
  rw [Rat.divInt_eq_div,Rat.natCast_mul,e8,Rat.intCast_add,Rat.intCast_mul,Rat.intCast_mul,Rat.intCast_mul,Rat.intCast_mul,Rat.intCast_sub,<- eu,<- ev]
  grind
 ·refine Nat.le_trans (Int.natAbs_add_le _ _) (Nat.add_le_add ?_ ?_)
  ·rw [Int.natAbs_mul]; exact Nat.mul_le_mul hu (by omega)
  ·rw [Int.natAbs_mul]; exact Nat.mul_le_mul hv (by omega)
theorem Bs.mix {A:Yd}{e n w s:Int}{x y:Rat}{M:Nat} (b:Bs A e n w s x y M) {a c:P3} (ha:W3 (M * 2520) (10 ^ 42) a) (hc:W3 (M * 2520) (10 ^ 42) c) {j k:Int} (h:Prt j k):Env A e n w s (cM (Rat.divInt j k) a c).1 (cM (Rat.divInt j k) a c).2.1 (M * 2520 * 806) where
 o:=b.o
 nm:=⟨Nat.mul_pos (Nat.mul_pos b.m0 (by decide)) (by decide),Nat.le_trans (Nat.mul_le_mul (Nat.mul_le_mul b.m1 (Nat.le_refl _)) (Nat.le_refl _)) (by unfold sm; decide +kernel),by unfold sm; decide +kernel⟩
 ax:=fun v hv=>((b.ax v hv).l20.lift 806).mono (by decide +kernel)
 ay:=fun v hv=>((b.ay v hv).l20.lift 806).mono (by decide +kernel)
 fx:=(aGI ha.x hc.x h).mono (by decide +kernel)
 fy:=(aGI ha.y hc.y h).mono (by decide +kernel)
 lx:=b.lx
 ly:=b.ly
theorem W3.sz {M:Nat} (h:M<=10 ^ 30) (m0:0 < M) {t:P3} (w:W3 (M * 2520) (10 ^ 42) t):Sz 60 t.1/\Sz 60 t.2.1/\Sz 60 t.2.2:=by
 have key:∀ {q:Rat},Fr (M * 2520) (10 ^ 42) q->Sz 60 q:=fun f=>by
  obtain ⟨a,b⟩:=f.bd (Nat.mul_pos m0 (by decide))
  exact ⟨Nat.le_trans a (by decide +kernel),Nat.le_trans b (Nat.le_trans (Nat.mul_le_mul h (Nat.le_refl _)) (by decide +kernel))⟩
 exact ⟨key w.x,key w.y,key w.h⟩
end Q
namespace Q
open PySem L2 Z U
def oX (A:Yd) (p q r s x y:Rat) (l:List P3):Prop :=
 (aI A p q r s x y=0/\l=[(x,y,0)])\/(0 < aI A p q r s x y/\∃ d0 d,(d7 A p q r s x y (aI A p q r s x y)).head?=some d0/\frK A d=frK A d0/\SoonD (neD A p q r s x y) (reachF A p q r s x y (aI A p q r s x y) (frK A d)) d/\l=eP A p q r s x y (aI A p q r s x y) d)
theorem qP:∀ (l acc:List FrT) (a:FrT),acc.head?=some a->(l.foldl j5 acc).head?=some a
 | [],acc,a,h=>h
 | x::l,acc,a,h=>by
  rw [List.foldl_cons]
  refine qP l _ a ?_
  unfold j5
  split
  ·exact h
  ·rw [List.head?_append,h]; rfl
theorem aI7 (l:List FrT):(oD l).head?=l.head?:=by
 cases l with
 | nil=>rfl
 | cons x l =>
  unfold oD
  rw [List.foldl_cons]
  exact qP l _ x rfl
theorem aMW {A:Yd}{p q r s x y h:Rat}{t:FrT}:t∈oD ((d7 A p q r s x y h).map (frK A))↔∃ d∈d7 A p q r s x y h,frK A d=t:=by
 rw [<- aMQ (aMU A p q r s x y h)]
 unfold nubK
 rw [aCX,List.mem_map]
 exact ⟨fun z=>z.elim (fun q=>(nomatch q)) id, .inr⟩
noncomputable def gP (A:Yd) (p q r s x y:Rat):Option FrT:=(d7 A p q r s x y (aI A p q r s x y)).head?.map (frK A)
theorem aML (A:Yd) (p q r s x y:Rat):(oD ((d7 A p q r s x y (aI A p q r s x y)).map (frK A))).head?=gP A p q r s x y:=by rw [aI7,List.head?_map]; rfl
theorem high0 {A:Yd}{p q r s x y:Rat} (h:c8 (bN A.K (aU A.ws x) (aU A.us y))≠("in" : Str)):aI A p q r s x y=0:=by unfold aI; rw [if_neg fun z=>h ((qN A x y).mp z)]
theorem aL1 {A:Yd}{p q r s x y:Rat} (h:0 < aI A p q r s x y):c8 (bN A.K (aU A.ws x) (aU A.us y))=("in" : Str):=Classical.byContradiction fun z=>by rw [high0 z] at h; grind
theorem vY {A:Yd}{p q r s x y:Rat} (z:Pz p q r s) (h:aI A p q r s x y=0):c8 (bN A.K (aU A.ws x) (aU A.us y))≠("in" : Str):=fun e=>by
 have:=uY A z ((qN A x y).mpr e)
 grind
theorem zV {l:List Bool} (h1:c8 l≠("in" : Str)) (h2:c8 l≠("out" : Str)):c8 l=("rim" : Str):=by
 unfold c8 at *
 split
 ·rename_i q; rw [if_pos q] at h1; exact absurd rfl h1
 ·rename_i q
  rw [if_neg q] at h2
  split
  ·rfl
  ·rename_i q2; rw [if_neg q2] at h2; exact absurd rfl h2
theorem p6 {A:Yd}{p q r s x y:Rat} (z:Pz p q r s) (h:c8 (bN A.K (aU A.ws x) (aU A.us y))≠("out" : Str)):∃ d0,(d7 A p q r s x y (aI A p q r s x y)).head?=some d0:=by
 have:∃ d∈cX A,Tch A p q r s x y (aI A p q r s x y) d:=by
  by_cases g:c8 (bN A.K (aU A.ws x) (aU A.us y))=("in" : Str)
  ·exact aJ4 z ((qN A x y).mpr g)
  ·rw [high0 g]; exact aG9 z h g
 obtain ⟨d,hd,tc⟩:=this
 have m:d∈d7 A p q r s x y (aI A p q r s x y):=List.mem_filter.mpr ⟨hd,fK.mpr tc⟩
 cases e:d7 A p q r s x y (aI A p q r s x y) with
 | nil=>rw [e] at m; cases m
 | cons a l=>exact ⟨a,rfl⟩
structure Stc (A:Yd) (p q r s x y H:Rat) (d:R.Qd) (a b:P3):Prop where
 ga:Gd A p q r s x y H d a.1 a.2.1 a.2.2
 gb:Gd A p q r s x y H d b.1 b.2.1 b.2.2
 lt:b.2.2 < a.2.2
theorem Stc.mix {A:Yd}{p q r s x y H:Rat}{d:R.Qd}{a b:P3} (h:Stc A p q r s x y H d a b) (rn:Rn A p q r s x y H d) {l:Rat} (l0:0<=l) (l1:l<=1):aI A p q r s (cM l a b).1 (cM l a b).2.1=(cM l a b).2.2/\frK A d∈oD ((d7 A p q r s (cM l a b).1 (cM l a b).2.1 (cM l a b).2.2).map (frK A)):=by
 have g:=pN l0 l1 h.ga h.gb
 exact ⟨nY rn.z rn.hi rn.hd g rn.H0,aMW.mpr ⟨d,List.mem_filter.mpr ⟨rn.hd,fK.mpr g.gt⟩,rfl⟩⟩
theorem Rn.way {A:Yd}{p q r s x y H:Rat}{d:R.Qd} (h:Rn A p q r s x y H d):∃ c,Gd A p q r s x y H d c.1 c.2.1 c.2.2/\c.2.2=0/\((eP A p q r s x y H d=[(x,y,H),c]/\Stc A p q r s x y H d (x,y,H) c) \/
  ∃ t,eP A p q r s x y H d=[(x,y,H),aY A p q r s x y H d t (axF A p q r s x y d.f).y,c]/\Stc A p q r s x y H d (x,y,H) (aY A p q r s x y H d t (axF A p q r s x y d.f).y)/\Stc A p q r s x y H d (aY A p q r s x y H d t (axF A p q r s x y d.f).y) c):=by
 have H0:=h.H0
 obtain ⟨t0,tH⟩:=h.le
 have gs:=o9 (by grind) h.tc
 have gl:=h.last
 refine ⟨aY A p q r s x y H d 0 (neD A p q r s x y d).2,gl,rfl,?_⟩
 unfold eP
 by_cases w:(neD A p q r s x y d).1≠0/\(neD A p q r s x y d).1≠H
 ·rw [if_pos w]
  have gt:=h.turn Rat.le_refl tH
  have l1:(neD A p q r s x y d).1 < H:=by have:=w.2; grind
  have l2:0 < (neD A p q r s x y d).1:=by have:=w.1; grind
  exact .inr ⟨_,rfl,⟨gs,gt,l1⟩,⟨gt,gl,l2⟩⟩
 ·rw [if_neg w]
  exact .inl ⟨rfl,gs,gl,H0⟩
theorem aHW {A:Yd}{p q r s x y H:Rat}{d:R.Qd} (h:Rn A p q r s x y H d) {c:P3} (g:Gd A p q r s x y H d c.1 c.2.1 c.2.2) (c0:c.2.2=0):c8 (bN A.K (aU A.ws c.1) (aU A.us c.2.1))=("rim" : Str):=by
 have hh:=nY h.z h.hi h.hd g h.H0
 rw [c0] at hh
 refine zV (vY h.z hh) fun z=>aAC h.z z h.hd ?_
 rw [<- c0]; exact g.gt
theorem oX.rn {A:Yd}{p q r s x y:Rat} (z:Pz p q r s) {d:R.Qd} (H0:0 < aI A p q r s x y) (sd:SoonD (neD A p q r s x y) (reachF A p q r s x y (aI A p q r s x y) (frK A d)) d):Rn A p q r s x y (aI A p q r s x y) d:=by
 have m:=List.mem_filter.mp (List.mem_filter.mp sd.mem.1).1
 exact ⟨z,n4 A z x y,m.1,fK.mp m.2,H0⟩
structure WayR (A:Yd) (p q r s x y:Rat) (l:List P3):Prop where
 v:(aI A p q r s x y=0/\l=[(x,y,0)])\/∃ d c,Rn A p q r s x y (aI A p q r s x y) d/\SoonD (neD A p q r s x y) (reachF A p q r s x y (aI A p q r s x y) (frK A d)) d/\gP A p q r s x y=some (frK A d)/\l=eP A p q r s x y (aI A p q r s x y) d/\Gd A p q r s x y (aI A p q r s x y) d c.1 c.2.1 c.2.2/\c.2.2=0/\((l=[(x,y,aI A p q r s x y),c]/\Stc A p q r s x y (aI A p q r s x y) d (x,y,aI A p q r s x y) c)\/∃ t,l=[(x,y,aI A p q r s x y),aY A p q r s x y (aI A p q r s x y) d t (axF A p q r s x y d.f).y,c]/\Stc A p q r s x y (aI A p q r s x y) d (x,y,aI A p q r s x y) (aY A p q r s x y (aI A p q r s x y) d t (axF A p q r s x y d.f).y)/\Stc A p q r s x y (aI A p q r s x y) d (aY A p q r s x y (aI A p q r s x y) d t (axF A p q r s x y d.f).y) c)
theorem oX.way {A:Yd}{p q r s x y:Rat} (z:Pz p q r s) {l:List P3} (h:oX A p q r s x y l):WayR A p q r s x y l:=by
 rcases h with h | ⟨H0,d0,d,h1,h2,h3,h4⟩
 ·exact ⟨.inl h⟩
 ·have rn:=oX.rn z H0 h3
  obtain ⟨c,g,c0,w⟩:=rn.way
  subst h4
  exact ⟨.inr ⟨d,c,rn,h3,by unfold gP; rw [h1,h2]; rfl,rfl,g,c0,w⟩⟩
theorem aEQ {A:Yd}{p q r s x y:Rat}{d:R.Qd} (rn:Rn A p q r s x y (aI A p q r s x y) d) (sd:SoonD (neD A p q r s x y) (reachF A p q r s x y (aI A p q r s x y) (frK A d)) d) {W1:P3}{rest:List P3} (hw:eP A p q r s x y (aI A p q r s x y) d=(x,y,aI A p q r s x y)::W1::rest) (g1:Gd A p q r s x y (aI A p q r s x y) d W1.1 W1.2.1 W1.2.2) {l:Rat} (l0:0 < l) (l1:l < 1) {l':List P3}
  (h':oX A p q r s (cM l (x,y,aI A p q r s x y) W1).1 (cM l (x,y,aI A p q r s x y) W1).2.1 l') (ho:gP A p q r s (cM l (x,y,aI A p q r s x y) W1).1 (cM l (x,y,aI A p q r s x y) W1).2.1=some (frK A d)):l'=cM l (x,y,aI A p q r s x y) W1::W1::rest:=by
 have g:=pN (l:=l) (by grind) (by grind) (o9 (by have:=rn.H0; grind) rn.tc) g1
 have hh:=nY rn.z rn.hi rn.hd g rn.H0
 have hp:0 < bB l (aI A p q r s x y) W1.2.2:=by
  have a1:=Rat.mul_pos rn.H0 (show 0 < 1 - l by grind)
  have a2:=Rat.mul_nonneg g1.nn (show 0<=l by grind)
  unfold bB; grind
 have hh:aI A p q r s (cM l (x,y,aI A p q r s x y) W1).1 (cM l (x,y,aI A p q r s x y) W1).2.1=(cM l (x,y,aI A p q r s x y) W1).2.2:=hh
 have hp:0 < (cM l (x,y,aI A p q r s x y) W1).2.2:=hp
 rcases h' with ⟨h,_⟩ | ⟨H0,d0,d',h1,h2,h3,h4⟩
 ·rw [hh] at h; rw [h] at hp; exact absurd hp (by grind)
 ·have e:frK A d'=frK A d:=by
   unfold gP at ho
   rw [h1] at ho
   rw [h2]
   exact Option.some.inj ho
  rw [hh,e] at h3
  rw [h4,hh]
  exact aLC rn sd hw l0 l1 h3
theorem aLZ {A:Yd}{p q r s x y:Rat}{d:R.Qd} (rn:Rn A p q r s x y (aI A p q r s x y) d) {W1:P3} (g1:Gd A p q r s x y (aI A p q r s x y) d W1.1 W1.2.1 W1.2.2) {l:Rat} (l0:0 < l) (l1:l < 1):c8 (bN A.K (aU A.ws (cM l (x,y,aI A p q r s x y) W1).1) (aU A.us (cM l (x,y,aI A p q r s x y) W1).2.1))≠("out" : Str):=by
 have g:=pN (l:=l) (by grind) (by grind) (o9 (by have:=rn.H0; grind) rn.tc) g1
 have hh:=nY rn.z rn.hi rn.hd g rn.H0
 have hp:0 < bB l (aI A p q r s x y) W1.2.2:=by
  have a1:=Rat.mul_pos rn.H0 (show 0 < 1 - l by grind)
  have a2:=Rat.mul_nonneg g1.nn (show 0<=l by grind)
  unfold bB; grind
 rw [<- hh] at hp
 have e:=aL1 hp
 exact fun z=>absurd (e.symm.trans z) (by decide +kernel)
end Q
namespace Q
open PySem L2 Z U
def pcF (e n w s:Int) (f:Nat):Int:=match f with | 0=>e | 1=>n | 2=>w | _=>s
theorem aF1 {e n w s:Int} (o:Pp e n w s) (f:Nat):Pc (pcF e n w s f):=by
 unfold pcF
 split
 ·exact o.p
 ·exact o.q
 ·exact o.r
 ·exact o.s
def jO (e n w s:Int) (t:FrT) (h:Rat):Rat:=if t.1 < 2 then t.2+(pcF e n w s t.1:Rat) * h else t.2 - (pcF e n w s t.1:Rat) * h
theorem aCZ {A:Yd}{e n w s:Int}{x y H:Rat}{d:R.Qd} (hf:d.f < 4) (tc:Tch A e n w s x y H d) (h:Rat):crX (axF A e n w s x y d.f) (eS d.f) H h=jO e n w s (frK A d) h:=by
 have ln:=(lR.mp tc).1
 unfold crX
 rw [<- ln]
 unfold jO frK
 dsimp only
 generalize dE A d=v
 obtain ⟨f,l,b,en⟩:=d
 have:f=0\/f=1\/f=2\/f=3:=by
  have:f < 4:=hf
  omega
 rcases this with rfl | rfl | rfl | rfl
 ·rfl
 ·rfl
 ·simp [eS,pcF,axF,axX]
 ·simp [eS,pcF,axF,axY]
theorem aFM {e n w s:Int}{f:Nat} (hf:f < 4):atI [D.int e, .int n, .int w, .int s] (f:Int)=some (.int (pcF e n w s f)):=by
 have:f=0\/f=1\/f=2\/f=3:=by omega
 rcases this with rfl | rfl | rfl | rfl <;> rfl
theorem at0 {a:D}{l:List D}:atI (a::l) 0=some a:=dC (j:=0) rfl
theorem aQ9 {p:Bool}{A B C:Prop} (ha:p=true->C->A) (hb:p=false->C->B) (h:C):if p=true then A else B:=by
 cases p with
 | true=>exact ha rfl h
 | false=>exact hb rfl h
def neE (t:Rat × Rat):D := .tup [aL t.1,aL t.2]
def aLO:Ct:=fun ds M k=>∃ (e n w s:Int) (t:FrT) (h:Rat),ds=[fE e n w s,dP t,aL h]/\t.1 < 4/\Pp e n w s/\Sz 60 t.2/\Sz 62 h/\k (aL (jO e n w s t h)) M
def aHX:Ct:=fun ds M k=>∃ (A:Yd) (d:R.Qd) (e n w s:Int) (x y:Rat) (N:Nat),ds=[fE e n w s,sdR A d,aL (axF A e n w s x y d.f).y]/\d.f < 4/\Env A e n w s x y N/\k (neE (neD A e n w s x y d)) M
def aJU:Ct:=fun ds M k=>∃ (l:List (Rat × Rat)),ds=[.lst (l.map neE)]/\l≠[]/\l.length<=60000/\(∀ t∈l,Bq t.1)/\k (neE (soon l)) M
def aIZ:Ct:=fun ds M k=>∃ (t:FrT) (c a:Rat),ds=[dP t,aL c,aL a]/\k (neE (ptF t.1 c a)) M
def aN3:Ct:=fun ds M k=>∃ (A:Yd) (e n w s:Int) (x y:Rat) (N:Nat) (d0:R.Qd),ds=[yd A,fE e n w s,aL x,aL y]/\Env A e n w s x y N/\c8 (bN A.K (aU A.ws x) (aU A.us y))≠("out" : Str)/\(d7 A e n w s x y (aI A e n w s x y)).head?=some d0/\k (.tup [aL (aI A e n w s x y),sdR A d0]) M
def aP1:Ct:=fun ds M k=>∃ (A:Yd) (e n w s:Int) (x y:Rat) (N:Nat),ds=[yd A,fE e n w s,aL x,aL y]/\Env A e n w s x y N/\c8 (bN A.K (aU A.ws x) (aU A.us y))≠("out" : Str)/\∀ l,oX A e n w s x y l->k (.lst (l.map p3D)) M
def aLU:Ct:=fun ds M k=>∃ (a b:Rat) (i j:Int),ds=[aL a,aL b, .tup [.int i, .int j]]/\Sz 60 a/\Sz 60 b/\Prt i j/\k (aL (bB (Rat.divInt i j) a b)) M
def aI5:Ct:=fun ds M k=>∃ (a b:P3) (i j:Int),ds=[p3D a,p3D b, .tup [.int i, .int j]]/\(Sz 60 a.1/\Sz 60 a.2.1/\Sz 60 a.2.2)/\(Sz 60 b.1/\Sz 60 b.2.1/\Sz 60 b.2.2)/\Prt i j/\k (p3D (cM (Rat.divInt i j) a b)) M
def aDV:Ct:=fun ds M k=>∃ (p:Addr) (b0:Int) (A:Yd) (e n w s:Int) (x y:Rat) (N:Nat) (d:R.Qd) (a b:P3),ds=[.mt p,yd A,fE e n w s,dP (frK A d),p3D a,p3D b]/\PnM M p b0/\b0<=700000/\Bs A e n w s x y N/\Rn A e n w s x y (aI A e n w s x y) d/\Stc A e n w s x y (aI A e n w s x y) d a b/\W3 (N * 2520) (10 ^ 42) a/\W3 (N * 2520) (10 ^ 42) b/\∀ M',PnM M' p (b0+10)->cH p M M'->k (.bl true) M'
def aFA:Ct:=fun ds M k=>∃ (A:Yd) (e n w s:Int) (x y H:Rat) (d:R.Qd) (t:Rat),ds=[fE e n w s,dP (frK A d),p3D (x,y,H),p3D (aY A e n w s x y H d t (axF A e n w s x y d.f).y)]/\d.f < 4/\Pp e n w s/\(Sz 60 x/\Sz 60 y/\Sz 60 H)/\Sz 60 t/\k (.bl true) M
def aNT:Ct:=fun ds M k=>∃ (p:Addr) (b0:Int) (A:Yd) (e n w s:Int) (x y:Rat) (N:Nat),ds=[.mt p,yd A,fE e n w s,aL x,aL y]/\PnM M p b0/\b0<=700000/\Bs A e n w s x y N/\c8 (bN A.K (aU A.ws x) (aU A.us y))≠("out" : Str)/\∀ M',PnM M' p (b0+30)->cH p M M'->k (.bl true) M'
theorem Env.neS {A:Yd}{e n w s:Int}{x y:Rat}{M:Nat} (h:Env A e n w s x y M) (d:R.Qd):Sz 61 (neD A e n w s x y d).1/\Sz 60 (neD A e n w s x y d).2:=by
 have key:∀ {X:U.Ax}{b c:Int},FrL M (10 ^ 60) X.al->Fr M (10 ^ 60) X.y->X.da=(b:Rat)->X.ua=(c:Rat)->Pc b->Pc c->Sz 61 (neR X d.b d.e).1/\Sz 60 (neR X d.b d.e).2:=fun {X b c} fl fy e1 e2 hb hc=>by
  unfold neR
  split
  ·exact ⟨by rw [e1]; exact .ofDn h.nm (h.nm.div (fy.sub (fl.at _)) hb), .ofFr h.nm (fl.at _)⟩
  ·split
   ·exact ⟨by rw [e2]; exact .ofDn h.nm (h.nm.div ((fl.at _).sub fy) hc), .ofFr h.nm (fl.at _)⟩
   ·exact ⟨⟨Nat.zero_le _,by show 1<=_; exact Nat.one_le_pow _ _ (by decide)⟩, .ofFr h.nm fy⟩
 unfold neD axF
 split
 ·exact key (X:=axX A e n w s x y) h.ay h.fy rfl rfl h.o.q h.o.s
 ·exact key (X:=axY A e n w s x y) h.ax h.fx rfl rfl h.o.p h.o.r
theorem Env.atF {A:Yd}{e n w s:Int}{x y:Rat}{M:Nat} (h:Env A e n w s x y M) (f:Nat):Fr M (10 ^ 60) (axF A e n w s x y f).y:=by
 unfold axF
 split
 ·exact h.fy
 ·exact h.fx
theorem aKX {e n w s:Int}{A:Yd}{x y:Rat} (o:Pp e n w s) (f:Nat):∃ b c:Int,Pc b/\Pc c/\(axF A e n w s x y f).da=(b:Rat)/\(axF A e n w s x y f).ua=(c:Rat)/\atI [D.int e, .int n, .int w, .int s] (1 - (f:Int) % 2)=some (.int b)/\atI [D.int e, .int n, .int w, .int s] (3 - (f:Int) % 2)=some (.int c):=by
 unfold axF
 rcases Nat.mod_two_eq_zero_or_one f with q | q
 ·rw [if_pos q,show (f:Int) % 2=0 by omega]
  exact ⟨n,s,o.q,o.s,rfl,rfl,rfl,rfl⟩
 ·rw [if_neg (by omega),show (f:Int) % 2=1 by omega]
  exact ⟨e,w,o.p,o.r,rfl,rfl,rfl,rfl⟩
theorem aGW {l:List (Rat × Rat)}{i:Nat}{t a:Rat × Rat} (h:l[i]?=some t):(l.take (i+1)).foldl fQ a=fQ ((l.take i).foldl fQ a) t:=by
 rw [List.take_add_one,h,List.foldl_append]; rfl
theorem zK:∀ (l:List (Rat × Rat)) (a:Rat × Rat),l.foldl fQ a=a\/l.foldl fQ a∈l
 | [],a => .inl rfl
 | t::l,a=>by
  rw [List.foldl_cons]
  rcases zK l (fQ a t) with q | q
  ·rw [q]
   unfold fQ
   split
   ·exact .inr (.head _)
   ·exact .inl rfl
  ·exact .inr (.tail _ q)
theorem aJQ (a b:Rat) {i j:Int} (hj:0 < j):Rat.divInt (a.num * (b.den:Int) * (j - i)+b.num * (a.den:Int) * i) ((a.den:Int) * (b.den:Int) * j)=bB (Rat.divInt i j) a b:=by
 have ha:((a.den:Int):Rat)≠0:=fun e=>by have:=Rat.intCast_inj.mp (e.trans Rat.intCast_zero.symm); have:=a.den_pos; omega
 have hb:((b.den:Int):Rat)≠0:=fun e=>by have:=Rat.intCast_inj.mp (e.trans Rat.intCast_zero.symm); have:=b.den_pos; omega
 have hc:((j:Int):Rat)≠0:=fun e=>by have:=Rat.intCast_inj.mp (e.trans Rat.intCast_zero.symm); omega
 have ea:a=(a.num:Rat) / ((a.den:Int):Rat):=by rw [<- Rat.divInt_eq_div,Rat.num_divInt_den]
 have eb:b=(b.num:Rat) / ((b.den:Int):Rat):=by rw [<- Rat.divInt_eq_div,Rat.num_divInt_den]
 unfold bB
 conv=>rhs; rw [ea,eb]
 rw [Rat.divInt_eq_div,Rat.divInt_eq_div,Rat.intCast_add,Rat.intCast_mul,Rat.intCast_mul,Rat.intCast_mul,Rat.intCast_mul,Rat.intCast_mul,Rat.intCast_mul,Rat.intCast_sub]
 grind
theorem aHG {a b:Rat} (h:Sz 60 a) (g:Sz 60 b) {j:Int} (j0:0 < j) (j1:j<=31):0 < (a.den:Int) * (b.den:Int) * j/\(a.den:Int) * (b.den:Int) * j < 10 ^ 300:=by
 have p1:=a.den_pos
 have p2:=b.den_pos
 refine ⟨Int.mul_pos (Int.mul_pos (by omega) (by omega)) j0,?_⟩
 have:a.den * b.den * j.toNat<=10 ^ 60 * 10 ^ 60 * 31:=Nat.mul_le_mul (Nat.mul_le_mul h.d g.d) (by omega)
 have e:(a.den:Int) * (b.den:Int) * j=((a.den * b.den * j.toNat:Nat):Int):=by rw [Int.natCast_mul,Int.natCast_mul,Int.toNat_of_nonneg (by omega)]
 rw [e]
 exact Int.lt_of_le_of_lt (Int.ofNat_le.mpr this) (by decide +kernel)
theorem aM4 {A:Yd}{e n w s:Int}{x y H:Rat}{d:R.Qd} (hf:d.f < 4) (tc:Tch A e n w s x y H d):(eP A e n w s x y H d).map p3D=[p3D (x,y,H)]++(if (neD A e n w s x y d).1≠0/\(neD A e n w s x y d).1≠H then [D.tup [aL (ptF d.f (jO e n w s (frK A d) (neD A e n w s x y d).1) (axF A e n w s x y d.f).y).1,aL (ptF d.f (jO e n w s (frK A d) (neD A e n w s x y d).1) (axF A e n w s x y d.f).y).2,aL (neD A e n w s x y d).1]] else [])++[.tup [aL (ptF d.f (dE A d) (neD A e n w s x y d).2).1,aL (ptF d.f (dE A d) (neD A e n w s x y d).2).2,aL 0]]:=by
 have l0:jO e n w s (frK A d) 0=dE A d:=by unfold jO frK; split <;> grind
 have t1:p3D (aY A e n w s x y H d 0 (neD A e n w s x y d).2) = .tup [aL (ptF d.f (dE A d) (neD A e n w s x y d).2).1,aL (ptF d.f (dE A d) (neD A e n w s x y d).2).2,aL 0]:=by unfold aY p3D; rw [aCZ hf tc,l0]
 have t2:p3D (aY A e n w s x y H d (neD A e n w s x y d).1 (axF A e n w s x y d.f).y)=D.tup [aL (ptF d.f (jO e n w s (frK A d) (neD A e n w s x y d).1) (axF A e n w s x y d.f).y).1,aL (ptF d.f (jO e n w s (frK A d) (neD A e n w s x y d).1) (axF A e n w s x y d.f).y).2,aL (neD A e n w s x y d).1]:=by unfold aY p3D; rw [aCZ hf tc]
 unfold eP
 rw [List.map_cons,List.map_append,List.map_cons,List.map_nil,t1,List.append_assoc,List.singleton_append]
 congr 2
 split
 ·rw [List.map_cons,List.map_nil,t2]
 ·rfl
end Q
namespace Q
open PySem L2 Z U
theorem wC {a b:Int} (h:a.natAbs < 10 ^ 400) (g:b.natAbs < 10 ^ 400):(a * b).natAbs < big:=by
 rw [Int.natAbs_mul]
 exact Nat.lt_of_le_of_lt (Nat.mul_le_mul (Nat.le_of_lt h) (Nat.le_of_lt g)) (by unfold big; decide +kernel)
theorem zip3 {a b:P3}{i:Nat}{d1 d2:D} (hd:(jZ [aL a.1,aL a.2.1,aL a.2.2] [aL b.1,aL b.2.1,aL b.2.2])[i]?=some (.tup [d1,d2])) (sa:Sz 60 a.1/\Sz 60 a.2.1/\Sz 60 a.2.2) (sb:Sz 60 b.1/\Sz 60 b.2.1/\Sz 60 b.2.2) (l:Rat):∃ u v:Rat,d1=aL u/\d2=aL v/\Sz 60 u/\Sz 60 v/\[aL (bB l a.1 b.1),aL (bB l a.2.1 b.2.1),aL (bB l a.2.2 b.2.2)].take (i+1)=[aL (bB l a.1 b.1),aL (bB l a.2.1 b.2.1),aL (bB l a.2.2 b.2.2)].take i++[aL (bB l u v)]:=by
 obtain ⟨h1,h2⟩:=aFP hd
 match i with
 | 0=>exact ⟨_,_,(Option.some.inj h1).symm,(Option.some.inj h2).symm,sa.1,sb.1,rfl⟩
 | 1=>exact ⟨_,_,(Option.some.inj h1).symm,(Option.some.inj h2).symm,sa.2.1,sb.2.1,rfl⟩
 | 2=>exact ⟨_,_,(Option.some.inj h1).symm,(Option.some.inj h2).symm,sa.2.2,sb.2.2,rfl⟩
 | n+3=>cases h1
theorem prt01:Prt 0 1:=⟨by decide,by decide,by decide,by decide,806,by decide⟩
theorem prt12:Prt 1 2:=⟨by decide,by decide,by decide,by decide,403,by decide⟩
theorem prt31 {z:Int} (h0:0<=z) (h1:z < 30):Prt (1+z) 31:=⟨by omega,by omega,by decide,by decide,26,by decide⟩
theorem prt13 {z:Int} (h0:0<=z) (h1:z < 12):Prt (1+z) 13:=⟨by omega,by omega,by decide,by decide,62,by decide⟩
theorem at3 (A:Yd) (p q r s x y:Rat) (f:Nat) (h:D):atI [aL x,aL y,h] ((f:Int) % 2)=some (aL (axF A p q r s x y f).x)/\atI [aL x,aL y,h] (1 - (f:Int) % 2)=some (aL (axF A p q r s x y f).y):=by
 unfold axF
 rcases Nat.mod_two_eq_zero_or_one f with g | g
 ·rw [if_pos g,show (f:Int) % 2=0 by omega]; exact ⟨rfl,rfl⟩
 ·rw [if_neg (by omega),show (f:Int) % 2=1 by omega]; exact ⟨rfl,rfl⟩
theorem at3p (f:Nat) (c a:Rat) (h:D):atI [aL (ptF f c a).1,aL (ptF f c a).2,h] ((f:Int) % 2)=some (aL c)/\atI [aL (ptF f c a).1,aL (ptF f c a).2,h] (1 - (f:Int) % 2)=some (aL a):=by
 unfold ptF
 rcases Nat.mod_two_eq_zero_or_one f with g | g
 ·rw [if_pos g,show (f:Int) % 2=0 by omega]; exact ⟨rfl,rfl⟩
 ·rw [if_neg (by omega),show (f:Int) % 2=1 by omega]; exact ⟨rfl,rfl⟩
def sgF (f:Nat):Int:=if f < 2 then 1 else -1
theorem aQI {f:Nat} (hf:f < 4):atI [D.int 1, .int 1, .int (-1), .int (-1)] (f:Int)=some (.int (sgF f)):=by
 have:f=0\/f=1\/f=2\/f=3:=by omega
 rcases this with rfl | rfl | rfl | rfl <;> rfl
theorem aP7 (A:Yd) (e n w s:Int) (x y H t:Rat) {f:Nat} (hf:f < 4):crX (axF A e n w s x y f) (eS f) H t=(axF A e n w s x y f).x+((-(pcF e n w s f * sgF f):Int):Rat) * (H - t):=by
 have:f=0\/f=1\/f=2\/f=3:=by omega
 rcases this with rfl | rfl | rfl | rfl
 ·show x - (e:Rat) * H+(e:Rat) * t=x+((-(e * 1):Int):Rat) * (H - t)
  rw [Int.mul_one,Rat.intCast_neg]; grind
 ·show y - (n:Rat) * H+(n:Rat) * t=y+((-(n * 1):Int):Rat) * (H - t)
  rw [Int.mul_one,Rat.intCast_neg]; grind
 ·show x+(w:Rat) * H - (w:Rat) * t=x+((-(w * -1):Int):Rat) * (H - t)
  rw [show -(w * -1)=w by omega]; grind
 ·show y+(s:Rat) * H - (s:Rat) * t=y+((-(s * -1):Int):Rat) * (H - t)
  rw [show -(s * -1)=s by omega]; grind
theorem aL5 (a b:Rat):Rat.divInt (a.num * (b.den:Int) - b.num * (a.den:Int)) ((a.den:Int) * (b.den:Int))=a - b:=by
 have t:=wZ a b (-1)
 rw [show a.num * (b.den:Int) + -1 * b.num * (a.den:Int)=a.num * (b.den:Int) - b.num * (a.den:Int) by grind] at t
 rw [t,show ((-1:Int):Rat) = -1 from rfl]; grind
theorem aN7 (a l:Rat) (g:Int):Rat.divInt (a.num * (l.den:Int) - g * l.num * (a.den:Int)) ((a.den:Int) * (l.den:Int))=a+((-g:Int):Rat) * l:=by
 have t:=wZ a l (-g)
 rw [show a.num * (l.den:Int) + -g * l.num * (a.den:Int)=a.num * (l.den:Int) - g * l.num * (a.den:Int) by grind] at t
 exact t
theorem zG {A:Yd}{p q r s x y:Rat}{t:FrT} (h:gP A p q r s x y=some t):atI ((oD ((d7 A p q r s x y (aI A p q r s x y)).map (frK A))).map dP) 0=some (dP t):=by
 rw [<- aML] at h
 cases g:oD ((d7 A p q r s x y (aI A p q r s x y)).map (frK A)) with
 | nil=>rw [g] at h; cases h
 | cons a b=>rw [g] at h; cases h; exact at0
structure WayF (A:Yd) (e n w s:Int) (x y:Rat) (N:Nat) (t0:FrT) (l:List P3):Prop where
 ln:l.length<=3
 hd:∃ r,l=(x,y,aI A e n w s x y)::r
 la:∃ l' c,l=l'++[c]/\c.2.2=0/\c8 (bN A.K (aU A.ws c.1) (aU A.us c.2.1))=("rim" : Str)/\W3 (N * 2520) (10 ^ 42) c
 st:∀ i a b,l[i]?=some a->l[i+1]?=some b->∃ d,Rn A e n w s x y (aI A e n w s x y) d/\Stc A e n w s x y (aI A e n w s x y) d a b/\frK A d=t0/\W3 (N * 2520) (10 ^ 42) a/\W3 (N * 2520) (10 ^ 42) b
 up:3<=l.length->∃ d t,d.f < 4/\frK A d=t0/\l[1]?=some (aY A e n w s x y (aI A e n w s x y) d t (axF A e n w s x y d.f).y)/\Sz 60 t/\Sz 60 (aI A e n w s x y)
theorem WayR.walk {A:Yd}{e n w s:Int}{x y:Rat}{N:Nat} (bs:Bs A e n w s x y N) (ho:c8 (bN A.K (aU A.ws x) (aU A.us y))≠("out" : Str)) {t0:FrT} (h0:gP A e n w s x y=some t0) {l:List P3} (h:WayR A e n w s x y l):WayF A e n w s x y N t0 l:=by
 have z4:=aDZ bs.o
 have le2:10 ^ 40<=10 ^ 42:=by decide +kernel
 rcases h.v with ⟨H0,rfl⟩ | ⟨d,c,rn,sd,h1,hl,gc,c0,w1⟩
 ·refine ⟨by simp,⟨[],by rw [H0]⟩,⟨[],(x,y,0),rfl,rfl,zV (vY z4 H0) ho,bs.fx.l20.mono le2,bs.fy.l20.mono le2,Fr.zero _ _⟩,fun i a b g1 g2 => ?_,fun g => ?_⟩
  ·cases g2
  ·simp at g
 ·have eq:frK A d=t0:=Option.some.inj (h1.symm.trans h0)
  have hw:=bs.way d
  rw [<- hl] at hw
  have rim:=aHW rn gc c0
  have hf:=(R.gW rn.hd).1
  rcases w1 with ⟨rfl,st⟩ | ⟨t,rfl,s1,s2⟩
  ·refine ⟨by simp,⟨_,rfl⟩,⟨[_],c,rfl,c0,rim,hw c (by simp)⟩,fun i a b g1 g2 => ?_,fun g => ?_⟩
   ·match i with
    | 0=>cases g1; cases g2; exact ⟨d,rn,st,eq,hw _ (by simp),hw _ (by simp)⟩
    | n+1=>cases g2
   ·simp at g
  ·refine ⟨by simp,⟨_,rfl⟩,⟨[_,_],c,rfl,c0,rim,hw c (by simp)⟩,fun i a b g1 g2 => ?_,fun g => ?_⟩
   ·match i with
    | 0=>cases g1; cases g2; exact ⟨d,rn,s1,eq,hw _ (by simp),hw _ (by simp)⟩
    | 1=>cases g1; cases g2; exact ⟨d,rn,s2,eq,hw _ (by simp),hw _ (by simp)⟩
    | n+2=>cases g2
   ·have k1:=(hw _ (by simp:aY A e n w s x y (aI A e n w s x y) d t (axF A e n w s x y d.f).y∈_)).sz bs.m1 bs.m0
    have k2:=(hw _ (by simp:(x,y,aI A e n w s x y)∈_)).sz bs.m1 bs.m0
    exact ⟨d,t,hf,eq,rfl,k1.2.2,k2.2.2⟩
theorem WayR.more {A:Yd}{e n w s:Int}{x y:Rat}{N:Nat} (bs:Bs A e n w s x y N) {t0:FrT} (h0:gP A e n w s x y=some t0) {l:List P3} (h:WayR A e n w s x y l) (hl:l.length≠1):∃ d W1 rest,Rn A e n w s x y (aI A e n w s x y) d/\SoonD (neD A e n w s x y) (reachF A e n w s x y (aI A e n w s x y) (frK A d)) d/\frK A d=t0/\eP A e n w s x y (aI A e n w s x y) d=(x,y,aI A e n w s x y)::W1::rest/\l=(x,y,aI A e n w s x y)::W1::rest/\Gd A e n w s x y (aI A e n w s x y) d W1.1 W1.2.1 W1.2.2/\W3 (N * 2520) (10 ^ 42) (x,y,aI A e n w s x y)/\W3 (N * 2520) (10 ^ 42) W1/\rest.length<=1:=by
 rcases h.v with ⟨H0,rfl⟩ | ⟨d,c,rn,sd,h1,hl',gc,c0,w1⟩
 ·exact absurd rfl hl
 ·have eq:frK A d=t0:=Option.some.inj (h1.symm.trans h0)
  have hw:=bs.way d
  rcases w1 with ⟨e1,st⟩ | ⟨t,e1,s1,s2⟩
  ·have e2:=hl'.symm.trans e1
   rw [e2] at hw
   exact ⟨d,c,[],rn,sd,eq,e2,e1,gc,hw _ (by simp),hw _ (by simp),by simp⟩
  ·have e2:=hl'.symm.trans e1
   rw [e2] at hw
   exact ⟨d,_,[c],rn,sd,eq,e2,e1,s1.gb,hw _ (by simp),hw _ (by simp),by simp⟩
theorem okP3 (t:P3):okD 2 (p3D t)=true:=rfl
theorem aDR (l:List P3):okD 3 (.lst (l.map p3D))=true:=wB fun d hd=>by obtain ⟨q,_,rfl⟩:=List.mem_map.mp hd; rfl
theorem fr46 {a c m:Int} (c1:1<=c) (m1:1<=m) (h:a.natAbs<=10 ^ 35):Fr (c.toNat * m.toNat) (10 ^ 36) (Rat.divInt a c * Rat.divInt 1 m):=by
 have:=(nL (a:=a) (show 0 < c by omega)).mul (nL (a:=1) (show 0 < m by omega))
 exact this.mono (Nat.le_trans (Nat.mul_le_mul h (Nat.le_refl 1)) (by decide +kernel))
theorem frl46 {ws:List Rat}{xs:List Int} (hw:∀ w∈ws,w∈toQ xs) (ux:Up7 xs) {c m:Int} (c1:1<=c) (c2:c<=bot) (m1:1<=m):FrL (c.toNat * m.toNat) (10 ^ 36) (ws.map (· * Rat.divInt 1 m)):=fun w hq=>by
 obtain ⟨v,hv,rfl⟩:=List.mem_map.mp hq
 obtain ⟨x,hx,rfl⟩:=List.mem_map.mp (hw v hv)
 have bx:=ux.bd x hx
 have f:Fr c.toNat (10 ^ 35) (x:Rat):=Fr.int (Nat.le_trans (Nat.mul_le_mul (show x.natAbs<=1000000000 by omega) (show c.toNat<=200000000000000000000 by unfold bot at c2; omega)) (by decide +kernel))
 exact (f.mul (nL (a:=1) (show 0 < m by omega))).mono (Nat.le_trans (Nat.mul_le_mul (Nat.le_refl _) (Nat.le_refl 1)) (by decide +kernel))
theorem m46 {c m:Int} (c1:1<=c) (c2:c<=bot) (m1:1<=m) (m2:m<=1000000007):0 < c.toNat * m.toNat/\c.toNat * m.toNat<=10 ^ 30:=by
 refine ⟨Nat.mul_pos (by omega) (by omega),?_⟩
 have:c.toNat * m.toNat<=200000000000000000000 * 1000000007:=Nat.mul_le_mul (by unfold bot at c2; omega) (by omega)
 exact Nat.le_trans this (by decide +kernel)
end Q
namespace Q
open PySem L2 Z
open U
section
variable {P:Program}{w:World}{K:PySem.W.Frag}{mg:Str->Option Value}{z:Heap}{f:Addr}{fd:FuncData}
theorem rP:FnScope ["_law_one", "_law_other", "_law_part_here", "_law_head", "_law_below", "_law_upper"] zl4 (aP vW):=zSc
abbrev aG0 (P w K mg z):=Fo P w K mg z "_law_part" vW zl4 2 aLU
theorem aLY (Df:R.Df K mg "_law_part" vW zl4 f fd) (aRB:p5 P w K mg z):aG0 P w K mg z:=by
 refine ⟨f,fd,Df,a9 Df rP (fun ds M k h=>?_) (fun _ _ _ _ _ _ hr ds M k h=>?_)⟩
 ·obtain ⟨a,b,i,j,rfl,_⟩:=h; rfl
 obtain ⟨a,b,i,j,rfl,sa,sb,pr,hk⟩:=h
 have ba:=sa.bq (by decide)
 have bb:=sb.bq (by decide)
 obtain ⟨j0,jk,k0,k1,_⟩:=id pr
 obtain ⟨d0,d1⟩:=aHG sa sb k0 k1
 have s1:(j - i).natAbs < 10 ^ 400:=Nat.lt_of_le_of_lt (show _<=31 by omega) (by decide +kernel)
 have s2:i.natAbs < 10 ^ 400:=Nat.lt_of_le_of_lt (show _<=31 by omega) (by decide +kernel)
 have s3:j.natAbs < 10 ^ 400:=Nat.lt_of_le_of_lt (show _<=31 by omega) (by decide +kernel)
 refine aE (mS (aB 2 rfl (iK rfl (bZ (bO 3 rP.nd (bZ (bO 4 rP.nd (gI (aE (aQ 5 rP.nd (aM cF (aM bW (aM bW (aG aD (aB 0 rfl (z6 (aH (.tup _) rfl (aG aD (aB 1 rfl (z6 (aH (.tup _) rfl (aZ ⟨big400 ba.g.a,big400 bb.g.b⟩ (aM bR (aB 4 rfl (aB 3 rfl (bM (aZ ⟨wC ba.g.a bb.g.b,big400 s1⟩ (aM bW (aM bW (aG aD (aB 1 rfl (z6 (aH (.tup _) rfl (aG aD (aB 0 rfl (z6 (aH (.tup _) rfl (aZ ⟨big400 bb.g.a,big400 ba.g.b⟩ (aB 3 rfl (aZ ⟨wC bb.g.a ba.g.b,big400 s2⟩ (bM (aK (aR (aJ aRB hr (aA (aB 5 rfl ?_))))))))))))))))))))))))))))))))))))))))))))))
 refine aA (aM bW (aM bW (aG aD (aB 0 rfl (z6 (aH (.tup _) rfl (aG aD (aB 1 rfl (z6 (aH (.tup _) rfl (aZ ⟨big400 ba.g.b,big400 bb.g.b⟩ (aB 4 rfl (aZ ⟨wC ba.g.b bb.g.b,big400 s3⟩ (aC ⟨a.num * (b.den:Int) * (j - i)+b.num * (a.den:Int) * i,(a.den:Int) * (b.den:Int) * j,rfl,d0,d1,?_⟩))))))))))))))
 rw [jP d0,aJQ a b k0]
 exact hk
end
end Q
namespace L2
open PySem PySem.Spec PyProof.Rows
def SqB (t:Bool) (K:PySem.W.Frag) (H:Hp) (a:Addr) (xs:List V):Prop:=if t then SqT K H a xs else SqL K H a xs
def kF (t:Bool) (h:Heap) (it a:Addr) (i:Nat):Prop:=if t then h.IsTupleIter it a i else h.IsListIter it a i
def PlB (t:Bool) (h:Heap) (a:Addr) (its:Array Value):Prop:=if t then h.IsTuple a its else h.IsList a its
theorem kF.get {t:Bool}{h:Heap}{it a:Addr}{i:Nat} (q:kF t h it a i):∃ o,h.get? it=some o/\(o.cls ≠ .type "list" /\ o.cls ≠ .type "tuple")/\∀ v,o.data ≠ .cell v:=by
 cases t <;> obtain ⟨o,e,c,d⟩:=q <;> exact ⟨o,e,⟨by rw [c]; simp,by rw [c]; simp⟩,fun v z=>by rw [d] at z; cases z⟩
theorem kF.keep {t:Bool}{h h':Heap}{it a:Addr}{i:Nat} (q:kF t h it a i) (k:∀ o,h.get? it=some o->h'.get? it=some o):kF t h' it a i:=by
 cases t <;> obtain ⟨o,e,r⟩:=q <;> exact ⟨o,k o e,r⟩
theorem PlB.ex {t:Bool}{h:Heap}{a:Addr}{its:Array Value} (q:PlB t h a its):∃ o,h.get? a=some o:=by
 cases t <;> obtain ⟨o,e,_⟩:=q <;> exact ⟨o,e⟩
theorem PlB.ne {t:Bool}{h:Heap}{a b:Addr}{its:Array Value}{o:Obj} (q:PlB t h a its) (ho:h.get? b=some o) (hc:o.cls ≠ .type "list" /\ o.cls ≠ .type "tuple"):a≠b:=by
 cases t
 ·exact aMI q ho hc.1
 ·exact tup_ne q ho hc.2
theorem wV {t:Bool}{X:Cx}{pins:List (Addr × Obj)}{σ:St}{H:Hp}{s:Shared}{a:Addr}{xs:List V} (I:Inv X pins σ H s) (h:SqB t X.K H a xs):∃ its:List Value,Vals xs its/\PlB t s.heap a its.toArray:=by
 cases t
 ·obtain ⟨its,r,p,_⟩:=I.list h; exact ⟨its,r,p.isList⟩
 ·obtain ⟨its,r,p,_⟩:=I.tuple h; exact ⟨its,r,p⟩
theorem injB {t:Bool}{X:Cx}{pins:List (Addr × Obj)}{σ:St}{H:Hp}{s:Shared}{a:Addr}{xs ys:List V} (I:Inv X pins σ H s) (h:SqB t X.K H a xs) (h':SqB t X.K H a ys):xs=ys:=by
 cases t
 ·exact I.list_inj h h'
 ·exact I.tuple_inj h h'
theorem sqB {t:Bool}{K:PySem.W.Frag}{H H':Hp}{a:Addr}{xs:List V} (e:Same H H') (h:SqB t K H a xs):SqB t K H' a xs:=by
 cases t
 ·exact e.seq h
 ·exact R.eG e h
theorem vA {t:Bool}{prog:Program}{w:World}{A:Around} (hh:A.handled=none) (iq a:Addr) (hne:a≠iq) (its:Array Value):Draws prog w A iq [iq,a] its.size (fun i v=>its[i]?=some v) (fun i h=>kF t h iq a i/\PlB t h a its):=by
 cases t
 ·exact Draws.list hh iq a hne its
 ·exact Draws.tup hh iq a hne its
theorem aE9 {t:Bool}{prog:Program}{w:World}{A:Around}{E:Value->Shared->Prop}{s:Shared}{l1 l2:Addr}{xs ys:Array Value}{Q:Value->Shared->Prop} (h1:PlB t s.heap l1 xs) (h2:PlB t s.heap l2 ys)
  (h:∀ h',IsZip h' (s.heap.objs.size+4) (s.heap.objs.size+2) (s.heap.objs.size+3) .none->IsPair h' (s.heap.objs.size+2) (.ref s.heap.objs.size) (.ref (s.heap.objs.size+1)) ->
   IsPair h' (s.heap.objs.size+3) .none .none->kF t h' s.heap.objs.size l1 0->kF t h' (s.heap.objs.size+1) l2 0->h'.objs.size=s.heap.objs.size+5 ->
   (∀ c o,s.heap.get? c=some o->h'.get? c=some o)->Q (.ref (s.heap.objs.size+4)) { s with heap:=h' }) :
  wpAny (model prog w) A (call (.type "zip") [.ref l1, .ref l2]) Q E s:=by
 cases t
 ·exact call_zip_2 h1 h2 h
 ·exact aA3 h1 h2 h
end L2
namespace L2
open PySem PySem.Spec PyProof.Rows
section
variable {X:Cx}
def Izb (t:Bool) (K:PySem.W.Frag) (a b:Addr):It:=⟨fun i H=>∃ xs ys x y,SqB t K H a xs/\SqB t K H b ys/\xs[i]?=some x/\ys[i]?=some y,fun i H v H'=>∃ T x y,H T=none/\v = .ref T/\H'=upd H T (.tup [x,y])/\(∀ xs,SqB t K H a xs->xs[i]?=some x)/\(∀ ys,SqB t K H b ys->ys[i]?=some y),fun i H=>∃ xs ys,SqB t K H a xs/\SqB t K H b ys/\(xs.length=i\/i < xs.length/\ys.length=i)⟩
theorem aGV {P:Program}{w:World}{K:PySem.W.Frag}{elts:List Expr}{kk:Nat}{tp:Pos} (t:Bool) (a b z TI TO i1 i2:Addr) (ap0:ZAp z TI TO i1 i2 [i1] [i2]) (hTT:TI≠TO/\TI≠i1/\TI≠i2) (hTab:a≠TO/\b≠TO) :
  Turn P w K (.Tuple elts kk tp) (Izb t K a b) [z,TI,TO,i1,i2] z (fun i h=>IsZip h z TI TO .none/\IsPair h TI (.ref i1) (.ref i2)/\(∃ a b,IsPair h TO a b)/\kF t h i1 a i/\kF t h i2 b i) where
 mem:=by simp
 obj:=fun i h st b hb=>by
  obtain ⟨hz,hTI,⟨a1,b1,hTO⟩,hi1,hi2⟩:=st
  obtain ⟨o1,ho1,hc1,hd1⟩:=hi1.get
  obtain ⟨o2,ho2,hc2,hd2⟩:=hi2.get
  simp only [List.mem_cons,List.not_mem_nil,or_false] at hb
  rcases hb with rfl | rfl | rfl | rfl | rfl
  ·exact ⟨_,hz,fun v q=>by cases q⟩
  ·exact ⟨_,hTI,fun v q=>by cases q⟩
  ·exact ⟨_,hTO,fun v q=>by cases q⟩
  ·exact ⟨o1,ho1,fun v q=>hd1 v q⟩
  ·exact ⟨o2,ho2,fun v q=>hd2 v q⟩
 keep:=fun i h h' st k=>by
  obtain ⟨hz,hTI,⟨a1,b1,hTO⟩,hi1,hi2⟩:=st
  exact ⟨k z (by simp) _ hz,k TI (by simp) _ hTI,⟨a1,b1,k TO (by simp) _ hTO⟩,hi1.keep (k i1 (by simp)),hi2.keep (k i2 (by simp))⟩
 item:=by
  intro X hP hw hK hc i pins s σ H E I hf st hg
  subst hP hw hK
  obtain ⟨hz,hTI,⟨a1,b1,hTO⟩,hi1,hi2⟩:=st
  obtain ⟨xs,ys,x,y,hqx,hqy,hx,hy⟩:=hg
  obtain ⟨itx,rvx,ptx⟩:=wV I hqx
  obtain ⟨ity,rvy,pty⟩:=wV I hqy
  obtain ⟨o1,ho1,hc1,hd1⟩:=hi1.get
  obtain ⟨o2,ho2,hc2,hd2⟩:=hi2.get
  have n1:∀ {a its},PlB t s.heap a its->a≠z/\a≠i1/\a≠i2:=fun hl=>⟨hl.ne hz ⟨by simp,by simp⟩,hl.ne ho1 hc1,hl.ne ho2 hc2⟩
  have na:=n1 ptx
  have nb:=n1 pty
  have ap:ZAp z TI TO i1 i2 [i1,a] [i2,b]:=⟨ap0.TIz,ap0.TOz,ap0.i1z,ap0.i2z,ap0.TOi1,ap0.TOi2,ap0.i12,
   fun c hc=>by
    rcases List.mem_cons.mp hc with rfl | hc
    ·exact ap0.f1 _ (by simp)
    ·rw [List.mem_singleton] at hc; subst hc; exact ⟨na.1,hTab.1,na.2.2⟩,
   fun c hc=>by
    rcases List.mem_cons.mp hc with rfl | hc
    ·exact ap0.f2 _ (by simp)
    ·rw [List.mem_singleton] at hc; subst hc; exact ⟨nb.1,hTab.2,nb.2.1⟩⟩
  have D1:=vA (t:=t) (prog:=X.prog) (w:=X.w) (A:=X.A.in1) (I.ok.hd hc) i1 a na.2.1 itx.toArray
  have D2:=vA (t:=t) (prog:=X.prog) (w:=X.w) (A:=X.A.in1) (I.ok.hd hc) i2 b nb.2.2 ity.toArray
  have l1:i < itx.toArray.size:=by rw [List.size_toArray,<- rvx.length]; exact (zGs hx).1
  have l2:i < ity.toArray.size:=by rw [List.size_toArray,<- rvy.length]; exact (zGs hy).1
  refine aBL D1 D2 ap hz hTI hTO ⟨hi1,ptx⟩ ⟨hi2,pty⟩ l1 l2 fun p q h1 tk hp hq hz1 hTO1 hs1 hs2 hT hsz hk => ?_
  obtain ⟨u,hu,ru⟩:=rvx.get hx
  obtain ⟨v,hv,rv⟩:=rvy.get hy
  have ep:p=u:=by
   have e3:itx[i]?=some p:=by simpa using hp
   rw [hu] at e3; exact (Option.some.inj e3).symm
  have eq:q=v:=by
   have e3:ity[i]?=some q:=by simpa using hq
   rw [hv] at e3; exact (Option.some.inj e3).symm
  subst ep eq
  refine ⟨_,rfl,wpAny_letOwnedTupleGo_zip hz1 fun h2 hz2 hs => ?_⟩
  have lz:=Heap.lt_size hz
  have lTO:=Heap.lt_size hTO
  have lTI:=Heap.lt_size hTI
  have li1:=Heap.lt_size ho1
  have li2:=Heap.lt_size ho2
  have up:∀ b o,b≠z->h1.get? b=some o->h2.get? b=some o:=fun b o n e=>hs.extBut _ _ n e
  have tup2:h2.get? s.heap.objs.size=some { cls := .type "tuple", data := .seq #[p,q] }:=up _ _ (Nat.ne_of_gt lz) hT
  have k2:∀ b ob,b ∉ [z,TI,TO,i1,i2]->s.heap.get? b=some ob->h2.get? b=some ob:=fun b ob hb q=>by
   simp only [List.mem_cons,List.not_mem_nil,or_false,not_or] at hb
   exact up b ob hb.1 (hk b ob hb.1 hb.2.2.1 hb.2.2.2.1 hb.2.2.2.2 q)
  have I2:Inv X pins σ (upd H s.heap.objs.size (.tup [x,y])) { s with heap:=h2,toks:=tk }:=I.turnedT k2 hf (Nat.le_refl _) ⟨(show 2<=sizeLine by decide),[p,q], .cons ru (.cons rv .nil),_,tup2,rfl,0,rfl⟩
  have hn:H s.heap.objs.size=none:=I.hok.fresh (Nat.le_refl _)
  refine ⟨.ref s.heap.objs.size,_,I2,rfl,⟨s.heap.objs.size,x,y,hn,rfl,rfl,fun xs' q'=>by rw [injB I q' hqx]; exact hx,fun ys' q'=>by rw [injB I q' hqy]; exact hy⟩,⟨hz2,up _ _ ap.TIz (hk _ _ ap.TIz hTT.1 hTT.2.1 hTT.2.2 hTI),⟨_,_,up _ _ ap.TOz hTO1⟩,?_,?_⟩,fun b hb => ?_⟩
  ·exact hs1.1.keep (fun o=>up _ _ ap.i1z)
  ·exact hs2.1.keep (fun o=>up _ _ ap.i2z)
  ·rw [bF (fun e => ?_)]
   ·exact (hf b hb).1
   ·simp only [List.mem_cons,List.not_mem_nil,or_false] at hb
    rcases hb with y | y | y | y | y <;> rw [y] at e
    ·exact absurd e (Nat.ne_of_lt lz)
    ·exact absurd e (Nat.ne_of_lt lTI)
    ·exact absurd e (Nat.ne_of_lt lTO)
    ·exact absurd e (Nat.ne_of_lt li1)
    ·exact absurd e (Nat.ne_of_lt li2)
 done:=by
  intro X hP hw hK hc i pins s σ H E I hf st hg
  subst hP hw hK
  obtain ⟨hz,hTI,⟨a1,b1,hTO⟩,hi1,hi2⟩:=st
  obtain ⟨xs,ys,hqx,hqy,hlt⟩:=hg
  obtain ⟨itx,rvx,ptx⟩:=wV I hqx
  obtain ⟨ity,rvy,pty⟩:=wV I hqy
  obtain ⟨o1,ho1,hc1,hd1⟩:=hi1.get
  obtain ⟨o2,ho2,hc2,hd2⟩:=hi2.get
  have n1:∀ {a its},PlB t s.heap a its->a≠z/\a≠i1/\a≠i2:=fun hl=>⟨hl.ne hz ⟨by simp,by simp⟩,hl.ne ho1 hc1,hl.ne ho2 hc2⟩
  have na:=n1 ptx
  have nb:=n1 pty
  have ap:ZAp z TI TO i1 i2 [i1,a] [i2,b]:=⟨ap0.TIz,ap0.TOz,ap0.i1z,ap0.i2z,ap0.TOi1,ap0.TOi2,ap0.i12,
   fun c hc=>by
    rcases List.mem_cons.mp hc with rfl | hc
    ·exact ap0.f1 _ (by simp)
    ·rw [List.mem_singleton] at hc; subst hc; exact ⟨na.1,hTab.1,na.2.2⟩,
   fun c hc=>by
    rcases List.mem_cons.mp hc with rfl | hc
    ·exact ap0.f2 _ (by simp)
    ·rw [List.mem_singleton] at hc; subst hc; exact ⟨nb.1,hTab.2,nb.2.1⟩⟩
  have D1:=vA (t:=t) (prog:=X.prog) (w:=X.w) (A:=X.A.in1) (I.ok.hd hc) i1 a na.2.1 itx.toArray
  have D2:=vA (t:=t) (prog:=X.prog) (w:=X.w) (A:=X.A.in1) (I.ok.hd hc) i2 b nb.2.2 ity.toArray
  rcases hlt with hlen | ⟨hlt,hlen⟩
  ·have hn:itx.toArray.size=i:=by rw [List.size_toArray,<- rvx.length]; exact hlen
   subst hn
   refine aEL D1 ap hz hTI ⟨hi1,ptx⟩ fun h2 hx=>⟨rfl,I.turnedL (t':=s.toks) (ch:=[z,i1]) (fun b ob hb q=>hx b ob (fun e=>hb (by simp [e])) (fun e=>hb (by simp [e])) q) fun b hb=>hf b ?_⟩
   simp only [List.mem_cons,List.not_mem_nil,or_false] at hb
   rcases hb with y | y <;> rw [y] <;> simp
  have l1:i < itx.toArray.size:=by rw [List.size_toArray,<- rvx.length]; exact hlt
  have hn:ity.toArray.size=i:=by rw [List.size_toArray,<- rvy.length]; exact hlen
  subst hn
  refine aBO D1 D2 ap hz hTI hTO ⟨hi1,ptx⟩ l1 ⟨hi2,pty⟩ fun h2 tk hx=>⟨rfl,I.turnedL (t':=tk) (ch:=[z,TO,i1,i2]) (fun b ob hb q=>hx b ob (fun e=>hb (by simp [e])) (fun e=>hb (by simp [e])) (fun e=>hb (by simp [e])) (fun e=>hb (by simp [e])) q) fun b hb=>hf b ?_⟩
  simp only [List.mem_cons,List.not_mem_nil,or_false] at hb
  rcases hb with y | y | y | y <;> rw [y] <;> simp
 self:=fun A i s Q E st h=>wpAny_pyIter_zip st.1 h
def aQ1 (t:Bool) (K:PySem.W.Frag) (ta:TA):TI:=fun σ H R=>ta σ H fun vs H1=>∃ a b xs ys,vs=[.ref a, .ref b]/\SqB t K H1 a xs/\SqB t K H1 b ys/\R (Izb t K a b) H1
theorem aCI (t:Bool) {elts:List Expr}{kk:Nat}{tp:Pos}{a b:Expr}{ta:TA}{p pos:Pos} (hg:Gl X "zip") (hm:X.mg "zip" = none) (hv:bootBuiltins "zip" = some (.type "zip")) (ha:PA X [a,b] ta) (hs:starEach [a,b] X.env=[(false,eval a X.env),(false,eval b X.env)]:=by rfl) (hs2:starEach [b] X.env=[(false,eval b X.env)]:=by rfl) :
  PI X (.Tuple elts kk tp) (.Call (.Name "zip" p) [a,b] [] pos) (aQ1 t X.K ta):=by
 intro pins s σ H R I h
 refine Call_ (kP I hg hm hv (PyProof.Rows.callWith_type1 (thn (ha pos pins s σ H _ I h) fun us s1 ⟨vs,H1,I1,r1,q1⟩ => ?_) (by rw [hs,hs2]) (by rw [hs2]; rfl)))
 obtain ⟨c,d,xs,ys,e,hqx,hqy,q⟩:=q1
 subst e
 obtain ⟨v1,v2,rfl,ru1,ru2⟩:=vals2 r1
 cases ru1
 cases ru2
 obtain ⟨itx,rvx,ptx⟩:=wV I1 hqx
 obtain ⟨ity,rvy,pty⟩:=wV I1 hqy
 have ltn:∀ {a its},PlB t s1.heap a its->a≠s1.heap.objs.size+3:=fun hl=>by
  obtain ⟨o,e⟩:=hl.ex
  exact Nat.ne_of_lt (Nat.lt_add_right 3 (Heap.lt_size e))
 refine aE9 ptx pty fun h' hz hTI hTO h1 h2 hsz hk => ?_
 have I2:Inv X pins σ H1 { s1 with heap:=h' }:=I1.kept (t':=s1.toks) hk
 refine wpAny_pyIter_zip hz ?_
 refine ⟨_,[s1.heap.objs.size+4,s1.heap.objs.size+2,s1.heap.objs.size+3,s1.heap.objs.size,s1.heap.objs.size+1],_,Izb t X.K c d,H1,rfl,I2,aGV t c d (s1.heap.objs.size+4) (s1.heap.objs.size+2) (s1.heap.objs.size+3) s1.heap.objs.size (s1.heap.objs.size+1) (aKM _) (aHK _) ⟨ltn ptx,ltn pty⟩,⟨hz,hTI,⟨_,_,hTO⟩,h1,h2⟩,fun c hc => ?_,q⟩
 have hle:s1.heap.objs.size<=c:=by
  simp only [List.mem_cons,List.not_mem_nil,or_false] at hc
  rcases hc with h | h | h | h | h <;> rw [h] <;> first | exact Nat.le_refl _ | exact Nat.le_add_right _ _
 exact I1.fpOk hle (I1.hok.fresh hle)
end
end L2
namespace Z
open PySem L2
section
variable {X:Cx}{Γ:Gm}{M:Mem}{k:D->Mem->Prop}{pos:Pos}{a b:Expr}{rest:List Expr}
theorem aCN {t:Bool}{K:Fg}{a b:Addr}{vs us:List V}{ds es:List D}{G0:Hp} (s1:SqB t K G0 a vs) (d1:Dens K G0 ds vs) (s2:SqB t K G0 b us) (d2:Dens K G0 es us) (hl:ds.length=es.length\/ds.length=es.length+1):YD K (Izb t K a b) (jZ ds es) G0 where
 go:=fun i G H M sg rl h=>by
  unfold jZ at h
  rw [zLm,List.length_zip] at h
  have h1:=d1.len
  have h2:=d2.len
  exact ⟨vs,us,vs[i]'(by omega),us[i]'(by omega),sqB rl.same (sqB sg s1),sqB rl.same (sqB sg s2),zGe _,zGe _⟩
 yld:=fun i G H M v H' sg rl h z=>by
  obtain ⟨T,x,y,hT,rfl,rfl,hx,hy⟩:=z
  obtain ⟨c,hc,ec⟩:=d1.get' (hx vs (sqB rl.same (sqB sg s1)))
  obtain ⟨d,hd,ed⟩:=d2.get' (hy us (sqB rl.same (sqB sg s2)))
  have st:=rl.new (o := .tup [x,y]) hT
  refine ⟨_, .tup [c,d],st,?_,iH (SqT.of bQ) (cB ((ec.up sg).up st.gg) (cB ((ed.up sg).up st.gg) dB))⟩
  unfold jZ
  have e:(ds.zip es)[i]?=some (c,d):=List.getElem?_zip_eq_some.mpr ⟨hc,hd⟩
  rw [List.getElem?_map,e]
  rfl
 stop:=fun i G H M sg rl h=>by
  unfold jZ at h
  rw [zLm,List.length_zip] at h
  have h1:=d1.len
  have h2:=d2.len
  exact ⟨vs,us,sqB rl.same (sqB sg s1),sqB rl.same (sqB sg s2),by omega⟩
theorem aMV {elts:List Expr}{kk:Nat}{tp p:Pos}{ki:List D->Mem->Prop} (hm:X.mg "zip" = none) (hv:bootBuiltins "zip" = some (.type "zip")) (h:GA X [a,b] Γ M fun ds M1=>∃ xs ys,ds=[.lst xs, .lst ys]/\xs.length=ys.length+1/\ki (jZ xs ys) M1) (hg:Gl X "zip" := by rfl)
  (hs:starEach [a,b] X.env=[(false,eval a X.env),(false,eval b X.env)]:=by rfl) (hs2:starEach [b] X.env=[(false,eval b X.env)]:=by rfl) :
  GI X (.Tuple elts kk tp) (.Call (.Name "zip" p) [a,b] [] pos) Γ M ki:=fun σ G H Rr en rl q=>by
 refine kM (aCI false hg hm hv pUA hs hs2) ?_
 refine h σ G H _ en rl fun vs G1 H1 ds M1 s1 e1 ⟨xs,ys,ed,hl,h1⟩ => ?_
 subst ed
 obtain ⟨v,u,rfl,dv,du⟩:=dens2 e1
 obtain ⟨c,vs,ev,sv,dn⟩:=dv.lst_
 obtain ⟨d,us,eu,su,dm⟩:=du.lst_
 exact ⟨c,d,vs,us,by rw [ev,eu],SqL.of (s1.rel.same _ _ sv),SqL.of (s1.rel.same _ _ su),q _ _ _ _ _ s1 (aCN (t:=false) (SqL.of sv) dn (SqL.of su) dm (.inr hl)) h1⟩
theorem aL7 {elts:List Expr}{kk:Nat}{tp p:Pos}{ki:List D->Mem->Prop} (hm:X.mg "zip" = none) (hv:bootBuiltins "zip" = some (.type "zip")) (h:GA X [a,b] Γ M fun ds M1=>∃ xs ys,ds=[.tup xs, .tup ys]/\xs.length=ys.length/\ki (jZ xs ys) M1) (hg:Gl X "zip" := by rfl)
  (hs:starEach [a,b] X.env=[(false,eval a X.env),(false,eval b X.env)]:=by rfl) (hs2:starEach [b] X.env=[(false,eval b X.env)]:=by rfl) :
  GI X (.Tuple elts kk tp) (.Call (.Name "zip" p) [a,b] [] pos) Γ M ki:=fun σ G H Rr en rl q=>by
 refine kM (aCI true hg hm hv pUA hs hs2) ?_
 refine h σ G H _ en rl fun vs G1 H1 ds M1 s1 e1 ⟨xs,ys,ed,hl,h1⟩ => ?_
 subst ed
 obtain ⟨v,u,rfl,dv,du⟩:=dens2 e1
 obtain ⟨c,vs,ev,sv,dn⟩:=dv.tup_
 obtain ⟨d,us,eu,su,dm⟩:=du.tup_
 exact ⟨c,d,vs,us,by rw [ev,eu],R.eG s1.rel.same sv,R.eG s1.rel.same su,q _ _ _ _ _ s1 (aCN (t:=true) sv dn su dm (.inl hl)) h1⟩
end
end Z
namespace Q
open PySem L2 Z
open U
section
variable {P:Program}{w:World}{K:PySem.W.Frag}{mg:Str->Option Value}{z:Heap}{f:Addr}{fd:FuncData}
theorem aDO:FnScope zl4 zl4 (aP n9):=zSc
abbrev qO (P w K mg z):=Fo P w K mg z "_law_between" n9 zl4 3 aI5
theorem aEE (Df:R.Df K mg "_law_between" n9 zl4 f fd) (aRC:aG0 P w K mg z) (T:Bt mg):qO P w K mg z:=by
 refine ⟨f,fd,Df,a9 Df aDO (fun ds M k h=>?_) (fun _ _ _ _ _ _ hr ds M k h=>?_)⟩
 ·obtain ⟨a,b,i,j,rfl,_⟩:=h; rfl
 obtain ⟨a,b,i,j,rfl,sa,sb,pr,hk⟩:=h
 refine aK (aR (c5 cY T.tuple R.BT (aA (aEX ["_law_part_here"] [2] (aL7 T.zip PyProof.Rows.boot_zip (aA (aB 0 rfl (aA (aB 1 rfl (aC ⟨_,_,rfl,rfl,(aNX (R.bG (show 3<=1000000 by decide)) (fun d hd=>zN hd) (fun q acc M1=>M1=M/\acc=[aL (bB (Rat.divInt i j) a.1 b.1),aL (bB (Rat.divInt i j) a.2.1 b.2.1),aL (bB (Rat.divInt i j) a.2.2 b.2.2)].take q) ⟨rfl,rfl⟩ ?_ ?_)⟩))))))))))
 ·rintro q d1 d2 acc M1 hd ⟨rfl,rfl⟩ _ _ _ _ _
  obtain ⟨u,v,rfl,rfl,su,sv,ev⟩:=zip3 hd sa sb (Rat.divInt i j)
  exact bY (bU fun _ _ _ _ _=>(aJ aRC hr (aA (aB 0 rfl (aA (aB 1 rfl (aA (aB 2 rfl (aC ⟨u,v,i,j,rfl,su,sv,pr,⟨rfl,ev.symm⟩⟩)))))))))
 rintro acc M1 ⟨rfl,rfl⟩
 exact aC (fZ (.lst _) hk)
theorem aNQ:FnScope zl28 zl28 (aP yG):=zSc
abbrev aKC (P w K mg z):=Fo P w K mg z "_law_pen" yG zl28 1 cPen
theorem aPF (Df:R.Df K mg "_law_pen" yG zl28 f fd):aKC P w K mg z:=by
 refine ⟨f,fd,Df,a9 Df aNQ (fun ds M k h=>?_) (fun _ _ _ _ _ _ hr ds M k h=>?_)⟩
 ·obtain ⟨ns,rfl,_⟩:=h; rfl
 obtain ⟨ns,rfl,hk⟩:=h
 exact aK (aR (iF (aA (aB 0 rfl (aA (z6 (aA (z6 (aC ⟨(show 3<=sizeLine by decide),fun p hp=>(hk p _ hp ((Le.refl _).upd hp) ⟨ns,0,0,aS,by omega,by omega,by omega⟩)⟩)))))))))
theorem jS:FnScope ["_law_pen_here", "_law_many", "_law_digit", "_law_place", "_law_cell", "_law_mixed"] zl8 (aP vC):=zSc
abbrev jH (P w K mg z):=Fo P w K mg z "_law_draw" vC zl8 1 aQA
theorem aKS (Df:R.Df K mg "_law_draw" vC zl8 f fd) (T:Bt mg):jH P w K mg z:=by
 refine ⟨f,fd,Df,a9 Df jS (fun ds M k h=>?_) (fun _ _ _ _ _ _ hr ds M k h=>?_)⟩
 ·obtain ⟨p,n,b,rfl,_⟩:=h; rfl
 obtain ⟨p,n,b,rfl,hn,hn2,⟨ns,st,g,hM,hs,hs2,hg⟩,hb,hk⟩:=h
 refine aE (bK (bC pP (aG aD (aB 0 rfl (z6 (aH (.mt hM) rfl (z6 (eQ ⟨_,rfl,(ite2 (fun hgt => ?_) (fun hgt=>bA ?_))⟩))))))))
 ·exact aE (aQ 2 jS.nd (aM dF (aG aD (aB 0 rfl (z6 (aH (.mt hM) rfl (aB 1 rfl (aZ (show (0:Int) < _ by first | decide | omega) (aE (mS (aM sG (aG aD (aB 0 rfl (z6 (aH (.mt hM) rfl (aB 1 rfl (aZ ⟨hn,hn2⟩ (aAK (aB 0 rfl (z6 ⟨p,2,2,_,rfl,rfl,hM,rfl,(aK (aR (aB 2 rfl (hk _ _ (Int.emod_nonneg _ (by omega)) (Int.emod_lt_of_pos _ hn) ⟨ns,st,_,aS,hs,by omega,Int.ediv_nonneg hg (by omega)⟩ (cH.refl p M).upd (fun a ha=>dS ha)))))⟩))))))))))))))))))))
 refine aE (aQ 3 jS.nd (aG aD (aB 0 rfl (z6 (aH (.mt hM) rfl (aE (mS (aM cF (aB 3 rfl (z6 (bM (aAK (aB 0 rfl (z6 ⟨p,1,1,_,rfl,rfl,hM,rfl,(aE (aQ 4 jS.nd (z6 (aE (oV (fun Γ' M'=>M'=b7 M p (.lst [.fl (ns.map .int), .int (st+1), .int g])/\∃ c:Int,Γ'=[some (.mt p),some (.int n),none,some (.int st),some (.int c),none]) ?_ ?_)))))⟩))))))))))))))
 ·refine bK (bC pP (aW bJ T.len PySem.boot_len (aA (aG aD (aB 0 rfl (z6 (aH (.mt aS) rfl (aC (cL (.fl _) (z6 (eQ ⟨_,rfl,(ite2 (fun hb1 => ?_) (fun hb1=>bA ⟨rfl,_,rfl⟩))⟩)))))))))))
  have hb':=of_decide_eq_true hb1
  have hb2:(0:Int) < (ns.length:Int):=by rw [zLm] at hb'; exact hb'
  obtain ⟨z,hz⟩:=aHV (ns:=ns) (k:=st % (ns.length:Int)) (Int.emod_nonneg _ (by omega)) (Int.emod_lt_of_pos _ hb2)
  exact aK (aQ 4 jS.nd (aG aD (aG aD (aB 0 rfl (z6 (aH (.mt aS) rfl (aM dF (aB 3 rfl (aW bJ T.len PySem.boot_len (aA (aG aD (aB 0 rfl (z6 (aH (.mt aS) rfl (aC (cL (.fl _) (aZ hb' (aH (.fl _) (by rw [zLm]; exact hz) ⟨rfl,_,rfl⟩))))))))))))))))))
 rintro Γ' M' ⟨rfl,c,rfl⟩
 refine aE (bK (aPB (P:=fun _ M1=>M1=b7 M p (.lst [.fl (ns.map .int), .int (st+1), .int g])) (f7 (kL ?_)) ?_))
 ·refine bC j6 (aB 3 rfl (aW bJ T.len PySem.boot_len (aA (aG aD (aB 0 rfl (z6 (aH (.mt aS) rfl (aC (cL (.fl _) (eQ ⟨_,rfl,(ite2 (fun h1=>oN (bC aC7 (aW mB T.abs PyProof.Rows.boot_abs (aA (aB 4 rfl (aC (qV (aM mO (z6 (z6 (aZ ⟨by decide,by decide,by decide⟩ (eQ ⟨_,rfl,?_⟩)))))))))))) (fun h1=>rfl))⟩))))))))))
  rfl
 rintro c2 M1 rfl
 refine ite2 (fun hgt => ?_) (fun hgt=>bA ?_)
 ·exact aE (mS (aM sG (aW mB T.abs PyProof.Rows.boot_abs (aA (aB 4 rfl (aC (qV (aB 1 rfl (aZ ⟨hn,hn2⟩ (aAK (aB 0 rfl (z6 ⟨p,2,2,_,rfl,rfl,aS,rfl,(aK (aR (aM dF (aW mB T.abs PyProof.Rows.boot_abs (aA (aB 4 rfl (aC (qV (aB 1 rfl (aZ hn (hk _ _ (Int.emod_nonneg _ (by omega)) (Int.emod_lt_of_pos _ hn) ⟨ns,st+1,_,aS,by omega,by omega,Int.ediv_nonneg (by split <;> omega) (by omega)⟩ (cH.refl p M).upd.upd (fun a ha=>(dS ha).trans (dS ha)))))))))))))⟩))))))))))))
 refine aE (aQ 5 jS.nd (aM dF (aM fD (aM cF (aM cF (aM dF (aB 4 rfl (z6 (aZ (show (0:Int) < _ by first | decide | omega) (aM fD (z6 (aB 3 rfl (aZ (.inl ⟨by decide,by decide⟩) (bM (z6 (bM (z6 (aZ (.inr ⟨by decide,by decide⟩) (z6 (aZ (show (0:Int) < _ by first | decide | omega) (aE (aQ 5 jS.nd (aM dF (aM fD (aB 5 rfl (aM cF (aM cF (aM dF (aB 5 rfl (z6 (aZ (show (0:Int) < _ by first | decide | omega) (aM fD ?_))))))))))))))))))))))))))))))))
 exact z6 (aB 3 rfl (aZ (.inl ⟨by decide,by decide⟩) (bM (z6 (bM (aZ (.inl (R.aFC _ (by decide) (by decide))) (z6 (aZ (show (0:Int) < _ by first | decide | omega) (aK (aR (aM dF (aM sG (aB 5 rfl (z6 (aZ ⟨by decide,by decide⟩ (aB 1 rfl (aZ hn (hk _ _ (Int.emod_nonneg _ (by omega)) (Int.emod_lt_of_pos _ hn) ⟨ns,st+1,g,aS,by omega,by omega,hg⟩ (cH.refl p M).upd (fun a ha=>dS ha)))))))))))))))))))
theorem qR:FnScope ["top", "bottom", "divisor"] zl21 (aP pE):=zSc
abbrev jX (P w K mg z):=Fo P w K mg z "lowest" pE zl21 2 aK3
theorem aGM (Df:R.Df K mg "lowest" pE zl21 f fd) (aRD:mQ P w K mg z):jX P w K mg z:=by
 refine ⟨f,fd,Df,a9 Df qR (fun ds M k h=>?_) (fun _ _ _ _ _ _ hr ds M k h=>?_)⟩
 ·obtain ⟨a,b,rfl,_⟩:=h; rfl
 obtain ⟨a,b,rfl,hb0,hbb,hk⟩:=h
 have hg:Int.gcd a b≠0:=fun e=>hb0 (Int.gcd_eq_zero_iff.mp e).2
 have hgl:Int.gcd a b<=b.natAbs:=Nat.le_of_dvd (by omega) (Int.gcd_dvd_natAbs_right a b)
 have hd:dv a b≠0/\(dv a b).natAbs < big:=by
  refine ⟨by unfold dv; split <;> omega,Nat.lt_of_lt_of_le (show (dv a b).natAbs < 10 ^ 1000 from ?_) (by unfold big; decide)⟩
  have:(dv a b).natAbs=Int.gcd a b:=by unfold dv; split <;> omega
  omega
 refine aE (aQ 2 qR.nd (aJ aRD hr (aA (aB 0 rfl (aA (aB 1 rfl (aC ⟨a,b,rfl,(aE (oV (fun Γ' M'=>M'=M/\Γ'=[some (.int a),some (.int b),some (.int (dv a b))]) (bK ?_) ?_))⟩)))))))
 ·refine bC j6 (aB 1 rfl (z6 (eQ ⟨_,rfl,(ite2 (fun hb => ?_) (fun hb => ?_))⟩)))
  ·have:=of_decide_eq_true hb
   exact aK (aQ 2 qR.nd (gA eN (aB 2 rfl ⟨_,rfl,⟨rfl,by unfold dv; rw [if_pos this]; rfl⟩⟩)))
  ·have:¬ b < 0:=fun z=>hb (decide_eq_true z)
   exact bA ⟨rfl,by unfold dv; rw [if_neg this]; rfl⟩
 rintro Γ' M' ⟨rfl,rfl⟩
 exact aK (aR (bV (aA (aM pL (aB 0 rfl (aB 2 rfl (aZ hd (aA (aM pL (aB 1 rfl (aB 2 rfl (aZ hd (aC ⟨(show 2<=sizeLine by decide),hk⟩)))))))))))))
theorem aBD:FnScope zl21 zl21 (aP lE):=zSc
abbrev lN (P w K mg z):=Fo P w K mg z "fraction" lE zl21 3 aG5
theorem aA4 (Df:R.Df K mg "fraction" lE zl21 f fd) (aRE:pI P w K mg z) (aRF:jX P w K mg z):lN P w K mg z:=by
 refine ⟨f,fd,Df,a9 Df aBD (fun ds M k h=>?_) (fun _ _ _ _ _ _ hr ds M k h=>?_)⟩
 ·obtain ⟨a,b,rfl,_⟩:=h; rfl
 obtain ⟨a,b,rfl,hb0,hbb,hk⟩:=h
 refine aE (bK (f7 (gU (c6 (b4 (aJ aRE hr (aA (aB 0 rfl (aC ⟨_,rfl,trivial,⟨_,rfl,(b5 (iU (c6 (b4 (aJ aRE hr (aA (aB 1 rfl (aC ⟨_,rfl,trivial,⟨_,rfl,(b5 (bA (aE (bK (bC iG (aB 1 rfl (z6 (iB ⟨_,rfl,(ite2 (fun hb=>absurd (of_decide_eq_true hb) (by omega)) (fun _=>bA (aK (aR (aJ aRF hr (aA (aB 0 rfl (aA ?_))))))))⟩))))))))⟩⟩))))))))⟩⟩)))))))))
 exact aB 1 rfl (aC ⟨a,b,rfl,hb0,hbb,hk⟩)
theorem aMM:FnScope zl26 zl26 (aP vX):=zSc
abbrev aAS (P w K mg z):=Fo P w K mg z "plus" vX zl26 3 aOH
theorem aLE (Df:R.Df K mg "plus" vX zl26 f fd) (aRF:jX P w K mg z):aAS P w K mg z:=by
 refine ⟨f,fd,Df,a9 Df aMM (fun ds M k h=>?_) (fun _ _ _ _ _ _ hr ds M k h=>?_)⟩
 ·obtain ⟨p,q,rfl,_⟩:=h; rfl
 obtain ⟨p,q,rfl,hp,hq,hk⟩:=h
 obtain ⟨h1,h2⟩:=aAD hp.g hq.g
 unfold aL at hk
 rw [<- aKP] at hk
 exact aK (aR (aJ aRF hr (aA (aM cF (aM bW (aG aD (aB 0 rfl (z6 (aH (.tup _) rfl (aG aD (aB 1 rfl (z6 (aH (.tup _) rfl (aZ ⟨big400 hp.g.a,big400 hq.g.b⟩ (aM bW (aG aD (aB 1 rfl (z6 (aH (.tup _) rfl (aG aD (aB 0 rfl (z6 (aH (.tup _) rfl (aZ ⟨big400 hq.g.a,big400 hp.g.b⟩ (bM (aA (aM bW (aG aD (aB 0 rfl (z6 (aH (.tup _) rfl (aG aD (aB 1 rfl (z6 (aH (.tup _) rfl (aZ ⟨big400 hp.g.b,big400 hq.g.b⟩ (aC ⟨_,_,rfl,h1,h2,hk⟩)))))))))))))))))))))))))))))))))))))
theorem aHS:FnScope zl26 zl26 (aP rL):=zSc
abbrev oH (P w K mg z):=Fo P w K mg z "minus" rL zl26 3 aLB
theorem aH6 (Df:R.Df K mg "minus" rL zl26 f fd) (aRF:jX P w K mg z):oH P w K mg z:=by
 refine ⟨f,fd,Df,a9 Df aHS (fun ds M k h=>?_) (fun _ _ _ _ _ _ hr ds M k h=>?_)⟩
 ·obtain ⟨p,q,rfl,_⟩:=h; rfl
 obtain ⟨p,q,rfl,hp,hq,hk⟩:=h
 obtain ⟨h1,h2⟩:=aAD hp.g hq.g
 unfold aL at hk
 rw [<- aJ1] at hk
 exact aK (aR (aJ aRF hr (aA (aM bR (aM bW (aG aD (aB 0 rfl (z6 (aH (.tup _) rfl (aG aD (aB 1 rfl (z6 (aH (.tup _) rfl (aZ ⟨big400 hp.g.a,big400 hq.g.b⟩ (aM bW (aG aD (aB 1 rfl (z6 (aH (.tup _) rfl (aG aD (aB 0 rfl (z6 (aH (.tup _) rfl (aZ ⟨big400 hq.g.a,big400 hp.g.b⟩ (bM (aA (aM bW (aG aD (aB 0 rfl (z6 (aH (.tup _) rfl (aG aD (aB 1 rfl (z6 (aH (.tup _) rfl (aZ ⟨big400 hp.g.b,big400 hq.g.b⟩ (aC ⟨_,_,rfl,h1,h2,hk⟩)))))))))))))))))))))))))))))))))))))
theorem aHL:FnScope zl26 zl26 (aP rR):=zSc
abbrev wN (P w K mg z):=Fo P w K mg z "times" rR zl26 3 aKK
theorem aIG (Df:R.Df K mg "times" rR zl26 f fd) (aRF:jX P w K mg z):wN P w K mg z:=by
 refine ⟨f,fd,Df,a9 Df aHL (fun ds M k h=>?_) (fun _ _ _ _ _ _ hr ds M k h=>?_)⟩
 ·obtain ⟨p,q,rfl,_⟩:=h; rfl
 obtain ⟨p,q,rfl,hp,hq,hk⟩:=h
 obtain ⟨h1,h2⟩:=aAD hp.g hq.g
 unfold aL at hk
 rw [<- aIB] at hk
 exact aK (aR (aJ aRF hr (aA (aM bW (aG aD (aB 0 rfl (z6 (aH (.tup _) rfl (aG aD (aB 1 rfl (z6 (aH (.tup _) rfl (aZ ⟨big400 hp.g.a,big400 hq.g.a⟩ (aA (aM bW (aG aD (aB 0 rfl (z6 (aH (.tup _) rfl (aG aD (aB 1 rfl (z6 (aH (.tup _) rfl (aZ ⟨big400 hp.g.b,big400 hq.g.b⟩ (aC ⟨_,_,rfl,h1,h2,hk⟩)))))))))))))))))))))))))
theorem aKV:FnScope zl27 zl27 (aP vF):=zSc
abbrev zS (P w K mg z):=Fo P w K mg z "gone" vF zl27 5 aP3
theorem aNG (Df:R.Df K mg "gone" vF zl27 f fd) (aRG:wN P w K mg z) (aRH:lN P w K mg z):zS P w K mg z:=by
 refine ⟨f,fd,Df,a9 Df aKV (fun ds M k h=>?_) (fun _ _ _ _ _ _ hr ds M k h=>?_)⟩
 ·obtain ⟨p,t,rfl,_⟩:=h; rfl
 obtain ⟨p,t,rfl,hp,ht,hk⟩:=h
 have hpq:Bq (p:Rat):=⟨Nat.lt_of_lt_of_le hp (by decide +kernel),by show 1 < _; exact Nat.one_lt_pow (by decide) (by decide)⟩
 refine aK (aR (aJ aRG hr (aA (aJ aRH hr (aA (aB 0 rfl (aA (z6 (aC ⟨p,1,rfl,by decide,Nat.one_lt_pow (by decide) (by decide),?_⟩)))))))))
 rw [l7 p 1 (by decide),wK]
 exact aA (aB 1 rfl (aC ⟨_,_,rfl,hpq,ht,hk⟩))
theorem aAG:FnScope zl12 zl12 (aP kB):=zSc
abbrev j9 (P w K mg z):=Fo P w K mg z "box_edges" kB zl12 6 aNV
theorem aAA (Df:R.Df K mg "box_edges" kB zl12 f fd) (aRI:zS P w K mg z) (aRJ:oH P w K mg z) (aRK:aAS P w K mg z):j9 P w K mg z:=by
 refine ⟨f,fd,Df,a9 Df aAG (fun ds M k h=>?_) (fun _ _ _ _ _ _ hr ds M k h=>?_)⟩
 ·obtain ⟨e,n,w,s,x,y,t,rfl,_⟩:=h; rfl
 obtain ⟨e,n,w,s,x,y,t,rfl,o,sx,sy,ht,hk⟩:=h
 refine aK (aR (bV (aA (aJ aRJ hr (aA (aB 1 rfl (aA (aJ aRI hr (aA (aG aD (aB 0 rfl (z6 (aH (.tup _) rfl (aA (aB 3 rfl (aC ⟨_,_,rfl,by have:=o.p.a; have:=o.p.b; omega,ht.bq (by decide),(aC ⟨_,_,rfl,sx.bq (by decide),(ht.mulI o.p).bq (by decide),(aA (aJ aRJ hr (aA (aB 2 rfl (aA (aJ aRI hr (aA (aG aD (aB 0 rfl (z6 (aH (.tup _) rfl (aA ?_))))))))))))⟩)⟩))))))))))))))))
 refine aB 3 rfl (aC ⟨_,_,rfl,by have:=o.q.a; have:=o.q.b; omega,ht.bq (by decide),(aC ⟨_,_,rfl,sy.bq (by decide),(ht.mulI o.q).bq (by decide),(aA (aJ aRK hr (aA (aB 1 rfl (aA (aJ aRI hr (aA (aG aD (aB 0 rfl (z6 (aH (.tup _) rfl (aA (aB 3 rfl (aC ⟨_,_,rfl,by have:=o.r.a; have:=o.r.b; omega,ht.bq (by decide),(aC ⟨_,_,rfl,sx.bq (by decide),(ht.mulI o.r).bq (by decide),(aA (aJ aRK hr (aA (aB 2 rfl (aA (aJ aRI hr (aA (aG aD (aB 0 rfl ?_)))))))))⟩)⟩))))))))))))))⟩)⟩)
 exact z6 (aH (.tup _) rfl (aA (aB 3 rfl (aC ⟨_,_,rfl,by have:=o.s.a; have:=o.s.b; omega,ht.bq (by decide),(aC ⟨_,_,rfl,sy.bq (by decide),(ht.mulI o.s).bq (by decide),(aC ⟨(show 4<=sizeLine by decide),hk⟩)⟩)⟩))))
theorem aIY:FnScope zl26 zl26 (aP sN):=zSc
abbrev jY (P w K mg z):=Fo P w K mg z "under" sN zl26 1 aME
theorem aIO (Df:R.Df K mg "under" sN zl26 f fd):jY P w K mg z:=by
 refine ⟨f,fd,Df,a9 Df aIY (fun ds M k h=>?_) (fun _ _ _ _ _ _ hr ds M k h=>?_)⟩
 ·obtain ⟨p,q,rfl,_⟩:=h; rfl
 obtain ⟨p,q,rfl,⟨p1,p2⟩,⟨q1,q2⟩,hk⟩:=h
 exact aK (aR (gE j6 (aM bW (aG aD (aB 0 rfl (z6 (aH (.tup _) rfl (aG aD (aB 1 rfl (z6 (aH (.tup _) rfl (aZ ⟨big400 p1,big400 q2⟩ (aM bW (aG aD (aB 1 rfl (z6 (aH (.tup _) rfl (aG aD (aB 0 rfl (z6 (aH (.tup _) rfl (aZ ⟨big400 q1,big400 p2⟩ (eQ hk)))))))))))))))))))))))
theorem o5:FnScope ["side", "edges", "low", "high"] ["side", "edges"] (aP nU):=zSc
abbrev xI (P w K mg z):=Fo P w K mg z "touches" nU ["side", "edges"] 2 aJN
theorem aC3 (Df:R.Df K mg "touches" nU ["side", "edges"] f fd) (aRL:jY P w K mg z):xI P w K mg z:=by
 refine ⟨f,fd,Df,a9 Df o5 (fun ds M k h=>?_) (fun _ _ _ _ _ _ hr ds M k h=>?_)⟩
 ·obtain ⟨A,d,e,n,w,s,x,y,t,N,rfl,_⟩:=h; rfl
 obtain ⟨A,d,e,n,w,s,x,y,t,N,rfl,hf,env,ht,hk⟩:=h
 have he:=aMB A e n w s x y t hf
 have hb:=env.edges ht d.f
 have hl:=env.ls d
 have bb:=env.nm.bq hl.2.1
 have be:=env.nm.bq hl.2.2
 refine aE (aQ 2 o5.nd (aG aD (aB 1 rfl (aM bR (z6 (aM dF (aG aD (aB 0 rfl (z6 (aH (.tup _) rfl (z6 (aZ (by decide) (bM (aH (.tup _) he.2.1 (aE (aQ 3 o5.nd (aG aD (aB 1 rfl (aM bR (z6 (aM dF (aG aD (aB 0 rfl (z6 (aH (.tup _) rfl (z6 (aZ (by decide) (bM (aH (.tup _) he.2.2 (aK (aR (jK (gE (lY (n:=1) (R.units_le hr)) (aG aD (aB 0 rfl ?_)))))))))))))))))))))))))))))))))))
 refine z6 (aH (.tup _) rfl (aG aD (aB 1 rfl (aG aD (aB 0 rfl (z6 (aH (.tup _) rfl (aH (.tup _) he.1 (lX (e1:=aL _) (e2:=aL _) (.tup _) (.tup _) rfl rfl ?_)))))))))
 rw [iP]
 refine ⟨_,rfl,(ite2 (fun h1 => ?_) (fun h1=>hk _ ⟨(fun z=>nomatch z),fun z=>absurd (decide_eq_true (lR.mp z).1) h1⟩))⟩
 have h1:=of_decide_eq_true h1
 refine jK (oJ (aJ aRL hr (aA (aG aD (aB 0 rfl (z6 (aH (.tup _) rfl (aA (aB 2 rfl (aC ⟨pq _,pq _,rfl,be.p,hb.1.p,?_⟩))))))))))
 rw [lQ]
 refine ⟨_,rfl,⟨_,rfl,(ite2 (fun h2 => ?_) (fun h2=>hk _ ⟨(fun z=>nomatch z),fun z=>absurd (by rw [decide_eq_false (lR.mp z).2.1]; rfl) h2⟩))⟩⟩
 have h2:¬ wU A d < (axF A e n w s x y d.f).y - (axF A e n w s x y d.f).da * t:=of_decide_eq_false (by simpa using h2)
 refine iQ (oJ (aJ aRL hr (aA (aB 3 rfl (aA (aG aD (aB 0 rfl (z6 (aH (.tup _) rfl (aC ⟨pq _,pq _,rfl,hb.2.p,bb.p,?_⟩))))))))))
 rw [lQ]
 exact ⟨_,rfl,(hk _ ⟨fun z=>lR.mpr ⟨h1,h2,of_decide_eq_false (by simpa using z)⟩,fun z=>by rw [decide_eq_false (lR.mp z).2.2]; rfl⟩)⟩
theorem tV:FnScope ["lines", "where", "below"] ["lines", "where"] (aP lJ):=zSc
abbrev vP (P w K mg z):=Fo P w K mg z "bands_at" lJ ["lines", "where"] 2 aL4
theorem aA6 (Df:R.Df K mg "bands_at" lJ ["lines", "where"] f fd) (aRL:jY P w K mg z) (T:Bt mg):vP P w K mg z:=by
 refine ⟨f,fd,Df,a9 Df tV (fun ds M k h=>?_) (fun _ _ _ _ _ _ hr ds M k h=>?_)⟩
 ·obtain ⟨ws,v,rfl,_⟩:=h; rfl
 obtain ⟨ws,v,rfl,h9,hl,hv,hk⟩:=h
 have ml:=cQ ws
 refine aE (aQ 2 tV.nd (aW bJ T.len PySem.boot_len (aA (bP ["where"] [1] (b3 (aB 0 rfl ⟨_, .inl rfl,(cU (ds:=bD ws) (by rw [ml]; exact R.bG (by omega)) (fun i acc M'=>M'=M/\acc=bD ((ws.take i).filter fun x=>decide (x < v))) ⟨rfl,rfl⟩ ?_ ?_)⟩))))))
 ·rintro i d acc M' hd ⟨rfl,rfl⟩ _ _ _ _ _
  obtain ⟨x,hx,rfl⟩:=cA hd
  refine oG (b4 (aJ aRL hr (aA (aB 0 rfl (aA (aB 1 rfl (aC ⟨pq x,pq v,rfl,(h9 x (zMo hx)).p,hv.p,?_⟩)))))))
  rw [lQ]
  refine ⟨_,rfl,(ite2 (fun hb=>fun _ _ _ _ _=> ?_) (fun hb => ?_))⟩
  ·refine aB 0 rfl ⟨rfl,?_⟩
   rw [take_snoc hx,List.filter_append,List.filter_cons_of_pos (p:=fun x=>decide (x < v)) hb,List.filter_nil,<- pV]
   rfl
  ·refine ⟨rfl,?_⟩
   rw [take_snoc hx,List.filter_append,List.filter_cons_of_neg (p:=fun x=>decide (x < v)) hb,List.filter_nil,List.append_nil]
 rintro acc M' ⟨rfl,rfl⟩
 rw [ml,List.take_length]
 refine aC (cL (.lst _) ?_)
 rw [cQ,show (ws.filter fun x=>decide (x < v)).length=gZ ws v from rfl]
 have hcl:gZ ws v<=ws.length:=List.length_filter_le _ _
 refine aE (bK (f7 (kL (bC j6 (aB 2 rfl (aW bJ T.len PySem.boot_len (aA (aB 0 rfl (aC (cL (.tup _) (eQ ⟨_,rfl,?_⟩)))))))))))
 rw [ml]
 unfold aU at hk
 by_cases h1:gZ ws v < ws.length
 rotate_left
 ·rw [if_neg (fun z=>h1 z.1)] at hk
  exact sD (decide_eq_false (by omega)) (b5 (bA (aK (aR (dR (aA (aM bR (aB 2 rfl (z6 (bM (aC ⟨(show 1<=sizeLine by decide),hk⟩)))))))))))
 refine u8 (decide_eq_true (by omega)) (oN (bC (lY (n:=1) (R.units_le hr)) (aG aD (aB 0 rfl (aB 2 rfl (aH (.tup _) (pX h1) (aB 1 rfl (lX (e1:=aL (ws.getD (gZ ws v) 0)) (e2:=aL v) (.tup _) (.tup _) rfl rfl ⟨_,rfl,?_⟩))))))))
 rw [iP]
 by_cases h2:ws.getD (gZ ws v) 0=v
 ·rw [if_pos ⟨h1,h2⟩] at hk
  exact u8 (decide_eq_true h2) (aK (aR (dR (aA (aM bR (aB 2 rfl (z6 (bM (aA (aB 2 rfl (aC ⟨(show 2<=sizeLine by decide),hk⟩)))))))))))
 ·rw [if_neg (fun z=>h2 z.2)] at hk
  exact sD (decide_eq_false h2) (bA (aK (aR (dR (aA (aM bR (aB 2 rfl (z6 (bM (aC ⟨(show 1<=sizeLine by decide),hk⟩))))))))))
theorem tX:FnScope ["yard", "across", "up", "rows"] zl15 (aP lG):=zSc
abbrev lO (P w K mg z):=Fo P w K mg z "has_cell" lG zl15 1 cHas
theorem aBE (Df:R.Df K mg "has_cell" lG zl15 f fd) (T:Bt mg):lO P w K mg z:=by
 refine ⟨f,fd,Df,a9 Df tX (fun ds M k h=>?_) (fun _ _ _ _ _ _ hr ds M k h=>?_)⟩
 ·obtain ⟨x,y,zs,a,u,rfl,_⟩:=h; rfl
 obtain ⟨x,y,zs,a,u,rfl,hz,hk⟩:=h
 have kf:R.aT zs a u=false->k (.bl false) M:=fun e=>by rw [e] at hk; exact hk
 refine aE (aQ 3 tX.nd (aG aD (aB 0 rfl (z6 (aH (.tup _) rfl (aE (bK (f7 (gU (bC j6 (aB 2 rfl (z6 (eQ ⟨_,rfl,(ite2 (fun h1=>bU (aK (aR (kH (kf (R.fC (of_decide_eq_true h1))))))) (fun h1=>(gU (bC aC7 (aB 2 rfl (aW bJ T.len PySem.boot_len (aA (aB 3 rfl (aC (cL (.tup _) (eQ ⟨_,rfl,(ite2 (fun h2=>bU (aK (aR (kH (kf (R.fI (by have:=of_decide_eq_true h2; rw [zLm] at this; exact this))))))) (fun h2=>(gU (bC j6 (aB 1 rfl (z6 (eQ ⟨_,rfl,?_⟩)))))))⟩)))))))))))⟩)))))))))))))
 refine ite2 (fun h3=>bU (aK (aR (kH (kf (R.cD (of_decide_eq_true h3))))))) (fun h3 => ?_)
 obtain ⟨hu,ha,z,ez,ei⟩:=cell_in h1 h2 h3
 refine iU (bC aC7 (aB 1 rfl (aW bJ T.len PySem.boot_len (aA (aG aD (aB 3 rfl (aB 2 rfl (aH (.tup _) ei (aC (j4 (R.bG (by have:=hz z (zMo ez); omega)) (eQ ⟨_,rfl,?_⟩)))))))))))
 have hzl:=hz z (zMo ez)
 refine ite2 (fun h4=>aK (aR (kH (kf (R.kG ez (of_decide_eq_true h4)))))) (fun h4=>bA ?_)
 obtain ⟨c,ec,ec2⟩:=aMG ha (fun q=>h4 (decide_eq_true q))
 refine aK (aR (gE iG (aG aD (aG aD (aB 3 rfl (aB 2 rfl (aH (.tup _) ei (aB 1 rfl (rH (R.bG (by omega)) ec2 (ge_str (aGP ?_)))))))))))
 rw [aE7,<- R.iC hu ha ez ec]
 exact hk
theorem jF:FnScope ["yard", "facing", "place", "band", "beyond", "before"] zl6 (aP nJ):=zSc
abbrev xZ (P w K mg z):=Fo P w K mg z "is_edge" nJ zl6 2 aQP
theorem aDQ (Df:R.Df K mg "is_edge" nJ zl6 f fd) (aRM:lO P w K mg z):xZ P w K mg z:=by
 refine ⟨f,fd,Df,a9 Df jF (fun ds M k h=>?_) (fun _ _ _ _ _ _ hr ds M k h=>?_)⟩
 ·obtain ⟨x,y,zs,f,p,b,rfl,_⟩:=h; rfl
 obtain ⟨x,y,zs,f,p,b,rfl,hz,hk⟩:=h
 refine aE (oV (fun Γ' M'=>M'=M/\Γ'=[some (.tup [x,y, .tup (zs.map .str)]),some (.int (f:Int)),some (.int (p:Int)),some (.int (b:Int)),some (.bl (if f % 2=0 then R.aT zs (p:Int) (b:Int) else R.aT zs (b:Int) (p:Int))),some (.bl (if f % 2=0 then R.aT zs ((p:Int) - 1) (b:Int) else R.aT zs (b:Int) ((p:Int) - 1)))]) ?_ ?_)
 ·refine bK (bC iG (aM dF (aB 1 rfl (z6 (aZ (show (0:Int) < _ by first | decide | omega) (z6 (iB ⟨_,rfl,(ite2 (fun hb => ?_) (fun hb => ?_))⟩)))))))
  ·have e:f % 2=0:=by have:=of_decide_eq_true hb; omega
   refine aE (aQ 4 jF.nd (aJ aRM hr (aA (aB 0 rfl (aA (aB 2 rfl (aA (aB 3 rfl (aC ⟨x,y,zs,_,_,rfl,hz,(aK (aQ 5 jF.nd (aJ aRM hr (aA (aB 0 rfl (aA (aM bR (aB 2 rfl (z6 (bM (aA (aB 3 rfl (aC ⟨x,y,zs,_,_,rfl,hz,?_⟩)))))))))))))⟩)))))))))
   rw [if_pos e,if_pos e]
   exact ⟨rfl,rfl⟩
  ·have e:¬ f % 2=0:=fun z=>hb (decide_eq_true (by omega))
   refine aE (aQ 4 jF.nd (aJ aRM hr (aA (aB 0 rfl (aA (aB 3 rfl (aA (aB 2 rfl (aC ⟨x,y,zs,_,_,rfl,hz,(aK (aQ 5 jF.nd (aJ aRM hr (aA (aB 0 rfl (aA (aB 3 rfl (aA (aM bR (aB 2 rfl (z6 (bM (aC ⟨x,y,zs,_,_,rfl,hz,?_⟩)))))))))))))⟩)))))))))
   rw [if_neg e,if_neg e]
   exact ⟨rfl,rfl⟩
 rintro Γ' M' ⟨rfl,rfl⟩
 unfold R.edge at hk
 dsimp only at hk
 generalize (if f % 2=0 then R.aT zs (p:Int) (b:Int) else R.aT zs (b:Int) (p:Int))=c1 at hk ⊢
 generalize (if f % 2=0 then R.aT zs ((p:Int) - 1) (b:Int) else R.aT zs (b:Int) ((p:Int) - 1))=c2 at hk ⊢
 refine aE (bK (bC j6 (aB 1 rfl (z6 (eQ ⟨_,rfl,(ite2 (fun hb => ?_) (fun hb => ?_))⟩)))))
 ·rw [if_pos (by have:=of_decide_eq_true hb; omega)] at hk
  refine aK (aR (jK (aB 4 rfl ⟨_,rfl,?_⟩)))
  cases c1 with
  | false=>exact b5 hk
  | true =>
   exact bU (iQ (oJ (aB 5 rfl ⟨_,rfl,hk⟩)))
 ·rw [if_neg (fun z=>hb (decide_eq_true (by omega)))] at hk
  refine bA (aK (aR (jK (aB 5 rfl ⟨_,rfl,?_⟩))))
  cases c2 with
  | false=>exact b5 hk
  | true =>
   exact bU (iQ (oJ (aB 4 rfl ⟨_,rfl,hk⟩)))
theorem jW:FnScope ["truths", "told", "begin", "place", "truth"] ["truths"] (aP uL):=zSc
abbrev aGJ (P w K mg z):=Fo P w K mg z "runs" uL ["truths"] 1 aP9
theorem aNA (Df:R.Df K mg "runs" uL ["truths"] f fd) (T:Bt mg):aGJ P w K mg z:=by
 refine ⟨f,fd,Df,a9 Df jW (fun ds M k h=>?_) (fun _ _ _ _ _ _ hr ds M k h=>?_)⟩
 ·obtain ⟨bs,rfl,_⟩:=h; rfl
 obtain ⟨bs,rfl,hl,hk⟩:=h
 refine aE (aQ 1 jW.nd (iF (aC ⟨(show 0<=sizeLine by decide),fun a ha=>(aE (aQ 2 jW.nd (uP (aE (eB (uG T.enumerate BEnum (aA (aM oW (aB 0 rfl (dR (aA (kH (aC ⟨(show 1<=sizeLine by decide),(o0 (.lst _) (.lst _) (by rw [zLm]; exact R.bG (by simp only [List.length_cons,List.length_nil]; omega)) (aC ⟨_,rfl,?_⟩))⟩)))))))))))))⟩)))
 rw [aJV]
 refine ⟨fun i Γ' M'=>M'=b7 M a (.lst ((R.rto (bs++[false]) i).1.map prD))/\∃ v3 v4,Γ'=[some (.lst (bs.map .bl)),some (.mt a),some (bgD (R.rto (bs++[false]) i).2),v3,v4],⟨rfl,_,_,rfl⟩,?_,?_⟩
 ·rintro i d Γ' M' hd ⟨rfl,v3,v4,rfl⟩
  obtain ⟨x,hx,rfl⟩:=nW hd
  obtain ⟨t,ht,rfl⟩:=cA hx
  have hi:i < bs.length+1:=by have:=(zGs ht).1; simpa using this
  have es:R.rto (bs++[false]) (i+1)=R.rstep (R.rto (bs++[false]) i) i t:=by
   show R.rstep _ _ ((bs++[false]).getD i false)=_
   rw [aLA ht]
  have ln:=(R.sQ (bs++[false]) i).len
  generalize R.rto (bs++[false]) i=q at ln es ⊢
  obtain ⟨tl,bg⟩:=q
  refine iK rfl (bZ (bO 3 jW.nd (bZ (bO 4 jW.nd (gI ?_)))))
  have bnd:(tl.map prD).length < sizeLine:=by rw [zLm]; exact R.bG (n:=tl.length+1) (by simp only at ln; omega)
  cases t with
  | true =>
   refine aE (bK (f7 (kL (b4 (aB 4 rfl ⟨_,rfl,(bU (oN (bC aNJ (aB 2 rfl (uP (aN4 ⟨_,rfl,?_⟩))))))⟩)))))
   cases bg with
   | none =>
    refine bU (aK (aQ 2 jW.nd (aB 3 rfl (aK (bK (f7 (kL (c6 (b4 (aB 4 rfl ⟨_,rfl,(b5 (b5 (bA ?_)))⟩))))))))))
    dsimp only
    rw [es]
    exact ⟨rfl,_,_,rfl⟩
   | some b =>
    refine b5 (bA (aK (bK (f7 (kL (c6 (b4 (aB 4 rfl ⟨_,rfl,(b5 (b5 (bA ?_)))⟩))))))))
    dsimp only
    rw [es]
    exact ⟨rfl,_,_,rfl⟩
  | false =>
   refine aE (bK (f7 (kL (b4 (aB 4 rfl ⟨_,rfl,(b5 (b5 (bA (aK (bK (f7 (kL (c6 (b4 (aB 4 rfl ⟨_,rfl,(bU (oN (bC aNF (aB 2 rfl (uP (aMK ⟨_,rfl,?_⟩))))))⟩))))))))))⟩)))))
   cases bg with
   | none =>
    refine b5 (bA ?_)
    dsimp only
    rw [es]
    exact ⟨rfl,_,_,rfl⟩
   | some b =>
    refine bU (aE (eU (fS PySem.F.plainAttrs_list PySem.F.slot_list_append PySem.F.type_list_append cT (aB 1 rfl (⟨⟨rfl,_,aS⟩,(aA (bV (aA (aB 2 rfl (aA (aB 3 rfl (aC ⟨(show 2<=sizeLine by decide),(aC (dD aS bnd ?_))⟩)))))))⟩)))))
    rw [dN]
    refine aK (aQ 2 jW.nd (uP ?_))
    dsimp only
    rw [es]
    refine ⟨?_,_,_,rfl⟩
    rw [show (R.rstep (tl,some b) i false).1=tl++[(b,i)] from rfl,List.map_append]
    rfl
 ·rintro Γ' M' ⟨rfl,v3,v4,rfl⟩
  rw [nV,zLm,List.length_append]
  refine gY 1 rfl aS ?_
  rw [fL ha]
  exact aK (aR (aB 1 rfl hk))
theorem qU:FnScope ["yard", "facing", "place", "bands"] zl13 (aP kC):=zSc
abbrev tP (P w K mg z):=Fo P w K mg z "stretches" kC zl13 3 aHN
theorem yK (Df:R.Df K mg "stretches" kC zl13 f fd) (aRN:aGJ P w K mg z) (aRO:xZ P w K mg z) (T:Bt mg):tP P w K mg z:=by
 refine ⟨f,fd,Df,a9 Df qU (fun ds M k h=>?_) (fun _ _ _ _ _ _ hr ds M k h=>?_)⟩
 ·obtain ⟨xs,ys,zs,f,p,rfl,_⟩:=h; rfl
 obtain ⟨xs,ys,zs,f,p,rfl,hz,lx,ly,hk⟩:=h
 have la:=qH (f:=f) lx ly
 refine aE (aQ 3 qU.nd (aM bR (aW bJ T.len PySem.boot_len (aA (aG aD (aB 0 rfl (aM bR (z6 (aM dF (aB 1 rfl (z6 (aZ (by decide) (bM (aH (.tup _) (aAW f) (aC (cL (.tup _) (z6 (bM (aK (aR (aJ aRN hr (aA (bP zl13 [0,1,2] (kO T.range (aA (aB 3 rfl (aC ⟨_,rfl,by omega,by omega,?_⟩)))))))))))))))))))))))))))
 rw [show (((b6 f xs ys).length:Int) - 1).toNat=(b6 f xs ys).length - 1 by omega]
 refine cU (by rw [cP]; exact R.bG (by omega)) (fun i acc M'=>M'=M/\acc=((List.range i).map (R.edge zs f p)).map D.bl) ⟨rfl,rfl⟩ ?_ ?_
 ·rintro i d acc M' hd ⟨rfl,rfl⟩ _ _ _ _ _
  obtain ⟨hi,rfl⟩:=fJ hd
  rw [Int.zero_add]
  refine bY (bU fun _ _ _ _ _=>(aJ aRO hr (aA (aB 1 rfl (aA (aB 2 rfl (aA (aB 3 rfl (aA (aB 0 rfl (aC ⟨_,_,zs,f,p,i,rfl,hz,⟨rfl,?_⟩⟩)))))))))))
  rw [List.range_succ,List.map_append,List.map_append]
  rfl
 rintro acc M' ⟨rfl,rfl⟩
 rw [cP]
 exact aC ⟨R.dY zs f p ((b6 f xs ys).length - 1),rfl,by rw [n5]; omega,hk⟩
theorem hW:FnScope ["yard", "told", "facing", "along", "place", "line", "begin", "end"] ["yard"] (aP sY):=zSc
abbrev aCD (P w K mg z):=Fo P w K mg z "sides" sY ["yard"] 4 aO4
theorem aJS (Df:R.Df K mg "sides" sY ["yard"] f fd) (aRP:tP P w K mg z) (T:Bt mg):aCD P w K mg z:=by
 refine ⟨f,fd,Df,a9 Df hW (fun ds M k h=>?_) (fun _ _ _ _ _ _ hr ds M k h=>?_)⟩
 ·obtain ⟨xs,ys,zs,rfl,_⟩:=h; rfl
 obtain ⟨xs,ys,zs,rfl,hz,lx,ly,hk⟩:=h
 refine aE (aQ 1 hW.nd (iF (aC ⟨(show 0<=sizeLine by decide),fun a ha=>(aE (eB (kO T.range (aA (z6 (aC ⟨_,rfl,by decide,by decide,?_⟩))))))⟩)))
 refine ⟨fun f Γ' M'=>M'=b7 M a (.lst (gH zs xs ys f))/\∃ v2 v3 v4 v5 v6 v7,Γ'=[some (o7 xs ys zs),some (.mt a),v2,v3,v4,v5,v6,v7],⟨rfl,_,_,_,_,_,_,rfl⟩,?_,?_⟩
 ·rintro f d Γ' M' hd ⟨rfl,v2,v3,v4,v5,v6,v7,rfl⟩
  obtain ⟨hf,rfl⟩:=fJ hd
  have hf4:f < 4:=hf
  rw [Int.zero_add]
  have la:=qH (f:=f) lx ly
  have ll:=xK (f:=f) lx ly
  have nf:=pF (zs:=zs) lx ly f
  refine bO 2 hW.nd (aE (aQ 3 hW.nd (aG aD (aB 0 rfl (aM bR (z6 (aM dF (aB 2 rfl (z6 (aZ (by decide) (bM (aH (.tup _) (aAW f) (aK (eB (aL0 T.enumerate BEnum (aA (aG aD (aB 0 rfl (aM dF (aB 2 rfl (z6 (aZ (by decide) (aH (.tup _) (aH3 f) (aC ⟨_,rfl,(⟨fun i Γ' M'=>M'=b7 M a (.lst (gH zs xs ys f++gB zs f (dA f xs ys) (b6 f xs ys) i))/\∃ v4 v5 v6 v7,Γ'=[some (o7 xs ys zs),some (.mt a),some (.int (f:Int)),some (.tup (b6 f xs ys)),v4,v5,v6,v7],⟨by simp [gB],_,_,_,_,rfl⟩,?_,?_⟩)⟩))))))))))))))))))))))))
  ·rintro i d Γ' M' hd ⟨rfl,w4,w5,w6,w7,rfl⟩
   obtain ⟨l,hll,rfl⟩:=nW hd
   have hil:=(zGs hll).1
   have sf:=pZ (zs:=zs) (f:=f) (ls:=dA f xs ys) la i
   refine iK rfl (bZ (bO 4 hW.nd (bZ (bO 5 hW.nd (gI (aK (eB (b3 (aJ aRP hr (aA (aB 0 rfl (aA (aB 2 rfl (aA (aB 4 rfl (aC ⟨xs,ys,zs,f,i,rfl,hz,lx,ly,⟨_, .inr (.inl rfl),(⟨fun j Γ' M'=>M'=b7 M a (.lst (gH zs xs ys f++gB zs f (dA f xs ys) (b6 f xs ys) i++((R.runs (R.dY zs f i ((b6 f xs ys).length - 1))).take j).map (mkS f l (b6 f xs ys))))/\∃ v6 v7,Γ'=[some (o7 xs ys zs),some (.mt a),some (.int (f:Int)),some (.tup (b6 f xs ys)),some (.int (i:Int)),some l,v6,v7],⟨by simp,_,_,rfl⟩,?_,?_⟩)⟩⟩))))))))))))))))
   ·rintro j d Γ' M' hd ⟨rfl,u6,u7,rfl⟩
    obtain ⟨r,hr',rfl⟩:=cA hd
    have hb:=R.aL6 (zMo hr')
    rw [n5] at hb
    have hj:j < (R.runs (R.dY zs f i ((b6 f xs ys).length - 1))).length:=(zGs hr').1
    have hjl:=R.aAE (R.dY zs f i ((b6 f xs ys).length - 1))
    rw [n5] at hjl
    refine iK rfl (bZ (bO 6 hW.nd (bZ (bO 7 hW.nd (gI (aK (eU (fS PySem.F.plainAttrs_list PySem.F.slot_list_append PySem.F.type_list_append cT (aB 1 rfl (⟨⟨rfl,_,aS⟩,(aA (bV (aA (aB 2 rfl (aA (aB 5 rfl (aA (aG aD (aB 3 rfl (aB 6 rfl (aH (.tup _) (at_getD (by omega)) (aA (aG aD (aB 3 rfl (aB 7 rfl (aH (.tup _) (at_getD (by omega)) (aC ⟨(show 4<=sizeLine by decide),(aC (dD aS (by simp only [List.length_append,zLm,List.length_take]; exact Nat.lt_of_le_of_lt (show _<=60000 by omega) (by decide)) ⟨?_,_,_,rfl⟩))⟩)))))))))))))))))⟩))))))))))
    rw [dN,cS hr',<- List.append_assoc]
    rfl
   ·rintro Γ' M' ⟨rfl,u6,u7,rfl⟩
    rw [zLm,List.take_length]
    exact ⟨by rw [aBA hll,<- List.append_assoc]; rfl,_,_,_,_,rfl⟩
  ·rintro Γ' M' ⟨rfl,w4,w5,w6,w7,rfl⟩
   rw [nV]
   exact ⟨by rw [tQ],_,_,_,_,_,_,rfl⟩
 ·rintro Γ' M' ⟨rfl,v2,v3,v4,v5,v6,v7,rfl⟩
  exact aK (aR (aB 1 rfl (hk a ha)))
theorem aBM:FnScope zl22 zl22 (aP k6):=zSc
abbrev lC (P w K mg z):=Fo P w K mg z "touching" k6 zl22 5 aF4
theorem aBC (Df:R.Df K mg "touching" k6 zl22 f fd) (aRQ:aCD P w K mg z) (aRR:xI P w K mg z):lC P w K mg z:=by
 refine ⟨f,fd,Df,a9 Df aBM (fun ds M k h=>?_) (fun _ _ _ _ _ _ hr ds M k h=>?_)⟩
 ·obtain ⟨A,e,n,w,s,x,y,t,N,rfl,_⟩:=h; rfl
 obtain ⟨A,e,n,w,s,x,y,t,N,rfl,env,ht,hk⟩:=h
 have lx:=env.lx
 have ly:=env.ly
 have sl:=oF lx ly
 refine aK (aR (bP ["edges"] [1] (b3 (mV (aJ aRQ hr (aA (aB 0 rfl (aC (⟨bD A.ws,bD A.us,A.K,rfl,fun z hz=>by have:=A.wide.1 z hz; omega,by rw [cQ]; omega,by rw [cQ]; omega,fun a ha=>⟨a,_,M,rfl,aS,ha,(Le.refl M).upd ha,⟨_, .inr (.inl rfl),?_⟩⟩⟩)))))))))
 rw [aB6]
 refine cU (ds:=(cX A).map (sdR A)) (by rw [zLm]; exact R.bG (by omega)) (fun i acc M'=>M'=M/\acc=(((cX A).take i).filter (qG A e n w s x y t)).map (sdR A)) ⟨rfl,rfl⟩ ?_ ?_
 ·rintro i dd acc M' hd ⟨rfl,rfl⟩ _ _ _ _ _
  obtain ⟨d,hq,rfl⟩:=cA hd
  have hm:=zMo hq
  have hf:=(R.gW hm).1
  refine oG (b4 (aJ aRR hr (aA (aB 0 rfl (aA (aB 1 rfl (aC ⟨A,d,e,n,w,s,x,y,t,N,rfl,hf,env,ht,fun b hb=>⟨_,rfl,?_⟩⟩)))))))
  have eb:b=qG A e n w s x y t d:=Bool.eq_iff_iff.mpr (hb.trans fK.symm)
  cases b with
  | true =>
   refine bU fun _ _ _ _ _=>(aB 0 rfl ⟨rfl,?_⟩)
   rw [m9 _ hq,<- eb,if_pos rfl,List.map_append]
   rfl
  | false =>
   refine b5 ⟨rfl,?_⟩
   rw [m9 _ hq,<- eb,if_neg zBf,List.append_nil]
 rintro acc M ⟨rfl,rfl⟩
 rw [zLm,List.take_length]
 exact hk
theorem jJ:FnScope ["sorted_sides", "told", "side", "front"] ["sorted_sides"] (aP j7):=zSc
abbrev tI (P w K mg z):=Fo P w K mg z "fronts_of" j7 ["sorted_sides"] 1 aGB
theorem yW (Df:R.Df K mg "fronts_of" j7 ["sorted_sides"] f fd) (T:Bt mg):tI P w K mg z:=by
 refine ⟨f,fd,Df,a9 Df jJ (fun ds M k h=>?_) (fun _ _ _ _ _ _ hr ds M k h=>?_)⟩
 ·obtain ⟨ss,rfl,_⟩:=h; rfl
 obtain ⟨ss,rfl,hs,hl,hk⟩:=h
 refine aE (aQ 1 jJ.nd (iF (aC ⟨(show 0<=sizeLine by decide),fun a ha=>(aE (eB (b3 (aB 0 rfl ⟨_, .inr (.inl rfl),(⟨fun i Γ' M'=>M'=b7 M a (.lst (oC (ss.take i)))/\∃ v2 v3,Γ'=[some (.lst ss),some (.mt a),v2,v3],⟨rfl,_,_,rfl⟩,?_,?_⟩)⟩))))⟩)))
 ·rintro i d Γ' M' hd ⟨rfl,v2,v3,rfl⟩
  have es:=aH4 hd
  have hi:=(zGs hd).1
  have hfr:=aCM (ss:=ss.take i) (acc:=[]) (fun d h=>(nomatch h)) (fun s h=>hs s (List.mem_of_mem_take h))
  have hln:=zF (ss.take i) []
  rw [List.length_take,List.length_nil] at hln
  obtain ⟨f,l,b,e,rfl,ok⟩:=hs d (zMo hd)
  refine bO 2 jJ.nd (aE (aQ 3 jJ.nd (bV (aA (aG aD (aB 2 rfl (z6 (aH (.tup _) rfl (aA (aG aD (aB 2 rfl (z6 (aH (.tup _) rfl (aC ⟨(show 2<=sizeLine by decide),(aK (bK (f7 (gU (c6 (mI (aB 1 rfl ⟨_, .seq (.mt aS),?_⟩)))))))⟩))))))))))))))
  have key:∀ acc,acc=oC (ss.take i)->acc=[]\/∃ r q,acc=r++[q]:=fun acc _=>by
   rcases List.eq_nil_or_concat acc with h | ⟨r,q,h⟩
   ·exact .inl h
   ·exact .inr ⟨r,q,by simpa using h⟩
  have bnd:(oC (ss.take i)).length < sizeLine:=Nat.lt_of_le_of_lt (show _<=60000 by unfold oC; omega) (by decide)
  rcases key _ rfl with h0 | ⟨r,q,h0⟩
  ·rw [h0] at es bnd ⊢
   refine bU (bU (aK (eU (fS PySem.F.plainAttrs_list PySem.F.slot_list_append PySem.F.type_list_append cT (aB 1 rfl (⟨⟨rfl,_,aS⟩,(aA (aB 3 rfl (aC (dD aS bnd ?_))))⟩))))))
   rw [dN]
   dsimp only
   rw [es]
   exact ⟨rfl,_,_,rfl⟩
  ·rw [h0] at es bnd ⊢
   have hq:wY q:=hfr q (by show q∈oC (ss.take i); rw [h0]; simp)
   obtain ⟨f2,l2,rfl,ok2⟩:=hq
   refine ite2 (fun z=>absurd z (by simp)) (fun _=>(iU (bC (mK (n:=2) (R.units_le hr)) (aG aD (aB 1 rfl (gA eN (z6 ⟨_,rfl,(aH (.mt aS) (l6 _ _) (aB 3 rfl (mJ (.tup _) (.tup _) ok2 ok ⟨_,rfl,?_⟩)))⟩)))))))
   rw [yC,show qZ (D.tup [f,l,b,e]) = .tup [f,l] from rfl] at es
   cases he:eqD (.tup [f2,l2]) (.tup [f,l]) with
   | true =>
    rw [he,if_pos rfl] at es
    refine b5 (bA ?_)
    dsimp only
    rw [es]
    exact ⟨rfl,_,_,rfl⟩
   | false =>
    rw [he,if_neg zBf] at es
    refine bU (aK (eU (fS PySem.F.plainAttrs_list PySem.F.slot_list_append PySem.F.type_list_append cT (aB 1 rfl (⟨⟨rfl,_,aS⟩,(aA (aB 3 rfl (aC (dD aS bnd ?_))))⟩)))))
    rw [dN]
    dsimp only
    rw [es]
    exact ⟨rfl,_,_,rfl⟩
 ·rintro Γ' M' ⟨rfl,v2,v3,rfl⟩
  rw [List.take_length]
  exact aK (aR (aB 1 rfl (hk a ha)))
theorem aLV:FnScope zl26 zl26 (aP vK):=zSc
abbrev aFI (P w K mg z):=Fo P w K mg z "over" vK zl26 3 aOL
theorem aMS (Df:R.Df K mg "over" vK zl26 f fd) (aRF:jX P w K mg z):aFI P w K mg z:=by
 refine ⟨f,fd,Df,a9 Df aLV (fun ds M k h=>?_) (fun _ _ _ _ _ _ hr ds M k h=>?_)⟩
 ·obtain ⟨p,q,rfl,_⟩:=h; rfl
 obtain ⟨p,q,rfl,hp,hq,h0,hk⟩:=h
 have hn:=aGZ h0
 unfold aL at hk
 rw [<- aMX h0] at hk
 refine aE (bK (bC iG (aG aD (aB 1 rfl (z6 (aH (.tup _) rfl (z6 (iB ⟨_,rfl,(sD (decide_eq_false hn) (bA (aK (aR (aJ aRF hr (aA (aM bW (aG aD (aB 0 rfl (z6 (aH (.tup _) rfl (aG aD (aB 1 rfl (z6 (aH (.tup _) rfl (aZ ⟨big400 hp.g.a,big400 hq.g.b⟩ (aA (aM bW (aG aD (aB 0 rfl (z6 (aH (.tup _) rfl (aG aD (aB 1 rfl (z6 (aH (.tup _) rfl (aZ ⟨big400 hp.g.b,big400 hq.g.a⟩ (aC ?_))))))))))))))))))))))))))))⟩))))))))
 exact ⟨_,_,rfl,Int.mul_ne_zero (fV p) hn,aL9 hp.g hq.g,hk⟩
theorem aD5:FnScope zl29 zl29 (aP nM):=zSc
abbrev rC (P w K mg z):=Fo P w K mg z "time_to" nM zl29 5 aLW
theorem aDC (Df:R.Df K mg "time_to" nM zl29 f fd) (aRS:aFI P w K mg z) (aRH:lN P w K mg z):rC P w K mg z:=by
 refine ⟨f,fd,Df,a9 Df aD5 (fun ds M k h=>?_) (fun _ _ _ _ _ _ hr ds M k h=>?_)⟩
 ·obtain ⟨a,p,rfl,_⟩:=h; rfl
 obtain ⟨a,p,rfl,ha,hp,hk⟩:=h
 obtain ⟨h1,h2⟩:=hp
 have hpq:Bq (p:Rat):=⟨Nat.lt_of_le_of_lt (show p.natAbs<=9 by omega) (by decide +kernel),by show 1 < _; exact Nat.one_lt_pow (by decide) (by decide)⟩
 have np:(p:Rat)≠0:=fun e=>by have:=Rat.intCast_inj.mp (e.trans Rat.intCast_zero.symm); omega
 refine aK (aR (aJ aRS hr (aA (aB 0 rfl (aA (aJ aRH hr (aA (aB 1 rfl (aA (z6 (aC ⟨p,1,rfl,by decide,Nat.one_lt_pow (by decide) (by decide),?_⟩)))))))))))
 rw [l7 p 1 (by decide),wK]
 exact aC ⟨_,_,rfl,ha,hpq,np,hk⟩
theorem aDW:FnScope zl26 zl26 (aP n8):=zSc
abbrev qS (P w K mg z):=Fo P w K mg z "greater" n8 zl26 2 aJD
theorem aEI (Df:R.Df K mg "greater" n8 zl26 f fd) (aRL:jY P w K mg z):qS P w K mg z:=by
 refine ⟨f,fd,Df,a9 Df aDW (fun ds M k h=>?_) (fun _ _ _ _ _ _ hr ds M k h=>?_)⟩
 ·obtain ⟨a,b,rfl,_⟩:=h; rfl
 obtain ⟨a,b,rfl,ha,hb,hk⟩:=h
 refine aK (aR (lZ (b4 (aJ aRL hr (aA (aB 0 rfl (aA (aB 1 rfl (aC ⟨pq a,pq b,rfl,ha.p,hb.p,?_⟩)))))))))
 rw [lQ]
 refine ⟨_,rfl,?_⟩
 unfold dU at hk
 refine ite2 (fun hc => ?_) (fun hc => ?_)
 ·rw [if_pos (of_decide_eq_true hc)] at hk
  exact aB 1 rfl hk
 ·rw [if_neg (fun z=>hc (decide_eq_true z))] at hk
  exact aB 0 rfl hk
theorem aFJ:FnScope zl26 zl26 (aP o6):=zSc
abbrev yY (P w K mg z):=Fo P w K mg z "lesser" o6 zl26 2 aK9
theorem aGK (Df:R.Df K mg "lesser" o6 zl26 f fd) (aRL:jY P w K mg z):yY P w K mg z:=by
 refine ⟨f,fd,Df,a9 Df aFJ (fun ds M k h=>?_) (fun _ _ _ _ _ _ hr ds M k h=>?_)⟩
 ·obtain ⟨a,b,rfl,_⟩:=h; rfl
 obtain ⟨a,b,rfl,ha,hb,hk⟩:=h
 refine aK (aR (lZ (b4 (aJ aRL hr (aA (aB 1 rfl (aA (aB 0 rfl (aC ⟨pq b,pq a,rfl,hb.p,ha.p,?_⟩)))))))))
 rw [lQ]
 refine ⟨_,rfl,?_⟩
 unfold i8 at hk
 refine ite2 (fun hc => ?_) (fun hc => ?_)
 ·rw [if_pos (of_decide_eq_true hc)] at hk
  exact aB 1 rfl hk
 ·rw [if_neg (fun z=>hc (decide_eq_true z))] at hk
  exact aB 0 rfl hk
theorem iS:FnScope ["lines", "where", "down", "up", "told", "place", "from_above", "from_below"] zl7 (aP kY):=zSc
abbrev uT (P w K mg z):=Fo P w K mg z "times_to" kY zl7 6 aJR
theorem aA5 (Df:R.Df K mg "times_to" kY zl7 f fd) (aRJ:oH P w K mg z) (aRT:rC P w K mg z) (aRU:qS P w K mg z) (T:Bt mg):uT P w K mg z:=by
 refine ⟨f,fd,Df,a9 Df iS (fun ds M k h=>?_) (fun _ _ _ _ _ _ hr ds M k h=>?_)⟩
 ·obtain ⟨ws,x,p,q,m,B,rfl,_⟩:=h; rfl
 obtain ⟨ws,x,p,q,m,B,rfl,nm,f,fx,l1,l9,hp,hq,hk⟩:=h
 have bx:=nm.bq fx
 have bw:∀ i,Bq (ws.getD i 0):=fun i=>nm.bq (f.at i)
 have b1:∀ i,Bq (x - ws.getD i 0):=fun i=>nm.bq2 (fx.sub (f.at i))
 have b2:∀ i,Bq (ws.getD i 0 - x):=fun i=>nm.bq2 ((f.at i).sub fx)
 refine aE (aQ 4 iS.nd (iF (aA (aJ aRT hr (aA (aJ aRJ hr (aA (aB 1 rfl (aA (aG aD (aB 0 rfl (z6 (aH (.tup _) (pX (i:=0) (by omega)) (aC ⟨_,_,rfl,bx,bw 0,(aA (aB 2 rfl (aC ⟨_,_,rfl,b1 0,hp,(aC ⟨(show 1<=sizeLine by decide),fun a ha=>(aE (eB (aCW T.range (aA (z6 (aA (aW bJ T.len PySem.boot_len (aA (aB 0 rfl (aC (cL (.tup _) (aC ?_))))))))))))⟩)⟩)))⟩))))))))))))))
 rw [cQ]
 refine ⟨_,_,rfl,⟨by omega,by omega,by omega,by omega⟩,?_⟩
 rw [show (((ws.length:Nat):Int) - 1).toNat=ws.length - 1 by omega]
 refine ⟨fun i Γ' M'=>M'=b7 M a (.lst (eF ws x p q (i+1)))/\∃ v5 v6 v7,Γ'=[some (.tup (bD ws)),some (aL x),some (.int p),some (.int q),some (.mt a),v5,v6,v7],⟨rfl,_,_,_,rfl⟩,?_,?_⟩
 ·rintro i d Γ' M' hd ⟨rfl,v5,v6,v7,rfl⟩
  obtain ⟨hi,rfl⟩:=fJ hd
  refine bO 5 iS.nd (aE (aQ 6 iS.nd (aJ aRT hr (aA (aJ aRJ hr (aA (aB 1 rfl (aA (aG aD (aB 0 rfl (aB 5 rfl (aH (.tup _) (by rw [show (1:Int)+(i:Int)=((i+1:Nat):Int) by omega]; exact pX (by omega)) (aC ⟨_,_,rfl,bx,bw _,(aA (aB 2 rfl (aC ⟨_,_,rfl,b1 _,hp,(aE (aQ 7 iS.nd (aJ aRT hr (aA (aJ aRJ hr (aA (aG aD (aB 0 rfl (aM bR (aB 5 rfl (z6 (bM (aH (.tup _) (by rw [show (1:Int)+(i:Int) - 1=((i:Nat):Int) by omega]; exact pX (by omega)) (aA ?_))))))))))))))⟩)))⟩)))))))))))))
  refine aB 1 rfl (aC ⟨_,_,rfl,bw _,bx,(aA (aB 3 rfl (aC ⟨_,_,rfl,b2 _,hq,(aK (eU (fS PySem.F.plainAttrs_list PySem.F.slot_list_append PySem.F.type_list_append cT (aB 4 rfl (⟨⟨rfl,_,aS⟩,(aA (aJ aRU hr (aA (aB 6 rfl (aA (aB 7 rfl (aC ⟨_,_,rfl,(nm.div (fx.sub (f.at _)) hp).bq nm,(nm.div ((f.at _).sub fx) hq).bq nm,(aC (dD aS (by rw [k9]; exact Nat.lt_of_le_of_lt (show _<=1000 by omega) (by decide)) ⟨?_,_,_,_,rfl⟩))⟩)))))))⟩)))))⟩)))⟩)
  rw [dN,tE ws x p q (i+1),show U.tB ws x p q (i+1)=dU ((x - ws.getD (i+1) 0) / (p:Rat)) ((ws.getD i 0 - x) / (q:Rat)) by unfold U.tB; rw [if_neg (by omega),if_pos (by omega)]; rfl]
 ·rintro Γ' M' ⟨rfl,v5,v6,v7,rfl⟩
  rw [cP,show ws.length - 1+1=ws.length by omega]
  refine aE (eU (fS PySem.F.plainAttrs_list PySem.F.slot_list_append PySem.F.type_list_append cT (aB 4 rfl (⟨⟨rfl,_,aS⟩,(aA (aJ aRT hr (aA (aJ aRJ hr (aA (aG aD (aB 0 rfl (gA eN (z6 ⟨_,rfl,(aH (.tup _) (aD4 l1) (aA (aB 1 rfl (aC ⟨_,_,rfl,bw _,bx,(aA (aB 3 rfl (aC ⟨_,_,rfl,b2 _,hq,(aC (dD aS (by rw [k9]; exact Nat.lt_of_le_of_lt (show _<=1000 by omega) (by decide)) ?_))⟩)))⟩))))⟩)))))))))⟩))))
  rw [dN]
  refine gY 4 rfl aS ?_
  rw [fL ha]
  refine aK (aR (aB 4 rfl ?_))
  rw [tE,show U.tB ws x p q ws.length=(ws.getD (ws.length - 1) 0 - x) / (q:Rat) by unfold U.tB; rw [if_neg (by omega),if_neg (by omega)]] at hk
  exact hk
theorem sU:FnScope ["yard", "x", "y", "cells", "up", "across"] ["yard", "x", "y"] (aP uW):=zSc
abbrev qL (P w K mg z):=Fo P w K mg z "lies" uW ["yard", "x", "y"] 3 aOT
theorem aMA (Df:R.Df K mg "lies" uW ["yard", "x", "y"] f fd) (aRV:vP P w K mg z) (aRM:lO P w K mg z) (T:Bt mg):qL P w K mg z:=by
 refine ⟨f,fd,Df,a9 Df sU (fun ds M k h=>?_) (fun _ _ _ _ _ _ hr ds M k h=>?_)⟩
 ·obtain ⟨A,v,u,rfl,_⟩:=h; rfl
 obtain ⟨A,v,u,rfl,h9,g9,hl,gl,hv,hu,hk⟩:=h
 have hw:∀ z∈A.K,z.length<=1000:=fun z hz=>by have:=A.wide.1 z hz; omega
 have l1:=vL A.ws v
 have l2:=vL A.us u
 refine aE (aQ 3 sU.nd (iF (aC ⟨(show 0<=sizeLine by decide),fun a ha=>(aE (eB (b3 (aJ aRV hr (aA (aG aD (aB 0 rfl (z6 (aH (.tup _) rfl (aA (aB 2 rfl (aC ⟨A.us,u,rfl,g9,gl,hu,⟨_, .inr (.inl rfl),(⟨fun i Γ' M'=>M'=b7 M a (.lst ((bN A.K (aU A.ws v) ((aU A.us u).take i)).map .bl))/\∃ v4 v5,Γ'=[some (yd A),some (aL v),some (aL u),some (.mt a),v4,v5],⟨rfl,_,_,rfl⟩,?_,?_⟩)⟩⟩))))))))))))⟩)))
 ·rintro i d Γ' M' hd ⟨rfl,v4,v5,rfl⟩
  obtain ⟨up,hup,rfl⟩:=cA hd
  have cl:=aD7 A.K (aU A.ws v) ((aU A.us u).take i) l1 (by rw [List.length_take]; omega)
  refine bO 4 sU.nd (aK (eB (b3 (aJ aRV hr (aA (aG aD (aB 0 rfl (z6 (aH (.tup _) rfl (aA (aB 1 rfl (aC ⟨A.ws,v,rfl,h9,hl,hv,⟨_, .inr (.inl rfl),(⟨fun j Γ' M'=>M'=b7 M a (.lst ((bN A.K (aU A.ws v) ((aU A.us u).take i)++((aU A.ws v).take j).map fun c=>R.aT A.K c up).map .bl))/\∃ v5,Γ'=[some (yd A),some (aL v),some (aL u),some (.mt a),some (.int up),v5],⟨by simp,_,rfl⟩,?_,?_⟩)⟩⟩))))))))))))
  ·rintro j d Γ' M' hd ⟨rfl,w5,rfl⟩
   obtain ⟨ac,hac,rfl⟩:=cA hd
   refine bO 5 sU.nd (aK (eU (fS PySem.F.plainAttrs_list PySem.F.slot_list_append PySem.F.type_list_append cT (aB 3 rfl (⟨⟨rfl,_,aS⟩,(aA (aJ aRM hr (aA (aB 0 rfl (aA (aB 5 rfl (aA (aB 4 rfl (aC ⟨_,_,A.K,_,_,rfl,hw,(aC (dD aS (by rw [zLm,List.length_append,zLm,List.length_take]; exact Nat.lt_of_le_of_lt (show _<=60000 by omega) (by decide)) ⟨?_,_,rfl⟩))⟩)))))))))⟩)))))
   rw [dN,cS hac,<- List.append_assoc,List.map_append (l₁:=_++_)]
   rfl
  ·rintro Γ' M' ⟨rfl,w5,rfl⟩
   rw [zLm,List.take_length]
   refine ⟨?_,_,_,rfl⟩
   rw [take_snoc hup]
   unfold bN
   rw [List.flatMap_append,List.flatMap_singleton]
 ·rintro Γ' M' ⟨rfl,v4,v5,rfl⟩
  rw [zLm,List.take_length]
  refine gY 3 rfl aS ?_
  rw [fL ha]
  unfold c8 at hk
  refine aE (bK (b4 (aW (jV rfl) T.all R.BAll (aA (aB 3 rfl (aC (mH (.lst _) ⟨_,rfl,?_⟩)))))))
  rcases tf ((bN A.K (aU A.ws v) (aU A.us u)).all id) with e1 | e1
  ·rw [e1] at hk ⊢
   rw [if_neg zBf] at hk
   refine b5 (bA (aE (bK (b4 (aW (aH5 rfl) T.any R.BAny (aA (aB 3 rfl (aC (mH (.lst _) ⟨_,rfl,?_⟩)))))))))
   rcases tf ((bN A.K (aU A.ws v) (aU A.us u)).any id) with e2 | e2
   ·rw [e2] at hk ⊢
    rw [if_neg zBf] at hk
    exact b5 (bA (aK (aR (ge_str hk))))
   ·rw [e2] at hk ⊢
    rw [if_pos rfl] at hk
    exact bU (aK (aR (ge_str hk)))
  ·rw [e1] at hk ⊢
   rw [if_pos rfl] at hk
   exact bU (aK (aR (ge_str hk)))
theorem fA:FnScope ["yard", "paces", "x", "y", "across_times", "up_times", "told", "up", "up_time", "across", "across_time"] zl14 (aP p3):=zSc
abbrev mC (P w K mg z):=Fo P w K mg z "height" p3 zl14 7 aJH
theorem aE8 (Df:R.Df K mg "height" p3 zl14 f fd) (aRW:qL P w K mg z) (aRX:uT P w K mg z) (aRM:lO P w K mg z) (aRY:yY P w K mg z) (aRU:qS P w K mg z) (T:Bt mg) {aN:Addr} (CN:mg "NOUGHT" = some (.ref aN)) (EN:∀ G,Den K G (pairD (p1 0)) (.ref aN)):mC P w K mg z:=by
 refine ⟨f,fd,Df,a9 Df fA (fun ds M k h=>?_) (fun _ _ _ _ _ _ hr ds M k h=>?_)⟩
 ·obtain ⟨A,e,n,w,s,x,y,m,B,rfl,_⟩:=h; rfl
 obtain ⟨A,e,n,w,s,x,y,m,B,rfl,nm,f,g,fx,fy,lx,ly,o,hk⟩:=h
 refine aE (bK (bC pG (aJ aRW hr (aA (aB 0 rfl (aA (aB 2 rfl (aA (aB 3 rfl (aC ⟨A,x,y,rfl,fun w hw=>nm.bq (f w hw),fun w hw=>nm.bq (g w hw),by omega,by omega,nm.bq fx,nm.bq fy,?_⟩))))))))))
 refine ge_str (qM ⟨_,rfl,?_⟩)
 rw [aER]
 unfold aI at hk
 cases hin:fP A x y with
 | false =>
  rw [hin,if_neg zBf] at hk
  exact bU (aK (aR (jQ CN EN hk)))
 | true =>
  rw [hin,if_pos rfl] at hk
  refine b5 (bA ?_)
  obtain ⟨b1,b2⟩:=uK hin
  have hzl:∀ z∈A.K,z.length<=1000:=fun z hz=>by have:=A.wide.1 z hz; omega
  have dx:=fun a=>vG nm f fx o.p o.r a
  have dy:=fun b=>vG nm g fy o.q o.s b
  refine aE (aQ 4 fA.nd (aJ aRX hr (aA (aG aD (aB 0 rfl (z6 (aH (.tup _) rfl (aA (aB 2 rfl (aA (aG aD (aB 1 rfl (z6 (aH (.tup _) rfl (aA (aG aD (aB 1 rfl (z6 (aH (.tup _) rfl (aC ⟨A.ws,x,e,w,m,B,rfl,nm,f,fx,by omega,by omega,o.p,o.r,?_⟩))))))))))))))))))))
  refine aE (aQ 5 fA.nd (aJ aRX hr (aA (aG aD (aB 0 rfl (z6 (aH (.tup _) rfl (aA (aB 3 rfl (aA (aG aD (aB 1 rfl (z6 (aH (.tup _) rfl (aA (aG aD (aB 1 rfl (z6 (aH (.tup _) rfl (aC ⟨A.us,y,n,s,m,B,rfl,nm,g,fy,by omega,by omega,o.q,o.s,?_⟩))))))))))))))))))))
  refine aE (aQ 6 fA.nd (aG aD (aB 4 rfl (z6 (aH (.lst _) (aHP _ _ _ _ _) (aE (eB (uG T.enumerate BEnum (aA (aB 5 rfl (aC ⟨_,rfl,(⟨fun j Γ' M'=>M'=M/\∃ v7 v8 v9 v10,Γ'=[some (yd A),some (fE e n w s),some (aL x),some (aL y),some (.lst (eF A.ws x e w (A.ws.length+1))),some (.lst (eF A.us y n s (A.us.length+1))),some (aL (i9 (U.tB A.ws x e w) (U.tB A.us y n s) (fun a b => !R.aT A.K ((a:Int) - 1) ((b:Int) - 1)) (A.ws.length+1) j (U.tB A.ws x e w 0))),v7,v8,v9,v10],⟨rfl,_,_,_,_,rfl⟩,?_,?_⟩)⟩)))))))))))
  ·rintro j d Γ' M' hd ⟨rfl,v7,v8,v9,v10,rfl⟩
   obtain ⟨ty,hty,rfl⟩:=nW hd
   obtain ⟨hj,rfl⟩:=vH hty
   refine iK rfl (bZ (bO 7 fA.nd (bZ (bO 8 fA.nd (gI (aK (eB (uG T.enumerate BEnum (aA (aB 4 rfl (aC ⟨_,rfl,(⟨fun i Γ' M1=>M1=M'/\∃ v9 v10,Γ'=[some (yd A),some (fE e n w s),some (aL x),some (aL y),some (.lst (eF A.ws x e w (A.ws.length+1))),some (.lst (eF A.us y n s (A.us.length+1))),some (aL (gN (U.tB A.ws x e w) (U.tB A.us y n s j) (fun a => !R.aT A.K ((a:Int) - 1) ((j:Int) - 1)) i (i9 (U.tB A.ws x e w) (U.tB A.us y n s) (fun a b => !R.aT A.K ((a:Int) - 1) ((b:Int) - 1)) (A.ws.length+1) j (U.tB A.ws x e w 0)))),some (.int (j:Int)),some (aL (U.tB A.us y n s j)),v9,v10],⟨rfl,_,_,rfl⟩,?_,?_⟩)⟩)))))))))))
   ·rintro i d Γ' M1 hd ⟨rfl,v9,v10,rfl⟩
    obtain ⟨tx,htx,rfl⟩:=nW hd
    obtain ⟨hi,rfl⟩:=vH htx
    refine iK rfl (bZ (bO 9 fA.nd (bZ (bO 10 fA.nd (gI (aK (bK (c6 (b4 (aJ aRM hr (aA (aB 0 rfl (aA (aM bR (aB 9 rfl (z6 (bM (aA (aM bR (aB 7 rfl (z6 (bM (aC ⟨_,_,A.K,_,_,rfl,hzl,⟨_,rfl,?_⟩⟩)))))))))))))))))))))))
    cases hc:R.aT A.K ((i:Int) - 1) ((j:Int) - 1) with
    | true =>
     refine b5 (bA ?_)
     dsimp only
     rw [show gN (U.tB A.ws x e w) (U.tB A.us y n s j) (fun a => !R.aT A.K ((a:Int) - 1) ((j:Int) - 1)) (i+1) (i9 (U.tB A.ws x e w) (U.tB A.us y n s) (fun a b => !R.aT A.K ((a:Int) - 1) ((b:Int) - 1)) (A.ws.length+1) j (U.tB A.ws x e w 0))=_ from if_neg (by simp [hc])]
     exact ⟨rfl,_,_,rfl⟩
    | false =>
     refine bU (aK (aQ 6 fA.nd (aJ aRY hr (aA (aB 6 rfl (aA (aJ aRU hr (aA (aB 10 rfl (aA (aB 8 rfl (aC ⟨_,_,rfl,(dx i).bq nm,(dy j).bq nm,(aC ⟨_,_,rfl,(sI dx (dy j) (wX dx dy (dx 0) j) i).bq nm,(yO (dx i) (dy j)).bq nm,?_⟩)⟩))))))))))))
     dsimp only
     rw [show gN (U.tB A.ws x e w) (U.tB A.us y n s j) (fun a => !R.aT A.K ((a:Int) - 1) ((j:Int) - 1)) (i+1) (i9 (U.tB A.ws x e w) (U.tB A.us y n s) (fun a b => !R.aT A.K ((a:Int) - 1) ((b:Int) - 1)) (A.ws.length+1) j (U.tB A.ws x e w 0))=_ from if_pos (by simp [hc])]
     exact ⟨rfl,_,_,rfl⟩
   ·rintro Γ' M1 ⟨rfl,v9,v10,rfl⟩
    rw [nV,k9]
    exact ⟨rfl,_,_,_,_,rfl⟩
  ·rintro Γ' M' ⟨rfl,v7,v8,v9,v10,rfl⟩
   rw [nV,k9]
   exact aK (aR (aB 6 rfl hk))
theorem vD:FnScope ["yard", "paces", "x", "y", "edges"] zl14 (aP nC):=zSc
abbrev nG (P w K mg z):=Fo P w K mg z "touched" nC zl14 8 aIF
theorem aDB (Df:R.Df K mg "touched" nC zl14 f fd) (aRZ:j9 P w K mg z) (aR0:mC P w K mg z) (aR1:tI P w K mg z) (aR2:lC P w K mg z):nG P w K mg z:=by
 refine ⟨f,fd,Df,a9 Df vD (fun ds M k h=>?_) (fun _ _ _ _ _ _ hr ds M k h=>?_)⟩
 ·obtain ⟨A,e,n,w,s,x,y,N,rfl,_⟩:=h; rfl
 obtain ⟨A,e,n,w,s,x,y,N,rfl,env,hk⟩:=h
 have hh:=env.high.mono (show 61<=62 by decide)
 have sl:=oF env.lx env.ly
 refine aE (aQ 4 vD.nd (aJ aRZ hr (aA (aB 1 rfl (aA (aB 2 rfl (aA (aB 3 rfl (aA (aJ aR0 hr (aA (aB 0 rfl (aA (aB 1 rfl (aA (aB 2 rfl (aA (aB 3 rfl (aC ⟨_,e,n,w,s,_,_,N,_,rfl,env.nm,env.ax,env.ay,env.fx,env.fy,by have:=env.lx; omega,by have:=env.ly; omega,env.o,?_⟩)))))))))))))))))))
 refine aC ⟨e,n,w,s,x,y,_,rfl,env.o,env.sx.1,env.sx.2,hh,(aK (aR (aJ aR1 hr (aA (aJ aR2 hr (aA (aB 0 rfl (aA (aB 4 rfl (aC ⟨A,e,n,w,s,x,y,_,N,rfl,env,hh,(aC (⟨_,rfl,fun q hq=>by obtain ⟨d,_,rfl⟩:=List.mem_map.mp hq; exact ⟨_,_,_,_,rfl,rfl⟩,by rw [zLm]; exact Nat.le_trans (List.length_filter_le _ _) sl,?_⟩))⟩))))))))))⟩
 rw [aPJ]
 exact hk
theorem eE:FnScope ["_law_pen_here", "_law_yard", "_law_paces_here", "_law_front", "_law_one", "_law_other", "_law_part_here", "_law_x", "_law_y", "_law_high"] zl0 (aP gT):=zSc
abbrev nN (P w K mg z):=Fo P w K mg z "_law_stretch_right" gT zl0 10 aDV
theorem uC (Df:R.Df K mg "_law_stretch_right" gT zl0 f fd) (aR3:jH P w K mg z) (aR4:qO P w K mg z) (aR0:mC P w K mg z) (aR5:nG P w K mg z):nN P w K mg z:=by
 refine ⟨f,fd,Df,a9 Df eE (fun ds M k h=>?_) (fun _ _ _ _ _ _ hr ds M k h=>?_)⟩
 ·obtain ⟨p,b0,A,e,n,w,s,x,y,N,d,a,b,rfl,_⟩:=h; rfl
 obtain ⟨p,b0,A,e,n,w,s,x,y,N,d,a,b,rfl,hF0,hb0,bs,rn,st,wa,wb,hk⟩:=h
 have sa:=wa.sz bs.m1 bs.m0
 have sb:=wb.sz bs.m1 bs.m0
 have ba:=sa.2.2.bq (by decide)
 have bb:=sb.2.2.bq (by decide)
 refine aE (eB (b3 (bV (aA (bV (aA (z6 (aA (z6 (aC ⟨(show 2<=sizeLine by decide),(aA (bV (aA (z6 (aA (z6 (aC ⟨(show 2<=sizeLine by decide),(aA (bV (aA (aM cF (z6 (aJ aR3 hr (aA (aB 0 rfl (aA (z6 (aC ⟨p,_,_,rfl,by decide,by decide,hF0,by omega,fun z1 M1 z10 z11 hF1 hB1 hE1 => ?_⟩)))))))))))⟩)))))))⟩))))))))))
 refine bM (aA (z6 (aC ⟨(show 2<=sizeLine by decide),(aC ⟨(show 3<=sizeLine by decide),⟨[.tup [.int 0, .int 1], .tup [.int 1, .int 2], .tup [.int (1+z1), .int 31]], .inl rfl,(⟨fun i Γ' M'=>M'=M1/\∃ v6 v7 v8 v9,Γ'=[some (.mt p),some (yd A),some (fE e n w s),some (dP (frK A d)),some (p3D a),some (p3D b),v6,v7,v8,v9],⟨rfl,_,_,_,_,rfl⟩,?_,?_⟩)⟩⟩)⟩)))
 rotate_left
 ·rintro Γ' M' ⟨rfl,v6,v7,v8,v9,rfl⟩
  have lt:=lQ b.2.2 a.2.2
  rw [decide_eq_true st.lt] at lt
  refine aK (aR (gE pP (aM bW (aG aD (aG aD (aB 4 rfl (z6 (aH (.tup _) rfl (z6 (aH (.tup _) rfl (aG aD (aG aD (aB 5 rfl (z6 (aH (.tup _) rfl (z6 (aH (.tup _) rfl (aZ ⟨big400 ba.g.a,big400 bb.g.b⟩ (aM bW (aG aD (aG aD (aB 5 rfl (z6 (aH (.tup _) rfl (z6 (aH (.tup _) rfl (aG aD (aG aD (aB 4 rfl (z6 (aH (.tup _) rfl (z6 (aH (.tup _) rfl (aZ ⟨big400 bb.g.a,big400 ba.g.b⟩ (eQ ?_)))))))))))))))))))))))))))))))))))
  rw [show decide _=true from lt]
  exact hk _ (hF1.mono (by omega)) hB1
 rintro i dd Γ' M' hd ⟨rfl,v6,v7,v8,v9,rfl⟩
 obtain ⟨i',j',rfl,pr⟩:∃ i' j':Int,dd = .tup [.int i', .int j']/\Prt i' j':=by
  have hm:=zMo hd
  simp only [List.mem_cons,List.not_mem_nil,or_false] at hm
  rcases hm with rfl | rfl | rfl
  ·exact ⟨_,_,rfl,prt01⟩
  ·exact ⟨_,_,rfl,prt12⟩
  ·exact ⟨_,_,rfl,prt31 z10 z11⟩
 have env2:=bs.mix wa wb pr
 obtain ⟨hh,hm⟩:=st.mix rn pr.le.1 pr.le.2
 rw [<- hh] at hm
 refine bO 6 eE.nd (aE (mS (aJ aR4 hr (aA (aB 4 rfl (aA (aB 5 rfl (aA (aB 6 rfl (aC ⟨a,b,i',j',rfl,sa,sb,pr,(iK rfl (bZ (bO 7 eE.nd (bZ (bO 8 eE.nd (bZ (bO 9 eE.nd (gI ?_))))))))⟩))))))))))
 generalize cM (Rat.divInt i' j') a b=t at *
 refine aK (bK (f7 (gU (bC (mK (n:=1) (R.units_le hr)) (aJ aR0 hr (aA (aB 1 rfl (aA (aB 2 rfl (aA (aB 7 rfl (aA (aB 8 rfl (aC ⟨_,e,n,w,s,_,_,N * 2520 * 806,_,rfl,env2.nm,env2.ax,env2.ay,env2.fx,env2.fy,by have:=env2.lx; omega,by have:=env2.ly; omega,env2.o,?_⟩))))))))))))))
 refine aB 9 rfl (aOO ⟨_,rfl,?_⟩)
 rw [decide_eq_true hh]
 refine b5 (iU (bC (aFN (n:=2) (R.units_le hr)) (aB 3 rfl (mV (aJ aR5 hr (aA (aB 1 rfl (aA (aB 2 rfl (aA (aB 7 rfl (aA (aB 8 rfl (aC (⟨A,e,n,w,s,_,_,_,rfl,env2,fun aF nF=>⟨aF,_,M',rfl,aS,nF,(Le.refl M').upd nF,(aFH (.lst _) (.inr rfl) rfl (wB fun d hd=>by obtain ⟨q,_,rfl⟩:=List.mem_map.mp hd; rfl) ⟨_,rfl,?_⟩)⟩⟩)))))))))))))))
 rw [aNI,decide_eq_true hm]
 exact b5 (bA ⟨rfl,_,_,_,_,rfl⟩)
theorem b8:FnScope ["_law_paces_here", "_law_front", "_law_one", "_law_other", "_law_facing", "_law_place", "_law_upper", "_law_lower", "_law_lost", "_law_by", "_law_begin", "_law_below", "_law_end"] zl2 (aP iX):=zSc
abbrev qD (P w K mg z):=Fo P w K mg z "_law_is_straight" iX zl2 3 aFA
theorem wG (Df:R.Df K mg "_law_is_straight" iX zl2 f fd) (aRB:p5 P w K mg z):qD P w K mg z:=by
 refine ⟨f,fd,Df,a9 Df b8 (fun ds M k h=>?_) (fun _ _ _ _ _ _ hr ds M k h=>?_)⟩
 ·obtain ⟨A,e,n,w,s,x,y,H,d,t,rfl,_⟩:=h; rfl
 obtain ⟨A,e,n,w,s,x,y,H,d,t,rfl,hf,o,⟨sx,sy,sH⟩,st,hk⟩:=h
 have bH:=sH.bq (by decide)
 have bt:=st.bq (by decide)
 have p0:=at3 A e n w s x y d.f (aL H)
 have p1:=at3p d.f (crX (axF A e n w s x y d.f) (eS d.f) H t) (axF A e n w s x y d.f).y (aL t)
 have pc:=aF1 o d.f
 have pa:=pc.a
 have pb:=pc.b
 have cb:=aP7 A e n w s x y H t hf
 have sX:Sz 60 (axF A e n w s x y d.f).x:=by unfold axF; split; exact sx; exact sy
 have sL:Sz 122 (H - t):=(sH.sub st).mono (by decide)
 have bX:=sX.bq (by decide)
 have bL:=sL.bq (by decide)
 have sg:sgF d.f=1\/sgF d.f = -1:=by unfold sgF; split; exact .inl rfl; exact .inr rfl
 have gp:(pcF e n w s d.f * sgF d.f).natAbs<=9:=by rcases sg with q | q <;> rw [q] <;> omega
 obtain ⟨d0,d1⟩:=aHG sH st (show (0:Int) < 1 by decide) (by decide)
 rw [Int.mul_one] at d0 d1
 have e0:0 < ((axF A e n w s x y d.f).x.den:Int) * ((H - t).den:Int):=Int.mul_pos (by have:=(axF A e n w s x y d.f).x.den_pos; omega) (by have:=(H - t).den_pos; omega)
 have e1:((axF A e n w s x y d.f).x.den:Int) * ((H - t).den:Int) < 10 ^ 300:=by
  rw [<- Int.natCast_mul]
  exact Int.lt_of_le_of_lt (Int.ofNat_le.mpr (Nat.mul_le_mul sX.d sL.d)) (by decide +kernel)
 refine aE (aQ 4 b8.nd (aG aD (aB 1 rfl (z6 (aH (.tup _) rfl (aE (aQ 5 b8.nd (aM dF (aB 4 rfl (z6 (aZ (by decide) (aE (mS (aG aD (aB 2 rfl (z6 (aH (.tup _) rfl (iK rfl (bZ (bO 6 b8.nd (bZ (bO 7 b8.nd (gI (aE (aQ 8 b8.nd (aJ aRB hr (aA (aM bR (aM bW (aB 6 rfl (aG aD (aG aD (aB 3 rfl (z6 (aH (.tup _) rfl (z6 (aH (.tup _) rfl (aZ ⟨big400 bH.g.a,big400 bt.g.b⟩ (aM bW (aG aD (aG aD (aB 3 rfl (z6 (aH (.tup _) rfl ?_))))))))))))))))))))))))))))))))))))))))))))
 refine z6 (aH (.tup _) rfl (aB 7 rfl (aZ ⟨big400 bt.g.a,big400 bH.g.b⟩ (bM (aA (aM bW (aB 7 rfl (aG aD (aG aD (aB 3 rfl (z6 (aH (.tup _) rfl (z6 (aH (.tup _) rfl (aZ ⟨big400 bH.g.b,big400 bt.g.b⟩ (aC ⟨H.num * (t.den:Int) - t.num * (H.den:Int),(H.den:Int) * (t.den:Int),rfl,d0,d1,?_⟩))))))))))))))))
 rw [jP d0,aL5 H t]
 refine aE (aQ 9 b8.nd (aM fD (aG aD (aB 0 rfl (aB 4 rfl (aH (.tup _) (aFM (f:=d.f) hf) (aG aD (dR (aA (z6 (aA (z6 (aA (gA eN (z6 ⟨_,rfl,(aA (gA eN (z6 ⟨_,rfl,(aC ⟨(show 4<=sizeLine by decide),(aB 4 rfl (aH (.lst _) (aQI (f:=d.f) hf) (aZ (.inl ⟨by omega,by omega⟩) (aE (mS (aG aD (aB 2 rfl (aB 5 rfl (aH (.tup _) p0.1 (iK rfl (bZ (bO 10 b8.nd (bZ (bO 11 b8.nd (gI (aE (aQ 12 b8.nd (aJ aRB hr (aA (aM bR (aM bW ?_)))))))))))))))))))))⟩)⟩)))⟩)))))))))))))))
 refine aB 10 rfl (aG aD (aB 8 rfl (z6 (aH (.tup _) rfl (aZ ⟨big400 bX.g.a,big400 bL.g.b⟩ (aM bW (aM bW (aB 9 rfl (aG aD (aB 8 rfl (z6 (aH (.tup _) rfl (aZ ⟨big400 (Nat.lt_of_le_of_lt gp (by decide +kernel)),big400 bL.g.a⟩ (aB 11 rfl (aZ ⟨aOB gp bL,big400 bX.g.b⟩ (bM (aA (aM bW (aB 11 rfl (aG aD (aB 8 rfl (z6 (aH (.tup _) rfl (aZ ⟨big400 bX.g.b,big400 bL.g.b⟩ (aC ⟨(axF A e n w s x y d.f).x.num * ((H - t).den:Int) - pcF e n w s d.f * sgF d.f * (H - t).num * ((axF A e n w s x y d.f).x.den:Int),((axF A e n w s x y d.f).x.den:Int) * ((H - t).den:Int),rfl,e0,e1,?_⟩)))))))))))))))))))))))))
 rw [jP e0,aN7 (axF A e n w s x y d.f).x (H - t) (pcF e n w s d.f * sgF d.f)]
 refine aK (aR (jK (gE (lY (n:=1) (R.units_le hr)) (aG aD (aB 3 rfl (aB 5 rfl (aH (.tup _) p1.1 (aB 12 rfl (lX (e1:=aL _) (e2:=aL _) (.tup _) (.tup _) rfl rfl ?_)))))))))
 rw [iP,decide_eq_true cb]
 refine ⟨_,rfl,bU (iQ (gE (lY (n:=1) (R.units_le hr)) (aG aD (aB 2 rfl (aM bR (z6 (aB 5 rfl (bM (aH (.tup _) p0.2 (aG aD (aB 3 rfl (aM bR (z6 (aB 5 rfl (bM (aH (.tup _) p1.2 (lX (e1:=aL _) (e2:=aL _) (.tup _) (.tup _) rfl rfl ?_)))))))))))))))))⟩
 rw [iP,decide_eq_true rfl]
 exact hk
theorem vT:FnScope ["paces", "front", "height", "way"] zl11 (aP nX):=zSc
abbrev yA (P w K mg z):=Fo P w K mg z "line_at" nX zl11 6 aLO
theorem aC4 (Df:R.Df K mg "line_at" nX zl11 f fd) (aRI:zS P w K mg z) (aRK:aAS P w K mg z) (aRJ:oH P w K mg z):yA P w K mg z:=by
 refine ⟨f,fd,Df,a9 Df vT (fun ds M k h=>?_) (fun _ _ _ _ _ _ hr ds M k h=>?_)⟩
 ·obtain ⟨e,n,w,s,t,v,rfl,_⟩:=h; rfl
 obtain ⟨e,n,w,s,t,v,rfl,tf,o,st,sv,hk⟩:=h
 have pc:=aF1 o t.1
 have p1:=pc.a
 have p2:=pc.b
 have bt:=st.bq (by decide)
 have bv:=(sv.mulI pc).bq (by decide)
 refine aE (aQ 3 vT.nd (aJ aRI hr (aA (aG aD (aB 0 rfl (aG aD (aB 1 rfl (z6 (aH (.tup _) rfl (aH (.tup _) (aFM tf) (aA (aB 2 rfl (aC ⟨pcF e n w s t.1,v,rfl,by omega,sv.bq (by decide),(aK (aR (lZ (bC j6 (aG aD (aB 1 rfl (z6 (aH (.tup _) rfl (z6 (eQ ⟨_,rfl,?_⟩))))))))))⟩)))))))))))))
 unfold jO at hk
 refine ite2 (fun q => ?_) (fun q => ?_)
 ·rw [if_pos (by have:=of_decide_eq_true q; omega)] at hk
  exact aJ aRK hr (aA (aG aD (aB 1 rfl (z6 (aH (.tup _) rfl (aA (aB 3 rfl (aC ⟨_,_,rfl,bt,bv,hk⟩))))))))
 ·rw [if_neg (fun z=>q (decide_eq_true (by omega)))] at hk
  exact aJ aRJ hr (aA (aG aD (aB 1 rfl (z6 (aH (.tup _) rfl (aA (aB 3 rfl (aC ⟨_,_,rfl,bt,bv,hk⟩))))))))
theorem oY:FnScope ["paces", "side", "at", "way"] zl17 (aP iZ):=zSc
abbrev qE (P w K mg z):=Fo P w K mg z "nearest_end" iZ zl17 6 aHX
theorem wR (Df:R.Df K mg "nearest_end" iZ zl17 f fd) (aRL:jY P w K mg z) (aRT:rC P w K mg z) (aRJ:oH P w K mg z) {aN:Addr} (CN:mg "NOUGHT" = some (.ref aN)) (EN:∀ G,Den K G (pairD (p1 0)) (.ref aN)):qE P w K mg z:=by
 refine ⟨f,fd,Df,a9 Df oY (fun ds M k h=>?_) (fun _ _ _ _ _ _ hr ds M k h=>?_)⟩
 ·obtain ⟨A,d,e,n,w,s,x,y,N,rfl,_⟩:=h; rfl
 obtain ⟨A,d,e,n,w,s,x,y,N,rfl,hf,env,hk⟩:=h
 obtain ⟨b,c,pb,pc,e1,e2,a1,a2⟩:=aKX (A:=A) (x:=x) (y:=y) env.o d.f
 have hl:=env.ls d
 have fa:=env.atF d.f
 have bb:=env.nm.bq hl.2.1
 have be:=env.nm.bq hl.2.2
 have ba:=env.nm.bq fa
 have al:=(aG6 A e n w s x y d.f).2
 unfold neD neR at hk
 rw [al,e1,e2] at hk
 refine aE (aQ 3 oY.nd (aM dF (aG aD (aB 1 rfl (z6 (aH (.tup _) rfl (z6 (aZ (by decide) (aE (bK (b4 (aJ aRL hr (aA (aG aD (aB 1 rfl (z6 (aH (.tup _) rfl (aA (aB 2 rfl (aC ⟨pq _,pq _,rfl,be.p,ba.p,?_⟩))))))))))))))))))))
 rw [lQ]
 refine ⟨_,rfl,(ite2 (fun q => ?_) (fun q=>bA ?_))⟩
 ·rw [if_pos (show (alF A d.f).getD d.e 0 < (axF A e n w s x y d.f).y from of_decide_eq_true q)] at hk
  refine aK (aR (bV (aA (aJ aRT hr (aA (aJ aRJ hr (aA (aB 2 rfl (aA (aG aD (aB 1 rfl (z6 (aH (.tup _) rfl (aC ⟨_,_,rfl,ba,be,(aA (aG aD (aB 0 rfl (aM bR (z6 (aB 3 rfl (bM (aH (.tup _) a1 (aC ⟨_,b,rfl,env.nm.bq2 (fa.sub hl.2.2),pb,(aA (aG aD (aB 1 rfl (z6 (aH (.tup _) rfl (aC ?_))))))⟩)))))))))⟩))))))))))))))
  exact ⟨(show 2<=sizeLine by decide),hk⟩
 rw [if_neg (show ¬ (alF A d.f).getD d.e 0 < (axF A e n w s x y d.f).y from fun z=>q (decide_eq_true z))] at hk
 refine aE (bK (b4 (aJ aRL hr (aA (aB 2 rfl (aA (aG aD (aB 1 rfl (z6 (aH (.tup _) rfl (aC ⟨pq _,pq _,rfl,ba.p,bb.p,?_⟩)))))))))))
 rw [lQ]
 refine ⟨_,rfl,(ite2 (fun q2 => ?_) (fun q2=>bA ?_))⟩
 ·rw [if_pos (show (axF A e n w s x y d.f).y < (alF A d.f).getD d.b 0 from of_decide_eq_true q2)] at hk
  refine aK (aR (bV (aA (aJ aRT hr (aA (aJ aRJ hr (aA (aG aD (aB 1 rfl (z6 (aH (.tup _) rfl (aA (aB 2 rfl (aC ⟨_,_,rfl,bb,ba,(aA (aG aD (aB 0 rfl (aM bR (z6 (aB 3 rfl (bM (aH (.tup _) a2 (aC ⟨_,c,rfl,env.nm.bq2 (hl.2.1.sub fa),pc,(aA (aG aD (aB 1 rfl (z6 (aH (.tup _) rfl (aC ?_))))))⟩)))))))))⟩))))))))))))))
  exact ⟨(show 2<=sizeLine by decide),hk⟩
 rw [if_neg (show ¬ (axF A e n w s x y d.f).y < (alF A d.f).getD d.b 0 from fun z=>q2 (decide_eq_true z))] at hk
 exact aK (aR (bV (aA (jQ CN EN (aA (aB 2 rfl (aC ⟨(show 2<=sizeLine by decide),hk⟩)))))))
theorem lM:FnScope ["ends", "told", "pair"] ["ends"] (aP mZ):=zSc
abbrev xF (P w K mg z):=Fo P w K mg z "soonest" mZ ["ends"] 2 aJU
theorem aD2 (Df:R.Df K mg "soonest" mZ ["ends"] f fd) (aRL:jY P w K mg z):xF P w K mg z:=by
 refine ⟨f,fd,Df,a9 Df lM (fun ds M k h=>?_) (fun _ _ _ _ _ _ hr ds M k h=>?_)⟩
 ·obtain ⟨l,rfl,_⟩:=h; rfl
 obtain ⟨l,rfl,ln,ll,lb,hk⟩:=h
 obtain ⟨t0,r,rfl⟩:∃ t0 r,l=t0::r:=by cases l with | nil=>exact absurd rfl ln | cons a b=>exact ⟨a,b,rfl⟩
 refine aE (aQ 1 lM.nd (aG aD (aB 0 rfl (z6 (aH (.lst _) at0 (aE (eB (b3 (aB 0 rfl ⟨_, .inr (.inl rfl),(⟨fun i Γ' M'=>M'=M/\∃ v2,Γ'=[some (.lst ((t0::r).map neE)),some (neE (((t0::r).take i).foldl fQ t0)),v2],⟨rfl,_,rfl⟩,?_,?_⟩)⟩)))))))))
 rotate_left
 ·rintro Γ' M' ⟨rfl,v2,rfl⟩
  rw [zLm,List.take_length]
  exact aK (aR (aB 1 rfl hk))
 rintro i dd Γ' M' hd ⟨rfl,v2,rfl⟩
 obtain ⟨t,ht,rfl⟩:=cA hd
 have hm:=zMo ht
 have b1:=lb t hm
 have b2:Bq (((t0::r).take i).foldl fQ t0).1:=by
  rcases zK ((t0::r).take i) t0 with q | q
  ·rw [q]; exact lb t0 (by simp)
  ·exact lb _ (List.mem_of_mem_take q)
 refine bO 2 lM.nd (aK (bK (b4 (aJ aRL hr (aA (aG aD (aB 2 rfl (z6 (aH (.tup _) rfl (aA (aG aD (aB 1 rfl (z6 (aH (.tup _) rfl (aC ⟨pq _,pq _,rfl,b1.p,b2.p,?_⟩)))))))))))))))
 rw [lQ]
 refine ⟨_,rfl,?_⟩
 have sn:=aGW (a:=t0) ht
 rw [show ∀ a b,fQ a b=if b.1 < a.1 then b else a from fun _ _=>rfl] at sn
 refine ite2 (fun q => ?_) (fun q => ?_)
 ·refine aK (aQ 1 lM.nd (aB 2 rfl ⟨rfl,some (neE t),?_⟩))
  rw [sn,if_pos (of_decide_eq_true q)]
  rfl
 ·refine bA ⟨rfl,some (neE t),?_⟩
  rw [sn,if_neg (fun z=>q (decide_eq_true z))]
  rfl
theorem aBH:FnScope zl18 zl18 (aP lP):=zSc
abbrev vN (P w K mg z):=Fo P w K mg z "point_on" lP zl18 1 aIZ
theorem aBK (Df:R.Df K mg "point_on" lP zl18 f fd):vN P w K mg z:=by
 refine ⟨f,fd,Df,a9 Df aBH (fun ds M k h=>?_) (fun _ _ _ _ _ _ hr ds M k h=>?_)⟩
 ·obtain ⟨t,c,a,rfl,_⟩:=h; rfl
 obtain ⟨t,c,a,rfl,hk⟩:=h
 refine aK (aR (lZ (bC iG (aM dF (aG aD (aB 0 rfl (z6 (aH (.tup _) rfl (z6 (aZ (by decide) (z6 (iB ⟨_,rfl,?_⟩))))))))))))
 unfold ptF at hk
 refine ite2 (fun q => ?_) (fun q => ?_)
 ·rw [if_pos (by have:=of_decide_eq_true q; omega)] at hk
  exact bV (aA (aB 1 rfl (aA (aB 2 rfl (aC ⟨(show 2<=sizeLine by decide),hk⟩)))))
 ·rw [if_neg (fun z=>q (decide_eq_true (by omega)))] at hk
  exact bV (aA (aB 2 rfl (aA (aB 1 rfl (aC ⟨(show 2<=sizeLine by decide),hk⟩)))))
theorem yX:FnScope ["yard", "paces", "x", "y", "told"] zl14 (aP rX):=zSc
abbrev aB5 (P w K mg z):=Fo P w K mg z "paper" rX zl14 8 aN3
theorem aH7 (Df:R.Df K mg "paper" rX zl14 f fd) (aRW:qL P w K mg z) (aR0:mC P w K mg z) (aR2:lC P w K mg z) (aRZ:j9 P w K mg z):aB5 P w K mg z:=by
 refine ⟨f,fd,Df,a9 Df yX (fun ds M k h=>?_) (fun _ _ _ _ _ _ hr ds M k h=>?_)⟩
 ·obtain ⟨A,e,n,w,s,x,y,N,d0,rfl,_⟩:=h; rfl
 obtain ⟨A,e,n,w,s,x,y,N,d0,rfl,env,ho,h0,hk⟩:=h
 have lx:=env.lx
 have ly:=env.ly
 have hh:=env.high.mono (show 61<=62 by decide)
 have hd:atI ((d7 A e n w s x y (aI A e n w s x y)).map (sdR A)) 0=some (sdR A d0):=by
  cases q:d7 A e n w s x y (aI A e n w s x y) with
  | nil=>rw [q] at h0; cases h0
  | cons a b=>rw [q] at h0; cases h0; exact at0
 refine aE (bK (bC iG (aJ aRW hr (aA (aB 0 rfl (aA (aB 2 rfl (aA (aB 3 rfl (aC ⟨A,x,y,rfl,fun w hw=>env.nm.bq (env.ax w hw),fun w hw=>env.nm.bq (env.ay w hw),by omega,by omega,env.nm.bq env.fx,env.nm.bq env.fy,?_⟩))))))))))
 refine ge_str (aGP ⟨_,rfl,?_⟩)
 rw [decide_eq_false ho]
 refine b5 (bA (aE (aQ 4 yX.nd (aJ aR0 hr (aA (aB 0 rfl (aA (aB 1 rfl (aA (aB 2 rfl (aA (aB 3 rfl (aC ⟨_,e,n,w,s,_,_,N,_,rfl,env.nm,env.ax,env.ay,env.fx,env.fy,by have:=env.lx; omega,by have:=env.ly; omega,env.o,?_⟩)))))))))))))
 exact aK (aR (bV (aA (aB 4 rfl (aA (aG aD (aJ aR2 hr (aA (aB 0 rfl (aA (aJ aRZ hr (aA (aB 1 rfl (aA (aB 2 rfl (aA (aB 3 rfl (aA (aB 4 rfl (aC ⟨e,n,w,s,x,y,_,rfl,env.o,env.sx.1,env.sx.2,hh,(aC ⟨A,e,n,w,s,x,y,_,N,rfl,env,hh,(z6 (aH (.lst _) hd (aC ⟨(show 2<=sizeLine by decide),hk⟩)))⟩)⟩))))))))))))))))))))
theorem eV:FnScope ["yard", "paces", "x", "y", "shown", "told", "front", "reached", "at", "nearest", "time", "turn", "last"] zl14 (aP vB):=zSc
abbrev yN (P w K mg z):=Fo P w K mg z "rain" vB zl14 9 aP1
theorem aKN (Df:R.Df K mg "rain" vB zl14 f fd) (aR6:aB5 P w K mg z) (aR2:lC P w K mg z) (aRZ:j9 P w K mg z) (aR7:xF P w K mg z) (aR8:qE P w K mg z) (aR9:vN P w K mg z) (aSA:yA P w K mg z) {aN:Addr} (CN:mg "NOUGHT" = some (.ref aN)) (EN:∀ G,Den K G (pairD (p1 0)) (.ref aN)):yN P w K mg z:=by
 refine ⟨f,fd,Df,a9 Df eV (fun ds M k h=>?_) (fun _ _ _ _ _ _ hr ds M k h=>?_)⟩
 ·obtain ⟨A,e,n,w,s,x,y,N,rfl,_⟩:=h; rfl
 obtain ⟨A,e,n,w,s,x,y,N,rfl,env,ho,hk⟩:=h
 have lx:=env.lx
 have ly:=env.ly
 have sl:=oF lx ly
 have z4:=aDZ env.o
 have hh:=env.high.mono (show 61<=62 by decide)
 obtain ⟨d0,h0⟩:=p6 z4 ho
 refine aE (aQ 4 eV.nd (aJ aR6 hr (aA (aB 0 rfl (aA (aB 1 rfl (aA (aB 2 rfl (aA (aB 3 rfl (aC ⟨A,e,n,w,s,x,y,N,d0,rfl,env,ho,h0,(aE (aQ 5 eV.nd (iF (aA (bV (aA (aB 2 rfl (aA (aB 3 rfl (aA (aG aD (aB 4 rfl (z6 (aH (.tup _) rfl (aC ⟨(show 3<=sizeLine by decide),(aC ⟨(show 1<=sizeLine by decide),fun a ha=>(aE (bK (bC (lY (n:=1) (R.units_le hr)) (aG aD (aB 4 rfl ?_)))))⟩)⟩)))))))))))))))⟩)))))))))))
 refine z6 (aH (.tup _) rfl (jQ CN EN (lX (e1:=aL _) (e2:=aL 0) (.tup _) (.tup _) rfl rfl ⟨_,rfl,?_⟩)))
 rw [iP]
 refine ite2 (fun q => ?_) (fun q=>bA ?_)
 ·refine gY 5 rfl aS ?_
  rw [fL ha]
  refine aK (aR (aB 5 rfl ?_))
  have q:=of_decide_eq_true q
  rw [q]
  exact hk [(x,y,0)] (.inl ⟨q,rfl⟩)
 have q:¬ (aI A e n w s x y)=0:=fun z=>q (decide_eq_true z)
 have H0:0 < (aI A e n w s x y):=by have:=(n4 A z4 x y).nn; grind
 have m0:d0∈d7 A e n w s x y (aI A e n w s x y):=by
  cases g:d7 A e n w s x y (aI A e n w s x y) with
  | nil=>rw [g] at h0; cases h0
  | cons a b=>rw [g] at h0; cases h0; simp
 have tl:(d7 A e n w s x y (aI A e n w s x y)).length<=60000:=Nat.le_trans (List.length_filter_le _ _) sl
 have rl:(reachF A e n w s x y (aI A e n w s x y) (frK A d0)).length<=60000:=Nat.le_trans (List.length_filter_le _ _) tl
 refine aE (aQ 6 eV.nd (fH aFY (aG aD (aB 4 rfl (z6 (aH (.tup _) rfl (gJ (gL (z6 ⟨_,rfl,(aEU (show ¬(HT.sIx 4 0 none=0/\HT.sIx 4 4 (some 2)=4) by decide) (aE (pB 7 ["front"] [6] eV.nd (b3 (aJ aR2 hr (aA (aB 0 rfl (aA (aJ aRZ hr (aA (aB 1 rfl (aA (aB 2 rfl (aA (aB 3 rfl (aA (aG aD (aB 4 rfl (z6 (aH (.tup _) rfl (aC ⟨e,n,w,s,x,y,_,rfl,env.o,env.sx.1,env.sx.2,hh,(aC ?_)⟩)))))))))))))))))))))⟩)))))))))
 refine ⟨A,e,n,w,s,x,y,_,N,rfl,env,hh,⟨_, .inr (.inl rfl),(aDM (ds:=(d7 A e n w s x y (aI A e n w s x y)).map (sdR A)) (by rw [zLm]; exact R.bG (by omega)) (fun i acc M'=>M'=b7 M a (.lst [p3D (x,y,(aI A e n w s x y))])/\acc=(((d7 A e n w s x y (aI A e n w s x y)).take i).filter fun d=>decide (frK A d=frK A d0)).map (sdR A)) ⟨rfl,rfl⟩ ?_ ?_)⟩⟩
 ·rintro i dd acc M' hd ⟨rfl,rfl⟩ _ _ _ _ _
  obtain ⟨d,hq,rfl⟩:=cA hd
  refine oG (bC (lY (n:=2) (R.units_le hr)) (fH aFY (aB 0 rfl (gJ (gL (z6 ⟨_,rfl,(aEU (show ¬(HT.sIx 4 0 none=0/\HT.sIx 4 4 (some 2)=4) by decide) (aB 1 rfl (lX (e1:=dP (frK A d)) (e2:=dP (frK A d0)) (.tup _) (.tup _) rfl rfl ⟨_,rfl,?_⟩)))⟩))))))
  rw [vM]
  refine ite2 (fun g=>fun _ _ _ _ _=> ?_) (fun g=>⟨rfl,?_⟩)
  ·refine aB 0 rfl ⟨rfl,?_⟩
   rw [m9 _ hq,if_pos g,List.map_append]
   rfl
  ·rw [m9 _ hq,if_neg g,List.append_nil]
 rintro acc M' ⟨rfl,rfl⟩ b hb
 rw [zLm,List.take_length]
 refine gY 7 rfl aS ?_
 rw [fL hb]
 refine aE (aQ 8 eV.nd (lZ (bC iG (aM dF (aG aD (aB 6 rfl (z6 (aH (.tup _) rfl (z6 (aZ (by decide) (z6 (iB ⟨_,rfl,(aQ9 (fun g c=>aB 3 (d:=aL (axF A e n w s x y d0.f).y) ?_ c) (fun g c=>aB 2 (d:=aL (axF A e n w s x y d0.f).y) ?_ c) ?_)⟩))))))))))))
 ·have g:((d0.f:Int)) % 2=0:=of_decide_eq_true g
  unfold axF
  rw [if_pos (by omega)]
  rfl
 ·have g:¬ ((d0.f:Int)) % 2=0:=of_decide_eq_false g
  unfold axF
  rw [if_neg (by omega)]
  rfl
 have rne:reachF A e n w s x y (aI A e n w s x y) (frK A d0)≠[]:=fun z=>by
  have:d0∈reachF A e n w s x y (aI A e n w s x y) (frK A d0):=List.mem_filter.mpr ⟨m0,decide_eq_true rfl⟩
  rw [z] at this; cases this
 have rin:∀ d∈reachF A e n w s x y (aI A e n w s x y) (frK A d0),d∈cX A/\Tch A e n w s x y (aI A e n w s x y) d/\frK A d=frK A d0:=fun d hd=>by
  have m1:=List.mem_filter.mp hd
  have m2:=List.mem_filter.mp m1.1
  exact ⟨m2.1,fK.mp m2.2,of_decide_eq_true m1.2⟩
 obtain ⟨d,sd,es⟩:=aKY (neD A e n w s x y) rne
 obtain ⟨hd,tc,efr⟩:=rin d sd.mem.1
 have hf:=(R.gW hd).1
 have ef:d.f=d0.f:=congrArg Prod.fst efr
 have el:dE A d=dE A d0:=congrArg Prod.snd efr
 have wm:=aM4 hf tc
 obtain ⟨s1,s2⟩:=env.neS d
 have kk:=hk (eP A e n w s x y (aI A e n w s x y) d) (.inr ⟨H0,d0,d,h0,efr,by rw [efr]; exact sd,rfl⟩)
 rw [wm] at kk
 refine aE (aQ 9 eV.nd (aJ aR7 hr (aA (bP ["paces", "at"] [1,8] (b3 (aB 7 rfl ⟨_, .inr (.inl rfl),(cU (ds:=(reachF A e n w s x y (aI A e n w s x y) (frK A d0)).map (sdR A)) (by rw [zLm]; exact R.bG (by omega)) (fun i acc M'=>M'=b7 M a (.lst [p3D (x,y,(aI A e n w s x y))])/\acc=(((reachF A e n w s x y (aI A e n w s x y) (frK A d0)).take i).map (neD A e n w s x y)).map neE) ⟨rfl,rfl⟩ ?_ ?_)⟩))))))
 ·rintro i dd acc M' hd0 ⟨rfl,rfl⟩ _ _ _ _ _
  obtain ⟨d',hq,rfl⟩:=cA hd0
  obtain ⟨i1,i2,i3⟩:=rin d' (zMo hq)
  have ef':d'.f=d0.f:=congrArg Prod.fst i3
  refine bY (bU fun _ _ _ _ _=>(aJ aR8 hr (aA (aB 1 rfl (aA (aB 0 rfl (aA (aB 2 rfl (aC ⟨A,d',e,n,w,s,x,y,N,by rw [ef'],(R.gW i1).1,env,⟨rfl,?_⟩⟩)))))))))
  rw [cS hq,List.map_append]
  rfl
 rintro acc M' ⟨rfl,rfl⟩
 rw [zLm,List.take_length]
 refine aC ⟨_,rfl,by simpa using rne,by rw [zLm]; exact rl,fun t ht => ?_,?_⟩
 ·obtain ⟨d',hq,rfl⟩:=List.mem_map.mp ht
  exact (env.neS d').1.bq (by decide)
 rw [es]
 refine aE (aQ 10 eV.nd (aG aD (aB 9 rfl (z6 (aH (.tup _) rfl (aE (bK (f7 (kL (bC (mK (n:=1) (R.units_le hr)) (aB 10 rfl (jQ CN EN (mJ (e1:=aL _) (e2:=aL 0) (.tup _) (.tup _) rfl rfl ⟨_,rfl,?_⟩)))))))))))))
 rw [iP]
 refine ite2 (fun w1=>oN (bC (mK (n:=1) (R.units_le hr)) ?_)) (fun w1 => ?_)
 rotate_left
 ·rw [if_neg (fun z=>w1 (by rw [decide_eq_false z.1]; rfl))] at kk
  refine b5 (bA (aE (aQ 12 eV.nd (aJ aR9 hr (aA (aB 6 rfl (aA (aG aD (aB 6 rfl (z6 (aH (.tup _) rfl (aA (aG aD (aB 9 rfl (z6 (aH (.tup _) rfl (aC ⟨frK A d,dE A d,(neD A e n w s x y d).2,by rw [efr,el]; rfl,?_⟩)))))))))))))))))
  refine aE (eU (fS PySem.F.plainAttrs_list PySem.F.slot_list_append PySem.F.type_list_append cT (aB 5 rfl (⟨⟨rfl,_,aS⟩,(aA (bV (aA (aG aD (aB 12 rfl (z6 (aH (.tup _) rfl (aA (aG aD (aB 12 rfl (z6 (aH (.tup _) rfl (aA (jQ CN EN (aC ⟨(show 3<=sizeLine by decide),(aC (dD aS (show 1 < sizeLine by decide) ?_))⟩)))))))))))))))⟩))))
  rw [dN]
  refine gY 5 rfl aS ?_
  rw [fL ha]
  exact aK (aR (aB 5 rfl kk))
 refine aB 10 rfl (aG aD (aB 4 rfl (z6 (aH (.tup _) rfl (mJ (e1:=aL _) (e2:=aL _) (.tup _) (.tup _) rfl rfl ⟨_,rfl,?_⟩)))))
 rw [iP]
 refine ite2 (fun w2 => ?_) (fun w2=>bA ?_)
 rotate_left
 ·rw [if_neg (fun z=>w2 (by rw [decide_eq_false z.2]; rfl))] at kk
  refine aE (aQ 12 eV.nd (aJ aR9 hr (aA (aB 6 rfl (aA (aG aD (aB 6 rfl (z6 (aH (.tup _) rfl (aA (aG aD (aB 9 rfl (z6 (aH (.tup _) rfl (aC ⟨frK A d,dE A d,(neD A e n w s x y d).2,by rw [efr,el]; rfl,?_⟩)))))))))))))))
  refine aE (eU (fS PySem.F.plainAttrs_list PySem.F.slot_list_append PySem.F.type_list_append cT (aB 5 rfl (⟨⟨rfl,_,aS⟩,(aA (bV (aA (aG aD (aB 12 rfl (z6 (aH (.tup _) rfl (aA (aG aD (aB 12 rfl (z6 (aH (.tup _) rfl (aA (jQ CN EN (aC ⟨(show 3<=sizeLine by decide),(aC (dD aS (show 1 < sizeLine by decide) ?_))⟩)))))))))))))))⟩))))
  rw [dN]
  refine gY 5 rfl aS ?_
  rw [fL ha]
  exact aK (aR (aB 5 rfl kk))
 rw [if_pos ⟨(fun z=>by rw [decide_eq_true z] at w1; cases w1),(fun z=>by rw [decide_eq_true z] at w2; cases w2)⟩] at kk
 refine aE (aQ 11 eV.nd (aJ aR9 hr (aA (aB 6 rfl (aA (aJ aSA hr (aA (aB 1 rfl (aA (aB 6 rfl (aA (aB 10 rfl (aC ⟨e,n,w,s,frK A d,_,by rw [efr]; rfl,hf,env.o,Sz.ofFr env.nm (env.ls d).1,s1.mono (by decide),(aA (aB 8 rfl (aC ⟨frK A d,jO e n w s (frK A d) (neD A e n w s x y d).1,(axF A e n w s x y d.f).y,by rw [efr,ef]; rfl,?_⟩)))⟩)))))))))))))
 refine aK (eU (fS PySem.F.plainAttrs_list PySem.F.slot_list_append PySem.F.type_list_append cT (aB 5 rfl (⟨⟨rfl,_,aS⟩,(aA (bV (aA (aG aD (aB 11 rfl (z6 (aH (.tup _) rfl (aA (aG aD (aB 11 rfl (z6 (aH (.tup _) rfl (aA (aB 10 rfl (aC ⟨(show 3<=sizeLine by decide),(aC (dD aS (show 1 < sizeLine by decide) ?_))⟩)))))))))))))))⟩))))
 rw [dN]
 refine aE (aQ 12 eV.nd (aJ aR9 hr (aA (aB 6 rfl (aA (aG aD (aB 6 rfl (z6 (aH (.tup _) rfl (aA (aG aD (aB 9 rfl (z6 (aH (.tup _) rfl (aC ⟨frK A d,dE A d,(neD A e n w s x y d).2,by rw [efr,el]; rfl,?_⟩)))))))))))))))
 refine aE (eU (fS PySem.F.plainAttrs_list PySem.F.slot_list_append PySem.F.type_list_append cT (aB 5 rfl (⟨⟨rfl,_,aS⟩,(aA (bV (aA (aG aD (aB 12 rfl (z6 (aH (.tup _) rfl (aA (aG aD (aB 12 rfl (z6 (aH (.tup _) rfl (aA (jQ CN EN (aC ⟨(show 3<=sizeLine by decide),(aC (dD aS (show 2 < sizeLine by decide) ?_))⟩)))))))))))))))⟩))))
 rw [dN]
 refine gY 5 rfl aS ?_
 rw [fL ha]
 exact aK (aR (aB 5 rfl kk))
end
end Q
namespace Q
open PySem L2 Z U
def aM8:Ct:=fun ds M k=>∃ (p:Addr) (b0:Int) (A:Yd) (e n w s:Int) (x y:Rat) (N:Nat),ds=[.mt p,yd A,fE e n w s,aL x,aL y]/\PnM M p b0/\b0<=600000/\Bs A e n w s x y N/\c8 (bN A.K (aU A.ws x) (aU A.us y))≠("out" : Str)/\∀ M',PnM M' p (b0+30)->cH p M M'->k (.bl true) M'
end Q
namespace Q
open PySem L2 Z
open U
section
variable {P:Program}{w:World}{K:PySem.W.Frag}{mg:Str->Option Value}{z:Heap}{f:Addr}{fd:FuncData}
theorem gX:FnScope ["_law_pen_here", "_law_yard", "_law_paces_here", "_law_x", "_law_y", "_law_way", "_law_front", "_law_one", "_law_other"] zl1 (aP j8):=zSc
abbrev tN (P w K mg z):=Fo P w K mg z "_law_way_right" j8 zl1 11 aM8
theorem zX (Df:R.Df K mg "_law_way_right" j8 zl1 f fd) (aSB:yN P w K mg z) (aR5:nG P w K mg z) (aR0:mC P w K mg z) (aRW:qL P w K mg z) (aSC:nN P w K mg z) (aSD:qD P w K mg z) (T:Bt mg):tN P w K mg z:=by
 refine ⟨f,fd,Df,a9 Df gX (fun ds M k h=>?_) (fun _ _ _ _ _ _ hr ds M k h=>?_)⟩
 ·obtain ⟨p,b0,A,e,n,w,s,x,y,N,rfl,_⟩:=h; rfl
 obtain ⟨p,b0,A,e,n,w,s,x,y,N,rfl,hF0,hb0,bs,ho,hk⟩:=h
 have env:=bs.env
 have z4:=aDZ bs.o
 have lx:=bs.lx
 have ly:=bs.ly
 obtain ⟨d0,h0⟩:=p6 z4 ho
 have h1:gP A e n w s x y=some (frK A d0):=by unfold gP; rw [h0]; rfl
 generalize frK A d0=t0 at h1
 refine aE (aQ 5 gX.nd (aJ aSB hr (aA (aB 1 rfl (aA (aB 2 rfl (aA (aB 3 rfl (aA (aB 4 rfl (aC ⟨A,e,n,w,s,x,y,N,rfl,env,ho,fun l hl => ?_⟩)))))))))))
 have wf:=(hl.way z4).walk bs ho h1
 obtain ⟨r,er⟩:=wf.hd
 obtain ⟨l',c,el,c0,rim,w3⟩:=wf.la
 have ln:=wf.ln
 have sc:=w3.sz bs.m1 bs.m0
 have i0:atI (l.map p3D) 0=some (p3D (x,y,aI A e n w s x y)):=by rw [er]; exact at0
 have iL:atI (l.map p3D) (-1)=some (p3D c):=by rw [el,List.map_append]; exact l6 _ _
 refine aE (aQ 6 gX.nd (aG aD (mV (aJ aR5 hr (aA (aB 1 rfl (aA (aB 2 rfl (aA (aB 3 rfl (aA (aB 4 rfl (aC (⟨A,e,n,w,s,_,_,_,rfl,env,fun aF nF=>⟨aF,_,M,rfl,aS,nF,(Le.refl M).upd nF,(z6 (aH (.lst _) (zG h1) (aE (bK (f7 (gU (bC pP (aW bJ T.len PySem.boot_len (aA (aB 5 rfl (aC (cL (.lst _) (z6 (eQ ⟨_,rfl,?_⟩))))))))))))))⟩⟩))))))))))))))
 rw [decide_eq_false (by rw [zLm]; omega)]
 refine b5 (gU (bC (mK (n:=2) (R.units_le hr)) (aG aD (aB 5 rfl (z6 (aH (.lst _) i0 (bV (aA (aB 3 rfl (aA (aB 4 rfl (aA (aJ aR0 hr (aA (aB 1 rfl (aA (aB 2 rfl (aA (aB 3 rfl (aA (aB 4 rfl (aC ⟨_,e,n,w,s,_,_,N,_,rfl,env.nm,env.ax,env.ay,env.fx,env.fy,by have:=env.lx; omega,by have:=env.ly; omega,env.o,?_⟩))))))))))))))))))))))
 refine aC ⟨(show 3<=sizeLine by decide),(mJ (e1:=p3D _) (e2:=p3D (x,y,aI A e n w s x y)) (.tup _) (.tup _) rfl rfl ⟨_,rfl,?_⟩)⟩
 rw [eqD_refl 2 _ (okP3 _)]
 refine b5 (iU (bC (mK (n:=1) (R.units_le hr)) (aG aD (aG aD (aB 5 rfl (gA eN (z6 ⟨_,rfl,(aH (.lst _) iL (z6 (aH (.tup _) rfl (bV (aA (z6 (aA (z6 (aC ⟨(show 2<=sizeLine by decide),(mJ (e1:=aL c.2.2) (e2:=aL 0) (.tup _) (.tup _) rfl rfl ⟨_,rfl,?_⟩)⟩)))))))))⟩)))))))
 rw [iP,decide_eq_true c0]
 refine b5 (bA (aE (bK (bC pG (aJ aRW hr (aA (aB 1 rfl (aA (aG aD (aG aD (aB 5 rfl (gA eN (z6 ⟨_,rfl,(aH (.lst _) iL (z6 (aH (.tup _) rfl (aA (aG aD (aG aD (aB 5 rfl (gA eN (z6 ⟨_,rfl,(aH (.lst _) iL (z6 (aH (.tup _) rfl (aC ⟨A,c.1,c.2.1,rfl,fun w hw=>env.nm.bq (env.ax w hw),fun w hw=>env.nm.bq (env.ay w hw),by omega,by omega,sc.1.bq (by decide),sc.2.1.bq (by decide),(ge_str (qM ⟨_,rfl,?_⟩))⟩))))⟩)))))))))⟩)))))))))))))
 rw [decide_eq_true rim]
 refine b5 (bA (aE (eB (aMV T.zip PyProof.Rows.boot_zip (aA (aB 5 rfl (aA (fH jB (aB 5 rfl (gL (z6 ⟨_,rfl,(gJ (kJ (.lst _) (aC ⟨_,_,rfl,by rw [mF,zLm,er,List.length_cons]; omega,?_⟩)))⟩)))))))))))
 have zn:(jZ (l.map p3D) (cutD (l.map p3D) (some 1) none)).length<=2:=by unfold jZ; rw [zLm,List.length_zip,mF,zLm]; omega
 refine ⟨fun i Γ' M'=>(PnM M' p (b0+10 * i)/\cH p M M')/\∃ v7 v8,Γ'=[some (.mt p),some (yd A),some (fE e n w s),some (aL x),some (aL y),some (.lst (l.map p3D)),some (dP t0),v7,v8],⟨⟨hF0.mono (by omega),cH.refl p M⟩,_,_,rfl⟩,?_,?_⟩
 ·rintro i dd Γ' M' hd ⟨⟨hF,hB⟩,v7,v8,rfl⟩
  have il:=(zGs hd).1
  obtain ⟨d1,d2,rfl⟩:=zN (zMo hd)
  obtain ⟨b1,b2⟩:=aFP hd
  obtain ⟨a,ha,rfl⟩:=cA b1
  rw [pR,List.getElem?_drop] at b2
  obtain ⟨b,hb,rfl⟩:=cA b2
  rw [Nat.add_comm] at hb
  obtain ⟨d,rn,sc',fe,wa,wb⟩:=wf.st i a b ha hb
  subst fe
  refine iK rfl (bZ (bO 7 gX.nd (bZ (bO 8 gX.nd (gI (aK (bK (c6 (b4 (aJ aSC hr (aA (aB 0 rfl (aA (aB 1 rfl (aA (aB 2 rfl (aA (aB 6 rfl (aA (aB 7 rfl (aA (aB 8 rfl (aC ⟨p,b0+10 * i,A,e,n,w,s,x,y,N,d,a,b,rfl,hF,by omega,bs,rn,sc',wa,wb,fun M2 hF2 hB2 => ?_⟩)))))))))))))))))))))))
  exact ⟨_,rfl,(b5 (bA ⟨⟨hF2.mono (by omega),hB.trans hB2⟩,_,_,rfl⟩))⟩
 rintro Γ' M' ⟨⟨hF,hB⟩,v7,v8,rfl⟩
 have hk':=hk M' (hF.mono (by omega)) hB
 refine aK (aR (aQD (gE j6 (aW bJ T.len PySem.boot_len (aA (aB 5 rfl (aC (cL (.lst _) (z6 (eQ ⟨_,rfl,(ite2 (fun q => ?_) (fun q=>iQ ?_))⟩))))))))))
 ·exact q ▸ hk'
 obtain ⟨d,t,hf,fe,u1,u2,u3⟩:=wf.up (by rw [zLm] at q; have:=of_decide_eq_false (Bool.eq_false_iff.mpr q); omega)
 subst fe
 refine aJ aSD hr (aA (aB 2 rfl (aA (aB 6 rfl (aA (aG aD (aB 5 rfl (z6 (aH (.lst _) i0 (aA (aG aD (aB 5 rfl (z6 (aH (.lst _) (dC (j:=1) (by rw [List.getElem?_map,u1]; rfl)) ?_))))))))))))))
 exact aC (⟨A,e,n,w,s,x,y,aI A e n w s x y,d,t,rfl,hf,bs.o,⟨env.sx.1,env.sx.2,u3⟩,u2,hk'⟩)
theorem i4:FnScope ["_law_pen_here", "_law_yard", "_law_paces_here", "_law_x", "_law_y", "_law_way", "_law_front", "_law_here"] zl1 (aP jM):=zSc
abbrev rG (P w K mg z):=Fo P w K mg z "_law_rest_right" jM zl1 10 aNT
theorem yB (Df:R.Df K mg "_law_rest_right" jM zl1 f fd) (aSB:yN P w K mg z) (aR5:nG P w K mg z) (aR3:jH P w K mg z) (aR4:qO P w K mg z) (T:Bt mg):rG P w K mg z:=by
 refine ⟨f,fd,Df,a9 Df i4 (fun ds M k h=>?_) (fun _ _ _ _ _ _ hr ds M k h=>?_)⟩
 ·obtain ⟨p,b0,A,e,n,w,s,x,y,N,rfl,_⟩:=h; rfl
 obtain ⟨p,b0,A,e,n,w,s,x,y,N,rfl,hF0,hb0,bs,ho,hk⟩:=h
 have env:=bs.env
 have z4:=aDZ bs.o
 obtain ⟨d0,h0⟩:=p6 z4 ho
 have h1:gP A e n w s x y=some (frK A d0):=by unfold gP; rw [h0]; rfl
 generalize frK A d0=t0 at h1
 refine aE (aQ 5 i4.nd (aJ aSB hr (aA (aB 1 rfl (aA (aB 2 rfl (aA (aB 3 rfl (aA (aB 4 rfl (aC ⟨A,e,n,w,s,x,y,N,rfl,env,ho,fun l hl => ?_⟩)))))))))))
 have wr:=hl.way z4
 refine aE (bK (bC iG (aW bJ T.len PySem.boot_len (aA (aB 5 rfl (aC (cL (.lst _) (z6 (iB ⟨_,rfl,(ite2 (fun q => ?_) (fun q=>bA ?_))⟩)))))))))
 ·exact aK (aR (kH (hk M (hF0.mono (by omega)) (cH.refl p M))))
 obtain ⟨d,W1,rest,rn,sd,fe,hw,el,g1,wa,wb,rlen⟩:=wr.more bs h1 (fun z=>q (decide_eq_true (by rw [zLm,z]; rfl)))
 subst fe
 subst el
 have sa:=wa.sz bs.m1 bs.m0
 have sb:=wb.sz bs.m1 bs.m0
 refine aE (aQ 6 i4.nd (aG aD (mV (aJ aR5 hr (aA (aB 1 rfl (aA (aB 2 rfl (aA (aB 3 rfl (aA (aB 4 rfl (aC (⟨A,e,n,w,s,_,_,_,rfl,env,fun aF nF=>⟨aF,_,M,rfl,aS,nF,(Le.refl M).upd nF,(z6 (aH (.lst _) (zG h1) (aE (aQ 7 i4.nd (aJ aR4 hr (aA (aG aD (aB 5 rfl (z6 (aH (.lst _) at0 (aA (aG aD (aB 5 rfl (z6 (aH (.lst _) (dC (j:=1) rfl) (aA (bV (aA (aM cF (z6 ?_))))))))))))))))))))⟩⟩))))))))))))))
 refine aJ aR3 hr (aA (aB 0 rfl (aA (z6 (aC ⟨p,_,_,rfl,by decide,by decide,hF0,by omega,fun z1 M1 z10 z11 hF1 hB1 hE1 => ?_⟩)))))
 have pr:=prt13 z10 z11
 refine bM (aA (z6 (aC ⟨(show 2<=sizeLine by decide),(aC ⟨(x,y,aI A e n w s x y),W1,1+z1,13,rfl,sa,sb,pr,?_⟩)⟩)))
 obtain ⟨l0,l1⟩:=pr.lt (by omega) (by omega)
 have env2:=bs.mix wa wb pr
 have hout:=aLZ rn g1 l0 l1
 have key:=fun l'=>aEQ rn sd hw g1 l0 l1 (l':=l')
 obtain ⟨d2,h2⟩:=p6 z4 hout
 have h3:gP A e n w s (cM (Rat.divInt (1+z1) 13) (x,y,aI A e n w s x y) W1).1 (cM (Rat.divInt (1+z1) 13) (x,y,aI A e n w s x y) W1).2.1=some (frK A d2):=by unfold gP; rw [h2]; rfl
 generalize frK A d2=t2 at h3
 generalize cM (Rat.divInt (1+z1) 13) (x,y,aI A e n w s x y) W1=t at *
 refine aE (bK (bC (mK (n:=2) (R.units_le hr)) (aG aD (mV (aJ aR5 hr (aA (aB 1 rfl (aA (aB 2 rfl (aA (aG aD (aB 7 rfl (z6 (aH (.tup _) rfl (aA (aG aD (aB 7 rfl (z6 (aH (.tup _) rfl (aC (⟨A,e,n,w,s,_,_,_,rfl,env2,fun aF nF=>⟨aF,_,M1,rfl,aS,nF,(Le.refl M1).upd nF,(z6 (aH (.lst _) (zG h3) (aB 6 rfl (mJ (e1:=dP _) (e2:=dP _) (.tup _) (.tup _) rfl rfl ⟨_,rfl,?_⟩))))⟩⟩)))))))))))))))))))))
 rw [vM]
 refine ite2 (fun q => ?_) (fun q=>bA ?_)
 ·exact aK (aR (kH (hk M1 (hF1.mono (by omega)) hB1)))
 have e2:t2=frK A d:=Classical.byContradiction fun z=>q (by rw [decide_eq_false z]; rfl)
 rw [e2] at h3
 refine aK (aR (gE (lY (n:=3) (R.units_le hr)) (aJ aSB hr (aA (aB 1 rfl (aA (aB 2 rfl (aA (aG aD (aB 7 rfl (z6 (aH (.tup _) rfl (aA (aG aD (aB 7 rfl (z6 (aH (.tup _) rfl (aC ⟨A,e,n,w,s,t.1,t.2.1,N * 2520 * 806,rfl,env2,hout,fun l' hl' => ?_⟩))))))))))))))))))
 have el:=key l' hl' h3
 subst el
 refine aM oW (dR (aA (aB 7 rfl (aC ⟨(show 1<=sizeLine by decide),(fH jB (aB 5 rfl (gL (z6 ⟨_,rfl,(gJ (kJ (.lst _) (o0 (.lst _) (.lst _) (by rw [mF,zLm]; exact R.bG (show 1+(rest.length+1+1 - 1)<=_ by omega)) ?_)))⟩))))⟩))))
 rw [pR]
 refine lX (e1 := .lst ((t::W1::rest).map p3D)) (e2 := .lst ((t::W1::rest).map p3D)) (.lst _) (.lst _) (aDR _) (aDR _) ?_
 rw [eqD_refl 3 _ (aDR _)]
 exact hk M1 (hF1.mono (by omega)) hB1
theorem qA:FnScope ["_law_pen_here", "_law_lines_here", "_law_bottom", "_law_k", "_law_way", "_law_other"] zl3 (aP sP):=zSc
abbrev aCE (P w K mg z):=Fo P w K mg z "_law_along" sP zl3 2 aO8
theorem aJ0 (Df:R.Df K mg "_law_along" sP zl3 f fd) (aR3:jH P w K mg z) (T:Bt mg):aCE P w K mg z:=by
 refine ⟨f,fd,Df,a9 Df qA (fun ds M k h=>?_) (fun _ _ _ _ _ _ hr ds M k h=>?_)⟩
 ·obtain ⟨p,b,xs,c,rfl,_⟩:=h; rfl
 obtain ⟨p,b,xs,c,rfl,hF0,hb,ux,lx,c1,c2,hk⟩:=h
 have fx:=ux.few
 have c3:c.natAbs<=200000000000000000000:=by unfold bot at c2; omega
 have ml:(xs.map D.int).length=xs.length:=zLm ..
 refine aE (aQ 3 qA.nd (aJ aR3 hr (aA (aB 0 rfl (aA (aW bJ T.len PySem.boot_len (aA (aB 1 rfl (aC (cL (.lst _) (aC ⟨p,_,_,rfl,by rw [ml]; omega,by rw [ml]; omega,hF0,by omega,fun z1 M1 z10 z11 hF1 hB1 hE1 => ?_⟩)))))))))))
 rw [ml] at z11
 obtain ⟨x,hx,hxa⟩:=wQ (xs:=xs) (i:=z1) z10 z11
 have bx:=ux.bd x (zMo hx)
 refine aE (aQ 4 qA.nd (aJ aR3 hr (aA (aB 0 rfl (aA (z6 (aC ⟨p,_,_,rfl,by decide,by decide,hF1,by omega,fun z2 M2 z20 z21 hF2 hB2 hE2 => ?_⟩)))))))
 have hB12:=hB1.trans hB2
 refine aE (bK (bC iG (aB 4 rfl (z6 (iB ⟨_,rfl,(ite2 (fun h1 => ?_) (fun h1=>bA ?_))⟩)))))
 ·exact aK (aR (aM fD (aG aD (aB 1 rfl (aB 3 rfl (aH (.lst _) hxa (aB 2 rfl (aZ (.inl ⟨by omega,by omega⟩) (hk _ _ ⟨al1 (by omega) c3⟩ (hF2.mono (by omega)) hB12)))))))))
 refine aE (bK (bC iG (aB 4 rfl (z6 (iB ⟨_,rfl,(ite2 (fun h2 => ?_) (fun h2=>bA ?_))⟩)))))
 ·obtain ⟨f,hf,hfa⟩:=wQ (xs:=xs) (i:=0) (by omega) (by omega)
  obtain ⟨xr,l,hl⟩:=wO (l:=xs) (fun e=>by rw [e] at lx; simp at lx)
  have bf:=ux.bd f (zMo hf)
  have bl:=ux.bd l (by rw [hl]; simp)
  have hla:atI (xs.map D.int) (-1)=some (.int l):=by rw [hl,List.map_append]; exact l6 _ _
  refine aK (aR (aG aD (dR (aA (aM bR (aM fD (aG aD (aB 1 rfl (z6 (aH (.lst _) hfa (aB 2 rfl (aZ (.inl ⟨by omega,by omega⟩) (aJ aR3 hr (aA (aB 0 rfl (aA (z6 (aC ⟨p,_,_,rfl,by decide,by decide,hF2,by omega,fun z3 M3 z30 z31 hF3 hB3 hE3 => ?_⟩))))))))))))))))))
  refine bM (aA (aM cF (aM fD (aG aD (aB 1 rfl (gA eN (z6 ⟨_,rfl,(aH (.lst _) hla (aB 2 rfl (aZ (.inl ⟨by omega,by omega⟩) (aJ aR3 hr (aA (aB 0 rfl (aA (z6 (aC ⟨p,_,_,rfl,by decide,by decide,hF3,by omega,fun z4 M4 z40 z41 hF4 hB4 hE4 => ?_⟩)))))))))⟩)))))))
  refine bM (aC ⟨(show 2<=sizeLine by decide),(aJ aR3 hr (aA (aB 0 rfl (aA (z6 (aC ⟨p,_,_,rfl,by decide,by decide,hF4,by omega,fun z5 M5 z50 z51 hF5 hB5 hE5 => ?_⟩))))))⟩)
  obtain ⟨q,hq,hq2⟩:=aG1 z50 z51 (a:=f * c - z3) (b:=l * c+z4)
  refine aH (.lst _) hq (hk _ _ ⟨?_⟩ (hF5.mono (by omega)) (((hB12.trans hB3).trans hB4).trans hB5))
  rcases hq2 with rfl | rfl
  ·exact al2 (by omega) c3 (by omega)
  ·exact al2' (by omega) c3 (by omega)
 obtain ⟨o,ho,hoa⟩:=wQ (xs:=xs) (i:=if (xs.length:Int) - 1 < z1+1 then (xs.length:Int) - 1 else z1+1) (by split <;> omega) (by split <;> omega)
 have bo:=ux.bd o (zMo ho)
 refine aE (aQ 5 qA.nd (aG aD (aB 1 rfl (aW (aFF rfl) T.min BMin (aA (aM cF (aB 3 rfl (z6 (bM (aA (aM bR (aW bJ T.len PySem.boot_len (aA (aB 1 rfl (aC (cL (.lst _) (z6 (bM (aC (aOF (aH (.lst _) (by rw [ml]; exact hoa) (aK (aR (aM cF (aM fD (aG aD (aB 1 rfl (aB 3 rfl (aH (.lst _) hxa (aB 2 rfl (aZ (.inl ⟨by omega,by omega⟩) (aM sG (aM fD (aM fD (aM bR (aB 5 rfl ?_))))))))))))))))))))))))))))))))))))
 refine aG aD (aB 1 rfl (aB 3 rfl (aH (.lst _) hxa (bM (aB 2 rfl (aZ (.inl ⟨by omega,by omega⟩) (aJ aR3 hr (aA (aB 0 rfl (aA (z6 (aC ⟨p,_,_,rfl,by decide,by decide,hF2,by omega,fun z3 M3 z30 z31 hF3 hB3 hE3 => ?_⟩))))))))))))
 exact aZ (.inr ⟨by omega,by omega⟩) (z6 (aZ ⟨by decide,by decide⟩ (bM (hk _ _ ⟨al3 (by omega) (by omega) c3 (by omega)⟩ (hF3.mono (by omega)) (hB12.trans hB3)))))
theorem aA0:FnScope ["_law_pen_here", "_law_xs", "_law_ys", "_law_bottom"] zl5 (aP sA):=zSc
abbrev aCO (P w K mg z):=Fo P w K mg z "_law_point" sA zl5 3 aPV
theorem aJO (Df:R.Df K mg "_law_point" sA zl5 f fd) (aR3:jH P w K mg z) (aSE:aCE P w K mg z) (T:Bt mg):aCO P w K mg z:=by
 refine ⟨f,fd,Df,a9 Df aA0 (fun ds M k h=>?_) (fun _ _ _ _ _ _ hr ds M k h=>?_)⟩
 ·obtain ⟨p,b,xs,ys,rfl,_⟩:=h; rfl
 obtain ⟨p,b,xs,ys,rfl,hF0,hb,ux,lx,uy,ly,hk⟩:=h
 refine aE (aQ 3 aA0.nd (aG aD (dR (aA (z6 (aA (z6 (aA (aM cF (z6 (aJ aR3 hr (aA (aB 0 rfl (aA (z6 (aC ⟨p,_,_,rfl,by decide,by decide,hF0,by omega,fun z1 M1 z10 z11 hF1 hB1 hE1 => ?_⟩))))))))))))))))
 refine bM (aA (aM cF (aM mO (z6 (z6 (aZ ⟨by decide,by decide,by decide⟩ (aJ aR3 hr (aA (aB 0 rfl (aA (aM mO (z6 (z6 (aZ ⟨by decide,by decide,by decide⟩ (aC ⟨p,_,_,rfl,by decide,by decide,hF1,by omega,fun z2 M2 z20 z21 hF2 hB2 hE2 => ?_⟩)))))))))))))))
 refine bM (aC ⟨(show 4<=sizeLine by decide),(aJ aR3 hr (aA (aB 0 rfl (aA (z6 (aC ⟨p,_,_,rfl,by decide,by decide,hF2,by omega,fun z3 M3 z30 z31 hF3 hB3 hE3 => ?_⟩))))))⟩)
 obtain ⟨c,hc,c1,c2⟩:=aJP z10 z11 z20 z21 z30 z31
 refine aH (.lst _) hc (aK (aR (bV (aA (aJ aSE hr (aA (aB 0 rfl (aA (aB 1 rfl (aA (aB 3 rfl (aC ⟨p,_,xs,c,rfl,hF3,by omega,ux,lx,c1,c2,fun u M4 hu hF4 hB4 => ?_⟩))))))))))))
 refine aA (aJ aSE hr (aA (aB 0 rfl (aA (aB 2 rfl (aA (aB 3 rfl (aC ⟨p,_,ys,c,rfl,hF4,by omega,uy,ly,c1,c2,fun v M5 hv hF5 hB5 => ?_⟩))))))))
 exact aA (aB 3 rfl (aC ⟨(show 3<=sizeLine by decide),(hk u v c _ hu hv c1 c2 (hF5.mono (by omega)) ((((hB1.trans hB2).trans hB3).trans hB4).trans hB5))⟩))
theorem mG:FnScope ["yard", "by_x", "by_y", "xs", "ys"] zl16 (aP kA):=zSc
abbrev tL (P w K mg z):=Fo P w K mg z "stretched" kA zl16 5 aBG
theorem zY (Df:R.Df K mg "stretched" kA zl16 f fd) (aRG:wN P w K mg z) (T:Bt mg):tL P w K mg z:=by
 refine ⟨f,fd,Df,a9 Df mG (fun ds M k h=>?_) (fun _ _ _ _ _ _ hr ds M k h=>?_)⟩
 ·obtain ⟨A,a,b,ha,hb,rfl,_⟩:=h; rfl
 obtain ⟨A,a,b,ha,hb,rfl,h9,g9,ba,bb,hl,gl,hk⟩:=h
 refine aE (aQ 3 mG.nd (c5 cY T.tuple R.BT (aA (bP ["by_x"] [1] (b3 (aG aD (aB 0 rfl (z6 (aH (.tup _) rfl ⟨_, .inl rfl,(cU (ds:=bD A.ws) (by rw [cQ]; exact R.bG (by omega)) (fun i acc M'=>M'=M/\acc=bD ((A.ws.take i).map (· * a))) ⟨rfl,rfl⟩ ?_ ?_)⟩)))))))))
 ·rintro i d acc M' hd ⟨rfl,rfl⟩ _ _ _ _ _
  obtain ⟨x,hx,rfl⟩:=cA hd
  refine bY (bU fun _ _ _ _ _=>(aJ aRG hr (aA (aB 0 rfl (aA (aB 1 rfl (aC ⟨_,_,rfl,h9 x (zMo hx),ba,⟨rfl,?_⟩⟩)))))))
  rw [cS hx,<- pV]
  rfl
 rintro acc M ⟨rfl,rfl⟩
 rw [cQ,List.take_length]
 refine aC (fZ (.lst _) (aE (aQ 4 mG.nd (c5 cY T.tuple R.BT (aA (bP ["by_y"] [2] (b3 (aG aD (aB 0 rfl (z6 (aH (.tup _) rfl ⟨_, .inl rfl,(cU (ds:=bD A.us) (by rw [cQ]; exact R.bG (by omega)) (fun i acc M'=>M'=M/\acc=bD ((A.us.take i).map (· * b))) ⟨rfl,rfl⟩ ?_ ?_)⟩)))))))))))
 ·rintro i d acc M' hd ⟨rfl,rfl⟩ _ _ _ _ _
  obtain ⟨x,hx,rfl⟩:=cA hd
  refine bY (bU fun _ _ _ _ _=>(aJ aRG hr (aA (aB 0 rfl (aA (aB 1 rfl (aC ⟨_,_,rfl,g9 x (zMo hx),bb,⟨rfl,?_⟩⟩)))))))
  rw [cS hx,<- pV]
  rfl
 rintro acc M ⟨rfl,rfl⟩
 rw [cQ,List.take_length]
 exact aC (fZ (.lst _) (aK (aR (bV (aA (aB 3 rfl (aA (aB 4 rfl (aA (aG aD (aB 0 rfl (z6 (aH (.tup _) rfl (aC ⟨(show 3<=sizeLine by decide),hk⟩))))))))))))))
theorem tZ:FnScope zl30 zl30 (aP gO):=zSc
abbrev oA (P w K mg z):=Fo P w K mg z "is_whole_line" gO zl30 2 aEH
theorem uA (Df:R.Df K mg "is_whole_line" gO zl30 f fd) (aRE:pI P w K mg z) {tF:Tok} (CF:mg "FARTHEST" = some (.int 1000000000 tF)):oA P w K mg z:=by
 refine ⟨f,fd,Df,a9 Df tZ (fun ds M k h=>?_) (fun _ _ _ _ _ _ hr ds M k h=>?_)⟩
 ·obtain ⟨x,rfl,_⟩:=h; rfl
 obtain ⟨x,rfl,h1,h2,hk⟩:=h
 refine aK (aR (jK (aJ aRE hr (aA (aB 0 rfl (aC ⟨_,rfl,trivial,(⟨_,rfl,bU (iQ (aHI aJ5 aJ5 (gA eN (uH CF ⟨_,rfl,(aB 0 rfl (eQ ⟨_,rfl,u8 (decide_eq_true (by omega)) (uH CF (eQ ?_))⟩))⟩))))⟩)⟩))))))
 rw [decide_eq_true h2]
 exact hk
theorem qW:FnScope zl30 zl30 (aP fN):=zSc
abbrev kW (P w K mg z):=Fo P w K mg z "are_whole_lines" fN zl30 3 aBJ
theorem qX (Df:R.Df K mg "are_whole_lines" fN zl30 f fd) (aSF:oA P w K mg z) (T:Bt mg) {tM:Tok} (CM:mg "MOST_LINES" = some (.int 7 tM)):kW P w K mg z:=by
 refine ⟨f,fd,Df,a9 Df qW (fun ds M k h=>?_) (fun _ _ _ _ _ _ hr ds M k h=>?_)⟩
 ·obtain ⟨xs,rfl,_⟩:=h; rfl
 obtain ⟨xs,rfl,u7,hk⟩:=h
 have few:=u7.few
 have ml:(xs.map D.int).length=xs.length:=zLm ..
 refine aE (bK (f7 (gU (c6 (b4 (mL (.inr (.inr (.inr (.inr rfl)))) T.isi T.list R.BL (aB 0 rfl ⟨_, .self trivial,⟨_,rfl,?_⟩⟩)))))))
 rw [lL]
 refine b5 (iU (bC pP (aW bJ T.len PySem.boot_len (aA (aB 0 rfl (aC (cL (.lst _) (uH CM (eQ ⟨_,rfl,(sD (decide_eq_false (by omega)) (bA (aE (bK (c6 (b4 (aW (jV rfl) T.all R.BAll (aA (bP [] [] (b3 (aB 0 rfl ⟨_, .inr (.inl rfl),(cU (ds:=xs.map D.int) (by rw [ml]; exact R.bG (by omega)) (fun i acc M'=>M'=M/\acc=(List.replicate i true).map D.bl) ⟨rfl,rfl⟩ ?_ ?_)⟩)))))))))))⟩)))))))))
 ·rintro i d acc M' hd ⟨rfl,rfl⟩ _ _ _ _ _
  obtain ⟨x,hx,rfl⟩:=cA hd
  have hb:=u7.bd x (zMo hx)
  refine bY (bU fun _ _ _ _ _=>(aJ aSF hr (aA (aB 0 rfl (aC ⟨x,rfl,hb.1,hb.2,⟨rfl,?_⟩⟩)))))
  rw [List.replicate_succ',List.map_append]
  rfl
 rintro acc M' ⟨rfl,rfl⟩
 refine aC (mH (.lst _) ⟨_,rfl,?_⟩)
 rw [all_true]
 refine b5 (bA (aK (aR (aW (jV rfl) T.all R.BAll (aA (bP zl30 [0] (aCW T.range (aA (z6 (aA (aW bJ T.len PySem.boot_len (aA (aB 0 rfl (aC (cL (.lst _) (aC ?_))))))))))))))))
 rw [ml]
 refine ⟨_,_,rfl,⟨by omega,by omega,by omega,by omega⟩,?_⟩
 rw [show (((xs.length:Nat):Int) - 1).toNat=xs.length - 1 by omega]
 refine cU (by rw [cP]; exact R.bG (by omega)) (fun i acc M1=>M1=M'/\acc=(List.replicate i true).map D.bl) ⟨rfl,rfl⟩ ?_ ?_
 ·rintro i d acc M1 hd ⟨rfl,rfl⟩ _ _ _ _ _
  obtain ⟨hi,rfl⟩:=fJ hd
  have lt:=List.pairwise_iff_getElem.mp u7.up i (i+1) (by omega) (by omega) (by omega)
  refine bY (bU fun _ _ _ _ _=>(gE j6 (aG aD (aB 1 rfl (aM bR (aB 0 rfl (z6 (bM (aH (.lst _) (by rw [show (1:Int)+(i:Int) - 1=((i:Nat):Int) by omega]; exact int_at (by omega)) (aG aD (aB 1 rfl (aB 0 rfl (aH (.lst _) (by rw [show (1:Int)+(i:Int)=((i+1:Nat):Int) by omega]; exact int_at (by omega)) (eQ ?_))))))))))))))
  rw [decide_eq_true lt]
  refine ⟨rfl,?_⟩
  rw [List.replicate_succ',List.map_append]
  rfl
 rintro acc M1 ⟨rfl,rfl⟩
 refine aC (mH (.lst _) ?_)
 rw [all_true]
 exact hk
theorem aGG:FnScope zl23 zl23 (aP p8):=zSc
abbrev yQ (P w K mg z):=Fo P w K mg z "column" p8 zl23 1 aJM
theorem aGX (Df:R.Df K mg "column" p8 zl23 f fd):yQ P w K mg z:=by
 refine ⟨f,fd,Df,a9 Df aGG (fun ds M k h=>?_) (fun _ _ _ _ _ _ hr ds M k h=>?_)⟩
 ·obtain ⟨t,r,zs,n,j,rfl,_⟩:=h; rfl
 obtain ⟨t,r,zs,n,j,rfl,s1,hl,hn,hz,hj,hk⟩:=h
 cases t with
 | true =>
  cases s1
  refine aK (aR (fS PySem.F.plainAttrs_str PySem.F.slot_str_join PySem.F.type_str_join rO (ge_str ⟨rfl,(aA ((bP ["place"] [1] (b3 (aB 0 rfl ⟨_, .inr (.inl rfl),(cU (ds:=zs.map D.str) (by rw [zLm]; exact R.bG (by omega)) (fun i2 acc2 M2=>M2=M/\acc2=((zs.take i2).map fun z=>(⟨#[R.atS z j]⟩:Str)).map D.str) ⟨rfl,rfl⟩ ?_ ?_)⟩)))))⟩)))
  ·rintro i2 d2 acc2 M2 hd2 ⟨rfl,rfl⟩ _ _ _ _ _
   obtain ⟨z,hz2,rfl⟩:=cA hd2
   have hzn:=hz z (zMo hz2)
   refine bY (bU fun _ _ _ _ _=>(aG aD (aB 0 rfl (aB 1 rfl (rH (R.bG (by omega)) (R.uQ (by omega)) ⟨rfl,?_⟩)))))
   rw [take_snoc hz2,List.map_append,List.map_append]
   rfl
  ·rintro acc2 M2 ⟨rfl,rfl⟩
   rw [zLm,List.take_length]
   refine aC (rZ (ys:=zs.map fun z=>(⟨#[R.atS z j]⟩:Str)) (.lst _) (by decide +kernel) ?_ ?_)
   ·rw [rQ _ (fun z hz => ?_),zLm]
    ·omega
    ·obtain ⟨y,_,rfl⟩:=List.mem_map.mp hz
     rfl
   ·rw [R.nD,zO]
    exact hk
 | false =>
  cases s1
  refine aK (aR (fS PySem.F.plainAttrs_str PySem.F.slot_str_join PySem.F.type_str_join rO (ge_str ⟨rfl,(aA ((bP ["place"] [1] (b3 (aB 0 rfl ⟨_, .inl rfl,(cU (ds:=zs.map D.str) (by rw [zLm]; exact R.bG (by omega)) (fun i2 acc2 M2=>M2=M/\acc2=((zs.take i2).map fun z=>(⟨#[R.atS z j]⟩:Str)).map D.str) ⟨rfl,rfl⟩ ?_ ?_)⟩)))))⟩)))
  ·rintro i2 d2 acc2 M2 hd2 ⟨rfl,rfl⟩ _ _ _ _ _
   obtain ⟨z,hz2,rfl⟩:=cA hd2
   have hzn:=hz z (zMo hz2)
   refine bY (bU fun _ _ _ _ _=>(aG aD (aB 0 rfl (aB 1 rfl (rH (R.bG (by omega)) (R.uQ (by omega)) ⟨rfl,?_⟩)))))
   rw [take_snoc hz2,List.map_append,List.map_append]
   rfl
  ·rintro acc2 M2 ⟨rfl,rfl⟩
   rw [zLm,List.take_length]
   refine aC (rZ (ys:=zs.map fun z=>(⟨#[R.atS z j]⟩:Str)) (.lst _) (by decide +kernel) ?_ ?_)
   ·rw [rQ _ (fun z hz => ?_),zLm]
    ·omega
    ·obtain ⟨y,_,rfl⟩:=List.mem_map.mp hz
     rfl
   ·rw [R.nD,zO]
    exact hk
theorem pQ:FnScope ["rows", "wide"] ["rows"] (aP nA):=zSc
abbrev xX (P w K mg z):=Fo P w K mg z "columns" nA ["rows"] 2 aG8
theorem aED (Df:R.Df K mg "columns" nA ["rows"] f fd) (aSG:yQ P w K mg z) (T:Bt mg):xX P w K mg z:=by
 refine ⟨f,fd,Df,a9 Df pQ (fun ds M k h=>?_) (fun _ _ _ _ _ _ hr ds M k h=>?_)⟩
 ·obtain ⟨t,r,zs,n,rfl,_⟩:=h; rfl
 obtain ⟨t,r,zs,n,rfl,s1,hl,hn,hz,hk⟩:=h
 cases t with
 | true =>
  cases s1
  refine aE (oV (fun Γ' M'=>M'=M/\Γ'=[some (.lst (zs.map D.str)),some (.int (((zs.head?.map (·.length)).getD 0:Nat):Int))]) (aQ 1 pQ.nd (lZ ?_)) ?_)
  ·refine mI (aB 0 rfl ⟨_, .seq (.lst _),(ite2 (fun hb => ?_) (fun hb => ?_))⟩)
   ·cases zs with
    | nil=>cases hb
    | cons z zr =>
     have hzl:=hz z (by simp)
     exact aW bJ T.len PySem.boot_len (aA (aG aD (aB 0 rfl (z6 (aH (.lst _) (rS z zr) (aC (j4 (R.bG (by omega)) ⟨rfl,rfl⟩)))))))
   ·cases zs with
    | nil =>
     exact z6 ⟨rfl,rfl⟩
    | cons z zr=>exact absurd rfl hb
  rintro Γ' M' ⟨rfl,rfl⟩
  have hw:(zs.head?.map (·.length)).getD 0<=n:=by
   cases zs with
   | nil=>exact Nat.zero_le _
   | cons z zr=>exact Nat.le_of_eq (hz z (by simp))
  refine aK (aR ((bP ["rows"] [0] (kO T.range (aA (aB 1 rfl (aC ⟨_,rfl,by omega,by omega,?_⟩)))))))
  rw [Int.toNat_natCast]
  refine cU (by rw [cP]; exact R.bG (by omega)) (fun i acc M1=>M1=M'/\acc=((List.range i).map fun j=>R.ofL (zs.map (R.atS · j))).map D.str) ⟨rfl,rfl⟩ ?_ ?_
  ·rintro i d acc M1 hd ⟨rfl,rfl⟩ _ _ _ _ _
   obtain ⟨hi,rfl⟩:=fJ hd
   rw [Int.zero_add]
   refine bY (bU fun _ _ _ _ _=>(aJ aSG hr (aA (aB 1 rfl (aA (aB 0 rfl (aC ⟨true,_,zs,n,i,rfl,rfl,hl,hn,hz,by omega,?_⟩)))))))
   refine ⟨rfl,?_⟩
   rw [List.range_succ,List.map_append,List.map_append]
   rfl
  ·rintro acc M1 ⟨rfl,rfl⟩
   rw [cP]
   exact hk
 | false =>
  cases s1
  refine aE (oV (fun Γ' M'=>M'=M/\Γ'=[some (.tup (zs.map D.str)),some (.int (((zs.head?.map (·.length)).getD 0:Nat):Int))]) (aQ 1 pQ.nd (lZ ?_)) ?_)
  ·refine mI (aB 0 rfl ⟨_, .seq (.tup _),(ite2 (fun hb => ?_) (fun hb => ?_))⟩)
   ·cases zs with
    | nil=>cases hb
    | cons z zr =>
     have hzl:=hz z (by simp)
     exact aW bJ T.len PySem.boot_len (aA (aG aD (aB 0 rfl (z6 (aH (.tup _) (rS z zr) (aC (j4 (R.bG (by omega)) ⟨rfl,rfl⟩)))))))
   ·cases zs with
    | nil =>
     exact z6 ⟨rfl,rfl⟩
    | cons z zr=>exact absurd rfl hb
  rintro Γ' M' ⟨rfl,rfl⟩
  have hw:(zs.head?.map (·.length)).getD 0<=n:=by
   cases zs with
   | nil=>exact Nat.zero_le _
   | cons z zr=>exact Nat.le_of_eq (hz z (by simp))
  refine aK (aR ((bP ["rows"] [0] (kO T.range (aA (aB 1 rfl (aC ⟨_,rfl,by omega,by omega,?_⟩)))))))
  rw [Int.toNat_natCast]
  refine cU (by rw [cP]; exact R.bG (by omega)) (fun i acc M1=>M1=M'/\acc=((List.range i).map fun j=>R.ofL (zs.map (R.atS · j))).map D.str) ⟨rfl,rfl⟩ ?_ ?_
  ·rintro i d acc M1 hd ⟨rfl,rfl⟩ _ _ _ _ _
   obtain ⟨hi,rfl⟩:=fJ hd
   rw [Int.zero_add]
   refine bY (bU fun _ _ _ _ _=>(aJ aSG hr (aA (aB 1 rfl (aA (aB 0 rfl (aC ⟨false,_,zs,n,i,rfl,rfl,hl,hn,hz,by omega,?_⟩)))))))
   refine ⟨rfl,?_⟩
   rw [List.range_succ,List.map_append,List.map_append]
   rfl
  ·rintro acc M1 ⟨rfl,rfl⟩
   rw [cP]
   exact hk
theorem jD:FnScope ["bands", "outside", "framed"] ["bands"] (aP nK):=zSc
abbrev xD (P w K mg z):=Fo P w K mg z "changes" nK ["bands"] 1 aES
theorem aC9 (Df:R.Df K mg "changes" nK ["bands"] f fd) (T:Bt mg):xD P w K mg z:=by
 refine ⟨f,fd,Df,a9 Df jD (fun ds M k h=>?_) (fun _ _ _ _ _ _ hr ds M k h=>?_)⟩
 ·obtain ⟨t,r,zs,n,rfl,_⟩:=h; rfl
 obtain ⟨t,r,zs,n,rfl,s1,hl,hn,hz,hk⟩:=h
 cases t with
 | true =>
  cases s1
  refine aE (bK (c6 (mI (aB 0 rfl ⟨_, .seq (.lst _),(ite2 (fun hb => ?_) (fun hb => ?_))⟩))))
  ·have e:zs=[]:=by
    cases zs with
    | nil=>rfl
    | cons z zr=>exact absurd hb (by simp)
   subst e
   exact aK (aR (dR (aC ⟨(show 0<=sizeLine by decide),hk⟩)))
  have hne:zs≠[]:=fun e=>by subst e; exact hb rfl
  obtain ⟨z0,zr,rfl⟩:∃ z0 zr,zs=z0::zr:=by
   cases zs with
   | nil=>exact absurd rfl hne
   | cons z zr=>exact ⟨z,zr,rfl⟩
  have l0:=hz z0 (by simp)
  refine bA (aE (aQ 1 jD.nd (aM aB9 (ge_str (aW bJ T.len PySem.boot_len (aA (aG aD (aB 0 rfl (z6 (aH (.lst _) (rS z0 zr) (aC (j4 (R.bG (by omega)) (aC0 (by omega) (by omega) (zZ (by omega)) ?_)))))))))))))
  rw [Int.toNat_natCast,R.xH]
  refine aE (aQ 2 jD.nd (aM oW (aM oW (dR (aA (aB 1 rfl (aC ⟨(show 1<=sizeLine by decide),(c5 jE T.list R.BL (aA (aB 0 rfl (aC (rN (.lst _) (o0 (.lst _) (.lst _) (by rw [zLm]; exact R.bG (by simp only [List.length_cons,List.length_nil] at hl ⊢; omega)) (dR (aA (aB 1 rfl (aC ⟨(show 1<=sizeLine by decide),(o0 (.lst _) (.lst _) (by simp only [List.length_append,zLm,List.length_cons,List.length_nil] at hl ⊢; exact R.bG (by omega)) ?_)⟩))))))))))⟩)))))))
  rw [show [D.str (R.dots z0.length)]++(z0::zr).map D.str++[D.str (R.dots z0.length)]=(R.framed (z0::zr)).map D.str from by simp [R.framed]]
  generalize hzz:z0::zr=zs at *
  refine aK (aR ((bP ["framed"] [2] (kO T.range (aA (aM bR (aW bJ T.len PySem.boot_len (aA (aB 2 rfl (aC (cL (.lst _) (z6 (bM (aC ?_))))))))))))))
  rw [zLm,R.k7]
  refine ⟨_,rfl,by omega,by omega,?_⟩
  rw [show (((zs.length+2:Nat):Int) - 1).toNat=zs.length+1 by omega]
  refine cU (by rw [cP]; exact R.bG (by omega)) (fun i acc M'=>M'=M/\acc=((List.range i).filter fun i => !decide ((R.framed zs)[i]?=(R.framed zs)[i+1]?)).map fun (j:Nat)=>D.int (j:Int)) ⟨rfl,rfl⟩ ?_ ?_
  ·rintro i d acc M' hd ⟨rfl,rfl⟩ _ _ _ _ _
   obtain ⟨hi,rfl⟩:=fJ hd
   obtain ⟨u,hu⟩:=kZ (zs:=zs) (i:=i) (by omega)
   obtain ⟨v,hv⟩:=kZ (zs:=zs) (i:=i+1) (by omega)
   refine oG (bC pG (aG aD (aB 1 rfl (aB 0 rfl (aH (.lst _) (rV hu) (aG aD (aB 1 rfl (aM cF (aB 0 rfl (z6 (bM (aH (.lst _) (aAF hv) (qM ⟨_,rfl,?_⟩)))))))))))))
   have ed:(!decide ((R.framed zs)[i]?=(R.framed zs)[i+1]?))=(!decide (u=v)):=by rw [hu,hv]; congr 1; simp
   refine ite2 (fun hb=>fun _ _ _ _ _=> ?_) (fun hb => ?_)
   ·refine aB 0 rfl ⟨rfl,?_⟩
    rw [kI,if_pos (by rw [ed]; exact hb),List.map_append,Int.zero_add]
    rfl
   ·refine ⟨rfl,?_⟩
    rw [kI,if_neg (by rw [ed]; exact hb)]
  rintro acc M' ⟨rfl,rfl⟩
  rw [cP,aFO]
  exact hk
 | false =>
  cases s1
  refine aE (bK (c6 (mI (aB 0 rfl ⟨_, .seq (.tup _),(ite2 (fun hb => ?_) (fun hb => ?_))⟩))))
  ·have e:zs=[]:=by
    cases zs with
    | nil=>rfl
    | cons z zr=>exact absurd hb (by simp)
   subst e
   exact aK (aR (dR (aC ⟨(show 0<=sizeLine by decide),hk⟩)))
  have hne:zs≠[]:=fun e=>by subst e; exact hb rfl
  obtain ⟨z0,zr,rfl⟩:∃ z0 zr,zs=z0::zr:=by
   cases zs with
   | nil=>exact absurd rfl hne
   | cons z zr=>exact ⟨z,zr,rfl⟩
  have l0:=hz z0 (by simp)
  refine bA (aE (aQ 1 jD.nd (aM aB9 (ge_str (aW bJ T.len PySem.boot_len (aA (aG aD (aB 0 rfl (z6 (aH (.tup _) (rS z0 zr) (aC (j4 (R.bG (by omega)) (aC0 (by omega) (by omega) (zZ (by omega)) ?_)))))))))))))
  rw [Int.toNat_natCast,R.xH]
  refine aE (aQ 2 jD.nd (aM oW (aM oW (dR (aA (aB 1 rfl (aC ⟨(show 1<=sizeLine by decide),(c5 jE T.list R.BL (aA (aB 0 rfl (aC (rN (.tup _) (o0 (.lst _) (.lst _) (by rw [zLm]; exact R.bG (by simp only [List.length_cons,List.length_nil] at hl ⊢; omega)) (dR (aA (aB 1 rfl (aC ⟨(show 1<=sizeLine by decide),(o0 (.lst _) (.lst _) (by simp only [List.length_append,zLm,List.length_cons,List.length_nil] at hl ⊢; exact R.bG (by omega)) ?_)⟩))))))))))⟩)))))))
  rw [show [D.str (R.dots z0.length)]++(z0::zr).map D.str++[D.str (R.dots z0.length)]=(R.framed (z0::zr)).map D.str from by simp [R.framed]]
  generalize hzz:z0::zr=zs at *
  refine aK (aR ((bP ["framed"] [2] (kO T.range (aA (aM bR (aW bJ T.len PySem.boot_len (aA (aB 2 rfl (aC (cL (.lst _) (z6 (bM (aC ?_))))))))))))))
  rw [zLm,R.k7]
  refine ⟨_,rfl,by omega,by omega,?_⟩
  rw [show (((zs.length+2:Nat):Int) - 1).toNat=zs.length+1 by omega]
  refine cU (by rw [cP]; exact R.bG (by omega)) (fun i acc M'=>M'=M/\acc=((List.range i).filter fun i => !decide ((R.framed zs)[i]?=(R.framed zs)[i+1]?)).map fun (j:Nat)=>D.int (j:Int)) ⟨rfl,rfl⟩ ?_ ?_
  ·rintro i d acc M' hd ⟨rfl,rfl⟩ _ _ _ _ _
   obtain ⟨hi,rfl⟩:=fJ hd
   obtain ⟨u,hu⟩:=kZ (zs:=zs) (i:=i) (by omega)
   obtain ⟨v,hv⟩:=kZ (zs:=zs) (i:=i+1) (by omega)
   refine oG (bC pG (aG aD (aB 1 rfl (aB 0 rfl (aH (.lst _) (rV hu) (aG aD (aB 1 rfl (aM cF (aB 0 rfl (z6 (bM (aH (.lst _) (aAF hv) (qM ⟨_,rfl,?_⟩)))))))))))))
   have ed:(!decide ((R.framed zs)[i]?=(R.framed zs)[i+1]?))=(!decide (u=v)):=by rw [hu,hv]; congr 1; simp
   refine ite2 (fun hb=>fun _ _ _ _ _=> ?_) (fun hb => ?_)
   ·refine aB 0 rfl ⟨rfl,?_⟩
    rw [kI,if_pos (by rw [ed]; exact hb),List.map_append,Int.zero_add]
    rfl
   ·refine ⟨rfl,?_⟩
    rw [kI,if_neg (by rw [ed]; exact hb)]
  rintro acc M' ⟨rfl,rfl⟩
  rw [cP,aFO]
  exact hk
theorem aGY:FnScope zl24 zl24 (aP pW):=zSc
abbrev zR (P w K mg z):=Fo P w K mg z "picked" pW zl24 1 aMD
theorem aGD (Df:R.Df K mg "picked" pW zl24 f fd):zR P w K mg z:=by
 refine ⟨f,fd,Df,a9 Df aGY (fun ds M k h=>?_) (fun _ _ _ _ _ _ hr ds M k h=>?_)⟩
 ·obtain ⟨z,js,rfl,_⟩:=h; rfl
 obtain ⟨z,js,rfl,hz,hl,hj,hk⟩:=h
 refine aK (aR (fS PySem.F.plainAttrs_str PySem.F.slot_str_join PySem.F.type_str_join rO (ge_str ⟨rfl,(aA ((bP ["row"] [0] (b3 (aB 1 rfl ⟨_, .inr (.inl rfl),(cU (ds:=eM js) (by rw [c9]; exact R.bG (by omega)) (fun i2 acc2 M2=>M2=M/\acc2=((js.take i2).map fun j=>(⟨#[R.atS z j]⟩:Str)).map D.str) ⟨rfl,rfl⟩ ?_ ?_)⟩)))))⟩)))
 ·rintro i2 d2 acc2 M2 hd2 ⟨rfl,rfl⟩ _ _ _ _ _
  obtain ⟨j,hj2,rfl⟩:=i7 hd2
  have hjl:=hj j (zMo hj2)
  refine bY (bU fun _ _ _ _ _=>(aG aD (aB 1 rfl (aB 0 rfl (rH (R.bG (by omega)) (R.uQ hjl) ⟨rfl,?_⟩)))))
  rw [take_snoc hj2,List.map_append,List.map_append]
  rfl
 ·rintro acc2 M2 ⟨rfl,rfl⟩
  rw [c9,List.take_length]
  refine aC (rZ (ys:=js.map fun j=>(⟨#[R.atS z j]⟩:Str)) (.lst _) (by decide +kernel) ?_ ?_)
  ·rw [rQ _ (fun z hz => ?_),zLm]
   ·omega
   ·obtain ⟨y,_,rfl⟩:=List.mem_map.mp hz
    rfl
  ·rw [R.nD,aC5]
   exact hk
theorem hV:FnScope ["xs", "ys", "rows", "at_xs", "at_ys", "kept"] zl19 (aP pH):=zSc
abbrev zL (P w K mg z):=Fo P w K mg z "tidied" pH zl19 3 aJE
theorem aFZ (Df:R.Df K mg "tidied" pH zl19 f fd) (aSH:xD P w K mg z) (aSI:xX P w K mg z) (aSJ:zR P w K mg z) (T:Bt mg):zL P w K mg z:=by
 refine ⟨f,fd,Df,a9 Df hV (fun ds M k h=>?_) (fun _ _ _ _ _ _ hr ds M k h=>?_)⟩
 ·obtain ⟨t,dx,dy,dr,xs,ys,zs,n,rfl,_⟩:=h; rfl
 obtain ⟨t,dx,dy,dr,xs,ys,zs,n,rfl,s1,s2,s3,hl,hn,hz,hx,hy,hk⟩:=h
 have cl:=R.uF hz
 have kx:=R.aBW (R.aO zs)
 have ky:=R.aBW zs
 cases t with
 | true =>
  cases s1
  cases s2
  cases s3
  refine aE (aQ 3 hV.nd (aJ aSH hr (aA (aJ aSI hr (aA (aB 2 rfl (aC ⟨true,_,zs,n,rfl,rfl,by omega,by omega,hz,?_⟩)))))))
  refine aC ⟨true,_,R.aO zs,zs.length,rfl,rfl,by omega,by omega,fun z hz=>R.iA z hz,?_⟩
  refine aE (aQ 4 hV.nd (aJ aSH hr (aA (aB 2 rfl (aC ⟨true,_,zs,n,rfl,rfl,by omega,by omega,hz,?_⟩)))))
  have hjx:∀ j∈(R.chg (R.aO zs)).dropLast,j < n:=fun j hj=>by
   have:=R.jU (R.cG _) (R.fG _) j hj
   omega
  refine aE (pB 5 ["rows", "at_xs"] [2,3] hV.nd (b3 (fH jB (aB 4 rfl (gJ (gL (gA eN (z6 ⟨_,rfl,⟨_,rfl,(kJ (.lst _) ?_)⟩⟩))))))))
  rw [show cutD (eM (R.chg zs)) none (some (-1))=eM (R.chg zs).dropLast from (nZ _).trans (i5 _)]
  refine ⟨_, .inr (.inl rfl),(aDM (ds:=eM (R.chg zs).dropLast) (by rw [c9,List.length_dropLast]; exact R.bG (by omega)) (fun i acc M2=>M2=M/\acc=(((R.chg zs).dropLast.take i).map fun i=>R.ofL ((R.chg (R.aO zs)).dropLast.map (R.atS (zs.getD i Str.empty)))).map D.str) ⟨rfl,rfl⟩ ?_ ?_)⟩
  ·rintro i d acc M2 hd ⟨rfl,rfl⟩ _ _ _ _ _
   obtain ⟨j,hj,rfl⟩:=i7 hd
   have hjl:=R.jU (R.cG zs) (R.fG zs) j (zMo hj)
   have hzj:zs[j]?=some (zs.getD j Str.empty):=by rw [zGd,zGe hjl]; rfl
   have hzm:=zMo hzj
   refine bY (bU fun _ _ _ _ _=>(aJ aSJ hr (aA (aG aD (aB 1 rfl (aB 0 rfl (aH (.lst _) (by have:=rV hzj; rw [Int.zero_add] at this; exact this) (aA (fH jB (aB 2 rfl (gJ (gL (gA eN (z6 ⟨_,rfl,⟨_,rfl,(kJ (.lst _) (aC ?_))⟩⟩))))))))))))))
   rw [show cutD (eM (R.chg (R.aO zs))) none (some (-1))=eM (R.chg (R.aO zs)).dropLast from (nZ _).trans (i5 _)]
   refine ⟨_,(R.chg (R.aO zs)).dropLast,rfl,by rw [hz _ hzm]; omega,by rw [List.length_dropLast]; omega,fun j hj=>by rw [hz _ hzm]; exact hjx j hj,?_⟩
   refine ⟨rfl,?_⟩
   rw [cS hj,List.map_append]
   rfl
  rintro acc M2 ⟨rfl,rfl⟩ a ha
  rw [c9,List.take_length]
  refine gY 5 rfl aS ?_
  rw [fL ha]
  refine aK (aR (bV (aA (c5 cY T.tuple R.BT (aA (bP ["xs"] [0] (b3 (aB 3 rfl ⟨_, .inr (.inl rfl),(cU (ds:=eM (R.chg (R.aO zs))) (by rw [c9]; exact R.bG (by omega)) (fun i acc M1=>M1=M2/\acc=((R.chg (R.aO zs)).take i).map fun j=>xs.getD j .non) ⟨rfl,rfl⟩ ?_ ?_)⟩))))))))
  ·rintro i d acc M1 hd ⟨rfl,rfl⟩ _ _ _ _ _
   obtain ⟨j,hj,rfl⟩:=i7 hd
   exact bY (bU fun _ _ _ _ _=>(aG aD (aB 1 rfl (aB 0 rfl (aH (.lst _) (aDK (hx j (zMo hj))) ⟨rfl,(cS hj).symm⟩)))))
  rintro acc M1 ⟨rfl,rfl⟩
  rw [c9,List.take_length]
  refine aC (fZ (.lst _) (aA (c5 cY T.tuple R.BT (aA (bP ["ys"] [1] (b3 (aB 4 rfl ⟨_, .inr (.inl rfl),(cU (ds:=eM (R.chg zs)) (by rw [c9]; exact R.bG (by omega)) (fun i acc M2=>M2=M1/\acc=((R.chg zs).take i).map fun j=>ys.getD j .non) ⟨rfl,rfl⟩ ?_ ?_)⟩)))))))
  ·rintro i d acc M2 hd ⟨rfl,rfl⟩ _ _ _ _ _
   obtain ⟨j,hj,rfl⟩:=i7 hd
   exact bY (bU fun _ _ _ _ _=>(aG aD (aB 1 rfl (aB 0 rfl (aH (.lst _) (aDK (hy j (zMo hj))) ⟨rfl,(cS hj).symm⟩)))))
  rintro acc M2 ⟨rfl,rfl⟩
  rw [c9,List.take_length]
  exact aC (fZ (.lst _) (aA (c5 cY T.tuple R.BT (aA (aB 5 rfl (aC (fZ (.lst _) (aC ⟨(show 3<=sizeLine by decide),hk⟩))))))))
 | false =>
  cases s1
  cases s2
  cases s3
  refine aE (aQ 3 hV.nd (aJ aSH hr (aA (aJ aSI hr (aA (aB 2 rfl (aC ⟨false,_,zs,n,rfl,rfl,by omega,by omega,hz,?_⟩)))))))
  refine aC ⟨true,_,R.aO zs,zs.length,rfl,rfl,by omega,by omega,fun z hz=>R.iA z hz,?_⟩
  refine aE (aQ 4 hV.nd (aJ aSH hr (aA (aB 2 rfl (aC ⟨false,_,zs,n,rfl,rfl,by omega,by omega,hz,?_⟩)))))
  have hjx:∀ j∈(R.chg (R.aO zs)).dropLast,j < n:=fun j hj=>by
   have:=R.jU (R.cG _) (R.fG _) j hj
   omega
  refine aE (pB 5 ["rows", "at_xs"] [2,3] hV.nd (b3 (fH jB (aB 4 rfl (gJ (gL (gA eN (z6 ⟨_,rfl,⟨_,rfl,(kJ (.lst _) ?_)⟩⟩))))))))
  rw [show cutD (eM (R.chg zs)) none (some (-1))=eM (R.chg zs).dropLast from (nZ _).trans (i5 _)]
  refine ⟨_, .inr (.inl rfl),(aDM (ds:=eM (R.chg zs).dropLast) (by rw [c9,List.length_dropLast]; exact R.bG (by omega)) (fun i acc M2=>M2=M/\acc=(((R.chg zs).dropLast.take i).map fun i=>R.ofL ((R.chg (R.aO zs)).dropLast.map (R.atS (zs.getD i Str.empty)))).map D.str) ⟨rfl,rfl⟩ ?_ ?_)⟩
  ·rintro i d acc M2 hd ⟨rfl,rfl⟩ _ _ _ _ _
   obtain ⟨j,hj,rfl⟩:=i7 hd
   have hjl:=R.jU (R.cG zs) (R.fG zs) j (zMo hj)
   have hzj:zs[j]?=some (zs.getD j Str.empty):=by rw [zGd,zGe hjl]; rfl
   have hzm:=zMo hzj
   refine bY (bU fun _ _ _ _ _=>(aJ aSJ hr (aA (aG aD (aB 1 rfl (aB 0 rfl (aH (.tup _) (by have:=rV hzj; rw [Int.zero_add] at this; exact this) (aA (fH jB (aB 2 rfl (gJ (gL (gA eN (z6 ⟨_,rfl,⟨_,rfl,(kJ (.lst _) (aC ?_))⟩⟩))))))))))))))
   rw [show cutD (eM (R.chg (R.aO zs))) none (some (-1))=eM (R.chg (R.aO zs)).dropLast from (nZ _).trans (i5 _)]
   refine ⟨_,(R.chg (R.aO zs)).dropLast,rfl,by rw [hz _ hzm]; omega,by rw [List.length_dropLast]; omega,fun j hj=>by rw [hz _ hzm]; exact hjx j hj,?_⟩
   refine ⟨rfl,?_⟩
   rw [cS hj,List.map_append]
   rfl
  rintro acc M2 ⟨rfl,rfl⟩ a ha
  rw [c9,List.take_length]
  refine gY 5 rfl aS ?_
  rw [fL ha]
  refine aK (aR (bV (aA (c5 cY T.tuple R.BT (aA (bP ["xs"] [0] (b3 (aB 3 rfl ⟨_, .inr (.inl rfl),(cU (ds:=eM (R.chg (R.aO zs))) (by rw [c9]; exact R.bG (by omega)) (fun i acc M1=>M1=M2/\acc=((R.chg (R.aO zs)).take i).map fun j=>xs.getD j .non) ⟨rfl,rfl⟩ ?_ ?_)⟩))))))))
  ·rintro i d acc M1 hd ⟨rfl,rfl⟩ _ _ _ _ _
   obtain ⟨j,hj,rfl⟩:=i7 hd
   exact bY (bU fun _ _ _ _ _=>(aG aD (aB 1 rfl (aB 0 rfl (aH (.tup _) (aDK (hx j (zMo hj))) ⟨rfl,(cS hj).symm⟩)))))
  rintro acc M1 ⟨rfl,rfl⟩
  rw [c9,List.take_length]
  refine aC (fZ (.lst _) (aA (c5 cY T.tuple R.BT (aA (bP ["ys"] [1] (b3 (aB 4 rfl ⟨_, .inr (.inl rfl),(cU (ds:=eM (R.chg zs)) (by rw [c9]; exact R.bG (by omega)) (fun i acc M2=>M2=M1/\acc=((R.chg zs).take i).map fun j=>ys.getD j .non) ⟨rfl,rfl⟩ ?_ ?_)⟩)))))))
  ·rintro i d acc M2 hd ⟨rfl,rfl⟩ _ _ _ _ _
   obtain ⟨j,hj,rfl⟩:=i7 hd
   exact bY (bU fun _ _ _ _ _=>(aG aD (aB 1 rfl (aB 0 rfl (aH (.tup _) (aDK (hy j (zMo hj))) ⟨rfl,(cS hj).symm⟩)))))
  rintro acc M2 ⟨rfl,rfl⟩
  rw [c9,List.take_length]
  exact aC (fZ (.lst _) (aA (c5 cY T.tuple R.BT (aA (aB 5 rfl (aC (fZ (.lst _) (aC ⟨(show 3<=sizeLine by decide),hk⟩))))))))
theorem aFU:FnScope zl25 zl25 (aP pY):=zSc
abbrev zT (P w K mg z):=Fo P w K mg z "is_row" pY zl25 1 aPN
theorem aHB (Df:R.Df K mg "is_row" pY zl25 f fd) (T:Bt mg):zT P w K mg z:=by
 refine ⟨f,fd,Df,a9 Df aFU (fun ds M k h=>?_) (fun _ _ _ _ _ _ hr ds M k h=>?_)⟩
 ·obtain ⟨d,n,w,rfl,_⟩:=h; rfl
 obtain ⟨d,n,w,rfl,ht,hk⟩:=h
 rcases aO3 d with ⟨z,rfl⟩ | ⟨e0,e1⟩
 ·have hz:=yR ht
  refine aE (bK (f7 (gU (c6 (b4 (mL (.inr (.inr (.inl rfl))) T.isi T.str R.BS (aB 0 rfl ⟨_, .self trivial,⟨_,rfl,?_⟩⟩)))))))
  rw [sS]
  refine b5 (iU (bC pG (aW bJ T.len PySem.boot_len (aA (aB 0 rfl (aC (j4 (R.bG (by omega)) (aB 1 rfl (aEV ⟨_,rfl,?_⟩)))))))))
  by_cases h2:z.length=w
  ·rw [decide_eq_true (by omega)]
   refine b5 (bA (aK (aR (aW (jV rfl) T.all R.BAll (aA (bP [] [] (aN8 (aB 0 rfl ⟨_,rfl,(cU (ds:=wT z) (by rw [p7]; exact R.bG (by omega)) (fun i acc M'=>M'=M/\acc=((z.cps.toList.take i).map fun c=>c == 35 || c == 46).map D.bl) ⟨rfl,rfl⟩ ?_ ?_)⟩))))))))
   ·rintro i d acc M' hd ⟨rfl,rfl⟩ _ _ _ _ _
    obtain ⟨c,hc,rfl⟩:=cA hd
    refine bY (bU fun _ _ _ _ _=>(gE aFD (aB 0 rfl (ge_str (aIV ?_)))))
    rw [R.aH1]
    refine ⟨rfl,?_⟩
    rw [cS hc,List.map_append]
    rfl
   rintro acc M' ⟨rfl,rfl⟩
   rw [p7,show z.length=z.cps.toList.length from (Array.length_toList ..).symm,List.take_length]
   refine aC (mH (.lst _) ?_)
   rw [aAP]
   rw [show jR w (.str z)=z.cps.toList.all (fun c=>c == 35 || c == 46) from by show (decide (z.length=w) && _)=_; rw [decide_eq_true h2]; rfl] at hk
   exact hk
  ·rw [decide_eq_false (by omega)]
   rw [show jR w (.str z)=false from by show (decide (z.length=w) && _)=_; rw [decide_eq_false h2]; rfl] at hk
   exact bU (aK (aR (kH hk)))
 ·rw [aPC e1] at hk
  refine aE (bK (f7 (gU (c6 (b4 (mL (.inr (.inr (.inl rfl))) T.isi T.str R.BS (aB 0 rfl ⟨_, .self (aH2 ht),⟨_,rfl,?_⟩⟩)))))))
  rw [e0]
  exact bU (bU (aK (aR (kH hk))))
theorem iR:FnScope ["rows", "xs", "ys", "wide", "high"] zl20 (aP lF):=zSc
abbrev u5 (P w K mg z):=Fo P w K mg z "rows_fit" lF zl20 2 aQV
theorem aBN (Df:R.Df K mg "rows_fit" lF zl20 f fd) (aSK:zT P w K mg z) (T:Bt mg):u5 P w K mg z:=by
 refine ⟨f,fd,Df,a9 Df iR (fun ds M k h=>?_) (fun _ _ _ _ _ _ hr ds M k h=>?_)⟩
 ·obtain ⟨t,dr,dx,dy,rs,xs,ys,n,rfl,_⟩:=h; rfl
 obtain ⟨t,dr,dx,dy,rs,xs,ys,n,rfl,s1,s2,s3,ht,l1,l2,l3,hk⟩:=h
 cases t with
 | true =>
  cases s1
  cases s2
  cases s3
  refine aE (aQ 3 iR.nd (aW (nQ rfl) T.max R.BMax (aA (aM bR (aW bJ T.len PySem.boot_len (aA (aB 1 rfl (aC (cL (.lst _) (z6 (bM (aA (z6 (aC (uU ?_)))))))))))))))
  rw [maxz0]
  refine aE (aQ 4 iR.nd (aW (nQ rfl) T.max R.BMax (aA (aM bR (aW bJ T.len PySem.boot_len (aA (aB 2 rfl (aC (cL (.lst _) (z6 (bM (aA (z6 (aC (uU ?_)))))))))))))))
  rw [maxz0]
  refine aK (aR (jK (gE iG (aW bJ T.len PySem.boot_len (aA (aB 0 rfl (aC (cL (.lst _) (aB 4 rfl (iB ⟨_,rfl,?_⟩))))))))))
  by_cases h1:rs.length=ys.length - 1
  ·refine u8 (decide_eq_true (by omega)) (iQ (aW (jV rfl) T.all R.BAll (aA (bP ["wide"] [3] (b3 (aB 0 rfl ⟨_, .inr (.inl rfl),(cU (ds:=rs) (R.bG (by omega)) (fun i acc M'=>M'=M/\acc=((rs.take i).map (jR (xs.length - 1))).map D.bl) ⟨rfl,rfl⟩ ?_ ?_)⟩))))))
   ·rintro i d acc M' hd ⟨rfl,rfl⟩ _ _ _ _ _
    refine bY (bU fun _ _ _ _ _=>(aJ aSK hr (aA (aB 0 rfl (aA (aB 1 rfl (aC ⟨d,n,_,rfl,ht d (zMo hd),⟨rfl,?_⟩⟩)))))))
    rw [cS hd,List.map_append]
    rfl
   rintro acc M' ⟨rfl,rfl⟩
   rw [List.take_length]
   refine aC (mH (.lst _) ?_)
   rw [aAP]
   rw [show kT rs xs.length ys.length=rs.all (jR (xs.length - 1)) from by unfold kT; rw [decide_eq_true h1]; rfl] at hk
   exact hk
  ·rw [show kT rs xs.length ys.length=false from by unfold kT; rw [decide_eq_false h1]; rfl] at hk
   exact sD (decide_eq_false (by omega)) hk
 | false =>
  cases s1
  cases s2
  cases s3
  refine aE (aQ 3 iR.nd (aW (nQ rfl) T.max R.BMax (aA (aM bR (aW bJ T.len PySem.boot_len (aA (aB 1 rfl (aC (cL (.tup _) (z6 (bM (aA (z6 (aC (uU ?_)))))))))))))))
  rw [maxz0]
  refine aE (aQ 4 iR.nd (aW (nQ rfl) T.max R.BMax (aA (aM bR (aW bJ T.len PySem.boot_len (aA (aB 2 rfl (aC (cL (.tup _) (z6 (bM (aA (z6 (aC (uU ?_)))))))))))))))
  rw [maxz0]
  refine aK (aR (jK (gE iG (aW bJ T.len PySem.boot_len (aA (aB 0 rfl (aC (cL (.tup _) (aB 4 rfl (iB ⟨_,rfl,?_⟩))))))))))
  by_cases h1:rs.length=ys.length - 1
  ·refine u8 (decide_eq_true (by omega)) (iQ (aW (jV rfl) T.all R.BAll (aA (bP ["wide"] [3] (b3 (aB 0 rfl ⟨_, .inl rfl,(cU (ds:=rs) (R.bG (by omega)) (fun i acc M'=>M'=M/\acc=((rs.take i).map (jR (xs.length - 1))).map D.bl) ⟨rfl,rfl⟩ ?_ ?_)⟩))))))
   ·rintro i d acc M' hd ⟨rfl,rfl⟩ _ _ _ _ _
    refine bY (bU fun _ _ _ _ _=>(aJ aSK hr (aA (aB 0 rfl (aA (aB 1 rfl (aC ⟨d,n,_,rfl,ht d (zMo hd),⟨rfl,?_⟩⟩)))))))
    rw [cS hd,List.map_append]
    rfl
   rintro acc M' ⟨rfl,rfl⟩
   rw [List.take_length]
   refine aC (mH (.lst _) ?_)
   rw [aAP]
   rw [show kT rs xs.length ys.length=rs.all (jR (xs.length - 1)) from by unfold kT; rw [decide_eq_true h1]; rfl] at hk
   exact hk
  ·rw [show kT rs xs.length ys.length=false from by unfold kT; rw [decide_eq_false h1]; rfl] at hk
   exact sD (decide_eq_false (by omega)) hk
theorem aLT:FnScope zl19 zl19 (aP vQ):=zSc
abbrev aGL (P w K mg z):=Fo P w K mg z "made" vQ zl19 5 aQW
theorem aM0 (Df:R.Df K mg "made" vQ zl19 f fd) (aSL:kW P w K mg z) (aSM:u5 P w K mg z) (aSN:zL P w K mg z) (aRH:lN P w K mg z) (T:Bt mg):aGL P w K mg z:=by
 refine ⟨f,fd,Df,a9 Df aLT (fun ds M k h=>?_) (fun _ _ _ _ _ _ hr ds M k h=>?_)⟩
 ·obtain ⟨xs,ys,zs,rfl,_⟩:=h; rfl
 obtain ⟨xs,ys,zs,rfl,ux,uy,gz,hz,hk⟩:=h
 have fx:=ux.few
 have fy:=uy.few
 have mx:(xs.map D.int).length=xs.length:=zLm ..
 have my:(ys.map D.int).length=ys.length:=zLm ..
 refine aE (bK (f7 (gU (c6 (b4 (aJ aSL hr (aA (aB 0 rfl (aC ⟨xs,rfl,ux,⟨_,rfl,(b5 (iU (c6 (b4 (aJ aSL hr (aA (aB 1 rfl (aC ⟨ys,rfl,uy,⟨_,rfl,(b5 (bA (aE (bK (f7 (gU (c6 (b4 (mL (.inr (.inr (.inr (.inr rfl)))) T.isi T.list R.BL (aB 2 rfl ⟨_, .self trivial,⟨_,rfl,?_⟩⟩))))))))))⟩⟩))))))))⟩⟩)))))))))
 rw [lL]
 refine b5 (iU (c6 (b4 (aJ aSM hr (aA (aB 2 rfl (aA (aB 0 rfl (aA (aB 1 rfl (aC ⟨true,_,_,_,zs.map .str,xs.map .int,ys.map .int,1,rfl,rfl,rfl,rfl,fun r hr=>(aM5 (n:=50) (fun z hz=>Nat.le_trans (Nat.le_of_eq (gz z hz).1) (show _<=1000 by omega)) (by omega)).tame1 r hr,by rw [zLm]; omega,by omega,by omega,?_⟩)))))))))))
 refine ⟨_,rfl,?_⟩
 rw [mx,my,aPH hz (fun z hz=>(gz z hz).1),aID gz]
 refine b5 (bA (aK (aR (aJ aSN hr (aA (bP [] [] (b3 (aB 0 rfl ⟨_, .inr (.inl rfl),(cU (ds:=xs.map D.int) (by rw [zLm]; exact R.bG (by omega)) (fun i acc M1=>M1=M/\acc=((xs.take i).map p1).map pairD) ⟨rfl,rfl⟩ ?_ ?_)⟩))))))))
 ·rintro i d acc M1 hd ⟨rfl,rfl⟩ _ _ _ _ _
  obtain ⟨x,hx,rfl⟩:=cA hd
  refine bY (bU fun _ _ _ _ _=>(aJ aRH hr (aA (aB 0 rfl (aA (z6 (aC ⟨x,1,rfl,by decide,Nat.one_lt_pow (by decide) (by decide),?_⟩)))))))
  rw [low1]
  refine ⟨rfl,?_⟩
  rw [cS hx,List.map_append]
  rfl
 rintro acc M ⟨rfl,rfl⟩
 rw [zLm,List.take_length]
 refine aA (bP [] [] (b3 (aB 1 rfl ⟨_, .inr (.inl rfl),(cU (ds:=ys.map D.int) (by rw [zLm]; exact R.bG (by omega)) (fun i acc M1=>M1=M/\acc=((ys.take i).map p1).map pairD) ⟨rfl,rfl⟩ ?_ ?_)⟩)))
 ·rintro i d acc M1 hd ⟨rfl,rfl⟩ _ _ _ _ _
  obtain ⟨x,hx,rfl⟩:=cA hd
  refine bY (bU fun _ _ _ _ _=>(aJ aRH hr (aA (aB 0 rfl (aA (z6 (aC ⟨x,1,rfl,by decide,Nat.one_lt_pow (by decide) (by decide),?_⟩)))))))
  rw [low1]
  refine ⟨rfl,?_⟩
  rw [cS hx,List.map_append]
  rfl
 rintro acc M ⟨rfl,rfl⟩
 rw [zLm,List.take_length]
 exact aA (aB 2 rfl (aC ⟨true,_,_,_,iT xs,iT ys,zs,xs.length - 1,rfl,rfl,rfl,rfl,by omega,by omega,fun z hz=>(gz z hz).1,by rw [uM]; exact iM fun z hz=>(gz z hz).1,by rw [uM]; exact iN hz,hk⟩))
theorem pJ:FnScope ["_law_pen_here", "_law_gap", "_law_lines_here", "_law_k"] zl10 (aP sR):=zSc
abbrev aC1 (P w K mg z):=Fo P w K mg z "_law_lines" sR zl10 2 aND
theorem aIP (Df:R.Df K mg "_law_lines" sR zl10 f fd) (aR3:jH P w K mg z) (T:Bt mg):aC1 P w K mg z:=by
 refine ⟨f,fd,Df,a9 Df pJ (fun ds M k h=>?_) (fun _ _ _ _ _ _ hr ds M k h=>?_)⟩
 ·obtain ⟨p,b,gap,rfl,_⟩:=h; rfl
 obtain ⟨p,b,gap,rfl,hg1,hg2,hF0,hb,hk⟩:=h
 refine aE (aQ 2 pJ.nd (iF (aA (aM bR (aJ aR3 hr (aA (aB 0 rfl (aA (z6 (aC ⟨p,_,_,rfl,by decide,by decide,hF0,by omega,fun z1 M1 z10 z11 hF1 hB1 hE1 => ?_⟩))))))))))
 refine z6 (bM (aC ⟨(show 1<=sizeLine by decide),fun a0 ha0 => ?_⟩))
 have hap0:a0≠p:=hF1.ne ha0
 have haM0:M a0=none:=hB1.none_of ha0 hap0
 refine aE (oV (fun Γ' M'=>∃ (a:Addr) (x0:Int),Γ'=[some (.mt p),some (.int gap),some (.mt a),none]/\M' a=some (.lst [.int x0])/\a≠p/\M a=none /\ -100000000<=x0/\x0<=100000000/\PnM M' p (b+2)/\cH p M M') ?_ ?_)
 ·refine bK (bC pP (aB 1 rfl (z6 (eQ ⟨_,rfl,(ite2 (fun h1=>(aK (aQ 2 pJ.nd (iF (aA (aM bR (aJ aR3 hr (aA (aB 0 rfl (aA (aM fD (z6 (aM mO (z6 (z6 (aZ ⟨by decide,by decide,by decide⟩ (aZ (.inl ⟨by decide,by decide⟩) (aC ⟨p,_,_,rfl,by decide,by decide,(hF1.new hap0),by omega,fun z2 M2 z20 z21 hF2 hB2 hE2 => ?_⟩)))))))))))))))))) (fun h1=>bA ⟨a0,_,rfl,aS,hap0,haM0,by omega,by omega,(hF1.new hap0).mono (by omega),hB1.new haM0⟩))⟩))))
  refine aM mO (z6 (z6 (aZ ⟨by decide,by decide,by decide⟩ (bM (aC ⟨(show 1<=sizeLine by decide),fun a ha => ?_⟩)))))
  have hap:a≠p:=hF2.ne ha
  have hB12:=(hB1.new (o := .lst [.int (z1 - 20)]) haM0).trans hB2
  have haM:M a=none:=hB12.none_of ha hap
  have z21':z2 < 200000000:=z21
  exact ⟨a,z2 - 100000000,rfl,aS,hap,haM,by omega,by omega,(hF2.new hap).mono (by omega),hB12.new haM⟩
 rintro Γ' M2 ⟨a,x0,rfl,hM2,hap,haM,x00,x01,hF2,hB12⟩
 refine aE (eB (kO T.range (aA (aM cF (z6 (aJ aR3 hr (aA (aB 0 rfl (aA (z6 (aC ⟨p,_,_,rfl,by decide,by decide,hF2,by omega,fun z3 M3 z30 z31 hF3 hB3 hE3 => ?_⟩)))))))))))
 refine bM (aC ⟨_,rfl,by omega,by omega,?_⟩)
 obtain ⟨n3,hn3⟩:∃ n3:Nat,1+z3=(n3:Int):=⟨(1+z3).toNat,by omega⟩
 rw [hn3,Int.toNat_natCast]
 refine ⟨fun i Γ' M'=>∃ (xs:List Int) (v3:Option D),Γ'=[some (.mt p),some (.int gap),some (.mt a),v3]/\M' a=some (.lst (xs.map .int))/\PnM M' p (b+3+i)/\cH p M M'/\xs.length=i+1/\xs.Pairwise (· < ·)/\∀ x∈xs, -100000000<=x/\x<=100000000+100000001 * i,
  ⟨[x0],_,rfl,(hE3 a hap).trans hM2,hF3.mono (by omega),hB12.trans hB3,rfl,List.pairwise_singleton _ _,fun x hx=>by rw [List.mem_singleton] at hx; omega⟩,?_,?_⟩
 ·rintro i d Γ' M' hd ⟨xs,v3,rfl,hM,hF,hB,hl,hp,hbd⟩
  obtain ⟨hi,rfl⟩:=fJ hd
  obtain ⟨xr,xl,rfl⟩:=wO (l:=xs) (fun e=>by rw [e] at hl; simp at hl)
  have hxl:=hbd xl (by simp)
  refine bO 3 pJ.nd (aK (eU (fS PySem.F.plainAttrs_list PySem.F.slot_list_append PySem.F.type_list_append cT (aB 2 rfl (⟨⟨rfl,_,hM⟩,(aA (aM cF (aM cF (aG aD (aB 2 rfl (gA eN (z6 ⟨_,rfl,(aH (.mt hM) (by rw [List.map_append]; exact l6 _ _) (z6 (bM (aJ aR3 hr (aA (aB 0 rfl (aA (aB 1 rfl (aC ⟨p,gap,_,rfl,by omega,by omega,hF,by omega,fun z4 M4 z40 z41 hF4 hB4 hE4 => ?_⟩)))))))))⟩)))))))⟩)))))
  refine bM (aC (dD ((hE4 a hap).trans hM) (by rw [zLm,hl]; exact Nat.lt_of_le_of_lt (show i+1<=20 by omega) (by decide)) ⟨xr++[xl]++[xl+1+z4],_,rfl,by rw [aS]; simp,(hF4.new hap).mono (by omega),(hB.trans hB4).new haM,by rw [List.length_append,hl]; rfl,?_,fun x hx => ?_⟩))
  ·rw [List.pairwise_append]
   refine ⟨hp,List.pairwise_singleton _ _,fun x hx y hy => ?_⟩
   rw [List.mem_singleton] at hy
   have hx2:x<=xl:=by
    rcases List.mem_append.mp hx with hx | hx
    ·exact Int.le_of_lt ((List.pairwise_append.mp hp).2.2 x hx xl (by simp))
    ·rw [List.mem_singleton] at hx; omega
   omega
  ·rcases List.mem_append.mp hx with hx | hx
   ·have:=hbd x hx; omega
   ·rw [List.mem_singleton] at hx; omega
 ·rintro Γ' M' ⟨xs,v3,rfl,hM,hF,hB,hl,hp,hbd⟩
  rw [cP] at hl hF hbd
  exact gY 2 rfl hM (aK (aR (aB 2 rfl (hk xs _ ⟨hp,by omega,fun x hx=>by have:=hbd x hx; omega⟩ (by omega) ((hF.del hap).mono (by omega)) (hB.del haM)))))
theorem zP:FnScope ["_law_pen_here", "_law_xs", "_law_ys", "_law_menu"] zl5 (aP sK):=zSc
abbrev aCA (P w K mg z):=Fo P w K mg z "_law_signs" sK zl5 2 aL2
theorem aJF (Df:R.Df K mg "_law_signs" sK zl5 f fd) (aR3:jH P w K mg z) (T:Bt mg):aCA P w K mg z:=by
 refine ⟨f,fd,Df,a9 Df zP (fun ds M k h=>?_) (fun _ _ _ _ _ _ hr ds M k h=>?_)⟩
 ·obtain ⟨p,b,xs,ys,rfl,_⟩:=h; rfl
 obtain ⟨p,b,xs,ys,rfl,hF0,hb,l2x,l2y,fx,fy,hk⟩:=h
 refine aE (aQ 3 zP.nd ?_)
 refine aG aD ?_
 refine dR ?_
 refine aA ?_
 refine ge_str ?_
 refine aA ?_
 refine ge_str ?_
 refine aA ?_
 refine ge_str ?_
 refine aA ?_
 refine ge_str ?_
 refine aA ?_
 refine ge_str ?_
 refine aC ?_
 refine ⟨(show 5<=sizeLine by decide),?_⟩
 refine aJ aR3 hr ?_
 refine aA ?_
 refine aB 0 rfl ?_
 refine aA ?_
 refine z6 ?_
 refine aC ?_
 refine ⟨p,_,_,rfl,by decide,by decide,hF0,by omega,fun z1 M1 z10 z11 hF1 hB1 hE1 => ?_⟩
 obtain ⟨mn,hmn,mn1,mn2,mn3⟩:=aE2 z10 z11
 refine aH (.lst _) hmn ?_
 have lx:(cutD (xs.map D.int) (some 1) none).length=xs.length - 1:=by rw [mF,zLm]
 have ly:(cutD (ys.map D.int) (some 1) none).length=ys.length - 1:=by rw [mF,zLm]
 refine aK (aR (bP ["_law_pen_here", "_law_xs", "_law_menu"] [0,1,3] (b3 ?_)))
 refine fH jB ?_
 refine aB 2 rfl ?_
 refine gL ?_
 refine z6 ?_
 refine ⟨_,rfl,?_⟩
 refine gJ ?_
 refine kJ (.lst _) ?_
 refine ⟨_, .inr (.inl rfl),?_⟩
 refine cU (by rw [ly]; exact R.bG (by omega)) (fun i acc M'=>∃ zs:List Str,acc=zs.map D.str/\PnM M' p (b+1+20 * i)/\cH p M M'/\zs.length=i/\R.Good (xs.length - 1) zs) ⟨[],rfl,hF1.mono (by omega),hB1,rfl,fun z hz=>(nomatch hz)⟩ ?_ ?_
 ·rintro i d acc M' hd ⟨zs,rfl,hF,hB,hl,hgd⟩ _ _ _ _ _
  have hi:i < ys.length - 1:=by rw [<- ly]; exact (zGs hd).1
  refine bY (bU fun _ _ _ _ _=> ?_)
  refine fS PySem.F.plainAttrs_str PySem.F.slot_str_join PySem.F.type_str_join rO (ge_str ⟨rfl,aA (bP ["_law_pen_here", "_law_menu"] [1,3] (b3 ?_))⟩)
  refine fH jB ?_
  refine aB 2 rfl ?_
  refine gL ?_
  refine z6 ?_
  refine ⟨_,rfl,?_⟩
  refine gJ ?_
  refine kJ (.lst _) ?_
  refine ⟨_, .inr (.inl rfl),?_⟩
  refine cU (by rw [lx]; exact R.bG (by omega)) (fun i2 acc M2=>∃ cs:List Nat,acc=(cs.map fun c=>(⟨#[c]⟩:Str)).map D.str/\(∀ c∈cs,c=35\/c=46)/\cs.length=i2/\PnM M2 p (b+1+20 * i+i2)/\cH p M M2)
   ⟨[],rfl,fun c hc=>(nomatch hc),rfl,hF.mono (by omega),hB⟩ ?_ ?_
  ·rintro i2 d2 acc M2 hd2 ⟨cs,rfl,hcs,hl2,hF2,hB2⟩ _ _ _ _ _
   have hi2:i2 < xs.length - 1:=by rw [<- lx]; exact (zGs hd2).1
   refine bY (bU fun _ _ _ _ _=> ?_)
   refine aG aD ?_
   refine aB 2 rfl ?_
   refine aJ aR3 hr ?_
   refine aA ?_
   refine aB 1 rfl ?_
   refine aA ?_
   refine aW bJ T.len PySem.boot_len ?_
   refine aA ?_
   refine aB 2 rfl ?_
   refine aC ?_
   refine j4 (R.bG (by omega)) ?_
   refine aC ?_
   refine ⟨p,_,_,rfl,by omega,by omega,hF2,by omega,fun z3 M3 z30 z31 hF3 hB3 hE3 => ?_⟩
   obtain ⟨j3,rfl⟩:∃ j3:Nat,z3=j3:=⟨z3.toNat,by omega⟩
   refine rH (R.bG (by omega)) (R.uQ (by omega)) ?_
   refine ⟨cs++[_],by rw [List.map_append,List.map_append]; rfl,fun q hq => ?_,by rw [List.length_append,hl2]; rfl,hF3.mono (by omega),hB2.trans hB3⟩
   rcases List.mem_append.mp hq with hq | hq
   ·exact hcs q hq
   ·rw [List.mem_singleton] at hq
    rw [hq]
    exact aMZ mn3 (by omega)
  ·rintro acc M2 ⟨cs,rfl,hcs,hl2,hF2,hB2⟩
   rw [lx] at hl2 hF2
   refine aC (rZ (.lst _) (by decide +kernel) (by rw [aM6,zLm]; omega) ?_)
   rw [R.nD,R.wL]
   exact ⟨zs++[R.ofL cs],by rw [List.map_append]; rfl,hF2.mono (by omega),hB2,by rw [List.length_append,hl]; rfl,aGO hgd hl2 hcs⟩
 rintro acc M2 ⟨zs,rfl,hF,hB,hl,hgd⟩
 rw [ly] at hl hF
 exact hk zs _ hgd hl (hF.mono (by omega)) hB
theorem yU:FnScope ["_law_pen_here", "_law_one"] ["_law_pen_here"] (aP r0):=zSc
abbrev aB3 (P w K mg z):=Fo P w K mg z "_law_paces" r0 ["_law_pen_here"] 2 aP0
theorem aH0 (Df:R.Df K mg "_law_paces" r0 ["_law_pen_here"] f fd) (aR3:jH P w K mg z):aB3 P w K mg z:=by
 refine ⟨f,fd,Df,a9 Df yU (fun ds M k h=>?_) (fun _ _ _ _ _ _ hr ds M k h=>?_)⟩
 ·obtain ⟨p,b,rfl,_⟩:=h; rfl
 obtain ⟨p,b,rfl,hF0,hb,hk⟩:=h
 refine aE (aQ 1 yU.nd (aM cF (z6 (aJ aR3 hr (aA (aB 0 rfl (aA (z6 (aC ⟨p,_,_,rfl,by decide,by decide,hF0,by omega,fun z1 M1 z10 z11 hF1 hB1 hE1 => ?_⟩)))))))))
 refine bM (aE (bK (bC iG (aJ aR3 hr (aA (aB 0 rfl (aA (z6 (aC ⟨p,_,_,rfl,by decide,by decide,hF1,by omega,fun z2 M2 z20 z21 hF2 hB2 hE2 => ?_⟩)))))))))
 refine z6 (iB ⟨_,rfl,(ite2 (fun h1 => ?_) (fun h1=>bA ?_))⟩)
 ·exact aK (aR (bV (aA (aB 1 rfl (aA (aB 1 rfl (aA (aB 1 rfl (aA (aB 1 rfl (aC ⟨(show 4<=sizeLine by decide),(hk _ _ _ _ _ ⟨by omega,by omega⟩ ⟨by omega,by omega⟩ ⟨by omega,by omega⟩ ⟨by omega,by omega⟩ (hF2.mono (by omega)) (hB1.trans hB2))⟩)))))))))))
 refine aK (aR (bV (aA (aB 1 rfl (aA (aM cF (z6 (aJ aR3 hr (aA (aB 0 rfl (aA (z6 (aC ⟨p,_,_,rfl,by decide,by decide,hF2,by omega,fun z3 M3 z30 z31 hF3 hB3 hE3 => ?_⟩)))))))))))))
 refine bM (aA (aM cF (z6 (aJ aR3 hr (aA (aB 0 rfl (aA (z6 (aC ⟨p,_,_,rfl,by decide,by decide,hF3,by omega,fun z4 M4 z40 z41 hF4 hB4 hE4 => ?_⟩)))))))))
 refine bM (aA (aM cF (z6 (aJ aR3 hr (aA (aB 0 rfl (aA (z6 (aC ⟨p,_,_,rfl,by decide,by decide,hF4,by omega,fun z5 M5 z50 z51 hF5 hB5 hE5 => ?_⟩)))))))))
 exact bM (aC ⟨(show 4<=sizeLine by decide),(hk _ _ _ _ _ ⟨by omega,by omega⟩ ⟨by omega,by omega⟩ ⟨by omega,by omega⟩ ⟨by omega,by omega⟩ (hF5.mono (by omega)) ((((hB1.trans hB2).trans hB3).trans hB4).trans hB5))⟩)
theorem gG:FnScope ["_law_script", "_law_pen_here", "_law_gap", "_law_xs", "_law_ys", "_law_parts", "_law_yard", "_law_paces_here", "_law_k", "_law_point_here", "_law_x", "_law_y"] zl28 (aP sC):=zSc
theorem aO6 (Df:R.Df K mg "law" sC zl28 f fd) (aSO:aKC P w K mg z) (aR3:jH P w K mg z) (aSP:aC1 P w K mg z) (aSQ:aCA P w K mg z) (aSR:tL P w K mg z) (aSS:aGL P w K mg z) (aST:aB3 P w K mg z) (aRB:p5 P w K mg z) (aRW:qL P w K mg z) (aSU:tN P w K mg z) (aSV:rG P w K mg z) (aSW:aCO P w K mg z) (T:Bt mg):FnOk P w K mg z CX0 12 f fd zl28 (spZ K aDT):=by
 refine a9 Df gG (fun ds M k h=>?_) (fun _ _ _ _ _ _ hr ds M k h=>?_)
 ·obtain ⟨ns,rfl,_⟩:=h; rfl
 obtain ⟨ns,rfl,hns,hk⟩:=h
 refine aE (aQ 1 gG.nd (aJ aSO hr (aA (aB 0 rfl (aC ⟨ns,rfl,fun p M0 hp hL hF0=>(aE (aQ 2 gG.nd (aG aD (dR (aA (z6 (aA (z6 (aA (aM mO (z6 (z6 (aZ ⟨by decide,by decide,by decide⟩ (aC ⟨(show 3<=sizeLine by decide),(aJ aR3 hr (aA (aB 1 rfl (aA (z6 (aC ⟨p,_,_,rfl,by decide,by decide,hF0,by omega,fun z1 M1 z10 z11 hF1 hB1 hE1 => ?_⟩))))))⟩))))))))))))))⟩)))))
 obtain ⟨gap,hga,hga1,hga2⟩:=aIL z10 z11
 refine aH (.lst _) hga (aE (aQ 3 gG.nd (aJ aSP hr (aA (aB 1 rfl (aA (aB 2 rfl (aC ⟨p,_,gap,rfl,hga1,hga2,hF1,by omega,fun xs M2 ux l2x hF2 hB2 => ?_⟩))))))))
 refine aE (aQ 4 gG.nd (aJ aSP hr (aA (aB 1 rfl (aA (aB 2 rfl (aC ⟨p,_,gap,rfl,hga1,hga2,hF2,by omega,fun ys M3 uy l2y hF3 hB3 => ?_⟩)))))))
 have fx:=ux.few
 have fy:=uy.few
 refine aE (aQ 5 gG.nd (aG aD (dR (aA (z6 (aA (z6 (aA (z6 (aA (z6 (aA (aM cF (aM mO (z6 (z6 (aZ ⟨by decide,by decide,by decide⟩ (z6 (bM (aC ⟨(show 5<=sizeLine by decide),(aJ aR3 hr (aA (aB 1 rfl (aA (z6 (aC ⟨p,_,_,rfl,by decide,by decide,hF3,by omega,fun z2 M4 z20 z21 hF4 hB4 hE4 => ?_⟩))))))⟩))))))))))))))))))))
 obtain ⟨m,hm,m1,m2⟩:=aDU z20 z21
 refine aH (.lst _) hm (aE (aQ 6 gG.nd (aJ aSR hr (aA (aJ aSS hr (aA (c5 jE T.list R.BL (aA (aB 3 rfl (aC (rN (.lst _) (aA (c5 jE T.list R.BL (aA (aB 4 rfl (aC (rN (.lst _) (aA (aJ aSQ hr (aA (aB 1 rfl (aA (aB 3 rfl (aA (aB 4 rfl (aC ⟨p,_,xs,ys,rfl,hF4,by omega,l2x,l2y,by omega,by omega,fun zs M5 gz hz hF5 hB5 => ?_⟩))))))))))))))))))))))))))
 refine aC ⟨xs,ys,zs,rfl,ux,uy,gz,hz,?_⟩
 rw [aIC ux.up uy.up gz hz]
 have k0:=aHM ux uy gz hz (Mk.of tm0)
 refine aA (bV (aA (z6 (aA (aB 5 rfl (aC ⟨(show 2<=sizeLine by decide),(aA (bV (aA (z6 (aA (aB 5 rfl (aC ⟨(show 2<=sizeLine by decide),(aC ⟨(gF xs ys zs ux.up uy.up gz hz),Rat.divInt 1 m,Rat.divInt 1 m,one_pos m1,one_pos m1,by rw [aQJ m1],fun w hw=>(Mk.of tm0).bq (k0.x w hw) (by decide +kernel),fun w hw=>(Mk.of tm0).bq (k0.y w hw) (by decide +kernel),aFQ m1 m2,aFQ m1 m2,by have:=k0.lx; omega,by have:=k0.ly; omega,?_⟩)⟩)))))))⟩))))))
 have dw:=aI6 ux.up uy.up gz hz
 generalize gF xs ys zs ux.up uy.up gz hz=A at *
 have lA:=k0.lx
 have lB:=k0.ly
 refine aE (aQ 7 gG.nd (aJ aST hr (aA (aB 1 rfl (aC ⟨p,_,rfl,hF5,by omega,fun e n w s M6 he hn hw hs hF6 hB6 => ?_⟩)))))
 have o:Pp e n w s:=⟨he,hn,hw,hs⟩
 refine aE (eB (kO T.range (aA (z6 (aC ⟨_,rfl,by decide,by decide,?_⟩)))))
 refine ⟨fun i Γ' M'=>(∃ v8 v9 v10 v11,Γ'=[some (.fl (ns.map .int)),some (.mt p),some (.int gap),some (.lst (xs.map .int)),some (.lst (ys.map .int)),some (.int m),some (yd (A.scale (Rat.divInt 1 m) (Rat.divInt 1 m) (one_pos m1) (one_pos m1))),some (fE e n w s),v8,v9,v10,v11])/\PnM M' p (1000+200 * i),⟨⟨_,_,_,_,rfl⟩,hF6.mono (by omega)⟩,?_,?_⟩
 rotate_left
 ·rintro Γ' M1 ⟨⟨v8,v9,v10,v11,rfl⟩,_⟩
  exact aK (aR (kH (hk _)))
 rintro i d Γ' M' hd ⟨⟨v8,v9,v10,v11,rfl⟩,hF⟩
 obtain ⟨hi,rfl⟩:=fJ hd
 have hi5:i < 8:=hi
 refine bO 8 gG.nd (aE (aQ 9 gG.nd (aJ aSW hr (aA (aB 1 rfl (aA (aB 3 rfl (aA (aB 4 rfl (aC ⟨p,_,xs,ys,rfl,hF,by omega,ux,l2x,uy,l2y,fun u v c M1 hu hv c1 c2 hF1 hB1 => ?_⟩))))))))))
 have cm0:0 < c * m:=Int.mul_pos (by omega) (by omega)
 have cm1:c * m < 10 ^ 300:=by
  have:c * m<=200000000000000000000 * 1000000007:=Int.mul_le_mul (by unfold bot at c2; exact c2) m2 (by omega) (by decide)
  exact Int.lt_of_le_of_lt this (by decide +kernel)
 obtain ⟨n0,n1⟩:=m46 c1 c2 m1 m2
 have c2':c<=200000000000000000000:=by unfold bot at c2; exact c2
 have bs:Bs (A.scale (Rat.divInt 1 m) (Rat.divInt 1 m) (one_pos m1) (one_pos m1)) e n w s (Rat.divInt u c * Rat.divInt 1 m) (Rat.divInt v c * Rat.divInt 1 m) (c.toNat * m.toNat):=⟨o,n0,n1,frl46 dw.1 ux c1 c2 m1,frl46 dw.2 uy c1 c2 m1,fr46 c1 m1 hu.n,fr46 c1 m1 hv.n,by show (A.ws.map _).length<=7; rw [zLm]; exact lA,by show (A.us.map _).length<=7; rw [zLm]; exact lB⟩
 refine aE (aQ 10 gG.nd (aJ aRB hr (aA (aG aD (aB 9 rfl (z6 (aH (.tup _) rfl (aA (aM fD (aG aD (aB 9 rfl (z6 (aH (.tup _) rfl (aB 5 rfl (aZ (.inr ⟨by omega,by omega⟩) (aC ⟨u,c * m,rfl,cm0,cm1,?_⟩))))))))))))))))
 rw [jP cm0,<- aKD]
 refine aE (aQ 11 gG.nd (aJ aRB hr (aA (aG aD (aB 9 rfl (z6 (aH (.tup _) rfl (aA (aM fD (aG aD (aB 9 rfl (z6 (aH (.tup _) rfl (aB 5 rfl (aZ (.inr ⟨by omega,by omega⟩) (aC ⟨v,c * m,rfl,cm0,cm1,?_⟩))))))))))))))))
 rw [jP cm0,<- aKD]
 have env:=bs.env
 have lx:=bs.lx
 have ly:=bs.ly
 generalize Rat.divInt u c * Rat.divInt 1 m=x at *
 generalize Rat.divInt v c * Rat.divInt 1 m=y at *
 generalize c.toNat * m.toNat=N at *
 generalize (A.scale (Rat.divInt 1 m) (Rat.divInt 1 m) (one_pos m1) (one_pos m1))=B at *
 refine aK (bK (bC pG (aJ aRW hr (aA (aB 6 rfl (aA (aB 10 rfl (aA (aB 11 rfl (aC ⟨B,x,y,rfl,fun w hw=>env.nm.bq (env.ax w hw),fun w hw=>env.nm.bq (env.ay w hw),by omega,by omega,env.nm.bq env.fx,env.nm.bq env.fy,?_⟩))))))))))
 refine ge_str (qM ⟨_,rfl,(ite2 (fun q => ?_) (fun q=>bA ⟨⟨_,_,_,_,rfl⟩,hF1.mono (by omega)⟩))⟩)
 have ho:c8 (bN B.K (aU B.ws x) (aU B.us y))≠("out" : Str):=fun z=>by rw [decide_eq_true z] at q; cases q
 refine aK (bK (f7 (gU (c6 (b4 (aJ aSU hr (aA (aB 1 rfl (aA (aB 6 rfl (aA (aB 7 rfl (aA (aB 10 rfl (aA (aB 11 rfl (aC ⟨p,_,B,e,n,w,s,x,y,N,rfl,hF1,by omega,bs,ho,fun M2 hF2 hB2 => ?_⟩)))))))))))))))))
 refine ⟨_,rfl,(b5 (iU (c6 (b4 (aJ aSV hr (aA (aB 1 rfl (aA (aB 6 rfl (aA (aB 7 rfl (aA (aB 10 rfl (aA (aB 11 rfl (aC ⟨p,_,B,e,n,w,s,x,y,N,rfl,hF2,by omega,bs,ho,fun M3 hF3' hB3' => ?_⟩))))))))))))))))⟩
 exact ⟨_,rfl,(b5 (bA ⟨⟨_,_,_,_,rfl⟩,hF3'.mono (by omega)⟩))⟩
end
end Q
namespace HB
open PySem PySem.W
abbrev S (x:String) (k:Nat):Value := .str (Str.ofString x) k
abbrev R (a:Nat):Value := .ref a
abbrev I (a:Int):Value := .int a 0
abbrev J (a:Int) (k:Nat):Value := .int a k
abbrev E (P:Params) (x:String) (k:Nat) (v:Value):DictEntry:=⟨PyData.keyHash P (Str.ofString x), .str (Str.ofString x) k,v⟩
abbrev tO (l:List Value):Obj:=⟨.type "tuple", none, .seq l.toArray 0,#[]⟩
abbrev vO (l:List Value):Obj:=⟨.none,none, .fields l.toArray,#[]⟩
abbrev dO (l:List DictEntry) (n:Nat):Obj:=⟨.type "dict", none, .dict l.toArray n,#[]⟩
abbrev fO (n:String) (s:Stmt) (pm:Value) (cd:Nat):Obj:=⟨.type "function", none, .func { name:=Str.ofString n,qualname:=Str.ofString n,params:=L2.fX s,body := .stmts (L2.eA s),scope:=L2.aP s,globals:=3,closure:=[],defaults := .none,kwdefaults := .none,doc := .none,pyModule:=pm,annotations:=none,code := .ref cd,closureTuple := .none,builtins:=0 },#[]⟩
abbrev pO (n:String) (s:Stmt):Obj:=⟨.none,none, .func { name:=Str.ofString n,qualname:=Str.ofString n,params:=L2.fX s,body := .stmts (L2.eA s),scope:=L2.aP s,globals:=0,closure:=[],defaults := .none,kwdefaults := .none,doc := .none,pyModule := .none,annotations:=none,code := .none,closureTuple := .none,builtins:=0 },#[]⟩
abbrev cO (n f:String) (t1 t2 t3 l1 c1 c2 c3 c4 a1 a2 a3 a4 a5 t4 l2 t5:Nat) (b:Bool) (k:Nat):Obj:=⟨.type "code", none, .fields #[S n t1,S n t2,S f t3,I l1,I c1,I c2,I c3,I c4,R a1, .bool b,I k,R a2, .none,R a3,R a4,R a5,I t4,I l2,S f t5],#[]⟩
def fl:String := "/claim/cut.py"
def vs:Nat->List String->List Value
 | _,[]=>[]
 | k,x::xs => .str (Str.ofString x) k::vs (k+1) xs
def D7 (s:Stmt) (n:String) (b t l c:Nat) (ns:List String) (pm:Value):List Obj :=
 [tO [],vO [],tO (vs (t+3) ns),tO [],pO n s,cO n "/claim/cut.py" t (t+1) (t+2) l c 0 0 3 b (b+1) (b+2) (b+3) (b+4) (t+3+ns.length) l (t+4+ns.length) true 181,fO n s pm (b+5)]
def ov {a:Type}:List (Nat × a)->List a->List a
 | [],l=>l
 | (i,x)::r,l=>ov r (l.set i x)
def ev {a:Type}:Nat->List a->List a
 | 0,_=>[]
 | _+1,[]=>[]
 | _+1,[x]=>[x]
 | n+1,x::_::r=>x::ev n r
def bt:Nat->List Obj->BT
 | 0,_ => .nil
 | _+1,[] => .nil
 | n+1,x::r => .node x (bt n (ev (2 ^ n) r)) (bt n (ev (2 ^ n) r.tail))
abbrev sh (h:Heap) (k:Nat) (os:OsState):Shared:=⟨h,Array.mk [],{},k,os⟩
abbrev sT (t:BT) (n k:Nat) (os:OsState):SharedT:=⟨t,n,{},Array.mk [],{},k,os⟩
abbrev ps (a b c d:Nat):Pos:=⟨a,b,c,d⟩
abbrev z:Pos:=⟨0,0,0,0⟩
abbrev B:List Frame:=[topFrame z]
theorem p4:segRunT treeTable=PySem.W.Fast.tw10110043849684766642 PySem.W.Fast.tw14364793385576792824:=by rw [PySem.W.Fast.te10110043849684766642,PySem.W.Fast.te14364793385576792824]
theorem eGo:topGo treeTable=PySem.W.Fast.tw15667345088766844465 PySem.W.Fast.tw14364793385576792824:=by rw [PySem.W.Fast.te15667345088766844465,PySem.W.Fast.te14364793385576792824]
theorem eSeg:segRun treeTable=PySem.W.Fast.tw14374325043358763698 PySem.W.Fast.tw14364793385576792824:=by rw [PySem.W.Fast.te14374325043358763698,PySem.W.Fast.te14364793385576792824]
theorem eTop:topRun treeTable=PySem.W.Fast.tw14082659384304107361 PySem.W.Fast.tw14364793385576792824:=by rw [PySem.W.Fast.te14082659384304107361,PySem.W.Fast.te14364793385576792824]
end HB
namespace HB
open PySem PySem.W L2
theorem mkD {K:PySem.W.Frag}{mg:Str->Option Value}{h:Heap} (X:K.In h) (G:h.Ns mainGlobals mg) (n:String) (st:Stmt) (ps:List Str) (f cd:Addr) (pm:Value)
  (a:nsIn K mainGlobals (Str.ofString n)=some (some (.ref f))) (l:K.lookup f=some (fO n st pm cd)) (c:codeIn K (.ref cd) (Str.ofString n)=true) (k:keepIn K (.ref f)=true)
  (b:∀ (kV doc pm:Value) (an:Option Addr) (cdv ct:Value) (us:List Value),us.length=ps.length->bindArgs (PySem.W.fnOf (Str.ofString n) (Str.ofString n) (fX st) (eA st) (aP st) .none kV doc pm an cdv ct) ⟨us,[]⟩=pure (ps.zip us)) :
  R.Df K mg (Str.ofString n) st ps f (PySem.W.fnOf (Str.ofString n) (Str.ofString n) (fX st) (eA st) (aP st) .none .none .none pm none (.ref cd) .none) :=
 have F:Fun K (Str.ofString n) (Str.ofString n) st f _:=aPD l c k
 ⟨F,F.binds b,mg_of X G a⟩
theorem mkE {K:PySem.W.Frag}{mg:Str->Option Value}{h:Heap} (X:K.In h) (G:h.Ns mainGlobals mg) (n:String) (st:Stmt) (ps:List Str) (f cd:Addr) (pm:Value)
  (b:∀ (kV doc pm:Value) (an:Option Addr) (cdv ct:Value) (us:List Value),us.length=ps.length->bindArgs (PySem.W.fnOf (Str.ofString n) (Str.ofString n) (fX st) (eA st) (aP st) .none kV doc pm an cdv ct) ⟨us,[]⟩=pure (ps.zip us))
  (a:nsIn K mainGlobals (Str.ofString n)=some (some (.ref f)):=by kernel_rfl!) (l:K.lookup f=some (fO n st pm cd):=by kernel_rfl!) (c:codeIn K (.ref cd) (Str.ofString n)=true:=by kernel_rfl!) (k:keepIn K (.ref f)=true:=by kernel_rfl!) :
  R.Df K mg (Str.ofString n) st ps f (PySem.W.fnOf (Str.ofString n) (Str.ofString n) (fX st) (eA st) (aP st) .none .none .none pm none (.ref cd) .none):=mkD X G n st ps f cd pm a l c k b
def fM:List Str:=["len", "abs", "int", "min", "max", "range", "list", "tuple", "repr", "all", "any", "enumerate", "isinstance", "bool", "str", "zip", "reversed", "sorted", "dict"]
theorem mkB {K:PySem.W.Frag}{mg:Str->Option Value}{h:Heap} (X:K.In h) (G:h.Ns mainGlobals mg) (e:(fM.all fun n=>nsIn K mainGlobals n == some none)=true):Q.Bt mg :=
 have z:∀ n∈fM,mg n=none:=fun n hn=>mg_none_of X G (eq_of_beq (List.all_eq_true.mp e n hn))
 ⟨z _ (by simp [fM]),z _ (by simp [fM]),z _ (by simp [fM]),z _ (by simp [fM]),z _ (by simp [fM]),z _ (by simp [fM]),z _ (by simp [fM]),z _ (by simp [fM]),z _ (by simp [fM]),z _ (by simp [fM]),z _ (by simp [fM]),z _ (by simp [fM]),z _ (by simp [fM]),z _ (by simp [fM]),z _ (by simp [fM]),z _ (by simp [fM]),z _ (by simp [fM]),z _ (by simp [fM]),z _ (by simp [fM])⟩
end HB
namespace HD
open PySem PySem.W HB Q
noncomputable section
abbrev zS0:Value:=S "law_roofridges_k46_whole_rain_goes_down" 652
abbrev zS1:Value:=S "roofridges.yards" 349
abbrev zS2:Value:=S "roofridges.fractions" 255
abbrev zS3:Value:=S "roofridges.heights" 499
abbrev zS4:Value:=S "roofridges.errors" 187
abbrev zS5:Value:=S "roofridges.fronts" 444
abbrev zS6:Value:=S "roofridges.rain" 608
abbrev zS7:Value:=S "RoofError" 197
def es3 (P:Params):List DictEntry:=[E P "__name__" 165 HD.zS0,E P "__doc__" 166 .none,E P "__package__" 167 .none,E P "__loader__" 168 (.builtin "__main__.__loader__#opaque"),E P "__spec__" 169 .none,E P "__annotations__" 170 (R 6),E P "__builtins__" 171 (R 4),E P "__file__" 173 (S "/claim/cut.py" 172),E P "__cached__" 174 .none,E P "RoofError" 206 (R 24),E P "NoNumber" 222 (R 37),E P "NoYard" 238 (R 49),E P "NoPoint" 254 (R 61),E P "NOUGHT" 259 (R 64),E P "is_whole" 266 (R 71),E P "common_divisor" 275 (R 78),E P "lowest" 284 (R 85),E P "fraction" 292 (R 92),E P "plus" 300 (R 99),E P "minus" 308 (R 106),E P "times" 316 (R 113),E P "over" 324 (R 120),E P "under" 332 (R 127),E P "lesser" 340 (R 134),E P "greater" 348 (R 141),E P "MOST_LINES" 352 (J 7 351),E P "FARTHEST" 354 (J 1000000000 353),E P "is_row" 360 (R 146),E P "rows_fit" 366 (R 151),E P "column" 372 (R 156),E P "columns" 378 (R 161),E P "changes" 384 (R 166),E P "picked" 390 (R 171),E P "tidied" 396 (R 176),E P "is_whole_line" 403 (R 183),E P "are_whole_lines" 409 (R 188),E P "made" 415 (R 193),E P "bands_at" 421 (R 198),E P "has_cell" 431 (R 205),E P "lies" 443 (R 212),E P "is_edge" 457 (R 219),E P "runs" 468 (R 226),E P "stretches" 474 (R 231),E P "sides" 488 (R 238),E P "fronts_of" 498 (R 245),E P "gone" 508 (R 252),E P "time_to" 516 (R 259),E P "times_to" 530 (R 266),E P "height" 547 (R 273),E P "box_edges" 557 (R 280),E P "touches" 567 (R 287),E P "touching" 573 (R 292),E P "touched" 584 (R 299),E P "paper" 595 (R 306),E P "line_at" 607 (R 313),E P "nearest_end" 619 (R 320),E P "soonest" 628 (R 327),E P "point_on" 637 (R 334),E P "rain" 643 (R 339),E P "stretched" 651 (R 344),E P "_law_pen" 660 (R 351),E P "_law_draw" 672 (R 358),E P "_law_lines" 682 (R 365),E P "_law_signs" 688 (R 370),E P "_law_paces" 696 (R 377),E P "_law_number" 706 (R 384),E P "_law_along" 718 (R 391),E P "_law_point" 728 (R 398),E P "_law_part" 740 (R 405),E P "_law_between" 746 (R 410),E P "_law_stretch_right" 762 (R 417),E P "_law_is_straight" 781 (R 424),E P "_law_way_right" 796 (R 431),E P "_law_rest_right" 810 (R 438),E P "law" 828 (R 445)]
def es12:List Value:=[(I 2),(I 0),(R 20),(I 4),(I 0),(R 33),(I 6),(I 0),(R 45),(I 8),(I 0),(R 57),(I 12),(I 0),(R 70),(I 14),(I 0),(R 77),(I 20),(I 0),(R 84),(I 25),(I 0),(R 91),(I 31),(I 0),(R 98),(I 33),(I 0),(R 105),(I 35),(I 0),(R 112),(I 37),(I 0),(R 119),(I 41),(I 0),(R 126),(I 43),(I 0),(R 133),(I 45),(I 0),(R 140),(I 50),(I 0),(R 145),(I 54),(I 0),(R 150),(I 58),(I 0),(R 155),(I 60),(I 0),(R 160),(I 63),(I 0),(R 165),(I 69),(I 0),(R 170),(I 71),(I 0),(R 175),(I 76),(I 0),(R 182),(I 78),(I 0),(R 187),(I 84),(I 0),(R 192),(I 90),(I 0),(R 197),(I 95),(I 0),(R 204),(I 100),(I 0),(R 211),(I 111),(I 0),(R 218),(I 121),(I 0),(R 225),(I 131),(I 0),(R 230),(I 134),(I 0),(R 237),(I 142),(I 0),(R 244),(I 150),(I 0),(R 251),(I 152),(I 0),(R 258),(I 154),(I 0),(R 265),(I 162),(I 0),(R 272),(I 173),(I 0),(R 279),(I 175),(I 0),(R 286),(I 179),(I 0),(R 291),(I 181),(I 0),(R 298),(I 184),(I 0),(R 305),(I 190),(I 0),(R 312),(I 194),(I 0),(R 319),(I 201),(I 0),(R 326),(I 207),(I 0),(R 333),(I 209),(I 0),(R 338),(I 226),(I 0),(R 343),(I 231),(I 0),(R 350),(I 233),(I 0),(R 357),(I 249),(I 0),(R 364),(I 256),(I 0),(R 369),(I 259),(I 0),(R 376),(I 264),(I 0),(R 383),(I 270),(I 0),(R 390),(I 279),(I 0),(R 397),(I 282),(I 0),(R 404),(I 286),(I 0),(R 409),(I 288),(I 0),(R 416),(I 294),(I 0),(R 423),(I 303),(I 0),(R 430),(I 314),(I 0),(R 437),(I 323),(I 0),(R 444)]
def hl0 (P:Params):List Obj:=[boot_o_0 P]++[boot_o_1 P]++[boot_o_2 P]++[dO (es3 P) 75]++[boot_o_4 P]++[boot_o_5 P]++[boot_o_6 P]++[boot_o_7 P]++[boot_o_8 P]++[boot_o_9 P]++[boot_o_10 P]++[tO []]
def hl1 (P:Params):List Obj:=[vO es12]++[⟨.type "code", none, .fields #[(S "<module>" 182),(S "<module>" 183),(S "/claim/cut.py" 184),(I 1),(I 0),(I 0),(I 0),(I 0),(R 11),(.bool false),(I 181),(R 12), .none, .none, .none, .none,(I 185),(I 1),(S "/claim/cut.py" 186)],#[]⟩]++[⟨(.type "frame"),none, .plain,#[some (R 13),some (R 3),some (R 3),none,some (S "__main__" 164),none,some (R 0)]⟩]++[tO [(.type "ValueError")]]++[⟨(.type "builtin_function_or_method"),none, .fields #[(.builtin "type.__prepare__"),(.type "type")],#[]⟩]++[dO [E P "__module__" 196 HD.zS4,E P "__qualname__" 198 HD.zS7,E P "__firstlineno__" 200 (J 2 199),E P "__static_attributes__" 201 (R 22)] 4]++[tO []]++[vO []]++[⟨.type "code", none, .fields #[(S "RoofError" 191),(S "RoofError" 192),(S "/claim/cut.py" 193),(I 2),(I 0),(I 0),(I 0),(I 0),(R 18),(.bool false),(I 181),(R 19), .none, .none, .none, .none,(I 194),(I 2),(S "/claim/cut.py" 195)],#[]⟩]++[⟨(.type "frame"),none, .plain,#[some (R 20),some (R 3),some (R 17),none,some HD.zS4,none,some (R 0)]⟩]++[tO []]++[dO [E P "__module__" 196 HD.zS4,E P "__firstlineno__" 200 (J 2 199),E P "__static_attributes__" 201 (R 22),E P "__weakref__" 203 (R 25),E P "__doc__" 204 .none] 3]
def hl2 (P:Params):List Obj:=[⟨(.type "type"),none, .cls { name := "RoofError", bases:=[(.type "ValueError")],mro:=[(R 24),(.type "ValueError"),(.type "Exception"),(.type "BaseException"),(.type "object")],ns:=23,qualname := "RoofError", hasDict:=true,slotNames:=[],subclasses:=[(R 37),(R 49),(R 61)],abstract:=false,collection:=none,hasDel:=false },#[some (R 15),none,some (S "RoofError" 189),some HD.zS7,some (.builtin "ValueError.__new__"),some (.bool true)]⟩]++[⟨(.type "getset_descriptor"),none, .fields #[(S "__weakref__" 202),(R 24),(.builtin "ExceptionGroup.__weakref__"), .none],#[]⟩]++[⟨(.type "super"),none, .fields #[(R 24),(R 24),(R 24)],#[]⟩]++[⟨(.type "builtin_function_or_method"),none, .fields #[(.builtin "object.__init_subclass__"),(R 24)],#[]⟩]++[tO [(R 24)]]++[⟨(.type "builtin_function_or_method"),none, .fields #[(.builtin "type.__prepare__"),(.type "type")],#[]⟩]++[dO [E P "__module__" 214 HD.zS4,E P "__qualname__" 216 (S "NoNumber" 215),E P "__firstlineno__" 218 (J 4 217),E P "__static_attributes__" 219 (R 35)] 4]++[tO []]++[vO []]++[⟨.type "code", none, .fields #[(S "NoNumber" 209),(S "NoNumber" 210),(S "/claim/cut.py" 211),(I 4),(I 0),(I 0),(I 0),(I 0),(R 31),(.bool false),(I 181),(R 32), .none, .none, .none, .none,(I 212),(I 4),(S "/claim/cut.py" 213)],#[]⟩]++[⟨(.type "frame"),none, .plain,#[some (R 33),some (R 3),some (R 30),none,some HD.zS4,none,some (R 0)]⟩]++[tO []]
def hl3 (P:Params):List Obj:=[dO [E P "__module__" 214 HD.zS4,E P "__firstlineno__" 218 (J 4 217),E P "__static_attributes__" 219 (R 35),E P "__doc__" 220 .none] 2]++[⟨(.type "type"),none, .cls { name := "NoNumber", bases:=[(R 24)],mro:=[(R 37),(R 24),(.type "ValueError"),(.type "Exception"),(.type "BaseException"),(.type "object")],ns:=36,qualname := "NoNumber", hasDict:=true,slotNames:=[],subclasses:=[],abstract:=false,collection:=none,hasDel:=false },#[some (R 28),none,some (S "NoNumber" 207),some (S "NoNumber" 215),some (.builtin "ValueError.__new__"),some (.bool true)]⟩]++[⟨(.type "super"),none, .fields #[(R 37),(R 37),(R 37)],#[]⟩]++[⟨(.type "builtin_function_or_method"),none, .fields #[(.builtin "object.__init_subclass__"),(R 37)],#[]⟩]++[tO [(R 24)]]++[⟨(.type "builtin_function_or_method"),none, .fields #[(.builtin "type.__prepare__"),(.type "type")],#[]⟩]++[dO [E P "__module__" 230 HD.zS4,E P "__qualname__" 232 (S "NoYard" 231),E P "__firstlineno__" 234 (J 6 233),E P "__static_attributes__" 235 (R 47)] 4]++[tO []]++[vO []]++[⟨.type "code", none, .fields #[(S "NoYard" 225),(S "NoYard" 226),(S "/claim/cut.py" 227),(I 6),(I 0),(I 0),(I 0),(I 0),(R 43),(.bool false),(I 181),(R 44), .none, .none, .none, .none,(I 228),(I 6),(S "/claim/cut.py" 229)],#[]⟩]++[⟨(.type "frame"),none, .plain,#[some (R 45),some (R 3),some (R 42),none,some HD.zS4,none,some (R 0)]⟩]++[tO []]
def hl4 (P:Params):List Obj:=[dO [E P "__module__" 230 HD.zS4,E P "__firstlineno__" 234 (J 6 233),E P "__static_attributes__" 235 (R 47),E P "__doc__" 236 .none] 2]++[⟨(.type "type"),none, .cls { name := "NoYard", bases:=[(R 24)],mro:=[(R 49),(R 24),(.type "ValueError"),(.type "Exception"),(.type "BaseException"),(.type "object")],ns:=48,qualname := "NoYard", hasDict:=true,slotNames:=[],subclasses:=[],abstract:=false,collection:=none,hasDel:=false },#[some (R 40),none,some (S "NoYard" 223),some (S "NoYard" 231),some (.builtin "ValueError.__new__"),some (.bool true)]⟩]++[⟨(.type "super"),none, .fields #[(R 49),(R 49),(R 49)],#[]⟩]++[⟨(.type "builtin_function_or_method"),none, .fields #[(.builtin "object.__init_subclass__"),(R 49)],#[]⟩]++[tO [(R 24)]]++[⟨(.type "builtin_function_or_method"),none, .fields #[(.builtin "type.__prepare__"),(.type "type")],#[]⟩]++[dO [E P "__module__" 246 HD.zS4,E P "__qualname__" 248 (S "NoPoint" 247),E P "__firstlineno__" 250 (J 8 249),E P "__static_attributes__" 251 (R 59)] 4]++[tO []]++[vO []]++[⟨.type "code", none, .fields #[(S "NoPoint" 241),(S "NoPoint" 242),(S "/claim/cut.py" 243),(I 8),(I 0),(I 0),(I 0),(I 0),(R 55),(.bool false),(I 181),(R 56), .none, .none, .none, .none,(I 244),(I 8),(S "/claim/cut.py" 245)],#[]⟩]++[⟨(.type "frame"),none, .plain,#[some (R 57),some (R 3),some (R 54),none,some HD.zS4,none,some (R 0)]⟩]++[tO []]
def hl5 (P:Params):List Obj:=[dO [E P "__module__" 246 HD.zS4,E P "__firstlineno__" 250 (J 8 249),E P "__static_attributes__" 251 (R 59),E P "__doc__" 252 .none] 2]++[⟨(.type "type"),none, .cls { name := "NoPoint", bases:=[(R 24)],mro:=[(R 61),(R 24),(.type "ValueError"),(.type "Exception"),(.type "BaseException"),(.type "object")],ns:=60,qualname := "NoPoint", hasDict:=true,slotNames:=[],subclasses:=[],abstract:=false,collection:=none,hasDel:=false },#[some (R 52),none,some (S "NoPoint" 239),some (S "NoPoint" 247),some (.builtin "ValueError.__new__"),some (.bool true)]⟩]++[⟨(.type "super"),none, .fields #[(R 61),(R 61),(R 61)],#[]⟩]++[⟨(.type "builtin_function_or_method"),none, .fields #[(.builtin "object.__init_subclass__"),(R 61)],#[]⟩]++[tO [(J 0 257),(J 1 258)]]++D7 (Q.top 7) "is_whole" 65 260 12 1 ["thing"] HD.zS2++D7 (Q.top 8) "common_divisor" 72 267 14 2 ["one", "other", "rest"] HD.zS2++D7 (Q.top 9) "lowest" 79 276 20 2 ["top", "bottom", "divisor"] HD.zS2++D7 (Q.top 10) "fraction" 86 285 25 2 ["top", "bottom"] HD.zS2++D7 (Q.top 11) "plus" 93 293 31 2 ["one", "other"] HD.zS2++D7 (Q.top 12) "minus" 100 301 33 2 ["one", "other"] HD.zS2++D7 (Q.top 13) "times" 107 309 35 2 ["one", "other"] HD.zS2
def hl6 (P:Params):List Obj:=D7 (Q.top 14) "over" 114 317 37 2 ["one", "other"] HD.zS2++D7 (Q.top 15) "under" 121 325 41 2 ["one", "other"] HD.zS2++D7 (Q.top 16) "lesser" 128 333 43 2 ["one", "other"] HD.zS2++D7 (Q.top 17) "greater" 135 341 45 2 ["one", "other"] HD.zS2++[tO []]++[vO []]++[pO "is_row" (Q.top 21)]++[⟨.type "code", none, .fields #[(S "is_row" 355),(S "is_row" 356),(S "/claim/cut.py" 357),(I 50),(I 2),(I 0),(I 0),(I 3),(R 142),(.bool true),(I 181),(R 143), .none, .none, .none,(R 144),(I 358),(I 50),(S "/claim/cut.py" 359)],#[]⟩]++[fO "is_row" (Q.top 21) HD.zS1 145]++[tO []]++[vO []]++[pO "rows_fit" (Q.top 22)]
def hl7 (P:Params):List Obj:=[⟨.type "code", none, .fields #[(S "rows_fit" 361),(S "rows_fit" 362),(S "/claim/cut.py" 363),(I 54),(I 3),(I 0),(I 0),(I 3),(R 147),(.bool true),(I 181),(R 148), .none, .none, .none,(R 149),(I 364),(I 54),(S "/claim/cut.py" 365)],#[]⟩]++[fO "rows_fit" (Q.top 22) HD.zS1 150]++[tO []]++[vO []]++[pO "column" (Q.top 23)]++[⟨.type "code", none, .fields #[(S "column" 367),(S "column" 368),(S "/claim/cut.py" 369),(I 58),(I 2),(I 0),(I 0),(I 3),(R 152),(.bool true),(I 181),(R 153), .none, .none, .none,(R 154),(I 370),(I 58),(S "/claim/cut.py" 371)],#[]⟩]++[fO "column" (Q.top 23) HD.zS1 155]++[tO []]++[vO []]++[pO "columns" (Q.top 24)]++[⟨.type "code", none, .fields #[(S "columns" 373),(S "columns" 374),(S "/claim/cut.py" 375),(I 60),(I 1),(I 0),(I 0),(I 3),(R 157),(.bool true),(I 181),(R 158), .none, .none, .none,(R 159),(I 376),(I 60),(S "/claim/cut.py" 377)],#[]⟩]++[fO "columns" (Q.top 24) HD.zS1 160]
def hl8 (P:Params):List Obj:=[tO []]++[vO []]++[pO "changes" (Q.top 25)]++[⟨.type "code", none, .fields #[(S "changes" 379),(S "changes" 380),(S "/claim/cut.py" 381),(I 63),(I 1),(I 0),(I 0),(I 3),(R 162),(.bool true),(I 181),(R 163), .none, .none, .none,(R 164),(I 382),(I 63),(S "/claim/cut.py" 383)],#[]⟩]++[fO "changes" (Q.top 25) HD.zS1 165]++[tO []]++[vO []]++[pO "picked" (Q.top 26)]++[⟨.type "code", none, .fields #[(S "picked" 385),(S "picked" 386),(S "/claim/cut.py" 387),(I 69),(I 2),(I 0),(I 0),(I 3),(R 167),(.bool true),(I 181),(R 168), .none, .none, .none,(R 169),(I 388),(I 69),(S "/claim/cut.py" 389)],#[]⟩]++[fO "picked" (Q.top 26) HD.zS1 170]++[tO []]++[vO []]
def hl9 (P:Params):List Obj:=[pO "tidied" (Q.top 27)]++[⟨.type "code", none, .fields #[(S "tidied" 391),(S "tidied" 392),(S "/claim/cut.py" 393),(I 71),(I 3),(I 0),(I 0),(I 3),(R 172),(.bool true),(I 181),(R 173), .none, .none, .none,(R 174),(I 394),(I 71),(S "/claim/cut.py" 395)],#[]⟩]++[fO "tidied" (Q.top 27) HD.zS1 175]++D7 (Q.top 28) "is_whole_line" 177 397 76 1 ["thing"] HD.zS1++[tO []]++[vO []]++[pO "are_whole_lines" (Q.top 29)]++[⟨.type "code", none, .fields #[(S "are_whole_lines" 404),(S "are_whole_lines" 405),(S "/claim/cut.py" 406),(I 78),(I 1),(I 0),(I 0),(I 3),(R 184),(.bool true),(I 181),(R 185), .none, .none, .none,(R 186),(I 407),(I 78),(S "/claim/cut.py" 408)],#[]⟩]++[fO "are_whole_lines" (Q.top 29) HD.zS1 187]++[tO []]++[vO []]++[pO "made" (Q.top 30)]
def hl10 (P:Params):List Obj:=[⟨.type "code", none, .fields #[(S "made" 410),(S "made" 411),(S "/claim/cut.py" 412),(I 84),(I 3),(I 0),(I 0),(I 3),(R 189),(.bool true),(I 181),(R 190), .none, .none, .none,(R 191),(I 413),(I 84),(S "/claim/cut.py" 414)],#[]⟩]++[fO "made" (Q.top 30) HD.zS1 192]++[tO []]++[vO []]++[pO "bands_at" (Q.top 31)]++[⟨.type "code", none, .fields #[(S "bands_at" 416),(S "bands_at" 417),(S "/claim/cut.py" 418),(I 90),(I 2),(I 0),(I 0),(I 3),(R 194),(.bool true),(I 181),(R 195), .none, .none, .none,(R 196),(I 419),(I 90),(S "/claim/cut.py" 420)],#[]⟩]++[fO "bands_at" (Q.top 31) HD.zS1 197]++D7 (Q.top 32) "has_cell" 199 422 95 3 ["yard", "across", "up", "rows"] HD.zS1++D7 (Q.top 33) "lies" 206 432 100 3 ["yard", "x", "y", "cells", "up", "across"] HD.zS1++D7 (Q.top 35) "is_edge" 213 446 111 4 ["yard", "facing", "place", "band", "beyond", "before"] HD.zS5++D7 (Q.top 36) "runs" 220 458 121 1 ["truths", "told", "begin", "place", "truth"] HD.zS5++[tO []]
def hl11 (P:Params):List Obj:=[vO []]++[pO "stretches" (Q.top 37)]++[⟨.type "code", none, .fields #[(S "stretches" 469),(S "stretches" 470),(S "/claim/cut.py" 471),(I 131),(I 3),(I 0),(I 0),(I 3),(R 227),(.bool true),(I 181),(R 228), .none, .none, .none,(R 229),(I 472),(I 131),(S "/claim/cut.py" 473)],#[]⟩]++[fO "stretches" (Q.top 37) HD.zS5 230]++D7 (Q.top 38) "sides" 232 475 134 1 ["yard", "told", "facing", "along", "place", "line", "begin", "end"] HD.zS5++D7 (Q.top 39) "fronts_of" 239 489 142 1 ["sorted_sides", "told", "side", "front"] HD.zS5++D7 (Q.top 41) "gone" 246 501 150 2 ["pace", "time"] HD.zS3++D7 (Q.top 42) "time_to" 253 509 152 2 ["way", "pace"] HD.zS3++D7 (Q.top 43) "times_to" 260 517 154 4 ["lines", "where", "down", "up", "told", "place", "from_above", "from_below"] HD.zS3++D7 (Q.top 44) "height" 267 531 162 4 ["yard", "paces", "x", "y", "across_times", "up_times", "told", "up", "up_time", "across", "across_time"] HD.zS3++D7 (Q.top 45) "box_edges" 274 548 173 4 ["paces", "x", "y", "time"] HD.zS3++D7 (Q.top 46) "touches" 281 558 175 2 ["side", "edges", "low", "high"] HD.zS3
def hl12 (P:Params):List Obj:=[tO []]++[vO []]++[pO "touching" (Q.top 47)]++[⟨.type "code", none, .fields #[(S "touching" 568),(S "touching" 569),(S "/claim/cut.py" 570),(I 179),(I 2),(I 0),(I 0),(I 3),(R 288),(.bool true),(I 181),(R 289), .none, .none, .none,(R 290),(I 571),(I 179),(S "/claim/cut.py" 572)],#[]⟩]++[fO "touching" (Q.top 47) HD.zS3 291]++D7 (Q.top 48) "touched" 293 574 181 4 ["yard", "paces", "x", "y", "edges"] HD.zS3++D7 (Q.top 49) "paper" 300 585 184 4 ["yard", "paces", "x", "y", "told"] HD.zS3++D7 (Q.top 51) "line_at" 307 598 190 3 ["paces", "front", "height", "way"] (S "roofridges.levels" 596)++D7 (Q.top 53) "nearest_end" 314 610 194 3 ["paces", "side", "at", "way"] HD.zS6++D7 (Q.top 54) "soonest" 321 620 201 1 ["ends", "told", "pair"] HD.zS6++D7 (Q.top 55) "point_on" 328 629 207 3 ["front", "line", "at"] HD.zS6++[tO []]
def hl13 (P:Params):List Obj:=[vO []]++[pO "rain" (Q.top 56)]++[⟨.type "code", none, .fields #[(S "rain" 638),(S "rain" 639),(S "/claim/cut.py" 640),(I 209),(I 4),(I 0),(I 0),(I 3),(R 335),(.bool true),(I 181),(R 336), .none, .none, .none,(R 337),(I 641),(I 209),(S "/claim/cut.py" 642)],#[]⟩]++[fO "rain" (Q.top 56) HD.zS6 338]++[tO []]++[vO []]++[pO "stretched" (Q.top 58)]++[⟨.type "code", none, .fields #[(S "stretched" 646),(S "stretched" 647),(S "/claim/cut.py" 648),(I 226),(I 3),(I 0),(I 0),(I 3),(R 340),(.bool true),(I 181),(R 341), .none, .none, .none,(R 342),(I 649),(I 226),(S "/claim/cut.py" 650)],#[]⟩]++[fO "stretched" (Q.top 58) (S "roofridges.moves" 644) 343]++D7 (Q.top 60) "_law_pen" 345 654 231 1 ["_law_script"] HD.zS0++D7 (Q.top 61) "_law_draw" 352 661 233 2 ["_law_pen_here", "_law_many", "_law_digit", "_law_place", "_law_cell", "_law_mixed"] HD.zS0++D7 (Q.top 62) "_law_lines" 359 673 249 2 ["_law_pen_here", "_law_gap", "_law_lines_here", "_law_k"] HD.zS0
def hl14 (P:Params):List Obj:=[tO []]++[vO []]++[pO "_law_signs" (Q.top 63)]++[⟨.type "code", none, .fields #[(S "_law_signs" 683),(S "_law_signs" 684),(S "/claim/cut.py" 685),(I 256),(I 3),(I 0),(I 0),(I 3),(R 366),(.bool true),(I 181),(R 367), .none, .none, .none,(R 368),(I 686),(I 256),(S "/claim/cut.py" 687)],#[]⟩]++[fO "_law_signs" (Q.top 63) HD.zS0 369]++D7 (Q.top 64) "_law_paces" 371 689 259 1 ["_law_pen_here", "_law_one"] HD.zS0++D7 (Q.top 65) "_law_number" 378 697 264 2 ["_law_upper", "_law_bottom", "_law_one", "_law_other"] HD.zS0++D7 (Q.top 66) "_law_along" 385 707 270 3 ["_law_pen_here", "_law_lines_here", "_law_bottom", "_law_k", "_law_way", "_law_other"] HD.zS0++D7 (Q.top 67) "_law_point" 392 719 279 3 ["_law_pen_here", "_law_xs", "_law_ys", "_law_bottom"] HD.zS0++D7 (Q.top 68) "_law_part" 399 729 282 3 ["_law_one", "_law_other", "_law_part_here", "_law_head", "_law_below", "_law_upper"] HD.zS0++[tO []]++[vO []]
def hl15 (P:Params):List Obj:=[pO "_law_between" (Q.top 69)]++[⟨.type "code", none, .fields #[(S "_law_between" 741),(S "_law_between" 742),(S "/claim/cut.py" 743),(I 286),(I 3),(I 0),(I 0),(I 3),(R 406),(.bool true),(I 181),(R 407), .none, .none, .none,(R 408),(I 744),(I 286),(S "/claim/cut.py" 745)],#[]⟩]++[fO "_law_between" (Q.top 69) HD.zS0 409]++D7 (Q.top 70) "_law_stretch_right" 411 747 288 6 ["_law_pen_here", "_law_yard", "_law_paces_here", "_law_front", "_law_one", "_law_other", "_law_part_here", "_law_x", "_law_y", "_law_high"] HD.zS0++D7 (Q.top 71) "_law_is_straight" 418 763 294 4 ["_law_paces_here", "_law_front", "_law_one", "_law_other", "_law_facing", "_law_place", "_law_upper", "_law_lower", "_law_lost", "_law_by", "_law_begin", "_law_below", "_law_end"] HD.zS0++D7 (Q.top 72) "_law_way_right" 425 782 303 5 ["_law_pen_here", "_law_yard", "_law_paces_here", "_law_x", "_law_y", "_law_way", "_law_front", "_law_one", "_law_other"] HD.zS0++D7 (Q.top 73) "_law_rest_right" 432 797 314 5 ["_law_pen_here", "_law_yard", "_law_paces_here", "_law_x", "_law_y", "_law_way", "_law_front", "_law_here"] HD.zS0++D7 (Q.top 74) "law" 439 811 323 1 ["_law_script", "_law_pen_here", "_law_gap", "_law_xs", "_law_ys", "_law_parts", "_law_yard", "_law_paces_here", "_law_k", "_law_point_here", "_law_x", "_law_y"] HD.zS0
def hl (P:Params):List Obj:=hl0 P++hl1 P++hl2 P++hl3 P++hl4 P++hl5 P++hl6 P++hl7 P++hl8 P++hl9 P++hl10 P++hl11 P++hl12 P++hl13 P++hl14 P++hl15 P
def hA (P:Params):Heap:=⟨Array.mk (ov [(3,boot_o_3 P),(12,vO (es12.take 0))] ((hl P).take 15)),{}⟩
def env:Env:={ scope:=PySem.Challenge.pw_roofridges_k46_whole_rain_goes_down.main.scope,locals:=mainNs,globals:=mainNs,cells:=[],code:=(R 13),frame:=some 14 }
abbrev p:Program:=PySem.Challenge.rw_roofridges_k46_whole_rain_goes_down.row.toRowW.1
abbrev bE:List Stmt:=behindTheImports p
abbrev cE:Code := .body bE env
theorem pre (w:World) (os:OsState):topGo treeTable p w 11 (some (R 6)) 12 ⟨boot_heap w.params,Array.mk [],boot_drawn,boot_toks,os⟩ (topStub p)=some (sh (hA w.params) 187 os,⟨denote treeTable cE,cE,(ps 0 0 0 0),B⟩):=by rw [eGo,PySem.W.Fast.te11892475500146522536,PySem.W.Fast.te14364793385576792824]; kernel_rfl!
def t0 (P:Params):BT:=bt 14 (ov [(3,boot_o_3 P),(12,vO (es12.take 0))] ((hl P).take 15))
theorem block (w:World) (os:OsState):segRun treeTable p w 11 (some (R 6)) 1 1 (sh (hA w.params) 187 os) (blockOf bE env cE (ps 0 0 0 0) B)=some (.next,(sT (t0 w.params) 15 187 os).abs,cE,(ps 0 0 0 0)):=by rw [eSeg]; kernel_rfl!
def t1 (P:Params):BT:=bt 14 (ov [(3,dO (ov [(0,E P "__name__" 165 HD.zS4)] ((es3 P).take 10)) 10),(12,vO (es12.take 3)),(24,⟨(.type "type"),none, .cls { name := "RoofError", bases:=[(.type "ValueError")],mro:=[(R 24),(.type "ValueError"),(.type "Exception"),(.type "BaseException"),(.type "object")],ns:=23,qualname := "RoofError", hasDict:=true,slotNames:=[],subclasses:=[],abstract:=false,collection:=none,hasDel:=false },#[some (R 15),none,some (S "RoofError" 189),some HD.zS7,some (.builtin "ValueError.__new__"),some (.bool true)]⟩)] ((hl P).take 28))
def g1:List Stmt:=[Q.top 0,Q.top 1]
theorem r1 (w:World) (os:OsState):segRunT treeTable p w 11 (some (R 6)) 1 196 (sT (t0 w.params) 15 187 os) (piecesOf g1 env cE (ps 0 0 0 0) B)=some (.next,sT (t1 w.params) 28 207 os,cE,(ps 2 0 3 8)):=by rw [p4]; kernel_rfl!
def t2 (P:Params):BT:=bt 14 (ov [(3,dO (ov [(0,E P "__name__" 165 HD.zS4)] ((es3 P).take 11)) 11),(12,vO (es12.take 6)),(24,⟨(.type "type"),none, .cls { name := "RoofError", bases:=[(.type "ValueError")],mro:=[(R 24),(.type "ValueError"),(.type "Exception"),(.type "BaseException"),(.type "object")],ns:=23,qualname := "RoofError", hasDict:=true,slotNames:=[],subclasses:=[(R 37)],abstract:=false,collection:=none,hasDel:=false },#[some (R 15),none,some (S "RoofError" 189),some HD.zS7,some (.builtin "ValueError.__new__"),some (.bool true)]⟩)] ((hl P).take 40))
def g2:List Stmt:=[Q.top 2]
theorem r2 (w:World) (os:OsState):segRunT treeTable p w 11 (some (R 6)) 1 214 (sT (t1 w.params) 28 207 os) (piecesOf g2 env cE (ps 2 0 3 8) B)=some (.next,sT (t2 w.params) 40 223 os,cE,(ps 4 0 5 8)):=by rw [p4]; kernel_rfl!
def t3 (P:Params):BT:=bt 14 (ov [(3,dO (ov [(0,E P "__name__" 165 HD.zS4)] ((es3 P).take 12)) 12),(12,vO (es12.take 9)),(24,⟨(.type "type"),none, .cls { name := "RoofError", bases:=[(.type "ValueError")],mro:=[(R 24),(.type "ValueError"),(.type "Exception"),(.type "BaseException"),(.type "object")],ns:=23,qualname := "RoofError", hasDict:=true,slotNames:=[],subclasses:=[(R 37),(R 49)],abstract:=false,collection:=none,hasDel:=false },#[some (R 15),none,some (S "RoofError" 189),some HD.zS7,some (.builtin "ValueError.__new__"),some (.bool true)]⟩)] ((hl P).take 52))
def g3:List Stmt:=[Q.top 3]
theorem r3 (w:World) (os:OsState):segRunT treeTable p w 11 (some (R 6)) 1 214 (sT (t2 w.params) 40 223 os) (piecesOf g3 env cE (ps 4 0 5 8) B)=some (.next,sT (t3 w.params) 52 239 os,cE,(ps 6 0 7 8)):=by rw [p4]; kernel_rfl!
def t4 (P:Params):BT:=bt 14 (ov [(3,dO (ov [(0,E P "__name__" 165 HD.zS2)] ((es3 P).take 19)) 19),(12,vO (es12.take 27))] ((hl P).take 100))
def g4:List Stmt:=[Q.top 4,Q.top 5,Q.top 6,Q.top 7,Q.top 8,Q.top 9,Q.top 10,Q.top 11]
theorem r4 (w:World) (os:OsState):segRunT treeTable p w 11 (some (R 6)) 1 386 (sT (t3 w.params) 52 239 os) (piecesOf g4 env cE (ps 6 0 7 8) B)=some (.next,sT (t4 w.params) 100 301 os,cE,(ps 31 0 32 75)):=by rw [p4]; kernel_rfl!
def t5 (P:Params):BT:=bt 14 (ov [(3,dO (ov [(0,E P "__name__" 165 HD.zS1)] ((es3 P).take 34)) 34),(12,vO (es12.take 66))] ((hl P).take 177))
def g5:List Stmt:=[Q.top 12,Q.top 13,Q.top 14,Q.top 15,Q.top 16,Q.top 17,Q.top 18,Q.top 19,Q.top 20,Q.top 21,Q.top 22,Q.top 23,Q.top 24,Q.top 25,Q.top 26,Q.top 27]
theorem r5 (w:World) (os:OsState):segRunT treeTable p w 11 (some (R 6)) 1 390 (sT (t4 w.params) 100 301 os) (piecesOf g5 env cE (ps 31 0 32 75) B)=some (.next,sT (t5 w.params) 177 397 os,cE,(ps 71 0 75 102)):=by rw [p4]; kernel_rfl!
def t6 (P:Params):BT:=bt 14 (ov [(3,dO (ov [(0,E P "__name__" 165 HD.zS3)] ((es3 P).take 46)) 46),(12,vO (es12.take 102))] ((hl P).take 253))
def g6:List Stmt:=[Q.top 28,Q.top 29,Q.top 30,Q.top 31,Q.top 32,Q.top 33,Q.top 34,Q.top 35,Q.top 36,Q.top 37,Q.top 38,Q.top 39,Q.top 40,Q.top 41]
theorem r6 (w:World) (os:OsState):segRunT treeTable p w 11 (some (R 6)) 1 383 (sT (t5 w.params) 177 397 os) (piecesOf g6 env cE (ps 71 0 75 102) B)=some (.next,sT (t6 w.params) 253 509 os,cE,(ps 150 0 151 41)):=by rw [p4]; kernel_rfl!
def t7 (P:Params):BT:=bt 14 (ov [(3,dO (ov [(0,E P "__name__" 165 HD.zS6)] ((es3 P).take 57)) 57),(12,vO (es12.take 135))] ((hl P).take 328))
def g7:List Stmt:=[Q.top 42,Q.top 43,Q.top 44,Q.top 45,Q.top 46,Q.top 47,Q.top 48,Q.top 49,Q.top 50,Q.top 51,Q.top 52,Q.top 53,Q.top 54]
theorem r7 (w:World) (os:OsState):segRunT treeTable p w 11 (some (R 6)) 1 375 (sT (t6 w.params) 253 509 os) (piecesOf g7 env cE (ps 150 0 151 41) B)=some (.next,sT (t7 w.params) 328 629 os,cE,(ps 201 0 206 15)):=by rw [p4]; kernel_rfl!
def t8 (P:Params):BT:=bt 14 (ov [(3,dO (ov [] ((es3 P).take 69)) 69),(12,vO (es12.take 171))] ((hl P).take 406))
def g8:List Stmt:=[Q.top 55,Q.top 56,Q.top 57,Q.top 58,Q.top 59,Q.top 60,Q.top 61,Q.top 62,Q.top 63,Q.top 64,Q.top 65,Q.top 66,Q.top 67,Q.top 68]
theorem r8 (w:World) (os:OsState):segRunT treeTable p w 11 (some (R 6)) 1 385 (sT (t7 w.params) 328 629 os) (piecesOf g8 env cE (ps 201 0 206 15) B)=some (.next,sT (t8 w.params) 406 741 os,cE,(ps 282 0 285 76)):=by rw [p4]; kernel_rfl!
def t9 (P:Params):BT:=bt 14 (ov [] ((hl P).take 446))
def g9:List Stmt:=[Q.top 69,Q.top 70,Q.top 71,Q.top 72,Q.top 73,Q.top 74]
theorem r9 (w:World) (os:OsState):segRunT treeTable p w 11 (some (R 6)) 1 219 (sT (t8 w.params) 406 741 os) (piecesOf g9 env cE (ps 282 0 285 76) B)=some (.next,sT (t9 w.params) 446 829 os,cE,(ps 323 0 338 15)):=by rw [p4]; kernel_rfl!
def hZ (P:Params):Heap:=⟨Array.mk (hl P),{}⟩
theorem fin (w:World) (os:OsState):topRun treeTable p w 11 (some (R 6)) 2 (sT (t9 w.params) 446 829 os).abs ⟨doneF .next,cE,(ps 323 0 338 15),B⟩=some (sh (hZ w.params) 829 os):=by rw [eTop]; kernel_rfl!
theorem body:bE=g1++(g2++(g3++(g4++(g5++(g6++(g7++(g8++(g9++([]))))))))):=by kernel_rfl!
theorem chain (w:World) (os:OsState):topRun treeTable p w 11 (some (R 6)) (196+(214+(214+(386+(390+(383+(375+(385+(219+(2)))))))))) (sT (t0 w.params) 15 187 os).abs (restOf (g1++(g2++(g3++(g4++(g5++(g6++(g7++(g8++(g9++([])))))))))) env cE (ps 0 0 0 0) B)=some (sh (hZ w.params) 829 os):=piece_app (segRun_of (r1 w os)) (piece_app (segRun_of (r2 w os)) (piece_app (segRun_of (r3 w os)) (piece_app (segRun_of (r4 w os)) (piece_app (segRun_of (r5 w os)) (piece_app (segRun_of (r6 w os)) (piece_app (segRun_of (r7 w os)) (piece_app (segRun_of (r8 w os)) (piece_app (segRun_of (r9 w os)) (fin w os)))))))))
theorem run (w:World) (os:OsState):topRun treeTable p w 11 (some (R 6)) (12+(1+(196+(214+(214+(386+(390+(383+(375+(385+(219+(2)))))))))))) ⟨boot_heap w.params,Array.mk [],boot_drawn,boot_toks,os⟩ (topStub p)=some (sh (hZ w.params) 829 os):=go_top (pre w os) (piece_block (block w os) (by have h:=chain w os; rw [<- body] at h; exact h))
def view:Program:={ p with main:={ p.main with body:=[Q.top 1,Q.top 2,Q.top 3,Q.top 4,Q.top 6,Q.top 7,Q.top 8,Q.top 9,Q.top 10,Q.top 11,Q.top 12,Q.top 13,Q.top 14,Q.top 15,Q.top 16,Q.top 17,Q.top 19,Q.top 20,Q.top 21,Q.top 22,Q.top 23,Q.top 24,Q.top 25,Q.top 26,Q.top 27,Q.top 28,Q.top 29,Q.top 30,Q.top 31,Q.top 32,Q.top 33,Q.top 35,Q.top 36,Q.top 37,Q.top 38,Q.top 39,Q.top 41,Q.top 42,Q.top 43,Q.top 44,Q.top 45,Q.top 46,Q.top 47,Q.top 48,Q.top 49,Q.top 51,Q.top 53,Q.top 54,Q.top 55,Q.top 56,Q.top 58,Q.top 60,Q.top 61,Q.top 62,Q.top 63,Q.top 64,Q.top 65,Q.top 66,Q.top 67,Q.top 68,Q.top 69,Q.top 70,Q.top 71,Q.top 72,Q.top 73,Q.top 74] } }
def ob (P:Params) (i:Nat):Obj:=(hl P).getD i default
def zo (P:Params) (a:Nat):Addr×Obj:=(a,ob P a)
def K (P:Params):Frag:=[zo P 2,zo P 3,zo P 15,zo P 22,zo P 23,zo P 24,zo P 25,zo P 28,zo P 35,zo P 36,zo P 37,zo P 40,zo P 47,zo P 48,zo P 49,zo P 52,zo P 59,zo P 60,zo P 61,zo P 64,zo P 65,zo P 67,zo P 68,zo P 70,(nat_lit 71,fO "is_whole" (Q.top 7) HD.zS2 70),zo P 72,zo P 74,zo P 75,zo P 77,(nat_lit 78,fO "common_divisor" (Q.top 8) HD.zS2 77),zo P 79,zo P 81,zo P 82,zo P 84,(nat_lit 85,fO "lowest" (Q.top 9) HD.zS2 84),zo P 86,zo P 88,zo P 89,zo P 91,(nat_lit 92,fO "fraction" (Q.top 10) HD.zS2 91),zo P 93,zo P 95,zo P 96,zo P 98,(nat_lit 99,fO "plus" (Q.top 11) HD.zS2 98),zo P 100,zo P 102,zo P 103,zo P 105,(nat_lit 106,fO "minus" (Q.top 12) HD.zS2 105),zo P 107,zo P 109,zo P 110,zo P 112,(nat_lit 113,fO "times" (Q.top 13) HD.zS2 112),zo P 114,zo P 116,zo P 117,zo P 119,(nat_lit 120,fO "over" (Q.top 14) HD.zS2 119),zo P 121,zo P 123,zo P 124,zo P 126,(nat_lit 127,fO "under" (Q.top 15) HD.zS2 126),zo P 128,zo P 130,zo P 131,zo P 133,(nat_lit 134,fO "lesser" (Q.top 16) HD.zS2 133),zo P 135,zo P 137,zo P 138,zo P 140,(nat_lit 141,fO "greater" (Q.top 17) HD.zS2 140),zo P 142,zo P 145,(nat_lit 146,fO "is_row" (Q.top 21) HD.zS1 145),zo P 147,zo P 150,(nat_lit 151,fO "rows_fit" (Q.top 22) HD.zS1 150),zo P 152,zo P 155,(nat_lit 156,fO "column" (Q.top 23) HD.zS1 155),zo P 157,zo P 160,(nat_lit 161,fO "columns" (Q.top 24) HD.zS1 160),zo P 162,zo P 165,(nat_lit 166,fO "changes" (Q.top 25) HD.zS1 165),zo P 167,zo P 170,(nat_lit 171,fO "picked" (Q.top 26) HD.zS1 170),zo P 172,zo P 175,(nat_lit 176,fO "tidied" (Q.top 27) HD.zS1 175),zo P 177,zo P 179,zo P 180,zo P 182,(nat_lit 183,fO "is_whole_line" (Q.top 28) HD.zS1 182),zo P 184,zo P 187,(nat_lit 188,fO "are_whole_lines" (Q.top 29) HD.zS1 187),zo P 189,zo P 192,(nat_lit 193,fO "made" (Q.top 30) HD.zS1 192),zo P 194,zo P 197,(nat_lit 198,fO "bands_at" (Q.top 31) HD.zS1 197),zo P 199,zo P 201,zo P 202,zo P 204,(nat_lit 205,fO "has_cell" (Q.top 32) HD.zS1 204),zo P 206,zo P 208,zo P 209,zo P 211,(nat_lit 212,fO "lies" (Q.top 33) HD.zS1 211),zo P 213,zo P 215,zo P 216,zo P 218,(nat_lit 219,fO "is_edge" (Q.top 35) HD.zS5 218),zo P 220,zo P 222,zo P 223,zo P 225,(nat_lit 226,fO "runs" (Q.top 36) HD.zS5 225),zo P 227,zo P 230,(nat_lit 231,fO "stretches" (Q.top 37) HD.zS5 230),zo P 232,zo P 234,zo P 235,zo P 237,(nat_lit 238,fO "sides" (Q.top 38) HD.zS5 237),zo P 239,zo P 241,zo P 242,zo P 244,(nat_lit 245,fO "fronts_of" (Q.top 39) HD.zS5 244),zo P 246,zo P 248,zo P 249,zo P 251,(nat_lit 252,fO "gone" (Q.top 41) HD.zS3 251),zo P 253,zo P 255,zo P 256,zo P 258,(nat_lit 259,fO "time_to" (Q.top 42) HD.zS3 258),zo P 260,zo P 262,zo P 263,zo P 265,(nat_lit 266,fO "times_to" (Q.top 43) HD.zS3 265),zo P 267,zo P 269,zo P 270,zo P 272,(nat_lit 273,fO "height" (Q.top 44) HD.zS3 272),zo P 274,zo P 276,zo P 277,zo P 279,(nat_lit 280,fO "box_edges" (Q.top 45) HD.zS3 279),zo P 281,zo P 283,zo P 284,zo P 286,(nat_lit 287,fO "touches" (Q.top 46) HD.zS3 286),zo P 288,zo P 291,(nat_lit 292,fO "touching" (Q.top 47) HD.zS3 291),zo P 293,zo P 295,zo P 296,zo P 298,(nat_lit 299,fO "touched" (Q.top 48) HD.zS3 298),zo P 300,zo P 302,zo P 303,zo P 305,(nat_lit 306,fO "paper" (Q.top 49) HD.zS3 305),zo P 307,zo P 309,zo P 310,zo P 312,(nat_lit 313,fO "line_at" (Q.top 51) (S "roofridges.levels" 596) 312),zo P 314,zo P 316,zo P 317,zo P 319,(nat_lit 320,fO "nearest_end" (Q.top 53) HD.zS6 319),zo P 321,zo P 323,zo P 324,zo P 326,(nat_lit 327,fO "soonest" (Q.top 54) HD.zS6 326),zo P 328,zo P 330,zo P 331,zo P 333,(nat_lit 334,fO "point_on" (Q.top 55) HD.zS6 333),zo P 335,zo P 338,(nat_lit 339,fO "rain" (Q.top 56) HD.zS6 338),zo P 340,zo P 343,(nat_lit 344,fO "stretched" (Q.top 58) (S "roofridges.moves" 644) 343),zo P 345,zo P 347,zo P 348,zo P 350,(nat_lit 351,fO "_law_pen" (Q.top 60) HD.zS0 350),zo P 352,zo P 354,zo P 355,zo P 357,(nat_lit 358,fO "_law_draw" (Q.top 61) HD.zS0 357),zo P 359,zo P 361,zo P 362,zo P 364,(nat_lit 365,fO "_law_lines" (Q.top 62) HD.zS0 364),zo P 366,zo P 369,(nat_lit 370,fO "_law_signs" (Q.top 63) HD.zS0 369),zo P 371,zo P 373,zo P 374,zo P 376,(nat_lit 377,fO "_law_paces" (Q.top 64) HD.zS0 376),zo P 378,zo P 380,zo P 381,zo P 383,(nat_lit 384,fO "_law_number" (Q.top 65) HD.zS0 383),zo P 385,zo P 387,zo P 388,zo P 390,(nat_lit 391,fO "_law_along" (Q.top 66) HD.zS0 390),zo P 392,zo P 394,zo P 395,zo P 397,(nat_lit 398,fO "_law_point" (Q.top 67) HD.zS0 397),zo P 399,zo P 401,zo P 402,zo P 404,(nat_lit 405,fO "_law_part" (Q.top 68) HD.zS0 404),zo P 406,zo P 409,(nat_lit 410,fO "_law_between" (Q.top 69) HD.zS0 409),zo P 411,zo P 413,zo P 414,zo P 416,(nat_lit 417,fO "_law_stretch_right" (Q.top 70) HD.zS0 416),zo P 418,zo P 420,zo P 421,zo P 423,(nat_lit 424,fO "_law_is_straight" (Q.top 71) HD.zS0 423),zo P 425,zo P 427,zo P 428,zo P 430,(nat_lit 431,fO "_law_way_right" (Q.top 72) HD.zS0 430),zo P 432,zo P 434,zo P 435,zo P 437,(nat_lit 438,fO "_law_rest_right" (Q.top 73) HD.zS0 437),zo P 439,zo P 441,zo P 442,zo P 444,(nat_lit 445,fO "law" (Q.top 74) HD.zS0 444)]
def as:List Addr:=[nat_lit 2,nat_lit 3,nat_lit 15,nat_lit 22,nat_lit 23,nat_lit 24,nat_lit 25,nat_lit 28,nat_lit 35,nat_lit 36,nat_lit 37,nat_lit 40,nat_lit 47,nat_lit 48,nat_lit 49,nat_lit 52,nat_lit 59,nat_lit 60,nat_lit 61,nat_lit 64,nat_lit 65,nat_lit 67,nat_lit 68,nat_lit 70,nat_lit 71,nat_lit 72,nat_lit 74,nat_lit 75,nat_lit 77,nat_lit 78,nat_lit 79,nat_lit 81,nat_lit 82,nat_lit 84,nat_lit 85,nat_lit 86,nat_lit 88,nat_lit 89,nat_lit 91,nat_lit 92,nat_lit 93,nat_lit 95,nat_lit 96,nat_lit 98,nat_lit 99,nat_lit 100,nat_lit 102,nat_lit 103,nat_lit 105,nat_lit 106,nat_lit 107,nat_lit 109,nat_lit 110,nat_lit 112,nat_lit 113,nat_lit 114,nat_lit 116,nat_lit 117,nat_lit 119,nat_lit 120,nat_lit 121,nat_lit 123,nat_lit 124,nat_lit 126,nat_lit 127,nat_lit 128,nat_lit 130,nat_lit 131,nat_lit 133,nat_lit 134,nat_lit 135,nat_lit 137,nat_lit 138,nat_lit 140,nat_lit 141,nat_lit 142,nat_lit 145,nat_lit 146,nat_lit 147,nat_lit 150,nat_lit 151,nat_lit 152,nat_lit 155,nat_lit 156,nat_lit 157,nat_lit 160,nat_lit 161,nat_lit 162,nat_lit 165,nat_lit 166,nat_lit 167,nat_lit 170,nat_lit 171,nat_lit 172,nat_lit 175,nat_lit 176,nat_lit 177,nat_lit 179,nat_lit 180,nat_lit 182,nat_lit 183,nat_lit 184,nat_lit 187,nat_lit 188,nat_lit 189,nat_lit 192,nat_lit 193,nat_lit 194,nat_lit 197,nat_lit 198,nat_lit 199,nat_lit 201,nat_lit 202,nat_lit 204,nat_lit 205,nat_lit 206,nat_lit 208,nat_lit 209,nat_lit 211,nat_lit 212,nat_lit 213,nat_lit 215,nat_lit 216,nat_lit 218,nat_lit 219,nat_lit 220,nat_lit 222,nat_lit 223,nat_lit 225,nat_lit 226,nat_lit 227,nat_lit 230,nat_lit 231,nat_lit 232,nat_lit 234,nat_lit 235,nat_lit 237,nat_lit 238,nat_lit 239,nat_lit 241,nat_lit 242,nat_lit 244,nat_lit 245,nat_lit 246,nat_lit 248,nat_lit 249,nat_lit 251,nat_lit 252,nat_lit 253,nat_lit 255,nat_lit 256,nat_lit 258,nat_lit 259,nat_lit 260,nat_lit 262,nat_lit 263,nat_lit 265,nat_lit 266,nat_lit 267,nat_lit 269,nat_lit 270,nat_lit 272,nat_lit 273,nat_lit 274,nat_lit 276,nat_lit 277,nat_lit 279,nat_lit 280,nat_lit 281,nat_lit 283,nat_lit 284,nat_lit 286,nat_lit 287,nat_lit 288,nat_lit 291,nat_lit 292,nat_lit 293,nat_lit 295,nat_lit 296,nat_lit 298,nat_lit 299,nat_lit 300,nat_lit 302,nat_lit 303,nat_lit 305,nat_lit 306,nat_lit 307,nat_lit 309,nat_lit 310,nat_lit 312,nat_lit 313,nat_lit 314,nat_lit 316,nat_lit 317,nat_lit 319,nat_lit 320,nat_lit 321,nat_lit 323,nat_lit 324,nat_lit 326,nat_lit 327,nat_lit 328,nat_lit 330,nat_lit 331,nat_lit 333,nat_lit 334,nat_lit 335,nat_lit 338,nat_lit 339,nat_lit 340,nat_lit 343,nat_lit 344,nat_lit 345,nat_lit 347,nat_lit 348,nat_lit 350,nat_lit 351,nat_lit 352,nat_lit 354,nat_lit 355,nat_lit 357,nat_lit 358,nat_lit 359,nat_lit 361,nat_lit 362,nat_lit 364,nat_lit 365,nat_lit 366,nat_lit 369,nat_lit 370,nat_lit 371,nat_lit 373,nat_lit 374,nat_lit 376,nat_lit 377,nat_lit 378,nat_lit 380,nat_lit 381,nat_lit 383,nat_lit 384,nat_lit 385,nat_lit 387,nat_lit 388,nat_lit 390,nat_lit 391,nat_lit 392,nat_lit 394,nat_lit 395,nat_lit 397,nat_lit 398,nat_lit 399,nat_lit 401,nat_lit 402,nat_lit 404,nat_lit 405,nat_lit 406,nat_lit 409,nat_lit 410,nat_lit 411,nat_lit 413,nat_lit 414,nat_lit 416,nat_lit 417,nat_lit 418,nat_lit 420,nat_lit 421,nat_lit 423,nat_lit 424,nat_lit 425,nat_lit 427,nat_lit 428,nat_lit 430,nat_lit 431,nat_lit 432,nat_lit 434,nat_lit 435,nat_lit 437,nat_lit 438,nat_lit 439,nat_lit 441,nat_lit 442,nat_lit 444,nat_lit 445]
abbrev Hk:Hook:=kHook K as (fun _=>by kernel_rfl!)
theorem opens:∀ w:World,(fencedOpening treeTable p w 5632).map (fun s=>(s.heap,s.gens,s.drawn,s.toks))=some (boot_heap w.params,Array.mk [],boot_drawn,boot_toks):=boot_open (by kernel_rfl!) (by kernel_rfl!) (fun _=>by kernel_rfl!)
abbrev Xt:Shared->Bool:=fun s=>xlAt view [] s && recOk (RowW.records PySem.Challenge.rw_roofridges_k46_whole_rain_goes_down.row.toRowW) s
theorem size (w:World):((boot_heap w.params).isNs mainGlobals && (Array.mk ([]:List GenState)).size == 0,(boot_heap w.params).objs.size,(boot_heap w.params).nsMap mainGlobals "__annotations__")=(true,11,(some (R 6))):=by kernel_rfl!
theorem look1 (w:World) (os:OsState):(staticsOk (importedModules p.main.body) (boot_heap w.params) (hZ w.params) && namesBound p (hZ w.params) && gensDone (sh (hZ w.params) 829 os) && laidKept (boot_heap w.params) (hZ w.params))=true:=by kernel_rfl!
theorem look2 (w:World) (os:OsState):openSeen view [] (importedModules p.main.body) Xt true (sh (hZ w.params) 829 os)=openGood view []:=by rw [PySem.W.Fast.te4187177175401517315]; kernel_rfl!
theorem look3 (w:World) (os:OsState):Hk.obs (sh (hZ w.params) 829 os)=Hk.val w:=by kernel_rfl!
theorem left:LeftO p view [] Xt Hk.obs Hk.val 5632 true:=LeftO.of_pieces opens size run (by kernel_rfl!) (fun w=>funext fun os=>by rw [look1,look2,look3])
theorem said:PySem.Challenge.rw_roofridges_k46_whole_rain_goes_down.wellSaid=true:=by rw [PySem.W.Fast.te9446332074065402090]; kernel_rfl!
end
end HD
namespace Q
open PySem L2 Z
theorem aB0 {K:Fg}{G:Hp}:∀ ns:List Int,Dens K G (ns.map D.int) (ns.map V.int)
 | []=>by simp only [List.map,Dens]
 | n::ns=>by simp only [List.map,Dens]; exact ⟨_,_,rfl,by simp only [Den],aB0 ns⟩
open HB in
theorem all_mk {l:PySem.W.OpenLaw}{w:World}{h:Heap}{mg:Str->Option Value}{fa:Addr} (X:(HD.K w.params).In h) (G:h.Ns mainGlobals mg) (hfa:mg "law" = some (.ref fa)) :
  ∃ fd:FuncData,(∀ (s:Shared) (v:Value),BindsTo s fd ⟨[v],[]⟩ [("_law_script", v)])/\∀ z:Heap,(HD.K w.params).In z->z.Ns mainGlobals mg->FnOk l.prog w (HD.K w.params) mg z CX0 12 fa fd ["_law_script"] (spZ (HD.K w.params) aDT):=by
 have T:Bt mg:=mkB X G (by kernel_rfl!)
 have C_FARTHEST:=PySem.W.mg_of X G (by kernel_rfl!:PySem.W.nsIn (HD.K w.params) mainGlobals "FARTHEST" = some (some (J 1000000000 353)))
 have C_MOST_LINES:=PySem.W.mg_of X G (by kernel_rfl!:PySem.W.nsIn (HD.K w.params) mainGlobals "MOST_LINES" = some (some (J 7 351)))
 have C_NOUGHT:=PySem.W.mg_of X G (by kernel_rfl!:PySem.W.nsIn (HD.K w.params) mainGlobals "NOUGHT" = some (some (R 64)))
 have E_NOUGHT:∀ G,Den (HD.K w.params) G (pairD (p1 0)) (.ref 64):=fun G=>aOU (by kernel_rfl!:List.lookup 64 (HD.K w.params)=some (tO [(J 0 257),(J 1 258)]))
 have D1:=mkE X G "is_whole" kX ["thing"] 71 70 HD.zS2 (fun _ _ _ _ _ _ us hl=>match us,hl with | [_],_=>rfl)
 have D2:=mkE X G "common_divisor" f9 ["one", "other"] 78 77 HD.zS2 (fun _ _ _ _ _ _ us hl=>match us,hl with | [_,_],_=>rfl)
 have D3:=mkE X G "under" sN ["one", "other"] 127 126 HD.zS2 (fun _ _ _ _ _ _ us hl=>match us,hl with | [_,_],_=>rfl)
 have D4:=mkE X G "bands_at" lJ ["lines", "where"] 198 197 HD.zS1 (fun _ _ _ _ _ _ us hl=>match us,hl with | [_,_],_=>rfl)
 have D5:=mkE X G "has_cell" lG ["yard", "across", "up"] 205 204 HD.zS1 (fun _ _ _ _ _ _ us hl=>match us,hl with | [_,_,_],_=>rfl)
 have D6:=mkE X G "column" p8 ["rows", "place"] 156 155 HD.zS1 (fun _ _ _ _ _ _ us hl=>match us,hl with | [_,_],_=>rfl)
 have D7:=mkE X G "columns" nA ["rows"] 161 160 HD.zS1 (fun _ _ _ _ _ _ us hl=>match us,hl with | [_],_=>rfl)
 have D8:=mkE X G "changes" nK ["bands"] 166 165 HD.zS1 (fun _ _ _ _ _ _ us hl=>match us,hl with | [_],_=>rfl)
 have D9:=mkE X G "picked" pW ["row", "places"] 171 170 HD.zS1 (fun _ _ _ _ _ _ us hl=>match us,hl with | [_,_],_=>rfl)
 have D10:=mkE X G "tidied" pH ["xs", "ys", "rows"] 176 175 HD.zS1 (fun _ _ _ _ _ _ us hl=>match us,hl with | [_,_,_],_=>rfl)
 have D11:=mkE X G "lowest" pE ["top", "bottom"] 85 84 HD.zS2 (fun _ _ _ _ _ _ us hl=>match us,hl with | [_,_],_=>rfl)
 have D12:=mkE X G "fraction" lE ["top", "bottom"] 92 91 HD.zS2 (fun _ _ _ _ _ _ us hl=>match us,hl with | [_,_],_=>rfl)
 have D13:=mkE X G "plus" vX ["one", "other"] 99 98 HD.zS2 (fun _ _ _ _ _ _ us hl=>match us,hl with | [_,_],_=>rfl)
 have D14:=mkE X G "minus" rL ["one", "other"] 106 105 HD.zS2 (fun _ _ _ _ _ _ us hl=>match us,hl with | [_,_],_=>rfl)
 have D15:=mkE X G "times" rR ["one", "other"] 113 112 HD.zS2 (fun _ _ _ _ _ _ us hl=>match us,hl with | [_,_],_=>rfl)
 have D16:=mkE X G "stretched" kA ["yard", "by_x", "by_y"] 344 343 (S "roofridges.moves" 644) (fun _ _ _ _ _ _ us hl=>match us,hl with | [_,_,_],_=>rfl)
 have D17:=mkE X G "is_row" pY ["thing", "wide"] 146 145 HD.zS1 (fun _ _ _ _ _ _ us hl=>match us,hl with | [_,_],_=>rfl)
 have D18:=mkE X G "rows_fit" lF ["rows", "xs", "ys"] 151 150 HD.zS1 (fun _ _ _ _ _ _ us hl=>match us,hl with | [_,_,_],_=>rfl)
 have D19:=mkE X G "is_whole_line" gO ["thing"] 183 182 HD.zS1 (fun _ _ _ _ _ _ us hl=>match us,hl with | [_],_=>rfl)
 have D20:=mkE X G "are_whole_lines" fN ["thing"] 188 187 HD.zS1 (fun _ _ _ _ _ _ us hl=>match us,hl with | [_],_=>rfl)
 have D21:=mkE X G "made" vQ ["xs", "ys", "rows"] 193 192 HD.zS1 (fun _ _ _ _ _ _ us hl=>match us,hl with | [_,_,_],_=>rfl)
 have D22:=mkE X G "_law_pen" yG ["_law_script"] 351 350 HD.zS0 (fun _ _ _ _ _ _ us hl=>match us,hl with | [_],_=>rfl)
 have D23:=mkE X G "_law_draw" vC ["_law_pen_here", "_law_many"] 358 357 HD.zS0 (fun _ _ _ _ _ _ us hl=>match us,hl with | [_,_],_=>rfl)
 have D24:=mkE X G "_law_lines" sR ["_law_pen_here", "_law_gap"] 365 364 HD.zS0 (fun _ _ _ _ _ _ us hl=>match us,hl with | [_,_],_=>rfl)
 have D25:=mkE X G "_law_signs" sK ["_law_pen_here", "_law_xs", "_law_ys"] 370 369 HD.zS0 (fun _ _ _ _ _ _ us hl=>match us,hl with | [_,_,_],_=>rfl)
 have D26:=mkE X G "_law_paces" r0 ["_law_pen_here"] 377 376 HD.zS0 (fun _ _ _ _ _ _ us hl=>match us,hl with | [_],_=>rfl)
 have D27:=mkE X G "_law_number" qB ["_law_upper", "_law_bottom"] 384 383 HD.zS0 (fun _ _ _ _ _ _ us hl=>match us,hl with | [_,_],_=>rfl)
 have D28:=mkE X G "over" vK ["one", "other"] 120 119 HD.zS2 (fun _ _ _ _ _ _ us hl=>match us,hl with | [_,_],_=>rfl)
 have D29:=mkE X G "greater" n8 ["one", "other"] 141 140 HD.zS2 (fun _ _ _ _ _ _ us hl=>match us,hl with | [_,_],_=>rfl)
 have D30:=mkE X G "lesser" o6 ["one", "other"] 134 133 HD.zS2 (fun _ _ _ _ _ _ us hl=>match us,hl with | [_,_],_=>rfl)
 have D31:=mkE X G "time_to" nM ["way", "pace"] 259 258 HD.zS3 (fun _ _ _ _ _ _ us hl=>match us,hl with | [_,_],_=>rfl)
 have D32:=mkE X G "times_to" kY ["lines", "where", "down", "up"] 266 265 HD.zS3 (fun _ _ _ _ _ _ us hl=>match us,hl with | [_,_,_,_],_=>rfl)
 have D33:=mkE X G "lies" uW ["yard", "x", "y"] 212 211 HD.zS1 (fun _ _ _ _ _ _ us hl=>match us,hl with | [_,_,_],_=>rfl)
 have D34:=mkE X G "height" p3 ["yard", "paces", "x", "y"] 273 272 HD.zS3 (fun _ _ _ _ _ _ us hl=>match us,hl with | [_,_,_,_],_=>rfl)
 have D35:=mkE X G "_law_along" sP ["_law_pen_here", "_law_lines_here", "_law_bottom"] 391 390 HD.zS0 (fun _ _ _ _ _ _ us hl=>match us,hl with | [_,_,_],_=>rfl)
 have D36:=mkE X G "_law_point" sA ["_law_pen_here", "_law_xs", "_law_ys"] 398 397 HD.zS0 (fun _ _ _ _ _ _ us hl=>match us,hl with | [_,_,_],_=>rfl)
 have D37:=mkE X G "gone" vF ["pace", "time"] 252 251 HD.zS3 (fun _ _ _ _ _ _ us hl=>match us,hl with | [_,_],_=>rfl)
 have D38:=mkE X G "is_edge" nJ ["yard", "facing", "place", "band"] 219 218 HD.zS5 (fun _ _ _ _ _ _ us hl=>match us,hl with | [_,_,_,_],_=>rfl)
 have D39:=mkE X G "runs" uL ["truths"] 226 225 HD.zS5 (fun _ _ _ _ _ _ us hl=>match us,hl with | [_],_=>rfl)
 have D40:=mkE X G "stretches" kC ["yard", "facing", "place"] 231 230 HD.zS5 (fun _ _ _ _ _ _ us hl=>match us,hl with | [_,_,_],_=>rfl)
 have D41:=mkE X G "sides" sY ["yard"] 238 237 HD.zS5 (fun _ _ _ _ _ _ us hl=>match us,hl with | [_],_=>rfl)
 have D42:=mkE X G "fronts_of" j7 ["sorted_sides"] 245 244 HD.zS5 (fun _ _ _ _ _ _ us hl=>match us,hl with | [_],_=>rfl)
 have D43:=mkE X G "box_edges" kB ["paces", "x", "y", "time"] 280 279 HD.zS3 (fun _ _ _ _ _ _ us hl=>match us,hl with | [_,_,_,_],_=>rfl)
 have D44:=mkE X G "touches" nU ["side", "edges"] 287 286 HD.zS3 (fun _ _ _ _ _ _ us hl=>match us,hl with | [_,_],_=>rfl)
 have D45:=mkE X G "touching" k6 ["yard", "edges"] 292 291 HD.zS3 (fun _ _ _ _ _ _ us hl=>match us,hl with | [_,_],_=>rfl)
 have D46:=mkE X G "touched" nC ["yard", "paces", "x", "y"] 299 298 HD.zS3 (fun _ _ _ _ _ _ us hl=>match us,hl with | [_,_,_,_],_=>rfl)
 have D47:=mkE X G "line_at" nX ["paces", "front", "height"] 313 312 (S "roofridges.levels" 596) (fun _ _ _ _ _ _ us hl=>match us,hl with | [_,_,_],_=>rfl)
 have D48:=mkE X G "nearest_end" iZ ["paces", "side", "at"] 320 319 HD.zS6 (fun _ _ _ _ _ _ us hl=>match us,hl with | [_,_,_],_=>rfl)
 have D49:=mkE X G "soonest" mZ ["ends"] 327 326 HD.zS6 (fun _ _ _ _ _ _ us hl=>match us,hl with | [_],_=>rfl)
 have D50:=mkE X G "point_on" lP ["front", "line", "at"] 334 333 HD.zS6 (fun _ _ _ _ _ _ us hl=>match us,hl with | [_,_,_],_=>rfl)
 have D51:=mkE X G "paper" rX ["yard", "paces", "x", "y"] 306 305 HD.zS3 (fun _ _ _ _ _ _ us hl=>match us,hl with | [_,_,_,_],_=>rfl)
 have D52:=mkE X G "rain" vB ["yard", "paces", "x", "y"] 339 338 HD.zS6 (fun _ _ _ _ _ _ us hl=>match us,hl with | [_,_,_,_],_=>rfl)
 have D53:=mkE X G "_law_part" vW ["_law_one", "_law_other", "_law_part_here"] 405 404 HD.zS0 (fun _ _ _ _ _ _ us hl=>match us,hl with | [_,_,_],_=>rfl)
 have D54:=mkE X G "_law_between" n9 ["_law_one", "_law_other", "_law_part_here"] 410 409 HD.zS0 (fun _ _ _ _ _ _ us hl=>match us,hl with | [_,_,_],_=>rfl)
 have D55:=mkE X G "_law_stretch_right" gT ["_law_pen_here", "_law_yard", "_law_paces_here", "_law_front", "_law_one", "_law_other"] 417 416 HD.zS0 (fun _ _ _ _ _ _ us hl=>match us,hl with | [_,_,_,_,_,_],_=>rfl)
 have D56:=mkE X G "_law_is_straight" iX ["_law_paces_here", "_law_front", "_law_one", "_law_other"] 424 423 HD.zS0 (fun _ _ _ _ _ _ us hl=>match us,hl with | [_,_,_,_],_=>rfl)
 have D57:=mkE X G "_law_way_right" j8 ["_law_pen_here", "_law_yard", "_law_paces_here", "_law_x", "_law_y"] 431 430 HD.zS0 (fun _ _ _ _ _ _ us hl=>match us,hl with | [_,_,_,_,_],_=>rfl)
 have D58:=mkE X G "_law_rest_right" jM ["_law_pen_here", "_law_yard", "_law_paces_here", "_law_x", "_law_y"] 438 437 HD.zS0 (fun _ _ _ _ _ _ us hl=>match us,hl with | [_,_,_,_,_],_=>rfl)
 have D59:=mkE X G "law" sC ["_law_script"] 445 444 HD.zS0 (fun _ _ _ _ _ _ us hl=>match us,hl with | [_],_=>rfl)
 cases hfa.symm.trans D59.m
 refine ⟨PySem.W.fnOf "law" "law" (fX sC) (eA sC) (aP sC) .none .none .none HD.zS0 none (.ref 444) .none,fun s v => .of_eq rfl,fun z _ _ => ?_⟩
 have G1:=aA9 (P:=l.prog) (w:=w) (z:=z) D1 T
 have G2:=tD (P:=l.prog) (w:=w) (z:=z) D2 T
 have G3:=aIO (P:=l.prog) (w:=w) (z:=z) D3
 have G4:=aA6 D4 G3 T
 have G5:=aBE (P:=l.prog) (w:=w) (z:=z) D5 T
 have G6:=aGX (P:=l.prog) (w:=w) (z:=z) D6
 have G7:=aED D7 G6 T
 have G8:=aC9 (P:=l.prog) (w:=w) (z:=z) D8 T
 have G9:=aGD (P:=l.prog) (w:=w) (z:=z) D9
 have G10:=aFZ D10 G8 G7 G9 T
 have G11:=aGM D11 G2
 have G12:=aA4 D12 G1 G11
 have G13:=aLE D13 G11
 have G14:=aH6 D14 G11
 have G15:=aIG D15 G11
 have G16:=zY D16 G15 T
 have G17:=aHB (P:=l.prog) (w:=w) (z:=z) D17 T
 have G18:=aBN D18 G17 T
 have G19:=uA D19 G1 C_FARTHEST
 have G20:=qX D20 G19 T C_MOST_LINES
 have G21:=aM0 D21 G20 G18 G10 G12 T
 have G22:=aPF (P:=l.prog) (w:=w) (z:=z) D22
 have G23:=aKS (P:=l.prog) (w:=w) (z:=z) D23 T
 have G24:=aIP D24 G23 T
 have G25:=aJF D25 G23 T
 have G26:=aH0 D26 G23
 have G27:=aGR (P:=l.prog) (w:=w) (z:=z) D27 T
 have G28:=aMS D28 G11
 have G29:=aEI D29 G3
 have G30:=aGK D30 G3
 have G31:=aDC D31 G28 G12
 have G32:=aA5 D32 G14 G31 G29 T
 have G33:=aMA D33 G4 G5 T
 have G34:=aE8 D34 G33 G32 G5 G30 G29 T C_NOUGHT E_NOUGHT
 have G35:=aJ0 D35 G23 T
 have G36:=aJO D36 G23 G35 T
 have G37:=aNG D37 G15 G12
 have G38:=aDQ D38 G5
 have G39:=aNA (P:=l.prog) (w:=w) (z:=z) D39 T
 have G40:=yK D40 G39 G38 T
 have G41:=aJS D41 G40 T
 have G42:=yW (P:=l.prog) (w:=w) (z:=z) D42 T
 have G43:=aAA D43 G37 G14 G13
 have G44:=aC3 D44 G3
 have G45:=aBC D45 G41 G44
 have G46:=aDB D46 G43 G34 G42 G45
 have G47:=aC4 D47 G37 G13 G14
 have G48:=wR D48 G3 G31 G14 C_NOUGHT E_NOUGHT
 have G49:=aD2 D49 G3
 have G50:=aBK (P:=l.prog) (w:=w) (z:=z) D50
 have G51:=aH7 D51 G33 G34 G45 G43
 have G52:=aKN D52 G51 G45 G43 G49 G48 G50 G47 C_NOUGHT E_NOUGHT
 have G53:=aLY D53 G27
 have G54:=aEE D54 G53 T
 have G55:=uC D55 G23 G54 G34 G46
 have G56:=wG D56 G27
 have G57:=zX D57 G52 G46 G34 G33 G55 G56 T
 have G58:=yB D58 G52 G46 G23 G54 T
 have G59:=aO6 D59 G22 G23 G24 G25 G16 G21 G26 G27 G33 G57 G58 G36 T
 exact G59
theorem walk {l:PySem.W.OpenLaw}{q:Program}{loose:List Str}{XP:(Str->Option Value)->Heap->Prop}{YP:World->Heap->Prop}{d:DefRec}{K:Params->PySem.W.Frag} (hn:l.most=some 63) (hdf:d.params.defaults=[])
  (hY:∀ (w:World) (h:Heap),YP w h->(K w.params).In h)
  (F:∀ (w:World) (mg:Str->Option Value) (fa:Addr) (h:Heap),(K w.params).In h->h.Ns mainGlobals mg->mg d.name=some (.ref fa) ->
   ∃ fd:FuncData,(∀ (s:Shared) (u:Value),BindsTo s fd ⟨[u],[]⟩ [("_law_script", u)])/\∀ z:Heap,(K w.params).In z->z.Ns mainGlobals mg->FnOk l.prog w (K w.params) mg z CX0 12 fa fd ["_law_script"] (spZ (K w.params) aDT)) :
  PySem.W.WalkO q loose XP YP l.row.toRowW d [] (fun f vs=>PySem.call f vs) :=
 L2.aMY (n:=63) (k:=12) (x := "_law_script") (CX:=fun _=>CX0) (sp:=fun w=>spZ (K w.params) aDT) hn (by decide) hdf ⟨rfl,by decide,by decide,rfl⟩ hY F
  (fun w H a ns hl _ hS=>⟨H,fun _=>none,[.fl (ns.map .int)],fun d _=>d = .bl true,⟨Same.refl H,nofun⟩,⟨_,_,rfl,aO2 hS (aB0 ns),by simp only [Dens]⟩,⟨ns,rfl,hl,fun _=>rfl⟩,fun v G' H' d M' _ hd e=>by subst e; simpa only [Den] using hd⟩) fun _ _ _ _ _ z=>z
end Q
open PySem PySem.W PyProof.Rows
set_option maxRecDepth 100000 in
set_option maxHeartbeats 0 in
theorem PySem.Challenge.cw_roofridges_k46_whole_rain_goes_down_holds : PySem.Challenge.rw_roofridges_k46_whole_rain_goes_down.Holds := by
 w_on
 refine holds_law HD.said fun said => ?_
 refine holds_open (q:=HD.view) (loose:=[]) (Xt:=HD.Xt) (XP:=XL HD.view []) (Yf:=HD.Hk.obs) (Ya:=HD.Hk.val) (YP:=HD.Hk.says) HD.left (Hook.of HD.Hk) (Hook.keeps HD.Hk) (fun s e=>xl_of s (Bool.and_eq_true_iff.mp e).1) XL.keeps (by rfl) (by rfl) (by rfl) (fun s e=>recFacts_of (Bool.and_eq_true_iff.mp e).2) (by rfl) (by first | assumption | decide +kernel) (by decide +kernel) ⟨rfl,rfl,rfl,rfl,rfl,by decide +kernel⟩ ?hw ?hc
 case hw=>w_witness2
 exact Q.walk (l:=PySem.Challenge.rw_roofridges_k46_whole_rain_goes_down) (K:=HD.K) rfl rfl (fun w h Y=>PySem.W.kIn_of Y) fun w mg fa h KX G hmg=>Q.all_mk KX G hmg
