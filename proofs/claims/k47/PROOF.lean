import PyProof.Rows.All
import Wide.All
import OpenK.AllK
import Wide.FinOn
import Lean
import PyProof.EqAt
import PyProof.EqKinds
import PyProof.NeKinds
import PyProof.TupleCall
import KE.KRevIter
import KE.KRevSl
import PySem.Challenge.RW_roofridges_k47_likeness_told
set_option Elab.async false
set_option linter.all false
set_option maxRecDepth 100000
set_option maxHeartbeats 4000000
namespace L2
open PySem PySem.Spec PyProof.Rows
abbrev Key:=Sum Int Str
def aH0:Key→Value→Bool
 | .inl k,v=>Value.isInt k v
 | .inr x,v=>Value.isStrOf x v
def keyH (w:World):Key→Int
 | .inl k=>hashInt k
 | .inr x=>hashStr w x
theorem dY:∀ {k:Key}{v:Value},aH0 k v=true→(∃ i t,k=Sum.inl i∧v=Value.int i t)∨(∃ x t,k=Sum.inr x∧v=Value.str x t)
 | .inl i,v,h=>by
  obtain ⟨t,e⟩:=Value.isInt_shape (k:=i) (v:=v) h
  exact .inl ⟨i,t,rfl,e⟩
 | .inr x,v,h=>by
  obtain ⟨t,e⟩:=Value.isStrOf_shape (x:=x) (v:=v) h
  exact .inr ⟨x,t,rfl,e⟩
theorem aMA (a b:Int):decide ((Sum.inl a:Key)=Sum.inl b)=(a == b):=by
 by_cases e:a=b
 ·subst e; simp
 ·have h:¬ (Sum.inl a:Key)=Sum.inl b:=fun q=>e (Sum.inl.inj q)
  rw [decide_eq_false h]
  exact (beq_eq_false_iff_ne.mpr e).symm
theorem aMQ (a b:Str):decide ((Sum.inr a:Key)=Sum.inr b)=decide (a=b):=by
 by_cases e:a=b
 ·subst e; simp
 ·have h:¬ (Sum.inr a:Key)=Sum.inr b:=fun q=>e (Sum.inr.inj q)
  rw [decide_eq_false h,decide_eq_false e]
theorem aLM (a:Int) (b:Str):decide ((Sum.inl a:Key)=Sum.inr b)=false:=decide_eq_false (fun q=>nomatch q)
theorem aLA (a:Str) (b:Int):decide ((Sum.inr a:Key)=Sum.inl b)=false:=decide_eq_false (fun q=>nomatch q)
def uE (prog:Program) (w:World):PySem.KeyKind prog w Key where
 is:=aH0
 hash:=keyH w
 inj:=fun v a b ha hb=>by
  rcases dY ha with ⟨i,t,rfl,rfl⟩ | ⟨x,t,rfl,rfl⟩
  ·rcases dY hb with ⟨j,u,rfl,e⟩ | ⟨y,u,rfl,e⟩
   ·injection e with e1 _; rw [e1]
   ·exact nomatch e
  ·rcases dY hb with ⟨j,u,rfl,e⟩ | ⟨y,u,rfl,e⟩
   ·exact nomatch e
   ·injection e with e1 _; rw [e1]
 byValue:=fun k v h=>by
  rcases dY h with ⟨i,t,rfl,rfl⟩ | ⟨x,t,rfl,rfl⟩ <;> rfl
 pyHash:=fun hv h=>by
  rcases dY hv with ⟨i,t,rfl,rfl⟩ | ⟨x,t,rfl,rfl⟩
  ·exact wpAny_pyHash_int h
  ·exact wpAny_pyHash_str h
 eqBool:=fun hu hv h=>by
  rcases dY hu with ⟨i,t,rfl,rfl⟩ | ⟨x,t,rfl,rfl⟩
  ·rcases dY hv with ⟨j,u,rfl,rfl⟩ | ⟨y,u,rfl,rfl⟩
   ·rw [aMA] at h; exact wpAny_eqBool_int h
   ·rw [aLM] at h; exact SeqAt.EqAt.int_str i t y u _ _ _ _ h
  ·rcases dY hv with ⟨j,u,rfl,rfl⟩ | ⟨y,u,rfl,rfl⟩
   ·rw [aLA] at h; exact SeqAt.EqAt.str_int x t j u _ _ _ _ h
   ·rw [aMQ] at h; exact wpAny_eqBool_str h
 «strs» := fun k x t v h=>by
  rcases dY h with ⟨i,u,rfl,e⟩ | ⟨y,u,rfl,e⟩
  ·exact nomatch e
  ·injection e with e1 _
   subst e1
   cases v <;> rfl
inductive V where
 | non | bl (b:Bool) | int (i:Int) | str (x:Str) | byt (b:Array UInt8) | flt (b:UInt64) | ref (a:Addr) | ty (n:String)
 deriving DecidableEq
def RelV:V→Value→Prop
 | .non,u=>u=Value.none
 | .bl b,u=>u=Value.bool b
 | .int i,u=>∃ t,u=Value.int i t
 | .str x,u=>∃ t,u=Value.str x t
 | .byt b,u=>∃ t,u=Value.bytes b t
 | .flt b,u=>∃ t,u=Value.float b t
 | .ref a,u=>u=Value.ref a
 | .ty n,u=>u=Value.type n
abbrev Vals:List V→List Value→Prop:=Paired RelV
theorem Vals.length {xs:List V}{us:List Value} (r:Vals xs us):xs.length=us.length:=Paired.length r
theorem Vals.get:∀ {xs:List V}{us:List Value}{i:Nat}{x:V},Vals xs us→xs[i]?=some x→∃ u,us[i]?=some u∧RelV x u
 | _,_,_,_, .nil,e=>by simp at e
 | _,_,0,_, .cons r _,e=>by simp at e; subst e; exact ⟨_,rfl,r⟩
 | _,_,i+1,x, .cons _ t,e=>by
  obtain ⟨u,h1,h2⟩:=Vals.get (i:=i) (x:=x) t (by simpa using e)
  exact ⟨u,by simpa using h1,h2⟩
theorem Vals.set {x:V}{u:Value} (r:RelV x u):∀ {xs:List V}{us:List Value} (i:Nat),Vals xs us→Vals (xs.set i x) (us.set i u)
 | _,_,_, .nil => .nil
 | _,_,0, .cons _ t => .cons r t
 | _,_,i+1, .cons q t => .cons q (Vals.set r i t)
theorem Vals.append:∀ {xs ys:List V}{us ws:List Value},Vals xs us→Vals ys ws→Vals (xs++ys) (us++ws)
 | _,_,_,_, .nil,s=>s
 | _,_,_,_, .cons r t,s => .cons r (Vals.append t s)
theorem Vals.take:∀ {xs:List V}{us:List Value} (n:Nat),Vals xs us→Vals (xs.take n) (us.take n)
 | _,_,0,_ => .nil
 | _,_,_+1, .nil => .nil
 | _,_,n+1, .cons r t => .cons r (Vals.take n t)
theorem Vals.drop:∀ {xs:List V}{us:List Value} (n:Nat),Vals xs us→Vals (xs.drop n) (us.drop n)
 | _,_,0,r=>r
 | _,_,_+1, .nil => .nil
 | _,_,n+1, .cons _ t=>Vals.drop n t
def RelO:Option V→Option Value→Prop
 | some v,some u=>RelV v u
 | none,none=>True
 | _,_=>False
def KV {κ:Type}:List (κ × V)→List (κ × Value)→Prop:=Paired fun (p:κ × V) (q:κ × Value)=>p.1=q.1∧RelV p.2 q.2
def kV:Key→V
 | .inl i => .int i
 | .inr x => .str x
inductive HO where
 /-- a list -/
 | lst (xs:List V)
 /-- a tuple (never changes) -/
 | tup (xs:List V)
 /-- a dict whose keys are ints and texts; one whose keys are tuples of ints and texts (the empty one is both) -/
 | dK (kvs:List (Key × V)) | dT (kvs:List (List Key × V))
 /-- a set of ints: its members,its size -/
 | set (S:Int→Bool) (n:Nat)
 /-- an instance of the class at C,its dict at dx,its attributes -/
 | ins (C dx:Addr) (fs:List (Str × V))
 /-- the dict of the instance at x -/
 | own (x:Addr)
 /-- the dict of an exception -/
 | xd (fs:List (Str × V))
 /-- a bound method,f of x -/
 | met (f x:Addr)
 /-- a range object lo,lo+1, .. below hi -/
 | rng (lo hi:Int)
 /-- a thing that is known to the object (the script; a dict while a loop walks it): read,never written while it is so -/
 | frz (o:Obj) (u:HO)
 /-- a code object's table -/
 | tbl (ps:Array Value)
 /-- any other thing,by what is true of its one object (a def of one's own: SetO a S n:=HO.ext fun h => ..) -/
 | ext (φ:Heap→Prop)
abbrev Hp:=Addr→Option HO
def upd (H:Hp) (a:Addr) (o:HO):Hp:=fun b=>if b=a then some o else H b
theorem bQ {H:Hp}{a:Addr}{o:HO}:upd H a o a=some o:=by unfold upd; rw [if_pos rfl]
theorem bL {H:Hp}{a b:Addr}{o:HO} (h:b≠a):upd H a o b=H b:=by unfold upd; rw [if_neg h]
theorem bZ {H:Hp}{a b:Addr}{o:HO} (h:H a=some o) (h':H b=none):a≠b:=by
 intro e; subst e; rw [h] at h'; cases h'
section
variable (P:Program) (w:World)
def fW (H:Hp) (h:Heap) (a:Addr):HO→Prop
 | .lst xs=>xs.length≤sizeLine∧∃ (its:List Value) (n:Nat),Vals xs its∧h.get? a=some { cls := .type "list", data := .seq its.toArray n }
 | .tup xs=>xs.length≤sizeLine∧∃ its:List Value,Vals xs its∧IsTup h a its.toArray
 | .dK kvs=>kvs.length≤sizeLine∧(a == sysModules)=false∧∃ vs,KV kvs vs∧h.DictOf (uE P w) a vs
 | .dT kvs=>kvs.length≤sizeLine∧(a == sysModules)=false∧∃ xs:List (List Key × Addr × Value),
   Paired (fun (p:List Key × V) (q:List Key × Addr × Value)=>p.1=q.1∧H q.2.1=some (.tup (p.1.map kV))∧RelV p.2 q.2.2) kvs xs ∧
   ∃ o es ep,h.get? a=some o∧o.ExactDict∧o.data = .dict es ep∧es.toList=xs.map (entryOfKey (tupleKind (uE P w)))∧(xs.map (·.1)).Nodup
 | .set S n=>h.SetOf (intKind P w) a S n
 | .ins C dx fs=>H dx=some (.own a)∧fs.length≤1000∧dx≠a∧h.get? a=some (PySem.W.instObj C dx) ∧
   ∃ mA,h.Ns1 dx mA∧(∀ f,RelO (fs.lookup f) (mA f))∧PySem.Within mA (fs.map (·.1))
 | .own _=>∃ o,h.get? a=some o
 | .xd fs=>∃ mA,h.Ns1 a mA∧∀ f,RelO (fs.lookup f) (mA f)
 | .rng lo hi=>∃ t u v,h.get? a=some { cls := .type "range", data := .fields #[.int lo t, .int hi u, .int 1 v] }
 | .frz o u=>h.get? a=some o∧fW H h a u
 | .tbl ps=>h.get? a=some { cls := .none,data := .fields ps }
 | .met f x=>h.get? a=some (PySem.W.methodObj (.ref f) (.ref x))
 | .ext φ=>φ h∧(∃ o,h.get? a=some o)∧∀ h1 h2:Heap,φ h1→(∀ o,h1.get? a=some o→h2.get? a=some o)→φ h2
def HOk (H:Hp) (h:Heap):Prop:=∀ a o,H a=some o→fW P w H h a o
end
section
variable {P:Program}{w:World}{H H':Hp}{h h':Heap}{a:Addr}{o:HO}
theorem fW.lt (x:fW P w H h a o):a < h.objs.size:=by
 cases o with
 | lst xs=>obtain ⟨_,_,_,_,e⟩:=x; exact Heap.lt_size e
 | tup xs=>obtain ⟨_,_,_,p⟩:=x; exact p.lt
 | dK kvs=>obtain ⟨_,_,_,_,o,_,_,e,_⟩:=x; exact Heap.lt_size e
 | dT kvs=>obtain ⟨_,_,_,_,o,_,_,e,_⟩:=x; exact Heap.lt_size e
 | set S n=>obtain ⟨o,_,_,_,e,_⟩:=x; exact Heap.lt_size e
 | ins C dx fs=>obtain ⟨_,_,_,e,_⟩:=x; exact Heap.lt_size e
 | own y=>obtain ⟨_,e⟩:=x; exact Heap.lt_size e
 | xd fs=>obtain ⟨_,⟨_,_,_,e,_⟩,_⟩:=x; exact Heap.lt_size e
 | rng lo hi=>obtain ⟨_,_,_,e⟩:=x; exact Heap.lt_size e
 | frz ob u=>obtain ⟨e,_⟩:=x; exact Heap.lt_size e
 | tbl ps=>exact Heap.lt_size (show h.get? a=some _ from x)
 | met f y=>exact Heap.lt_size (show h.get? a=some _ from x)
 | ext φ=>obtain ⟨_,⟨_,e⟩,_⟩:=x; exact Heap.lt_size e
theorem Paired.mapP {α β:Type}{F G:α→β→Prop}:∀ {l₁:List α}{l₂:List β},Paired F l₁ l₂→(∀ a b,F a b→G a b)→Paired G l₁ l₂
 | _,_, .nil,_ => .nil
 | _,_, .cons r t,f => .cons (f _ _ r) (Paired.mapP t f)
theorem fW.stay (x:fW P w H h a o) (k:∀ b u,(b=a∨H b=some (.own a))→h.get? b=some u→h'.get? b=some u)
  (ho:∀ b,H b=some (.own a)→H' b=some (.own a)) (ht:∀ b xs,H b=some (.tup xs)→H' b=some (.tup xs)):fW P w H' h' a o:=by
 induction o with
 | lst xs=>obtain ⟨z,its,n,r,e⟩:=x; exact ⟨z,its,n,r,k _ _ (.inl rfl) e⟩
 | tup xs=>obtain ⟨z,its,r,ob,e,c⟩:=x; exact ⟨z,its,r,ob,k _ _ (.inl rfl) e,c⟩
 | dK kvs=>obtain ⟨z,y,vs,r,ob,es,ep,e,c⟩:=x; exact ⟨z,y,vs,r,ob,es,ep,k _ _ (.inl rfl) e,c⟩
 | dT kvs =>
  obtain ⟨z,y,xs,r,ob,es,ep,e,c⟩:=x
  exact ⟨z,y,xs,Paired.mapP r fun p q z=>⟨z.1,ht _ _ z.2.1,z.2.2⟩,ob,es,ep,k _ _ (.inl rfl) e,c⟩
 | set S n=>obtain ⟨ob,es,ep,t,e,c⟩:=x; exact ⟨ob,es,ep,t,k _ _ (.inl rfl) e,c⟩
 | ins C dx fs =>
  obtain ⟨d,z,ne,e,mA,⟨od,es,ep,e2,c⟩,r⟩:=x
  exact ⟨ho _ d,z,ne,k _ _ (.inl rfl) e,mA,⟨od,es,ep,k _ _ (.inr d) e2,c⟩,r⟩
 | own y=>obtain ⟨ob,e⟩:=x; exact ⟨ob,k _ _ (.inl rfl) e⟩
 | xd fs=>obtain ⟨mA,⟨od,es,ep,e,c⟩,r⟩:=x; exact ⟨mA,⟨od,es,ep,k _ _ (.inl rfl) e,c⟩,r⟩
 | rng lo hi=>obtain ⟨t,u,v,e⟩:=x; exact ⟨t,u,v,k _ _ (.inl rfl) e⟩
 | frz ob u ih=>obtain ⟨e,q⟩:=x; exact ⟨k _ _ (.inl rfl) e,ih q⟩
 | tbl ps =>
  have e:h.get? a=some { cls := .none,data := .fields ps }:=x
  show h'.get? a=some { cls := .none,data := .fields ps }
  exact k a _ (.inl rfl) e
 | met f y =>
  have e:h.get? a=some (PySem.W.methodObj (.ref f) (.ref y)):=x
  show h'.get? a=some (PySem.W.methodObj (.ref f) (.ref y))
  exact k a _ (.inl rfl) e
 | ext φ=>obtain ⟨p,⟨o,e⟩,st⟩:=x; exact ⟨st _ _ p fun o q=>k _ _ (.inl rfl) q,⟨o,k _ _ (.inl rfl) e⟩,st⟩
theorem HOk.lt (x:HOk P w H h) (e:H a=some o):a < h.objs.size:=(x a o e).lt
theorem HOk.fresh (x:HOk P w H h) (e:h.objs.size≤a):H a=none:=by
 cases q:H a with
 | none=>rfl
 | some u=>exact absurd (Nat.lt_of_lt_of_le (x.lt q) e) (Nat.lt_irrefl _)
theorem HOk.kept (x:HOk P w H h) (k:∀ b u,h.get? b=some u→h'.get? b=some u):HOk P w H h':=fun a o e =>
 (x a o e).stay (fun b u _ q=>k b u q) (fun _ q=>q) fun _ _ q=>q
theorem HOk.laid (x:HOk P w H h) (k:∀ b u,h.get? b=some u→h'.get? b=some u) (hp:h.objs.size≤a) (new:fW P w (upd H a o) h' a o):HOk P w (upd H a o) h':=fun b u e=>by
 have hn:=x.fresh hp
 by_cases hb:b=a
 ·subst hb; rw [bQ] at e; cases e; exact new
 ·rw [bL hb] at e
  exact (x b u e).stay (fun c v _ q=>k c v q) (fun c q=>by rw [bL (bZ q hn)]; exact q) fun c xs q=>by rw [bL (bZ q hn)]; exact q
end
def Rd (H:Hp) (a:Addr) (u:HO):Prop:=H a=some u∨∃ o,H a=some (.frz o u)
theorem Rd.ok {P:Program}{w:World}{H:Hp}{h:Heap}{a:Addr}{u:HO} (r:Rd H a u) (x:HOk P w H h):fW P w H h a u:=by
 rcases r with r | ⟨o,r⟩
 ·exact x a u r
 ·obtain ⟨_,q⟩:=x a _ r
  exact q
def Mut:Option HO→Prop
 | some (.lst _)=>True
 | some (.dK _)=>True
 | some (.dT _)=>True
 | some (.set _ _)=>True
 | some (.ins _ _ _)=>True
 | some (.ext _)=>True
 | _=>False
section
variable {P:Program}{w:World}{H:Hp}{h h':Heap}{x e:Addr}{o':HO}
theorem HOk.write (ok:HOk P w H h) (mu:Mut (H x)) (he:e=x∨H e=some (.own x)) (k:∀ b u,b≠e→h.get? b=some u→h'.get? b=some u) (heo:∃ u,h'.get? e=some u)
  (new:fW P w (upd H x o') h' x o'):HOk P w (upd H x o') h':=fun b u q=>by
 have nown:∀ c y,H c=some (.own y)→c≠x:=fun c y r z=>by subst z; rw [r] at mu; exact mu
 have ntup:∀ c xs,H c=some (.tup xs)→c≠x:=fun c xs r z=>by subst z; rw [r] at mu; exact mu
 by_cases hb:b=x
 ·subst hb; rw [bQ] at q; cases q; exact new
 ·rw [bL hb] at q
  by_cases hbe:b=e
  ·have q':H b=some (.own x):=by
    rcases he with z | z
    ·exact absurd (hbe.trans z) hb
    ·rw [hbe]; exact z
   rw [q] at q'; cases q'
   obtain ⟨v,hv⟩:=heo
   exact ⟨v,by rw [hbe]; exact hv⟩
  ·refine (ok b u q).stay (fun c v hc r=>k c v ?_ r) (fun c r=>by rw [bL (nown c b r)]; exact r) fun c xs r=>by rw [bL (ntup c xs r)]; exact r
   rcases hc with rfl | hc
   ·exact hbe
   ·rintro rfl
    rcases he with z | z
    ·exact nown c b hc z
    ·rw [hc] at z; cases z; exact hb rfl
end
structure Un (fs ex:List Addr) (H H':Hp) (h h':Heap):Prop where
 keep:∀ b o,h.get? b=some o→H b=none→b ∉ fs→b ∉ ex→h'.get? b=some o
 slot:∀ b o,h.get? b=some o→H b=none→b∈fs→b ∉ ex→∃ sl,h'.get? b=some { o with slots:=sl }
 free:∀ b o,h.get? b=some o→H b=none→b ∉ ex→H' b=none
 there:∀ b o,h.get? b=some o→b ∉ ex→∃ o',h'.get? b=some o'
 tups:∀ b xs,H b=some (.tup xs)→H' b=some (.tup xs)
 frzs:∀ b o u,H b=some (.frz o u)→H' b=some (.frz o u)
 tbls:∀ b ps,H b=some (.tbl ps)→∃ more,H' b=some (.tbl (ps++more))
section
variable {fs fs' ex ex':List Addr}{H H1 H2:Hp}{h h1 h2 h':Heap}{a x e:Addr}{o:HO}
theorem Un.any (u:Un fs ex H H1 h h1) {b:Addr}{ob:Obj} (q:h.get? b=some ob) (n:H b=none) (hx:b ∉ ex):∃ sl,h1.get? b=some { ob with slots:=sl }:=by
 by_cases hb:b∈fs
 ·exact u.slot b ob q n hb hx
 ·exact ⟨ob.slots,u.keep b ob q n hb hx⟩
theorem Un.kept (k:∀ b u,h.get? b=some u→h'.get? b=some u):Un fs ex H H h h' :=
 ⟨fun b ob q _ _ _=>k b ob q,fun b ob q _ _ _=>⟨ob.slots,k b ob q⟩,fun _ _ _ n _=>n,fun b ob q _=>⟨ob,k b ob q⟩,fun _ _ q=>q,fun _ _ _ q=>q,fun _ ps q=>⟨#[],by rw [q]; simp⟩⟩
theorem Un.refl:Un fs ex H H h h:=Un.kept fun _ _ q=>q
theorem Un.laid (k:∀ b u,h.get? b=some u→h'.get? b=some u) (hp:h.objs.size≤a) (hn:H a=none):Un fs ex H (upd H a o) h h' where
 keep:=fun b u q _ _ _=>k b u q
 slot:=fun b u q _ _ _=>⟨u.slots,k b u q⟩
 free:=fun b u q n _=>by rw [bL (Nat.ne_of_lt (Nat.lt_of_lt_of_le (Heap.lt_size q) hp))]; exact n
 there:=fun b u q _=>⟨u,k b u q⟩
 tups:=fun b xs q=>by rw [bL (bZ q hn)]; exact q
 frzs:=fun b u xs q=>by rw [bL (bZ q hn)]; exact q
 tbls:=fun b ps q=>⟨#[],by rw [bL (bZ q hn),q]; simp⟩
theorem Un.write (mu:Mut (H x)) (he:e=x∨H e=some (.own x)) (k:∀ b u,b≠e→h.get? b=some u→h'.get? b=some u) (heo:∃ u,h'.get? e=some u):Un fs ex H (upd H x o) h h':=by
 have hx:∀ b,H b=none→b≠x:=fun b n z=>by subst z; rw [n] at mu; exact mu
 have hb:∀ b,H b=none→b≠e:=fun b n z=>by
  subst z
  rcases he with r | r
  ·exact hx b n r
  ·rw [n] at r; cases r
 have hm:∀ b u,H b=some u→¬ Mut (some u)→b≠x:=fun b u q nm z=>by subst z; rw [q] at mu; exact nm mu
 refine ⟨fun b u q n _ _=>k b u (hb b n) q,fun b u q n _ _=>⟨u.slots,k b u (hb b n) q⟩,fun b u q n _=>by rw [bL (hx b n)]; exact n,fun b u q _ => ?_,
  fun b xs q=>by rw [bL (hm b _ q fun z=>z)]; exact q,fun b u xs q=>by rw [bL (hm b _ q fun z=>z)]; exact q,fun b ps q=>⟨#[],by rw [bL (hm b _ q fun z=>z),q]; simp⟩⟩
 by_cases hbe:b=e
 ·subst hbe; exact heo
 ·exact ⟨u,k b u hbe q⟩
end
def trk (h:Heap) (H:Hp):List Addr:=(List.range h.objs.size).filter fun a=>(H a).isSome
def oG (h:Heap) (H:Hp):Heap:=PySem.W.hideAll h (trk h H)
theorem aDK (h:Heap) (H:Hp):(oG h H).objs.size=h.objs.size:=PySem.W.hideAll_size _ _
theorem aHD {h:Heap}{H:Hp}{b:Addr}{o:Obj} (e:h.get? b=some o) (n:H b=none):(oG h H).get? b=some o :=
 PySem.W.hideAll_get _ e fun hm=>by
  have q:(H b).isSome=true:=(List.mem_filter.mp hm).2
  rw [n] at q; simp at q
theorem aJ1 {h:Heap}{H:Hp}{b:Addr}{o:Obj} (e:(oG h H).get? b=some o):h.get? b=some o∧H b=none:=by
 have e':h.get? b=some o:=PySem.W.of_hideAll (trk h H) e
 refine ⟨e',?_⟩
 cases q:H b with
 | none=>rfl
 | some x =>
  have hm:b∈trk h H:=List.mem_filter.mpr ⟨List.mem_range.mpr (Heap.lt_size e'),by simp [q]⟩
  have z:(oG h H).get? b=none:=PySem.W.hideAll_none (trk h H) hm
  rw [z] at e; cases e
def aI9 (g h:Heap) (L:Addr):List (Addr × Obj):=(List.range h.objs.size).filterMap fun a=>if a=L∨(g.get? a).isSome=true then none else (h.get? a).map fun o=>(a,o)
def rest (g h:Heap) (L d:Addr):List (Addr × Obj):=(aI9 g h L).filter fun p=>decide (p.1≠d)
end L2
namespace L2
open PySem PySem.Spec PyProof.Rows
structure Mod (K:PySem.W.Frag) (mg:Str→Option Value) (base:Heap):Prop where
 kin:K.In base
 glob:base.Ns mainGlobals mg
 blt:∃ mb,base.Ns builtinsNs mb∧∀ x:Str,x ≠ "__name__" → mb x=bootBuiltins x
 nolimit:base.NoLimit
/-- the context: a def's body (or a comprehension's block) running. base: fixed through the whole law; s₀,H₀: the entry; outer: the frames whose slots others may change (a def's callers); stack: all frames that run;
   ex: iterators that were made ahead of the entry and are walked here (a comprehension's); fn: the names whose cells were made at the entry (a def: all; a comprehension's block: its own); calm: not within an except suite; pn: pins that every state bears; xe: what is wanted of an exception that leaves the code -/
structure Cx where
 prog:Program
 w:World
 K:PySem.W.Frag
 mg:Str→Option Value
 base:Heap
 A:Around
 N:List Str
 s₀:Shared
 H₀:Hp
 env:Env
 outer:List Env
 stack:List Env
 ex:List Addr
 fn:Str→Bool
 calm:Bool
 pn:List (Addr × Obj)
 xe:Value→Shared→Prop
def frs (l:List Env):List Addr:=l.filterMap (·.frame)
abbrev Cx.fs (X:Cx):List Addr:=frs X.outer
def Vis (sc:Scope) (x:Str):Prop:=sc.names.lookup x=some .local∨sc.names.lookup x=some .cell∨sc.names.lookup x=some .free
def Loc (sc:Scope) (x:Str):Prop:=sc.names.lookup x=some .local∨sc.names.lookup x=some .cell
def Look (env:Env) (h:Heap) (m:Str→Option Value) (x:Str) (u:Value):Prop :=
 (env.kindOf x=some .local∧m x=some u)∨((env.kindOf x=some .cell∨env.kindOf x=some .free)∧∃ c,env.cells.lookup x=some c∧h.IsCell c (some u))
structure Cx.Ok (X:Cx):Prop where
 mod:Mod X.K X.mg X.base
 kind:X.env.scope.kind = .function
 glob:X.env.globals=mainGlobals
 blt:X.env.builtins=builtinsNs
 above:X.s₀.heap.objs.size≤X.env.locals
 inj:∀ x y c,X.env.cells.lookup x=some c→X.env.cells.lookup y=some c→x=y
 has:∀ x,(X.env.kindOf x=some .cell∨X.env.kindOf x=some .free)→∃ c,X.env.cells.lookup x=some c
 cab:∀ x c,X.fn x=true→X.env.cells.lookup x=some c→X.s₀.heap.objs.size≤c
 hd:X.calm=true→X.A.handled=none
 frames:X.A.frames=some X.stack
 stk:X.stack=X.outer∨(X.stack=X.env::X.outer∧X.env.frame=some X.env.locals)
 exf:∀ b∈X.ex,b≠X.env.locals∧∀ x c,X.env.cells.lookup x=some c→c≠b
 bs:∀ b o,X.base.get? b=some o→X.s₀.heap.get? b=some o∧X.H₀ b=none
 bsz:X.base.objs.size≤X.s₀.heap.objs.size
 noex:∀ b o,X.base.get? b=some o→b ∉ X.ex
 exfs:∀ b∈X.ex,b ∉ X.fs
 funs:X.s₀.heap.FunFrames X.base X.outer
 frf:∀ b∈X.fs,X.H₀ b=none
structure Inv (X:Cx) (pins:List (Addr × Obj)) (σ:List (Option V)) (H:Hp) (s:Shared):Prop where
 ok:X.Ok
 os:s.os=X.s₀.os
 bare:AllBare s.gens
 base:Un X.fs X.ex X.H₀ H X.s₀.heap s.heap
 loc:∃ m,s.heap.Ns X.env.locals m∧∀ (i:Nat) (x:Str) (v:V),X.N[i]?=some x→σ[i]?=some (some v)→Vis X.env.scope x→∃ u,RelV v u∧Look X.env s.heap m x u
 cell:∀ x c,X.env.cells.lookup x=some c→∃ v,s.heap.IsCell c v
 free:H X.env.locals=none
 freeC:∀ x c,X.env.cells.lookup x=some c→H c=none
 pin:∀ p∈X.pn++pins,s.heap.get? p.1=some p.2∧H p.1=none∧p.1≠X.env.locals∧p.1 ∉ X.fs∧∀ v,p.2.data ≠ .cell v
 hok:HOk X.prog X.w H s.heap
 len:σ.length=X.N.length
section
variable {X:Cx}{pins:List (Addr × Obj)}{σ:List (Option V)}{H H':Hp}{s:Shared}{h':Heap}
theorem Cx.Ok.nofr (ok:X.Ok) {b:Addr}{o:Obj} (e:X.base.get? b=some o):b ∉ X.fs:=fun hb=>by
 have:=(ok.funs.mem hb).1
 rw [e] at this; cases this
theorem Inv.bs (I:Inv X pins σ H s):∀ b o,X.base.get? b=some o→s.heap.get? b=some o∧H b=none:=fun b o e =>
 ⟨I.base.keep b o (I.ok.bs b o e).1 (I.ok.bs b o e).2 (I.ok.nofr e) (I.ok.noex b o e),I.base.free b o (I.ok.bs b o e).1 (I.ok.bs b o e).2 (I.ok.noex b o e)⟩
theorem Inv.bk (I:Inv X pins σ H s):∀ b o,X.base.get? b=some o→s.heap.get? b=some o:=fun b o e=>(I.bs b o e).1
theorem Inv.mod (I:Inv X pins σ H s):Mod X.K X.mg X.base:=I.ok.mod
theorem Inv.kIn (I:Inv X pins σ H s):X.K.In s.heap:=I.ok.mod.kin.keeps I.bk
theorem Inv.lt (I:Inv X pins σ H s):X.env.locals < s.heap.objs.size:=let ⟨_,hn,_⟩:=I.loc; hn.lt
theorem Inv.sz (I:Inv X pins σ H s):X.s₀.heap.objs.size≤s.heap.objs.size:=Nat.le_trans I.ok.above (Nat.le_of_lt I.lt)
theorem Inv.nofs (I:Inv X pins σ H s) {a:Addr} (h:s.heap.objs.size≤a):a ∉ X.fs:=fun hb=>by
 obtain ⟨_,o,ho,_⟩:=I.ok.funs.mem hb
 exact absurd (Nat.lt_of_lt_of_le (Heap.lt_size ho) (Nat.le_trans I.sz h)) (Nat.lt_irrefl _)
theorem Inv.cne (I:Inv X pins σ H s):∀ x c,X.env.cells.lookup x=some c→c≠X.env.locals:=fun x c e z=>by
 obtain ⟨v,o,ho,hd⟩:=I.cell x c e
 obtain ⟨m,⟨o',es,ep,ho',hd',_⟩,_⟩:=I.loc
 rw [z,ho'] at ho; cases ho; rw [hd'] at hd; cases hd
theorem Inv.funs (I:Inv X pins σ H s):s.heap.FunFrames X.base X.outer:=by
 have all:∀ (l:List Env),(∀ b∈frs l,b∈X.fs)→X.s₀.heap.FunFrames X.base l→s.heap.FunFrames X.base l:=by
  intro l
  induction l with
  | nil=>intro _ _; trivial
  | cons env r ih =>
   intro hs hl
   obtain ⟨hk,⟨L,o,hf,hn,ho,hd⟩,hr⟩:=hl
   have hL:L∈X.fs:=hs L (by unfold frs; rw [List.filterMap_cons,hf]; exact List.mem_cons_self)
   obtain ⟨sl,e⟩:=I.base.slot L o ho (I.ok.frf L hL) hL fun z=>I.ok.exfs L z hL
   exact ⟨hk,⟨L,_,hf,hn,e,hd⟩,ih (fun b hb=>hs b (by unfold frs; rw [List.filterMap_cons,hf]; exact List.mem_cons_of_mem _ hb)) hr⟩
 exact all X.outer (fun _ hb=>hb) I.ok.funs
theorem Inv.stack (I:Inv X pins σ H s):s.heap.FunFrames X.base X.stack:=by
 rcases I.ok.stk with e | ⟨e,hf⟩
 ·rw [e]; exact I.funs
 ·rw [e]
  obtain ⟨m,hn,_⟩:=I.loc
  refine .cons (by rw [I.ok.kind]; decide) hf hn ?_ I.funs
  exact Heap.get?_none_of_le (Nat.le_trans I.ok.bsz I.ok.above)
theorem Inv.stkSub (I:Inv X pins σ H s):∀ b∈frs X.stack,b∈X.env.locals::X.fs:=fun b hb=>by
 rcases I.ok.stk with e | ⟨e,hf⟩
 ·rw [e] at hb; exact List.mem_cons_of_mem _ hb
 ·rw [e] at hb
  unfold frs at hb
  rw [List.filterMap_cons,hf] at hb
  exact hb
theorem Inv.stkFree (I:Inv X pins σ H s):∀ b∈frs X.stack,H b=none:=fun b hb=>by
 rcases List.mem_cons.mp (I.stkSub b hb) with e | hb
 ·rw [e]; exact I.free
 ·obtain ⟨_,o,ho,_⟩:=I.ok.funs.mem hb
  exact I.base.free b o ho (I.ok.frf b hb) fun z=>I.ok.exfs b z hb
theorem Inv.step {g':Array GenState}{t':Nat}{d':Drawn}{ch:List Addr} (I:Inv X pins σ H s)
  (hch:∀ b∈ch,(b∈X.ex∨X.s₀.heap.objs.size≤b)∧b≠X.env.locals∧(∀ x c,X.env.cells.lookup x=some c→c≠b)∧∀ p∈X.pn++pins,p.1≠b)
  (keep:∀ b o,b≠X.env.locals→b ∉ X.fs→b ∉ ch→s.heap.get? b=some o→H b=none→h'.get? b=some o)
  (slot:∀ b o,b≠X.env.locals→b∈X.fs→b ∉ ch→s.heap.get? b=some o→H b=none→∃ sl,h'.get? b=some { o with slots:=sl }) (free:∀ b o,b ∉ ch→s.heap.get? b=some o→H b=none→H' b=none)
  (there:∀ b o,b ∉ ch→s.heap.get? b=some o→∃ o',h'.get? b=some o')
  (tups:∀ b xs,H b=some (.tup xs)→H' b=some (.tup xs)) (frzs:∀ b o u,H b=some (.frz o u)→H' b=some (.frz o u)) (tbls:∀ b ps,H b=some (.tbl ps)→∃ more,H' b=some (.tbl (ps++more)))
  (ns:∀ m,s.heap.Ns X.env.locals m→h'.Ns X.env.locals m) (hok:HOk X.prog X.w H' h') (hg:AllBare g') :
  Inv X pins σ H' { s with heap:=h',gens:=g',drawn:=d',toks:=t' }:=by
 have neL:∀ b o,X.s₀.heap.get? b=some o→b≠X.env.locals:=fun b o e=>Nat.ne_of_lt (Nat.lt_of_lt_of_le (Heap.lt_size e) I.ok.above)
 have neC:∀ b o,X.s₀.heap.get? b=some o→b ∉ X.ex→b ∉ ch:=fun b o e hx hb=>by
  rcases (hch b hb).1 with z | z
  ·exact hx z
  ·exact absurd (Nat.lt_of_lt_of_le (Heap.lt_size e) z) (Nat.lt_irrefl _)
 have cellK:∀ x c,X.env.cells.lookup x=some c→∀ v,s.heap.IsCell c v→h'.IsCell c v:=fun x c e v ⟨o,ho,hd⟩=>by
  have nch:c ∉ ch:=fun z=>(hch c z).2.2.1 x c e rfl
  by_cases hc:c∈X.fs
  ·obtain ⟨sl,q⟩:=slot c o (I.cne x c e) hc nch ho (I.freeC x c e)
   exact ⟨_,q,hd⟩
  ·exact ⟨o,keep c o (I.cne x c e) hc nch ho (I.freeC x c e),hd⟩
 refine ⟨I.ok,I.os,hg,⟨fun b o e n hb hx => ?_,fun b o e n hb hx => ?_,fun b o e n hx => ?_,fun b o e hx => ?_,fun b xs e=>tups b xs (I.base.tups b xs e),fun b o xs e=>frzs b o xs (I.base.frzs b o xs e),fun b ps e => ?_⟩,?_,fun x c e => ?_,?_,fun x c e => ?_,fun p hp => ?_,hok,I.len⟩
 ·exact keep b o (neL b o e) hb (neC b o e hx) (I.base.keep b o e n hb hx) (I.base.free b o e n hx)
 ·obtain ⟨sl,e1⟩:=I.base.slot b o e n hb hx
  obtain ⟨sl',e2⟩:=slot b _ (neL b o e) hb (neC b o e hx) e1 (I.base.free b o e n hx)
  exact ⟨sl',e2⟩
 ·obtain ⟨o',e1⟩:=I.base.there b o e hx
  exact free b o' (neC b o e hx) e1 (I.base.free b o e n hx)
 ·obtain ⟨o',e1⟩:=I.base.there b o e hx
  exact there b o' (neC b o e hx) e1
 ·obtain ⟨m1,e1⟩:=I.base.tbls b ps e
  obtain ⟨m2,e2⟩:=tbls b _ e1
  exact ⟨m1++m2,by rw [e2,Array.append_assoc]⟩
 ·obtain ⟨m,hn,hl⟩:=I.loc
  refine ⟨m,ns m hn,fun i x v e1 e2 e3 => ?_⟩
  obtain ⟨u,r,l⟩:=hl i x v e1 e2 e3
  refine ⟨u,r,?_⟩
  rcases l with l | ⟨k,c,e,z⟩
  ·exact .inl l
  ·exact .inr ⟨k,c,e,cellK x c e _ z⟩
 ·obtain ⟨v,z⟩:=I.cell x c e
  exact ⟨v,cellK x c e v z⟩
 ·obtain ⟨m,⟨o,_,_,ho,_⟩,_⟩:=I.loc
  exact free _ o (fun z=>(hch _ z).2.1 rfl) ho I.free
 ·obtain ⟨v,o,ho,hd⟩:=I.cell x c e
  exact free c o (fun z=>(hch c z).2.2.1 x c e rfl) ho (I.freeC x c e)
 ·obtain ⟨e,n,ne,nf,d⟩:=I.pin p hp
  have nch:p.1 ∉ ch:=fun z=>(hch p.1 z).2.2.2 p hp rfl
  exact ⟨keep p.1 p.2 ne nf nch e n,free p.1 p.2 nch e n,ne,nf,d⟩
theorem Inv.un {t':Nat} (I:Inv X pins σ H s) (u:Un X.fs [] H H' s.heap h') (hok:HOk X.prog X.w H' h'):Inv X pins σ H' { s with heap:=h',toks:=t' }:=by
 obtain ⟨m,⟨o,es,ep,ho,r⟩,_⟩:=id I.loc
 obtain ⟨sl,hL⟩:=u.any ho I.free (by simp)
 exact I.step (g':=s.gens) (d':=s.drawn) (ch:=[]) (fun _ z=>nomatch z) (fun b o _ hb _ e n=>u.keep b o e n hb (by simp)) (fun b o _ hb _ e n=>u.slot b o e n hb (by simp)) (fun b o _ e n=>u.free b o e n (by simp)) (fun b o _ e=>u.there b o e (by simp)) u.tups u.frzs u.tbls (fun m' hm=>by
  obtain ⟨o',es',ep',ho',r'⟩:=hm
  rw [ho] at ho'; cases ho'
  exact ⟨_,es',ep',hL,r'⟩) hok I.bare
theorem Inv.call {g':Array GenState}{t':Nat}{d':Drawn}{ch:List Addr} (I:Inv X pins σ H s) (u:Un (frs X.stack) ch H H' s.heap h') (hok:HOk X.prog X.w H' h') (hg:AllBare g')
  (hch:∀ b∈ch,(b∈X.ex∨X.s₀.heap.objs.size≤b)∧b≠X.env.locals∧(∀ x c,X.env.cells.lookup x=some c→c≠b)∧∀ p∈X.pn++pins,p.1≠b) :
  Inv X pins σ H' { s with heap:=h',gens:=g',drawn:=d',toks:=t' }:=by
 obtain ⟨m,⟨o,es,ep,ho,r⟩,_⟩:=id I.loc
 obtain ⟨sl,hL⟩:=u.any ho I.free fun z=>(hch _ z).2.1 rfl
 exact I.step (ch:=ch) hch (fun b o hL hb hc e n=>u.keep b o e n (fun z=>(List.mem_cons.mp (I.stkSub b z)).elim hL hb) hc) (fun b o _ _ hc e n=>u.any e n hc) (fun b o hc e n=>u.free b o e n hc) (fun b o hc e=>u.there b o e hc) u.tups u.frzs u.tbls (fun m' hm=>by
  obtain ⟨o',es',ep',ho',r'⟩:=hm
  rw [ho] at ho'; cases ho'
  exact ⟨_,es',ep',hL,r'⟩) hok hg
theorem Inv.turned {t':Nat}{it:Addr} (I:Inv X pins σ H s) (k:∀ b o,b≠it→s.heap.get? b=some o→h'.get? b=some o) (hn:H it=none) (hL:it≠X.env.locals)
  (h1:it∈X.ex∨X.s₀.heap.objs.size≤it) (h2:∀ x c,X.env.cells.lookup x=some c→c≠it) (h3:∀ p∈X.pn++pins,p.1≠it):Inv X pins σ H { s with heap:=h',toks:=t' }:=by
 have nit:∀ b u,H b=some u→b≠it:=fun b u e z=>by rw [z,hn] at e; cases e
 refine I.step (g':=s.gens) (d':=s.drawn) (ch:=[it]) (fun b hb => ?_) (fun b o _ _ hc e _=>k b o (fun z=>hc (by simp [z])) e) (fun b o _ _ hc e _=>⟨o.slots,k b o (fun z=>hc (by simp [z])) e⟩) (fun _ _ _ _ n=>n)
  (fun b o hc e=>⟨o,k b o (fun z=>hc (by simp [z])) e⟩) (fun _ _ e=>e) (fun _ _ _ e=>e) (fun b ps e=>⟨#[],by rw [e]; simp⟩) (fun m hm => ?_) (fun b u e => ?_) I.bare
 ·have e:b=it:=by simpa using hb
  subst e
  exact ⟨h1,hL,h2,h3⟩
 ·obtain ⟨o,es,ep,ho,r⟩:=hm
  exact ⟨o,es,ep,k _ o (Ne.symm hL) ho,r⟩
 ·refine (I.hok b u e).stay (fun c v hc q=>k c v ?_ q) (fun _ q=>q) fun _ _ q=>q
  rcases hc with z | z
  ·rw [z]; exact nit b u e
  ·exact nit c _ z
theorem Inv.tok (I:Inv X pins σ H s) (t:Nat):Inv X pins σ H { s with toks:=t }:=I.un (h':=s.heap) (t':=t) Un.refl I.hok
theorem Inv.kept {t':Nat} (I:Inv X pins σ H s) (k:∀ b u,s.heap.get? b=some u→h'.get? b=some u):Inv X pins σ H { s with heap:=h',toks:=t' }:=I.un (Un.kept k) (I.hok.kept k)
theorem Inv.laid {a:Addr}{o:HO}{t':Nat} (I:Inv X pins σ H s) (k:∀ b u,s.heap.get? b=some u→h'.get? b=some u) (hp:s.heap.objs.size≤a) (new:fW X.prog X.w (upd H a o) h' a o) :
  Inv X pins σ (upd H a o) { s with heap:=h',toks:=t' }:=I.un (Un.laid k hp (I.hok.fresh hp)) (I.hok.laid k hp new)
theorem Inv.write {x e:Addr}{o:HO}{t':Nat} (I:Inv X pins σ H s) (mu:Mut (H x)) (he:e=x∨H e=some (.own x)) (k:∀ b u,b≠e→s.heap.get? b=some u→h'.get? b=some u) (heo:∃ u,h'.get? e=some u)
  (new:fW X.prog X.w (upd H x o) h' x o):Inv X pins σ (upd H x o) { s with heap:=h',toks:=t' }:=I.un (Un.write mu he k heo) (I.hok.write mu he k heo new)
theorem Inv.pins_of {pins':List (Addr × Obj)} (I:Inv X pins σ H s) (h:∀ p∈pins',s.heap.get? p.1=some p.2∧H p.1=none∧p.1≠X.env.locals∧p.1 ∉ X.fs∧∀ v,p.2.data ≠ .cell v):Inv X pins' σ H s :=
 ⟨I.ok,I.os,I.bare,I.base,I.loc,I.cell,I.free,I.freeC,fun p hp=>(List.mem_append.mp hp).elim (fun z=>I.pin p (List.mem_append_left _ z)) (h p),I.hok,I.len⟩
theorem yT {N:List Str} (hN:N.Nodup) {i j:Nat}{x:Str} (a:N[i]?=some x) (b:N[j]?=some x):i=j:=by
 obtain ⟨h1,e1⟩:=List.getElem?_eq_some_iff.mp a
 obtain ⟨h2,e2⟩:=List.getElem?_eq_some_iff.mp b
 exact (List.getElem_inj hN).mp (e1.trans e2.symm)
theorem vP {M:Model}{A:Around}{E:Value→Shared→Prop}{i:Nat}{x:Str}{v:V}{u:Value}{Q:Unit→Shared→Prop} (I:Inv X pins σ H s) (hN:X.N.Nodup) (hi:X.N[i]?=some x) (hx:Loc X.env.scope x) (r:RelV v u)
  (h:∀ s',Inv X pins (σ.set i (some v)) H s'→(∃ a,Heap.SameBut a s.heap s'.heap∧(a=X.env.locals∨X.env.cells.lookup x=some a))→Q () s') (hf:X.fn x=true∨X.env.scope.names.lookup x=some .local:=by first | exact .inl rfl | exact .inr rfl | assumption):wpAny M A (storeName X.env x u) Q E s:=by
 obtain ⟨m,hn,hl⟩:=id I.loc
 have hcls:(X.env.scope.kind == .class || (X.env.scope.kind == .module && X.env.locals != X.env.globals))=false:=by rw [I.ok.kind]; rfl
 have hiσ:i < σ.length:=by rw [I.len]; exact (List.getElem?_eq_some_iff.mp hi).1
 have cne:=I.cne
 have tracked:∀ {a:Addr}{h':Heap},(∃ o,s.heap.get? a=some o∧H a=none)→Heap.SameBut a s.heap h'→HOk X.prog X.w H h':=fun {a h'} ha hs b ob e=>by
  obtain ⟨_,_,hfree⟩:=ha
  refine (I.hok b ob e).stay (fun c w' hc q=>(hs.2 c ?_).trans q) (fun _ q=>q) fun _ _ q=>q
  rintro rfl
  rcases hc with rfl | hc
  ·rw [hfree] at e; cases e
  ·rw [hfree] at hc; cases hc
 rcases hx with hk | hk
 ·refine wpAny_storeName_local hk hn (fun h' hn' hs => ?_) hcls
  obtain ⟨oL,_,_,hoL,_⟩:=id hn
  refine h _ ⟨I.ok,I.os,I.bare,⟨fun b o e n hb hx => ?_,fun b o e n hb hx => ?_,I.base.free,fun b o e hx => ?_,I.base.tups,I.base.frzs,I.base.tbls⟩,⟨_,hn',fun j y v' e1 e2 e3 => ?_⟩,fun y c e => ?_,I.free,I.freeC,fun p hp => ?_,tracked ⟨oL,hoL,I.free⟩ hs,by simpa using I.len⟩ ⟨_,hs, .inl rfl⟩
  ·exact (hs.2 b (Nat.ne_of_lt (Nat.lt_of_lt_of_le (Heap.lt_size e) I.ok.above))).trans (I.base.keep b o e n hb hx)
  ·obtain ⟨sl,e1⟩:=I.base.slot b o e n hb hx
   exact ⟨sl,(hs.2 b (Nat.ne_of_lt (Nat.lt_of_lt_of_le (Heap.lt_size e) I.ok.above))).trans e1⟩
  ·obtain ⟨o',e1⟩:=I.base.there b o e hx
   exact ⟨o',(hs.2 b (Nat.ne_of_lt (Nat.lt_of_lt_of_le (Heap.lt_size e) I.ok.above))).trans e1⟩
  ·by_cases hj:j=i
   ·subst hj
    rw [hi] at e1; cases e1
    rw [List.getElem?_set_self hiσ] at e2
    cases e2
    exact ⟨u,r, .inl ⟨hk,by simp⟩⟩
   ·rw [List.getElem?_set_ne (Ne.symm hj)] at e2
    obtain ⟨u',r',q⟩:=hl j y v' e1 e2 e3
    refine ⟨u',r',?_⟩
    rcases q with ⟨k,e⟩ | ⟨k,c,e,z⟩
    ·refine .inl ⟨k,?_⟩
     have:y≠x:=fun e=>hj (yT hN e1 (e ▸ hi))
     simp [this,e]
    ·exact .inr ⟨k,c,e,z.sameBut hs (cne y c e)⟩
  ·obtain ⟨w',z⟩:=I.cell y c e
   exact ⟨w',z.sameBut hs (cne y c e)⟩
  ·obtain ⟨e,n,ne,nf,d⟩:=I.pin p hp
   exact ⟨(hs.2 p.1 ne).trans e,n,ne,nf,d⟩
 ·have hfn:X.fn x=true:=by
   rcases hf with z | z
   ·exact z
   ·rw [z] at hk; cases hk
  obtain ⟨c,hc⟩:=I.ok.has x (.inl hk)
  obtain ⟨w',z⟩:=I.cell x c hc
  refine wpAny_storeName_cell I.ok.kind hk hc z (fun h' hc' hs => ?_)
  obtain ⟨oc,hoc,hocd⟩:=id z
  refine h { s with heap:=h' } ⟨I.ok,I.os,I.bare,⟨fun b o e n hb hx => ?_,fun b o e n hb hx => ?_,I.base.free,fun b o e hx => ?_,I.base.tups,I.base.frzs,I.base.tbls⟩,⟨m,hn.sameBut hs (Ne.symm (cne x c hc)),fun j y v' e1 e2 e3 => ?_⟩,fun y c' e => ?_,I.free,I.freeC,fun p hp => ?_,tracked ⟨oc,hoc,I.freeC x c hc⟩ hs,by simpa using I.len⟩ ⟨c,hs, .inr hc⟩
  ·exact (hs.2 b (Nat.ne_of_lt (Nat.lt_of_lt_of_le (Heap.lt_size e) (I.ok.cab x c hfn hc)))).trans (I.base.keep b o e n hb hx)
  ·obtain ⟨sl,e1⟩:=I.base.slot b o e n hb hx
   exact ⟨sl,(hs.2 b (Nat.ne_of_lt (Nat.lt_of_lt_of_le (Heap.lt_size e) (I.ok.cab x c hfn hc)))).trans e1⟩
  ·obtain ⟨o',e1⟩:=I.base.there b o e hx
   exact ⟨o',(hs.2 b (Nat.ne_of_lt (Nat.lt_of_lt_of_le (Heap.lt_size e) (I.ok.cab x c hfn hc)))).trans e1⟩
  ·by_cases hj:j=i
   ·subst hj
    rw [hi] at e1; cases e1
    rw [List.getElem?_set_self hiσ] at e2
    cases e2
    exact ⟨u,r, .inr ⟨.inl hk,c,hc,hc'⟩⟩
   ·rw [List.getElem?_set_ne (Ne.symm hj)] at e2
    obtain ⟨u',r',q⟩:=hl j y v' e1 e2 e3
    refine ⟨u',r',?_⟩
    rcases q with q | ⟨k,c',e,z'⟩
    ·exact .inl q
    ·refine .inr ⟨k,c',e,z'.sameBut hs ?_⟩
     rintro rfl
     exact hj (yT hN e1 (I.ok.inj _ _ _ e hc ▸ hi))
  ·by_cases hcc:c'=c
   ·subst hcc; exact ⟨_,hc'⟩
   ·obtain ⟨w2,z2⟩:=I.cell y c' e
    exact ⟨w2,z2.sameBut hs hcc⟩
  ·obtain ⟨e,n,ne,nf,d⟩:=I.pin p hp
   refine ⟨(hs.2 p.1 ?_).trans e,n,ne,nf,d⟩
   intro q
   rw [q,hoc] at e
   have q':oc=p.2:=Option.some.inj e
   exact d w' (by rw [← q']; exact hocd)
theorem iP {M:Model}{A:Around}{E:Value→Shared→Prop}{i:Nat}{x:Str}{v:V}{u:Value}{Q:Unit→Shared→Prop} (I:Inv X pins σ H s) (hN:X.N.Nodup) (hi:X.N[i]?=some x) (hx:Loc X.env.scope x) (r:RelV v u)
  (h:∀ s',Inv X pins (σ.set i (some v)) H s'→Q () s') (hf:X.fn x=true∨X.env.scope.names.lookup x=some .local:=by first | exact .inl rfl | exact .inr rfl | assumption):wpAny M A (storeName X.env x u) Q E s :=
 vP I hN hi hx r (fun s' I' _=>h s' I') hf
theorem Inv.call' {s':Shared}{ch:List Addr} (I:Inv X pins σ H s) (ho:s'.os=s.os) (u:Un (frs X.stack) ch H H' s.heap s'.heap) (hok:HOk X.prog X.w H' s'.heap) (hg:AllBare s'.gens)
  (hch:∀ b∈ch,(b∈X.ex∨X.s₀.heap.objs.size≤b)∧b≠X.env.locals∧(∀ x c,X.env.cells.lookup x=some c→c≠b)∧∀ p∈X.pn++pins,p.1≠b):Inv X pins σ H' s':=by
 obtain ⟨h',g',d',t',o'⟩:=s'
 have e:o'=s.os:=ho
 subst e
 exact I.call (g':=g') (t':=t') (d':=d') u hok hg hch
end
abbrev XK:=Value→Option Addr→Hp→Prop
abbrev St:=List (Option V)
abbrev VK:=V→Hp→Prop
abbrev TE:=St→Hp→VK→Prop
abbrev TT:=St→Hp→(Bool→Hp→Prop)→Prop
abbrev TA:=St→Hp→(List V→Hp→Prop)→Prop
structure Ends where
 nx:St→Hp→Prop
 rt:VK
 bk:St→Hp→Prop:=fun _ _=>False
 ct:St→Hp→Prop:=fun _ _=>False
abbrev TS:=Ends→St→Hp→Prop
def EP (X:Cx) (pins:List (Addr × Obj)) (σ:St) (Q:VK) (u:Value) (s':Shared):Prop:=∃ v H',Inv X pins σ H' s'∧RelV v u∧Q v H'
def TP (X:Cx) (pins:List (Addr × Obj)) (σ:St) (Q:Bool→Hp→Prop) (b:Bool) (s':Shared):Prop:=∃ H',Inv X pins σ H' s'∧Q b H'
def AP (X:Cx) (pins:List (Addr × Obj)) (σ:St) (Q:List V→Hp→Prop) (us:List Value) (s':Shared):Prop:=∃ vs H',Inv X pins σ H' s'∧Vals vs us∧Q vs H'
def SP (X:Cx) (pins:List (Addr × Obj)) (D:Ends) (f:Flow) (s':Shared):Prop :=
 match f with
 | .next=>∃ σ' H',Inv X pins σ' H' s'∧D.nx σ' H'
 | .brk=>∃ σ' H',Inv X pins σ' H' s'∧D.bk σ' H'
 | .cont=>∃ σ' H',Inv X pins σ' H' s'∧D.ct σ' H'
 | .ret u=>∃ v σ' H',Inv X pins σ' H' s'∧RelV v u∧D.rt v H'
def PE (X:Cx) (e:Expr) (t:TE):Prop :=
 ∀ (pins:List (Addr × Obj)) (s:Shared) (σ:St) (H:Hp) (Q:VK),Inv X pins σ H s→t σ H Q→wpAny (model X.prog X.w) X.A (eval e X.env) (EP X pins σ Q) X.xe s
def PT (X:Cx) (e:Expr) (t:TT):Prop :=
 ∀ (pins:List (Addr × Obj)) (s:Shared) (σ:St) (H:Hp) (Q:Bool→Hp→Prop),Inv X pins σ H s→t σ H Q→wpAny (model X.prog X.w) X.A (isTrue e X.env (eval e X.env)) (TP X pins σ Q) X.xe s
def PW (X:Cx) (e:Expr) (t:TT):Prop :=
 ∀ (whole:Sem Value) (pins:List (Addr × Obj)) (s:Shared) (σ:St) (H:Hp) (Q:Bool→Hp→Prop),Inv X pins σ H s→t σ H Q→wpAny (model X.prog X.w) X.A (isTrue e X.env whole) (TP X pins σ Q) X.xe s
def PA (X:Cx) (es:List Expr) (t:TA):Prop :=
 ∀ (pos:Pos) (pins:List (Addr × Obj)) (s:Shared) (σ:St) (H:Hp) (Q:List V→Hp→Prop),Inv X pins σ H s→t σ H Q→wpAny (model X.prog X.w) X.A (spliced (backTo pos (starEach es X.env))) (AP X pins σ Q) X.xe s
def PS (X:Cx) (st:Stmt) (t:TS):Prop :=
 ∀ (pins:List (Addr × Obj)) (s:Shared) (σ:St) (H:Hp) (D:Ends),Inv X pins σ H s→t D σ H→wpAny (model X.prog X.w) X.A (exec st X.env) (SP X pins D) X.xe s
def PSs (X:Cx) (st:List Stmt) (t:TS):Prop :=
 ∀ (pins:List (Addr × Obj)) (s:Shared) (σ:St) (H:Hp) (D:Ends),Inv X pins σ H s→t D σ H→wpAny (model X.prog X.w) X.A (execs st X.env) (SP X pins D) X.xe s
theorem thn {α:Type}{t:Sem α}{Q Q':α→Shared→Prop}{M:Model}{A:Around}{E:Value→Shared→Prop}{s:Shared} (h:wpAny M A t Q E s) (hQ:∀ a s,Q a s→Q' a s):wpAny M A t Q' E s:=wpAny_mono h hQ fun _ _ x=>x
end L2
namespace L2
open PySem PySem.Spec PyProof.Rows
section
variable {X:Cx}
def tVar (i:Nat):TE:=fun σ H Q=>∃ v,σ[i]?=some (some v)∧Q v H
def tC (v:V):TE:=fun _ H Q=>Q v H
theorem aE7 {i:Nat}{x:Str}{pos:Pos} (hN:X.N[i]?=some x) (hv:Vis X.env.scope x) (hd:(x == ("__debug__" : Str))=false:=by decide) (hcd:(x == ("__classdict__" : Str))=false:=by decide):PE X (.Name x pos) (tVar i):=by
 intro pins s σ H Q I h
 obtain ⟨v,e,h⟩:=h
 obtain ⟨m,hn,hl⟩:=I.loc
 obtain ⟨u,r,l⟩:=hl i x v hN e hv
 have fin:EP X pins σ Q u s:=⟨v,H,I,r,h⟩
 rcases l with ⟨hk,hm⟩ | ⟨hk,c,hc,hcell⟩
 ·exact wpAny_Name (wpAny_loadName_local I.ok.kind hk hn hm fin) hd
 ·rcases hk with hk | hk
  ·exact wpAny_Name (wpAny_loadName_cell I.ok.kind hk hc hcell fin) hd
  ·exact wpAny_Name (wpAny_loadName_free I.ok.kind hk hc hcell fin hcd) hd
theorem tT {i j pos}:PE X (.Constant (.int i) j pos) (tC (.int i)):=fun _ _ _ H _ I h=>wpAny_Constant_int ⟨.int i,H,I.tok _,⟨_,rfl⟩,h⟩
theorem aM2 {b j pos}:PE X (.Constant (.bool b) j pos) (tC (.bl b)):=fun _ _ _ H _ I h=>Constant_bool ⟨.bl b,H,I,rfl,h⟩
theorem aL4 {x j pos}:PE X (.Constant (.str x) j pos) (tC (.str x)):=fun _ _ _ H _ I h=>Calls.Constant_str ⟨.str x,H,I.tok _,⟨_,rfl⟩,h⟩
def Gl (X:Cx) (x:Str):Prop:=X.env.kindOf x=some .globalImplicit
theorem aAL {E:Value→Shared→Prop}{pins:List (Addr × Obj)}{s:Shared}{σ:St}{H:Hp}{x:Str}{u:Value}{pos:Pos}{Q:Value→Shared→Prop} (I:Inv X pins σ H s) (hg:Gl X x) (hm:X.mg x=some u) (h:Q u s)
  (hd:(x == ("__debug__" : Str))=false:=by decide):wpAny (model X.prog X.w) X.A (eval (.Name x pos) X.env) Q E s :=
 Calls.Name_function_global I.ok.kind hg (Calls.loadGlobal_global (by rw [I.ok.glob]; exact I.mod.glob.keeps I.bk) hm h) hd
theorem iB {E:Value→Shared→Prop}{pins:List (Addr × Obj)}{s:Shared}{σ:St}{H:Hp}{x:Str}{u:Value}{pos:Pos}{Q:Value→Shared→Prop} (I:Inv X pins σ H s) (hg:Gl X x) (hm:X.mg x=none) (hv:bootBuiltins x=some u) (h:Q u s)
  (hn:x ≠ "__name__" := by decide) (hd:(x == ("__debug__" : Str))=false:=by decide):wpAny (model X.prog X.w) X.A (eval (.Name x pos) X.env) Q E s:=by
 obtain ⟨mb,h1,h2⟩:=I.mod.blt
 exact Calls.Name_function_global I.ok.kind hg (Calls.loadGlobal_builtin (by rw [I.ok.glob]; exact I.mod.glob.keeps I.bk) hm (by rw [I.ok.blt]; exact h1.keeps I.bk) ((h2 x hn).trans hv) h) hd
theorem aJC {x:Str}{v:V}{u:Value}{pos:Pos} (hg:Gl X x) (hm:X.mg x=some u) (r:RelV v u) (hd:(x == ("__debug__" : Str))=false:=by decide):PE X (.Name x pos) (tC v) :=
 fun _ _ _ H _ I h=>aAL I hg hm ⟨v,H,I,r,h⟩ hd
theorem aIU {x:Str}{v:V}{u:Value}{pos:Pos} (hg:Gl X x) (hm:X.mg x=none) (hv:bootBuiltins x=some u) (r:RelV v u) (hn:x ≠ "__name__" := by decide) (hd:(x == ("__debug__" : Str))=false:=by decide):PE X (.Name x pos) (tC v) :=
 fun _ _ _ H _ I h=>iB I hg hm hv ⟨v,H,I,r,h⟩ hn hd
variable {a b:Expr}{ta tb:TE}{pos:Pos}
def tB (t:TE):TT:=fun σ H Q=>t σ H fun x H1=>∃ c,x = .bl c∧Q c H1
theorem aME {e:Expr}{t:TE} (h:PE X e t) (he:∀ whole,isTrue e X.env whole=(do let v ← whole; standAt e.pos; holding [v] (truthy v)):=by intro _; rfl):PT X e (tB t):=by
 intro pins s σ H Q I hw
 refine isTrue_plain (thn (h pins s σ H _ I hw) fun v s1 ⟨x,H1,I1,r1,q1⟩ => ?_) (he _)
 obtain ⟨d,rfl,q⟩:=q1
 cases r1
 exact wpAny_truthy_bool ⟨H1,I1,q⟩
variable {tA tB':TT}{rest:List Expr}
def tAnd (t u:TT):TT:=fun σ H Q=>t σ H fun c H1=>if c=true then u σ H1 Q else Q false H1
def tOr (t u:TT):TT:=fun σ H Q=>t σ H fun c H1=>if c=true then Q true H1 else u σ H1 Q
def tNot (t:TT):TT:=fun σ H Q=>t σ H fun c H1=>Q (!c) H1
theorem aK0 (ha:PT X a tA):PW X (.BoolOp .And [a] pos) tA:=by
 intro wh pins s σ H Q I h
 refine isTrue_and (thn (ha pins s σ H Q I h) fun c s1 e => ?_)
 cases c with
 | true=>exact isTrue_and_nil e
 | false=>exact e
theorem aMV (ha:PT X a tA):PW X (.BoolOp .Or [a] pos) tA:=by
 intro wh pins s σ H Q I h
 refine isTrue_or (thn (ha pins s σ H Q I h) fun c s1 e => ?_)
 cases c with
 | false=>exact isTrue_or_nil e
 | true=>exact e
theorem aMK (ha:PT X a tA) (hb:PW X (.BoolOp .And (b::rest) pos) tB'):PW X (.BoolOp .And (a::b::rest) pos) (tAnd tA tB'):=by
 intro wh pins s σ H Q I h
 refine isTrue_and (thn (ha pins s σ H _ I h) fun c s1 ⟨H1,I1,q1⟩ => ?_)
 cases c with
 | true=>exact hb wh pins s1 σ H1 Q I1 q1
 | false=>exact ⟨H1,I1,q1⟩
theorem aNP (ha:PT X a tA) (hb:PW X (.BoolOp .Or (b::rest) pos) tB'):PW X (.BoolOp .Or (a::b::rest) pos) (tOr tA tB'):=by
 intro wh pins s σ H Q I h
 refine isTrue_or (thn (ha pins s σ H _ I h) fun c s1 ⟨H1,I1,q1⟩ => ?_)
 cases c with
 | true=>exact ⟨H1,I1,q1⟩
 | false=>exact hb wh pins s1 σ H1 Q I1 q1
theorem aLV (ha:PT X a tA):PT X (.UnaryOp .Not a pos) (tNot tA):=by
 intro pins s σ H Q I h
 exact isTrue_not (ha pins s σ H (fun c H1=>Q (!c) H1) I h)
def aM6 (ta tb:TE):TE:=fun σ H Q=>ta σ H fun x H1=>∃ c,x = .bl c∧if c=true then tb σ H1 Q else Q (.bl false) H1
def tOrV (ta tb:TE):TE:=fun σ H Q=>ta σ H fun x H1=>∃ c,x = .bl c∧if c=true then Q (.bl true) H1 else tb σ H1 Q
theorem aMJ {op}{t:TE} (h:PE X a t):PE X (.BoolOp op [a] pos) t:=fun pins s σ H Q I hw=>BoolOp_one (h pins s σ H Q I hw)
theorem aLY (ha:PE X a ta) (hb:PE X (.BoolOp .And (b::rest) pos) tb):PE X (.BoolOp .And (a::b::rest) pos) (aM6 ta tb):=by
 intro pins s σ H Q I h
 refine BoolOp_and (thn (ha pins s σ H _ I h) fun v s1 ⟨x,H1,I1,r1,q1⟩ => ?_)
 obtain ⟨c,rfl,q1⟩:=q1
 cases r1
 refine wpAny_truthy_bool ?_
 cases c with
 | true=>exact hb pins s1 σ H1 Q I1 q1
 | false=>exact ⟨.bl false,H1,I1,rfl,q1⟩
theorem aN2 (ha:PE X a ta) (hb:PE X (.BoolOp .Or (b::rest) pos) tb):PE X (.BoolOp .Or (a::b::rest) pos) (tOrV ta tb):=by
 intro pins s σ H Q I h
 refine BoolOp_or (thn (ha pins s σ H _ I h) fun v s1 ⟨x,H1,I1,r1,q1⟩ => ?_)
 obtain ⟨c,rfl,q1⟩:=q1
 cases r1
 refine wpAny_truthy_bool ?_
 cases c with
 | false=>exact hb pins s1 σ H1 Q I1 q1
 | true=>exact ⟨.bl true,H1,I1,rfl,q1⟩
def tIf (t:TT) (ta tb:TE):TE:=fun σ H Q=>t σ H fun c H1=>if c=true then ta σ H1 Q else tb σ H1 Q
theorem aFJ {c:Expr} (hc:PT X c tA) (ha:PE X a ta) (hb:PE X b tb):PE X (.IfExp c a b pos) (tIf tA ta tb):=by
 intro pins s σ H Q I h
 refine wpAny_IfExp (thn (hc pins s σ H _ I h) fun d s1 ⟨H1,I1,q1⟩ => ?_)
 cases d with
 | true=>exact ha pins s1 σ H1 Q I1 q1
 | false=>exact hb pins s1 σ H1 Q I1 q1
end
end L2
namespace L2
open PySem PySem.Spec PyProof.Rows
def SqL (K:PySem.W.Frag) (H:Hp) (a:Addr) (xs:List V):Prop :=
 Rd H a (.lst xs) ∨
  ∃ (o:Obj) (its:Array Value) (n:Nat),K.lookup a=some o∧o.cls = .type "list" ∧ o.dict=none∧o.data = .seq its n∧its.size≤sizeLine∧Vals xs its.toList
def SqT (K:PySem.W.Frag) (H:Hp) (a:Addr) (xs:List V):Prop :=
 Rd H a (.tup xs) ∨
  ∃ (o:Obj) (its:Array Value) (n:Nat),K.lookup a=some o∧o.cls = .type "tuple" ∧ o.data = .seq its n∧its.size≤sizeLine∧Vals xs its.toList
def absV:Value→Option V
 | .none=>some .non
 | .bool b=>some (.bl b)
 | .int i _=>some (.int i)
 | .str x _=>some (.str x)
 | .bytes b _=>some (.byt b)
 | .float b _=>some (.flt b)
 | .ref a=>some (.ref a)
 | .type n=>some (.ty n)
 | _=>none
theorem RelV.abs {x:V}{u:Value} (r:RelV x u):absV u=some x:=by
 cases x with
 | non=>cases r; rfl
 | bl _=>cases r; rfl
 | int _=>obtain ⟨t,rfl⟩:=r; rfl
 | str _=>obtain ⟨t,rfl⟩:=r; rfl
 | byt _=>obtain ⟨t,rfl⟩:=r; rfl
 | flt _=>obtain ⟨t,rfl⟩:=r; rfl
 | ref _=>cases r; rfl
 | ty _=>cases r; rfl
theorem RelV.inj {x y:V}{u:Value} (r:RelV x u) (q:RelV y u):x=y:=Option.some.inj (r.abs.symm.trans q.abs)
theorem Vals.inj:∀ {xs ys:List V}{us:List Value},Vals xs us→Vals ys us→xs=ys
 | _,_,_, .nil, .nil=>rfl
 | _,_,_, .cons r t, .cons r' t'=>by rw [r.inj r',Vals.inj t t']
section
variable {X:Cx}{pins:List (Addr × Obj)}{σ:St}{H:Hp}{s:Shared}{a:Addr}{xs ys:List V}
theorem SqL.of {K:PySem.W.Frag} (h:H a=some (.lst xs)):SqL K H a xs := .inl (.inl h)
theorem SqT.of {K:PySem.W.Frag} (h:H a=some (.tup xs)):SqT K H a xs := .inl (.inl h)
theorem Inv.list (I:Inv X pins σ H s) (h:SqL X.K H a xs):∃ its:List Value,Vals xs its∧PlainL s.heap a its.toArray∧xs.length≤sizeLine:=by
 rcases h with h | ⟨o,its,n,hk,hc,hd,hs,hz,r⟩
 ·obtain ⟨z,its,n,r,e⟩:=h.ok I.hok
  exact ⟨its,r,⟨_,n,e,rfl,rfl,rfl⟩,z⟩
 ·refine ⟨its.toList,r,⟨o,n,I.kIn a o hk,hc,hd,by simpa using hs⟩,?_⟩
  have e:=r.length
  simp only [Array.length_toList] at e
  omega
theorem Inv.tuple (I:Inv X pins σ H s) (h:SqT X.K H a xs):∃ its:List Value,Vals xs its∧IsTup s.heap a its.toArray∧xs.length≤sizeLine:=by
 rcases h with h | ⟨o,its,n,hk,hc,hs,hz,r⟩
 ·obtain ⟨z,its,r,p⟩:=h.ok I.hok
  exact ⟨its,r,p,z⟩
 ·refine ⟨its.toList,r,⟨o,I.kIn a o hk,hc,n,by simpa using hs⟩,?_⟩
  have e:=r.length
  simp only [Array.length_toList] at e
  omega
theorem Inv.list_inj (I:Inv X pins σ H s) (h:SqL X.K H a xs) (h':SqL X.K H a ys):xs=ys:=by
 obtain ⟨its,r,⟨o,n,e,_,_,d⟩,_⟩:=I.list h
 obtain ⟨its',r',⟨o',n',e',_,_,d'⟩,_⟩:=I.list h'
 rw [e] at e'; cases e'
 rw [d] at d'
 injection d' with d1 _
 have:its=its':=by simpa using congrArg Array.toList d1
 subst this
 exact r.inj r'
theorem Inv.tuple_inj (I:Inv X pins σ H s) (h:SqT X.K H a xs) (h':SqT X.K H a ys):xs=ys:=by
 obtain ⟨its,r,⟨o,e,_,n,d⟩,_⟩:=I.tuple h
 obtain ⟨its',r',⟨o',e',_,n',d'⟩,_⟩:=I.tuple h'
 rw [e] at e'; cases e'
 rw [d] at d'
 injection d' with d1 _
 have:its=its':=by simpa using congrArg Array.toList d1
 subst this
 exact r.inj r'
end
abbrev Cx.wish (X:Cx) (E:Value→Shared→Prop):Cx:={ X with xe:=E }
abbrev Cx.nox (X:Cx):Cx:=X.wish fun _ _=>False
theorem Cx.Ok.wish {X:Cx} (ok:X.Ok) (E:Value→Shared→Prop):(X.wish E).Ok :=
 ⟨ok.mod,ok.kind,ok.glob,ok.blt,ok.above,ok.inj,ok.has,ok.cab,ok.hd,ok.frames,ok.stk,ok.exf,ok.bs,ok.bsz,ok.noex,ok.exfs,ok.funs,ok.frf⟩
theorem Cx.Ok.unwish {X:Cx}{E:Value→Shared→Prop} (ok:(X.wish E).Ok):X.Ok :=
 ⟨ok.mod,ok.kind,ok.glob,ok.blt,ok.above,ok.inj,ok.has,ok.cab,ok.hd,ok.frames,ok.stk,ok.exf,ok.bs,ok.bsz,ok.noex,ok.exfs,ok.funs,ok.frf⟩
section
variable {X:Cx}{pins:List (Addr × Obj)}{σ:St}{H:Hp}{s:Shared}{E:Value→Shared→Prop}
theorem Inv.wish (I:Inv X pins σ H s) (E:Value→Shared→Prop):Inv (X.wish E) pins σ H s:=⟨I.ok.wish E,I.os,I.bare,I.base,I.loc,I.cell,I.free,I.freeC,I.pin,I.hok,I.len⟩
theorem Inv.unwish (I:Inv (X.wish E) pins σ H s):Inv X pins σ H s:=⟨I.ok.unwish,I.os,I.bare,I.base,I.loc,I.cell,I.free,I.freeC,I.pin,I.hok,I.len⟩
theorem SP.unwish {D:Ends}{f:Flow}{s':Shared} (h:SP (X.wish E) pins D f s'):SP X pins D f s':=by
 cases f with
 | next=>obtain ⟨σ',H',I,q⟩:=h; exact ⟨σ',H',I.unwish,q⟩
 | brk=>obtain ⟨σ',H',I,q⟩:=h; exact ⟨σ',H',I.unwish,q⟩
 | cont=>obtain ⟨σ',H',I,q⟩:=h; exact ⟨σ',H',I.unwish,q⟩
 | ret u=>obtain ⟨v,σ',H',I,r,q⟩:=h; exact ⟨v,σ',H',I.unwish,r,q⟩
theorem PSs.nox {st:List Stmt}{t:TS} (h:PSs X.nox st t):PSs X st t:=fun pins s σ H D I hw =>
 wpAny_mono (h pins s σ H D (I.wish _) hw) (fun _ _ q=>q.unwish) fun _ _ z=>False.elim z
end
section
variable {X:Cx}{st:Stmt}{rest:List Stmt}{t u:TS}{e:Expr}{te:TE}{pos:Pos}
def aNR:TS:=fun D σ H=>D.nx σ H
def tSeq (t u:TS):TS:=fun D σ H=>t { D with nx:=u D } σ H
theorem aIQ:PSs X [] aNR:=fun _ _ σ H _ I h=>wpAny_execs_nil ⟨σ,H,I,h⟩
theorem aHP (h1:PS X st t) (h2:PSs X rest u):PSs X (st::rest) (tSeq t u):=by
 intro pins s σ H D I h
 refine wpAny_execs_cons (thn (h1 pins s σ H { D with nx:=u D } I h) fun f s1 q => ?_)
 cases f with
 | next =>
  obtain ⟨σ',H',I',q⟩:=q
  exact h2 pins s1 σ' H' D I' q
 | ret v=>exact q
 | brk=>exact q
 | cont=>exact q
theorem aJT (h1:PS X st t):PSs X [st] t:=by
 intro pins s σ H D I h
 refine wpAny_execs_cons (thn (h1 pins s σ H D I h) fun f s1 q => ?_)
 cases f with
 | next=>exact wpAny_execs_nil q
 | ret v=>exact q
 | brk=>exact q
 | cont=>exact q
theorem Inv.quiet {pins:List (Addr × Obj)}{σ:St}{H:Hp}{s:Shared} (I:Inv X pins σ H s):interactive X.env=false:=by simp [interactive,I.ok.kind]
def aNW (te:TE):TS:=fun D σ H=>te σ H fun _ H1=>D.nx σ H1
theorem aJ2 (he:PE X e te) (hs:swapsWith e none pos.line X.env=pure false:=by rfl):PS X (.Expr e pos) (aNW te):=by
 intro pins s σ H D I h
 exact wpAny_Expr_any (thn (he pins s σ H _ I h) fun v s1 ⟨x,H1,I1,r1,q1⟩=>⟨σ,H1,I1,q1⟩) I.quiet hs
def tRet (te:TE):TS:=fun D σ H=>te σ H D.rt
theorem aMX (he:PE X e te):PS X (.Return (some e) pos) (tRet te):=by
 intro pins s σ H D I h
 exact wpAny_Return_some (thn (he pins s σ H _ I h) fun v s1 ⟨x,H1,I1,r1,q1⟩=>⟨x,σ,H1,I1,r1,q1⟩)
def tIfS (c:TT) (t u:TS):TS:=fun D σ H=>c σ H fun b H1=>if b=true then t D σ H1 else u D σ H1
theorem aNZ {c:Expr}{a b:List Stmt}{tc:TT} (hc:PT X c tc) (ha:PSs X a t) (hb:PSs X b u):PS X (.If c a b pos) (tIfS tc t u):=by
 intro pins s σ H D I h
 refine wpAny_If (thn (hc pins s σ H _ I h) fun d s1 ⟨H1,I1,q1⟩ => ?_)
 cases d with
 | true=>exact ha pins s1 σ H1 D I1 q1
 | false=>exact hb pins s1 σ H1 D I1 q1
end
abbrev TG:=V→St→Hp→(St→Hp→Prop)→Prop
abbrev TGs:=List V→St→Hp→(St→Hp→Prop)→Prop
def PG (X:Cx) (target:Expr) (t:TG):Prop :=
 ∀ (pins:List (Addr × Obj)) (s:Shared) (σ:St) (H:Hp) (v:V) (u:Value) (Q:St→Hp→Prop),Inv X pins σ H s→RelV v u→t v σ H Q →
  wpAny (model X.prog X.w) X.A (assign target X.env u) (fun _ s'=>∃ σ' H',Inv X pins σ' H' s'∧Q σ' H') X.xe s
def PGs (X:Cx) (ts:List Expr) (t:TGs):Prop :=
 ∀ (pins:List (Addr × Obj)) (s:Shared) (σ:St) (H:Hp) (vs:List V) (us:List Value) (Q:St→Hp→Prop),Inv X pins σ H s→Vals vs us→t vs σ H Q →
  wpAny (model X.prog X.w) X.A (assignInOrder ((assignEach ts X.env).map (·.2)) us) (fun _ s'=>∃ σ' H',Inv X pins σ' H' s'∧Q σ' H') X.xe s
abbrev TSet:=V→V→V→Hp→(Hp→Prop)→Prop
def PSet (X:Cx) (t:TSet):Prop :=
 ∀ (pins:List (Addr × Obj)) (s:Shared) (σ:St) (H:Hp) (o i v:V) (ov iv u:Value) (Q:Hp→Prop),Inv X pins σ H s→RelV o ov→RelV i iv→RelV v u→t o i v H Q →
  wpAny (model X.prog X.w) X.A (setItem ov iv u) (fun _ s'=>∃ H',Inv X pins σ H' s'∧Q H') X.xe s
section
variable {X:Cx}{pos:Pos}
def oO (i:Nat):TG:=fun v σ H Q=>Q (σ.set i (some v)) H
theorem p4 {i:Nat}{x:Str} (hN:X.N.Nodup) (hi:X.N[i]?=some x) (hx:Loc X.env.scope x) (hf:X.fn x=true∨X.env.scope.names.lookup x=some .local:=by first | exact .inl rfl | exact .inr rfl | assumption):PG X (.Name x pos) (oO i):=by
 intro pins s σ H v u Q I r h
 exact wpAny_assign_Name (iP I hN hi hx r (fun s' I'=>⟨_,H,I',h⟩) hf)
def gNil:TGs:=fun vs σ H Q=>vs=[]∧Q σ H
def aBW (t:TG) (u:TGs):TGs:=fun vs σ H Q=>∃ v r,vs=v::r∧t v σ H fun σ' H'=>u r σ' H' Q
theorem aAE:PGs X [] gNil:=by
 intro pins s σ H vs us Q I r h
 obtain ⟨e,h⟩:=h
 subst e
 cases r
 exact assignInOrder_nil ⟨σ,H,I,h⟩
theorem rX {e:Expr}{es:List Expr}{t:TG}{u:TGs} (h1:PG X e t) (h2:PGs X es u)
  (hs:(assignEach (e::es) X.env).map (·.2)=assign e X.env::(assignEach es X.env).map (·.2):=by rfl):PGs X (e::es) (aBW t u):=by
 intro pins s σ H vs us Q I r h
 obtain ⟨v,vr,e1,h⟩:=h
 subst e1
 cases r with
 | cons r rr =>
  rw [hs]
  refine assignInOrder_cons (thn (h1 pins s σ H _ _ _ I r h) fun _ s1 ⟨σ1,H1,I1,q1⟩ => ?_)
  exact h2 pins s1 σ1 H1 _ _ Q I1 rr q1
def gTup (K:PySem.W.Frag) (n:Nat) (t:TGs):TG:=fun v σ H Q=>∃ a xs,v = .ref a∧SqT K H a xs∧xs.length=n∧t xs σ H Q
theorem aEZ {es:List Expr}{k:Nat}{t:TGs}{n:Nat} (hc:X.calm=true) (h:PGs X es t)
  (hn:(assignEach es X.env).length=n:=by rfl) (hst:(assignEach es X.env).findIdx? (·.1)=none:=by rfl):PG X (.Tuple es k pos) (gTup X.K n t):=by
 intro pins s σ H v u Q I r hw
 obtain ⟨a,xs,e1,hq,hl,hw⟩:=hw
 subst e1
 cases r
 obtain ⟨its,rv,ht,hz⟩:=I.tuple hq
 refine assign_Tuple_tuple (I.ok.hd hc) ht (by simp [hn,← hl,rv.length]) hst fun h' hx => ?_
 have I1:Inv X pins σ H { s with heap:=h' }:=I.kept (t':=s.toks) fun b o e=>hx b o (Nat.ne_of_lt (Heap.lt_size e)) e
 exact h pins _ σ H xs _ Q I1 (by simpa using rv) hw
def gSub (to ti:TE) (t:TSet):TG:=fun v σ H Q=>to σ H fun o H1=>ti σ H1 fun i H2=>t o i v H2 fun H3=>Q σ H3
theorem aMC {o i:Expr}{to ti:TE}{t:TSet} (ho:PE X o to) (hi:PE X i ti) (hs:PSet X t)
  (ha:∀ v,assign (.Subscript o i pos) X.env v=(do
   let ov ← holding [v] (eval o X.env)
   let iv ← holding [v,ov] (eval i X.env)
   standAt pos
   holding [v,ov,iv] (setItem ov iv v)
   release [v,ov,iv] []):=by intro _; rfl):PG X (.Subscript o i pos) (gSub to ti t):=by
 intro pins s σ H v u Q I r h
 rw [ha]
 refine wpAny_bind (wpAny_holding (thn (ho pins s σ H _ I h) fun ov s1 ⟨x,H1,I1,r1,q1⟩ => ?_))
 refine wpAny_bind (wpAny_holding (thn (hi pins s1 σ H1 _ I1 q1) fun iv s2 ⟨y,H2,I2,r2,q2⟩ => ?_))
 refine wpAny_bind (wpAny_standAt (wpAny_bind (wpAny_holding (thn (hs pins s2 σ H2 x y v ov iv u _ I2 r1 r2 r q2) fun _ s3 ⟨H3,I3,q3⟩ => ?_))))
 exact wpAny_release ⟨σ,H3,I3,q3⟩
def aBK (te:TE) (g:TG):TS:=fun D σ H=>te σ H fun x H1=>g x σ H1 D.nx
theorem aL6 {tg e:Expr}{te:TE}{g:TG} (he:PE X e te) (hg:PG X tg g) (hs:swapsWithSole [tg] e pos.line X.env=pure false:=by rfl) (hw:swappedStores [tg] e X.env=pure none:=by rfl)
  (h1:(assignEach [tg] X.env).map (·.2)=[assign tg X.env]:=by rfl):PS X (.Assign [tg] e pos) (aBK te g):=by
 intro pins s σ H D I h
 refine wpAny_Assign_stores (thn (he pins s σ H _ I h) fun v s1 ⟨x,H1,I1,r1,q1⟩ => ?_) hs hw
 rw [h1]
 exact thn (hg pins s1 σ H1 x v _ I1 r1 q1) fun _ s2 q=>q
theorem aLC {i:Nat}{x:Str}{e:Expr}{te:TE}{pos':Pos} (hN:X.N.Nodup) (hi:X.N[i]?=some x) (hx:Loc X.env.scope x) (he:PE X e te) (hs:swapsWith e (some (.Name x pos')) pos.line X.env=pure false:=by rfl) (hf:X.fn x=true∨X.env.scope.names.lookup x=some .local:=by first | exact .inl rfl | exact .inr rfl | assumption) :
  PS X (.Assign [.Name x pos'] e pos) (aBK te (oO i)):=by
 intro pins s σ H D I h
 refine wpAny_Assign_Name (thn (he pins s σ H _ I h) fun v s1 ⟨y,H1,I1,r1,q1⟩ => ?_) hs
 exact iP I1 hN hi hx r1 (fun s2 I2=>⟨_,H1,I2,q1⟩) hf
def tPar (i j:Nat) (ta:TA):TS:=fun D σ H=>ta σ H fun vs H1=>∃ v w,vs=[v,w]∧D.nx ((σ.set i (some v)).set j (some w)) H1
theorem aMI {i j:Nat}{x y:Str}{a b:Expr}{ta:TA}{px py pt:Pos}{kt k2 pt2} (hc:X.calm=true) (hN:X.N.Nodup) (hi:X.N[i]?=some x) (hj:X.N[j]?=some y) (hij:i≠j)
  (hx:X.env.scope.names.lookup x=some .local) (hy:X.env.scope.names.lookup y=some .local) (ha:PA X [a,b] ta)
  (hw:swappedStores [.Tuple [.Name x px, .Name y py] kt pt] (.Tuple [a,b] k2 pt2) X.env=pure (some [x,y]))
  (hs:swapsWithSole [.Tuple [.Name x px, .Name y py] kt pt] (.Tuple [a,b] k2 pt2) pos.line X.env=pure false:=by rfl) :
  PS X (.Assign [.Tuple [.Name x px, .Name y py] kt pt] (.Tuple [a,b] k2 pt2) pos) (tPar i j ta):=by
 intro pins s σ H D I h
 rw [exec_Assign_arm]
 refine wpAny_bind (wpAny_standAt ?_)
 rw [hs]
 refine wpAny_bind (wpAny_pure ?_)
 rw [if_neg (by decide)]
 refine wpAny_bind (Tuple_ (thn (ha _ pins s σ H _ I h) fun us s1 ⟨vs,H1,I1,r1,q1⟩ => ?_))
 obtain ⟨v,w,e1,q1⟩:=q1
 subst e1
 obtain ⟨u1,u2,rfl,rv,rw'⟩:∃ u1 u2,us=[u1,u2]∧RelV v u1∧RelV w u2:=by
  cases r1 with
  | cons p q =>
   cases q with
   | cons p' q' =>
    cases q'
    exact ⟨_,_,rfl,p,p'⟩
 refine wpAny_newObj_type ?_ (by show 2≤sizeLine; decide)
 have I2:Inv X pins σ H1 { s1 with heap:=s1.heap.push { cls := .type "tuple", data := .seq [u1,u2].toArray } }:=I1.kept (t':=s1.toks) fun b o e=>Heap.get?_push_of_some _ e
 rw [hw]
 refine wpAny_bind (wpAny_pure ?_)
 show wpAny (model X.prog X.w) X.A (do rule "assign.swapped-stores"; let items ← unpackItems (.ref s1.heap.objs.size) 2 none; assignInOrder [fun v=>bindName X.env y v,fun v=>bindName X.env x v] items.reverse; pure Flow.next) _ _ _
 refine wpAny_bind (wpAny_rule (wpAny_bind (unpackItems_tuple (items := #[u1,u2]) (I.ok.hd hc) (IsTup.new s1.heap _) fun h' hx' => ?_)))
 have I3:=I2.kept (h':=h') (t':=s1.toks) fun b o e=>hx' b o (Nat.ne_of_lt (Heap.lt_size e)) e
 show wpAny _ _ (assignInOrder [fun v=>bindName X.env y v,fun v=>bindName X.env x v] [u2,u1] >>= fun _=>pure Flow.next) _ _ _
 refine wpAny_bind (assignInOrder_cons (wpAny_bindName (iP I3 hN hj (.inl hy) rw' (fun s2 I4 => ?_) (.inr hy))))
 refine assignInOrder_cons (wpAny_bindName (iP I4 hN hi (.inl hx) rv (fun s3 I5=>assignInOrder_nil (wpAny_pure ?_)) (.inr hx)))
 rw [List.set_comm _ _ (Ne.symm hij)] at I5
 exact ⟨_,H1,I5,q1⟩
end
section
variable {X:Cx}{pos:Pos}
def aL7 (c:TT) (tb:TS):TS:=fun D σ H=>∃ W:Nat→St→Hp→Prop,(∃ m,W m σ H)∧∀ m σ H,W m σ H →
 c σ H fun b H1=>if b=true then ∃ N:St→Hp→Prop,(∀ σ' H',N σ' H'→∃ m',m' < m∧W m' σ' H')∧tb { D with nx:=N,ct:=N,bk:=D.nx } σ H1 else D.nx σ H1
theorem aFN {c:Expr}{body:List Stmt}{tc:TT}{tb:TS} (hp:PassesOwn (model X.prog X.w) X.A X.env X.xe) (hc:PT X c tc) (hb:PSs X body tb):PS X (.While c body [] pos) (aL7 tc tb):=by
 intro pins s σ H D I h
 obtain ⟨W,⟨m0,w0⟩,turn⟩:=h
 refine wpAny_While (codeAny_whileLoop (fun n s'=>∃ σ' H',Inv X pins σ' H' s'∧W n σ' H') ?_ m0 ⟨σ,H,I,w0⟩)
 rintro n s1 ⟨σ1,H1,I1,w1⟩
 refine wpAny_passesOwn hp (thn (hc pins s1 σ1 H1 _ I1 (turn n σ1 H1 w1)) fun b s2 ⟨H2,I2,q2⟩ => ?_)
 cases b with
 | true =>
  obtain ⟨N,hN,q2⟩:=q2
  rw [if_pos rfl]
  refine wpAny_passesOwn hp (thn (hb pins s2 σ1 H2 _ I2 q2) fun f s3 q3 => ?_)
  cases f with
  | next =>
   obtain ⟨σ3,H3,I3,n3⟩:=q3
   obtain ⟨m',hm,w3⟩:=hN σ3 H3 n3
   exact ⟨m',hm,σ3,H3,I3,w3⟩
  | cont =>
   obtain ⟨σ3,H3,I3,n3⟩:=q3
   obtain ⟨m',hm,w3⟩:=hN σ3 H3 n3
   exact ⟨m',hm,σ3,H3,I3,w3⟩
  | brk=>exact q3
  | ret v=>exact q3
 | false =>
  rw [if_neg Bool.false_ne_true]
  exact wpAny_execs_nil ⟨σ1,H2,I2,q2⟩
end
structure It where
 go:Nat→Hp→Prop
 yld:Nat→Hp→V→Hp→Prop
 stop:Nat→Hp→Prop
def lP (X:Cx) (pins:List (Addr × Obj)) (H:Hp) (b:Addr):Prop :=
 H b=none∧b≠X.env.locals∧b ∉ X.fs∧(b∈X.ex∨X.s₀.heap.objs.size≤b)∧(∀ x c,X.env.cells.lookup x=some c→c≠b)∧∀ p∈X.pn++pins,p.1≠b
theorem Inv.fpOk {X:Cx}{pins:List (Addr × Obj)}{σ:St}{H H':Hp}{s:Shared}{b:Addr} (I:Inv X pins σ H s) (hb:s.heap.objs.size≤b) (hn:H' b=none):lP X pins H' b:=by
 refine ⟨hn,Nat.ne_of_gt (Nat.lt_of_lt_of_le I.lt hb),I.nofs hb, .inr (Nat.le_trans I.sz hb),fun x c e z => ?_,fun p hp z => ?_⟩
 ·obtain ⟨v,q⟩:=I.cell x c e
  exact absurd (Nat.lt_of_lt_of_le q.lt (by rw [z]; exact hb)) (Nat.lt_irrefl _)
 ·exact absurd (Nat.lt_of_lt_of_le (Heap.lt_size (I.pin p hp).1) (by rw [z]; exact hb)) (Nat.lt_irrefl _)
structure Turn (P:Program) (w:World) (K:PySem.W.Frag) (tg:Expr) (J:It) (fp:List Addr) (it:Addr) (tn:Nat→Heap→Prop):Prop where
 mem:it∈fp
 obj:∀ i h,tn i h→∀ b∈fp,∃ o,h.get? b=some o∧∀ v,o.data ≠ .cell v
 keep:∀ i h h',tn i h→(∀ b∈fp,∀ o,h.get? b=some o→h'.get? b=some o)→tn i h'
 item:∀ (X:Cx),X.prog=P→X.w=w→X.K=K→X.calm=true→∀ (i:Nat) (pins:List (Addr × Obj)) (s:Shared) (σ:St) (H:Hp) (E:Value→Shared→Prop),Inv X pins σ H s→(∀ b∈fp,lP X pins H b)→tn i s.heap→J.go i H →
  wpAny (model P w) X.A (pyNext (.ref it)) (fun r s1=>∃ u,r=some u ∧
   wpAny (model P w) X.A (letOwnedTupleGo tg (.ref it) u) (fun _ s2=>∃ x H',Inv X pins σ H' s2∧RelV x u∧J.yld i H x H'∧tn (i+1) s2.heap∧∀ b∈fp,H' b=none) E s1) E s
 done:∀ (X:Cx),X.prog=P→X.w=w→X.K=K→X.calm=true→∀ (i:Nat) (pins:List (Addr × Obj)) (s:Shared) (σ:St) (H:Hp) (E:Value→Shared→Prop),Inv X pins σ H s→(∀ b∈fp,lP X pins H b)→tn i s.heap→J.stop i H →
  wpAny (model P w) X.A (pyNext (.ref it)) (fun r s1=>r=none∧Inv X pins σ H s1) E s
 self:∀ (A:Around) (i:Nat) (s:Shared) (Q:Value→Shared→Prop) (E:Value→Shared→Prop),tn i s.heap→Q (.ref it) s→wpAny (model P w) A (pyIter (.ref it)) Q E s
abbrev TI:=St→Hp→(It→Hp→Prop)→Prop
def PIE (X:Cx) (pins:List (Addr × Obj)) (σ:St) (tg:Expr) (R:It→Hp→Prop) (itv:Value) (s2:Shared):Prop :=
 ∃ (it:Addr) (fp:List Addr) (tn:Nat→Heap→Prop) (J:It) (H':Hp),itv = .ref it∧Inv X pins σ H' s2∧Turn X.prog X.w X.K tg J fp it tn∧tn 0 s2.heap∧(∀ b∈fp,lP X pins H' b)∧R J H'
def PI (X:Cx) (tg iter:Expr) (wi:TI):Prop :=
 ∀ (pins:List (Addr × Obj)) (s:Shared) (σ:St) (H:Hp) (R:It→Hp→Prop),Inv X pins σ H s→wi σ H R →
  wpAny (model X.prog X.w) X.A (eval iter X.env) (fun v s1=>wpAny (model X.prog X.w) X.A (pyIter v) (PIE X pins σ tg R) X.xe s1) X.xe s
theorem vY {M:Model}{A:Around}{E:Value→Shared→Prop}{s:Shared}{tg:Expr}{it:Addr}{u:Value}{o:Obj}{n:String}{vs:Array Value}{Q:Unit→Shared→Prop} (ho:s.heap.get? it=some o) (hc:o.cls = .type n) (hd:o.data = .fields vs)
    (hn:["enumerate", "zip", "dict_itemiterator", "dict_reverseitemiterator", "odict_iterator", "itertools.zip_longest", "itertools.pairwise"].contains n=false) (hQ:Q () s):wpAny M A (letOwnedTupleGo tg (.ref it) u) Q E s:=by
  unfold letOwnedTupleGo
  cases tg <;> first
    | exact wpAny_pure hQ
    | (cases u <;> first
        | exact wpAny_pure hQ
        | (refine wpAny_bind (wpAny_load ho ?_)
           rw [hc,hd]
           show wpAny M A (if (["enumerate", "zip", "dict_itemiterator", "dict_reverseitemiterator", "odict_iterator", "itertools.zip_longest", "itertools.pairwise"].contains n && vs[0]? == some (rawInt _))=true then _ else _) Q E s
           rw [if_neg (by intro h; rw [hn,Bool.false_and] at h; cases h)]
           exact wpAny_pure hQ))
def Itl (K:PySem.W.Frag) (a:Addr):It :=
 ⟨fun i H=>∃ xs x,SqL K H a xs∧xs[i]?=some x,fun i H x H'=>H'=H∧∀ xs,SqL K H a xs→xs[i]?=some x,fun i H=>∃ xs,SqL K H a xs∧xs.length≤i⟩
def Itt (K:PySem.W.Frag) (a:Addr):It :=
 ⟨fun i H=>∃ xs x,SqT K H a xs∧xs[i]?=some x,fun i H x H'=>H'=H∧∀ xs,SqT K H a xs→xs[i]?=some x,fun i H=>∃ xs,SqT K H a xs∧xs.length≤i⟩
def Itr (lo:Int) (n:Nat):It:=⟨fun i _=>i < n,fun i H x H'=>H'=H∧x = .int (lo+i),fun i _=>n≤i⟩
theorem aC6 {P:Program}{w:World}{K:PySem.W.Frag}{tg:Expr} (a it:Addr):Turn P w K tg (Itl K a) [it] it (fun i h=>h.IsListIter it a i) where
 mem:=by simp
 obj:=fun i h st b hb=>by
  have e:b=it:=by simpa using hb
  subst e
  obtain ⟨o,e,c,d⟩:=st
  exact ⟨o,e,fun v z=>by rw [d] at z; cases z⟩
 keep:=fun i h h' st k=>st.at fun o e=>k it (by simp) o e
 item:=by
  intro X hP hw hK hc i pins s σ H E I hf st hg
  subst hP hw hK
  obtain ⟨xs,x,hq,hx⟩:=hg
  obtain ⟨its,rv,p,hz⟩:=I.list hq
  obtain ⟨u,hu,ru⟩:=rv.get hx
  obtain ⟨f0,f1,f2,f3,f4,f5⟩:=hf it (by simp)
  refine wpAny_pyNext_list_item st p.isList (x:=u) (by simpa using hu) fun h' st' sb => ?_
  have I1:Inv X pins σ H { s with heap:=h' }:=I.turned (t':=s.toks) (fun b o hb e=>(sb.2 b hb).trans e) f0 f1 f3 f4 f5
  obtain ⟨o,e,c,d⟩:=id st'
  exact ⟨u,rfl,vY (s:={ s with heap:=h' }) e c d (by decide) ⟨x,H,I1,ru,⟨rfl,fun ys hy=>by rw [I.list_inj hy hq]; exact hx⟩,st',fun b hb=>(hf b hb).1⟩⟩
 done:=by
  intro X hP hw hK hc i pins s σ H E I hf st hg
  subst hP hw hK
  obtain ⟨xs,hq,hx⟩:=hg
  obtain ⟨its,rv,p,hz⟩:=I.list hq
  obtain ⟨f0,f1,f2,f3,f4,f5⟩:=hf it (by simp)
  have hl:=rv.length
  exact wpAny_pyNext_list_end (I.ok.hd hc) st p.isList (by simp; omega) fun h' eb=>⟨rfl,I.turned (t':=s.toks) (fun b o hb e=>eb b o hb e) f0 f1 f3 f4 f5⟩
 self:=fun _ _ _ _ _ st h=>wpAny_pyIter_listiter st h
theorem aA9 {P:Program}{w:World}{K:PySem.W.Frag}{tg:Expr} (a it:Addr):Turn P w K tg (Itt K a) [it] it (fun i h=>h.IsTupleIter it a i) where
 mem:=by simp
 obj:=fun i h st b hb=>by
  have e:b=it:=by simpa using hb
  subst e
  obtain ⟨o,e,c,d⟩:=st
  exact ⟨o,e,fun v z=>by rw [d] at z; cases z⟩
 keep:=fun i h h' st k=>st.at fun o e=>k it (by simp) o e
 item:=by
  intro X hP hw hK hc i pins s σ H E I hf st hg
  subst hP hw hK
  obtain ⟨xs,x,hq,hx⟩:=hg
  obtain ⟨its,rv,p,hz⟩:=I.tuple hq
  obtain ⟨u,hu,ru⟩:=rv.get hx
  obtain ⟨f0,f1,f2,f3,f4,f5⟩:=hf it (by simp)
  refine wpAny_pyNext_tuple_item st (show s.heap.IsTuple a its.toArray from p) (x:=u) (by simpa using hu) fun h' st' sb => ?_
  have I1:Inv X pins σ H { s with heap:=h' }:=I.turned (t':=s.toks) (fun b o hb e=>(sb.2 b hb).trans e) f0 f1 f3 f4 f5
  obtain ⟨o,e,c,d⟩:=id st'
  exact ⟨u,rfl,vY (s:={ s with heap:=h' }) e c d (by decide) ⟨x,H,I1,ru,⟨rfl,fun ys hy=>by rw [I.tuple_inj hy hq]; exact hx⟩,st',fun b hb=>(hf b hb).1⟩⟩
 done:=by
  intro X hP hw hK hc i pins s σ H E I hf st hg
  subst hP hw hK
  obtain ⟨xs,hq,hx⟩:=hg
  obtain ⟨its,rv,p,hz⟩:=I.tuple hq
  obtain ⟨f0,f1,f2,f3,f4,f5⟩:=hf it (by simp)
  have hl:=rv.length
  exact wpAny_pyNext_tuple_end (I.ok.hd hc) st (show s.heap.IsTuple a its.toArray from p) (by simp; omega) fun h' eb=>⟨rfl,I.turned (t':=s.toks) (fun b o hb e=>eb b o hb e) f0 f1 f3 f4 f5⟩
 self:=fun _ _ _ _ _ st h=>wpAny_pyIter_tupleiter st h
theorem aCL {P:Program}{w:World}{K:PySem.W.Frag}{tg:Expr} (it:Addr) (lo:Int) (n:Nat):Turn P w K tg (Itr lo n) [it] it (fun i h=>IsRangeIter h it (lo+(i:Nat) * 1) ((n:Int) - (i:Nat)) 1) where
 mem:=by simp
 obj:=fun i h st b hb=>by
  have e:b=it:=by simpa using hb
  subst e
  exact ⟨_,st,fun v z=>by
   have z':Data.fields _=Data.cell v:=z
   cases z'⟩
 keep:=fun i h h' st k=>k it (by simp) _ st
 item:=by
  intro X hP hw hK hc i pins s σ H E I hf st hg
  subst hP hw hK
  obtain ⟨f0,f1,f2,f3,f4,f5⟩:=hf it (by simp)
  have W:=Walks.range (prog:=X.prog) (w:=X.w) (I.ok.hd hc) it lo 1 n
  refine W.item i s _ _ hg st fun v h' tk hv st' kk => ?_
  obtain ⟨t,rfl⟩:=hv
  have I1:Inv X pins σ H { s with heap:=h',toks:=tk }:=I.turned (fun b o hb e=>kk b o (by simpa using hb) e) f0 f1 f3 f4 f5
  refine ⟨_,rfl,vY (s:={ s with heap:=h',toks:=tk }) (n := "range_iterator") st' rfl rfl (by decide) ⟨.int (lo+i),H,I1,⟨t,?_⟩,⟨rfl,rfl⟩,st',fun b hb=>(hf b hb).1⟩⟩
  rw [Int.mul_one]
 done:=by
  intro X hP hw hK hc i pins s σ H E I hf st hg
  subst hP hw hK
  obtain ⟨f0,f1,f2,f3,f4,f5⟩:=hf it (by simp)
  exact wpAny_pyNext_range_end (I.ok.hd hc) st (by have:n≤i:=hg; omega) fun h' eb=>⟨rfl,I.turned (t':=s.toks) (fun b o hb e=>eb b o hb e) f0 f1 f3 f4 f5⟩
 self:=fun _ _ _ _ _ st h=>wpAny_pyIter_rangeiter st h
end L2
namespace L2
open PySem PySem.Spec PyProof.Rows
section
variable {X:Cx}{tg:Expr}
theorem wJ {pins:List (Addr × Obj)}{σ:St}{H:Hp}{s:Shared}{R:It→Hp→Prop}{E:Value→Shared→Prop}{lo hi:Int}{t u v:Tok}{tk:Nat} (I:Inv X pins σ H s) (h1 : -(2 ^ 62)≤lo) (h2:lo < 2 ^ 62) (h3 : -(2 ^ 62)≤hi) (h4:hi < 2 ^ 62)
  (q:R (Itr lo (hi - lo).toNat) H):wpAny (model X.prog X.w) X.A (pyIter (.ref s.heap.objs.size)) (PIE X pins σ tg R) E { s with heap:=s.heap.push { cls := .type "range", data := .fields #[.int lo t, .int hi u, .int 1 v] },toks:=tk }:=by
 refine wpAny_pyIter_range (IsRange.new ..) (small_one h1 h2 h3 h4) ?_
 have I1:Inv X pins σ H { s with heap:=s.heap.push { cls := .type "range", data := .fields #[.int lo t, .int hi u, .int 1 v] },toks:=tk }:=I.kept fun b o e=>Heap.get?_push_of_some _ e
 refine ⟨(s.heap.push { cls := .type "range", data := .fields #[.int lo t, .int hi u, .int 1 v] }).objs.size,[(s.heap.push { cls := .type "range", data := .fields #[.int lo t, .int hi u, .int 1 v] }).objs.size],_,_,H,rfl,
  I1.kept (t':=tk) fun b o e=>Heap.get?_push_of_some _ e,aCL _ lo (hi - lo).toNat,?_,fun b hb => ?_,q⟩
 ·have e1:lo+((0:Nat):Int) * 1=lo:=by simp
  have e2:(((hi - lo).toNat:Nat):Int) - ((0:Nat):Int)=Builtin.Range.rangeSize lo hi 1:=by rw [rangeSize_one]; split <;> omega
  show IsRangeIter _ _ (lo+((0:Nat):Int) * 1) ((((hi - lo).toNat:Nat):Int) - ((0:Nat):Int)) 1
  rw [e1,e2]
  exact Heap.get?_push_size _ rfl
 ·have e:b=(s.heap.push { cls := .type "range", data := .fields #[.int lo t, .int hi u, .int 1 v] }).objs.size:=by simpa using hb
  subst e
  exact I1.fpOk (Nat.le_refl _) (I1.hok.fresh (Nat.le_refl _))
def aNL (ta:TA):TI:=fun σ H R=>ta σ H fun vs H1=>∃ j:Int,vs=[.int j] ∧ -(2 ^ 62)≤j∧j < 2 ^ 62∧R (Itr 0 j.toNat) H1
def aNT (ta:TA):TI:=fun σ H R=>ta σ H fun vs H1=>∃ i j:Int,vs=[.int i, .int j]∧(-(2 ^ 62)≤i∧i < 2 ^ 62 ∧ -(2 ^ 62)≤j∧j < 2 ^ 62)∧R (Itr i (j - i).toNat) H1
theorem aEQ {a:Expr}{ta:TA}{p pos:Pos} (hg:Gl X "range") (hm:X.mg "range" = none) (ha:PA X [a] ta) (hs:starEach [a] X.env=[(false,eval a X.env)]:=by rfl):PI X tg (.Call (.Name "range" p) [a] [] pos) (aNL ta):=by
 intro pins s σ H R I h
 refine Call_ (iB I hg hm boot_range (PyProof.Rows.callWith_type1 (thn (ha pos pins s σ H _ I h) fun us s1 ⟨vs,H1,I1,r1,q1⟩ => ?_) hs rfl))
 obtain ⟨j,e,q1,q2,q⟩:=q1
 subst e
 cases r1 with
 | cons r rr =>
  cases rr
  obtain ⟨t,rfl⟩:=r
  exact call_range_1 (wJ I1 (by omega) (by omega) q1 q2 (by simpa using q))
theorem aDT {a b:Expr}{ta:TA}{p pos:Pos} (hg:Gl X "range") (hm:X.mg "range" = none) (ha:PA X [a,b] ta) (hs:starEach [a,b] X.env=[(false,eval a X.env),(false,eval b X.env)]:=by rfl) (hs2:starEach [b] X.env=[(false,eval b X.env)]:=by rfl) :
  PI X tg (.Call (.Name "range" p) [a,b] [] pos) (aNT ta):=by
 intro pins s σ H R I h
 refine Call_ (iB I hg hm boot_range (PyProof.Rows.callWith_type1 (thn (ha pos pins s σ H _ I h) fun us s1 ⟨vs,H1,I1,r1,q1⟩ => ?_) (by rw [hs,hs2]) (by rw [hs2]; rfl)))
 obtain ⟨i,j,e,⟨q1,q2,q3,q4⟩,q⟩:=q1
 subst e
 cases r1 with
 | cons r rr =>
  cases rr with
  | cons r' rr =>
   cases rr
   obtain ⟨t,rfl⟩:=r
   obtain ⟨t',rfl⟩:=r'
   exact call_range_2 (wJ I1 q1 q2 q3 q4 q)
def tFor (wi:TI) (g:TG) (tb:TS):TS:=fun D σ H=>wi σ H fun J H1=>∃ W:Nat→Nat→St→Hp→Prop,(∃ m,W 0 m σ H1)∧∀ i m σ H,W i m σ H →
 (J.stop i H∧D.nx σ H)∨(J.go i H∧∃ N:St→Hp→Prop,(∀ σ' H',N σ' H'→∃ m',m' < m∧W (i+1) m' σ' H')∧∀ x H',J.yld i H x H'→g x σ H' fun σ2 H2=>tb { D with nx:=N,ct:=N,bk:=D.nx } σ2 H2)
def nE (fp:List Addr) (h:Heap):List (Addr × Obj):=fp.filterMap fun b=>(h.get? b).map fun o=>(b,o)
theorem g7 {fp:List Addr}{h:Heap}{b:Addr}{o:Obj} (hb:b∈fp) (e:h.get? b=some o):(b,o)∈nE fp h:=List.mem_filterMap.mpr ⟨b,hb,by rw [e]; rfl⟩
theorem aE8 {fp:List Addr}{h:Heap}{p:Addr × Obj} (hp:p∈nE fp h):p.1∈fp∧h.get? p.1=some p.2:=by
 obtain ⟨b,hb,e⟩:=List.mem_filterMap.mp hp
 cases q:h.get? b with
 | none=>rw [q] at e; cases e
 | some o =>
  rw [q] at e
  have e':(b,o)=p:=Option.some.inj e
  subst e'
  exact ⟨hb,q⟩
theorem Inv.pinned {pins:List (Addr × Obj)}{σ:St}{H:Hp}{s:Shared}{fp:List Addr} (I:Inv X pins σ H s) (hf:∀ b∈fp,lP X pins H b) (ho:∀ b∈fp,∃ o,s.heap.get? b=some o∧∀ v,o.data ≠ .cell v):Inv X (pins++nE fp s.heap) σ H s :=
 I.pins_of fun p hp=>(List.mem_append.mp hp).elim (fun z=>I.pin p (List.mem_append_right _ z)) fun z=>by
  obtain ⟨hb,e⟩:=aE8 z
  obtain ⟨f0,f1,f2,_⟩:=hf p.1 hb
  obtain ⟨o,e',d⟩:=ho p.1 hb
  rw [e] at e'; cases e'
  exact ⟨e,f0,f1,f2,d⟩
theorem Inv.unpinned {pins pl:List (Addr × Obj)}{σ:St}{H:Hp}{s:Shared} (I:Inv X (pins++pl) σ H s):Inv X pins σ H s:=I.pins_of fun p hp=>I.pin p (List.mem_append_right _ (List.mem_append_left _ hp))
theorem aMU {iter:Expr}{body:List Stmt}{wi:TI}{g:TG}{tb:TS}{pos:Pos} (hp:PassesOwn (model X.prog X.w) X.A X.env X.xe) (hc:X.calm=true) (hi:PI X tg iter wi) (hg:PG X tg g) (hb:PSs X body tb)
  (hs:∀ x,foldedSetIterable iter X.env x=pure x:=by intro _; rfl):PS X (.For tg iter body [] pos) (tFor wi g tb):=by
 intro pins s σ H D I h
 refine wpAny_For (thn (hi pins s σ H _ I h) fun v s1 h1=>thn h1 fun itv s2 h2 => ?_) hs
 obtain ⟨it,fp,tn,J,H2,e,I2,T,st2,f2,W,⟨m0,w0⟩,turn⟩:=h2
 subst e
 -- what stays true of the iterator's objects through the loop
 have stat:∀ {H':Hp},(∀ b∈fp,H' b=none)→∀ b∈fp,lP X pins H' b:=fun hn b hb=>⟨hn b hb,(f2 b hb).2⟩
 refine codeAny_forLoop_any (fun n s'=>∃ i σ' H',Inv X pins σ' H' s'∧tn i s'.heap∧(∀ b∈fp,H' b=none)∧W i n σ' H') ?_ m0 ⟨0,σ,H2,I2,st2,fun b hb=>(f2 b hb).1,w0⟩
 rintro n s3 ⟨i,σ3,H3,I3,st3,fr3,w3⟩
 rcases turn i n σ3 H3 w3 with ⟨stop,qn⟩ | ⟨go,N,hN,step⟩
 ·refine wpAny_passesOwn hp (thn (T.done X rfl rfl rfl hc i pins s3 σ3 H3 X.xe I3 (stat fr3) st3 stop) fun r s4 ⟨hr,I4⟩ => ?_)
  subst hr
  exact wpAny_execs_nil ⟨σ3,H3,I4,qn⟩
 ·refine wpAny_passesOwn hp (thn (T.item X rfl rfl rfl hc i pins s3 σ3 H3 X.xe I3 (stat fr3) st3 go) fun r s4 ⟨u,hr,h4⟩ => ?_)
  subst hr
  refine wpAny_passesOwn hp (thn h4 fun _ s5 ⟨x,H5,I5,r5,y5,st5,fr5⟩ => ?_)
  have I5':=I5.pinned (stat fr5) (T.obj _ _ st5)
  refine wpAny_passesOwn hp (thn (hg _ s5 σ3 H5 x u _ I5' r5 (step x H5 y5)) fun _ s6 ⟨σ6,H6,I6,q6⟩ => ?_)
  refine wpAny_passesOwn hp (thn (hb _ s6 σ6 H6 _ I6 q6) fun f s7 q7 => ?_)
  have again:∀ {σ7:St}{H7:Hp},Inv X (pins++nE fp s5.heap) σ7 H7 s7→N σ7 H7→∃ m,m < n∧∃ i σ' H',Inv X pins σ' H' s7∧tn i s7.heap∧(∀ b∈fp,H' b=none)∧W i m σ' H':=fun {σ7 H7} I7 n7=>by
   obtain ⟨m',hm,w7⟩:=hN σ7 H7 n7
   refine ⟨m',hm,i+1,σ7,H7,I7.unpinned,T.keep _ _ _ st5 fun b hb o e=>(I7.pin (b,o) (List.mem_append_right _ (List.mem_append_right _ (g7 hb e)))).1,fun b hb => ?_,w7⟩
   obtain ⟨o,e,d⟩:=T.obj _ _ st5 b hb
   exact (I7.pin (b,o) (List.mem_append_right _ (List.mem_append_right _ (g7 hb e)))).2.1
  cases f with
  | next=>obtain ⟨σ7,H7,I7,n7⟩:=q7; exact again I7 n7
  | cont=>obtain ⟨σ7,H7,I7,n7⟩:=q7; exact again I7 n7
  | brk=>obtain ⟨σ7,H7,I7,q7⟩:=q7; exact ⟨σ7,H7,I7.unpinned,q7⟩
  | ret v=>obtain ⟨x7,σ7,H7,I7,r7,q7⟩:=q7; exact ⟨x7,σ7,H7,I7.unpinned,r7,q7⟩
end
end L2
namespace L2
open PySem PySem.Spec PyProof.Rows
abbrev R2:=V→V→Hp→VK→Prop
def OpR (X:Cx) (f:Value→Value→Sem Value) (r:R2):Prop :=
 ∀ (pins:List (Addr × Obj)) (s:Shared) (σ:St) (H:Hp) (x y:V) (v u:Value) (Q:VK),Inv X pins σ H s→RelV x v→RelV y u→r x y H Q →
  wpAny (model X.prog X.w) X.A (f v u) (EP X pins σ Q) X.xe s
def UnR (X:Cx) (f:Value→Sem Value) (r:V→Hp→VK→Prop):Prop :=
 ∀ (pins:List (Addr × Obj)) (s:Shared) (σ:St) (H:Hp) (x:V) (v:Value) (Q:VK),Inv X pins σ H s→RelV x v→r x H Q →
  wpAny (model X.prog X.w) X.A (f v) (EP X pins σ Q) X.xe s
def gL (X:Cx) (f:Value) (r:List V→Hp→VK→Prop):Prop :=
 ∀ (pins:List (Addr × Obj)) (s:Shared) (σ:St) (H:Hp) (xs:List V) (us:List Value) (Q:VK),Inv X pins σ H s→Vals xs us→r xs H Q →
  wpAny (model X.prog X.w) X.A (call f us) (EP X pins σ Q) X.xe s
def TruR (X:Cx) (r:V→Hp→(Bool→Hp→Prop)→Prop):Prop :=
 ∀ (pins:List (Addr × Obj)) (s:Shared) (σ:St) (H:Hp) (x:V) (v:Value) (Q:Bool→Hp→Prop),Inv X pins σ H s→RelV x v→r x H Q →
  wpAny (model X.prog X.w) X.A (truthy v) (TP X pins σ Q) X.xe s
def tOp (r:R2) (ta tb:TE):TE:=fun σ H Q=>ta σ H fun x H1=>tb σ H1 fun y H2=>r x y H2 Q
def tUn (r:V→Hp→VK→Prop) (ta:TE):TE:=fun σ H Q=>ta σ H fun x H1=>r x H1 Q
def rI (C:Int→Int→Prop) (g:Int→Int→V):R2:=fun x y H Q=>∃ i j,x = .int i∧y = .int j∧C i j∧Q (g i j) H
def rI0 (g:Int→Int→V):R2:=fun x y H Q=>∃ i j,x = .int i∧y = .int j∧Q (g i j) H
def rU (g:Int→V):V→Hp→VK→Prop:=fun x H Q=>∃ i,x = .int i∧Q (g i) H
section
variable {X:Cx}{a b c:Expr}{ta tb tc:TE}{pos:Pos}
theorem aF7 (ha:PE X a ta) (hb:PE X b tb) {pins:List (Addr × Obj)}{s:Shared}{σ:St}{H:Hp}{R:V→V→Hp→Prop} (I:Inv X pins σ H s)
  (h:ta σ H fun x H1=>tb σ H1 fun y H2=>R x y H2) {Q:Value→Shared→Prop}{f:Value→Value→Sem Value}
  (hf:∀ v u s2 x y H2,Inv X pins σ H2 s2→RelV x v→RelV y u→R x y H2→wpAny (model X.prog X.w) X.A (f v u) Q X.xe s2) :
  wpAny (model X.prog X.w) X.A (eval a X.env) (fun v s₁=>wpAny (model X.prog X.w) X.A (eval b X.env) (fun u s₂=>wpAny (model X.prog X.w) X.A (f v u) Q X.xe s₂) X.xe s₁) X.xe s:=by
 refine thn (ha pins s σ H _ I h) fun v s1 ⟨x,H1,I1,r1,q1⟩ => ?_
 refine thn (hb pins s1 σ H1 _ I1 q1) fun u s2 ⟨y,H2,I2,r2,q2⟩ => ?_
 exact hf v u s2 x y H2 I2 r1 r2 q2
theorem aNV {op:Operator}{r:R2} (ho:OpR X (binaryOp op) r) (ha:PE X a ta) (hb:PE X b tb):PE X (.BinOp a op b pos) (tOp r ta tb):=by
 intro pins s σ H Q I h
 exact wpAny_BinOp (aF7 ha hb I h fun v u s2 x y H2 I2 rx ry q=>ho pins s2 σ H2 x y v u Q I2 rx ry q)
theorem wG {op:UnaryOp}{r:V→Hp→VK→Prop} (ho:UnR X (unaryOp op) r) (ha:PE X a ta):PE X (.UnaryOp op a pos) (tUn r ta):=by
 intro pins s σ H Q I h
 exact UnaryOp_ (thn (ha pins s σ H _ I h) fun v s1 ⟨x,H1,I1,r1,q1⟩=>ho pins s1 σ H1 x v Q I1 r1 q1)
theorem opI {f:Value→Value→Sem Value}{C:Int→Int→Prop}{g:Int→Int→Int}
  (rule:∀ (i j:Int) (t u:Tok) (s:Shared) (Q:Value→Shared→Prop) (E:Value→Shared→Prop),C i j→Q (.int (g i j) s.toks) { s with toks:=s.toks+1 }→wpAny (model X.prog X.w) X.A (f (.int i t) (.int j u)) Q E s) :
  OpR X f (rI C fun i j => .int (g i j)):=by
 intro pins s σ H x y v u Q I rx ry h
 obtain ⟨i,j,rfl,rfl,hc,q⟩:=h
 obtain ⟨t,rfl⟩:=rx
 obtain ⟨t',rfl⟩:=ry
 exact rule i j t t' s _ _ hc ⟨.int (g i j),H,I.tok _,⟨_,rfl⟩,q⟩
theorem opI0 {f:Value→Value→Sem Value}{g:Int→Int→Int}
  (rule:∀ (i j:Int) (t u:Tok) (s:Shared) (Q:Value→Shared→Prop) (E:Value→Shared→Prop),Q (.int (g i j) s.toks) { s with toks:=s.toks+1 }→wpAny (model X.prog X.w) X.A (f (.int i t) (.int j u)) Q E s) :
  OpR X f (rI0 fun i j => .int (g i j)):=by
 intro pins s σ H x y v u Q I rx ry h
 obtain ⟨i,j,rfl,rfl,q⟩:=h
 obtain ⟨t,rfl⟩:=rx
 obtain ⟨t',rfl⟩:=ry
 exact rule i j t t' s _ _ ⟨.int (g i j),H,I.tok _,⟨_,rfl⟩,q⟩
theorem aBM {f:Value→Value→Sem Value}{g:Int→Int→Bool}
  (rule:∀ (i j:Int) (t u:Tok) (s:Shared) (Q:Value→Shared→Prop) (E:Value→Shared→Prop),Q (.bool (g i j)) s→wpAny (model X.prog X.w) X.A (f (.int i t) (.int j u)) Q E s) :
  OpR X f (rI0 fun i j => .bl (g i j)):=by
 intro pins s σ H x y v u Q I rx ry h
 obtain ⟨i,j,rfl,rfl,q⟩:=h
 obtain ⟨t,rfl⟩:=rx
 obtain ⟨t',rfl⟩:=ry
 exact rule i j t t' s _ _ ⟨.bl (g i j),H,I,rfl,q⟩
def CDiv (i j:Int):Prop:=0 < j∧j < 1073741824
def CPow (i j:Int):Prop:=0≤j∧j≤1000000∧i.natAbs < 2 ^ 64
def CMul (i j:Int):Prop:=(-(2 ^ 64) < i∧i < 2 ^ 64)∨(-(2 ^ 64) < j∧j < 2 ^ 64)
theorem CMul.ok {i j:Int} (h:CMul i j):IntMulOk i j:=by
 rcases h with ⟨h1,h2⟩ | ⟨h1,h2⟩
 ·exact .of_left (intBits_le_64 h1 h2)
 ·exact .of_right (intBits_le_64 h1 h2)
theorem b5:OpR X (binaryOp .Add) (rI0 fun i j => .int (i+j)):=opI0 fun _ _ _ _ _ _ _ q=>add_int q
theorem cD:OpR X (binaryOp .Sub) (rI0 fun i j => .int (i - j)):=opI0 fun _ _ _ _ _ _ _ q=>sub_int q
theorem gP:OpR X (binaryOp .Mult) (rI CMul fun i j => .int (i * j)):=opI fun _ _ _ _ _ _ _ hc q=>mul_int q hc.ok
theorem nH:OpR X (binaryOp .FloorDiv) (rI CDiv fun i j => .int (i / j)):=opI fun i j _ _ _ _ _ hc q=>by
 have h1:(0:Int) < j:=hc.1
 have h2:j < 1073741824:=hc.2
 exact floordiv_int (by omega) (by rw [Int.fdiv_eq_ediv_of_nonneg i (by omega)]; exact q) (.inl (PyProof.noPylong_small (by omega)))
theorem fF:OpR X (binaryOp .Mod) (rI (fun _ j=>0 < j) fun i j => .int (i % j)):=opI fun i j _ _ _ _ _ hc q=>by
 have h1:(0:Int) < j:=hc
 exact mod_int' (by omega) (by rw [Int.fmod_eq_emod_of_nonneg i (by omega)]; exact q)
theorem aAY:OpR X (binaryOp .Mod) (rI (fun _ j=>j≠0) fun i j => .int (i.fmod j)):=opI fun _ _ _ _ _ _ _ hc q=>mod_int' hc q
theorem sC:OpR X (binaryOp .Pow) (rI CPow fun i j => .int (i ^ j.toNat)):=opI fun _ _ _ _ _ _ _ hc q=>pow_int_small hc.1 hc.2.1 hc.2.2 q
theorem unI {f:Value→Sem Value}{g:Int→Int}
  (rule:∀ (i:Int) (t:Tok) (s:Shared) (Q:Value→Shared→Prop) (E:Value→Shared→Prop),Q (.int (g i) s.toks) { s with toks:=s.toks+1 }→wpAny (model X.prog X.w) X.A (f (.int i t)) Q E s) :
  UnR X f (rU fun i => .int (g i)):=by
 intro pins s σ H x v Q I rx h
 obtain ⟨i,rfl,q⟩:=h
 obtain ⟨t,rfl⟩:=rx
 exact rule i t s _ _ ⟨.int (g i),H,I.tok _,⟨_,rfl⟩,q⟩
theorem dH:UnR X (unaryOp .USub) (rU fun i => .int (-i)):=unI fun _ _ _ _ _ q=>neg_int q
end
def scal:V→V→Bool
 | .non, .non=>true | .non, .int _=>true | .int _, .non=>true | .non, .bl _=>true | .bl _, .non=>true | .non, .str _=>true | .str _, .non=>true
 | .int _, .int _=>true | .bl _, .bl _=>true | .str _, .str _=>true | .byt _, .byt _=>true
 | .int _, .str _=>true | .str _, .int _=>true | .bl _, .str _=>true | .str _, .bl _=>true
 | _,_=>false
def rEq:R2:=fun x y H Q=>scal x y=true∧Q (.bl (decide (x=y))) H
def rNe:R2:=fun x y H Q=>scal x y=true∧Q (.bl (!decide (x=y))) H
theorem zU {i j:Int}:decide (V.int i=V.int j)=(i == j):=by
 rw [Bool.eq_iff_iff]
 simp
theorem aDM {i j:Bool}:decide (V.bl i=V.bl j)=(i == j):=by
 rw [Bool.eq_iff_iff]
 simp
theorem aAW {i j:Str}:decide (V.str i=V.str j)=(i == j):=by
 rw [Bool.eq_iff_iff]
 simp
theorem aAZ {i j:Array UInt8}:decide (V.byt i=V.byt j)=(i.toList == j.toList):=by
 rw [Bool.eq_iff_iff]
 cases i
 cases j
 simp
section
variable {X:Cx}{a b c:Expr}{ta tb tc:TE}{pos:Pos}
theorem b6 {pins:List (Addr × Obj)}{σ:St}{H:Hp}{s:Shared}{Q:VK}{k k':Bool} (I:Inv X pins σ H s) (q:Q (.bl k) H) (e:k=k'):EP X pins σ Q (.bool k') s:=by
 subst e
 exact ⟨.bl k,H,I,rfl,q⟩
theorem dG:OpR X (compareOp .Eq) rEq:=by
 intro pins s σ H x y v u Q I rx ry h
 obtain ⟨hs,q⟩:=h
 cases x with
 | non =>
  cases rx
  cases y with
  | non=>cases ry; exact PySem.EqNone.eq_none_none (b6 I q (by simp))
  | bl j=>cases ry; exact PySem.EqNone.eq_none_bool (b6 I q (by simp))
  | int j=>obtain ⟨t',rfl⟩:=ry; exact PySem.EqNone.eq_none_int (b6 I q (by simp))
  | str j=>obtain ⟨t',rfl⟩:=ry; exact PySem.EqNone.eq_none_str (b6 I q (by simp))
  | _=>exact absurd (show false=true from hs) Bool.false_ne_true
 | bl i =>
  cases rx
  cases y with
  | non=>cases ry; exact PySem.EqNone.eq_bool_none (b6 I q (by simp))
  | bl j=>cases ry; exact eq_bool (b6 I q aDM)
  | str j=>obtain ⟨t',rfl⟩:=ry; exact PySem.EqMixed.eq_bool_str (b6 I q (by simp))
  | _=>exact absurd (show false=true from hs) Bool.false_ne_true
 | int i =>
  obtain ⟨t,rfl⟩:=rx
  cases y with
  | non=>cases ry; exact PySem.EqNone.eq_int_none (b6 I q (by simp))
  | int j=>obtain ⟨t',rfl⟩:=ry; exact eq_int (b6 I q zU)
  | str j=>obtain ⟨t',rfl⟩:=ry; exact PySem.EqMixed.eq_int_str (b6 I q (by simp))
  | _=>exact absurd (show false=true from hs) Bool.false_ne_true
 | str i =>
  obtain ⟨t,rfl⟩:=rx
  cases y with
  | non=>cases ry; exact PySem.EqNone.eq_str_none (b6 I q (by simp))
  | bl j=>cases ry; exact PySem.EqMixed.eq_str_bool (b6 I q (by simp))
  | int j=>obtain ⟨t',rfl⟩:=ry; exact PySem.EqMixed.eq_str_int (b6 I q (by simp))
  | str j=>obtain ⟨t',rfl⟩:=ry; exact eq_str (b6 I q aAW)
  | _=>exact absurd (show false=true from hs) Bool.false_ne_true
 | byt i =>
  obtain ⟨t,rfl⟩:=rx
  cases y with
  | byt j=>obtain ⟨t',rfl⟩:=ry; exact PySem.W.eq_bytes (b6 I q aAZ)
  | _=>exact absurd (show false=true from hs) Bool.false_ne_true
 | _=>cases y <;> exact absurd (show false=true from hs) Bool.false_ne_true
theorem jK:OpR X (compareOp .NotEq) rNe:=by
 intro pins s σ H x y v u Q I rx ry h
 obtain ⟨hs,q⟩:=h
 cases x with
 | non =>
  cases rx
  cases y with
  | non=>cases ry; exact PySem.EqNone.ne_none_none (b6 I q (by simp))
  | bl j=>cases ry; exact PySem.EqNone.ne_none_bool (b6 I q (by simp))
  | int j=>obtain ⟨t',rfl⟩:=ry; exact PySem.EqNone.ne_none_int (b6 I q (by simp))
  | str j=>obtain ⟨t',rfl⟩:=ry; exact PySem.EqNone.ne_none_str (b6 I q (by simp))
  | _=>exact absurd (show false=true from hs) Bool.false_ne_true
 | bl i =>
  cases rx
  cases y with
  | non=>cases ry; exact PySem.EqNone.ne_bool_none (b6 I q (by simp))
  | bl j=>cases ry; exact ne_bool (b6 I q (congrArg not aDM))
  | str j=>obtain ⟨t',rfl⟩:=ry; exact PySem.EqMixed.ne_bool_str (b6 I q (by simp))
  | _=>exact absurd (show false=true from hs) Bool.false_ne_true
 | int i =>
  obtain ⟨t,rfl⟩:=rx
  cases y with
  | non=>cases ry; exact PySem.EqNone.ne_int_none (b6 I q (by simp))
  | int j=>obtain ⟨t',rfl⟩:=ry; exact ne_int (b6 I q (congrArg not zU))
  | str j=>obtain ⟨t',rfl⟩:=ry; exact PySem.EqMixed.ne_int_str (b6 I q (by simp))
  | _=>exact absurd (show false=true from hs) Bool.false_ne_true
 | str i =>
  obtain ⟨t,rfl⟩:=rx
  cases y with
  | non=>cases ry; exact PySem.EqNone.ne_str_none (b6 I q (by simp))
  | bl j=>cases ry; exact PySem.EqMixed.ne_str_bool (b6 I q (by simp))
  | int j=>obtain ⟨t',rfl⟩:=ry; exact PySem.EqMixed.ne_str_int (b6 I q (by simp))
  | str j=>obtain ⟨t',rfl⟩:=ry; exact ne_str (b6 I q (congrArg not aAW))
  | _=>exact absurd (show false=true from hs) Bool.false_ne_true
 | byt i =>
  obtain ⟨t,rfl⟩:=rx
  cases y with
  | byt j=>obtain ⟨t',rfl⟩:=ry; exact PySem.W.ne_bytes (b6 I q (congrArg not aAZ))
  | _=>exact absurd (show false=true from hs) Bool.false_ne_true
 | _=>cases y <;> exact absurd (show false=true from hs) Bool.false_ne_true
theorem jG:OpR X (compareOp .Lt) (rI0 fun i j => .bl (decide (i < j))):=aBM fun _ _ _ _ _ _ _ q=>lt_int q
theorem aCN:OpR X (compareOp .LtE) (rI0 fun i j => .bl (decide (i≤j))):=aBM fun _ _ _ _ _ _ _ q=>le_int q
theorem wD:OpR X (compareOp .Gt) (rI0 fun i j => .bl (decide (j < i))):=aBM fun _ _ _ _ _ _ _ q=>gt_int q
theorem sA:OpR X (compareOp .GtE) (rI0 fun i j => .bl (decide (j≤i))):=aBM fun _ _ _ _ _ _ _ q=>ge_int q
theorem aFA:OpR X (compareOp .In) (fun x y H Q=>∃ i j,x = .str i∧y = .str j∧Q (.bl (!(Builtin.Str.occurrences j i 0 j.length 1).isEmpty)) H):=by
 intro pins s σ H x y v u Q I rx ry h
 obtain ⟨i,j,rfl,rfl,q⟩:=h
 obtain ⟨t,rfl⟩:=rx
 obtain ⟨t',rfl⟩:=ry
 exact in_str (b6 I q rfl)
theorem nomark (b:Expr) {op:CmpOp} (h:op ≠ .In:=by decide) (h2:op ≠ .NotIn:=by decide):behindInMarks op b=false:=by
 have e1:(op == CmpOp.In)=false:=by cases op <;> first | rfl | exact absurd rfl h
 have e2:(op == CmpOp.NotIn)=false:=by cases op <;> first | rfl | exact absurd rfl h2
 cases b <;> simp [behindInMarks,e1,e2]
theorem aKG {op:CmpOp}{r:R2} (ho:OpR X (compareOp op) r) (ha:PE X a ta) (hb:PE X b tb) (hm:behindInMarks op b=false):PE X (.Compare a [op] [b] pos) (tOp r ta tb):=by
 intro pins s σ H Q I h
 exact wpAny_Compare1 (aF7 ha hb I h fun v u s2 x y H2 I2 rx ry q=>ho pins s2 σ H2 x y v u Q I2 rx ry q) hm
def aNG (t:TE):TT:=fun σ H Q=>t σ H fun x H'=>∃ k,x = .bl k∧Q k H'
theorem aIX {op:CmpOp}{r:R2} (ho:OpR X (compareOp op) r) (ha:PE X a ta) (hb:PE X b tb) (hm:behindInMarks op b=false):PT X (.Compare a [op] [b] pos) (aNG (tOp r ta tb)):=by
 intro pins s σ H Q I h
 refine wpAny_isTrue_Compare1 (thn (ha pins s σ H _ I h) fun v s1 ⟨x,H1,I1,r1,q1⟩=>thn (hb pins s1 σ H1 _ I1 q1) fun u s2 ⟨y,H2,I2,r2,q2⟩ =>
  thn (ho pins s2 σ H2 x y v u _ I2 r1 r2 q2) fun c s3 ⟨z,H3,I3,r3,k,e,q3⟩ => ?_) hm
 subst e
 cases r3
 exact wpAny_truthy_bool ⟨H3,I3,q3⟩
def TruV (K:PySem.W.Frag) (x:V) (H:Hp) (k:Bool):Prop :=
 match x with
 | .non=>k=false
 | .bl b=>k=b
 | .int i=>k=(i != 0)
 | .str y=>y.length≤sizeLine∧k=((y.length:Int) != 0)
 | .byt y=>y.size≤sizeLine∧k=((y.size:Int) != 0)
 | .ref p=>(∃ xs,SqL K H p xs∧k = !xs.isEmpty)∨(∃ xs,SqT K H p xs∧k = !xs.isEmpty)∨∃ kvs,H p=some (.dK kvs)∧k = !kvs.isEmpty
 | _=>False
theorem aBQ {κ:Type}{kvs:List (κ × V)}{vs:List (κ × Value)} (r:KV kvs vs):(!vs.isEmpty) = !kvs.isEmpty:=by
 cases r <;> rfl
theorem sW {xs:List V}{its:List Value} (r:Vals xs its):(!its.toArray.isEmpty) = !xs.isEmpty:=by
 cases r <;> simp
theorem line63:(sizeLine:Nat) < 2 ^ 63:=by rw [sizeLine_eq]; decide
theorem aLW:TruR X (fun x H Q=>∃ k,TruV X.K x H k∧Q k H):=by
 intro pins s σ H x v Q I rx h
 obtain ⟨k,e,q⟩:=h
 have hl:=line63
 have hs:sizeLine=16777216:=sizeLine_eq
 cases x with
 | non =>
  cases rx
  have e':k=false:=e
  subst e'
  exact truthy_none ⟨H,I,q⟩
 | bl b =>
  cases rx
  have e':k=b:=e
  subst e'
  exact wpAny_truthy_bool ⟨H,I,q⟩
 | int i =>
  obtain ⟨t,rfl⟩:=rx
  have e':k=(i != 0):=e
  subst e'
  exact PySem.P.truthy_int ⟨H,I,q⟩
 | str y =>
  obtain ⟨t,rfl⟩:=rx
  obtain ⟨hy,e'⟩:y.length≤sizeLine∧k=((y.length:Int) != 0):=e
  subst e'
  exact PySem.P.truthy_str (by omega) ⟨H,I.tok _,q⟩
 | byt y =>
  obtain ⟨t,rfl⟩:=rx
  obtain ⟨hy,e'⟩:y.size≤sizeLine∧k=((y.size:Int) != 0):=e
  subst e'
  exact PySem.W.truthy_bytes (by omega) ⟨H,I.tok _,q⟩
 | ref p =>
  cases rx
  have e':(∃ xs,SqL X.K H p xs∧k = !xs.isEmpty)∨(∃ xs,SqT X.K H p xs∧k = !xs.isEmpty)∨∃ kvs,H p=some (.dK kvs)∧k = !kvs.isEmpty:=e
  rcases e' with ⟨xs,hx,e'⟩ | ⟨xs,hx,e'⟩ | ⟨kvs,hx,e'⟩
  ·subst e'
   obtain ⟨its,r,pl,hz⟩:=I.list hx
   have hlen:=r.length
   exact wpAny_truthy_list pl.isList (by simp only [List.size_toArray]; omega) ⟨H,I.tok _,by rw [sW r]; exact q⟩
  ·subst e'
   obtain ⟨its,r,pl,hz⟩:=I.tuple hx
   have hlen:=r.length
   exact truthy_tuple pl (by simp only [List.size_toArray]; omega) ⟨H,I.tok _,by rw [sW r]; exact q⟩
  ·subst e'
   obtain ⟨hz,hS,vs,r,m⟩:kvs.length≤sizeLine∧(p == sysModules)=false∧∃ vs,KV kvs vs∧s.heap.DictOf (uE X.prog X.w) p vs:=I.hok p _ hx
   have hlen:kvs.length=vs.length:=Paired.length r
   exact wpAny_truthy_dict hS m (by omega) ⟨H,I.tok _,by rw [aBQ r]; exact q⟩
 | _=>exact (show False from e).elim
theorem aGW (ha:PE X a ta) (he:∀ whole,isTrue a X.env whole=(do let v ← whole; standAt a.pos; holding [v] (truthy v))) :
  PT X a (fun σ H Q=>ta σ H fun x H'=>∃ k,TruV X.K x H' k∧Q k H'):=by
 intro pins s σ H Q I h
 exact isTrue_plain (thn (ha pins s σ H _ I h) fun v s1 ⟨x,H1,I1,r1,q1⟩=>aLW pins s1 σ H1 x v Q I1 r1 q1) (he _)
theorem kP:OpR X (binaryOp .Add) (fun x y H Q=>∃ i j,x = .str i∧y = .str j∧i.length+j.length≤sizeLine∧Q (.str (i++j)) H):=by
 intro pins s σ H x y v u Q I rx ry h
 obtain ⟨i,j,rfl,rfl,hz,q⟩:=h
 obtain ⟨t,rfl⟩:=rx
 obtain ⟨t',rfl⟩:=ry
 exact add_str (fun t' tk=>⟨.str (i++j),H,I.tok _,⟨_,rfl⟩,q⟩) hz
theorem vals1 {x:V}{us:List Value} (r:Vals [x] us):∃ u,us=[u]∧RelV x u:=by
 cases r with
 | cons r1 r2=>cases r2; exact ⟨_,rfl,r1⟩
theorem vals2 {x y:V}{us:List Value} (r:Vals [x,y] us):∃ u w',us=[u,w']∧RelV x u∧RelV y w':=by
 cases r with
 | cons r1 r2 =>
  cases r2 with
  | cons r3 r4=>cases r4; exact ⟨_,_,rfl,r1,r3⟩
theorem rW:gL X (.builtin "abs") (fun xs H Q=>∃ i,xs=[.int i]∧Q (.int (if i < 0 then -i else i)) H):=by
 intro pins s σ H xs us Q I r h
 obtain ⟨i,rfl,q⟩:=h
 obtain ⟨u,rfl,t,rfl⟩:=vals1 r
 exact call_abs_int fun u tk=>⟨.int (if i < 0 then -i else i),H,I.tok _,⟨_,rfl⟩,q⟩
theorem aD0 (hc:X.calm=true):gL X (.builtin "min") (fun xs H Q=>∃ i j,xs=[.int i, .int j]∧Q (.int (if j < i then j else i)) H):=by
 intro pins s σ H xs us Q I r h
 obtain ⟨i,j,rfl,q⟩:=h
 obtain ⟨u,w',rfl,⟨t,rfl⟩,⟨t',rfl⟩⟩:=vals2 r
 refine min_two_ints (I.ok.hd hc) fun h' tk k=>⟨_,H,I.kept k,?_,q⟩
 by_cases hj:j < i
 ·rw [if_pos hj,if_pos hj]; exact ⟨_,rfl⟩
 ·rw [if_neg hj,if_neg hj]; exact ⟨_,rfl⟩
theorem lT:gL X (.type "int") (fun xs H Q=>(∃ i,xs=[.int i]∧Q (.int i) H)∨∃ k,xs=[.bl k]∧Q (.int (if k then 1 else 0)) H):=by
 intro pins s σ H xs us Q I r h
 rcases h with ⟨i,rfl,q⟩ | ⟨k,rfl,q⟩
 ·obtain ⟨u,rfl,t,rfl⟩:=vals1 r
  exact call_int_int ⟨.int i,H,I,⟨_,rfl⟩,q⟩
 ·obtain ⟨u,rfl,r1⟩:=vals1 r
  cases r1
  exact call_int_bool ⟨.int (if k then 1 else 0),H,I.tok _,⟨_,rfl⟩,q⟩
def aGE (K:PySem.W.Frag) (x:V) (H:Hp) (n:Nat):Prop :=
 match x with
 | .str y=>y.length≤sizeLine∧n=y.length
 | .byt y=>y.size≤sizeLine∧n=y.size
 | .ref p=>(∃ xs,SqL K H p xs∧n=xs.length)∨∃ xs,SqT K H p xs∧n=xs.length
 | _=>False
theorem bI:gL X (.builtin "len") (fun xs H Q=>∃ x n,xs=[x]∧aGE X.K x H n∧Q (.int n) H):=by
 intro pins s σ H xs us Q I r h
 obtain ⟨x,n,rfl,e,q⟩:=h
 obtain ⟨u,rfl,rx⟩:=vals1 r
 have hl:=line63
 have hs:sizeLine=16777216:=sizeLine_eq
 cases x with
 | str y =>
  obtain ⟨t,rfl⟩:=rx
  obtain ⟨hy,e'⟩:y.length≤sizeLine∧n=y.length:=e
  subst e'
  exact len_str (by omega) ⟨.int _,H,I.tok _,⟨_,rfl⟩,q⟩
 | byt y =>
  obtain ⟨t,rfl⟩:=rx
  obtain ⟨hy,e'⟩:y.size≤sizeLine∧n=y.size:=e
  subst e'
  exact PySem.W.len_bytes (by omega) ⟨.int _,H,I.tok _,⟨_,rfl⟩,q⟩
 | ref p =>
  cases rx
  have e':(∃ xs,SqL X.K H p xs∧n=xs.length)∨∃ xs,SqT X.K H p xs∧n=xs.length:=e
  rcases e' with ⟨xs,hx,e'⟩ | ⟨xs,hx,e'⟩
  ·subst e'
   obtain ⟨its,r',pl,hz⟩:=I.list hx
   have hlen:=r'.length
   exact Calls.call_len_list pl.isList (by simp only [List.size_toArray]; omega) ⟨.int xs.length,H,I.tok _,⟨_,by simp only [List.size_toArray]; rw [hlen]⟩,q⟩
  ·subst e'
   obtain ⟨its,r',pl,hz⟩:=I.tuple hx
   have hlen:=r'.length
   exact len_tuple pl (by simp only [List.size_toArray]; omega) ⟨.int xs.length,H,I.tok _,⟨_,by simp only [List.size_toArray]; rw [hlen]⟩,q⟩
 | _=>exact (show False from e).elim
end
end L2
namespace L2
open PySem PySem.Spec PyProof.Rows
structure ObjM (h:Heap) (x dx C:Addr) (mA:Str→Option Value):Prop where
 obj:h.get? x=some (PySem.W.instObj C dx)
 ns:h.Ns1 dx mA
 ne:dx≠x
section
variable {prog:Program}{w:World}{A:Around}{E:Value→Shared→Prop}{s:Shared}{K:PySem.W.Frag}{x dx C f:Addr}{mA:Str→Option Value}{name:Str}{v:Value}
end
section
variable {P:Program}{w:World}{H H':Hp}{h h':Heap}{a C dx:Addr}{fs fs':List (Str × V)}
end
structure Cls (K:PySem.W.Frag) (C:Addr):Prop where
 pg:PySem.W.plainGet K C Str.empty=true
 hd:PySem.W.hasDictIn K C=true
 po:PySem.W.plainOver K C=true
 sa:PySem.W.findIn K (.ref C) "__setattr__" = some (some (.builtin "object.__setattr__"))
structure Con (K:PySem.W.Frag) (C:Addr) (f:Str) (v:V) (u:Value):Prop where
 at_:PySem.W.findIn K (.ref C) f=some (some u)
 rel:RelV v u
 get:PySem.W.specialIn K u "__get__" = some none
 cp:PySem.W.copiedNames.contains f=false
structure Meth (K:PySem.W.Frag) (C:Addr) (m:Str) (f:Addr):Prop where
 at_:PySem.W.findIn K (.ref C) m=some (some (.ref f))
 fn:PySem.W.isFn K (.ref f)=true
 kp:PySem.W.keepIn K (.ref f)=true
section
variable {X:Cx}{pins:List (Addr × Obj)}{σ:St}{H:Hp}{s:Shared}{a C dx:Addr}{fs:List (Str × V)}{f:Str}{v:V}{A:Around}{E:Value→Shared→Prop}
end
section
variable {X:Cx}{o e value:Expr}{f:Str}{pos pos' tpos:Pos}{ta tv:TE}
end
section
variable {X:Cx}{pins:List (Addr × Obj)}{σ:St}{H:Hp}{s:Shared}{A:Around}{E:Value→Shared→Prop}{Q:Value→Shared→Prop}{c:Value}{b:Bool}
inductive TyOf (K:PySem.W.Frag) (H:Hp):V→Value→Prop where
 | non:TyOf K H .non (.type "NoneType")
 | bl (x:Bool):TyOf K H (.bl x) (.type "bool")
 | int (i:Int):TyOf K H (.int i) (.type "int")
 | str (x:Str):TyOf K H (.str x) (.type "str")
 | flt (x:UInt64):TyOf K H (.flt x) (.type "float")
 | lst {a:Addr}{xs:List V} (e:H a=some (.lst xs)):TyOf K H (.ref a) (.type "list")
 | frz {a:Addr}{o:Obj}{xs:List V} (e:H a=some (.frz o (.lst xs))):TyOf K H (.ref a) (.type "list")
 | tup {a:Addr}{xs:List V} (e:H a=some (.tup xs)):TyOf K H (.ref a) (.type "tuple")
 | dK {a:Addr}{kvs:List (Key × V)} (e:H a=some (.dK kvs)):TyOf K H (.ref a) (.type "dict")
 | dT {a:Addr}{kvs:List (List Key × V)} (e:H a=some (.dT kvs)):TyOf K H (.ref a) (.type "dict")
 | ins {a C dx:Addr}{fs:List (Str × V)} (e:H a=some (.ins C dx fs)) (cl:Cls K C) (ha:PySem.W.findIn K (.ref C) "__class__" = some (some (.builtin "object.__class__")))
   (hn:PySem.W.specialIn K (.builtin "object.__class__") "__get__" = some (some (.builtin "getset_descriptor.__get__"))) (htk:PySem.W.takesIn K (.builtin "object.__class__")=some true)
   (hm:PySem.W.mroIn K C (.type "object")=some true):TyOf K H (.ref a) (.ref C)
end
end L2
namespace L2
open PySem PySem.Spec PyProof.Rows
structure Room (k:Nat) (A:Around):Prop where
 hd:A.handled=none
 dp:A.depth+3 * k+5 < recursionLimit
 un:A.units+16 * k+200 < cLine
 gd:A.guards=some []
theorem Room.mono {j k:Nat}{A:Around} (r:Room k A) (h:j≤k):Room j A:=⟨r.hd,by have:=r.dp; omega,by have:=r.un; omega,r.gd⟩
theorem Room.deeper {k:Nat}{A:Around} (r:Room (k+1) A) (env:Env):Room k (A.deeper env) :=
 ⟨r.hd,by have:=r.dp; show A.depth+1+3 * k+5 < _; omega,by have:=r.un; show A.units+3+16 * k+200 < _; omega,r.gd⟩
theorem Room.depth {k:Nat}{A:Around} (r:Room k A):A.depth < recursionLimit:=by have:=r.dp; omega
theorem Room.units {k:Nat}{A:Around} (r:Room k A):A.units+64 < cLine:=by have:=r.un; omega
def tNil:TA:=fun _ H Q=>Q [] H
def aNX (ta:TE) (tr:TA):TA:=fun σ H Q=>ta σ H fun x H1=>tr σ H1 fun xs H2=>Q (x::xs) H2
section
variable {X:Cx}{e:Expr}{es:List Expr}{te:TE}{t:TA}{pos:Pos}
theorem aER:PA X [] tNil:=fun _ _ _ _ H Q I h=>Calls.spliced_nil ⟨[],H,I, .nil,h⟩
theorem uC (ha:PE X e te) (hr:PA X es t) (hs:starEach (e::es) X.env=(false,eval e X.env)::starEach es X.env:=by rfl):PA X (e::es) (aNX te t):=by
 intro pos pins s σ H Q I h
 rw [hs]
 show wpAny _ _ (spliced ((false,eval e X.env)::backTo pos (starEach es X.env))) _ _ s
 refine Calls.spliced_cons (thn (ha pins s σ H _ I h) fun u s1 ⟨x,H1,I1,r1,q1⟩ => ?_)
 exact thn (hr pos pins s1 σ H1 _ I1 q1) fun us s2 ⟨xs,H2,I2,r2,q2⟩=>⟨x::xs,H2,I2, .cons r1 r2,q2⟩
def tTup (t:TA):TE:=fun σ H Q=>t σ H fun xs H1=>xs.length≤sizeLine∧∀ p,H1 p=none→Q (.ref p) (upd H1 p (.tup xs))
def tLst (t:TA):TE:=fun σ H Q=>t σ H fun xs H1=>xs.length≤sizeLine∧∀ p,H1 p=none→Q (.ref p) (upd H1 p (.lst xs))
theorem aLN {x1} (h:PA X es t):PE X (.Tuple es x1 pos) (tTup t):=by
 intro pins s σ H Q I hq
 refine wpAny_Tuple_spliced (thn (h pos pins s σ H _ I hq) fun us s1 ⟨xs,H1,I1,r,z,q⟩=>⟨by rw [← r.length]; exact z,?_⟩)
 have hf:H1 s1.heap.objs.size=none:=I1.hok.fresh (Nat.le_refl _)
 refine ⟨.ref s1.heap.objs.size,upd H1 s1.heap.objs.size (.tup xs),I1.laid (t':=s1.toks) (fun b u e=>Heap.get?_push_of_some _ e) (Nat.le_refl _) ?_,rfl,q _ hf⟩
 exact ⟨z,us,r,⟨_,Heap.get?_push_size _ rfl,rfl,_,rfl⟩⟩
theorem aDP (h:PA X es t):PE X (.List es pos) (tLst t):=by
 intro pins s σ H Q I hq
 refine wpAny_List_spliced (thn (h pos pins s σ H _ I hq) fun us s1 ⟨xs,H1,I1,r,z,q⟩=>⟨by rw [← r.length]; exact z,?_⟩)
 have hf:H1 s1.heap.objs.size=none:=I1.hok.fresh (Nat.le_refl _)
 refine ⟨.ref s1.heap.objs.size,upd H1 s1.heap.objs.size (.lst xs),I1.laid (t':=s1.toks) (fun b u e=>Heap.get?_push_of_some _ e) (Nat.le_refl _) ?_,rfl,q _ hf⟩
 exact ⟨z,us,0,r,Heap.get?_push_size _ rfl⟩
end
abbrev Sp:=List V→Hp→VK→XK→Prop
abbrev CXT:=List Env→Hp→Shared→XK→Value→Shared→Prop
structure Env0 (P:Program) (w:World) (K:PySem.W.Frag) (mg:Str→Option Value) (base:Heap) (A:Around) (outer:List Env) (s:Shared) (H:Hp):Prop where
 frames:A.frames=some outer
 mod:Mod K mg base
 bs:∀ b o,base.get? b=some o→s.heap.get? b=some o∧H b=none
 bsz:base.objs.size≤s.heap.objs.size
 funs:s.heap.FunFrames base outer
 frf:∀ b∈frs outer,H b=none
 hok:HOk P w H s.heap
 bare:AllBare s.gens
def CE (outer:List Env) (P:Program) (w:World) (H:Hp) (s:Shared) (Q:VK) (u:Value) (s':Shared):Prop :=
 ∃ v H',s'.os=s.os∧AllBare s'.gens∧Un (frs outer) [] H H' s.heap s'.heap∧HOk P w H' s'.heap∧RelV v u∧Q v H'
def CR (CX:CXT) (outer:List Env) (P:Program) (w:World) (H:Hp) (s:Shared) (Q:VK) (E:XK) (r:Result) (s':Shared):Prop :=
 match r with
 | .ok (.ret u)=>CE outer P w H s Q u s'
 | .ok _=>False
 | .error e=>CX outer H s E e s'
structure FnOk (P:Program) (w:World) (K:PySem.W.Frag) (mg:Str→Option Value) (base:Heap) (CX:CXT) (k:Nat) (f:Addr) (fd:FuncData) (ps:List Str) (sp:Sp):Prop where
 len:∀ vs H Q E,sp vs H Q E→vs.length=ps.length
 run:∀ (A:Around) (outer:List Env) (s:Shared) (H:Hp) (args:Args) (us:List Value) (vs:List V) (Q:VK) (E:XK),Room k A→Env0 P w K mg base A outer s H→BindsTo s fd args (ps.zip us)→Vals vs us→sp vs H Q E →
  codeAny (model P w) A (.call (.ref f) args) (CR CX outer P w H s Q E) s
section
variable {X:Cx}{pins:List (Addr × Obj)}{σ:St}{H:Hp}{s s':Shared}
theorem Inv.env0 (I:Inv X pins σ H s):Env0 X.prog X.w X.K X.mg X.base X.A X.stack s H :=
 ⟨I.ok.frames,I.ok.mod,I.bs,Nat.le_trans I.ok.bsz I.sz,I.stack,I.stkFree,I.hok,I.bare⟩
theorem Inv.after {Q:VK}{u:Value} (I:Inv X pins σ H s) (h:CE X.stack X.prog X.w H s Q u s'):EP X pins σ Q u s':=by
 obtain ⟨v,H',os,bare,un,hok,r,q⟩:=h
 obtain ⟨hh,g,d,t,os'⟩:=s'
 obtain rfl:os'=s.os:=os
 exact ⟨v,H',I.call (h':=hh) (g':=g) (d':=d) (t':=t) (ch:=[]) un hok bare (fun b z=>absurd z (by simp)),r,q⟩
end
def aM4 (sp:Sp) (dvs:List V) (E:XK) (t:TA):TE:=fun σ H Q=>t σ H fun vs H1=>sp (vs++dvs) H1 Q E
def Binds (K:PySem.W.Frag) (fd:FuncData) (ps:List Str) (ds:List Value):Prop :=
 ∀ (s:Shared) (us:List Value),K.In s.heap→(us++ds).length=ps.length→BindsTo s fd ⟨us,[]⟩ (ps.zip (us++ds))
theorem Binds.all {K:PySem.W.Frag}{fd:FuncData}{ps:List Str} (h:∀ us:List Value,us.length=ps.length→bindArgs fd ⟨us,[]⟩=pure (ps.zip us)):Binds K fd ps []:=fun s us _ hl=>by
 rw [List.append_nil] at hl ⊢
 exact .of_eq (h us hl)
def Passes (CX:CXT) (X:Cx) (E:XK):Prop:=∀ (pins:List (Addr × Obj)) (σ:St) (H:Hp) (s:Shared) (e:Value) (s':Shared),Inv X pins σ H s→CX X.stack H s E e s'→X.xe e s'
section
variable {X:Cx}{CX:CXT}{k:Nat}{f C:Addr}{fd:FuncData}{ps:List Str}{sp:Sp}{dvs:List V}{ds:List Value}{E:XK}{x m:Str}{p pos apos:Pos}{e o:Expr}{es:List Expr}{ta:TE}{t:TA}
theorem aL8 {pins:List (Addr × Obj)}{σ:St}{H:Hp}{s:Shared}{Q:VK}{us:List Value}{vs:List V} (F:FnOk X.prog X.w X.K X.mg X.base CX k f fd ps sp) (hr:Room k X.A) (hb:Binds X.K fd ps ds) (hd:Vals dvs ds) (hx:Passes CX X E)
  (I:Inv X pins σ H s) (r:Vals vs us) (h:sp (vs++dvs) H Q E):wpAny (model X.prog X.w) X.A (call (.ref f) us) (EP X pins σ Q) X.xe s:=by
 have r2:Vals (vs++dvs) (us++ds):=r.append hd
 have hl:(us++ds).length=ps.length:=by rw [← r2.length]; exact F.len _ _ _ _ h
 refine wpAny_call (codeAny_mono (F.run X.A X.stack s H ⟨us,[]⟩ (us++ds) (vs++dvs) Q E hr I.env0 (hb s us I.kIn hl) r2 h) fun r s' hq => ?_)
 cases r with
 | error e=>exact hx pins σ H s e s' I hq
 | ok fl =>
  cases fl with
  | ret u=>exact I.after hq
  | next=>exact False.elim hq
  | brk=>exact False.elim hq
  | cont=>exact False.elim hq
theorem aKE (F:FnOk X.prog X.w X.K X.mg X.base CX k f fd ps sp) (hr:Room k X.A) (hg:Gl X x) (hm:X.mg x=some (.ref f)) (hk:PySem.W.keepIn X.K (.ref f)=true) (hb:Binds X.K fd ps ds) (hd:Vals dvs ds) (hx:Passes CX X E)
  (ha:PA X (e::es) t) (hdb:(x == ("__debug__" : Str))=false:=by decide) (he:starEach (e::es) X.env=(false,eval e X.env)::starEach es X.env:=by rfl) (hpl:(backTo pos (starEach es X.env)).any (·.1)=false:=by rfl) :
  PE X (.Call (.Name x p) (e::es) [] pos) (aM4 sp dvs E t):=by
 intro pins s σ H Q I h
 refine wpAny_Call_Name_kw (aAL I hg hm ?_ hdb)
 refine PySem.W.callWith_K (h₀:=X.base) I.ok.mod.kin hk (thn (ha pos pins s σ H _ I h) fun us s1 ⟨vs,H1,I1,r,q⟩=>⟨I1.kIn,?_⟩) he hpl
 exact aL8 F hr hb hd hx I1 r q
structure Mk (K:PySem.W.Frag) (C f:Addr):Prop where
 makes:PySem.W.makesIn K C=true
 init:PySem.W.findIn K (.ref C) "__init__" = some (some (.ref f))
 fn:PySem.W.isFn K (.ref f)=true
 kp:PySem.W.keepIn K (.ref C)=true
end
section
variable {X:Cx}{CX:CXT}{k:Nat}{f C:Addr}{fd:FuncData}{ps ks:List Str}{sp:Sp}{E:XK}{x m:Str}{p pos apos kpos:Pos}{e o:Expr}{es:List Expr}{kws:List Keyword}{te ta:TE}{t tk:TA}{nm:Option Str}
structure KBinds (K:PySem.W.Frag) (fd:FuncData) (ps ks:List Str) (g:List Value→List Value→List Value) (gV:List V→List V→List V):Prop where
 to:∀ (s:Shared) (us ws:List Value),K.In s.heap→(g us ws).length=ps.length→BindsTo s fd ⟨us,ks.zip ws⟩ (ps.zip (g us ws))
 rel:∀ {vs:List V}{us:List Value}{zs:List V}{ws:List Value},Vals vs us→Vals zs ws→Vals (gV vs zs) (g us ws)
variable {g:List Value→List Value→List Value}{gV:List V→List V→List V}
end
structure FnScope (N P:List Str) (sc:Scope):Prop where
 kind:sc.kind = .function
 co:sc.isCoroutine=false
 gen:sc.isGenerator=false
 nd:N.Nodup
 pre:N.take P.length=P
 par:∀ x∈P,sc.names.lookup x=some .local∨sc.names.lookup x=some .cell
 nofree:∀ y∈sc.names,y.2 ≠ .free
theorem uS {kindOf:Str→Option NameKind}{x:Str}:∀ {binds:List (Str × Value)}{m:Str→Option Value},(∀ v,(x,v) ∉ binds)→bindL kindOf binds m x=m x
 | [],_,_=>rfl
 | (n,v)::r,m,h=>by
  unfold bindL
  rw [uS fun w hw=>h w (List.mem_cons_of_mem _ hw)]
  split
  ·have:x≠n:=by rintro rfl; exact h v List.mem_cons_self
   simp [this]
  ·rfl
theorem vN {kindOf:Str→Option NameKind}{x:Str}:∀ {binds:List (Str × Value)}{m:Str→Option Value},(∀ v,(x,v) ∉ binds)→bindC kindOf binds m x=m x
 | [],_,_=>rfl
 | (n,v)::r,m,h=>by
  unfold bindC
  rw [vN fun w hw=>h w (List.mem_cons_of_mem _ hw)]
  split
  ·rfl
  ·have:x≠n:=by rintro rfl; exact h v List.mem_cons_self
   simp [this]
theorem vL {kindOf:Str→Option NameKind}{x:Str}{v:Value}:∀ {P:List Str}{vs:List Value}{i:Nat}{m:Str→Option Value},P.Nodup→P[i]?=some x→vs[i]?=some v→kindOf x=some .local →
  bindL kindOf (P.zip vs) m x=some v
 | [],_,_,_,_,h,_,_=>by simp at h
 | _::_,[],_,_,_,_,h,_=>by simp at h
 | p::P,w::vs,0,m,nd,h1,h2,hk=>by
  simp at h1 h2; subst h1; subst h2
  show bindL kindOf ((p,w)::P.zip vs) m p=_
  unfold bindL
  rw [uS fun v hv=>(List.nodup_cons.mp nd).1 (List.of_mem_zip hv).1,if_pos hk]
  simp
 | p::P,w::vs,i+1,m,nd,h1,h2,hk=>by
  show bindL kindOf ((p,w)::P.zip vs) m x=_
  unfold bindL
  exact vL (i:=i) (List.nodup_cons.mp nd).2 (by simpa using h1) (by simpa using h2) hk
theorem uZ {kindOf:Str→Option NameKind}{x:Str}{v:Value}:∀ {P:List Str}{vs:List Value}{i:Nat}{m:Str→Option Value},P.Nodup→P[i]?=some x→vs[i]?=some v→kindOf x≠some .local →
  bindC kindOf (P.zip vs) m x=some v
 | [],_,_,_,_,h,_,_=>by simp at h
 | _::_,[],_,_,_,_,h,_=>by simp at h
 | p::P,w::vs,0,m,nd,h1,h2,hk=>by
  simp at h1 h2; subst h1; subst h2
  show bindC kindOf ((p,w)::P.zip vs) m p=_
  unfold bindC
  rw [vN fun v hv=>(List.nodup_cons.mp nd).1 (List.of_mem_zip hv).1,if_neg hk]
  simp
 | p::P,w::vs,i+1,m,nd,h1,h2,hk=>by
  show bindC kindOf ((p,w)::P.zip vs) m x=_
  unfold bindC
  exact uZ (i:=i) (List.nodup_cons.mp nd).2 (by simpa using h1) (by simpa using h2) hk
def start (N:List Str) (vs:List V):St:=vs.map some++List.replicate (N.length - vs.length) none
def rF (CX:CXT) (P:Program) (w:World) (K:PySem.W.Frag) (mg:Str→Option Value) (base:Heap) (N:List Str) (qual:Str) (scope:Scope) (f:Addr) (cd:Value) (A:Around) (outer:List Env) (s:Shared) (H:Hp) (E:XK):Cx where
 prog:=P
 w:=w
 K:=K
 mg:=mg
 base:=base
 A:=A.deeper (envOfC qual scope s.heap.objs.size f cd)
 N:=N
 s₀:=s
 H₀:=H
 env:=envOfC qual scope s.heap.objs.size f cd
 outer:=outer
 stack:=envOfC qual scope s.heap.objs.size f cd::outer
 ex:=[]
 calm:=true
 fn:=fun _=>true
 pn:=[]
 xe:=fun e s'=>wpAny (model P w) (A.deeper (envOfC qual scope s.heap.objs.size f cd)) (leaving (envOfC qual scope s.heap.objs.size f cd) e) (fun _ s''=>CX outer H s E e s'') (fun e' s''=>CX outer H s E e' s'') s'
theorem wK {sc:Scope}{n:Nat}{x:Str} (h:sc.names.lookup x=some .cell):∃ c,(cellsFrom n sc.names []).lookup x=some c:=by
 have q:=PySem.W.cellsFrom_some sc.names n [] (.inl h)
 exact Option.isSome_iff_exists.mp q
theorem aDD {CX:CXT}{P:Program}{w:World}{K:PySem.W.Frag}{mg:Str→Option Value}{base:Heap}{N ps:List Str}{qual:Str}{scope:Scope}{f:Addr}{cd:Value}{A:Around}{outer:List Env}{s s1:Shared}{H:Hp}{E:XK}{us:List Value}{vs:List V}
  (S:FnScope N ps scope) (hd:A.handled=none) (e0:Env0 P w K mg base A outer s H) (hl:vs.length=ps.length) (r:Vals vs us)
  (x:InCallC s s.heap.objs.size (bindL (envOfC qual scope s.heap.objs.size f cd).kindOf (ps.zip us) fun _=>none) (cellsFrom (s.heap.objs.size+1) scope.names []) (bindC (envOfC qual scope s.heap.objs.size f cd).kindOf (ps.zip us) fun _=>none) s1) :
  Inv (rF CX P w K mg base N qual scope f cd A outer s H E) [] (start N vs) H s1:=by
 have hpl:ps.length≤N.length:=by have:=congrArg List.length S.pre; rw [List.length_take] at this; omega
 obtain ⟨h1,tk,rfl,hk⟩:=x.done
 have noA:∀ b:Addr,b ∉ (rF CX P w K mg base N qual scope f cd A outer s H E).ex:=fun b z=>absurd (show b∈([]:List Addr) from z) (by simp)
 refine ⟨⟨e0.mod,S.kind,rfl,rfl,Nat.le_refl _,fun y z c h1 h2 => ?_,fun y hy => ?_,fun y c _ h => ?_,fun _=>hd,Around.frames_deeper e0.frames, .inr ⟨rfl,rfl⟩,fun b z=>absurd z (noA b),e0.bs,e0.bsz,fun b _ _=>noA b,fun b z=>absurd z (noA b),e0.funs,e0.frf⟩,
  rfl,e0.bare,Un.kept hk,⟨_,x.toInCall.ns,fun i y v h1 h2 h3 => ?_⟩,fun y c h=>⟨_,x.cell y c h⟩,e0.hok.fresh (Nat.le_refl _),fun y c h => ?_,fun p hp=>absurd (show p∈([]:List (Addr × Obj)) from hp) (by simp),e0.hok.kept hk,?_⟩
 ·exact name_of_addr x.apart (PySem.mem_of_lookup h1) (PySem.mem_of_lookup h2)
 ·have hy:scope.names.lookup y=some .cell∨scope.names.lookup y=some .free:=hy
  rcases hy with hy | hy
  ·exact wK hy
  ·exact absurd rfl (S.nofree _ (PySem.mem_of_lookup hy))
 ·exact Nat.le_of_lt (x.above y c (PySem.mem_of_lookup h))
 ·have hi:i < vs.length:=by
   unfold start at h2
   by_cases hi:i < vs.length
   ·exact hi
   ·rw [List.getElem?_append_right (by simpa using hi)] at h2
    rw [List.getElem?_replicate] at h2
    split at h2 <;> cases h2
  have ha:vs[i]?=some v:=by
   unfold start at h2
   rw [List.getElem?_append_left (by simpa using hi),List.getElem?_map] at h2
   cases e:vs[i]? with
   | none=>rw [e] at h2; cases h2
   | some a=>rw [e] at h2; cases h2; rfl
  obtain ⟨u,hu,rv⟩:=r.get ha
  have hp:ps[i]?=some y:=by
   rw [← S.pre,List.getElem?_take_of_lt (by omega)]; exact h1
  have ndP:ps.Nodup:=by rw [← S.pre]; exact S.nd.sublist (List.take_sublist _ _)
  refine ⟨u,rv,?_⟩
  rcases S.par y (List.mem_of_getElem? hp) with k | k
  ·exact .inl ⟨k,vL ndP hp hu k⟩
  ·obtain ⟨c,e⟩:=wK (n:=s.heap.objs.size+1) k
   refine .inr ⟨.inl k,c,e,?_⟩
   have q:=x.cell y c e
   rw [uZ ndP hp hu (by show scope.names.lookup y≠_; rw [k]; decide)] at q
   exact q
 ·exact e0.hok.fresh (Nat.le_of_lt (x.above y c (PySem.mem_of_lookup h)))
 ·unfold start
  show _=N.length
  rw [List.length_append,List.length_map,List.length_replicate]
  omega
theorem aNN {CX:CXT}{P:Program}{w:World}{K:PySem.W.Frag}{mg:Str→Option Value}{base:Heap}{k:Nat}{f:Addr}{name qual:Str}{params:Arguments}{body:List Stmt}{scope:Scope}{dV kV doc pm cdv ct oc:Value}{an od:Option Addr}
  {osl:Array (Option Value)}{N ps:List Str}{sp:Sp} (lk:K.lookup f=some ⟨oc,od, .func (PySem.W.fnOf name qual params body scope dV kV doc pm an cdv ct),osl⟩) (hcd:PySem.W.codeIn K cdv qual=true) (S:FnScope N ps scope)
  (len:∀ vs H Q E,sp vs H Q E→vs.length=ps.length)
  (hbody:∀ (A:Around) (outer:List Env) (s:Shared) (H:Hp) (vs:List V) (Q:VK) (E:XK),Room k (A.deeper (envOfC qual scope s.heap.objs.size f cdv))→sp vs H Q E →
   ∃ t,PSs (rF CX P w K mg base N qual scope f cdv A outer s H E) body t∧t { nx:=fun _ H'=>Q .non H',rt:=Q } (start N vs) H) :
  FnOk P w K mg base CX (k+1) f (PySem.W.fnOf name qual params body scope dV kV doc pm an cdv ct) ps sp:=by
 refine ⟨len,fun A outer s H args us vs Q E hr e0 hb r hsp => ?_⟩
 have hl:=len _ _ _ _ hsp
 have KX:K.In s.heap:=e0.mod.kin.keeps fun b o e=>(e0.bs b o e).1
 have lim:s.heap.NoLimit:=e0.mod.nolimit.keeps fun b o e=>(e0.bs b o e).1
 have hkind:∀ y∈ps.zip us,scope.names.lookup y.1=some .local∨(scope.names.lookup y.1=some .cell∧((cellsFrom (s.heap.objs.size+1) scope.names []).lookup y.1).isSome=true):=fun ⟨n,v⟩ hy=>by
  rcases S.par n (List.of_mem_zip hy).1 with q | q
  ·exact .inl q
  ·exact .inr ⟨q,PySem.W.cellsFrom_some _ _ _ (.inl q)⟩
 refine codeAny_call_function hr.depth (KX _ _ lk) rfl S.co S.gen rfl (PySem.W.codeRec_of KX hcd) (hb _ _ _ _ ?_)
 refine wpAny_newFunctionEnv_cells S.kind hkind fun env he s1 x => ?_
 subst he
 refine ⟨lim.keeps x.toInCall.keep,codeAny_func ?_⟩
 obtain ⟨t,ht,hq⟩:=hbody A outer s H vs Q E (hr.deeper _) hsp
 have I:Inv (rF CX P w K mg base N qual scope f cdv A outer s H E) [] (start N vs) H s1:=aDD S hr.hd e0 hl r x
 refine wpAny_mono (ht [] s1 (start N vs) H _ I hq) (fun fl s' hs => ?_) fun e s' hs=>hs
 have fin:∀ {σ':St}{H':Hp}{v:V}{u:Value},Inv (rF CX P w K mg base N qual scope f cdv A outer s H E) [] σ' H' s'→RelV v u→Q v H'→CE outer P w H s Q u s' :=
  fun {σ' H' v u} J rv q=>⟨v,H',J.os,J.bare,J.base,J.hok,rv,q⟩
 cases fl with
 | ret u =>
  obtain ⟨v,σ',H',J,rv,q⟩:=hs
  exact fin J rv q
 | next =>
  obtain ⟨σ',H',J,q⟩:=hs
  exact fin (v:=V.non) (u:=Value.none) J rfl q
 | brk =>
  obtain ⟨_,_,_,q⟩:=hs
  exact False.elim q
 | cont =>
  obtain ⟨_,_,_,q⟩:=hs
  exact False.elim q
end L2
namespace L2
open PySem PySem.Spec PyProof.Rows
section
variable {X:Cx}{x:Str}{p pos:Pos}{e:Expr}{es:List Expr}{t:TA}{id T:String}{r:List V→Hp→VK→Prop}
def tCB (r:List V→Hp→VK→Prop) (t:TA):TE:=fun σ H Q=>t σ H fun vs H1=>r vs H1 Q
theorem wI (hc:gL X (.builtin id) r) (hg:Gl X x) (hm:X.mg x=none) (hv:bootBuiltins x=some (.builtin id)) (ha:PA X (e::es) t) (hn:x ≠ "__name__" := by decide) (hdb:(x == ("__debug__" : Str))=false:=by decide)
  (he:starEach (e::es) X.env=(false,eval e X.env)::starEach es X.env:=by rfl) (hpl:(backTo pos (starEach es X.env)).any (·.1)=false:=by rfl):PE X (.Call (.Name x p) (e::es) [] pos) (tCB r t):=by
 intro pins s σ H Q I h
 refine wpAny_Call_Name_kw (iB I hg hm hv ?_ hn hdb)
 exact PyProof.Rows.callWith_builtin1 (thn (ha pos pins s σ H _ I h) fun us s1 ⟨vs,H1,I1,r1,q1⟩=>hc pins s1 σ H1 vs us Q I1 r1 q1) he hpl
theorem aD5 (hc:gL X (.type T) r) (hg:Gl X x) (hm:X.mg x=none) (hv:bootBuiltins x=some (.type T)) (ha:PA X (e::es) t) (hn:x ≠ "__name__" := by decide) (hdb:(x == ("__debug__" : Str))=false:=by decide)
  (he:starEach (e::es) X.env=(false,eval e X.env)::starEach es X.env:=by rfl) (hpl:(backTo pos (starEach es X.env)).any (·.1)=false:=by rfl):PE X (.Call (.Name x p) (e::es) [] pos) (tCB r t):=by
 intro pins s σ H Q I h
 refine wpAny_Call_Name_kw (iB I hg hm hv ?_ hn hdb)
 exact PyProof.Rows.callWith_type1 (thn (ha pos pins s σ H _ I h) fun us s1 ⟨vs,H1,I1,r1,q1⟩=>hc pins s1 σ H1 vs us Q I1 r1 q1) he hpl
end
end L2
namespace HT
open PySem PyProof.Rows
section
open PySem.SeqAt
open PySem.AutoSeq1 (wpAny_loadPart')
open PySem.MeetsSeq PySem.MeetsSeq2 PySem.MeetsSeq3
end
section
variable {prog:Program}{w:World}{A:Around}{E:Value→Shared→Prop}{s:Shared}
theorem aIE {t b:Addr}{vs ws:List Value}{Q:Value→Shared→Prop} (ht:IsTup s.heap t vs.toArray) (hb:IsTup s.heap b ws.toArray) (hv:vs≠[])
  (h1:ws=[]→Q (.ref t) s) (h2:ws≠[]→Q (.ref s.heap.objs.size) { s with heap:=s.heap.push { cls := .type "tuple", data := .seq (vs++ws).toArray } })
  (hsz:vs.length+ws.length≤sizeLine):wpAny (model prog w) A (binaryOp .Add (.ref t) (.ref b)) Q E s:=by
 obtain ⟨⟨cls,dd,data,sl⟩,ho,hc,n,hd⟩:=id ht
 obtain ⟨⟨cls2,dd2,data2,sl2⟩,ho2,hc2,n2,hd2⟩:=id hb
 simp only at hc hd hc2 hd2
 subst hc hd hc2 hd2
 have e:vs.toArray++ws.toArray=(vs++ws).toArray:=by simp
 by_cases hw:ws=[]
 ·exact concat_meets ⟨_,ho,rfl⟩ ⟨_,ho2,rfl⟩ noFill_tuple_add seq_tuple_add PySem.F.slot_tuple_add PySem.F.entry_tuple_add (PySem.F.args_tuple_add_2 _ _)
   (tuple_addW1 t b vs.toArray ws.toArray n n2 dd dd2 sl sl2 (by simpa using hv) (by simp [hw])) ⟨ho,ho2,h1 hw⟩
 ·refine concat_meets ⟨_,ho,rfl⟩ ⟨_,ho2,rfl⟩ noFill_tuple_add seq_tuple_add PySem.F.slot_tuple_add PySem.F.entry_tuple_add (PySem.F.args_tuple_add_2 _ _)
   (tuple_addW2 t b vs.toArray ws.toArray n n2 dd dd2 sl sl2 (by simpa using hv) (by simpa using hw) (by rw [List.size_toArray,List.size_toArray]; exact hsz)) ⟨ho,ho2,?_⟩
  rw [e]
  exact h2 hw
def sIx (n d:Nat):Option Int→Nat
 | none=>d
 | some v=>if v < 0 then (v+(n:Int)).toNat else min v.toNat n
theorem aGR (n d:Nat):sIx n d none=d:=rfl
theorem t9 (n d k:Nat):sIx n d (some (k:Int))=min k n:=by
 show (if (k:Int) < 0 then ((k:Int)+(n:Int)).toNat else min (k:Int).toNat n)=min k n
 rw [if_neg (by omega),Int.toNat_natCast]
theorem aD3 (n d:Nat) (hd:d≤n) (o:Option Int):sIx n d o≤n:=by
 cases o with
 | none=>exact hd
 | some v =>
  show (if v < 0 then (v+(n:Int)).toNat else min v.toNat n)≤n
  by_cases hv:v < 0
  ·rw [if_pos hv]; omega
  ·rw [if_neg hv]; exact Nat.min_le_right _ _
theorem zT (v:Int) (n d:Nat):(if v < 0 then max (v+(n:Int)) 0 else min v (n:Int))=((sIx n d (some v):Nat):Int):=by
 show (if v < 0 then max (v+(n:Int)) 0 else min v (n:Int))=(((if v < 0 then (v+(n:Int)).toNat else min v.toNat n):Nat):Int)
 by_cases hv:v < 0
 ·simp only [if_pos hv]; omega
 ·simp only [if_neg hv]; omega
theorem aB9 (lo hi:Option Int) (n:Nat):Builtin.Slice.sliceAdjust lo hi 1 (n:Int)=(((sIx n 0 lo:Nat):Int),((sIx n n hi:Nat):Int)):=by
 have h1:¬ ((1:Int) < 0):=by omega
 unfold Builtin.Slice.sliceAdjust
 simp only [h1,if_false]
 refine Prod.ext ?_ ?_
 ·cases lo with
  | none=>rfl
  | some v=>exact zT v n 0
 ·cases hi with
  | none=>rfl
  | some v=>exact zT v n n
theorem aBU (i j:Nat):Builtin.Slice.slicePlaces (i:Int) (j:Int) 1=j - i:=by
 unfold Builtin.Slice.slicePlaces
 have h1:(1:Int) > 0:=by omega
 simp only [h1,if_true,Int.ediv_one]
 split <;> omega
theorem tH {v:Value}{o:Option Int}{Q:Option Int→Shared→Prop} (p:IsPart v o) (h:Q o s):wpAny (model prog w) A (Builtin.Slice.slicePartIndex v) Q E s:=by
 cases p with
 | none=>exact slicePart_none h
 | int i t=>exact slicePart_int h
theorem lE {sl:Addr}{vl vu:Value}{lo hi:Option Int}{n:Nat}{Q:Int × Int × Nat→Shared→Prop} (hs:s.heap.IsSliceOf sl vl vu .none) (pl:IsPart vl lo) (pu:IsPart vu hi)
  (h:Q (((sIx n 0 lo:Nat):Int),1,sIx n n hi - sIx n 0 lo) s):wpAny (model prog w) A (Builtin.Slice.sliceApplied (.ref sl) (pure (n:Int))) Q E s:=by
 obtain ⟨os,hos,hcs,hds⟩:=id hs
 unfold Builtin.Slice.sliceApplied Builtin.Slice.sliceFields
 refine wpAny_bind (wpAny_bind (wpAny_field hos hds (x:=vl) rfl (wpAny_bind (wpAny_field hos hds (x:=vu) rfl (wpAny_bind (wpAny_field hos hds (x := .none) rfl (wpAny_pure ?_)))))))
 refine wpAny_bind (slicePart_none ?_)
 show wpAny _ _ (if ((1:Int) == 0)=true then _ else _) _ _ s
 rw [if_neg (by decide)]
 refine wpAny_bind (tH pl (wpAny_bind (tH pu (wpAny_bind (wpAny_pure ?_)))))
 show wpAny _ _ (match Builtin.Slice.sliceAdjust lo hi 1 (n:Int) with | (lo,hi)=>pure (lo,(1:Int),Builtin.Slice.slicePlaces lo hi 1)) _ _ s
 rw [aB9 lo hi n]
 show wpAny _ _ (pure (((sIx n 0 lo:Nat):Int),(1:Int),Builtin.Slice.slicePlaces ((sIx n 0 lo:Nat):Int) ((sIx n n hi:Nat):Int) 1)) _ _ s
 rw [aBU]
 exact wpAny_pure h
theorem aFP (xs:Array Value) (i k:Nat):((List.range k).filterMap fun (m:Nat)=>xs[((i:Int)+(m:Int) * 1).toNat]?).toArray=((xs.toList.drop i).take k).toArray:=by
 have e:(fun (m:Nat)=>xs[((i:Int)+(m:Int) * 1).toNat]?)=fun m=>xs[i+m]?:=by
  funext m
  have:((i:Int)+(m:Int) * 1).toNat=i+m:=by omega
  rw [this]
 rw [e]
 have:=pick_run xs i k
 rw [List.filterMap_map] at this
 have e2:((fun x=>xs[x]?) ∘ fun x=>i+x)=fun m=>xs[i+m]?:=rfl
 rw [e2] at this
 rw [this]
theorem qQ {t sl:Addr}{items:Array Value}{vl vu:Value}{lo hi:Option Int}{Q:Value→Shared→Prop} (ht:IsTup s.heap t items) (hs:s.heap.IsSliceOf sl vl vu .none) (pl:IsPart vl lo) (pu:IsPart vu hi)
  (hw:¬ (sIx items.size 0 lo=0∧sIx items.size items.size hi=items.size))
  (h:Q (.ref s.heap.objs.size) { s with heap:=s.heap.push { cls := .type "tuple", data := .seq ((items.toList.drop (sIx items.size 0 lo)).take (sIx items.size items.size hi - sIx items.size 0 lo)).toArray } })
  (hsz:items.size≤sizeLine):wpAny (model prog w) A (getItem (.ref t) (.ref sl)) Q E s:=by
 have htake:sizeOk (.seq ((items.toList.drop (sIx items.size 0 lo)).take (sIx items.size items.size hi - sIx items.size 0 lo)).toArray):=by
  show ((items.toList.drop (sIx items.size 0 lo)).take (sIx items.size items.size hi - sIx items.size 0 lo)).toArray.size≤sizeLine
  rw [List.size_toArray,List.length_take,List.length_drop,Array.length_toList]
  omega
 have hj:sIx items.size items.size hi≤items.size:=aD3 _ _ (Nat.le_refl _) hi
 obtain ⟨os,hos,hcs,hds⟩:=id hs
 have hTs:s.TypeIs (.ref sl) "slice" := ⟨os,hos,hcs⟩
 unfold getItem
 try with_reducible refine wpAny_holding ?_
 first | refine wpAny_bind (wpAny_pure ?_) | skip
 refine wpAny_bind (wpAny_sequenceKey ht.typeIs (by decide) ?_)
 refine wpAny_bind (wpAny_callSpecial?_slot (name:=Str.ofString "__getitem__") ht.typeIs PyProof.Rows.slot_tuple_getitem
  (wpAny_call_entry PyProof.Rows.slot_tuple_getitem ht.typeIs entry_tuple_getitem ?_ (args_tuple_getitem _ _)))
 show wpAny _ _ (Builtin.Tuple.tupleItemsOf (.ref t) >>= _) _ _ s
 refine wpAny_bind (tupleItemsOf_ ht ?_)
 refine wpAny_bind (wpAny_typeOf hTs ?_)
 rw [if_pos (by decide)]
 refine wpAny_bind (lE hs pl pu ?_)
 have hno:¬ ((((sIx items.size 0 lo:Nat):Int) == 0 && (1:Int) == 1 && (sIx items.size items.size hi - sIx items.size 0 lo) == items.size)=true):=by
  intro q
  rw [Bool.and_eq_true,Bool.and_eq_true] at q
  have q1:((sIx items.size 0 lo:Nat):Int)=0:=eq_of_beq q.1.1
  have q2:sIx items.size items.size hi - sIx items.size 0 lo=items.size:=eq_of_beq q.2
  exact hw ⟨by omega,by omega⟩
 show wpAny _ _ (if (((sIx items.size 0 lo:Nat):Int) == 0 && (1:Int) == 1 && (sIx items.size items.size hi - sIx items.size 0 lo) == items.size)=true then _ else _) _ _ s
 rw [if_neg hno,aFP]
 first
  | exact wpAny_bind (m:=Builtin.Tuple.tupleExact _) (wpAny_newObj_type (wpAny_pure ⟨_,rfl,wpAny_pure h⟩) htake)
  | exact wpAny_bind (m:=Builtin.Tuple.tupleExact _) (wpAny_newObj_type (wpAny_bind (wpAny_pure (wpAny_pure ⟨_,rfl,wpAny_pure h⟩))) htake)
  | exact wpAny_bind (wpAny_bind (m:=Builtin.Tuple.tupleExact _) (wpAny_newObj_type (wpAny_pure (wpAny_pure ⟨_,rfl,wpAny_pure h⟩)) htake))
  | exact wpAny_bind (wpAny_bind (m:=Builtin.Tuple.tupleExact _) (wpAny_newObj_type (wpAny_pure ⟨_,rfl,wpAny_pure h⟩) htake))
end
end HT
namespace L2
open PySem PySem.Spec PyProof.Rows
abbrev TO:=St→Hp→(Option Int→Hp→Prop)→Prop
def PO (X:Cx) (e:Option Expr) (t:TO):Prop :=
 ∀ (pins:List (Addr × Obj)) (s:Shared) (σ:St) (H:Hp) (Q:Option Int→Hp→Prop),Inv X pins σ H s→t σ H Q →
  wpAny (model X.prog X.w) X.A (evalPart e X.env) (fun u s'=>∃ o H',Inv X pins σ H' s'∧IsPart u o∧Q o H') X.xe s
def aKU:TO:=fun _ H Q=>Q none H
def aNJ (t:TE):TO:=fun σ H Q=>t σ H fun x H1=>∃ i,x = .int i∧Q (some i) H1
section
variable {X:Cx}{e:Expr}{te:TE}{lo hi:Option Expr}{tl th:TO}{pos p2:Pos}
theorem aH8:PO X none aKU:=by
 intro pins s σ H Q I h
 rw [evalPart_none]
 exact wpAny_pure ⟨none,H,I, .none,h⟩
theorem aJM (h:PE X e te):PO X (some e) (aNJ te):=by
 intro pins s σ H Q I hw
 rw [evalPart_some]
 refine thn (h pins s σ H _ I hw) fun u s1 ⟨x,H1,I1,r1,q1⟩ => ?_
 obtain ⟨i,rfl,q⟩:=q1
 obtain ⟨t,rfl⟩:=r1
 exact ⟨some i,H1,I1, .int i t,q⟩
def SlR (X:Cx) (r:V→Option Int→Option Int→Hp→VK→Prop):Prop :=
 ∀ (pins:List (Addr × Obj)) (s:Shared) (σ:St) (H:Hp) (x:V) (v vl vu:Value) (lo hi:Option Int) (sl:Addr) (Q:VK),Inv X pins σ H s→RelV x v→s.heap.IsSliceOf sl vl vu .none→IsPart vl lo→IsPart vu hi→r x lo hi H Q →
  ∃ T id,typeLookup (.type T) "__getitem__" = pure (some (.builtin id))∧s.TypeIs v T∧wpAny (model X.prog X.w) X.A (getItem v (.ref sl)) (EP X pins σ Q) X.xe s
def tSl (r:V→Option Int→Option Int→Hp→VK→Prop) (te:TE) (tl th:TO):TE:=fun σ H Q=>te σ H fun x H1=>tl σ H1 fun l H2=>th σ H2 fun u H3=>r x l u H3 Q
theorem aGJ {r:V→Option Int→Option Int→Hp→VK→Prop} (hr:SlR X r) (he:PE X e te) (hl:PO X lo tl) (hu:PO X hi th):PE X (.Subscript e (.Slice lo hi none p2) pos) (tSl r te tl th):=by
 intro pins s σ H Q I h
 refine Subscript_ (thn (he pins s σ H _ I h) fun v s1 ⟨x,H1,I1,r1,q1⟩ => ?_)
 refine wpAny_Slice (thn (hl pins s1 σ H1 _ I1 q1) fun vl s2 ⟨l,H2,I2,pl,q2⟩=>thn (hu pins s2 σ H2 _ I2 q2) fun vu s3 ⟨u,H3,I3,pu,q3⟩ => ?_)
 rw [evalPart_none]
 refine wpAny_pure ?_
 have I4:Inv X pins σ H3 { s3 with heap:=s3.heap.push { cls := .type "slice", data := .fields #[vl,vu, .none] } }:=I3.kept (t':=s3.toks) fun b ob q=>Heap.get?_push_of_some _ q
 obtain ⟨T,id,hT,ht,hg⟩:=hr pins { s3 with heap:=s3.heap.push { cls := .type "slice", data := .fields #[vl,vu, .none] } } σ H3 x v vl vu l u s3.heap.objs.size Q I4 r1 (Heap.IsSliceOf.new ..) pl pu q3
 show wpAny (model X.prog X.w) X.A (subscriptTail e (.Slice lo hi none p2) v (.ref s3.heap.objs.size)) (EP X pins σ Q) X.xe { s3 with heap:=s3.heap.push { cls := .type "slice", data := .fields #[vl,vu, .none] } }
 exact tail_any (ops:=[.ref s3.heap.objs.size,v]) ht hT hg (by with_unfolding_all rfl)
def lR (xs:List V) (lo hi:Option Int):List V:=(xs.drop (HT.sIx xs.length 0 lo)).take (HT.sIx xs.length xs.length hi - HT.sIx xs.length 0 lo)
theorem rB (xs:List V) (lo hi:Option Int):(lR xs lo hi).length≤xs.length:=by
 unfold lR
 rw [List.length_take,List.length_drop]
 omega
def rSlT (K:PySem.W.Frag):V→Option Int→Option Int→Hp→VK→Prop:=fun x lo hi H Q=>∃ a xs,x = .ref a∧SqT K H a xs ∧
 ¬ (HT.sIx xs.length 0 lo=0∧HT.sIx xs.length xs.length hi=xs.length)∧∀ p,H p=none→Q (.ref p) (upd H p (.tup (lR xs lo hi)))
theorem aMZ:SlR X (rSlT X.K):=by
 intro pins s σ H x v vl vu lo hi sl Q I rx hs pl pu h
 obtain ⟨a,xs,rfl,hx,hw,q⟩:=h
 cases rx
 obtain ⟨its,r,ht,hz⟩:=I.tuple hx
 have hlen:its.toArray.size=xs.length:=by rw [List.size_toArray]; exact r.length.symm
 refine ⟨"tuple", _,PyProof.Rows.slot_tuple_getitem.lookup,ht.typeIs,?_⟩
 refine HT.qQ ht hs pl pu (by rw [hlen]; exact hw) ?_ (by rw [hlen]; exact hz)
 rw [hlen]
 refine ⟨.ref s.heap.objs.size,_,I.laid (t':=s.toks) (o := .tup (lR xs lo hi)) (fun b ob q=>Heap.get?_push_of_some _ q) (Nat.le_refl _) ?_,rfl,q _ (I.hok.fresh (Nat.le_refl _))⟩
 exact ⟨Nat.le_trans (rB xs lo hi) hz,_,(r.drop (HT.sIx xs.length 0 lo)).take (HT.sIx xs.length xs.length hi - HT.sIx xs.length 0 lo),IsTup.new _ _⟩
def aNH (K:PySem.W.Frag):R2:=fun x y H Q=>∃ a b xs ys,x = .ref a∧y = .ref b∧SqT K H a xs∧SqT K H b ys∧xs≠[]∧xs.length+ys.length≤sizeLine ∧
 (ys=[]→Q (.ref a) H)∧(ys≠[]→∀ p,H p=none→Q (.ref p) (upd H p (.tup (xs++ys))))
theorem Vals.nil_iff {xs:List V}{us:List Value} (r:Vals xs us):us=[]↔xs=[]:=by
 cases r with
 | nil=>simp
 | cons _ _=>simp
theorem aIR:OpR X (binaryOp .Add) (aNH X.K):=by
 intro pins s σ H x y v u Q I rx ry h
 obtain ⟨a,b,xs,ys,rfl,rfl,ha,hb,hx,hz,q1,q2⟩:=h
 cases rx
 cases ry
 obtain ⟨its,r1,p1,_⟩:=I.tuple ha
 obtain ⟨its2,r2,p2,_⟩:=I.tuple hb
 refine HT.aIE p1 p2 (fun z=>hx (r1.nil_iff.mp z)) (fun z=>⟨.ref a,H,I,rfl,q1 (r2.nil_iff.mp z)⟩) (fun z => ?_) (by rw [← r1.length,← r2.length]; exact hz)
 refine ⟨.ref s.heap.objs.size,_,I.laid (t':=s.toks) (o := .tup (xs++ys)) (fun b ob q=>Heap.get?_push_of_some _ q) (Nat.le_refl _) ?_,rfl,q2 (fun w=>z (r2.nil_iff.mpr w)) _ (I.hok.fresh (Nat.le_refl _))⟩
 exact ⟨by rw [List.length_append]; exact hz,_,r1.append r2,IsTup.new _ _⟩
end
end L2
namespace L2
open PySem PySem.Spec PyProof.Rows
def ixN (n:Nat) (i:Int):Option Nat:=if 0≤i then (if i < n then some i.toNat else none) else if -(n:Int)≤i then some (i+n).toNat else none
def atI {α:Type} (xs:List α) (i:Int):Option α:=(ixN xs.length i).bind fun j=>xs[j]?
theorem aA0 {n:Nat}{i:Int}{j:Nat} (h:ixN n i=some j):seqIndex? i n=some j∧j < n ∧ -(n:Int)≤i∧i < n:=by
 unfold ixN at h
 by_cases h0:0≤i
 ·rw [if_pos h0] at h
  by_cases h1:i < n
  ·rw [if_pos h1] at h
   have e:i.toNat=j:=Option.some.inj h
   exact ⟨by rw [seqIndex_of h0 h1,e],by omega,by omega,h1⟩
  ·rw [if_neg h1] at h; cases h
 ·rw [if_neg h0] at h
  by_cases h1 : -(n:Int)≤i
  ·rw [if_pos h1] at h
   have e:(i+n).toNat=j:=Option.some.inj h
   exact ⟨by rw [seqIndex_neg (by omega) h1,e],by omega,h1,by omega⟩
  ·rw [if_neg h1] at h; cases h
theorem tY {α:Type}{xs:List α}{i:Int}{v:α} (h:atI xs i=some v):∃ j,seqIndex? i xs.length=some j∧xs[j]?=some v∧j < xs.length ∧ -(xs.length:Int)≤i∧i < xs.length:=by
 unfold atI at h
 cases e:ixN xs.length i with
 | none=>rw [e] at h; cases h
 | some j =>
  rw [e] at h
  obtain ⟨h1,h2,h3,h4⟩:=aA0 e
  exact ⟨j,h1,h,h2,h3,h4⟩
theorem cW {α:Type}{xs:List α}{j:Nat}{v:α} (h:xs[j]?=some v):atI xs (j:Int)=some v:=by
 have hj:j < xs.length:=(List.getElem?_eq_some_iff.mp h).1
 have e:ixN xs.length (j:Int)=some j:=by
  unfold ixN
  rw [if_pos (by omega),if_pos (by omega)]; simp
 unfold atI; rw [e]; exact h
theorem rY {α:Type} (xs:List α) (v:α):atI (xs++[v]) (-1)=some v:=by
 have hl:(xs++[v]).length=xs.length+1:=by simp
 have e:ixN (xs++[v]).length (-1)=some xs.length:=by
  unfold ixN
  rw [hl,if_neg (by decide),if_pos (by omega)]
  congr 1
  omega
 unfold atI
 rw [e]
 show (xs++[v])[xs.length]?=some v
 simp
def aA7 (b:Expr):Prop:=∀ o i,subscripted b false o i=operate [o,i] (getItem o i)
def IxR (X:Cx) (r:R2):Prop :=
 ∀ (value slice:Expr) (pins:List (Addr × Obj)) (s:Shared) (σ:St) (H:Hp) (x y:V) (v u:Value) (Q:VK),Inv X pins σ H s→RelV x v→RelV y u→r x y H Q →
  subscripted slice false v u=operate [v,u] (getItem v u)→wpAny (model X.prog X.w) X.A (subscriptTail value slice v u) (EP X pins σ Q) X.xe s
def MtR (X:Cx) (id:String) (r:V→List V→Hp→VK→Prop):Prop :=
 ∀ (pins:List (Addr × Obj)) (s:Shared) (σ:St) (H:Hp) (x:V) (xs:List V) (v:Value) (us:List Value) (Q:VK),Inv X pins σ H s→RelV x v→Vals xs us→r x xs H Q →
  wpAny (model X.prog X.w) X.A (call (.builtin id) (v::us)) (EP X pins σ Q) X.xe s
section
variable {X:Cx}{a b:Expr}{ta tb:TE}{pos:Pos}
theorem IxR.or {r r':R2} (h:IxR X r) (h':IxR X r'):IxR X (fun x y H Q=>r x y H Q∨r' x y H Q):=by
 intro value slice pins s σ H x y v u Q I rx ry q hs
 rcases q with q | q
 ·exact h value slice pins s σ H x y v u Q I rx ry q hs
 ·exact h' value slice pins s σ H x y v u Q I rx ry q hs
theorem aNY {r:R2} (hr:IxR X r) (ha:PE X a ta) (hb:PE X b tb) (hs:aA7 b):PE X (.Subscript a b pos) (tOp r ta tb):=by
 intro pins s σ H Q I h
 exact Subscript_ (aF7 ha hb I h fun v u s2 x y H2 I2 rx ry q=>hr a b pins s2 σ H2 x y v u Q I2 rx ry q (hs _ _))
def rIxL (K:PySem.W.Frag):R2:=fun x y H Q=>∃ p xs i v,x = .ref p∧y = .int i∧SqL K H p xs∧atI xs i=some v∧Q v H
def rIxT (K:PySem.W.Frag):R2:=fun x y H Q=>∃ p xs i v,x = .ref p∧y = .int i∧SqT K H p xs∧atI xs i=some v∧Q v H
def rIxS:R2:=fun x y H Q=>∃ z i c,x = .str z∧y = .int i∧z.length≤sizeLine∧atI z.cps.toList i=some c∧Q (.str ⟨#[c]⟩) H
theorem aKM:IxR X (rIxL X.K):=by
 intro value slice pins s σ H x y v u Q I rx ry h hs
 obtain ⟨p,xs,i,z,rfl,rfl,hq,he,q⟩:=h
 cases rx
 obtain ⟨t,rfl⟩:=ry
 obtain ⟨its,r,pl,hz⟩:=I.list hq
 obtain ⟨j,h1,h2,h3,h4,h5⟩:=tY he
 obtain ⟨w,ew,rw'⟩:=r.get h2
 have hl:=r.length
 have hn:=line63
 have fin:EP X pins σ Q w s:=⟨z,H,I,rw',q⟩
 by_cases h0:0≤i
 ·have hj:i.toNat=j:=by
   rw [seqIndex_of h0 h5] at h1
   exact Option.some.inj h1
  exact item_listR pl.isList h0 (by omega) (by rw [hj]; simpa using ew) fin hs
 ·have hj:(i+(its.toArray.size:Int)).toNat=j:=by
   rw [seqIndex_neg (by omega) h4] at h1
   rw [List.size_toArray,← hl]
   exact Option.some.inj h1
  exact subscriptTail_builtinR (x:=w) pl.isList.typeIs slot_list_getitem.lookup
   (wpAny_getItem_list_neg (Q:=fun r s'=>r=w∧EP X pins σ Q r s') pl.isList (by omega) (by rw [List.size_toArray] <;> omega) (by omega) (by rw [hj]; simpa using ew) ⟨rfl,fin⟩) hs
theorem aLO:IxR X (rIxT X.K):=by
 intro value slice pins s σ H x y v u Q I rx ry h hs
 obtain ⟨p,xs,i,z,rfl,rfl,hq,he,q⟩:=h
 cases rx
 obtain ⟨t,rfl⟩:=ry
 obtain ⟨its,r,pl,hz⟩:=I.tuple hq
 obtain ⟨j,h1,h2,h3,h4,h5⟩:=tY he
 obtain ⟨w,ew,rw'⟩:=r.get h2
 have hl:=r.length
 have hn:=line63
 have fin:EP X pins σ Q w s:=⟨z,H,I,rw',q⟩
 exact subscriptTail_builtinR (x:=w) pl.typeIs slot_tuple_getitem.lookup
  (getItem_tuple (j:=j) (Q:=fun r s'=>r=w∧EP X pins σ Q r s') pl (by omega) (by omega) (by rw [List.size_toArray,← hl]; exact h1) (by simpa using ew) ⟨rfl,fin⟩) hs
theorem aLT:IxR X rIxS:=by
 intro value slice pins s σ H x y v u Q I rx ry h hs
 obtain ⟨z,i,c,rfl,rfl,hz,he,q⟩:=h
 obtain ⟨t,rfl⟩:=rx
 obtain ⟨t',rfl⟩:=ry
 obtain ⟨j,h1,h2,h3,h4,h5⟩:=tY he
 have hl:z.cps.toList.length=z.length:=by simp [Str.length]
 rw [hl] at h1 h4 h5
 have hn:=line63
 exact tail_any (typeIs_str s z t) slot_str_getitem.lookup (getItem_str (c:=c) (by
  have e1:decide (i < -(2 ^ 63:Int))=false:=decide_eq_false (by omega)
  have e2:decide (i≥2 ^ 63)=false:=decide_eq_false (by omega)
  rw [e1,e2,Bool.or_false]) (by rw [h1]; simpa using h2) ⟨.str ⟨#[c]⟩,H,I.tok _,⟨_,rfl⟩,q⟩) hs
def rIx (K:PySem.W.Frag):R2:=fun x y H Q=>rIxL K x y H Q∨rIxT K x y H Q∨rIxS x y H Q
theorem aF:IxR X (rIx X.K):=aKM.or (aLO.or aLT)
theorem aCB (its:List Value) (n j:Nat) (u:Value):Obj.mapSeq (·.setIfInBounds j u) { cls := .type "list", data := .seq its.toArray n }={ cls := .type "list", data := .seq (its.set j u).toArray n }:=by
 simp [Obj.mapSeq]
theorem Inv.lst {pins:List (Addr × Obj)}{σ:St}{H:Hp}{s:Shared}{p:Addr}{xs:List V} (I:Inv X pins σ H s) (h:H p=some (.lst xs)) :
  ∃ (its:List Value) (n:Nat),Vals xs its∧s.heap.get? p=some { cls := .type "list", data := .seq its.toArray n }∧xs.length≤sizeLine:=by
 obtain ⟨z,its,n,r,e⟩:=I.hok p _ h
 exact ⟨its,n,r,e,z⟩
theorem Inv.lstUpd {pins:List (Addr × Obj)}{σ:St}{H:Hp}{s:Shared}{p:Addr}{xs ys:List V}{its its':List Value}{n n':Nat}{f:Obj→Obj} (I:Inv X pins σ H s) (h:H p=some (.lst xs))
  (ho:s.heap.get? p=some { cls := .type "list", data := .seq its.toArray n }) (hf:f { cls := .type "list", data := .seq its.toArray n }={ cls := .type "list", data := .seq its'.toArray n' }) (r:Vals ys its') (hz:ys.length≤sizeLine) (t:Nat) :
  Inv X pins σ (upd H p (.lst ys)) { s with heap:=s.heap.update p f,toks:=t }:=by
 have e:(s.heap.update p f).get? p=some { cls := .type "list", data := .seq its'.toArray n' }:=by
  rw [Heap.get?_update_self f ho (by rw [hf] <;> rfl),hf]
 refine I.write (x:=p) (e:=p) (by rw [h]; trivial) (.inl rfl) (fun b u hb q=>(Heap.get?_update_other _ _ (Ne.symm hb)).trans q) ⟨_,e⟩ ?_
 exact ⟨hz,its',n',r,e⟩
def aN1:V→V→V→Hp→(Hp→Prop)→Prop:=fun o i v H Q=>∃ p xs k j,o = .ref p∧i = .int k∧H p=some (.lst xs)∧ixN xs.length k=some j∧Q (upd H p (.lst (xs.set j v)))
theorem set_list:PSet X aN1:=by
 intro pins s σ H o i v ov iv u Q I ro ri rv h
 obtain ⟨p,xs,k,j,rfl,rfl,hp,hj,q⟩:=h
 cases ro
 obtain ⟨t,rfl⟩:=ri
 obtain ⟨its,n,r,ho,hz⟩:=I.lst hp
 obtain ⟨h1,h2,h3,h4⟩:=aA0 hj
 have hl:=r.length
 have hn:=line63
 have I':Inv X pins σ (upd H p (.lst (xs.set j v))) { s with heap:=s.heap.update p (Obj.mapSeq (·.setIfInBounds j u)) } :=
  I.lstUpd hp ho (aCB its n j u) (r.set rv j) (by rw [List.length_set]; exact hz) s.toks
 by_cases h0:0≤k
 ·have hk:k.toNat=j:=by
   rw [seqIndex_of h0 h4] at h1
   exact Option.some.inj h1
  exact PySem.W.ki_setAt ho h0 (by omega) (by rw [List.size_toArray,← hl]; exact h4) (by rw [hk]; exact ⟨_,I',q⟩)
 ·have hk:(k+(its.toArray.size:Int)).toNat=j:=by
   rw [seqIndex_neg (by omega) h3] at h1
   rw [List.size_toArray,← hl]
   exact Option.some.inj h1
  exact PySem.W.ki_setBack ho (by omega) (by rw [List.size_toArray,← hl]; exact h3) (by omega) (by rw [hk]; exact ⟨_,I',q⟩)
theorem o8 (lo hi:Option Int) (n:Nat):(sliceBounds lo hi none n).1=((HT.sIx n 0 lo:Nat):Int)∧(sliceBounds lo hi none n).2.1=((HT.sIx n n hi:Nat):Int)∧(sliceBounds lo hi none n).2.2=1:=by
 refine ⟨?_,?_,rfl⟩
 ·cases lo with
  | none=>simp [sliceBounds,HT.sIx]
  | some i =>
   simp only [sliceBounds,HT.sIx,Option.getD_none,show (1:Int) > 0 by decide,if_true]
   by_cases h:i < 0
   ·simp only [h,if_true] <;> omega
   ·simp only [h,if_false] <;> omega
 ·cases hi with
  | none=>simp [sliceBounds,HT.sIx]
  | some i =>
   simp only [sliceBounds,HT.sIx,Option.getD_none,show (1:Int) > 0 by decide,if_true]
   by_cases h:i < 0
   ·simp only [h,if_true] <;> omega
   ·simp only [h,if_false] <;> omega
theorem vT (its:List Value) (lo hi:Option Int):slicePick its.toArray lo hi none=((its.drop (HT.sIx its.length 0 lo)).take (HT.sIx its.length its.length hi - HT.sIx its.length 0 lo)).toArray:=by
 obtain ⟨h1,h2,h3⟩:=o8 lo hi its.toArray.size
 unfold slicePick
 rw [h1,h2,h3]
 simp only [sliceRange_one,pick_run,List.size_toArray] <;> rfl
def rSlL (K:PySem.W.Frag):V→Option Int→Option Int→Hp→VK→Prop:=fun x lo hi H Q=>∃ a xs,x = .ref a∧SqL K H a xs∧∀ p,H p=none→Q (.ref p) (upd H p (.lst (lR xs lo hi)))
theorem i6:SlR X (rSlL X.K):=by
 intro pins s σ H x v vl vu lo hi sl Q I rx hs pl pu h
 obtain ⟨a,xs,rfl,hx,q⟩:=h
 cases rx
 obtain ⟨its,r,ht,hz⟩:=I.list hx
 have hlen:=r.length
 refine ⟨"list", _,slot_list_getitem.lookup,ht.isList.typeIs,?_⟩
 refine wpAny_getItem_list_slice ht.isList hs pl pu .none (by simp) ?_ (by rw [List.size_toArray] <;> omega)
 rw [vT,← hlen]
 refine ⟨.ref s.heap.objs.size,_,I.laid (t':=s.toks) (o := .lst (lR xs lo hi)) (fun b ob q=>Heap.get?_push_of_some _ q) (Nat.le_refl _) ?_,rfl,q _ (I.hok.fresh (Nat.le_refl _))⟩
 exact ⟨Nat.le_trans (rB xs lo hi) hz,_,0,(r.drop (HT.sIx xs.length 0 lo)).take (HT.sIx xs.length xs.length hi - HT.sIx xs.length 0 lo),Heap.get?_push_size _ rfl⟩
theorem dE:gL X (.type "list") (fun xs H Q=>∃ p ys,xs=[.ref p]∧(SqL X.K H p ys∨SqT X.K H p ys)∧∀ l,H l=none→Q (.ref l) (upd H l (.lst ys))):=by
 intro pins s σ H xs us Q I r h
 obtain ⟨p,ys,rfl,hq,q⟩:=h
 obtain ⟨u,rfl,rx⟩:=vals1 r
 cases rx
 have fin:∀ (its:List Value),Vals ys its→ys.length≤sizeLine→∀ (h':Heap) (c':Nat),(∀ b o',s.heap.get? b=some o'→h'.get? b=some o') →
   h'.get? s.heap.objs.size=some { cls := .type "list", dict:=none,data := .seq its.toArray c',slots := #[] }→EP X pins σ Q (.ref s.heap.objs.size) { s with heap:=h' }:=fun its r' hz h' c' kp e =>
  ⟨.ref s.heap.objs.size,_,I.laid (t':=s.toks) kp (Nat.le_refl _) (show fW X.prog X.w _ h' _ (.lst ys) from ⟨hz,its,c',r',e⟩),rfl,q _ (I.hok.fresh (Nat.le_refl _))⟩
 rcases hq with hq | hq
 ·obtain ⟨its,r',pl,hz⟩:=I.list hq
  have hlen:=r'.length
  obtain ⟨o,ho,hc,n,hd⟩:=pl.isList
  exact call_list_seq p (.inl rfl) ho hc hd (fun h' c' kp e=>fin its r' hz h' c' kp e) (by simp only [List.size_toArray] <;> omega)
 ·obtain ⟨its,r',pl,hz⟩:=I.tuple hq
  have hlen:=r'.length
  obtain ⟨o,ho,hc,n,hd⟩:=pl
  exact call_list_seq p (.inr rfl) ho hc hd (fun h' c' kp e=>fin its r' hz h' c' kp e) (by simp only [List.size_toArray] <;> omega)
theorem bN:gL X (.type "tuple") (fun xs H Q=>∃ p ys,xs=[.ref p]∧((SqL X.K H p ys∧∀ l,H l=none→Q (.ref l) (upd H l (.tup ys)))∨(SqT X.K H p ys∧Q (.ref p) H))):=by
 intro pins s σ H xs us Q I r h
 obtain ⟨p,ys,rfl,h⟩:=h
 obtain ⟨u,rfl,rx⟩:=vals1 r
 cases rx
 rcases h with ⟨hq,q⟩ | ⟨hq,q⟩
 ·obtain ⟨its,r',pl,hz⟩:=I.list hq
  have hlen:=r'.length
  refine call_tuple_list pl.isList (fun h' kp => ?_) (by simp only [List.size_toArray] <;> omega)
  have I1:Inv X pins σ H { s with heap:=h' }:=I.kept (t':=s.toks) kp
  have I2:Inv X pins σ (upd H h'.objs.size (.tup ys)) { s with heap:=h'.push { cls := .type "tuple", data := .seq its.toArray } } :=
   I1.laid (t':=s.toks) (fun b o e=>Heap.get?_push_of_some _ e) (Nat.le_refl _) (show fW X.prog X.w _ _ _ (.tup ys) from ⟨hz,its,r',IsTup.new _ _⟩)
  exact ⟨.ref h'.objs.size,_,I2,rfl,q _ (I1.hok.fresh (Nat.le_refl _))⟩
 ·obtain ⟨its,r',pl,hz⟩:=I.tuple hq
  exact call_tuple_same pl ⟨.ref p,H,I,rfl,q⟩
def tyV (K:PySem.W.Frag) (T:String) (x:V) (H:Hp):Prop:=match x with
 | .str _=>T = "str"
 | .int _=>T = "int"
 | .ref p=>(T = "list" ∧ ∃ xs,SqL K H p xs)∨(T = "tuple" ∧ ∃ o,K.lookup p=some o∧o.cls = .type "tuple" ∧ o.dict=none) ∨
   (T = "dict" ∧ ((∃ kvs,H p=some (.dK kvs))∨∃ kvs,H p=some (.dT kvs)))∨(T = "set" ∧ ∃ S n,H p=some (.set S n))
 | _=>False
theorem aD9 {pins:List (Addr × Obj)}{σ:St}{H:Hp}{s:Shared}{T:String}{x:V}{v:Value} (I:Inv X pins σ H s) (r:RelV x v) (ty:tyV X.K T x H) :
  s.TypeIs v T∧∀ a,v = .ref a→∃ ob,s.heap.get? a=some ob∧ob.dict=none:=by
 cases x with
 | str z =>
  obtain ⟨t,rfl⟩:=r
  cases (show T = "str" from ty)
  exact ⟨typeIs_str s z t,fun _ e=>nomatch e⟩
 | int i =>
  obtain ⟨t,rfl⟩:=r
  cases (show T = "int" from ty)
  exact ⟨typeIs_int s i t,fun _ e=>nomatch e⟩
 | ref p =>
  cases r
  rcases ty with ⟨rfl,xs,hq⟩ | ⟨rfl,o,hk,hc,hd⟩ | ⟨rfl,hk⟩ | ⟨rfl,S,n,hk⟩
  ·obtain ⟨its,_,pl,_⟩:=I.list hq
   refine ⟨pl.isList.typeIs,fun a e => ?_⟩
   cases e
   obtain ⟨o,n,e,c,hd,_⟩:=pl
   exact ⟨o,e,hd⟩
  ·refine ⟨⟨o,I.kIn p o hk,hc⟩,fun a e => ?_⟩
   cases e
   exact ⟨o,I.kIn _ o hk,hd⟩
  ·have z:∃ o,s.heap.get? p=some o∧o.ExactDict:=by
    rcases hk with ⟨kvs,hk⟩ | ⟨kvs,hk⟩
    ·obtain ⟨_,_,_,_,o,_,_,e,ex,_⟩:=I.hok p _ hk
     exact ⟨o,e,ex⟩
    ·obtain ⟨_,_,_,_,o,_,_,e,ex,_⟩:=I.hok p _ hk
     exact ⟨o,e,ex⟩
   obtain ⟨o,e,ex⟩:=z
   refine ⟨⟨o,e,ex.1⟩,fun a e2 => ?_⟩
   cases e2
   exact ⟨o,e,ex.2.1⟩
  ·obtain ⟨o,_,_,_,e,ex,_⟩:=I.hok p _ hk
   refine ⟨⟨o,e,ex.1⟩,fun a e2 => ?_⟩
   cases e2
   exact ⟨o,e,ex.2.1⟩
 | _=>exact False.elim ty
def tBM0 (K:PySem.W.Frag) (T:String) (r:V→List V→Hp→VK→Prop) (to:TE):TE:=fun σ H Q=>to σ H fun x H1=>tyV K T x H1∧r x [] H1 Q
def tBM (K:PySem.W.Frag) (T:String) (r:V→List V→Hp→VK→Prop) (to:TE) (t:TA):TE:=fun σ H Q=>to σ H fun x H1=>tyV K T x H1∧t σ H1 fun xs H2=>r x xs H2 Q
variable {o e:Expr}{es:List Expr}{to:TE}{t:TA}{name:Str}{apos cpos:Pos}{T id:String}{r:V→List V→Hp→VK→Prop}
theorem aMR (pa:PlainAttrs T) (slot:Slot T name id) (hty:typeOf (.builtin id)=pure (.type "method_descriptor")) (hm:MtR X id r) (ho:PE X o to)
  (hbase:attributeBase o name X.env (eval o X.env)=eval o X.env:=by rfl) (hline:(apos.endLine == cpos.line)=true:=by rfl):PE X (.Call (.Attribute o name apos) [] [] cpos) (tBM0 X.K T r to):=by
 intro pins s σ H Q I h
 refine wpAny_Call_method0_late hbase hline (thn (ho pins s σ H _ I h) fun v s1 ⟨x,H1,I1,r1,ty,q1⟩ => ?_)
 obtain ⟨h1,h2⟩:=aD9 I1 r1 ty
 exact ⟨T,id,pa,slot,hty,h1,h2,Calls.callWith_builtin rfl (PySem.evalArgs_none (hm pins s1 σ H1 x [] v [] Q I1 r1 .nil q1))⟩
theorem aNS (pa:PlainAttrs T) (slot:Slot T name id) (hty:typeOf (.builtin id)=pure (.type "method_descriptor")) (hm:MtR X id r) (ho:PE X o to) (ha:PA X (e::es) t)
  (hbase:attributeBase o name X.env (eval o X.env)=eval o X.env:=by rfl)
  (hfew:((backTo cpos (starEach (e::es) X.env)).all (fun x => !x.1) && (backToKw cpos (keywordEach [] X.env)).all (fun x=>x.1.isSome)
   && decide ((e::es).length+([]:List Keyword).length+(if ([]:List Keyword).isEmpty then 0 else 1) < 30))=true:=by rfl)
  (hline:(apos.endLine == cpos.line)=true:=by rfl) (hs:starEach (e::es) X.env=(false,eval e X.env)::starEach es X.env:=by rfl) (hplain:(backTo cpos (starEach es X.env)).any (·.1)=false:=by rfl) :
  PE X (.Call (.Attribute o name apos) (e::es) [] cpos) (tBM X.K T r to t):=by
 intro pins s σ H Q I h
 refine wpAny_Call_method_late hbase hfew hline rfl (thn (ho pins s σ H _ I h) fun v s1 ⟨x,H1,I1,r1,ty,q1⟩ => ?_)
 obtain ⟨h1,h2⟩:=aD9 I1 r1 ty
 refine ⟨T,id,pa,slot,hty,h1,h2,?_⟩
 have hA:=ha cpos pins s1 σ H1 _ I1 q1
 rw [hs] at hA ⊢
 refine Calls.callWith_builtin (by show (false || (backTo cpos (starEach es X.env)).any (·.1))=false; rw [hplain] <;> rfl) (Calls.evalArgs_plain ?_)
 exact thn hA fun us s2 ⟨vs,H2,I2,r2,q2⟩=>hm pins s2 σ H2 x vs v us Q I2 r1 r2 q2
/- xs.append(e),list.index on a module's tuple .. are MtR facts of 06m -/
end
end L2
namespace L2
open PySem PySem.Spec PyProof.Rows
def MtM (X:Cx) (id:String) (r:V→List V→Hp→VK→Prop):Prop :=
 ∀ (pins:List (Addr × Obj)) (s:Shared) (σ:St) (H:Hp) (x:V) (xs:List V) (v:Value) (us:List Value) (Q:VK),Inv X pins σ H s→RelV x v→Vals xs us→r x xs H Q →
  wpAny (model X.prog X.w) X.A (call (.builtin id) (v::us)) (EP X pins σ Q) X.xe s
theorem Vals.one:∀ {x:V}{us:List Value},Vals [x] us→∃ u,us=[u]∧RelV x u
 | _,_, .cons r .nil=>⟨_,rfl,r⟩
theorem Vals.zero:∀ {us:List Value},Vals [] us→us=[]
 | _, .nil=>rfl
theorem Vals.reverse {xs:List V}{us:List Value} (h:Vals xs us):Vals xs.reverse us.reverse:=by
 induction h with
 | nil=>exact .nil
 | cons r t ih=>rw [List.reverse_cons,List.reverse_cons]; exact Vals.append ih (.cons r .nil)
section
variable {X:Cx}{pins:List (Addr × Obj)}{σ:St}{H:Hp}{s:Shared}{l b:Addr}{xs ys zs:List V}
theorem Inv.lset {its its':List Value}{n:Nat}{f:Array Value→Array Value}{t':Nat} (I:Inv X pins σ H s) (hH:H l=some (.lst xs))
  (e:s.heap.get? l=some { cls := .type "list", data := .seq its.toArray n }) (hf:f its.toArray=its'.toArray) (hv:Vals ys its') (hz:ys.length≤sizeLine) :
  Inv X pins σ (upd H l (.lst ys)) { s with heap:=s.heap.update l (Obj.mapSeq f),toks:=t' }:=by
 have q:=PySem.IsL.update e f
 rw [hf] at q
 refine I.write (x:=l) (e:=l) (by rw [hH]; exact trivial) (.inl rfl) (fun b' u hb hu=>(Heap.get?_update_other s.heap (Obj.mapSeq f) (Ne.symm hb)).trans hu) ⟨_,q⟩ ?_
 exact ⟨hz,its',_,hv,q⟩
theorem Inv.lnew {its:List Value}{t':Nat} (I:Inv X pins σ H s) (hv:Vals ys its) (hz:ys.length≤sizeLine) :
  Inv X pins σ (upd H s.heap.objs.size (.lst ys)) { s with heap:=s.heap.push { cls := .type "list", data := .seq its.toArray },toks:=t' } :=
 I.laid (fun _ _ q=>Heap.get?_push_of_some _ q) (Nat.le_refl _) ⟨hz,its,0,hv,Heap.get?_push_size _ rfl⟩
theorem Inv.fresh (I:Inv X pins σ H s):H s.heap.objs.size=none:=I.hok.fresh (Nat.le_refl _)
theorem Inv.lstM (I:Inv X pins σ H s) (hH:H l=some (.lst xs)):xs.length≤sizeLine∧∃ (its:List Value) (n:Nat),Vals xs its∧xs.length=its.length∧s.heap.get? l=some { cls := .type "list", data := .seq its.toArray n }:=by
 obtain ⟨z,its,n,r,e⟩:=I.hok l _ hH
 exact ⟨z,its,n,r,r.length,e⟩
theorem aGI {n:Nat} (h:n≤sizeLine):Builtin.List.listTooLong n=false:=by
 unfold Builtin.List.listTooLong
 exact decide_eq_false (by omega)
end
section
variable {X:Cx}
def aAR:V→List V→Hp→VK→Prop:=fun x vs H Q=>∃ l xs y,x = .ref l∧vs=[y]∧H l=some (.lst xs)∧xs.length < sizeLine∧Q .non (upd H l (.lst (xs++[y])))
theorem fD:MtM X "list.append" aAR:=by
 intro pins s σ H x vs v us Q I rx rv h
 obtain ⟨l,xs,y,rfl,rfl,hH,hz,q⟩:=h
 cases rx
 obtain ⟨u,rfl,ru⟩:=rv.one
 obtain ⟨z,its,n,r,hl,e⟩:=I.lstM hH
 refine call_meets F.slot_list_append ⟨_,e,rfl⟩ F.entry_list_append (F.args_list_append_2 _ _) (PySem.list_append l its.toArray n u (by rw [List.size_toArray]; omega)) ⟨e,?_⟩
 refine ⟨.non,_,I.lset (its':=its++[u]) hH e (by simp) (r.append (.cons ru .nil)) ?_,rfl,q⟩
 rw [List.length_append,List.length_singleton]
 omega
def aCY:V→List V→Hp→VK→Prop:=fun x vs H Q=>∃ l xs,x = .ref l∧vs=[]∧H l=some (.lst xs)∧Q .non (upd H l (.lst []))
theorem aHO:MtM X "list.clear" aCY:=by
 intro pins s σ H x vs v us Q I rx rv h
 obtain ⟨l,xs,rfl,rfl,hH,q⟩:=h
 cases rx
 have hus:=rv.zero
 subst hus
 obtain ⟨z,its,n,r,hl,e⟩:=I.lstM hH
 refine call_meets F.slot_list_clear ⟨_,e,rfl⟩ F.entry_list_clear (F.args_list_clear_1 _) (AutoSeq1.list_clear_list_0 l its.toArray n (by rw [List.size_toArray]; omega)) ⟨e,?_⟩
 exact ⟨.non,_,I.lset (its':=[]) (ys:=[]) hH e rfl .nil (Nat.zero_le _),rfl,q⟩
def rCat:R2:=fun x y H Q=>∃ l b xs zs,x = .ref l∧y = .ref b∧H l=some (.lst xs)∧H b=some (.lst zs)∧xs.length+zs.length≤sizeLine∧∀ p,H p=none→Q (.ref p) (upd H p (.lst (xs++zs)))
theorem eO:OpR X (binaryOp .Add) rCat:=by
 intro pins s σ H x y v u Q I rx ry h
 obtain ⟨l,b,xs,zs,rfl,rfl,hH,hB,hz,q⟩:=h
 cases rx
 cases ry
 obtain ⟨z,its,n,r,hl,e⟩:=I.lstM hH
 obtain ⟨z2,its2,n2,r2,hl2,e2⟩:=I.lstM hB
 refine PySem.P.add_list e e2 ?_ (by rw [List.size_toArray,List.size_toArray]; omega)
 have ea:its.toArray++its2.toArray=(its++its2).toArray:=by simp
 rw [ea]
 exact ⟨.ref _,_,I.lnew (t':=s.toks) (r.append r2) (by rw [List.length_append]; omega),rfl,q _ I.fresh⟩
end
section
variable {prog:Program}{w:World}{A:Around}{E:Value→Shared→Prop}{s:Shared}
set_option maxRecDepth 100000 in
end
section
variable {X:Cx}
end
end L2
namespace Att
open PySem PySem.W PySem.Calls PyProof.Rows
theorem sR {P:Params}{h:Heap}:∀ (ns:List Int) (vs:List Value),WellAll P h vs (ns.map WData.int)→IntsAre vs ns:=by
 intro ns
 induction ns with
 | nil =>
  intro vs w
  rw [List.map_nil] at w
  cases w
  exact .nil
 | cons n ns ih =>
  intro vs w
  rw [List.map_cons] at w
  cases w with
  | cons a b =>
   cases a
   exact .cons _ _ (ih _ b)
theorem aE0 {l:OpenLaw}{n:Nat} (hn:l.most=some n) {P:Params}{h:Heap}{args:List WData}{vals:List Value}
  (hpre:l.row.toRowW.claim.pre args=true) (hwl:WellAll P h vals args) :
  ∃ a vs ns,vals=[Value.ref a]∧args=[WData.list (ns.map WData.int)]∧h.get? a=some { cls := .type "list", data := .seq vs.toArray }∧IntsAre vs ns∧ns.length≤n:=by
 have hsh:WShape.hasAll [] args [.list .int]=true:=(pre_splitW hpre).1
 have hc:l.pre.holds [] { args:=args }=true:=(pre_splitW hpre).2
 obtain ⟨d,r,rfl,h1,h2⟩:=hasAllW_cons hsh
 obtain rfl:=hasAllW_nil h2
 obtain ⟨xs,rfl,h3⟩:=hasW_list h1
 obtain ⟨ns,rfl⟩:=items_int h3
 have hlen:ns.length≤n:=by
  unfold OpenLaw.pre at hc
  have h4:(WTm.not (.lt (.lit (.int (n:Int))) (.len (.arg 0)))).holds [] { args:=[.list (ns.map .int)] }=true:=by
   have h4:=(holds_andW hc).1
   rw [hn] at h4
   exact h4
  have h5:=condW_of h4 (w_not (w_lt w_lit (w_len_list (w_arg rfl))))
  rw [List.length_map] at h5
  refine Nat.le_of_not_lt fun q => ?_
  have q':(n:Int) < ((ns.length:Nat):Int):=by omega
  first
   | (rw [decide_eq_true q'] at h5; exact absurd h5 (by decide))
   | (simp at h5; omega)
 cases hwl with
 | cons w1 w2 =>
  cases w2
  cases w1 with
  | list ho hall=>exact ⟨_,_,ns,rfl,rfl,ho,sR ns _ hall,hlen⟩
theorem aD4 (l:OpenLaw) (args:List WData):l.row.toRowW.claim.post args (.bool true) args=true :=
 postW_of (r:=l.row.toRowW) (X:=(true == true))
  (show WShape.has [] (.bool true) .bool=true by first | rfl | decide | simp [WShape.has,WShape.arms,WShape.armsAll])
  (show (WTm.eq .res (.lit (.bool true))).value [] { args:=args,res:=some (.bool true),after:=args }=some (.bool (true == true)) from w_eq_bool (w_res rfl) w_lit) rfl
theorem zO {l:OpenLaw}{n:Nat}{q:Program}{loose:List Str}{XP:(Str→Option Value)→Heap→Prop}{YP:World→Heap→Prop}{d:DefRec}
  (hn:l.most=some n) (hdf:d.params.defaults=[])
  (call:∀ (w:World) (s₀ s₁:Shared) (mg mb:Str→Option Value) (fa:Addr) (o:Obj) (pm cd doc:Value) (a:Addr) (vs:List Value) (ns:List Int),
   Ground q loose [] XP w s₀ mg mb s₁.heap→YP w s₁.heap →
   s₁.heap.get? fa=some o→o.data = .func (docDef d.name d.params d.body d.scope pm cd doc)→s₁.heap.CodeRec cd d.name→mg d.name=some (.ref fa) →
   s₁.heap.get? a=some { cls := .type "list", data := .seq vs.toArray }→IntsAre vs ns→ns.length≤n→s₁.gens = #[] →
   codeAny (model l.prog w) callerA (.call (.ref fa) ⟨[.ref a],[]⟩) (fun r s'=>r = .ok (.ret (.bool true))∧OldK s₁.heap s'.heap∧s'.os=s₁.os∧AllBare s'.gens) s₁) :
  WalkO q loose XP YP l.row.toRowW d [] (fun f vs=>PySem.call f vs):=by
 intro w s₀ s₁ mg mb G Y fa o pm cd doc dV kV ho hd hcd hD hmg hg args vals as hpre hlay hrd hwl hlo
 obtain rfl:dV = .none:=Dflts.none hD hdf
 obtain rfl:kV = .none:=Dflts.noKw hD
 obtain ⟨a,vs,ns,rfl,rfl,hobj,hints,hlen⟩:=aE0 hn hpre hwl
 refine enter_call (codeAny_mono (call w s₀ s₁ mg mb fa o pm cd doc a vs ns G Y ho (fd_plain hd) hcd hmg hobj hints hlen hg) fun r s' hq => ?_)
 obtain ⟨rfl,h2,h3,h4⟩:=hq
 exact ⟨.inl ⟨.bool true, .bool true,[],rfl,fun _=>rfl, .bool true,aD4 l _,fun _=>⟨List.Pairwise.nil,fun _ hm=>(nomatch hm)⟩⟩,h2,h3,h4⟩
section
variable {prog:Program}{w:World}{A:Around}{E:Value→Shared→Prop}{s:Shared}{K:Frag}
end
end Att
namespace L2
open PySem PySem.Spec PyProof.Rows
theorem mD:∀ {vs:List Value}{ns:List Int},IntsAre vs ns→Vals (ns.map V.int) vs
 | _,_, .nil => .nil
 | _,_, .cons n t h => .cons ⟨t,rfl⟩ (mD h)
def Only (H:Hp):Prop:=∀ b,H b=none∨∃ o xs,H b=some (.frz o (.lst xs))
theorem aFV {P:Program}{w:World}{K:PySem.W.Frag}{mg mb:Str→Option Value}{CX:CXT}{k:Nat}{fa a:Addr}{fd:FuncData}{x:Str}{sp:Sp}{s₁:Shared}{vs:List Value}{ns:List Int}
  (KX:K.In s₁.heap) (hns:s₁.heap.Ns mainGlobals mg) (hb:s₁.heap.Ns builtinsNs mb) (hbb:∀ x:Str,x ≠ "__name__" → mb x=bootBuiltins x) (hlim:s₁.heap.NoLimit) (hg:s₁.gens = #[])
  (ha:s₁.heap.get? a=some { cls := .type "list", data := .seq vs.toArray }) (hi:IntsAre vs ns) (hl:ns.length≤sizeLine) (hr:Room k callerA)
  (F:∀ base:Heap,K.In base→base.Ns mainGlobals mg→FnOk P w K mg base CX k fa fd [x] sp) (hbind:∀ (s:Shared) (u:Value),BindsTo s fd ⟨[u],[]⟩ [(x,u)])
  (hsp:∀ H:Hp,Only H→SqL K H a (ns.map V.int)→sp [.ref a] H (fun v _=>v = .bl true) fun _ _ _=>False)
  (hCX:∀ H e s',CX [] H s₁ (fun _ _ _=>False) e s'→False) :
  codeAny (model P w) callerA (.call (.ref fa) ⟨[.ref a],[]⟩) (fun r s'=>r = .ok (.ret (.bool true))∧OldK s₁.heap s'.heap∧s'.os=s₁.os∧AllBare s'.gens) s₁:=by
 have rv:=mD hi
 have lenV:=hi.length
 -- from an abstract heap in which nothing but the script may be tracked
 have core:∀ H:Hp,Only H→SqL K H a (ns.map V.int)→HOk P w H s₁.heap→(∀ b,H b≠none→b=a)→(H a≠none→K.lookup a=none) →
   codeAny (model P w) callerA (.call (.ref fa) ⟨[.ref a],[]⟩) (fun r s'=>r = .ok (.ret (.bool true))∧OldK s₁.heap s'.heap∧s'.os=s₁.os∧AllBare s'.gens) s₁:=by
  intro H hO hS hok hA hK
  have base_of:∀ {b:Addr}{o:Obj},s₁.heap.get? b=some o→H b=none→(oG s₁.heap H).get? b=some o:=fun e n=>aHD e n
  have noA:∀ {b:Addr}{o:Obj}{es:Array DictEntry}{ep:Nat},s₁.heap.get? b=some o→o.data = .dict es ep→H b=none:=fun {b o es ep} e d=>by
   cases q:H b with
   | none=>rfl
   | some u =>
    have e':b=a:=hA b (by rw [q]; simp)
    subst e'
    rw [ha] at e; cases e
    have d':Data.seq vs.toArray _=Data.dict es ep:=d
    cases d'
  have nsK:∀ {b:Addr}{m:Str→Option Value},s₁.heap.Ns b m→(oG s₁.heap H).Ns b m:=fun {b m} ⟨o,es,ep,e,d,r⟩=>⟨o,es,ep,base_of e (noA e d),d,r⟩
  have hKb:K.In (oG s₁.heap H):=fun b o e=>base_of (KX b o e) (by
   cases q:H b with
   | none=>rfl
   | some u =>
    have e':b=a:=hA b (by rw [q]; simp)
    subst e'
    rw [hK (by rw [q]; simp)] at e; cases e)
  have hM:Mod K mg (oG s₁.heap H):=⟨hKb,nsK hns,⟨mb,nsK hb,hbb⟩,let ⟨mc,h1,h2⟩:=hlim; ⟨mc,nsK h1,h2⟩⟩
  have e0:Env0 P w K mg (oG s₁.heap H) callerA [] s₁ H:=⟨rfl,hM,fun b o e=>aJ1 e,Nat.le_of_eq (aDK _ _),trivial,fun b hb=>absurd (show b∈([]:List Addr) from hb) (by simp),hok, .of_eq hg⟩
  refine codeAny_mono ((F _ hKb (nsK hns)).run callerA [] s₁ H ⟨[.ref a],[]⟩ [.ref a] [.ref a] _ _ hr e0 (hbind s₁ (.ref a)) (.cons rfl .nil) (hsp H hO hS)) fun r s' h => ?_
  cases r with
  | error e=>exact (hCX H e s' h).elim
  | ok fl =>
   cases fl with
   | next=>exact False.elim h
   | brk=>exact False.elim h
   | cont=>exact False.elim h
   | ret u =>
    obtain ⟨v,H',os,bare,un,hok',r',q⟩:=h
    have q':v = .bl true:=q
    subst q'
    obtain rfl:u=Value.bool true:=r'
    refine ⟨rfl,OldK.of_keep fun b o e => ?_,os,bare⟩
    cases q:H b with
    | none=>exact un.keep b o e q (by intro z; exact absurd (show b∈([]:List Addr) from z) (by simp)) (by simp)
    | some u =>
     rcases hO b with z | ⟨ob,xs,z⟩
     ·rw [q] at z; cases z
     ·have z2:=un.frzs b ob _ z
      obtain ⟨e1,_⟩:=hok b _ z
      obtain ⟨e2,_⟩:=hok' b _ z2
      rw [e] at e1; cases e1
      exact e2
 cases hk:K.lookup a with
 | some o =>
  -- the script is one of the module's own objects
  have e:=KX a o hk
  rw [ha] at e
  cases e
  refine core (fun _=>none) (fun _ => .inl rfl) (.inr ⟨_,vs.toArray,_,hk,rfl,rfl,rfl,by rw [List.size_toArray,lenV]; exact hl,by simpa using rv⟩) (fun b u z=>by have z':(none:Option HO)=some u:=z; cases z') (fun b z=>absurd rfl z) fun z=>absurd rfl z
 | none =>
  refine core (fun b=>if b=a then some (.frz { cls := .type "list", data := .seq vs.toArray } (.lst (ns.map V.int))) else none) (fun b => ?_) (.inl (.inr ⟨{ cls := .type "list", data := .seq vs.toArray },if_pos rfl⟩)) (fun b u z => ?_) (fun b z => ?_) fun _=>hk
  ·by_cases hb:b=a
   ·exact .inr ⟨_,_,if_pos hb⟩
   ·exact .inl (if_neg hb)
  ·by_cases hb:b=a
   ·have z':=(if_pos hb).symm.trans z
    cases z'
    subst hb
    exact ⟨ha,by rw [List.length_map]; exact hl,vs,_,rv,ha⟩
   ·have z':=(if_neg hb).symm.trans z
    cases z'
  ·by_cases hb:b=a
   ·exact hb
   ·exact absurd (if_neg hb) z
theorem aK7 {l:PySem.W.OpenLaw}{n k:Nat}{q:Program}{loose:List Str}{XP:(Str→Option Value)→Heap→Prop}{YP:World→Heap→Prop}{d:DefRec}{K:Params→PySem.W.Frag}{CX:World→CXT}{sp:World→Sp}{x:Str}
  (hn:l.most=some n) (hn2:n≤sizeLine) (hdf:d.params.defaults=[]) (hr:Room k callerA)
  (hY:∀ (w:World) (h:Heap),YP w h→(K w.params).In h)
  (F:∀ (w:World) (mg:Str→Option Value) (fa:Addr) (h:Heap),(K w.params).In h→h.Ns mainGlobals mg→mg d.name=some (.ref fa) →
   ∃ fd:FuncData,(∀ (s:Shared) (u:Value),BindsTo s fd ⟨[u],[]⟩ [(x,u)]) ∧
    ∀ base:Heap,(K w.params).In base→base.Ns mainGlobals mg→FnOk l.prog w (K w.params) mg base (CX w) k fa fd [x] (sp w))
  (hsp:∀ (w:World) (H:Hp) (a:Addr) (ns:List Int),ns.length≤n→Only H→SqL (K w.params) H a (ns.map V.int)→sp w [.ref a] H (fun v _=>v = .bl true) fun _ _ _=>False)
  (hCX:∀ (w:World) (H:Hp) (s:Shared) (e:Value) (s':Shared),CX w [] H s (fun _ _ _=>False) e s'→False) :
  PySem.W.WalkO q loose XP YP l.row.toRowW d [] (fun f vs=>PySem.call f vs):=by
 refine Att.zO hn hdf fun w s₀ s₁ mg mb fa o pm cd doc a vs ns G Y ho hd hcd hmg hobj hints hlen hg => ?_
 have KX:=hY w _ Y
 obtain ⟨fd,hb,hF⟩:=F w mg fa _ KX G.T.g hmg
 exact aFV KX G.T.g G.T.b G.T.builtins G.T.nolimit hg hobj hints (Nat.le_trans hlen hn2) hr hF hb (fun H hO hS=>hsp w H a ns hlen hO hS) fun H e s'=>hCX w H s₁ e s'
def fN (s:Stmt):Arguments:=match s with
 | .FunctionDef _ a _ _ _ _ _ _ _ _=>a
 | _=>{ posonlyargs:=[],args:=[],vararg:=none,kwonlyargs:=[],kw_defaults:=[],kwarg:=none,defaults:=[] }
def eN (s:Stmt):List Stmt:=match s with
 | .FunctionDef _ _ b _ _ _ _ _ _ _=>b
 | _=>[]
def aQ (s:Stmt):Scope:=match s with
 | .FunctionDef _ _ _ _ _ _ sc _ _ _=>sc
 | _=>{ kind := .function,names:=[],isGenerator:=false,isCoroutine:=false }
abbrev CX0:CXT:=fun _ _ _ _ _ _=>False
abbrev E0:XK:=fun _ _ _=>False
theorem pass0 {X:Cx}:Passes CX0 X E0:=fun _ _ _ _ _ _ _ h=>h.elim
structure Fun (K:PySem.W.Frag) (x qual:Str) (st:Stmt) (f:Addr) (fd:FuncData):Prop where
 ex:∃ (oc:Value) (od:Option Addr) (kV doc pm:Value) (an:Option Addr) (cdv ct:Value) (osl:Array (Option Value)),
  fd=PySem.W.fnOf x qual (fN st) (eN st) (aQ st) .none kV doc pm an cdv ct∧K.lookup f=some ⟨oc,od, .func fd,osl⟩∧PySem.W.codeIn K cdv qual=true
 kp:PySem.W.keepIn K (.ref f)=true
section
variable {P:Program}{w:World}{K:PySem.W.Frag}{mg:Str→Option Value}{base:Heap}
theorem Fun.ok {x qual:Str}{st:Stmt}{f:Addr}{fd:FuncData}{N ps:List Str}{k:Nat}{sp:Sp} (F:Fun K x qual st f fd) (S:FnScope N ps (aQ st)) (len:∀ vs H Q E,sp vs H Q E→vs.length=ps.length)
  (hbody:∀ (cdv:Value) (A:Around) (outer:List Env) (s:Shared) (H:Hp) (vs:List V) (Q:VK) (E:XK),Room k (A.deeper (envOfC qual (aQ st) s.heap.objs.size f cdv))→sp vs H Q E →
   ∃ t,PSs (rF CX0 P w K mg base N qual (aQ st) f cdv A outer s H E).nox (eN st) t∧t { nx:=fun _ H'=>Q .non H',rt:=Q } (start N vs) H):FnOk P w K mg base CX0 (k+1) f fd ps sp:=by
 obtain ⟨oc,od,kV,doc,pm,an,cdv,ct,osl,rfl,lk,hcd⟩:=F.ex
 refine aNN lk hcd S len fun A outer s H vs Q E hr hsp => ?_
 obtain ⟨t,h,q⟩:=hbody cdv A outer s H vs Q E hr hsp
 exact ⟨t,h.nox,q⟩
theorem Fun.binds {x qual:Str}{st:Stmt}{f:Addr}{fd:FuncData}{ps:List Str} (F:Fun K x qual st f fd)
  (h:∀ (kV doc pm:Value) (an:Option Addr) (cdv ct:Value) (us:List Value),us.length=ps.length→bindArgs (PySem.W.fnOf x qual (fN st) (eN st) (aQ st) .none kV doc pm an cdv ct) ⟨us,[]⟩=pure (ps.zip us)):Binds K fd ps []:=by
 obtain ⟨oc,od,kV,doc,pm,an,cdv,ct,osl,rfl,lk,hcd⟩:=F.ex
 exact .all (h kV doc pm an cdv ct)
theorem aLF {x qual:Str}{st:Stmt}{f:Addr}{oc:Value}{od an:Option Addr}{osl:Array (Option Value)}{kV doc pm cdv ct:Value} (l:K.lookup f=some ⟨oc,od, .func (PySem.W.fnOf x qual (fN st) (eN st) (aQ st) .none kV doc pm an cdv ct),osl⟩)
  (c:PySem.W.codeIn K cdv qual=true) (k:PySem.W.keepIn K (.ref f)=true):Fun K x qual st f (PySem.W.fnOf x qual (fN st) (eN st) (aQ st) .none kV doc pm an cdv ct):=⟨⟨oc,od,kV,doc,pm,an,cdv,ct,osl,rfl,l,c⟩,k⟩
end
section
variable {X:Cx}
theorem pv (i:Nat) {x:Str}{pos:Pos} (hN:X.N[i]?=some x:=by rfl) (hv:Vis X.env.scope x:=by first | exact Or.inl rfl | exact Or.inr (Or.inl rfl) | exact Or.inr (Or.inr rfl)) (hd:(x == ("__debug__" : Str))=false:=by decide)
  (hcd:(x == ("__classdict__" : Str))=false:=by decide):PE X (.Name x pos) (tVar i):=aE7 hN hv hd hcd
end
theorem eF {A B:Prop} (h:B):if false=true then A else B:=by
 rw [if_neg Bool.false_ne_true]
 exact h
theorem b4 {A B:Prop} (h:A):if true=true then A else B:=by
 rw [if_pos rfl]
 exact h
theorem ite2 {c A B:Prop} [Decidable c] (h1:c→A) (h2:¬ c→B):if c then A else B:=by
 by_cases h:c
 ·rw [if_pos h]
  exact h1 h
 ·rw [if_neg h]
  exact h2 h
def Same (H H':Hp):Prop:=∀ b o,H b=some o→H' b=some o
theorem Same.refl (H:Hp):Same H H:=fun _ _ h=>h
theorem Same.trans {H H1 H2:Hp} (a:Same H H1) (b:Same H1 H2):Same H H2:=fun c o h=>b c o (a c o h)
theorem Same.free {H H':Hp} (e:Same H H') {l:Addr} (h:H' l=Option.none):H l=Option.none:=by
 cases q:H l with
 | none=>rfl
 | some o =>
  rw [e l o q] at h
  cases h
theorem Same.seq {K:PySem.W.Frag}{H H':Hp}{a:Addr}{xs:List V} (e:Same H H') (h:SqL K H a xs):SqL K H' a xs:=by
 rcases h with (h | ⟨o,h⟩) | h
 ·exact .inl (.inl (e _ _ h))
 ·exact .inl (.inr ⟨o,e _ _ h⟩)
 ·exact .inr h
end L2
namespace L2
open PySem PySem.Spec PyProof.Rows
def big:Nat:=2 ^ 8000
def aNU (_ j:Int):Prop:=j≠0∧j.natAbs < big
def aNQ (i j:Int):Prop:=i.natAbs < big∧j.natAbs < big
theorem aGD {n:Nat} (h:n < big):n.log2 < 9000:=by
 by_cases h0:n=0
 ·subst h0; decide
 ·exact Nat.lt_of_lt_of_le ((Nat.log2_lt h0).mpr h) (by decide)
section
variable {X:Cx}
theorem n4:OpR X (binaryOp .FloorDiv) (rI aNU fun i j => .int (i.fdiv j)) :=
 opI fun _ _ _ _ _ _ _ hc q=>floordiv_int hc.1 q (.inl (PyProof.noPylong_of_log2 (aGD hc.2)))
theorem c7:OpR X (binaryOp .Mult) (rI aNQ fun i j => .int (i * j)) :=
 opI fun _ _ _ _ _ _ _ hc q=>mul_int q (IntMulOk.of_le (m:=8000) (n:=8000) (intBits_le_iff.mpr hc.1) (intBits_le_iff.mpr hc.2) (by decide))
end
theorem aMS {K:PySem.W.Frag}{S T:String}{b:Bool} (h1:(Value.type S == Value.type T)=false) (h2:PySem.W.kitMeta T=true) (h3:(fastBuiltinMro S).map (·.contains (.type T))=some b) :
  PySem.W.kitOne K (.type S) (.type T)=some b:=by
 unfold PySem.W.kitOne PySem.W.kitCls
 rw [if_neg (by rw [h1]; exact Bool.false_ne_true)]
 show (if PySem.W.kitMeta T=true then _ else _)=_
 rw [if_pos h2]
 exact h3
theorem aGO {K:PySem.W.Frag}{t:Value} (h:(t == t)=true:=by first | rfl | simp):PySem.W.kitOne K t t=some true:=by
 unfold PySem.W.kitOne; rw [if_pos h]
section
variable {X:Cx}
end
end L2
namespace L2
open PySem PySem.Spec PyProof.Rows
structure ExcK (K:PySem.W.Frag) (C:Addr):Prop where
 cd:(PySem.W.clsIn K C).isSome=true
 ga:PySem.W.findIn K (.ref C) "__getattribute__" = some (some (.builtin "BaseException.__getattribute__"))
 gt:PySem.W.findIn K (.ref C) "__getattr__" = some none
 cl:PySem.W.findIn K (.ref C) "__class__" = some (some (.builtin "object.__class__"))
 be:PySem.W.mroIn K C (.type "BaseException")=some true
 ob:PySem.W.mroIn K C (.type "object")=some true
section
variable {prog:Program}{w:World}{A:Around}{E:Value→Shared→Prop}{h:Heap}{g:Array GenState}{d:Drawn}{t:Nat}{os:OsState}{a C:Addr}{K:PySem.W.Frag}
end
section
variable {X:Cx}
end
end L2
namespace L2
open PySem PySem.Spec PyProof.Rows
structure Thrown (h₀:Heap) (H':Hp) (e T:Addr) (cls:Value) (h:Heap):Prop where
 ne:h₀.get? e=none
 nT:h₀.get? T=none
 He:H' e=none
 HT:H' T=none
 ob:∃ oe vs oT ts a0,h.get? e=some oe∧(oe.cls=cls∧vs[0]?=some a0)∧oe.data = .fields vs∧vs[1]?=some (.ref T)∧T≠e∧h.get? T=some oT∧oT.data = .fields ts∧ts[3]?=some .none
section
variable {X:Cx}{pins:List (Addr × Obj)}{σ:St}{H:Hp}{s:Shared}
end
end L2
namespace L2
open PySem PySem.Spec PyProof.Rows
def bmV:List Value:=[.type "ValueError", .type "Exception", .type "BaseException", .type "object"]
section
variable {X:Cx}{E:XK}{C:Addr}{x:Str}{np cpos pos:Pos}{e₀:Expr}{rest:List Expr}{ta:TA}
end
structure ThrownX (X:Cx) (pins:List (Addr × Obj)) (H':Hp) (e T:Addr) (cls:Value) (h:Heap):Prop where
 e0:X.s₀.heap.get? e=none
 T0:X.s₀.heap.get? T=none
 He:H' e=none
 HT:H' T=none
 eL:e≠X.env.locals
 TL:T≠X.env.locals
 ce:∀ x c,X.env.cells.lookup x=some c→c≠e∧c≠T
 pe:∀ p∈X.pn++pins,p.1≠e∧p.1≠T
 ob:∃ oe vs oT ts a0,h.get? e=some oe∧(oe.cls=cls∧vs[0]?=some a0)∧oe.data = .fields vs∧vs[1]?=some (.ref T)∧T≠e∧h.get? T=some oT∧oT.data = .fields ts∧ts[3]?=some .none
def XP (X:Cx) (pins:List (Addr × Obj)) (σ:St) (E:XK) (v:Value) (s':Shared):Prop:=∃ e T cls H',v = .ref e∧Inv X pins σ H' s'∧ThrownX X pins H' e T cls s'.heap∧E cls none H'
section
variable {X:Cx}{pins:List (Addr × Obj)}{σ:St}{H:Hp}{s s':Shared}
end
end L2
namespace L2
open PySem PySem.Spec PyProof.Rows
section
variable {X:Cx}{pins:List (Addr × Obj)}{σ:St}{H:Hp}{s:Shared}
end
end L2
namespace Num
theorem xP (a b:Int):Int.gcd b (a.fmod b)=Int.gcd a b:=by
 rw [Int.fmod_def,Int.gcd_comm a b]
 exact Int.gcd_sub_mul_left_right _ _ _
theorem aAQ (a b:Int) (hb:b≠0):(a.fmod b).natAbs < b.natAbs:=by
 rcases Int.lt_or_gt_of_ne hb with h | h
 ·have h0:0 < -b:=by omega
  have e:a.fmod b = -((-a).fmod (-b)):=by rw [Int.neg_fmod_neg]; omega
  have h1:=Int.fmod_nonneg_of_pos (-a) h0
  have h2:=Int.fmod_lt_of_pos (-a) h0
  omega
 ·have h1:=Int.fmod_nonneg_of_pos a h
  have h2:=Int.fmod_lt_of_pos a h
  omega
def div (t b:Int):Int:=if b < 0 then -((Int.gcd t b:Nat):Int) else ((Int.gcd t b:Nat):Int)
def top (t b:Int):Int:=t.fdiv (div t b)
def bot (t b:Int):Int:=b.fdiv (div t b)
theorem uD {t b:Int} (h:b≠0):0 < Int.gcd t b:=Int.gcd_pos_of_ne_zero_right t h
theorem aLL {t b:Int} (h:b≠0):div t b≠0:=by
 have:=uD (t:=t) h
 unfold div; split <;> omega
theorem aJL (t b:Int):(div t b).natAbs=Int.gcd t b:=by
 unfold div; split <;> omega
theorem aKX (t b:Int):div t b ∣ t:=by
 unfold div; split
 ·exact Int.neg_dvd.mpr (Int.gcd_dvd_left ..)
 ·exact Int.gcd_dvd_left ..
theorem aI0 (t b:Int):div t b ∣ b:=by
 unfold div; split
 ·exact Int.neg_dvd.mpr (Int.gcd_dvd_right ..)
 ·exact Int.gcd_dvd_right ..
theorem aAG (t b:Int):top t b * div t b=t:=Int.fdiv_mul_cancel (aKX t b)
theorem uO (t b:Int):bot t b * div t b=b:=Int.fdiv_mul_cancel (aI0 t b)
theorem aIC {t b:Int} (h:b≠0):0 < bot t b:=by
 have e:=uO t b
 have g:=uD (t:=t) h
 by_cases hb:b < 0
 ·have hd:div t b < 0:=by unfold div; rw [if_pos hb]; omega
  rcases Int.lt_trichotomy (bot t b) 0 with c | c | c
  ·have:=Int.mul_pos_of_neg_of_neg c hd; omega
  ·rw [c,Int.zero_mul] at e; omega
  ·exact c
 ·have hd:0 < div t b:=by unfold div; rw [if_neg hb]; omega
  rcases Int.lt_trichotomy (bot t b) 0 with c | c | c
  ·have:=Int.mul_neg_of_neg_of_pos c hd; omega
  ·rw [c,Int.zero_mul] at e; omega
  ·exact c
theorem low (t b:Int) (h:b≠0):Int.gcd (top t b) (bot t b)=1:=by
 have g:=uD (t:=t) h
 have e:Int.gcd (top t b * div t b) (bot t b * div t b)=Int.gcd (top t b) (bot t b) * (div t b).natAbs:=Int.gcd_mul_right ..
 rw [aAG,uO,aJL] at e
 have e':1 * Int.gcd t b=Int.gcd (top t b) (bot t b) * Int.gcd t b:=by rw [Nat.one_mul]; exact e
 exact (Nat.eq_of_mul_eq_mul_right g e').symm
theorem cross (t b:Int) (h:b≠0):top t b * b=t * bot t b:=by
 have e1:=aAG t b
 have e2:=uO t b
 have d:=aLL (t:=t) h
 have:top t b * (bot t b * div t b)=top t b * div t b * bot t b:=by
  rw [Int.mul_assoc,Int.mul_comm (bot t b)]
 rw [e1,e2] at this
 exact this
theorem tN {k n m:Int} (h:k ∣ n * m) (g:Int.gcd k n=1):k ∣ m:=by
 have:=Int.dvd_gcd_mul_iff_dvd_mul.mpr h
 rw [g] at this
 simpa using this
theorem uniq {p q r s:Int} (hq:0 < q) (hs:0 < s) (g:Int.gcd p q=1) (g':Int.gcd r s=1) (e:p * s=r * q):p=r∧q=s:=by
 have d1:q ∣ s:=by
  have:q ∣ p * s:=⟨r,by rw [e,Int.mul_comm]⟩
  have h:=tN this (by rw [Int.gcd_comm]; exact g)
  exact h
 have d2:s ∣ q:=by
  have:s ∣ r * q:=⟨p,by rw [← e,Int.mul_comm]⟩
  exact tN this (by rw [Int.gcd_comm]; exact g')
 have h1:=Int.le_of_dvd hs d1
 have h2:=Int.le_of_dvd hq d2
 have hqs:q=s:=by omega
 subst hqs
 exact ⟨Int.eq_of_mul_eq_mul_right (by omega) e,rfl⟩
end Num
namespace R
open PySem L2
theorem BI:bootBuiltins "int" = some (.type "int"):=by decide +kernel
theorem BB:bootBuiltins "bool" = some (.type "bool"):=by decide +kernel
theorem BT:bootBuiltins "tuple" = some (.type "tuple"):=by decide +kernel
structure Df (K:PySem.W.Frag) (mg:Str→Option Value) (x:Str) (st:Stmt) (ps:List Str) (f:Addr) (fd:FuncData):Prop where
 F:Fun K x x st f fd
 b:Binds K fd ps []
 m:mg x=some (.ref f)
structure Bn (mg:Str→Option Value):Prop where
 isi:mg "isinstance" = none
 int:mg "int" = none
 bool:mg "bool" = none
 tuple:mg "tuple" = none
 len:mg "len" = none
 abs:mg "abs" = none
 range:mg "range" = none
 min:mg "min" = none
inductive Kn (K:PySem.W.Frag) (H:Hp):V→Prop
 | non:Kn K H .non
 | bl (b:Bool):Kn K H (.bl b)
 | int (i:Int):Kn K H (.int i)
 | str (x:Str):Kn K H (.str x)
 | lst {a:Addr}{xs:List V} (e:H a=some (.lst xs)):Kn K H (.ref a)
 | tup {a:Addr}{xs:List V} (e:H a=some (.tup xs)):Kn K H (.ref a)
section
variable {P:Program}{w:World}{K:PySem.W.Frag}{mg:Str→Option Value}{base:Heap}
theorem aAV (a:Int):(if a < 0 then -a else a)=((Int.gcd a 0:Nat):Int):=by
 rw [Int.gcd_zero_right]; split <;> omega
def second:St→Nat
 | [_,some (.int b)]=>b.natAbs
 | [_,some (.int b),_]=>b.natAbs
 | _=>0
def num (t b:Int):HO := .tup [.int (Num.top t b), .int (Num.bot t b)]
end
end R
namespace R
open PySem L2
section
variable {P:Program}{w:World}{K:PySem.W.Frag}{mg:Str→Option Value}{base:Heap}
structure Kn2 (K:PySem.W.Frag) (H:Hp) (v:V):Prop where
 kn:Kn K H v
 two:∀ a x y,v = .ref a→H a=some (.tup [x,y])→Kn K H x∧Kn K H y
theorem at0 {x y:V}:atI [x,y] (0:Int)=some x:=rfl
end
end R
namespace L2
open PySem PySem.Spec PyProof.Rows
end L2
namespace R
open PySem L2
structure Fd (H:Hp) (p:Addr) (b:Int):Prop where
 ex:∃ g m st:Int,H p=some (.lst [.int g, .int m, .int st])∧0≤g∧0≤m∧m < 2147483399∧0≤st∧st≤b
section
variable {P:Program}{w:World}{K:PySem.W.Frag}{mg:Str→Option Value}{base:Heap}
theorem u8 (x:Int) {m:Int} (h0:0 < m) (h1:m < 2 ^ 64) : -(2 ^ 64) < x % m∧x % m < 2 ^ 64:=by
 have:=Int.emod_nonneg x (show m≠0 by omega)
 have:=Int.emod_lt_of_pos x h0
 omega
end
end R
namespace R
open PySem L2
section
variable {P:Program}{w:World}{K:PySem.W.Frag}{mg:Str→Option Value}{base:Heap}
end
end R
namespace R
open PySem L2
structure Ex (K:PySem.W.Frag) (mg:Str→Option Value) (CR CN CY CP CT CW CM:Addr):Prop where
 mR:mg "RoofError" = some (.ref CR)
 mN:mg "NoNumber" = some (.ref CN)
 mY:mg "NoYard" = some (.ref CY)
 mP:mg "NoPoint" = some (.ref CP)
 mT:mg "NoText" = some (.ref CT)
 mW:mg "NoRow" = some (.ref CW)
 mM:mg "NoName" = some (.ref CM)
 vE:mg "ValueError" = none
 xN:PySem.W.excIn K CN bmV "ValueError.__new__" = true
 kN:ExcK K CN
 cN:PySem.W.exmOne K (.ref CN) (.ref CR)=some true
 iV:PySem.W.kitOne K (.ref CN) (.type "ValueError")=some true
 iO:PySem.W.kitAny K (.ref CN) [.ref CM, .ref CP, .ref CW, .ref CT, .ref CY]=some false
section
variable {P:Program}{w:World}{K:PySem.W.Frag}{mg:Str→Option Value}{base:Heap}{CR CN CY CP CT CW CM:Addr}
end
end R
namespace R
open PySem L2
section
variable {P:Program}{w:World}{K:PySem.W.Frag}{mg:Str→Option Value}{base:Heap}
end
end R
namespace R
open PySem L2
end R
namespace L2
open PySem PySem.Spec PyProof.Rows
section
variable {prog:Program}{w:World}{A:Around}{E:Value→Shared→Prop}{s:Shared}
theorem oV {h:Heap}{a:Addr}{its:Array Value} (x:PlainL h a its):h.IsList a its:=let ⟨o,n,e,c,_,d⟩:=x; ⟨o,e,c,n,d⟩
theorem xU {it l:Addr}{items:Array Value} (hne:l≠it):∀ (n i:Nat) (s:Shared) (Q:List Value→Shared→Prop),s.heap.IsListIter it l i→PlainL s.heap l items→i+n≤items.size →
  (∀ h',h'.IsListIter it l (i+n)→Heap.ExtBut it s.heap h'→Q ((items.toList.drop i).take n) { s with heap:=h' })→wpAny (model prog w) A (draw (.ref it) n) Q E s
 | 0,i,s,Q,hit,_,_,hQ=>by
  show wpAny _ _ (pure []) Q E s
  exact wpAny_pure (by simpa using hQ s.heap hit (fun _ _ _ e=>e))
 | n+1,i,s,Q,hit,ht,hle,hQ=>by
  have hlt:i < items.size:=by omega
  show wpAny _ _ (pyNext (.ref it) >>= _) Q E s
  refine wpAny_bind (wpAny_pyNext_list_item hit (oV ht) (x:=items[i]) (by simp [hlt]) fun h1 hit1 hs1 => ?_)
  refine wpAny_bind (wpAny_holding (xU hne n (i+1) _ _ hit1 (ht.extBut hs1.extBut hne) (by omega) fun h2 hit2 hs2=>wpAny_pure ?_))
  have hd:items.toList.drop i=items[i]::items.toList.drop (i+1):=by simp [List.drop_eq_getElem_cons,hlt]
  have z:=hQ h2 (by rw [show i+(n+1)=i+1+n by omega]; exact hit2) (fun b o hb e=>hs2 b o hb (hs1.extBut b o hb e))
  rw [hd,List.take_succ_cons] at z
  exact z
theorem aCG {t:Addr}{items:Array Value}{targets:List (Bool × (Value→Sem Unit))}{Q:Unit→Shared→Prop} (hh:A.handled=none) (ht:PlainL s.heap t items)
  (hn:targets.length=items.size) (hstar:targets.findIdx? (·.1)=none)
  (h:∀ h',Heap.ExtBut s.heap.objs.size s.heap h'→wpAny (model prog w) A (assignInOrder (targets.map (·.2)) items.toList) Q E { s with heap:=h' }) :
  wpAny (model prog w) A (unpack (.ref t) targets) Q E s:=by
 have hlt:t≠s.heap.objs.size:=by obtain ⟨o,_,ho,_⟩:=ht; exact Nat.ne_of_lt (Heap.lt_size ho)
 unfold unpack
 rw [hn,hstar]
 refine wpAny_bind (wpAny_holding ?_)
 unfold unpackItems
 refine wpAny_bind ?_
 unfold notIterableAtAll
 refine wpAny_bind (wpAny_specialOf (oV ht).typeIs slot_list_iter.lookup ?_)
 refine wpAny_pure ?_
 simp only [Bool.false_eq_true,if_false]
 refine wpAny_bind (wpAny_holding (wpAny_pyIter_list (oV ht) ?_))
 refine wpAny_bind (wpAny_holding (xU hlt items.size 0 _ _ ⟨_,Heap.get?_push_size _ rfl,rfl,rfl⟩ (ht.keeps fun b o e=>Heap.get?_push_of_some _ e) (by omega) fun h1 hit1 hs1 => ?_))
 have hall:List.take items.size (List.drop 0 items.toList)=items.toList:=by
  rw [List.drop_zero]; exact List.take_of_length_le (by simp)
 rw [hall]
 rw [if_neg (by simp)]
 have ht1:PlainL h1 t items:=PlainL.extBut (ht.keeps fun b o e=>Heap.get?_push_of_some _ e) hs1 hlt
 refine wpAny_bind (wpAny_holding (wpAny_pyNext_list_end hh hit1 (oV ht1) (by simp) fun h2 he2 => ?_))
 simp only [Option.isSome_none,Bool.false_eq_true,if_false]
 exact wpAny_pure (h h2 fun b o hb e=>he2 b o hb (hs1 b o hb (Heap.get?_push_of_some _ e)))
end
section
variable {X:Cx}{pos:Pos}
def gLst (K:PySem.W.Frag) (n:Nat) (t:TGs):TG:=fun v σ H Q=>∃ a xs,v = .ref a∧SqL K H a xs∧xs.length=n∧t xs σ H Q
theorem aLR {es:List Expr}{k:Nat}{t:TGs}{n:Nat} (hc:X.calm=true) (h:PGs X es t)
  (hn:(assignEach es X.env).length=n:=by rfl) (hst:(assignEach es X.env).findIdx? (·.1)=none:=by rfl):PG X (.Tuple es k pos) (gLst X.K n t):=by
 intro pins s σ H v u Q I r hw
 obtain ⟨a,xs,e1,hq,hl,hw⟩:=hw
 subst e1
 cases r
 obtain ⟨its,rv,ht,hz⟩:=I.list hq
 rw [assign_Tuple]
 refine wpAny_bind (wpAny_standAt (aCG (I.ok.hd hc) ht (by simp [hn,← hl,rv.length]) hst fun h' hx => ?_))
 have I1:Inv X pins σ H { s with heap:=h' }:=I.kept (t':=s.toks) fun b o e=>hx b o (Nat.ne_of_lt (Heap.lt_size e)) e
 exact h pins _ σ H xs _ Q I1 (by simpa using rv) hw
end
end L2
namespace Num
theorem aC5 (t b:Int) (hb:b≠0):top t b=(Rat.divInt t b).num∧bot t b=((Rat.divInt t b).den:Int):=by
 have hd:((Rat.divInt t b).den:Int)≠0:=by have:=(Rat.divInt t b).den_nz; omega
 have e:(Rat.divInt t b).num * b=t * ((Rat.divInt t b).den:Int):=by
  have:=Rat.num_divInt_den (Rat.divInt t b)
  exact (Rat.divInt_eq_divInt_iff hd hb).mp this
 have g:Int.gcd (Rat.divInt t b).num ((Rat.divInt t b).den:Int)=1:=by
  have:=(Rat.divInt t b).reduced
  rw [Int.gcd_eq_natAbs_gcd_natAbs]
  exact this
 refine uniq (aIC hb) (by have:=(Rat.divInt t b).den_pos; omega) (low t b hb) g ?_
 have c:=cross t b hb
 have h1:top t b * ((Rat.divInt t b).den:Int) * b=(Rat.divInt t b).num * bot t b * b:=by
  rw [Int.mul_right_comm,c,Int.mul_right_comm,← e,Int.mul_right_comm]
 exact Int.eq_of_mul_eq_mul_right hb h1
theorem zR (x y:Rat):Rat.divInt (x.num * (y.den:Int)+y.num * (x.den:Int)) ((x.den:Int) * (y.den:Int))=x+y:=by
 have h1:(x.den:Int)≠0:=by have:=x.den_nz; omega
 have h2:(y.den:Int)≠0:=by have:=y.den_nz; omega
 rw [← Rat.divInt_add_divInt _ _ h1 h2,Rat.num_divInt_den,Rat.num_divInt_den]
theorem aJU (x y:Rat):Rat.divInt (x.num * (y.den:Int) - y.num * (x.den:Int)) ((x.den:Int) * (y.den:Int))=x - y:=by
 have h1:(x.den:Int)≠0:=by have:=x.den_nz; omega
 have h2:(y.den:Int)≠0:=by have:=y.den_nz; omega
 rw [← Rat.divInt_sub_divInt _ _ h1 h2,Rat.num_divInt_den,Rat.num_divInt_den]
theorem aJI (x y:Rat):Rat.divInt (x.num * y.num) ((x.den:Int) * (y.den:Int))=x * y:=by
 rw [← Rat.divInt_mul_divInt,Rat.num_divInt_den,Rat.num_divInt_den]
end Num
namespace R
open PySem L2
structure Sz (k:Nat) (x:Rat):Prop where
 n:x.num.natAbs < 2 ^ k
 d:x.den < 2 ^ k
theorem lM (x:Rat):((x.den:Nat):Int)≠0:=by have:=x.den_nz; omega
end R
namespace L2
open PySem PySem.Spec PyProof.Rows
theorem fH:∀ (names:List (Str × NameKind)) (n:Nat) (acc:List (Str × Addr)),cellsFrom n names acc=cellsFrom n names []++acc
 | [],_,_=>rfl
 | (name,kind)::r,n,acc=>by
  unfold cellsFrom
  split
  ·rw [fH r (n+1) ((name,n)::acc),fH r (n+1) [(name,n)],List.append_assoc]; rfl
  ·exact fH r n acc
theorem nR:∀ (names:List (Str × NameKind)) (n:Nat) (acc:List (Str × Addr)) {y:Str}{c:Addr},(y,c)∈cellsFrom n names acc→(y,NameKind.cell)∈names∨(y,c)∈acc
 | [],_,_,_,_,h => .inr h
 | (name,kind)::r,n,acc,y,c,h=>by
  unfold cellsFrom at h
  split at h
  ·rename_i hk
   rcases nR r (n+1) _ h with q | q
   ·exact .inl (List.mem_cons_of_mem _ q)
   ·rcases List.mem_cons.mp q with q | q
    ·cases q
     have:kind = .cell:=by simpa using hk
     exact .inl (by rw [this]; exact List.mem_cons_self)
    ·exact .inr q
  ·rcases nR r n _ h with q | q
   ·exact .inl (List.mem_cons_of_mem _ q)
   ·exact .inr q
theorem fY {y:Str}:∀ {l m:List (Str × Addr)},(l++m).lookup y=match l.lookup y with | some c=>some c | none=>m.lookup y
 | [],_=>rfl
 | (n,c)::l,m=>by
  rw [List.cons_append,List.lookup_cons,List.lookup_cons]
  cases y == n with
  | true=>rfl
  | false=>exact fY (l:=l) (m:=m)
theorem oJ {scope:Scope}{env:Env}:∀ (names:List (Str × NameKind)) (acc:List (Str × Addr)),
  (∀ n,(n,NameKind.free)∈names→∃ c,env.cells.lookup n=some c)→(∀ n c,acc.lookup n=some c→env.cells.lookup n=some c) →
  ∃ cl,(forIn names acc fun x cs=>(if x.2 == NameKind.free then (do let c ← cellOf env x.1; pure (ForInStep.yield ((x.1,c)::cs))) else pure (ForInStep.yield cs)):Sem (List (Str × Addr)))=pure cl ∧
   (∀ n c,cl.lookup n=some c→env.cells.lookup n=some c)∧(∀ n,(n,NameKind.free)∈names→∃ c,cl.lookup n=some c)∧∀ n c,acc.lookup n=some c→∃ c',cl.lookup n=some c'
 | [],acc,_,h2=>⟨acc,rfl,h2,(fun _ h=>nomatch h),fun n c e=>⟨c,e⟩⟩
 | (name,kind)::r,acc,h1,h2=>by
  have h1':∀ n,(n,NameKind.free)∈r→∃ c,env.cells.lookup n=some c:=fun n hn=>h1 n (List.mem_cons_of_mem _ hn)
  by_cases hk:kind = .free
  ·subst hk
   obtain ⟨c,hc⟩:=h1 name List.mem_cons_self
   obtain ⟨cl,e,q1,q2,q3⟩:=oJ (scope:=scope) (env:=env) r ((name,c)::acc) h1' (fun n c' hn=>by
    rw [List.lookup_cons] at hn
    cases hb:n == name with
    | true =>
     rw [hb] at hn
     have:n=name:=by simpa using hb
     subst this
     cases hn; exact hc
    | false=>rw [hb] at hn; exact h2 n c' hn)
   refine ⟨cl,?_,q1,fun n hn => ?_,fun n c' hn => ?_⟩
   ·rw [List.forIn_cons]
    simp only [beq_self_eq_true,if_true]
    have e0:cellOf env name=pure c:=by unfold cellOf; rw [hc]
    rw [e0]
    exact e
   ·rcases List.mem_cons.mp hn with z | z
    ·cases z
     exact q3 _ c (by rw [List.lookup_cons,beq_self_eq_true])
    ·exact q2 n z
   ·cases hb:n == name with
    | true=>exact q3 n c (by rw [List.lookup_cons,hb])
    | false=>exact q3 n c' (by rw [List.lookup_cons,hb]; exact hn)
  ·obtain ⟨cl,e,q1,q2,q3⟩:=oJ (scope:=scope) (env:=env) r acc h1' h2
   refine ⟨cl,?_,q1,fun n hn => ?_,q3⟩
   ·rw [List.forIn_cons]
    have hb:(kind == NameKind.free)=false:=by simpa using hk
    simp only [hb,Bool.false_eq_true,if_false]
    exact e
   ·rcases List.mem_cons.mp hn with z | z
    ·cases z; exact absurd rfl hk
    ·exact q2 n z
theorem oY {scope:Scope}{env:Env} (h:∀ n,(n,NameKind.free)∈scope.names→∃ c,env.cells.lookup n=some c) :
  ∃ cl,closureFor scope env=pure cl∧(∀ n c,cl.lookup n=some c→env.cells.lookup n=some c)∧(∀ n,(n,NameKind.free)∈scope.names→∃ c,cl.lookup n=some c):=by
 obtain ⟨cl,e,q1,q2,_⟩:=oJ (scope:=scope) (env:=env) scope.names [] h (fun n c e=>by cases e)
 refine ⟨cl,?_,q1,q2⟩
 show ((forIn scope.names [] fun x cs=>(if x.2 == NameKind.free then (do let c ← cellOf env x.1; pure (ForInStep.yield ((x.1,c)::cs))) else pure (ForInStep.yield cs)):Sem (List (Str × Addr))) >>= fun cs=>pure cs)=pure cl
 rw [e]
 rfl
theorem qW {M:Model}{A:Around}{E:Value→Shared→Prop}{s:Shared}{scope:Scope}{globals:Addr}{cl:List (Str × Addr)}{qual:Str}{code:Value}{env:Env}{Q:Env→Shared→Prop}
  (h:Q (newEnv scope s.heap.objs.size globals (cellsFrom (s.heap.objs.size+1) scope.names cl) qual none code (some env) builtinsNs) { s with heap:=pushCells (s.heap.push { cls := .type "dict", data := .dict #[] }) scope.names }) :
  wpAny M A (newFunctionEnv scope globals cl [] qual none code (some env)) Q E s:=by
 simp only [newFunctionEnv,Option.isSome_some,if_true]
 refine wpAny_bind (wpAny_alloc ?_)
 refine wpAny_bind (wpAny_layCells _ (fun name kind cells=>by cases hkc:kind == NameKind.cell <;> simp [hkc]) _ _ _ _ ?_)
 rw [show ({ s with heap:=s.heap.push { cls := .type "dict", data := .dict #[] } }:Shared).heap.objs.size=s.heap.objs.size+1 from Heap.size_push ..]
 exact wpAny_bind (wpAny_pure (wpAny_pure h))
def aX (X:Cx) (scope:Scope) (cs:List (Str × Addr)) (C:Addr) (Nc:List Str) (s₀:Shared) (H₀:Hp) (fp:List Addr):Cx :=
 { X with N:=Nc,s₀:=s₀,H₀:=H₀,env:=compEnvC scope cs C X.env,outer:=X.stack,ex:=fp,fn:=fun y=>scope.names.lookup y == some .cell,pn:=[],xe:=fun _ _=>False }
theorem dP {env:Env}{y:Str}{k:NameKind}:∀ {names:List (Str × NameKind)},
  (names.map fun (n,k)=>if (k == NameKind.free && env.scope.kind == .function && env.kindOf n == some .cell) then (n,NameKind.cell) else (n,k)).lookup y=some k →
  names.lookup y=some k∨(names.lookup y=some .free∧k = .cell)
 | [],h=>by cases h
 | (n,k')::r,h=>by
  have ih := @dP env y k r
  rw [List.map_cons] at h
  cases hy:y == n with
  | true =>
   rw [List.lookup_cons,hy]
   by_cases hc:(k' == NameKind.free && env.scope.kind == .function && env.kindOf n == some .cell)=true
   ·dsimp only at h
    rw [if_pos hc,List.lookup_cons,hy] at h
    cases h
    have:k' = .free:=by
     rw [Bool.and_eq_true,Bool.and_eq_true] at hc
     simpa using hc.1.1
    exact .inr ⟨by rw [this],rfl⟩
   ·dsimp only at h
    rw [if_neg hc,List.lookup_cons,hy] at h
    exact .inl h
  | false =>
   rw [List.lookup_cons,hy]
   by_cases hc:(k' == NameKind.free && env.scope.kind == .function && env.kindOf n == some .cell)=true
   ·dsimp only at h
    rw [if_pos hc,List.lookup_cons,hy] at h
    exact ih h
   ·dsimp only at h
    rw [if_neg hc,List.lookup_cons,hy] at h
    exact ih h
def PIf (Y:Cx) (ifs:List Expr) (tt:TT):Prop :=
 ∀ (pins:List (Addr × Obj)) (s:Shared) (σ:St) (H:Hp) (Q:Bool→Hp→Prop),Inv Y pins σ H s→tt σ H Q →
  wpAny (model Y.prog Y.w) Y.A (forIn ifs true fun c r=>if r=true then do let ok ← isTrue c Y.env (eval c Y.env); pure (ForInStep.yield ok) else pure (ForInStep.yield r)) (TP Y pins σ Q) Y.xe s
def aM3:TT:=fun _ H Q=>Q true H
theorem aH4 {Y:Cx}:PIf Y [] aM3:=fun pins s σ H Q I h=>by
 rw [List.forIn_nil]
 exact wpAny_pure ⟨H,I,h⟩
theorem aKD {Y:Cx}{c:Expr}{tt:TT} (h:PT Y c tt):PIf Y [c] tt:=fun pins s σ H Q I q=>wpAny_tests_one (h pins s σ H Q I q)
theorem o6 {prog:Program}{w:World}{A:Around}{R:Result→Shared→Prop}{s:Shared}{elt target iter:Expr}{ifs:List Expr}{scope:Scope}{pos:Pos}{it acc:Value}{env:Env} (I:Nat→Shared→Prop)
  (turn:∀ n s,I n s→wpAny (model prog w) A (pyNext it) (fun r s₁=>match r with
   | none=>R (.ok .next) s₁
   | some v=>wpAny (model prog w) A (letOwnedTupleGo target it v) (fun _ s₁'=>wpAny (model prog w) A (assign target env v) (fun _ s₂ =>
     wpAny (model prog w) A (forIn ifs true fun c r=>if r=true then do let ok ← isTrue c env (eval c env); pure (ForInStep.yield ok) else pure (ForInStep.yield r)) (fun ok s₃ =>
      if ok=true then wpAny (model prog w) A (eval elt env) (fun x s₄ =>
       wpAny (model prog w) A (call (.builtin "list.append") [acc,x]) (fun _ s₅=>∃ m,m < n∧I m s₅) (fun _ _=>False) s₄) (fun _ _=>False) s₃
      else ∃ m,m < n∧I m s₃) (fun _ _=>False) s₂) (fun _ _=>False) s₁') (fun _ _=>False) s₁) (fun _ _=>False) s)
  (n:Nat) (h:I n s) :
  codeAny (model prog w) A (.compLoop (.ListComp elt [⟨target,iter,ifs,0⟩] scope pos) 0 it acc env) R s:=by
 refine codeAny_loop rfl I (fun n s hI => ?_) n h
 show wpAny _ A ((compTurn (.ListComp elt [⟨target,iter,ifs,0⟩] scope pos) 0 it acc env).onRaise (fun x=>do noteFrame x env; theTreesLotGoes x)) _ _ s
 refine wpAny_noted ?_
 rw [compTurn_list]
 refine wpAny_bind (wpAny_standAt (wpAny_bind (wpAny_mono (turn n s hI) (fun r s₁ h₁ => ?_) fun _ _ h'=>h'.elim)))
 cases r with
 | none=>exact wpAny_pure h₁
 | some v =>
  refine wpAny_bind (wpAny_mono h₁ (fun _ s₁' h₁' => ?_) fun _ _ h'=>h'.elim)
  refine wpAny_bind (wpAny_mono h₁' (fun _ s₂ h₂=>wpAny_bind (wpAny_mono h₂ (fun ok s₃ h₃ => ?_) fun _ _ h'=>h'.elim)) fun _ _ h'=>h'.elim)
  cases ok with
  | false=>exact wpAny_pure ⟨rfl,h₃⟩
  | true =>
   exact wpAny_bind (wpAny_bind (wpAny_mono h₃ (fun x s₄ h₄=>wpAny_bind (wpAny_mono h₄ (fun _ s₅ h₅=>wpAny_pure (wpAny_pure ⟨rfl,h₅⟩)) fun _ _ h'=>h'.elim)) fun _ _ h'=>h'.elim))
def aM5 (J:It) (cap:List Nat) (tt:TT) (te:TE) (σ:St) (H1:Hp) (Q:VK) (D:Addr):Prop:=∃ W:Nat→Nat→List V→Hp→Prop,(∃ m,W 0 m [] (upd H1 D (.lst [])))∧∀ i m ys H2,W i m ys H2 →
 H2 D=some (.lst ys)∧((J.stop i H2∧Q (.ref D) H2)∨(J.go i H2∧ys.length < sizeLine∧∀ x H3,J.yld i H2 x H3 →
  tt (some x::cap.map fun k=>(σ[k]?).join) H3 fun b H4=>if b=true then te (some x::cap.map fun k=>(σ[k]?).join) H4 fun y H5=>H5 D=some (.lst ys)∧∃ m',m' < m∧W (i+1) m' (ys++[y]) (upd H5 D (.lst (ys++[y])))
   else ∃ m',m' < m∧W (i+1) m' ys H4))
def qF (wi:TI) (cap:List Nat) (tt:TT) (te:TE):TE:=fun σ H Q=>wi σ H fun J H1=>∀ D,H1 D=none→aM5 J cap tt te σ H1 Q D
structure CFree (X:Cx) (pins:List (Addr × Obj)) (H':Hp) (C:Addr):Prop where
 hn:H' C=none
 hL:C≠X.env.locals
 h1:X.s₀.heap.objs.size≤C
 h2:∀ x c,X.env.cells.lookup x=some c→c≠C
 h3:∀ p∈X.pn++pins,p.1≠C
theorem vI {X:Cx}{x:Str}{px pos:Pos}{iter elt:Expr}{ifs:List Expr}{scope:Scope}{ns:List Str}{cap:List Nat}{wi:TI}{tt:TT}{te:TE} (hc:X.calm=true) (hkind:scope.kind = .function)
  (hnames:∀ y∈scope.names,y.2 = .local→scope.names.lookup y.1=some .local) (hx:Loc (relabel scope X.env) x) (hxf:scope.names.lookup x=some .cell∨(relabel scope X.env).names.lookup x=some .local)
  (hNc:(x::ns).Nodup) (hlen:cap.length=ns.length) (hcap:∀ (j k:Nat) (nm:Str),cap[j]?=some k→ns[j]?=some nm→X.N[k]?=some nm∧(X.env.scope.names.lookup nm=some .cell∨X.env.scope.names.lookup nm=some .free))
  (hns:∀ nm∈ns,(nm,NameKind.free)∈scope.names∧(nm,NameKind.cell) ∉ scope.names) (hnsk:∀ nm∈ns,scope.names.lookup nm=some .free) (hfree:∀ y∈scope.names,y.2 = .free→X.env.scope.names.lookup y.1=some .cell∨X.env.scope.names.lookup y.1=some .free)
  (hi:PI X (.Name x px) iter wi)
  (ht:∀ cs C s₀ H₀ fp,PIf (aX X scope cs C (x::ns) s₀ H₀ fp) ifs tt) (he:∀ cs C s₀ H₀ fp,PE (aX X scope cs C (x::ns) s₀ H₀ fp) elt te)
  (hs:∀ v,foldedSetIterable iter X.env v=pure v:=by intro _; rfl)
  {use:Option (Value→Sem Unit)}{Q':Value→Shared→Prop}{pins:List (Addr × Obj)}{s:Shared}{σ:St}{H:Hp}{Q:VK}{ip:Pos} (I:Inv X pins σ H s) (h:qF wi cap tt te σ H Q)
  (hfin:∀ (D C:Addr) (H':Hp) (s':Shared),Inv X pins σ H' s'→Q (.ref D) H'→(∃ m,s'.heap.Ns C m)→CFree X pins H' C→compPost (model X.prog X.w) X.A X.xe use Q' (.ref D) C (.ok .next) s') :
  wpAny (model X.prog X.w) X.A (comprehension (.ListComp elt [⟨.Name x px,iter,ifs,0⟩] scope pos) scope X.env ip (newList []) false (eval iter X.env) use) Q' X.xe s:=by
 obtain ⟨cl,ecl,cl1,cl2⟩:=oY (scope:=scope) (env:=X.env) fun n hn=>I.ok.has n (hfree (n, .free) hn rfl)
 refine wpAny_comprehension_free (use:=use) rfl hs ecl hkind hnames (thn (hi pins s σ H _ I h) fun xv s1 h1=>thn h1 fun itv s2 h2 => ?_)
 obtain ⟨it,fp,tn,J,H2,rfl,I2,T,st2,f2,q⟩:=h2
 have hD:H2 s2.heap.objs.size=none:=I2.fresh
 obtain ⟨W,⟨m0,w0⟩,step⟩:=q s2.heap.objs.size hD
 refine wpAny_newObj_type ?_ (by show 0≤sizeLine; exact Nat.zero_le _)
 have I3:Inv X pins σ (upd H2 s2.heap.objs.size (.lst [])) { s2 with heap:=s2.heap.push { cls := .type "list", data := .seq ([]:List Value).toArray } } :=
  I2.laid (t':=s2.toks) (fun b u e=>Heap.get?_push_of_some _ e) (Nat.le_refl _) ⟨Nat.zero_le _,[],0, .nil,Heap.get?_push_size _ rfl⟩
 have sz3:(s2.heap.push { cls := .type "list", data := .seq ([]:List Value).toArray }).objs.size=s2.heap.objs.size+1:=Heap.size_push ..
 have hfp3:∀ b∈fp,∀ o,(upd H2 s2.heap.objs.size (.lst [])) b≠some o:=fun b hb o z=>by
  obtain ⟨ob,e,_⟩:=T.obj 0 _ st2 b hb
  rw [bL (Nat.ne_of_lt (Heap.lt_size e)),(f2 b hb).1] at z
  cases z
 revert I3 sz3 w0 step hfp3
 generalize upd H2 s2.heap.objs.size (.lst [])=H3
 generalize hs3:({ s2 with heap:=s2.heap.push { cls := .type "list", data := .seq ([]:List Value).toArray } }:Shared)=s3
 intro step w0 I3 sz3 hfp3
 have st3:tn 0 s3.heap:=T.keep 0 _ _ st2 fun b _ o e=>by rw [← hs3]; exact Heap.get?_push_of_some _ e
 have fpLt:∀ b∈fp,b < s3.heap.objs.size:=fun b hb=>by
  obtain ⟨o,e,_⟩:=T.obj 0 _ st3 b hb
  exact Heap.lt_size e
 refine qW ?_
 have new:CellsOk (pushCells (s3.heap.push { cls := .type "dict", data := .dict #[] }) scope.names) (s3.heap.objs.size+1) (cellsFrom (s3.heap.objs.size+1) scope.names []):=by
  have ok:=cellsFrom_ok scope.names (s3.heap.push { cls := .type "dict", data := .dict #[] }) (s3.heap.objs.size+1) [] ⟨fun _ _ hm=>(nomatch hm),List.Pairwise.nil⟩ (by rw [Heap.size_push]; exact Nat.le_refl _)
  rw [Heap.size_push] at ok
  exact ok
 have keep4:∀ b o,s3.heap.get? b=some o→(pushCells (s3.heap.push { cls := .type "dict", data := .dict #[] }) scope.names).get? b=some o:=fun b o e=>pushCells_keeps _ _ b o (Heap.get?_push_of_some _ e)
 have nsC:(pushCells (s3.heap.push { cls := .type "dict", data := .dict #[] }) scope.names).Ns s3.heap.objs.size (fun _=>none):=(Heap.Ns.new s3.heap (.type "dict")).keeps (pushCells_keeps _ _)
 have lk:∀ y c,(cellsFrom (s3.heap.objs.size+1) scope.names cl).lookup y=some c→((y,c)∈cellsFrom (s3.heap.objs.size+1) scope.names []∧(y,NameKind.cell)∈scope.names)∨(cl.lookup y=some c∧X.env.cells.lookup y=some c):=fun y c e=>by
  rw [fH,fY] at e
  cases z:(cellsFrom (s3.heap.objs.size+1) scope.names []).lookup y with
  | some c' =>
   rw [z] at e
   have e':c'=c:=Option.some.inj e
   subst e'
   have hm:=PySem.mem_of_lookup z
   rcases nR _ _ _ hm with q | q
   ·exact .inl ⟨hm,q⟩
   ·cases q
  | none=>rw [z] at e; exact .inr ⟨e,cl1 y c e⟩
 have oldLt:∀ y c,X.env.cells.lookup y=some c→c < s3.heap.objs.size:=fun y c e=>by
  obtain ⟨v,z⟩:=I3.cell y c e
  exact z.lt
 have hlk2:∀ nm∈ns,∃ c,(cellsFrom (s3.heap.objs.size+1) scope.names cl).lookup nm=some c∧X.env.cells.lookup nm=some c:=fun nm hnm=>by
  obtain ⟨h1,h2⟩:=hns nm hnm
  obtain ⟨c,e⟩:=cl2 nm h1
  refine ⟨c,?_,cl1 nm c e⟩
  rw [fH,fY]
  cases z:(cellsFrom (s3.heap.objs.size+1) scope.names []).lookup nm with
  | some c' =>
   rcases nR _ _ _ (PySem.mem_of_lookup z) with q | q
   ·exact absurd q h2
   ·cases q
  | none=>exact e
 show codeAny (model X.prog X.w) X.A (.compStart (.ListComp elt [⟨.Name x px,iter,ifs,0⟩] scope pos) 0 (.ref it) (.ref s2.heap.objs.size) (aX X scope (cellsFrom (s3.heap.objs.size+1) scope.names cl) s3.heap.objs.size (x::ns) s3 H3 fp).env) (compPost (model X.prog X.w) X.A X.xe use Q' (.ref s2.heap.objs.size) s3.heap.objs.size) { s3 with heap:=pushCells (s3.heap.push { cls := .type "dict", data := .dict #[] }) scope.names }
 have ht':=ht (cellsFrom (s3.heap.objs.size+1) scope.names cl) s3.heap.objs.size s3 H3 fp
 have he':=he (cellsFrom (s3.heap.objs.size+1) scope.names cl) s3.heap.objs.size s3 H3 fp
 have OK:(aX X scope (cellsFrom (s3.heap.objs.size+1) scope.names cl) s3.heap.objs.size (x::ns) s3 H3 fp).Ok:=by
  refine ⟨I3.ok.mod,hkind,I3.ok.glob,I3.ok.blt,Nat.le_refl _,fun y z c e1 e2 => ?_,fun y hy => ?_,fun y c hf e => ?_,fun _=>I3.ok.hd hc,I3.ok.frames, .inl rfl,fun b hb=>⟨Nat.ne_of_lt (fpLt b hb),fun y c e => ?_⟩,I3.bs,Nat.le_trans I3.ok.bsz I3.sz,fun b o e hb => ?_,fun b hb hm => ?_,I3.stack,I3.stkFree⟩
  ·rcases lk y c e1 with ⟨a1,_⟩ | ⟨a1,a2⟩ <;> rcases lk z c e2 with ⟨b1,_⟩ | ⟨b1,b2⟩
   ·exact name_of_addr new.apart a1 b1
   ·exact absurd (Nat.lt_of_lt_of_le (oldLt z c b2) (Nat.le_of_succ_le (new.empty y c a1).2)) (Nat.lt_irrefl _)
   ·exact absurd (Nat.lt_of_lt_of_le (oldLt y c a2) (Nat.le_of_succ_le (new.empty z c b1).2)) (Nat.lt_irrefl _)
   ·exact I3.ok.inj y z c a2 b2
  ·have key:scope.names.lookup y=some .cell∨scope.names.lookup y=some .free:=by
    rcases hy with hy | hy
    ·rcases dP (env:=X.env) (names:=scope.names) hy with q | ⟨q,_⟩
     ·exact .inl q
     ·exact .inr q
    ·rcases dP (env:=X.env) (names:=scope.names) hy with q | ⟨q,_⟩
     ·exact .inr q
     ·exact .inr q
   rcases key with q | q
   ·exact Option.isSome_iff_exists.mp (PySem.W.cellsFrom_some scope.names (s3.heap.objs.size+1) cl (.inl q))
   ·obtain ⟨c,e⟩:=cl2 y (PySem.mem_of_lookup q)
    exact Option.isSome_iff_exists.mp (PySem.W.cellsFrom_some scope.names (s3.heap.objs.size+1) cl (.inr (by rw [e]; rfl)))
  ·have hf':scope.names.lookup y=some .cell:=by
    have hf0:(scope.names.lookup y == some .cell)=true:=hf
    simpa using hf0
   have e':(cellsFrom (s3.heap.objs.size+1) scope.names cl).lookup y=some c:=e
   have e0:=Option.isSome_iff_exists.mp (PySem.W.cellsFrom_some scope.names (s3.heap.objs.size+1) [] (.inl hf'))
   obtain ⟨c',z⟩:=e0
   rw [fH,fY,z] at e'
   cases e'
   exact Nat.le_of_succ_le (new.empty y c (PySem.mem_of_lookup z)).2
  ·rcases lk y c e with ⟨a1,_⟩ | ⟨a1,a2⟩
   ·exact fun z=>absurd (Nat.lt_of_lt_of_le (fpLt b hb) (z ▸ Nat.le_of_succ_le (new.empty y c a1).2)) (Nat.lt_irrefl _)
   ·exact (f2 b hb).2.2.2.2.1 y c a2
  ·rcases (f2 b hb).2.2.2.1 with z | z
   ·exact I3.ok.noex b o e z
   ·exact absurd (Nat.lt_of_lt_of_le (Heap.lt_size (I3.ok.bs b o e).1) z) (Nat.lt_irrefl _)
  ·rcases List.mem_cons.mp (I3.stkSub b hm) with z | z
   ·exact (f2 b hb).2.1 z
   ·exact (f2 b hb).2.2.1 z
 have IY:Inv (aX X scope (cellsFrom (s3.heap.objs.size+1) scope.names cl) s3.heap.objs.size (x::ns) s3 H3 fp) [] (none::cap.map fun k=>(σ[k]?).join) H3 { s3 with heap:=pushCells (s3.heap.push { cls := .type "dict", data := .dict #[] }) scope.names }:=by
  refine ⟨OK,rfl,I3.bare,Un.kept keep4,⟨_,nsC,fun i nm v e1 e2 e3 => ?_⟩,fun y c e => ?_,I3.fresh,fun y c e => ?_,fun p hp=>absurd (show p∈([]:List (Addr × Obj)) from hp) (by simp),I3.hok.kept keep4,by simp [aX,hlen]⟩
  ·cases i with
   | zero=>cases e2
   | succ j =>
    have e1':ns[j]?=some nm:=e1
    have e2':(cap.map fun k=>(σ[k]?).join)[j]?=some (some v):=e2
    rw [List.getElem?_map] at e2'
    cases hk:cap[j]? with
    | none=>rw [hk] at e2'; cases e2'
    | some k =>
     rw [hk] at e2'
     have e2'':(σ[k]?).join=some v:=Option.some.inj e2'
     have e4:σ[k]?=some (some v):=by
      cases z:σ[k]? with
      | none=>rw [z] at e2''; cases e2''
      | some o=>rw [z] at e2''; exact congrArg some e2''
     obtain ⟨hN,hcell⟩:=hcap j k nm hk e1'
     obtain ⟨m,_,hl⟩:=I3.loc
     obtain ⟨u,r,l⟩:=hl k nm v hN e4 (.inr hcell)
     refine ⟨u,r,?_⟩
     rcases l with ⟨l1,_⟩ | ⟨_,c,ec,z⟩
     ·have l1':X.env.scope.names.lookup nm=some .local:=l1
      rcases hcell with q | q <;> rw [q] at l1' <;> cases l1'
     ·obtain ⟨c',g1,g2⟩:=hlk2 nm (List.mem_of_getElem? e1')
      rw [ec] at g2
      cases g2
      refine .inr ⟨?_,c,g1,?_⟩
      ·rcases e3 with q | q
       ·rcases dP (env:=X.env) (names:=scope.names) q with w1 | ⟨_,w1⟩
        ·exfalso
         have hmem:=(hns nm (List.mem_of_getElem? e1')).1
         have:=hnames (nm, .local) (PySem.mem_of_lookup w1) rfl
         -- a name has one kind in a scope: its cell is known,so it is not local here
         exact absurd (I3.ok.has nm (hfree (nm, .free) hmem rfl)) (fun _=>by
          have hk2:=(hnsk nm (List.mem_of_getElem? e1'))
          rw [w1] at hk2; cases hk2)
        ·cases w1
       ·exact q
      ·obtain ⟨o,ho,hd⟩:=z
       exact ⟨o,keep4 c o ho,hd⟩
  ·rcases lk y c e with ⟨a1,_⟩ | ⟨a1,a2⟩
   ·exact ⟨none,(new.empty y c a1).1⟩
   ·obtain ⟨v,o,ho,hd⟩:=I3.cell y c a2
    exact ⟨v,o,keep4 c o ho,hd⟩
  ·rcases lk y c e with ⟨a1,_⟩ | ⟨a1,a2⟩
   ·exact I3.hok.fresh (Nat.le_of_succ_le (new.empty y c a1).2)
   ·exact I3.freeC y c a2
 -- what is reached at the end
 have fin:∀ {σ':St}{H':Hp}{s':Shared},Inv (aX X scope (cellsFrom (s3.heap.objs.size+1) scope.names cl) s3.heap.objs.size (x::ns) s3 H3 fp) [] σ' H' s'→Q (.ref s2.heap.objs.size) H' →
   compPost (model X.prog X.w) X.A X.xe use Q' (.ref s2.heap.objs.size) s3.heap.objs.size (.ok .next) s':=fun {σ' H' s'} J qd=>by
  obtain ⟨m',hn',_⟩:=J.loc
  have hCn:H' s3.heap.objs.size=none:=J.free
  refine hfin _ _ H' s' (I3.call' (ch:=fp) J.os J.base J.hok J.bare fun b hb=>⟨(f2 b hb).2.2.2.1,(f2 b hb).2.1,(f2 b hb).2.2.2.2.1,(f2 b hb).2.2.2.2.2⟩) qd ⟨m',hn'⟩ ⟨hCn,Nat.ne_of_gt I3.lt,I3.sz,fun y c e=>Nat.ne_of_lt (oldLt y c e),fun p hp=>Nat.ne_of_lt (Heap.lt_size (I3.pin p hp).1)⟩
 have fpY:∀ {H':Hp},(∀ b∈fp,H' b=none)→∀ b∈fp,lP (aX X scope (cellsFrom (s3.heap.objs.size+1) scope.names cl) s3.heap.objs.size (x::ns) s3 H3 fp) [] H' b:=fun {H'} hn b hb =>
  ⟨hn b hb,(OK.exf b hb).1,OK.exfs b hb, .inl hb,(OK.exf b hb).2,fun p hp=>absurd (show p∈([]:List (Addr × Obj)) from hp) (by simp)⟩
 have st4:tn 0 (pushCells (s3.heap.push { cls := .type "dict", data := .dict #[] }) scope.names):=T.keep 0 _ _ st3 fun b _ o e=>keep4 b o e
 have fr3:∀ b∈fp,H3 b=none:=fun b hb=>by
  cases z:H3 b with
  | none=>rfl
  | some o=>exact absurd rfl (fun _:(1:Nat)=1=>hfp3 b hb o z)
 have loop:codeAny (model X.prog X.w) X.A (.compLoop (.ListComp elt [⟨.Name x px,iter,ifs,0⟩] scope pos) 0 (.ref it) (.ref s2.heap.objs.size) (aX X scope (cellsFrom (s3.heap.objs.size+1) scope.names cl) s3.heap.objs.size (x::ns) s3 H3 fp).env) (compPost (model X.prog X.w) X.A X.xe use Q' (.ref s2.heap.objs.size) s3.heap.objs.size) { s3 with heap:=pushCells (s3.heap.push { cls := .type "dict", data := .dict #[] }) scope.names }:=by
  refine o6 (fun n s'=>∃ i ys o H',Inv (aX X scope (cellsFrom (s3.heap.objs.size+1) scope.names cl) s3.heap.objs.size (x::ns) s3 H3 fp) [] (o::cap.map fun k=>(σ[k]?).join) H' s'∧tn i s'.heap∧(∀ b∈fp,H' b=none)∧W i n ys H') ?_ m0 ⟨0,[],none,H3,IY,st4,fr3,w0⟩
  rintro n s5 ⟨i,ys,o,H5,I5,st5,fr5,w5⟩
  obtain ⟨eD,alt⟩:=step i n ys H5 w5
  rcases alt with ⟨stop,qd⟩ | ⟨go,hz,turn⟩
  ·refine thn (T.done (aX X scope (cellsFrom (s3.heap.objs.size+1) scope.names cl) s3.heap.objs.size (x::ns) s3 H3 fp) rfl rfl rfl hc i [] s5 _ H5 (fun _ _=>False) I5 (fpY fr5) st5 stop) fun r s6 ⟨hr,I6⟩ => ?_
   subst hr
   exact fin I6 qd
  ·refine thn (T.item (aX X scope (cellsFrom (s3.heap.objs.size+1) scope.names cl) s3.heap.objs.size (x::ns) s3 H3 fp) rfl rfl rfl hc i [] s5 _ H5 (fun _ _=>False) I5 (fpY fr5) st5 go) fun r s6 ⟨u,hr,h6⟩ => ?_
   subst hr
   refine thn h6 fun _ s7 ⟨xv',H7,I7,r7,y7,st7,fr7⟩ => ?_
   have I7':=I7.pinned (fpY fr7) (T.obj _ _ st7)
   have hst:PG (aX X scope (cellsFrom (s3.heap.objs.size+1) scope.names cl) s3.heap.objs.size (x::ns) s3 H3 fp) (.Name x px) (oO 0):=p4 hNc rfl hx (hxf.elim (fun z => .inl (by show (scope.names.lookup x == some .cell)=true; rw [z]; rfl)) .inr)
   refine thn (hst _ s7 _ H7 xv' u (fun σ8 H8=>σ8=(some xv'::cap.map fun k=>(σ[k]?).join)∧H8=H7) I7' r7 ⟨rfl,rfl⟩) fun _ s8 ⟨σ8,H8,I8,e8,e8'⟩ => ?_
   subst e8 e8'
   have back:∀ {σ9:St}{H9:Hp}{s9:Shared},Inv (aX X scope (cellsFrom (s3.heap.objs.size+1) scope.names cl) s3.heap.objs.size (x::ns) s3 H3 fp) ([]++nE fp s7.heap) σ9 H9 s9→tn (i+1) s9.heap∧∀ b∈fp,H9 b=none:=fun {σ9 H9 s9} I9=>by
    refine ⟨T.keep _ _ _ st7 fun b hb o e=>(I9.pin (b,o) (List.mem_append_right _ (List.mem_append_right _ (g7 hb e)))).1,fun b hb => ?_⟩
    obtain ⟨o,e,d⟩:=T.obj _ _ st7 b hb
    exact (I9.pin (b,o) (List.mem_append_right _ (List.mem_append_right _ (g7 hb e)))).2.1
   refine thn (ht' _ s8 _ _ _ I8 (turn xv' _ y7)) fun b s9 ⟨H9,I9,q9⟩ => ?_
   cases b with
   | false =>
    rw [if_neg Bool.false_ne_true] at q9 ⊢
    obtain ⟨m',hm,w9⟩:=q9
    obtain ⟨st9,fr9⟩:=back I9
    exact ⟨m',hm,i+1,ys,_,H9,I9.unpinned,st9,fr9,w9⟩
   | true =>
    rw [if_pos rfl] at q9 ⊢
    refine thn (he' _ s9 _ _ _ I9 q9) fun yv s10 ⟨y,H10,I10,r10,eD10,m',hm,w10⟩ => ?_
    refine thn (fD (X:=aX X scope (cellsFrom (s3.heap.objs.size+1) scope.names cl) s3.heap.objs.size (x::ns) s3 H3 fp) _ s10 _ H10 (.ref s2.heap.objs.size) [y] (.ref s2.heap.objs.size) [yv] (fun _ H11=>H11=upd H10 s2.heap.objs.size (.lst (ys++[y]))) I10 rfl (.cons r10 .nil) ⟨_,ys,y,rfl,rfl,eD10,hz,rfl⟩) fun _ s11 ⟨_,H11,I11,_,e11⟩ => ?_
    subst e11
    obtain ⟨st11,fr11⟩:=back I11
    exact ⟨m',hm,i+1,_,_,_,I11.unpinned,st11,fr11,w10⟩
 exact codeAny_compStart_list loop (T.self X.A 0 _ _ _ st4 loop)
theorem aK6 {X:Cx}{x:Str}{px pos:Pos}{iter elt:Expr}{ifs:List Expr}{scope:Scope}{ns:List Str}{cap:List Nat}{wi:TI}{tt:TT}{te:TE} (hc:X.calm=true) (hkind:scope.kind = .function)
  (hnames:∀ y∈scope.names,y.2 = .local→scope.names.lookup y.1=some .local) (hx:Loc (relabel scope X.env) x) (hxf:scope.names.lookup x=some .cell∨(relabel scope X.env).names.lookup x=some .local)
  (hNc:(x::ns).Nodup) (hlen:cap.length=ns.length) (hcap:∀ (j k:Nat) (nm:Str),cap[j]?=some k→ns[j]?=some nm→X.N[k]?=some nm∧(X.env.scope.names.lookup nm=some .cell∨X.env.scope.names.lookup nm=some .free))
  (hns:∀ nm∈ns,(nm,NameKind.free)∈scope.names∧(nm,NameKind.cell) ∉ scope.names) (hnsk:∀ nm∈ns,scope.names.lookup nm=some .free) (hfree:∀ y∈scope.names,y.2 = .free→X.env.scope.names.lookup y.1=some .cell∨X.env.scope.names.lookup y.1=some .free)
  (hi:PI X (.Name x px) iter wi)
  (ht:∀ cs C s₀ H₀ fp,PIf (aX X scope cs C (x::ns) s₀ H₀ fp) ifs tt) (he:∀ cs C s₀ H₀ fp,PE (aX X scope cs C (x::ns) s₀ H₀ fp) elt te)
  (hs:∀ v,foldedSetIterable iter X.env v=pure v:=by intro _; rfl) :
  PE X (.ListComp elt [⟨.Name x px,iter,ifs,0⟩] scope pos) (qF wi cap tt te):=by
 intro pins s σ H Q I h
 rw [eval_ListComp]
 refine vI hc hkind hnames hx hxf hNc hlen hcap hns hnsk hfree hi ht he hs (use:=none) I h fun D C H' s' J q ⟨m,hn⟩ cf=>⟨m,hn,fun h' hs' => ?_⟩
 exact ⟨.ref D,H',J.turned (t':=s'.toks) (it:=C) (fun b o hb e=>(hs'.2 b hb).trans e) cf.hn cf.hL (.inr cf.h1) cf.h2 cf.h3,rfl,q⟩
theorem aBA {y:Str}{py spos:Pos}{iy:Nat}{X:Cx}{x:Str}{px pos:Pos}{iter elt:Expr}{ifs:List Expr}{scope:Scope}{ns:List Str}{cap:List Nat}{wi:TI}{tt:TT}{te:TE} (hN:X.N.Nodup) (hiy:X.N[iy]?=some y) (hyl:X.env.scope.names.lookup y=some .local) (hc:X.calm=true) (hkind:scope.kind = .function)
  (hnames:∀ y∈scope.names,y.2 = .local→scope.names.lookup y.1=some .local) (hx:Loc (relabel scope X.env) x) (hxf:scope.names.lookup x=some .cell∨(relabel scope X.env).names.lookup x=some .local)
  (hNc:(x::ns).Nodup) (hlen:cap.length=ns.length) (hcap:∀ (j k:Nat) (nm:Str),cap[j]?=some k→ns[j]?=some nm→X.N[k]?=some nm∧(X.env.scope.names.lookup nm=some .cell∨X.env.scope.names.lookup nm=some .free))
  (hns:∀ nm∈ns,(nm,NameKind.free)∈scope.names∧(nm,NameKind.cell) ∉ scope.names) (hnsk:∀ nm∈ns,scope.names.lookup nm=some .free) (hfree:∀ y∈scope.names,y.2 = .free→X.env.scope.names.lookup y.1=some .cell∨X.env.scope.names.lookup y.1=some .free)
  (hi:PI X (.Name x px) iter wi)
  (ht:∀ cs C s₀ H₀ fp,PIf (aX X scope cs C (x::ns) s₀ H₀ fp) ifs tt) (he:∀ cs C s₀ H₀ fp,PE (aX X scope cs C (x::ns) s₀ H₀ fp) elt te)
  (hs:∀ v,foldedSetIterable iter X.env v=pure v:=by intro _; rfl)
  (hsw:swapsWith (.ListComp elt [⟨.Name x px,iter,ifs,0⟩] scope pos) (some (.Name y py)) spos.line X.env=pure true:=by rfl) :
  PS X (.Assign [.Name y py] (.ListComp elt [⟨.Name x px,iter,ifs,0⟩] scope pos) spos) (aBK (qF wi cap tt te) (oO iy)):=by
 intro pins s σ H D I h
 rw [exec_Assign_Name_used _ _ _ _ hsw]
 refine wpAny_bind (wpAny_standAt (wpAny_bind ?_))
 show wpAny _ X.A (do let _ ← comprehension (.ListComp elt [⟨.Name x px,iter,ifs,0⟩] scope pos) scope X.env _ (newList []) false (eval iter X.env) (some (assign (.Name y py) X.env))) _ _ s
 refine wpAny_bind (wpAny_mono (vI hc hkind hnames hx hxf hNc hlen hcap hns hnsk hfree hi ht he hs (use:=some (assign (.Name y py) X.env)) (Q':=fun _ s'=>SP X pins D .next s') I h fun L C H' s' J q ⟨m,hn⟩ cf => ?_) (fun _ s' hq=>wpAny_pure (wpAny_pure hq)) fun _ _ e=>e)
 refine wpAny_assign_Name (vP J hN hiy (.inl hyl) (v := .ref L) rfl (fun s2 J2 ⟨a,sb,ha⟩ => ?_) (.inr hyl))
 have hCa:C≠a:=by
  rcases ha with rfl | ha
  ·exact cf.hL
  ·exact Ne.symm (cf.h2 y a ha)
 refine ⟨m,hn.sameBut sb hCa,fun h' hs' => ?_⟩
 exact ⟨_,H',J2.turned (t':=s2.toks) (it:=C) (fun b o hb e=>(hs'.2 b hb).trans e) cf.hn cf.hL (.inr cf.h1) cf.h2 cf.h3,q⟩
structure Yields (J:It) (xs:List V) (Kp:Hp→Prop):Prop where
 go:∀ i H,Kp H→i < xs.length→J.go i H
 yld:∀ i H x H',Kp H→J.yld i H x H'→i < xs.length→H'=H∧xs[i]?=some x
 stop:∀ i H,Kp H→xs.length≤i→J.stop i H
theorem uJ {K:PySem.W.Frag}{a:Addr}{xs:List V}:Yields (Itl K a) xs (fun H=>SqL K H a xs) where
 go:=fun i H k h=>⟨xs,xs[i],k,by simp [h]⟩
 yld:=fun i H x H' k y _=>⟨y.1,y.2 xs k⟩
 stop:=fun i H k h=>⟨xs,k,h⟩
theorem xM {K:PySem.W.Frag}{a:Addr}{xs:List V}:Yields (Itt K a) xs (fun H=>SqT K H a xs) where
 go:=fun i H k h=>⟨xs,xs[i],k,by simp [h]⟩
 yld:=fun i H x H' k y _=>⟨y.1,y.2 xs k⟩
 stop:=fun i H k h=>⟨xs,k,h⟩
def Butd (D:Addr) (H H':Hp):Prop:=∀ b o,b≠D→H b=some o→H' b=some o
theorem Butd.upd {D:Addr}{H:Hp}{o:HO}:Butd D H (upd H D o):=fun b u n e=>by rw [bL n]; exact e
theorem Same.but {D:Addr}{H1 H H':Hp} (s:Same H1 H) (n:H1 D=none) (b:Butd D H H'):Same H1 H':=fun c o e=>b c o (bZ e n) (s c o e)
theorem vG {D:Addr}{H:Hp}{o:HO} (n:H D=none):Same H (upd H D o):=(Same.refl H).but n Butd.upd
theorem take_snoc {α:Type}{xs:List α}{i:Nat}{x:α} (h:xs[i]?=some x):xs.take (i+1)=xs.take i++[x]:=by
 rw [List.take_succ,h]; rfl
end L2
namespace L2
open PySem PySem.Spec PyProof.Rows
section
variable {X:Cx}
theorem uX {bs:List Bool}{its:List Value} (r:Vals (bs.map V.bl) its) {i:Nat}{v:Value} (e:its.toArray[i]?=some v):v = .bool (bs.getD i false):=by
 have e':its[i]?=some v:=by simpa using e
 have hl:=r.length
 rw [List.length_map] at hl
 have hi:i < bs.length:=by
  have:=(List.getElem?_eq_some_iff.mp e').1
  omega
 have hx:(bs.map V.bl)[i]?=some (.bl bs[i]):=by simp [hi]
 obtain ⟨u,hu,ru⟩:=r.get hx
 rw [e'] at hu
 cases hu
 have:v = .bool bs[i]:=ru
 rw [this]
 simp [List.getD,hi]
theorem all_range (bs:List Bool):((List.range bs.length).all fun i=>bs.getD i false)=bs.all id:=by
 induction bs with
 | nil=>rfl
 | cons b r ih =>
  rw [List.length_cons,List.range_succ_eq_map,List.all_cons,List.all_map,List.all_cons]
  rw [← ih]
  rfl
def rAll (K:PySem.W.Frag) (g:List Bool→Bool):List V→Hp→VK→Prop:=fun xs H Q=>∃ p bs,xs=[.ref p]∧(SqL K H p (bs.map V.bl)∨SqT K H p (bs.map V.bl))∧Q (.bl (g bs)) H
theorem aF4 (hc:X.calm=true):gL X (.builtin "all") (rAll X.K fun bs=>bs.all id):=by
 intro pins s σ H xs us Q I r h
 obtain ⟨p,bs,rfl,hq,q⟩:=h
 obtain ⟨u,rfl,rx⟩:=vals1 r
 cases rx
 refine call_all_walk ?_
 rcases hq with hq | hq
 ·obtain ⟨its,r',pl,hz⟩:=I.list hq
  have hlen:=r'.length
  rw [List.length_map] at hlen
  refine wpAny_pyIter_list pl.isList ?_
  have hne:p≠s.heap.objs.size:=Nat.ne_of_lt (Heap.lt_size pl.isList.choose_spec.1)
  refine ⟨_,_,_,_,_,_,fun i=>bs.getD i false,rfl,Walks.list (show X.A.in1.handled=none from I.ok.hd hc) s.heap.objs.size p hne its.toArray,⟨⟨_,Heap.get?_push_size _ rfl,rfl,rfl⟩,?_⟩,?_,?_⟩
  ·obtain ⟨o,e,z⟩:=pl.isList
   exact ⟨o,Heap.get?_push_of_some _ e,z⟩
  ·intro i v s' Q' E' hv hQ'
   rw [uX r' hv]
   exact wpAny_truthy_bool hQ'
  ·intro h' tk k
   refine ⟨.bl (bs.all id),H,?_,?_,q⟩
   ·exact I.kept (t':=tk) fun b o e=>k b o (by simp; exact Nat.ne_of_lt (Heap.lt_size e)) (Heap.get?_push_of_some _ e)
   ·show Value.bool _=Value.bool _
    rw [← all_range bs,List.size_toArray,← hlen]
 ·obtain ⟨its,r',pl,hz⟩:=I.tuple hq
  have hlen:=r'.length
  rw [List.length_map] at hlen
  have pl':s.heap.IsTuple p its.toArray:=pl
  refine wpAny_pyIter_tuple pl' ?_
  have hne:p≠s.heap.objs.size:=Nat.ne_of_lt (Heap.lt_size pl'.choose_spec.1)
  refine ⟨_,_,_,_,_,_,fun i=>bs.getD i false,rfl,Walks.tuple (show X.A.in1.handled=none from I.ok.hd hc) s.heap.objs.size p hne its.toArray,⟨⟨_,Heap.get?_push_size _ rfl,rfl,rfl⟩,?_⟩,?_,?_⟩
  ·obtain ⟨o,e,z⟩:=pl'
   exact ⟨o,Heap.get?_push_of_some _ e,z⟩
  ·intro i v s' Q' E' hv hQ'
   rw [uX r' hv]
   exact wpAny_truthy_bool hQ'
  ·intro h' tk k
   refine ⟨.bl (bs.all id),H,?_,?_,q⟩
   ·exact I.kept (t':=tk) fun b o e=>k b o (by simp; exact Nat.ne_of_lt (Heap.lt_size e)) (Heap.get?_push_of_some _ e)
   ·show Value.bool _=Value.bool _
    rw [← all_range bs,List.size_toArray,← hlen]
theorem uQ:∀ {ys:List Str}{its:List Value},Vals (ys.map V.str) its→StrsAre its ys
 | [],_,r=>by cases r; exact .nil
 | y::ys,_,r=>by
  cases r with
  | cons a b =>
   obtain ⟨t,rfl⟩:=a
   exact .cons y t (uQ b)
def rJoin (K:PySem.W.Frag):V→List V→Hp→VK→Prop:=fun x vs H Q=>∃ sep p ys,x = .str sep∧vs=[.ref p]∧(SqL K H p (ys.map V.str)∨SqT K H p (ys.map V.str))∧sep.length≤16∧(ys.map (·.length)).sum+ys.length≤1048576∧Q (.str (Txt.join sep ys)) H
theorem i7:MtR X "str.join" (rJoin X.K):=by
 intro pins s σ H x vs u us Q I rx rv h
 obtain ⟨sep,p,ys,rfl,rfl,hq,h1,h2,q⟩:=h
 obtain ⟨v,rfl,ry⟩:=vals1 rv
 cases ry
 obtain ⟨t,rfl⟩:=rx
 rcases hq with hq | hq
 ·obtain ⟨its,r',pl,hz⟩:=I.list hq
  exact join_listW pl.isList (uQ r') h1 h2 fun t' k=>⟨.str _,H,I.tok k,⟨t',rfl⟩,q⟩
 ·obtain ⟨its,r',pl,hz⟩:=I.tuple hq
  exact join_tupleW pl (uQ r') h1 h2 fun t' k=>⟨.str _,H,I.tok k,⟨t',rfl⟩,q⟩
def lO (x:Str) (n:Nat):Str:=⟨(List.replicate n x.cps).foldl (· ++ ·) #[]⟩
theorem xK (a:Array Nat):∀ (n:Nat) (acc:Array Nat),((List.replicate n a).foldl (· ++ ·) acc).toList=acc.toList++(List.replicate n a.toList).flatten
 | 0,acc=>by simp
 | n+1,acc=>by
  rw [List.replicate_succ,List.foldl_cons,xK a n,List.replicate_succ,List.flatten_cons]
  simp
theorem lX (x:Str) (n:Nat):(lO x n).cps.toList=(List.replicate n x.cps.toList).flatten:=by
 unfold lO
 rw [xK]; rfl
theorem aHF (x:Str) (n:Nat):(lO x n).length=x.length * n:=by
 show (lO x n).cps.size=x.cps.size * n
 rw [← Array.length_toList,lX,← Array.length_toList]
 generalize x.cps.toList=l
 induction n with
 | zero=>simp
 | succ n ih=>rw [List.replicate_succ,List.flatten_cons,List.length_append,ih,Nat.mul_succ,Nat.add_comm]
theorem gZ {x y:Str} (h:x.cps.toList=y.cps.toList):x=y:=by
 cases x; cases y
 simp only [Str.mk.injEq]
 exact Array.toList_inj.mp h
theorem aGV (x:Str):lO x 1=x:=gZ (by rw [lX]; simp)
theorem aGZ (x:Str) (n:Nat) (h:x.length=0):lO x n=x:=by
 have hx:x.cps.toList=[]:=List.eq_nil_of_length_eq_zero (by rw [Array.length_toList]; exact h)
 apply gZ
 rw [lX,hx]
 induction n with
 | zero=>rfl
 | succ n ih=>rw [List.replicate_succ,List.flatten_cons,ih]; rfl
def aHW:R2:=fun x y H Q=>∃ z n,x = .str z∧y = .int n ∧ -(2 ^ 40)≤n∧n < 2 ^ 40∧z.length * n.toNat≤sizeLine∧Q (.str (lO z n.toNat)) H
theorem qN:OpR X (binaryOp .Mult) aHW:=by
 intro pins s σ H x y u v Q I rx ry h
 obtain ⟨z,n,rfl,rfl,h1,h2,h3,q⟩:=h
 obtain ⟨t,rfl⟩:=rx
 obtain ⟨t',rfl⟩:=ry
 refine P.mul_str (by rw [decide_eq_false (by omega),decide_eq_false (by omega)]; rfl) (fun a b => ?_) (fun a b => ?_) ?_
 ·have:(n.toNat:Int)=n:=by omega
  have h4:((z.length:Int)) * n≤(sizeLine:Nat):=by rw [← this]; exact_mod_cast h3
  intro c
  have hn:0 < n:=by omega
  have:=(Int.ediv_lt_iff_lt_mul hn).mp c
  have h5:((sizeLine:Nat):Int) < 2 ^ 62:=by decide
  omega
 ·exact aGI h3
 ·by_cases c1:n < 1
  ·rw [if_pos c1]
   rw [show n.toNat=0 by omega] at q
   exact ⟨by decide, .str _,H,I.tok _,⟨_,rfl⟩,q⟩
  ·rw [if_neg c1]
   by_cases c2:(n == 1 || z.length == 0)=true
   ·rw [if_pos c2]
    refine ⟨.str z,H,I,⟨_,rfl⟩,?_⟩
    have e:lO z n.toNat=z:=by
     rw [Bool.or_eq_true,beq_iff_eq,beq_iff_eq] at c2
     rcases c2 with c | c
     ·rw [c]; exact aGV z
     ·exact aGZ z _ c
    rw [e] at q; exact q
   ·rw [if_neg c2]
    refine ⟨?_, .str _,H,I.tok _,⟨_,rfl⟩,q⟩
    show (lO z n.toNat).length≤sizeLine
    rw [aHF]; exact h3
end
end L2
namespace L2
open PySem PySem.Spec PyProof.Rows
def jM (sc scope:Scope) (x:Str) (ns:List Str) (cap:List Nat) (N:List Str):Bool :=
 decide (scope.kind = .function) && scope.names.all (fun y=>decide (y.2 ≠ .local) || decide (scope.names.lookup y.1=some .local)) && (decide (scope.names.lookup x=some .local) || decide (scope.names.lookup x=some .cell)) &&
 decide ((x::ns).Nodup) && decide (cap.length=ns.length) &&
 (List.range cap.length).all (fun j=>match cap[j]?,ns[j]? with
  | some k,some nm=>decide (N[k]?=some nm) && (decide (sc.names.lookup nm=some .cell) || decide (sc.names.lookup nm=some .free))
  | _,_=>true) &&
 ns.all (fun nm=>decide ((nm,NameKind.free)∈scope.names) && decide ((nm,NameKind.cell) ∉ scope.names) && decide (scope.names.lookup nm=some .free)) &&
 scope.names.all (fun y=>decide (y.2 ≠ .free) || (decide (sc.names.lookup y.1=some .cell) || decide (sc.names.lookup y.1=some .free)))
theorem eV {env:Env}:∀ {names:List (Str × NameKind)}{x:Str},names.lookup x=some .cell →
  (names.map fun (n,k)=>if (k == NameKind.free && env.scope.kind == .function && env.kindOf n == some .cell) then (n,NameKind.cell) else (n,k)).lookup x=some .cell
 | [],_,h=>by simp at h
 | (n,k)::r,x,h=>by
  have ih := @eV env r x
  show List.lookup x ((if (k == NameKind.free && env.scope.kind == .function && env.kindOf n == some .cell)=true then (n,NameKind.cell) else (n,k))::_)=_
  rw [List.lookup_cons] at h
  split
  ·rw [List.lookup_cons]
   cases hx:x == n with
   | true=>rfl
   | false=>rw [hx] at h; exact ih h
  ·rw [List.lookup_cons]
   cases hx:x == n with
   | true=>rw [hx] at h; exact h
   | false=>rw [hx] at h; exact ih h
structure CompOk (sc scope:Scope) (x:Str) (ns:List Str) (cap:List Nat) (N:List Str):Prop where
 hkind:scope.kind = .function
 hnames:∀ y∈scope.names,y.2 = .local→scope.names.lookup y.1=some .local
 hx:scope.names.lookup x=some .local∨scope.names.lookup x=some .cell
 hNc:(x::ns).Nodup
 hlen:cap.length=ns.length
 hcap:∀ (j k:Nat) (nm:Str),cap[j]?=some k→ns[j]?=some nm→N[k]?=some nm∧(sc.names.lookup nm=some .cell∨sc.names.lookup nm=some .free)
 hns:∀ nm∈ns,(nm,NameKind.free)∈scope.names∧(nm,NameKind.cell) ∉ scope.names
 hnsk:∀ nm∈ns,scope.names.lookup nm=some .free
 hfree:∀ y∈scope.names,y.2 = .free→sc.names.lookup y.1=some .cell∨sc.names.lookup y.1=some .free
theorem mK {sc scope:Scope}{x:Str}{ns:List Str}{cap:List Nat}{N:List Str} (h:jM sc scope x ns cap N=true):CompOk sc scope x ns cap N:=by
 unfold jM at h
 simp only [Bool.and_eq_true,Bool.or_eq_true,decide_eq_true_eq,List.all_eq_true] at h
 obtain ⟨⟨⟨⟨⟨⟨⟨h1,h2⟩,h3⟩,h4⟩,h5⟩,h6⟩,h7⟩,h8⟩:=h
 refine ⟨h1,fun y hy e=>(h2 y hy).resolve_left (fun z=>z e),h3,h4,h5,fun j k nm e1 e2 => ?_,fun nm hm=>(h7 nm hm).1,fun nm hm=>(h7 nm hm).2,fun y hy e=>(h8 y hy).resolve_left (fun z=>z e)⟩
 have hj:j < cap.length:=(List.getElem?_eq_some_iff.mp e1).1
 have:=h6 j (List.mem_range.mpr hj)
 rw [e1,e2] at this
 simpa using this
theorem aHR {X:Cx}{x:Str}{px pos:Pos}{iter elt:Expr}{ifs:List Expr}{scope sc:Scope}{N:List Str} (ns:List Str) (cap:List Nat) {wi:TI}{tt:TT}{te:TE} (hc:X.calm=true) (hsc:X.env.scope=sc) (hN:X.N=N) (ok:jM sc scope x ns cap N=true)
  (hi:PI X (.Name x px) iter wi)
  (ht:∀ cs C s₀ H₀ fp,PIf (aX X scope cs C (x::ns) s₀ H₀ fp) ifs tt) (he:∀ cs C s₀ H₀ fp,PE (aX X scope cs C (x::ns) s₀ H₀ fp) elt te)
  (hs:∀ v,foldedSetIterable iter X.env v=pure v:=by intro _; rfl) :
  PE X (.ListComp elt [⟨.Name x px,iter,ifs,0⟩] scope pos) (qF wi cap tt te):=by
 subst hsc hN
 have k:=mK ok
 refine aK6 hc k.hkind k.hnames ?_ ?_ k.hNc k.hlen k.hcap k.hns k.hnsk k.hfree hi ht he hs
 ·rcases k.hx with z | z
  ·exact .inl (lookup_relabel_local z)
  ·exact .inr (eV z)
 ·rcases k.hx with z | z
  ·exact .inr (lookup_relabel_local z)
  ·exact .inl z
theorem zI {y:Str}{py spos:Pos} (iy:Nat) {X:Cx}{x:Str}{px pos:Pos}{iter elt:Expr}{ifs:List Expr}{scope sc:Scope}{N:List Str} (ns:List Str) (cap:List Nat) {wi:TI}{tt:TT}{te:TE} (hNd:N.Nodup) (hiy:N[iy]?=some y) (hyl:sc.names.lookup y=some .local) (hc:X.calm=true) (hsc:X.env.scope=sc) (hN:X.N=N) (ok:jM sc scope x ns cap N=true)
  (hi:PI X (.Name x px) iter wi)
  (ht:∀ cs C s₀ H₀ fp,PIf (aX X scope cs C (x::ns) s₀ H₀ fp) ifs tt) (he:∀ cs C s₀ H₀ fp,PE (aX X scope cs C (x::ns) s₀ H₀ fp) elt te)
  (hs:∀ v,foldedSetIterable iter X.env v=pure v:=by intro _; rfl)
  (hsw:swapsWith (.ListComp elt [⟨.Name x px,iter,ifs,0⟩] scope pos) (some (.Name y py)) spos.line X.env=pure true:=by rfl) :
  PS X (.Assign [.Name y py] (.ListComp elt [⟨.Name x px,iter,ifs,0⟩] scope pos) spos) (aBK (qF wi cap tt te) (oO iy)):=by
 subst hsc hN
 have k:=mK ok
 refine aBA hNd hiy hyl hc k.hkind k.hnames ?_ ?_ k.hNc k.hlen k.hcap k.hns k.hnsk k.hfree hi ht he hs hsw
 ·rcases k.hx with z | z
  ·exact .inl (lookup_relabel_local z)
  ·exact .inr (eV z)
 ·rcases k.hx with z | z
  ·exact .inr (lookup_relabel_local z)
  ·exact .inl z
end L2
namespace R
open PySem L2
theorem BL:bootBuiltins "list" = some (.type "list"):=by decide +kernel
theorem BAll:bootBuiltins "all" = some (.builtin "all"):=by decide +kernel
structure Bn2 (mg:Str→Option Value):Prop where
 str:mg "str" = none
 list:mg "list" = none
 all:mg "all" = none
 any:mg "any" = none
 max:mg "max" = none
 enum:mg "enumerate" = none
def sgn (c:Nat):Bool:=c == 35 || c == 46
theorem aU {n:Nat} (h:n≤1000000):n≤sizeLine:=Nat.le_trans h (by decide)
abbrev Sq (K:PySem.W.Frag) (H:Hp) (a:Addr) (xs:List V):Prop:=SqL K H a xs∨SqT K H a xs
theorem aI7 {H H':Hp}{a:Addr}{u:HO} (s:Same H H') (h:Rd H a u):Rd H' a u:=by
 rcases h with h | ⟨o,h⟩
 ·exact .inl (s _ _ h)
 ·exact .inr ⟨o,s _ _ h⟩
theorem eE {K:PySem.W.Frag}{H H':Hp}{a:Addr}{xs:List V} (s:Same H H') (h:SqT K H a xs):SqT K H' a xs:=h.imp (aI7 s) id
def ofL (l:List Nat):Str:=⟨l.toArray⟩
def atS (z:Str) (j:Nat):Nat:=z.cps.getD j 0
theorem vF:∀ (ps:List Str) (acc:Array Nat),(ps.foldl (fun acc p=>acc++(Str.empty).cps++p.cps) acc).toList=acc.toList++(ps.map (·.cps.toList)).flatten
 | [],acc=>by simp
 | p::ps,acc=>by
  rw [List.foldl_cons,vF ps]
  simp [Str.empty]
theorem join_list (ps:List Str):(Txt.join Str.empty ps).cps.toList=(ps.map (·.cps.toList)).flatten:=by
 cases ps with
 | nil=>rfl
 | cons p ps =>
  show (((p::ps).drop 1).foldl (fun acc p=>acc++(Str.empty).cps++p.cps) ((p::ps).headD Str.empty).cps).toList=_
  rw [vF]
  simp
theorem jZ (l:List Nat):Txt.join Str.empty (l.map fun c=>(⟨#[c]⟩:Str))=ofL l:=by
 apply gZ
 rw [join_list]
 simp only [ofL,List.map_map]
 induction l with
 | nil=>rfl
 | cons a l ih=>rw [List.map_cons,List.flatten_cons,ih]; rfl
theorem nM (l:List Nat):(ofL l).length=l.length:=by simp [ofL,Str.length]
theorem j8 {z:Str}{j:Nat} (h:j < z.length):atI z.cps.toList (j:Int)=some (atS z j):=by
 have h':j < z.cps.size:=h
 refine cW ?_
 simp [atS,h',Array.getD]
def aJ (zs:List Str):List Str:=(List.range ((zs.head?.map (·.length)).getD 0)).map fun j=>ofL (zs.map (atS · j))
theorem mQ {K:PySem.W.Frag}{H:Hp}{p:Addr}{xs:List V}{i:Int}{v:V}{Q:VK} (h:Sq K H p xs) (e:atI xs i=some v) (q:Q v H):rIx K (.ref p) (.int i) H Q:=by
 rcases h with h | h
 ·exact .inl ⟨p,xs,i,v,rfl,rfl,h,e,q⟩
 ·exact .inr (.inl ⟨p,xs,i,v,rfl,rfl,h,e,q⟩)
theorem fB:("" : Str)=Str.empty:=by decide +kernel
def dots (n:Nat):Str:=ofL (List.replicate n 46)
theorem o7 (n:Nat):lO "." n=dots n:=by
 apply gZ
 rw [lX]
 have e:("." : Str).cps.toList=[46]:=by decide +kernel
 rw [e]
 show _=(List.replicate n 46)
 induction n with
 | zero=>rfl
 | succ n ih=>rw [List.replicate_succ,List.flatten_cons,ih,List.replicate_succ]; rfl
def framed (zs:List Str):List Str:=[dots ((zs.head?.map (·.length)).getD 0)]++zs++[dots ((zs.head?.map (·.length)).getD 0)]
def chg (zs:List Str):List Nat:=if zs.isEmpty then [] else (List.range (zs.length+1)).filter fun i => !decide ((framed zs)[i]?=(framed zs)[i+1]?)
theorem g6 (zs:List Str):(framed zs).length=zs.length+2:=by simp [framed]
theorem eB (zs:List Str):∀ i∈chg zs,i≤zs.length:=fun i hi=>by
 unfold chg at hi
 split at hi
 ·cases hi
 ·have:=List.mem_range.mp (List.mem_filter.mp hi).1
  omega
theorem cL (zs:List Str):(chg zs).Pairwise (· < ·):=by
 unfold chg
 split
 ·exact List.Pairwise.nil
 ·exact List.Pairwise.filter _ List.pairwise_lt_range
theorem lB (zs:List Str):(chg zs).length≤zs.length+1:=by
 unfold chg
 split
 ·simp
 ·exact Nat.le_trans (List.length_filter_le _ _) (by simp)
theorem i9 {l:List Nat}{n:Nat} (h:l.Pairwise (· < ·)) (b:∀ i∈l,i≤n):∀ i∈l.dropLast,i < n:=fun i hi=>by
 have hne:l≠[]:=fun e=>by rw [e] at hi; cases hi
 have e:=List.dropLast_concat_getLast hne
 rw [← e] at h
 have h1:=(List.pairwise_append.mp h).2.2 i hi (l.getLast hne) (by simp)
 have h2:=b _ (List.getLast_mem hne)
 omega
theorem pX (zs:List Str) (h:chg zs≠[]):zs≠[]:=fun e=>h (by rw [e]; rfl)
def cV (zs:List Str):List Str:=(chg zs).dropLast.map fun i=>ofL ((chg (aJ zs)).dropLast.map (atS (zs.getD i Str.empty)))
theorem jV {zs:List Str}{n:Nat} (h:∀ z∈zs,z.length=n):(aJ zs).length≤n∧(zs≠[]→(aJ zs).length=n):=by
 unfold aJ
 rw [List.length_map,List.length_range]
 cases zs with
 | nil=>exact ⟨Nat.zero_le _,fun e=>absurd rfl e⟩
 | cons z zr =>
  have:=h z (by simp)
  exact ⟨by show z.length≤n; omega,fun _=>this⟩
theorem dB {zs:List Str}:∀ z∈aJ zs,z.length=zs.length:=fun z hz=>by
 obtain ⟨j,_,rfl⟩:=List.mem_map.mp hz
 rw [nM,List.length_map]
structure KnL (K:PySem.W.Frag) (H:Hp) (v:V):Prop where
 kn:Kn K H v
 each:∀ a xs,v = .ref a→H a=some (.lst xs)→∀ x∈xs,Kn K H x
end R
namespace L2
open PySem PySem.Spec PyProof.Rows
section
variable {X:Cx}
end
end L2
namespace L2
open PySem PySem.Spec PyProof.Rows
def lL (l:List Nat) (lo hi:Option Int):List Nat:=(l.drop (HT.sIx l.length 0 lo)).take (HT.sIx l.length l.length hi - HT.sIx l.length 0 lo)
def gT (z:Str) (lo hi:Option Int):Str:=⟨(lL z.cps.toList lo hi).toArray⟩
def rSlS:V→Option Int→Option Int→Hp→VK→Prop:=fun x lo hi H Q=>∃ z,x = .str z∧z.length≤sizeLine∧Q (.str (gT z lo hi)) H
theorem idx_eq (lo hi:Option Int) (n:Nat):Builtin.Str.strSliceIndices lo hi 1 n=sliceRange ((HT.sIx n 0 lo:Nat):Int) ((HT.sIx n n hi:Nat):Int) 1:=by
 obtain ⟨h1,h2,h3⟩:=o8 lo hi n
 rw [← h1,← h2]
 cases lo <;> cases hi <;> rfl
theorem aCP (z:Str) (lo hi:Option Int):(Builtin.Str.strSliceIndices lo hi 1 z.length).filterMap (z.cps[·]?)=lL z.cps.toList lo hi:=by
 rw [idx_eq,sliceRange_one,pick_run]
 unfold lL
 rw [Array.length_toList]
 rfl
theorem aHQ (l:List Nat) (lo hi:Option Int):(lL l lo hi).length≤l.length:=by
 unfold lL
 rw [List.length_take,List.length_drop]; omega
theorem aDC (z:Str) (lo hi:Option Int) (h:(Builtin.Str.strSliceIndices lo hi 1 z.length).length=z.length):gT z lo hi=z:=by
 rw [idx_eq,sliceRange_one,List.length_map,List.length_range] at h
 apply gZ
 show lL z.cps.toList lo hi=z.cps.toList
 unfold lL
 have hn:z.cps.toList.length=z.length:=Array.length_toList
 rw [hn]
 have h1:=HT.aD3 z.length z.length (Nat.le_refl _) hi
 by_cases h0:HT.sIx z.length 0 lo=0
 ·rw [h0,List.drop_zero]
  rw [h0] at h
  exact List.take_of_length_le (by rw [hn]; omega)
 ·have:z.length=0:=by omega
  rw [List.eq_nil_of_length_eq_zero (hn.trans this)]
  simp
section
variable {X:Cx}
theorem aEA:SlR X rSlS:=by
 intro pins s σ H x v vl vu lo hi sl Q I rx hs pl pu h
 obtain ⟨z,rfl,hz,q⟩:=h
 obtain ⟨t,rfl⟩:=rx
 refine ⟨"str", _,slot_str_getitem.lookup,typeIs_str s z t,?_⟩
 have key:∀ (l u:Option (Int × Tok)),l.map (·.1)=lo→u.map (·.1)=hi→s.heap.IsSlice sl l u none→wpAny (model X.prog X.w) X.A (getItem (.str z t) (.ref sl)) (EP X pins σ Q) X.xe s:=fun l u e1 e2 hsl=>by
  refine wpAny_getItem_str_slice hsl rfl ?_
  unfold sliceMade slicePicked
  rw [e1,e2]
  show (if ((1:Int) == 1 && (Builtin.Str.strSliceIndices lo hi 1 z.length).length == z.length)=true then Made.val (.str z t) else Made.str ⟨((Builtin.Str.strSliceIndices lo hi 1 z.length).filterMap (z.cps[·]?)).toArray⟩).post _ s
  by_cases c:((1:Int) == 1 && (Builtin.Str.strSliceIndices lo hi 1 z.length).length == z.length)=true
  ·rw [if_pos c]
   have c':(Builtin.Str.strSliceIndices lo hi 1 z.length).length=z.length:=by simpa using c
   rw [aDC z lo hi c'] at q
   exact ⟨.str z,H,I,⟨t,rfl⟩,q⟩
  ·rw [if_neg c,aCP]
   refine ⟨?_, .str (gT z lo hi),H,I.tok _,⟨_,rfl⟩,q⟩
   show (lL z.cps.toList lo hi).toArray.size≤sizeLine
   rw [List.size_toArray]
   exact Nat.le_trans (aHQ _ _ _) (by rw [Array.length_toList]; exact hz)
 cases pl with
 | none =>
  cases pu with
  | none=>exact key none none rfl rfl hs
  | int j u=>exact key none (some (j,u)) rfl rfl hs
 | int i u' =>
  cases pu with
  | none=>exact key (some (i,u')) none rfl rfl hs
  | int j u=>exact key (some (i,u')) (some (j,u)) rfl rfl hs
end
end L2
namespace L2
open PySem PySem.Spec PyProof.Rows
def aH1:V→Bool
 | .ref _=>true
 | .non=>true
 | .bl _=>true
 | .int _=>true
 | .str _=>true
 | _=>false
theorem t7 {xs:List V}{us:List Value} (r:Vals xs us) {j:Nat} (h:j < us.toArray.size):∃ x,xs[j]?=some x∧RelV x us.toArray[j]:=by
 have l:=r.length
 rw [List.size_toArray] at h
 have g:xs[j]?=some (xs[j]'(by omega)):=by simp
 obtain ⟨u,eu,ru⟩:=r.get g
 refine ⟨_,g,?_⟩
 have:us.toArray[j]=u:=by
  rw [List.getElem?_eq_getElem h] at eu
  simpa using eu
 rw [this]
 exact ru
inductive Alike (K:PySem.W.Frag) (H:Hp):V→V→Prop
 | one {v:V} (h:aH1 v=true):Alike K H v v
 | lists {a b:Addr}{xs:List V} (ha:SqL K H a xs) (hb:SqL K H b xs) (h:xs.all aH1=true):Alike K H (.ref a) (.ref b)
section
variable {X:Cx}
end
end L2
namespace L2
open PySem PySem.Spec PyProof.Rows
section
variable {X:Cx}{o e:Expr}{es:List Expr}{to:TE}{t:TA}{name:Str}{apos cpos:Pos}{T id:String}{r:V→List V→Hp→VK→Prop}
end
end L2
namespace Z
open PySem L2
inductive D where
 | non | bl (b:Bool) | int (i:Int) | str (x:Str) | mt (a:Addr) | tup (ds:List D) | lst (ds:List D) | fl (ds:List D) | st (ks:List (List Int))
abbrev Fg:=PySem.W.Frag
def aM8 (k:List Int):Int:=reduceHash (Builtin.Tuple.tupleHashOf (k.map hashInt))
def entS (p:List Int × Addr):DictEntry:={ hash:=aM8 p.1,key := .ref p.2,val := .bool true }
def DSt (a:Addr) (xs:List (List Int × Addr)) (ep:Nat) (h:Heap):Prop:=(a == sysModules)=false∧∃ o,h.get? a=some o∧o.ExactDict∧o.data = .dict (xs.map entS).toArray ep
structure StO (K:Fg) (G:Hp) (o:Option HO) (a:Addr) (ks:List (List Int)) (xs:List (List Int × Addr)) (ep:Nat):Prop where
 nd:ks.Nodup
 len:ks.length≤sizeLine
 keys:xs.map (·.1)=ks
 at_:∀ p∈xs,SqT K G p.2 (p.1.map V.int)
 ob:o=some (.ext (DSt a xs ep))
theorem StO.mv {K:Fg}{G G':Hp}{o o':Option HO}{a:Addr}{ks:List (List Int)}{xs:List (List Int × Addr)}{ep:Nat} (h:StO K G o a ks xs ep) (s:Same G G') (e:o'=o):StO K G' o' a ks xs ep :=
 ⟨h.nd,h.len,h.keys,fun p hp=>R.eE s (h.at_ p hp),e.trans h.ob⟩
mutual
def Den (K:Fg) (G:Hp):D→V→Prop
 | .non,v=>v = .non
 | .bl b,v=>v = .bl b
 | .int i,v=>v = .int i
 | .str x,v=>v = .str x
 | .mt a,v=>v = .ref a
 | .tup ds,v=>∃ a vs,v = .ref a∧SqT K G a vs∧Dens K G ds vs
 | .lst ds,v=>∃ a vs,v = .ref a∧G a=some (.lst vs)∧Dens K G ds vs
 | .fl ds,v=>∃ a vs,v = .ref a∧SqL K G a vs∧Dens K G ds vs
 | .st ks,v=>∃ a xs ep,v = .ref a∧StO K G (G a) a ks xs ep
def Dens (K:Fg) (G:Hp):List D→List V→Prop
 | [],vs=>vs=[]
 | d::ds,vs=>∃ v r,vs=v::r∧Den K G d v∧Dens K G ds r
end
mutual
theorem Den.mono {K:Fg}{G G':Hp} (s:Same G G'):∀ (d:D) {v:V},Den K G d v→Den K G' d v
 | .non,_,h=>by simp only [Den] at h ⊢; exact h
 | .bl _,_,h=>by simp only [Den] at h ⊢; exact h
 | .int _,_,h=>by simp only [Den] at h ⊢; exact h
 | .str _,_,h=>by simp only [Den] at h ⊢; exact h
 | .mt _,_,h=>by simp only [Den] at h ⊢; exact h
 | .tup ds,_,h=>by
  simp only [Den] at h ⊢
  obtain ⟨a,vs,e,q,r⟩:=h
  exact ⟨a,vs,e,R.eE s q,Dens.mono s ds r⟩
 | .lst ds,_,h=>by
  simp only [Den] at h ⊢
  obtain ⟨a,vs,e,q,r⟩:=h
  exact ⟨a,vs,e,s _ _ q,Dens.mono s ds r⟩
 | .fl ds,_,h=>by
  simp only [Den] at h ⊢
  obtain ⟨a,vs,e,q,r⟩:=h
  exact ⟨a,vs,e,s.seq q,Dens.mono s ds r⟩
 | .st ks,_,h=>by
  simp only [Den] at h ⊢
  obtain ⟨a,xs,ep,e,q⟩:=h
  exact ⟨a,xs,ep,e,q.mv s ((s _ _ q.ob).trans q.ob.symm)⟩
theorem Dens.mono {K:Fg}{G G':Hp} (s:Same G G'):∀ (ds:List D) {vs:List V},Dens K G ds vs→Dens K G' ds vs
 | [],_,h=>by simp only [Dens] at h ⊢; exact h
 | d::ds,_,h=>by
  simp only [Dens] at h ⊢
  obtain ⟨v,r,e,h1,h2⟩:=h
  exact ⟨v,r,e,Den.mono s d h1,Dens.mono s ds h2⟩
end
theorem Den.up {K:Fg}{G G':Hp}{d:D}{v:V} (h:Den K G d v) (s:Same G G'):Den K G' d v:=Den.mono s d h
theorem Dens.up {K:Fg}{G G':Hp}{ds:List D}{vs:List V} (h:Dens K G ds vs) (s:Same G G'):Dens K G' ds vs:=Dens.mono s ds h
theorem bV {K:Fg}{G:Hp}:Dens K G [] []:=by simp only [Dens]
theorem bC {K:Fg}{G:Hp}{d:D}{v:V}{ds:List D}{vs:List V} (h:Den K G d v) (r:Dens K G ds vs):Dens K G (d::ds) (v::vs):=by
 simp only [Dens]; exact ⟨v,vs,rfl,h,r⟩
theorem bX {K:Fg}{G:Hp}{d:D}{ds:List D}{vs:List V} (h:Dens K G (d::ds) vs):∃ v r,vs=v::r∧Den K G d v∧Dens K G ds r:=by simp only [Dens] at h; exact h
theorem cG {K:Fg}{G:Hp}{vs:List V} (h:Dens K G [] vs):vs=[]:=by simp only [Dens] at h; exact h
theorem Dens.len {K:Fg}{G:Hp}:∀ {ds:List D}{vs:List V},Dens K G ds vs→ds.length=vs.length
 | [],_,h=>by rw [cG h]; rfl
 | d::ds,_,h=>by
  obtain ⟨v,r,rfl,_,h2⟩:=bX h
  rw [List.length_cons,List.length_cons,Dens.len h2]
theorem Dens.get {K:Fg}{G:Hp}:∀ {ds:List D}{vs:List V}{i:Nat}{d:D},Dens K G ds vs→ds[i]?=some d→∃ v,vs[i]?=some v∧Den K G d v
 | [],_,_,_,_,e=>by simp at e
 | d0::ds,_,0,d,h,e=>by
  obtain ⟨v,r,rfl,h1,_⟩:=bX h
  simp at e; subst e
  exact ⟨v,rfl,h1⟩
 | d0::ds,_,i+1,d,h,e=>by
  obtain ⟨v,r,rfl,_,h2⟩:=bX h
  obtain ⟨u,a,b⟩:=Dens.get (i:=i) h2 (by simpa using e)
  exact ⟨u,by simpa using a,b⟩
theorem Dens.get' {K:Fg}{G:Hp}:∀ {ds:List D}{vs:List V}{i:Nat}{v:V},Dens K G ds vs→vs[i]?=some v→∃ d,ds[i]?=some d∧Den K G d v:=fun {ds vs i v} h e=>by
 have hi:i < vs.length:=(List.getElem?_eq_some_iff.mp e).1
 rw [← h.len] at hi
 have e2:ds[i]?=some ds[i]:=by simp [hi]
 obtain ⟨u,a,b⟩:=h.get e2
 rw [e] at a; cases a
 exact ⟨_,e2,b⟩
theorem Dens.append {K:Fg}{G:Hp}:∀ {ds es:List D}{vs ws:List V},Dens K G ds vs→Dens K G es ws→Dens K G (ds++es) (vs++ws)
 | [],_,_,_,h,r=>by rw [cG h]; exact r
 | d::ds,_,_,_,h,r=>by
  obtain ⟨v,t,rfl,h1,h2⟩:=bX h
  exact bC h1 (Dens.append h2 r)
theorem Dens.take {K:Fg}{G:Hp}:∀ {ds:List D}{vs:List V} (n:Nat),Dens K G ds vs→Dens K G (ds.take n) (vs.take n)
 | _,_,0,_=>by simp only [List.take_zero]; exact bV
 | [],_,n+1,h=>by rw [cG h]; exact bV
 | d::ds,_,n+1,h=>by
  obtain ⟨v,t,rfl,h1,h2⟩:=bX h
  exact bC h1 (Dens.take n h2)
theorem Dens.drop {K:Fg}{G:Hp}:∀ {ds:List D}{vs:List V} (n:Nat),Dens K G ds vs→Dens K G (ds.drop n) (vs.drop n)
 | _,_,0,h=>h
 | [],_,n+1,h=>by rw [cG h]; exact bV
 | d::ds,_,n+1,h=>by
  obtain ⟨v,t,rfl,h1,h2⟩:=bX h
  exact Dens.drop n h2
theorem Dens.reverse {K:Fg}{G:Hp}:∀ {ds:List D}{vs:List V},Dens K G ds vs→Dens K G ds.reverse vs.reverse
 | [],_,h=>by rw [cG h]; exact bV
 | d::ds,_,h=>by
  obtain ⟨v,t,rfl,h1,h2⟩:=bX h
  rw [List.reverse_cons,List.reverse_cons]
  exact (Dens.reverse h2).append (bC h1 bV)
theorem Dens.set {K:Fg}{G:Hp}{d:D}{v:V} (e:Den K G d v):∀ {ds:List D}{vs:List V} (i:Nat),Dens K G ds vs→Dens K G (ds.set i d) (vs.set i v)
 | [],_,_,h=>by rw [cG h]; exact bV
 | d0::ds,_,0,h=>by
  obtain ⟨u,t,rfl,h1,h2⟩:=bX h
  exact bC e h2
 | d0::ds,_,i+1,h=>by
  obtain ⟨u,t,rfl,h1,h2⟩:=bX h
  exact bC h1 (Dens.set e i h2)
theorem Dens.atI {K:Fg}{G:Hp}{ds:List D}{vs:List V}{i:Int}{d:D} (h:Dens K G ds vs) (e:atI ds i=some d):∃ v,L2.atI vs i=some v∧Den K G d v:=by
 unfold L2.atI at e ⊢
 rw [← h.len]
 cases hj:ixN ds.length i with
 | none=>rw [hj] at e; cases e
 | some j =>
  rw [hj] at e
  exact h.get e
inductive MO where
 | lst (ds:List D)
 | st (ks:List (List Int))
 | ob (o:HO)
abbrev Mem:=Addr→Option MO
def cF (M:Mem) (a:Addr) (o:MO):Mem:=fun b=>if b=a then some o else M b
def iQ (M:Mem) (a:Addr):Mem:=fun b=>if b=a then none else M b
theorem aZ {M:Mem}{a:Addr}{o:MO}:cF M a o a=some o:=by unfold cF; rw [if_pos rfl]
theorem d9 {M:Mem}{a b:Addr}{o:MO} (h:b≠a):cF M a o b=M b:=by unfold cF; rw [if_neg h]
theorem lW {M:Mem}{a:Addr}{o u:MO}:cF (cF M a o) a u=cF M a u:=by
 funext b; unfold cF; split <;> rfl
theorem mO {M:Mem}{a:Addr}:iQ M a a=none:=by unfold iQ; rw [if_pos rfl]
theorem jR {M:Mem}{a b:Addr} (h:b≠a):iQ M a b=M b:=by unfold iQ; rw [if_neg h]
def Le (M M':Mem):Prop:=∀ a o,M a=some o→M' a=some o
theorem Le.refl (M:Mem):Le M M:=fun _ _ h=>h
theorem Le.upd {M M':Mem}{a:Addr}{o:MO} (h:Le M M') (n:M a=none):Le M (cF M' a o):=fun b u e=>by
 rw [d9 (fun z=>by rw [z,n] at e; cases e)]; exact h b u e
def MOk (K:Fg) (G H:Hp) (a:Addr):MO→Prop
 | .lst ds=>∃ vs,H a=some (.lst vs)∧Dens K G ds vs
 | .st ks=>∃ xs ep,StO K G (H a) a ks xs ep
 | .ob o=>H a=some o
theorem MOk.mv {K:Fg}{G G' H H':Hp}{a:Addr}{m:MO} (h:MOk K G H a m) (s:Same G G') (e:H' a=H a):MOk K G' H' a m:=by
 cases m with
 | lst ds=>obtain ⟨vs,e1,e2⟩:=h; exact ⟨vs,e.trans e1,e2.up s⟩
 | st ks=>obtain ⟨xs,ep,q⟩:=h; exact ⟨xs,ep,q.mv s e⟩
 | ob o=>exact e.trans h
structure Rel (K:Fg) (G H:Hp) (M:Mem):Prop where
 same:Same G H
 mem:∀ a o,M a=some o→G a=none∧MOk K G H a o
structure Stp (K:Fg) (G H:Hp) (M:Mem) (G' H':Hp) (M':Mem):Prop where
 gg:Same G G'
 rel:Rel K G' H' M'
 fr:∀ a o,H a=some o→G a=none→M a=none→H' a=some o∧G' a=none∧M' a=none
theorem Stp.refl {K:Fg}{G H:Hp}{M:Mem} (r:Rel K G H M):Stp K G H M G H M:=⟨Same.refl G,r,fun _ _ h h1 h2=>⟨h,h1,h2⟩⟩
theorem Stp.trans {K:Fg}{G H G1 H1 G2 H2:Hp}{M M1 M2:Mem} (a:Stp K G H M G1 H1 M1) (b:Stp K G1 H1 M1 G2 H2 M2):Stp K G H M G2 H2 M2 :=
 ⟨a.gg.trans b.gg,b.rel,fun c o h h1 h2=>let ⟨x,y,z⟩:=a.fr c o h h1 h2; b.fr c o x y z⟩
theorem Rel.le {K:Fg}{G H:Hp}{M M':Mem} (r:Rel K G H M) (l:Le M' M):Rel K G H M':=⟨r.same,fun a o h=>r.mem a o (l a o h)⟩
theorem Rel.got {K:Fg}{G H:Hp}{M:Mem}{a:Addr}{o:MO} (r:Rel K G H M) (h:M a=some o):∃ u,H a=some u:=by
 cases o with
 | lst ds=>obtain ⟨_,vs,e,_⟩:=r.mem a _ h; exact ⟨_,e⟩
 | st ks=>obtain ⟨_,xs,ep,q⟩:=r.mem a _ h; exact ⟨_,q.ob⟩
 | ob o=>exact ⟨o,(r.mem a _ h).2⟩
theorem Rel.free {K:Fg}{G H:Hp}{M:Mem}{p:Addr} (r:Rel K G H M) (h:H p=none):G p=none∧M p=none:=by
 refine ⟨r.same.free h,?_⟩
 cases e:M p with
 | none=>rfl
 | some o=>obtain ⟨u,q⟩:=r.got e; rw [h] at q; cases q
theorem Rel.new {K:Fg}{G H:Hp}{M:Mem}{p:Addr}{o:HO} (r:Rel K G H M) (h:H p=none):Stp K G H M (upd G p o) (upd H p o) M:=by
 have hG:=(r.free h).1
 have s1:Same G (upd G p o):=vG hG
 refine ⟨s1,⟨fun b u e => ?_,fun a m e => ?_⟩,fun a u e1 e2 e3 => ?_⟩
 ·by_cases z:b=p
  ·subst z; rw [bQ] at e ⊢; exact e
  ·rw [bL z] at e ⊢; exact r.same b u e
 ·obtain ⟨u,q⟩:=r.got e
  have z:a≠p:=bZ q h
  refine ⟨by rw [bL z]; exact (r.mem a m e).1,?_⟩
  exact (r.mem a m e).2.mv s1 (bL z)
 ·have z:a≠p:=bZ e1 h
  exact ⟨by rw [bL z]; exact e1,by rw [bL z]; exact e2,e3⟩
theorem Rel.newM {K:Fg}{G H:Hp}{M:Mem}{p:Addr}{vs:List V}{ds:List D} (r:Rel K G H M) (h:H p=none) (e:Dens K G ds vs):Stp K G H M G (upd H p (.lst vs)) (cF M p (.lst ds)):=by
 have hG:=(r.free h).1
 refine ⟨Same.refl G,⟨fun b u q => ?_,fun a m q => ?_⟩,fun a u e1 e2 e3 => ?_⟩
 ·rw [bL (bZ q hG)]; exact r.same b u q
 ·by_cases z:a=p
  ·subst z
   rw [aZ] at q; cases q
   exact ⟨hG,vs,bQ,e⟩
  ·rw [d9 z] at q
   refine ⟨(r.mem a m q).1,?_⟩
   exact (r.mem a m q).2.mv (Same.refl G) (bL z)
 ·have z:a≠p:=bZ e1 h
  exact ⟨by rw [bL z]; exact e1,e2,by rw [d9 z]; exact e3⟩
theorem Rel.wr {K:Fg}{G H:Hp}{M:Mem}{p:Addr}{vs:List V}{ds:List D}{o:MO} (r:Rel K G H M) (h:M p=some o) (e:Dens K G ds vs):Stp K G H M G (upd H p (.lst vs)) (cF M p (.lst ds)):=by
 have hG:=(r.mem p _ h).1
 refine ⟨Same.refl G,⟨fun b u q => ?_,fun a m q => ?_⟩,fun a u e1 e2 e3 => ?_⟩
 ·rw [bL (bZ q hG)]; exact r.same b u q
 ·by_cases z:a=p
  ·subst z
   rw [aZ] at q; cases q
   exact ⟨hG,vs,bQ,e⟩
  ·rw [d9 z] at q
   refine ⟨(r.mem a m q).1,?_⟩
   exact (r.mem a m q).2.mv (Same.refl G) (bL z)
 ·have z:a≠p:=fun z=>by rw [z,h] at e3; cases e3
  exact ⟨by rw [bL z]; exact e1,e2,by rw [d9 z]; exact e3⟩
theorem Rel.frz {K:Fg}{G H:Hp}{M:Mem}{a:Addr}{ds:List D} (r:Rel K G H M) (h:M a=some (.lst ds)):∃ vs,H a=some (.lst vs)∧Dens K G ds vs∧Stp K G H M (upd G a (.lst vs)) H (iQ M a):=by
 obtain ⟨hG,vs,e,q⟩:=r.mem a _ h
 have s1:Same G (upd G a (.lst vs)):=vG hG
 refine ⟨vs,e,q,s1,⟨fun b u z => ?_,fun b m z => ?_⟩,fun b u e1 e2 e3 => ?_⟩
 ·by_cases y:b=a
  ·subst y; rw [bQ] at z; cases z; exact e
  ·rw [bL y] at z; exact r.same b u z
 ·by_cases y:b=a
  ·subst y; rw [mO] at z; cases z
  ·rw [jR y] at z
   refine ⟨by rw [bL y]; exact (r.mem b m z).1,?_⟩
   exact (r.mem b m z).2.mv s1 rfl
 ·have y:b≠a:=fun y=>by rw [y,h] at e3; cases e3
  exact ⟨e1,by rw [bL y]; exact e2,by rw [jR y]; exact e3⟩
theorem Rel.drop {K:Fg}{G H:Hp}{M M':Mem} (r:Rel K G H M) (l:Le M' M):Stp K G H M G H M' :=
 ⟨Same.refl G,r.le l,fun a o h1 h2 h3=>⟨h1,h2,by
  cases e:M' a with
  | none=>rfl
  | some u=>rw [l a u e] at h3; cases h3⟩⟩
abbrev Gm:=List (Option D)
structure EnvR (K:Fg) (G:Hp) (Γ:Gm) (σ:St):Prop where
 len:Γ.length=σ.length
 get:∀ (i:Nat) (d:D),Γ[i]?=some (some d)→∃ v,σ[i]?=some (some v)∧Den K G d v
theorem EnvR.up {K:Fg}{G G':Hp}{Γ:Gm}{σ:St} (h:EnvR K G Γ σ) (s:Same G G'):EnvR K G' Γ σ :=
 ⟨h.len,fun i d e=>let ⟨v,a,b⟩:=h.get i d e; ⟨v,a,b.up s⟩⟩
theorem EnvR.set {K:Fg}{G:Hp}{Γ:Gm}{σ:St} (h:EnvR K G Γ σ) {d:D}{v:V} (e:Den K G d v) (i:Nat):EnvR K G (Γ.set i (some d)) (σ.set i (some v)):=by
 refine ⟨by rw [List.length_set,List.length_set,h.len],fun j c q => ?_⟩
 rw [List.getElem?_set] at q ⊢
 by_cases z:i=j
 ·rw [if_pos z] at q ⊢
  split at q
  ·rename_i hl
   rw [if_pos (by rw [← h.len]; exact hl)]
   cases q
   exact ⟨v,rfl,e⟩
  ·cases q
 ·rw [if_neg z] at q ⊢
  exact h.get j c q
theorem EnvR.start {K:Fg}{G:Hp}{ds:List D}{vs:List V} (h:Dens K G ds vs) (n:Nat):EnvR K G (ds.map some++List.replicate (n - ds.length) none) (vs.map some++List.replicate (n - vs.length) none):=by
 have hl:=h.len
 refine ⟨by simp [hl],fun i d e => ?_⟩
 by_cases hi:i < ds.length
 ·rw [List.getElem?_append_left (by simpa using hi),List.getElem?_map] at e
  rw [List.getElem?_append_left (by simp; omega),List.getElem?_map]
  cases q:ds[i]? with
  | none=>rw [q] at e; cases e
  | some c =>
   rw [q] at e; cases e
   obtain ⟨v,a,b⟩:=h.get q
   exact ⟨v,by rw [a]; rfl,b⟩
 ·rw [List.getElem?_append_right (by simpa using hi),List.getElem?_replicate] at e
  split at e <;> cases e
def tU (X:Cx) (e:Expr):TE:=fun σ H Q=>∀ pins s,Inv X pins σ H s→wpAny (model X.prog X.w) X.A (eval e X.env) (EP X pins σ Q) X.xe s
theorem pU {X:Cx}{e:Expr}:PE X e (tU X e):=fun pins s σ H Q I h=>h pins s I
theorem cU {X:Cx}{e:Expr}{t:TE} (p:PE X e t) {σ:St}{H:Hp}{Q:VK} (h:t σ H Q):tU X e σ H Q:=fun pins s I=>p pins s σ H Q I h
def tUT (X:Cx) (e:Expr):TT:=fun σ H Q=>∀ pins s,Inv X pins σ H s→wpAny (model X.prog X.w) X.A (isTrue e X.env (eval e X.env)) (TP X pins σ Q) X.xe s
theorem pUT {X:Cx}{e:Expr}:PT X e (tUT X e):=fun pins s σ H Q I h=>h pins s I
theorem tI {X:Cx}{e:Expr}{t:TT} (p:PT X e t) {σ:St}{H:Hp}{Q:Bool→Hp→Prop} (h:t σ H Q):tUT X e σ H Q:=fun pins s I=>p pins s σ H Q I h
def tUW (X:Cx) (e:Expr):TT:=fun σ H Q=>∀ whole pins s,Inv X pins σ H s→wpAny (model X.prog X.w) X.A (isTrue e X.env whole) (TP X pins σ Q) X.xe s
theorem pUW {X:Cx}{e:Expr}:PW X e (tUW X e):=fun whole pins s σ H Q I h=>h whole pins s I
theorem tW {X:Cx}{e:Expr}{t:TT} (p:PW X e t) {σ:St}{H:Hp}{Q:Bool→Hp→Prop} (h:t σ H Q):tUW X e σ H Q:=fun whole pins s I=>p whole pins s σ H Q I h
def tUA (X:Cx) (es:List Expr):TA:=fun σ H Q=>∀ pos pins s,Inv X pins σ H s→wpAny (model X.prog X.w) X.A (spliced (backTo pos (starEach es X.env))) (AP X pins σ Q) X.xe s
theorem pUA {X:Cx}{es:List Expr}:PA X es (tUA X es):=fun pos pins s σ H Q I h=>h pos pins s I
theorem aEL {X:Cx}{es:List Expr}{t:TA} (p:PA X es t) {σ:St}{H:Hp}{Q:List V→Hp→Prop} (h:t σ H Q):tUA X es σ H Q:=fun pos pins s I=>p pos pins s σ H Q I h
def tUS (X:Cx) (st:Stmt):TS:=fun E σ H=>∀ pins s,Inv X pins σ H s→wpAny (model X.prog X.w) X.A (exec st X.env) (SP X pins E) X.xe s
theorem pUS {X:Cx}{st:Stmt}:PS X st (tUS X st):=fun pins s σ H E I h=>h pins s I
theorem iF {X:Cx}{st:Stmt}{t:TS} (p:PS X st t) {σ:St}{H:Hp}{E:Ends} (h:t E σ H):tUS X st E σ H:=fun pins s I=>p pins s σ H E I h
def aFQ (X:Cx) (st:List Stmt):TS:=fun E σ H=>∀ pins s,Inv X pins σ H s→wpAny (model X.prog X.w) X.A (execs st X.env) (SP X pins E) X.xe s
theorem uF {X:Cx}{st:List Stmt}:PSs X st (aFQ X st):=fun pins s σ H E I h=>h pins s I
theorem uH {X:Cx}{st:List Stmt}{t:TS} (p:PSs X st t) {σ:St}{H:Hp}{E:Ends} (h:t E σ H):aFQ X st E σ H:=fun pins s I=>p pins s σ H E I h
def tUG (X:Cx) (tg:Expr):TG:=fun v σ H Q=>∀ pins s u,Inv X pins σ H s→RelV v u→wpAny (model X.prog X.w) X.A (assign tg X.env u) (fun _ s'=>∃ σ' H',Inv X pins σ' H' s'∧Q σ' H') X.xe s
theorem pUG {X:Cx}{tg:Expr}:PG X tg (tUG X tg):=fun pins s σ H v u Q I r h=>h pins s u I r
theorem tQ {X:Cx}{tg:Expr}{t:TG} (p:PG X tg t) {v:V}{σ:St}{H:Hp}{Q:St→Hp→Prop} (h:t v σ H Q):tUG X tg v σ H Q:=fun pins s u I r=>p pins s σ H v u Q I r h
def aF1 (X:Cx) (tg:List Expr):TGs:=fun vs σ H Q=>∀ pins s us,Inv X pins σ H s→Vals vs us→wpAny (model X.prog X.w) X.A (assignInOrder ((assignEach tg X.env).map (·.2)) us) (fun _ s'=>∃ σ' H',Inv X pins σ' H' s'∧Q σ' H') X.xe s
theorem aHC {X:Cx}{tg:List Expr}:PGs X tg (aF1 X tg):=fun pins s σ H vs us Q I r h=>h pins s us I r
theorem aAU {X:Cx}{tg:List Expr}{t:TGs} (p:PGs X tg t) {vs:List V}{σ:St}{H:Hp}{Q:St→Hp→Prop} (h:t vs σ H Q):aF1 X tg vs σ H Q:=fun pins s us I r=>p pins s σ H vs us Q I r h
def tUI (X:Cx) (tg iter:Expr):TI:=fun σ H R=>∀ pins s,Inv X pins σ H s→wpAny (model X.prog X.w) X.A (eval iter X.env) (fun v s1=>wpAny (model X.prog X.w) X.A (pyIter v) (PIE X pins σ tg R) X.xe s1) X.xe s
theorem pUI {X:Cx}{tg iter:Expr}:PI X tg iter (tUI X tg iter):=fun pins s σ H R I h=>h pins s I
theorem lI {X:Cx}{tg iter:Expr}{t:TI} (p:PI X tg iter t) {σ:St}{H:Hp}{R:It→Hp→Prop} (h:t σ H R):tUI X tg iter σ H R:=fun pins s I=>p pins s σ H R I h
def Cont (K:Fg) (M:Mem) (k:D→Mem→Prop) (G H:Hp) (Q:VK):Prop:=∀ v G' H' d M',Stp K G H M G' H' M'→Den K G' d v→k d M'→Q v H'
def GE (X:Cx) (e:Expr) (Γ:Gm) (M:Mem) (k:D→Mem→Prop):Prop :=
 ∀ σ G H Q,EnvR X.K G Γ σ→Rel X.K G H M→Cont X.K M k G H Q→tU X e σ H Q
def qO (K:Fg) (M:Mem) (k:Bool→Mem→Prop) (G H:Hp) (Q:Bool→Hp→Prop):Prop:=∀ b G' H' M',Stp K G H M G' H' M'→k b M'→Q b H'
def GT (X:Cx) (e:Expr) (Γ:Gm) (M:Mem) (k:Bool→Mem→Prop):Prop :=
 ∀ σ G H Q,EnvR X.K G Γ σ→Rel X.K G H M→qO X.K M k G H Q→tUT X e σ H Q
def GW (X:Cx) (e:Expr) (Γ:Gm) (M:Mem) (k:Bool→Mem→Prop):Prop :=
 ∀ σ G H Q,EnvR X.K G Γ σ→Rel X.K G H M→qO X.K M k G H Q→tUW X e σ H Q
def GA (X:Cx) (es:List Expr) (Γ:Gm) (M:Mem) (k:List D→Mem→Prop):Prop :=
 ∀ σ G H Q,EnvR X.K G Γ σ→Rel X.K G H M→(∀ vs G' H' ds M',Stp X.K G H M G' H' M'→Dens X.K G' ds vs→k ds M'→Q vs H')→tUA X es σ H Q
def lZ (K:Fg) (M:Mem) (k:Gm→Mem→Prop) (G H:Hp) (Q:St→Hp→Prop):Prop:=∀ σ' G' H' Γ' M',Stp K G H M G' H' M'→EnvR K G' Γ' σ'→k Γ' M'→Q σ' H'
def GG (X:Cx) (tg:Expr) (d:D) (Γ:Gm) (M:Mem) (k:Gm→Mem→Prop):Prop :=
 ∀ σ G H v Q,EnvR X.K G Γ σ→Rel X.K G H M→Den X.K G d v→lZ X.K M k G H Q→tUG X tg v σ H Q
def GGs (X:Cx) (tgs:List Expr) (ds:List D) (Γ:Gm) (M:Mem) (k:Gm→Mem→Prop):Prop :=
 ∀ σ G H vs Q,EnvR X.K G Γ σ→Rel X.K G H M→Dens X.K G ds vs→lZ X.K M k G H Q→aF1 X tgs vs σ H Q
structure Fin where
 nx:Gm→Mem→Prop
 rt:D→Mem→Prop
 bk:Gm→Mem→Prop:=fun _ _=>False
 ct:Gm→Mem→Prop:=fun _ _=>False
structure EndsOk (K:Fg) (G H:Hp) (M:Mem) (F:Fin) (E:Ends):Prop where
 nx:lZ K M F.nx G H E.nx
 rt:Cont K M F.rt G H E.rt
 bk:lZ K M F.bk G H E.bk
 ct:lZ K M F.ct G H E.ct
theorem Cont.up {K:Fg}{M M1:Mem}{k:D→Mem→Prop}{G H G1 H1:Hp}{Q:VK} (c:Cont K M k G H Q) (s:Stp K G H M G1 H1 M1):Cont K M1 k G1 H1 Q:=fun v G' H' d M' s'=>c v G' H' d M' (s.trans s')
theorem lZ.up {K:Fg}{M M1:Mem}{k:Gm→Mem→Prop}{G H G1 H1:Hp}{Q:St→Hp→Prop} (c:lZ K M k G H Q) (s:Stp K G H M G1 H1 M1):lZ K M1 k G1 H1 Q:=fun v G' H' d M' s'=>c v G' H' d M' (s.trans s')
theorem qO.up {K:Fg}{M M1:Mem}{k:Bool→Mem→Prop}{G H G1 H1:Hp}{Q:Bool→Hp→Prop} (c:qO K M k G H Q) (s:Stp K G H M G1 H1 M1):qO K M1 k G1 H1 Q:=fun v G' H' M' s'=>c v G' H' M' (s.trans s')
theorem EndsOk.up {K:Fg}{M M1:Mem}{F:Fin}{E:Ends}{G H G1 H1:Hp} (c:EndsOk K G H M F E) (s:Stp K G H M G1 H1 M1):EndsOk K G1 H1 M1 F E:=⟨c.nx.up s,c.rt.up s,c.bk.up s,c.ct.up s⟩
def GS (X:Cx) (ss:List Stmt) (Γ:Gm) (M:Mem) (F:Fin):Prop :=
 ∀ σ G H E,EnvR X.K G Γ σ→Rel X.K G H M→EndsOk X.K G H M F E→aFQ X ss E σ H
def G1 (X:Cx) (st:Stmt) (Γ:Gm) (M:Mem) (F:Fin):Prop :=
 ∀ σ G H E,EnvR X.K G Γ σ→Rel X.K G H M→EndsOk X.K G H M F E→tUS X st E σ H
end Z
namespace Z
open PySem L2
section
variable {K:Fg}{G H:Hp}{M:Mem}
theorem dR {i:Int}:Den K G (.int i) (.int i):=by simp only [Den]
theorem d8 {i:Bool}:Den K G (.bl i) (.bl i):=by simp only [Den]
theorem fQ {i:Str}:Den K G (.str i) (.str i):=by simp only [Den]
theorem uL:Den K G .non .non:=by simp only [Den]
theorem xB {a:Addr}:Den K G (.mt a) (.ref a):=by simp only [Den]
theorem dN {a:Addr}{vs:List V}{ds:List D} (h:SqT K G a vs) (r:Dens K G ds vs):Den K G (.tup ds) (.ref a):=by simp only [Den]; exact ⟨a,vs,rfl,h,r⟩
theorem fR {a:Addr}{vs:List V}{ds:List D} (h:G a=some (.lst vs)) (r:Dens K G ds vs):Den K G (.lst ds) (.ref a):=by simp only [Den]; exact ⟨a,vs,rfl,h,r⟩
theorem aMD {a:Addr}{vs:List V}{ds:List D} (h:SqL K G a vs) (r:Dens K G ds vs):Den K G (.fl ds) (.ref a):=by simp only [Den]; exact ⟨a,vs,rfl,h,r⟩
theorem Den.int_ {i:Int}{v:V} (h:Den K G (.int i) v):v = .int i:=by simp only [Den] at h; exact h
theorem Den.bl_ {i:Bool}{v:V} (h:Den K G (.bl i) v):v = .bl i:=by simp only [Den] at h; exact h
theorem Den.str_ {i:Str}{v:V} (h:Den K G (.str i) v):v = .str i:=by simp only [Den] at h; exact h
theorem Den.non_ {v:V} (h:Den K G .non v):v = .non:=by simp only [Den] at h; exact h
theorem Den.mt_ {a:Addr}{v:V} (h:Den K G (.mt a) v):v = .ref a:=by simp only [Den] at h; exact h
theorem Den.tup_ {ds:List D}{v:V} (h:Den K G (.tup ds) v):∃ a vs,v = .ref a∧SqT K G a vs∧Dens K G ds vs:=by simp only [Den] at h; exact h
theorem Den.lst_ {ds:List D}{v:V} (h:Den K G (.lst ds) v):∃ a vs,v = .ref a∧G a=some (.lst vs)∧Dens K G ds vs:=by simp only [Den] at h; exact h
theorem Den.fl_ {ds:List D}{v:V} (h:Den K G (.fl ds) v):∃ a vs,v = .ref a∧SqL K G a vs∧Dens K G ds vs:=by simp only [Den] at h; exact h
theorem Den.st_ {ks:List (List Int)}{v:V} (h:Den K G (.st ks) v):∃ a xs ep,v = .ref a∧StO K G (G a) a ks xs ep:=by simp only [Den] at h; exact h
inductive Seq (M:Mem):D→Bool→List D→Prop
 | tup (ds:List D):Seq M (.tup ds) false ds
 | lst (ds:List D):Seq M (.lst ds) true ds
 | fl (ds:List D):Seq M (.fl ds) true ds
 | mt {a:Addr}{ds:List D} (h:M a=some (.lst ds)):Seq M (.mt a) true ds
theorem Seq.sq {d:D}{t:Bool}{ds:List D}{v:V} (q:Seq M d t ds) (r:Rel K G H M) (h:Den K G d v):∃ a vs,v = .ref a∧(if t=true then SqL K H a vs else SqT K H a vs)∧Dens K G ds vs:=by
 cases q with
 | tup ds=>obtain ⟨a,vs,e,s,d⟩:=h.tup_; exact ⟨a,vs,e,R.eE r.same s,d⟩
 | lst ds=>obtain ⟨a,vs,e,s,d⟩:=h.lst_; exact ⟨a,vs,e,SqL.of (r.same _ _ s),d⟩
 | fl ds=>obtain ⟨a,vs,e,s,d⟩:=h.fl_; exact ⟨a,vs,e,r.same.seq s,d⟩
 | mt hm=>obtain ⟨_,vs,e,d⟩:=r.mem _ _ hm; exact ⟨_,vs,h.mt_,SqL.of e,d⟩
theorem Seq.sq2 {d:D}{t:Bool}{ds:List D}{v:V} (q:Seq M d t ds) (r:Rel K G H M) (h:Den K G d v):∃ a vs,v = .ref a∧(SqL K H a vs∨SqT K H a vs)∧Dens K G ds vs:=by
 obtain ⟨a,vs,e,s,d⟩:=q.sq r h
 refine ⟨a,vs,e,?_,d⟩
 cases t with
 | true=>exact .inl s
 | false=>exact .inr s
inductive Lst (M:Mem):D→List D→Prop
 | lst (ds:List D):Lst M (.lst ds) ds
 | mt {a:Addr}{ds:List D} (h:M a=some (.lst ds)):Lst M (.mt a) ds
theorem Lst.sq {d:D}{ds:List D}{v:V} (q:Lst M d ds) (r:Rel K G H M) (h:Den K G d v):∃ a vs,v = .ref a∧H a=some (.lst vs)∧Dens K G ds vs:=by
 cases q with
 | lst ds=>obtain ⟨a,vs,e,s,d⟩:=h.lst_; exact ⟨a,vs,e,r.same _ _ s,d⟩
 | mt hm=>obtain ⟨_,vs,e,d⟩:=r.mem _ _ hm; exact ⟨_,vs,h.mt_,e,d⟩
end
section
variable {X:Cx}{Γ:Gm}{M:Mem}{k:D→Mem→Prop}{kb:Bool→Mem→Prop}{pos:Pos}{a b c e:Expr}{es rest:List Expr}
theorem aD (i:Nat) {x:Str}{d:D} (hΓ:Γ[i]?=some (some d)) (h:k d M) (hN:X.N[i]?=some x:=by rfl) (hv:Vis X.env.scope x:=by first | exact Or.inl rfl | exact Or.inr (Or.inl rfl) | exact Or.inr (Or.inr rfl))
  (hd:(x == ("__debug__" : Str))=false:=by decide) (hcd:(x == ("__classdict__" : Str))=false:=by decide):GE X (.Name x pos) Γ M k :=
 fun σ G H Q en rl q=>cU (aE7 hN hv hd hcd) (let ⟨v,e,dv⟩:=en.get i d hΓ; ⟨v,e,q v G H d M (Stp.refl rl) dv h⟩)
theorem ge_int {i:Int}{j:Nat} (h:k (.int i) M):GE X (.Constant (.int i) j pos) Γ M k:=fun σ G H Q en rl q=>cU tT (q _ G H _ M (Stp.refl rl) dR h)
theorem tR {i:Bool}{j:Nat} (h:k (.bl i) M):GE X (.Constant (.bool i) j pos) Γ M k:=fun σ G H Q en rl q=>cU aM2 (q _ G H _ M (Stp.refl rl) d8 h)
theorem ge_str {x:Str}{j:Nat} (h:k (.str x) M):GE X (.Constant (.str x) j pos) Γ M k:=fun σ G H Q en rl q=>cU aL4 (q _ G H _ M (Stp.refl rl) fQ h)
theorem nN (h:GE X e Γ M fun d M1=>∃ a ds M2,d = .mt a∧M1 a=some (.lst ds)∧M2 a=none∧Le M2 M1∧k (.lst ds) M2):GE X e Γ M k:=fun σ G H Q en rl q =>
 h σ G H Q en rl fun v G1 H1 d M1 s1 e1 ⟨a,ds,M2,ed,h1,h2,h3,h4⟩=>by
  subst ed
  obtain ⟨vs,x1,x2,st⟩:=s1.rel.frz h1
  have l:Le M2 (iQ M1 a):=fun b o z=>by rw [jR (fun y=>by rw [y,h2] at z; cases z)]; exact h3 b o z
  have st2:=st.trans (st.rel.drop l)
  exact q v _ _ (.lst ds) M2 (s1.trans st2) (by rw [e1.mt_]; exact fR bQ (x2.up st.gg)) h4
def Op2 (K:Fg) (r:R2) (d1 d2:D) (M:Mem) (k:D→Mem→Prop):Prop:=∀ G H v1 v2 Q,Rel K G H M→Den K G d1 v1→Den K G d2 v2→Cont K M k G H Q→r v1 v2 H Q
theorem two {r:R2} (h:GE X a Γ M fun d1 M1=>GE X b Γ M1 fun d2 M2=>Op2 X.K r d1 d2 M2 k) {σ:St}{G H:Hp}{Q:VK} (en:EnvR X.K G Γ σ) (rl:Rel X.K G H M) (q:Cont X.K M k G H Q):tOp r (tU X a) (tU X b) σ H Q:=by
 refine h σ G H _ en rl fun v1 G1 H1 d1 M1 s1 e1 h1 => ?_
 refine h1 σ G1 H1 _ (en.up s1.gg) s1.rel fun v2 G2 H2 d2 M2 s2 e2 h2 => ?_
 exact h2 G2 H2 v1 v2 Q s2.rel (e1.up s2.gg) e2 (q.up (s1.trans s2))
theorem aK {op:Operator}{r:R2} (ho:OpR X (binaryOp op) r) (h:GE X a Γ M fun d1 M1=>GE X b Γ M1 fun d2 M2=>Op2 X.K r d1 d2 M2 k):GE X (.BinOp a op b pos) Γ M k :=
 fun σ G H Q en rl q=>cU (aNV ho pU pU) (two h en rl q)
theorem cB {op:CmpOp}{r:R2} (ho:OpR X (compareOp op) r) (h:GE X a Γ M fun d1 M1=>GE X b Γ M1 fun d2 M2=>Op2 X.K r d1 d2 M2 k) (hm:behindInMarks op b=false:=by first | exact nomark _ | rfl):GE X (.Compare a [op] [b] pos) Γ M k :=
 fun σ G H Q en rl q=>cU (aKG ho pU pU hm) (two h en rl q)
theorem bD {op:CmpOp}{r:R2} (ho:OpR X (compareOp op) r) (h:GE X a Γ M fun d1 M1=>GE X b Γ M1 fun d2 M2=>Op2 X.K r d1 d2 M2 fun d M3=>∃ c,d = .bl c∧kb c M3) (hm:behindInMarks op b=false:=by first | exact nomark _ | rfl):GT X (.Compare a [op] [b] pos) Γ M kb :=
 fun σ G H Q en rl q=>tI (aIX ho pU pU hm) (two (k:=fun d M3=>∃ c,d = .bl c∧kb c M3) h en rl fun v G' H' d M' s e ⟨c,ed,hk⟩=>by subst ed; exact ⟨c,e.bl_,q c G' H' M' s hk⟩)
theorem aG {r:R2} (hr:IxR X r) (h:GE X a Γ M fun d1 M1=>GE X b Γ M1 fun d2 M2=>Op2 X.K r d1 d2 M2 k) (hs:aA7 b:=by intro _ _; rfl):GE X (.Subscript a b pos) Γ M k :=
 fun σ G H Q en rl q=>cU (aNY hr pU pU hs) (two h en rl q)
theorem fZ {op:UnaryOp}{g:Int→Int} (ho:UnR X (unaryOp op) (rU fun i => .int (g i))) (h:GE X a Γ M fun d M1=>∃ i,d = .int i∧k (.int (g i)) M1):GE X (.UnaryOp op a pos) Γ M k:=fun σ G H Q en rl q=>by
 refine cU (wG ho pU) ?_
 refine h σ G H _ en rl fun v G1 H1 d M1 s1 e1 ⟨i,ed,h1⟩ => ?_
 subst ed
 exact ⟨i,e1.int_,q _ _ _ _ _ s1 dR h1⟩
end
section
variable {K:Fg}{M:Mem}{k:D→Mem→Prop}{i j:Int}{x y:Str}
theorem bP {g:Int→Int→Int} (h:k (.int (g i j)) M):Op2 K (rI0 fun i j => .int (g i j)) (.int i) (.int j) M k:=fun G H v1 v2 Q rl e1 e2 q=>⟨i,j,e1.int_,e2.int_,q _ G H _ M (Stp.refl rl) dR h⟩
theorem bR {C:Int→Int→Prop}{g:Int→Int→Int} (hc:C i j) (h:k (.int (g i j)) M):Op2 K (rI C fun i j => .int (g i j)) (.int i) (.int j) M k:=fun G H v1 v2 Q rl e1 e2 q=>⟨i,j,e1.int_,e2.int_,hc,q _ G H _ M (Stp.refl rl) dR h⟩
theorem eQ {g:Int→Int→Bool} (h:k (.bl (g i j)) M):Op2 K (rI0 fun i j => .bl (g i j)) (.int i) (.int j) M k:=fun G H v1 v2 Q rl e1 e2 q=>⟨i,j,e1.int_,e2.int_,q _ G H _ M (Stp.refl rl) d8 h⟩
theorem d6 (h:k (.bl (decide (i=j))) M):Op2 K rEq (.int i) (.int j) M k:=fun G H v1 v2 Q rl e1 e2 q=>by
 rw [e1.int_,e2.int_]
 exact ⟨rfl,by rw [show decide (V.int i=V.int j)=decide (i=j) from by simp]; exact q _ G H _ M (Stp.refl rl) d8 h⟩
theorem nJ (h:k (.bl (!decide (i=j))) M):Op2 K rNe (.int i) (.int j) M k:=fun G H v1 v2 Q rl e1 e2 q=>by
 rw [e1.int_,e2.int_]
 exact ⟨rfl,by rw [show decide (V.int i=V.int j)=decide (i=j) from by simp]; exact q _ G H _ M (Stp.refl rl) d8 h⟩
theorem pG (h:k (.bl (decide (x=y))) M):Op2 K rEq (.str x) (.str y) M k:=fun G H v1 v2 Q rl e1 e2 q=>by
 rw [e1.str_,e2.str_]
 exact ⟨rfl,by rw [show decide (V.str x=V.str y)=decide (x=y) from by simp]; exact q _ G H _ M (Stp.refl rl) d8 h⟩
theorem tP (h:k (.bl (!decide (x=y))) M):Op2 K rNe (.str x) (.str y) M k:=fun G H v1 v2 Q rl e1 e2 q=>by
 rw [e1.str_,e2.str_]
 exact ⟨rfl,by rw [show decide (V.str x=V.str y)=decide (x=y) from by simp]; exact q _ G H _ M (Stp.refl rl) d8 h⟩
theorem aL9 {x y:Bool} (h:k (.bl (!decide (x=y))) M):Op2 K rNe (.bl x) (.bl y) M k:=fun G H v1 v2 Q rl e1 e2 q=>by
 rw [e1.bl_,e2.bl_]
 exact ⟨rfl,by rw [show decide (V.bl x=V.bl y)=decide (x=y) from by simp]; exact q _ G H _ M (Stp.refl rl) d8 h⟩
theorem aI {d1 d:D}{t:Bool}{ds:List D} (q1:Seq M d1 t ds) (e:atI ds i=some d) (h:k d M):Op2 K (rIx K) d1 (.int i) M k:=fun G H v1 v2 Q rl e1 e2 q=>by
 obtain ⟨a,vs,ev,s,dn⟩:=q1.sq2 rl e1
 obtain ⟨v,ei,dv⟩:=dn.atI e
 rw [ev,e2.int_]
 exact R.mQ s ei (q v G H d M (Stp.refl rl) dv h)
theorem gB {z:Str}{c:Nat} (hz:z.length≤sizeLine) (e:atI z.cps.toList i=some c) (h:k (.str ⟨#[c]⟩) M):Op2 K (rIx K) (.str z) (.int i) M k:=fun G H v1 v2 Q rl e1 e2 q =>
 .inr (.inr ⟨z,i,c,e1.str_,e2.int_,hz,e,q _ G H _ M (Stp.refl rl) fQ h⟩)
theorem pT (hz:x.length+y.length≤sizeLine) (h:k (.str (x++y)) M):Op2 K (fun x y H Q=>∃ i j,x = .str i∧y = .str j∧i.length+j.length≤sizeLine∧Q (.str (i++j)) H) (.str x) (.str y) M k :=
 fun G H v1 v2 Q rl e1 e2 q=>⟨x,y,e1.str_,e2.str_,hz,q _ G H _ M (Stp.refl rl) fQ h⟩
theorem qI (h1 : -(2 ^ 40)≤i) (h2:i < 2 ^ 40) (h3:x.length * i.toNat≤sizeLine) (h:k (.str (lO x i.toNat)) M):Op2 K aHW (.str x) (.int i) M k :=
 fun G H v1 v2 Q rl e1 e2 q=>⟨x,i,e1.str_,e2.int_,h1,h2,h3,q _ G H _ M (Stp.refl rl) fQ h⟩
theorem eP {d1 d2:D}{xs ys:List D} (q1:Lst M d1 xs) (q2:Lst M d2 ys) (hl:xs.length+ys.length≤sizeLine) (h:k (.lst (xs++ys)) M):Op2 K rCat d1 d2 M k:=fun G H v1 v2 Q rl e1 e2 q=>by
 obtain ⟨a,vs,ev,s,dn⟩:=q1.sq rl e1
 obtain ⟨b,ws,ew,s2,dn2⟩:=q2.sq rl e2
 refine ⟨a,b,vs,ws,ev,ew,s,s2,by rw [← dn.len,← dn2.len]; exact hl,fun p hp => ?_⟩
 have st:=rl.new (o := .lst (vs++ws)) hp
 exact q _ _ _ _ _ st (fR bQ ((dn.append dn2).up st.gg)) h
end
end Z
namespace Z
open PySem L2
section
variable {X:Cx}{Γ:Gm}{M:Mem}{k:D→Mem→Prop}{kb:Bool→Mem→Prop}{pos:Pos}{a b c e o:Expr}{es rest:List Expr}
theorem dA (h:GE X e Γ M fun d M1=>∃ c,d = .bl c∧kb c M1) (he:∀ whole,isTrue e X.env whole=(do let v ← whole; standAt e.pos; holding [v] (truthy v)):=by intro _; rfl):GT X e Γ M kb:=fun σ G H Q en rl q=>by
 refine tI (aME pU he) ?_
 exact h σ G H _ en rl fun v G1 H1 d M1 s1 e1 ⟨c,ed,h1⟩=>by subst ed; exact ⟨c,e1.bl_,q _ _ _ _ s1 h1⟩
inductive Tru (M:Mem):D→Bool→Prop
 | seq {d:D}{t:Bool}{ds:List D} (q:Seq M d t ds):Tru M d (!ds.isEmpty)
 | str (x:Str) (h:x.length≤sizeLine):Tru M (.str x) ((x.length:Int) != 0)
 | bl (b:Bool):Tru M (.bl b) b
 | int (i:Int):Tru M (.int i) (i != 0)
 | non:Tru M .non false
theorem xY {K:Fg}{G:Hp}{ds:List D}{vs:List V} (h:Dens K G ds vs):ds.isEmpty=vs.isEmpty:=by
 cases ds with
 | nil=>rw [cG h]; rfl
 | cons d ds=>obtain ⟨v,r,rfl,_⟩:=bX h; rfl
theorem oP (h:GE X e Γ M fun d M1=>∃ c,Tru M1 d c∧kb c M1) (he:∀ whole,isTrue e X.env whole=(do let v ← whole; standAt e.pos; holding [v] (truthy v)):=by intro _; rfl):GT X e Γ M kb:=fun σ G H Q en rl q=>by
 refine tI (aGW pU he) ?_
 refine h σ G H _ en rl fun v G1 H1 d M1 s1 e1 ⟨c,tr,h1⟩=>⟨c,?_,q _ _ _ _ s1 h1⟩
 cases tr with
 | seq sq =>
  obtain ⟨a,vs,ev,s,dn⟩:=sq.sq2 s1.rel e1
  subst ev
  rw [xY dn]
  rcases s with s | s
  ·exact .inl ⟨vs,s,rfl⟩
  ·exact .inr (.inl ⟨vs,s,rfl⟩)
 | str x hx=>rw [e1.str_]; exact ⟨hx,rfl⟩
 | bl b=>rw [e1.bl_]; rfl
 | int i=>rw [e1.int_]; rfl
 | non=>rw [e1.non_]; rfl
theorem fP (h:GT X a Γ M fun c M1=>kb (!c) M1):GT X (.UnaryOp .Not a pos) Γ M kb:=fun σ G H Q en rl q=>by
 refine tI (aLV pUT) ?_
 exact h σ G H _ en rl fun c G1 H1 M1 s1 h1=>q _ _ _ _ s1 h1
theorem kL (h:GW X e Γ M kb):GT X e Γ M kb:=fun σ G H Q en rl q pins s I=>h σ G H Q en rl q (eval e X.env) pins s I
theorem m7 (h:GT X a Γ M kb):GW X (.BoolOp .And [a] pos) Γ M kb:=fun σ G H Q en rl q=>tW (aK0 pUT) (h σ G H _ en rl q)
theorem lG (h:GT X a Γ M kb):GW X (.BoolOp .Or [a] pos) Γ M kb:=fun σ G H Q en rl q=>tW (aMV pUT) (h σ G H _ en rl q)
theorem pQ (h:GT X a Γ M fun c M1=>if c=true then GW X (.BoolOp .And (b::rest) pos) Γ M1 kb else kb false M1):GW X (.BoolOp .And (a::b::rest) pos) Γ M kb:=fun σ G H Q en rl q=>by
 refine tW (aMK pUT pUW) ?_
 refine h σ G H _ en rl fun c G1 H1 M1 s1 h1 => ?_
 cases c with
 | true=>rw [if_pos rfl] at h1 ⊢; exact h1 σ G1 H1 _ (en.up s1.gg) s1.rel (q.up s1)
 | false=>rw [if_neg Bool.false_ne_true] at h1 ⊢; exact q _ _ _ _ s1 h1
theorem gJ (h:GT X a Γ M fun c M1=>if c=true then kb true M1 else GW X (.BoolOp .Or (b::rest) pos) Γ M1 kb):GW X (.BoolOp .Or (a::b::rest) pos) Γ M kb:=fun σ G H Q en rl q=>by
 refine tW (aNP pUT pUW) ?_
 refine h σ G H _ en rl fun c G1 H1 M1 s1 h1 => ?_
 cases c with
 | true=>rw [if_pos rfl] at h1 ⊢; exact q _ _ _ _ s1 h1
 | false=>rw [if_neg Bool.false_ne_true] at h1 ⊢; exact h1 σ G1 H1 _ (en.up s1.gg) s1.rel (q.up s1)
theorem lJ {op:BoolOp} (h:GE X a Γ M k):GE X (.BoolOp op [a] pos) Γ M k:=fun σ G H Q en rl q=>cU (aMJ pU) (h σ G H _ en rl q)
theorem xX (h:GE X a Γ M fun d M1=>∃ c,d = .bl c∧if c=true then GE X (.BoolOp .And (b::rest) pos) Γ M1 k else k (.bl false) M1):GE X (.BoolOp .And (a::b::rest) pos) Γ M k:=fun σ G H Q en rl q=>by
 refine cU (aLY pU pU) ?_
 refine h σ G H _ en rl fun v G1 H1 d M1 s1 e1 ⟨c,ed,h1⟩ => ?_
 subst ed
 refine ⟨c,e1.bl_,?_⟩
 cases c with
 | true=>rw [if_pos rfl] at h1 ⊢; exact h1 σ G1 H1 _ (en.up s1.gg) s1.rel (q.up s1)
 | false=>rw [if_neg Bool.false_ne_true] at h1 ⊢; exact q _ _ _ _ _ s1 d8 h1
theorem aB7 (h:GE X a Γ M fun d M1=>∃ c,d = .bl c∧if c=true then k (.bl true) M1 else GE X (.BoolOp .Or (b::rest) pos) Γ M1 k):GE X (.BoolOp .Or (a::b::rest) pos) Γ M k:=fun σ G H Q en rl q=>by
 refine cU (aN2 pU pU) ?_
 refine h σ G H _ en rl fun v G1 H1 d M1 s1 e1 ⟨c,ed,h1⟩ => ?_
 subst ed
 refine ⟨c,e1.bl_,?_⟩
 cases c with
 | true=>rw [if_pos rfl] at h1 ⊢; exact q _ _ _ _ _ s1 d8 h1
 | false=>rw [if_neg Bool.false_ne_true] at h1 ⊢; exact h1 σ G1 H1 _ (en.up s1.gg) s1.rel (q.up s1)
theorem iH (h:GT X c Γ M fun t M1=>if t=true then GE X a Γ M1 k else GE X b Γ M1 k):GE X (.IfExp c a b pos) Γ M k:=fun σ G H Q en rl q=>by
 refine cU (aFJ pUT pU pU) ?_
 refine h σ G H _ en rl fun t G1 H1 M1 s1 h1 => ?_
 cases t with
 | true=>rw [if_pos rfl] at h1 ⊢; exact h1 σ G1 H1 _ (en.up s1.gg) s1.rel (q.up s1)
 | false=>rw [if_neg Bool.false_ne_true] at h1 ⊢; exact h1 σ G1 H1 _ (en.up s1.gg) s1.rel (q.up s1)
variable {ka:List D→Mem→Prop}
theorem aE (h:ka [] M):GA X [] Γ M ka:=fun σ G H Q en rl q=>aEL aER (q _ _ _ _ _ (Stp.refl rl) bV h)
theorem aC (h:GE X e Γ M fun d M1=>GA X es Γ M1 fun ds M2=>ka (d::ds) M2) (hs:starEach (e::es) X.env=(false,eval e X.env)::starEach es X.env:=by rfl):GA X (e::es) Γ M ka:=fun σ G H Q en rl q=>by
 refine aEL (uC pU pUA hs) ?_
 refine h σ G H _ en rl fun v G1 H1 d M1 s1 e1 h1 => ?_
 exact h1 σ G1 H1 _ (en.up s1.gg) s1.rel fun vs G2 H2 ds M2 s2 e2 h2=>q _ _ _ _ _ (s1.trans s2) (bC (e1.up s2.gg) e2) h2
theorem aS {x1} (h:GA X es Γ M fun ds M1=>ds.length≤sizeLine∧k (.tup ds) M1):GE X (.Tuple es x1 pos) Γ M k:=fun σ G H Q en rl q=>by
 refine cU (aLN pUA) ?_
 refine h σ G H _ en rl fun vs G1 H1 ds M1 s1 e1 ⟨hl,h1⟩=>⟨by rw [← e1.len]; exact hl,fun p hp => ?_⟩
 have st:=s1.rel.new (o := .tup vs) hp
 exact q _ _ _ _ _ (s1.trans st) (dN (SqT.of bQ) (e1.up st.gg)) h1
theorem b7 (h:GA X es Γ M fun ds M1=>ds.length≤sizeLine∧k (.lst ds) M1):GE X (.List es pos) Γ M k:=fun σ G H Q en rl q=>by
 refine cU (aDP pUA) ?_
 refine h σ G H _ en rl fun vs G1 H1 ds M1 s1 e1 ⟨hl,h1⟩=>⟨by rw [← e1.len]; exact hl,fun p hp => ?_⟩
 have st:=s1.rel.new (o := .lst vs) hp
 exact q _ _ _ _ _ (s1.trans st) (fR bQ (e1.up st.gg)) h1
theorem iY (h:GA X es Γ M fun ds M1=>ds.length≤sizeLine∧∀ a,M1 a=none→k (.mt a) (cF M1 a (.lst ds))):GE X (.List es pos) Γ M k:=fun σ G H Q en rl q=>by
 refine cU (aDP pUA) ?_
 refine h σ G H _ en rl fun vs G1 H1 ds M1 s1 e1 ⟨hl,h1⟩=>⟨by rw [← e1.len]; exact hl,fun p hp => ?_⟩
 exact q _ _ _ _ _ (s1.trans (s1.rel.newM hp e1)) xB (h1 p (s1.rel.free hp).2)
abbrev Ct:=List D→Mem→(D→Mem→Prop)→Prop
def spZ (K:Fg) (F:Ct):Sp:=fun vs H Q _=>∃ G M ds k,Rel K G H M∧Dens K G ds vs∧F ds M k∧Cont K M k G H Q
theorem aJP {n:Nat}{f:Addr}{fd:FuncData}{ps:List Str}{x:Str}{p:Pos}{F:Ct} (Fk:FnOk X.prog X.w X.K X.mg X.base CX0 n f fd ps (spZ X.K F)) (hr:Room n X.A) (hm:X.mg x=some (.ref f)) (hk:PySem.W.keepIn X.K (.ref f)=true) (hb:Binds X.K fd ps [])
  (h:GA X (e::es) Γ M fun ds M1=>F ds M1 k) (hg:Gl X x:=by rfl) (hdb:(x == ("__debug__" : Str))=false:=by decide) (he:starEach (e::es) X.env=(false,eval e X.env)::starEach es X.env:=by rfl) (hpl:(backTo pos (starEach es X.env)).any (·.1)=false:=by rfl) :
  GE X (.Call (.Name x p) (e::es) [] pos) Γ M k:=fun σ G H Q en rl q=>by
 refine cU (aKE Fk hr hg hm hk hb .nil pass0 pUA hdb he hpl) ?_
 refine h σ G H _ en rl fun vs G1 H1 ds M1 s1 e1 h1 => ?_
 show spZ X.K F (vs++[]) H1 Q E0
 rw [List.append_nil]
 exact ⟨G1,M1,ds,k,s1.rel,e1,h1,q.up s1⟩
def OpN (K:Fg) (r:List V→Hp→VK→Prop) (ds:List D) (M:Mem) (k:D→Mem→Prop):Prop:=∀ G H vs Q,Rel K G H M→Dens K G ds vs→Cont K M k G H Q→r vs H Q
theorem bB {x:Str}{p:Pos}{id:String}{r:List V→Hp→VK→Prop} (hc:gL X (.builtin id) r) (hm:X.mg x=none) (hv:bootBuiltins x=some (.builtin id))
  (h:GA X (e::es) Γ M fun ds M1=>OpN X.K r ds M1 k) (hg:Gl X x:=by rfl) (hn:x ≠ "__name__" := by decide) (hdb:(x == ("__debug__" : Str))=false:=by decide)
  (he:starEach (e::es) X.env=(false,eval e X.env)::starEach es X.env:=by rfl) (hpl:(backTo pos (starEach es X.env)).any (·.1)=false:=by rfl):GE X (.Call (.Name x p) (e::es) [] pos) Γ M k:=fun σ G H Q en rl q=>by
 refine cU (wI hc hg hm hv pUA hn hdb he hpl) ?_
 exact h σ G H _ en rl fun vs G1 H1 ds M1 s1 e1 h1=>h1 G1 H1 vs Q s1.rel e1 (q.up s1)
theorem bF {x:Str}{p:Pos}{T:String}{r:List V→Hp→VK→Prop} (hc:gL X (.type T) r) (hm:X.mg x=none) (hv:bootBuiltins x=some (.type T))
  (h:GA X (e::es) Γ M fun ds M1=>OpN X.K r ds M1 k) (hg:Gl X x:=by rfl) (hn:x ≠ "__name__" := by decide) (hdb:(x == ("__debug__" : Str))=false:=by decide)
  (he:starEach (e::es) X.env=(false,eval e X.env)::starEach es X.env:=by rfl) (hpl:(backTo pos (starEach es X.env)).any (·.1)=false:=by rfl):GE X (.Call (.Name x p) (e::es) [] pos) Γ M k:=fun σ G H Q en rl q=>by
 refine cU (aD5 hc hg hm hv pUA hn hdb he hpl) ?_
 exact h σ G H _ en rl fun vs G1 H1 ds M1 s1 e1 h1=>h1 G1 H1 vs Q s1.rel e1 (q.up s1)
theorem dens1 {K:Fg}{G:Hp}{d:D}{vs:List V} (h:Dens K G [d] vs):∃ v,vs=[v]∧Den K G d v:=by
 obtain ⟨v,r,rfl,h1,h2⟩:=bX h
 rw [cG h2]; exact ⟨v,rfl,h1⟩
theorem dens2 {K:Fg}{G:Hp}{d c:D}{vs:List V} (h:Dens K G [d,c] vs):∃ v u,vs=[v,u]∧Den K G d v∧Den K G c u:=by
 obtain ⟨v,r,rfl,h1,h2⟩:=bX h
 obtain ⟨u,rfl,h3⟩:=dens1 h2
 exact ⟨v,u,rfl,h1,h3⟩
theorem cH {K:Fg}{d:D}{t:Bool}{ds:List D} (q1:Seq M d t ds) (h:k (.int (ds.length:Int)) M):OpN K (fun xs H Q=>∃ x n,xs=[x]∧aGE K x H n∧Q (.int n) H) [d] M k:=fun G H vs Q rl e q=>by
 obtain ⟨v,rfl,dv⟩:=dens1 e
 obtain ⟨a,ws,ev,s,dn⟩:=q1.sq2 rl dv
 subst ev
 refine ⟨_,ds.length,rfl,?_,q _ _ _ _ _ (Stp.refl rl) dR h⟩
 rcases s with s | s
 ·exact .inl ⟨ws,s,dn.len⟩
 ·exact .inr ⟨ws,s,dn.len⟩
theorem gY {K:Fg}{x:Str} (hz:x.length≤sizeLine) (h:k (.int (x.length:Int)) M):OpN K (fun xs H Q=>∃ x n,xs=[x]∧aGE K x H n∧Q (.int n) H) [.str x] M k:=fun G H vs Q rl e q=>by
 obtain ⟨v,rfl,dv⟩:=dens1 e
 rw [dv.str_]
 exact ⟨_,x.length,rfl,⟨hz,rfl⟩,q _ _ _ _ _ (Stp.refl rl) dR h⟩
theorem yQ {K:Fg}{i:Int} (h:k (.int (if i < 0 then -i else i)) M):OpN K (fun xs H Q=>∃ i,xs=[.int i]∧Q (.int (if i < 0 then -i else i)) H) [.int i] M k:=fun G H vs Q rl e q=>by
 obtain ⟨v,rfl,dv⟩:=dens1 e
 rw [dv.int_]
 exact ⟨i,rfl,q _ _ _ _ _ (Stp.refl rl) dR h⟩
theorem qD {K:Fg}{c:Bool} (h:k (.int (if c then 1 else 0)) M):OpN K (fun xs H Q=>(∃ i,xs=[.int i]∧Q (.int i) H)∨∃ k,xs=[.bl k]∧Q (.int (if k then 1 else 0)) H) [.bl c] M k:=fun G H vs Q rl e q=>by
 obtain ⟨v,rfl,dv⟩:=dens1 e
 rw [dv.bl_]
 exact .inr ⟨c,rfl,q _ _ _ _ _ (Stp.refl rl) dR h⟩
theorem aL2 {K:Fg}{i j:Int} (h:k (.int (if j < i then j else i)) M):OpN K (fun xs H Q=>∃ i j,xs=[.int i, .int j]∧Q (.int (if j < i then j else i)) H) [.int i, .int j] M k:=fun G H vs Q rl e q=>by
 obtain ⟨v,u,rfl,dv,du⟩:=dens2 e
 rw [dv.int_,du.int_]
 exact ⟨i,j,rfl,q _ _ _ _ _ (Stp.refl rl) dR h⟩
theorem hV {K:Fg}{d:D}{t:Bool}{ds:List D} (q1:Seq M d t ds) (h:k (.lst ds) M):OpN K (fun xs H Q=>∃ p ys,xs=[.ref p]∧(SqL K H p ys∨SqT K H p ys)∧∀ l,H l=none→Q (.ref l) (upd H l (.lst ys))) [d] M k:=fun G H vs Q rl e q=>by
 obtain ⟨v,rfl,dv⟩:=dens1 e
 obtain ⟨a,ws,ev,s,dn⟩:=q1.sq2 rl dv
 subst ev
 refine ⟨a,ws,rfl,s,fun l hl => ?_⟩
 have st:=rl.new (o := .lst ws) hl
 exact q _ _ _ _ _ st (fR bQ (dn.up st.gg)) h
theorem cK {K:Fg}{d:D}{t:Bool}{ds:List D} (q1:Seq M d t ds) (h:k (.tup ds) M):OpN K (fun xs H Q=>∃ p ys,xs=[.ref p]∧((SqL K H p ys∧∀ l,H l=none→Q (.ref l) (upd H l (.tup ys)))∨(SqT K H p ys∧Q (.ref p) H))) [d] M k:=fun G H vs Q rl e q=>by
 obtain ⟨v,rfl,dv⟩:=dens1 e
 cases q1 with
 | tup ds =>
  obtain ⟨a,ws,ev,s,dn⟩:=dv.tup_
  subst ev
  exact ⟨a,ws,rfl, .inr ⟨R.eE rl.same s,q _ _ _ _ _ (Stp.refl rl) dv h⟩⟩
 | lst ds =>
  obtain ⟨a,ws,ev,s,dn⟩:=(Seq.lst ds).sq rl dv
  subst ev
  refine ⟨a,ws,rfl, .inl ⟨s,fun l hl => ?_⟩⟩
  have st:=rl.new (o := .tup ws) hl
  exact q _ _ _ _ _ st (dN (SqT.of bQ) (dn.up st.gg)) h
 | fl ds =>
  obtain ⟨a,ws,ev,s,dn⟩:=(Seq.fl ds).sq rl dv
  subst ev
  refine ⟨a,ws,rfl, .inl ⟨s,fun l hl => ?_⟩⟩
  have st:=rl.new (o := .tup ws) hl
  exact q _ _ _ _ _ st (dN (SqT.of bQ) (dn.up st.gg)) h
 | mt hm =>
  obtain ⟨a,ws,ev,s,dn⟩:=(Seq.mt hm).sq rl dv
  subst ev
  refine ⟨a,ws,rfl, .inl ⟨s,fun l hl => ?_⟩⟩
  have st:=rl.new (o := .tup ws) hl
  exact q _ _ _ _ _ st (dN (SqT.of bQ) (dn.up st.gg)) h
theorem aAX {K:Fg}{G:Hp}:∀ {bs:List Bool}{vs:List V},Dens K G (bs.map D.bl) vs→vs=bs.map V.bl
 | [],_,h=>cG h
 | b::bs,_,h=>by
  obtain ⟨v,r,rfl,h1,h2⟩:=bX h
  rw [h1.bl_,aAX h2]; rfl
theorem xH {K:Fg}{G:Hp}:∀ {bs:List Str}{vs:List V},Dens K G (bs.map D.str) vs→vs=bs.map V.str
 | [],_,h=>cG h
 | b::bs,_,h=>by
  obtain ⟨v,r,rfl,h1,h2⟩:=bX h
  rw [h1.str_,xH h2]; rfl
theorem aLS {K:Fg}{d:D}{t:Bool}{bs:List Bool}{g:List Bool→Bool} (q1:Seq M d t (bs.map D.bl)) (h:k (.bl (g bs)) M):OpN K (rAll K g) [d] M k:=fun G H vs Q rl e q=>by
 obtain ⟨v,rfl,dv⟩:=dens1 e
 obtain ⟨a,ws,ev,s,dn⟩:=q1.sq2 rl dv
 subst ev
 rw [aAX dn] at s
 exact ⟨a,bs,rfl,s,q _ _ _ _ _ (Stp.refl rl) d8 h⟩
def TyD (T:String) (d:D) (M:Mem):Prop:=match d with
 | .str _=>T = "str"
 | .lst _=>T = "list"
 | .mt a=>T = "list" ∧ ∃ ds,M a=some (.lst ds)
 | _=>False
theorem TyD.ok {K:Fg}{G H:Hp}{T:String}{d:D}{v:V} (h:TyD T d M) (rl:Rel K G H M) (e:Den K G d v):tyV K T v H:=by
 cases d with
 | str x=>rw [e.str_]; exact h
 | lst ds=>obtain ⟨a,vs,ev,s,_⟩:=e.lst_; rw [ev]; exact .inl ⟨h,vs,SqL.of (rl.same _ _ s)⟩
 | mt a =>
  obtain ⟨h1,ds,h2⟩:=h
  obtain ⟨_,vs,s,_⟩:=rl.mem _ _ h2
  rw [e.mt_]; exact .inl ⟨h1,vs,SqL.of s⟩
 | _=>exact False.elim h
def OpM (K:Fg) (r:V→List V→Hp→VK→Prop) (d:D) (ds:List D) (M:Mem) (k:D→Mem→Prop):Prop:=∀ G H v vs Q,Rel K G H M→Den K G d v→Dens K G ds vs→Cont K M k G H Q→r v vs H Q
theorem fL {T id:String}{name:Str}{apos cpos:Pos}{r:V→List V→Hp→VK→Prop} (pa:PlainAttrs T) (slot:Slot T name id) (hty:typeOf (.builtin id)=pure (.type "method_descriptor")) (hm:MtR X id r)
  (h:GE X o Γ M fun d M1=>TyD T d M1∧GA X (e::es) Γ M1 fun ds M2=>OpM X.K r d ds M2 k)
  (hbase:attributeBase o name X.env (eval o X.env)=eval o X.env:=by rfl)
  (hfew:((backTo cpos (starEach (e::es) X.env)).all (fun x => !x.1) && (backToKw cpos (keywordEach [] X.env)).all (fun x=>x.1.isSome)
   && decide ((e::es).length+([]:List Keyword).length+(if ([]:List Keyword).isEmpty then 0 else 1) < 30))=true:=by rfl)
  (hline:(apos.endLine == cpos.line)=true:=by rfl) (hs:starEach (e::es) X.env=(false,eval e X.env)::starEach es X.env:=by rfl) (hplain:(backTo cpos (starEach es X.env)).any (·.1)=false:=by rfl) :
  GE X (.Call (.Attribute o name apos) (e::es) [] cpos) Γ M k:=fun σ G H Q en rl q=>by
 refine cU (aNS pa slot hty hm pU pUA hbase hfew hline hs hplain) ?_
 refine h σ G H _ en rl fun v G1 H1 d M1 s1 e1 ⟨ty,h1⟩=>⟨ty.ok s1.rel e1,?_⟩
 exact h1 σ G1 H1 _ (en.up s1.gg) s1.rel fun vs G2 H2 ds M2 s2 e2 h2=>h2 G2 H2 v vs Q s2.rel (e1.up s2.gg) e2 (q.up (s1.trans s2))
theorem aLH {T id:String}{name:Str}{apos cpos:Pos}{r:V→List V→Hp→VK→Prop} (pa:PlainAttrs T) (slot:Slot T name id) (hty:typeOf (.builtin id)=pure (.type "method_descriptor")) (hm:MtR X id r)
  (h:GE X o Γ M fun d M1=>TyD T d M1∧OpM X.K r d [] M1 k)
  (hbase:attributeBase o name X.env (eval o X.env)=eval o X.env:=by rfl) (hline:(apos.endLine == cpos.line)=true:=by rfl) :
  GE X (.Call (.Attribute o name apos) [] [] cpos) Γ M k:=fun σ G H Q en rl q=>by
 refine cU (aMR pa slot hty hm pU hbase hline) ?_
 exact h σ G H _ en rl fun v G1 H1 d M1 s1 e1 ⟨ty,h1⟩=>⟨ty.ok s1.rel e1,h1 G1 H1 v [] Q s1.rel e1 bV (q.up s1)⟩
theorem gQ {K:Fg}{a:Addr}{ds:List D}{d:D} (hm:M a=some (.lst ds)) (hl:ds.length < sizeLine) (h:k .non (cF M a (.lst (ds++[d])))):OpM K aAR (.mt a) [d] M k:=fun G H v vs Q rl e e2 q=>by
 obtain ⟨u,rfl,du⟩:=dens1 e2
 obtain ⟨_,ws,s,dn⟩:=rl.mem _ _ hm
 exact ⟨a,ws,u,e.mt_,rfl,s,by rw [← dn.len]; exact hl,q _ _ _ _ _ (rl.wr hm (dn.append (bC du bV))) uL h⟩
theorem aF9 {K:Fg}{a:Addr}{ds:List D} (hm:M a=some (.lst ds)) (h:k .non (cF M a (.lst []))):OpM K aCY (.mt a) [] M k:=fun G H v vs Q rl e e2 q=>by
 obtain ⟨_,ws,s,dn⟩:=rl.mem _ _ hm
 exact ⟨a,ws,e.mt_,cG e2,s,q _ _ _ _ _ (rl.wr hm bV) uL h⟩
theorem i5 {K:Fg}{sep:Str}{d:D}{t:Bool}{ys:List Str} (q1:Seq M d t (ys.map D.str)) (h1:sep.length≤16) (h2:(ys.map (·.length)).sum+ys.length≤1048576) (h:k (.str (PySem.Txt.join sep ys)) M):OpM K (rJoin K) (.str sep) [d] M k:=fun G H v vs Q rl e e2 q=>by
 obtain ⟨u,rfl,du⟩:=dens1 e2
 obtain ⟨a,ws,ev,s,dn⟩:=q1.sq2 rl du
 subst ev
 rw [xH dn] at s
 exact ⟨sep,a,ys,e.str_,rfl,s,h1,h2,q _ _ _ _ _ (Stp.refl rl) fQ h⟩
end
end Z
namespace Z
open PySem L2
section
variable {X:Cx}{Γ:Gm}{M:Mem}{k:D→Mem→Prop}{kb:Bool→Mem→Prop}{pos:Pos}{a b c e o:Expr}{es rest:List Expr}{lo hi:Option Expr}{ko:Option Int→Mem→Prop}
def tUO (X:Cx) (e:Option Expr):TO:=fun σ H Q=>∀ pins s,Inv X pins σ H s→wpAny (model X.prog X.w) X.A (evalPart e X.env) (fun u s'=>∃ o H',Inv X pins σ H' s'∧IsPart u o∧Q o H') X.xe s
theorem pUO {e:Option Expr}:PO X e (tUO X e):=fun pins s σ H Q I h=>h pins s I
theorem aD2 {e:Option Expr}{t:TO} (p:PO X e t) {σ:St}{H:Hp}{Q:Option Int→Hp→Prop} (h:t σ H Q):tUO X e σ H Q:=fun pins s I=>p pins s σ H Q I h
def GO (X:Cx) (e:Option Expr) (Γ:Gm) (M:Mem) (ko:Option Int→Mem→Prop):Prop :=
 ∀ σ G H Q,EnvR X.K G Γ σ→Rel X.K G H M→(∀ o G' H' M',Stp X.K G H M G' H' M'→ko o M'→Q o H')→tUO X e σ H Q
theorem dU (h:ko none M):GO X none Γ M ko:=fun σ G H Q en rl q=>aD2 aH8 (q _ _ _ _ (Stp.refl rl) h)
theorem dM (h:GE X e Γ M fun d M1=>∃ i,d = .int i∧ko (some i) M1):GO X (some e) Γ M ko:=fun σ G H Q en rl q=>aD2 (aJM pU) (h σ G H _ en rl fun v G1 H1 d M1 s1 e1 ⟨i,ed,h1⟩=>by subst ed; exact ⟨i,e1.int_,q _ _ _ _ s1 h1⟩)
abbrev R3:=V→Option Int→Option Int→Hp→VK→Prop
def Op3 (K:Fg) (r:R3) (d:D) (l u:Option Int) (M:Mem) (k:D→Mem→Prop):Prop:=∀ G H v Q,Rel K G H M→Den K G d v→Cont K M k G H Q→r v l u H Q
theorem c9 {r:R3}{p2:Pos} (hr:SlR X r) (h:GE X e Γ M fun d M1=>GO X lo Γ M1 fun l M2=>GO X hi Γ M2 fun u M3=>Op3 X.K r d l u M3 k):GE X (.Subscript e (.Slice lo hi none p2) pos) Γ M k:=fun σ G H Q en rl q=>by
 refine cU (aGJ hr pU pUO pUO) ?_
 refine h σ G H _ en rl fun v G1 H1 d M1 s1 e1 h1 => ?_
 refine h1 σ G1 H1 _ (en.up s1.gg) s1.rel fun l G2 H2 M2 s2 h2 => ?_
 refine h2 σ G2 H2 _ (en.up (s1.trans s2).gg) s2.rel fun u G3 H3 M3 s3 h3 => ?_
 exact h3 G3 H3 v Q s3.rel (e1.up (s2.trans s3).gg) (q.up ((s1.trans s2).trans s3))
def cutD {α:Type} (xs:List α) (lo hi:Option Int):List α:=(xs.drop (HT.sIx xs.length 0 lo)).take (HT.sIx xs.length xs.length hi - HT.sIx xs.length 0 lo)
theorem Dens.cut {K:Fg}{G:Hp}{ds:List D}{vs:List V} (h:Dens K G ds vs) (l u:Option Int):Dens K G (cutD ds l u) (lR vs l u):=by
 unfold cutD lR
 rw [← h.len]
 exact (h.drop _).take _
theorem aFF {K:Fg}{z:Str}{l u:Option Int} (hz:z.length≤sizeLine) (h:k (.str (gT z l u)) M):Op3 K rSlS (.str z) l u M k:=fun G H v Q rl e q=>⟨z,e.str_,hz,q _ _ _ _ _ (Stp.refl rl) fQ h⟩
theorem kC {K:Fg}{d:D}{ds:List D}{l u:Option Int} (q1:Seq M d true ds) (h:k (.lst (cutD ds l u)) M):Op3 K (rSlL K) d l u M k:=fun G H v Q rl e q=>by
 obtain ⟨a,vs,ev,s,dn⟩:=q1.sq rl e
 refine ⟨a,vs,ev,s,fun p hp => ?_⟩
 have st:=rl.new (o := .lst (lR vs l u)) hp
 exact q _ _ _ _ _ st (fR bQ ((dn.cut l u).up st.gg)) h
structure YD (K:Fg) (J:It) (ds:List D) (G0:Hp):Prop where
 go:∀ i G H M,Same G0 G→Rel K G H M→i < ds.length→J.go i H
 yld:∀ i G H M x H',Same G0 G→Rel K G H M→i < ds.length→J.yld i H x H'→∃ G' d,Stp K G H M G' H' M∧ds[i]?=some d∧Den K G' d x
 stop:∀ i G H M,Same G0 G→Rel K G H M→i=ds.length→J.stop i H
theorem aAI {K:Fg}{a:Addr}{vs:List V}{ds:List D}{G0:Hp} (s:SqL K G0 a vs) (dn:Dens K G0 ds vs):YD K (Itl K a) ds G0 where
 go:=fun i G H M sg rl h=>uJ.go i H (rl.same.seq (sg.seq s)) (by rw [← dn.len]; exact h)
 yld:=fun i G H M x H' sg rl h y=>by
  obtain ⟨e,hx⟩:=uJ.yld i H x H' (rl.same.seq (sg.seq s)) y (by rw [← dn.len]; exact h)
  subst e
  obtain ⟨d,hd,e⟩:=dn.get' hx
  exact ⟨G,d,Stp.refl rl,hd,e.up sg⟩
 stop:=fun i G H M sg rl h=>uJ.stop i H (rl.same.seq (sg.seq s)) (by rw [← dn.len]; exact Nat.le_of_eq h.symm)
theorem aL3 {K:Fg}{a:Addr}{vs:List V}{ds:List D}{G0:Hp} (s:SqT K G0 a vs) (dn:Dens K G0 ds vs):YD K (Itt K a) ds G0 where
 go:=fun i G H M sg rl h=>xM.go i H (R.eE rl.same (R.eE sg s)) (by rw [← dn.len]; exact h)
 yld:=fun i G H M x H' sg rl h y=>by
  obtain ⟨e,hx⟩:=xM.yld i H x H' (R.eE rl.same (R.eE sg s)) y (by rw [← dn.len]; exact h)
  subst e
  obtain ⟨d,hd,e⟩:=dn.get' hx
  exact ⟨G,d,Stp.refl rl,hd,e.up sg⟩
 stop:=fun i G H M sg rl h=>xM.stop i H (R.eE rl.same (R.eE sg s)) (by rw [← dn.len]; exact Nat.le_of_eq h.symm)
def jY (lo:Int) (n:Nat):List D:=(List.range n).map fun i=>D.int (lo+(i:Nat))
theorem bM (lo:Int) (n:Nat):(jY lo n).length=n:=by simp [jY]
theorem cR {lo:Int}{n i:Nat}{d:D} (h:(jY lo n)[i]?=some d):i < n∧d = .int (lo+(i:Nat)):=by
 have hi:i < n:=by rw [← bM lo n]; exact (List.getElem?_eq_some_iff.mp h).1
 simp [jY,hi] at h
 exact ⟨hi,h.symm⟩
theorem aEE {K:Fg}{lo:Int}{n:Nat}{G0:Hp}:YD K (Itr lo n) (jY lo n) G0 where
 go:=fun i G H M sg rl h=>by rw [bM] at h; exact h
 yld:=fun i G H M x H' sg rl h y=>by
  obtain ⟨e,hx⟩:=y
  subst e hx
  rw [bM] at h
  exact ⟨G,_,Stp.refl rl,by simp [jY,h],dR⟩
 stop:=fun i G H M sg rl h=>by rw [bM] at h; exact Nat.le_of_eq h.symm
def iT (x:Str):List D:=x.cps.toList.map fun c=>D.str ⟨#[c]⟩
theorem jW (x:Str):(iT x).length=x.length:=by simp [iT,Str.length]
variable {tg iter:Expr}{ki:List D→Mem→Prop}
def GI (X:Cx) (tg iter:Expr) (Γ:Gm) (M:Mem) (ki:List D→Mem→Prop):Prop :=
 ∀ σ G H R,EnvR X.K G Γ σ→Rel X.K G H M→(∀ J G' H' ds M',Stp X.K G H M G' H' M'→YD X.K J ds G'→ki ds M'→R J H')→tUI X tg iter σ H R
def iAny (K:Fg) (tl:TE):TI:=fun σ H R=>tl σ H fun x H1=>∃ a,x = .ref a∧(((∃ xs,SqL K H1 a xs)∧R (Itl K a) H1)∨((∃ xs,SqT K H1 a xs)∧R (Itt K a) H1))
theorem aLQ {l:Expr}{tl:TE} (hl:PE X l tl):PI X tg l (iAny X.K tl):=by
 intro pins s σ H R I h
 refine thn (hl pins s σ H _ I h) fun v s1 ⟨x,H1,I1,r1,q1⟩ => ?_
 obtain ⟨a,e,q⟩:=q1
 subst e
 cases r1
 have fp:∀ b∈[s1.heap.objs.size],lP X pins H1 b:=fun b hb=>by
  have e:b=s1.heap.objs.size:=by simpa using hb
  subst e
  exact I1.fpOk (Nat.le_refl _) (I1.hok.fresh (Nat.le_refl _))
 rcases q with ⟨⟨xs,hq⟩,q⟩ | ⟨⟨xs,hq⟩,q⟩
 ·obtain ⟨its,r',pl,hz⟩:=I1.list hq
  refine wpAny_pyIter_list pl.isList ?_
  exact ⟨s1.heap.objs.size,[s1.heap.objs.size],_,Itl X.K a,H1,rfl,I1.kept (t':=s1.toks) fun b o e=>Heap.get?_push_of_some _ e,aC6 a _,⟨_,Heap.get?_push_size _ rfl,rfl,rfl⟩,fp,q⟩
 ·obtain ⟨its,r',pl,hz⟩:=I1.tuple hq
  refine wpAny_pyIter_tuple pl ?_
  exact ⟨s1.heap.objs.size,[s1.heap.objs.size],_,Itt X.K a,H1,rfl,I1.kept (t':=s1.toks) fun b o e=>Heap.get?_push_of_some _ e,aA9 a _,⟨_,Heap.get?_push_size _ rfl,rfl,rfl⟩,fp,q⟩
theorem bS (h:GE X iter Γ M fun d M1=>∃ ds,(d = .tup ds∨d = .lst ds∨d = .fl ds)∧ki ds M1):GI X tg iter Γ M ki:=fun σ G H Rr en rl q=>by
 refine lI (aLQ pU) ?_
 refine h σ G H _ en rl fun v G1 H1 d M1 s1 e1 ⟨ds,ed,h1⟩ => ?_
 rcases ed with rfl | rfl | rfl
 ·obtain ⟨a,vs,ev,s,dn⟩:=e1.tup_
  exact ⟨a,ev, .inr ⟨⟨vs,R.eE s1.rel.same s⟩,q _ _ _ _ _ s1 (aL3 s dn) h1⟩⟩
 ·obtain ⟨a,vs,ev,s,dn⟩:=e1.lst_
  exact ⟨a,ev, .inl ⟨⟨vs,SqL.of (s1.rel.same _ _ s)⟩,q _ _ _ _ _ s1 (aAI (SqL.of s) dn) h1⟩⟩
 ·obtain ⟨a,vs,ev,s,dn⟩:=e1.fl_
  exact ⟨a,ev, .inl ⟨⟨vs,s1.rel.same.seq s⟩,q _ _ _ _ _ s1 (aAI s dn) h1⟩⟩
theorem dD {p:Pos} (hm:X.mg "range" = none) (h:GA X [a] Γ M fun ds M1=>∃ j:Int,ds=[.int j] ∧ -(2 ^ 62)≤j∧j < 2 ^ 62∧ki (jY 0 j.toNat) M1) (hg:Gl X "range" := by rfl) (hs:starEach [a] X.env=[(false,eval a X.env)]:=by rfl):GI X tg (.Call (.Name "range" p) [a] [] pos) Γ M ki:=fun σ G H R en rl q=>by
 refine lI (aEQ hg hm pUA hs) ?_
 refine h σ G H _ en rl fun vs G1 H1 ds M1 s1 e1 ⟨j,ed,h1,h2,h3⟩ => ?_
 subst ed
 obtain ⟨v,rfl,dv⟩:=dens1 e1
 rw [dv.int_]
 exact ⟨j,rfl,h1,h2,q _ _ _ _ _ s1 aEE h3⟩
theorem aJV {p:Pos} (hm:X.mg "range" = none) (h:GA X [a,b] Γ M fun ds M1=>∃ i j:Int,ds=[.int i, .int j]∧(-(2 ^ 62)≤i∧i < 2 ^ 62 ∧ -(2 ^ 62)≤j∧j < 2 ^ 62)∧ki (jY i (j - i).toNat) M1) (hg:Gl X "range" := by rfl)
  (hs:starEach [a,b] X.env=[(false,eval a X.env),(false,eval b X.env)]:=by rfl) (hs2:starEach [b] X.env=[(false,eval b X.env)]:=by rfl):GI X tg (.Call (.Name "range" p) [a,b] [] pos) Γ M ki:=fun σ G H R en rl q=>by
 refine lI (aDT hg hm pUA hs hs2) ?_
 refine h σ G H _ en rl fun vs G1 H1 ds M1 s1 e1 ⟨i,j,ed,h1,h3⟩ => ?_
 subst ed
 obtain ⟨v,u,rfl,dv,du⟩:=dens2 e1
 rw [dv.int_,du.int_]
 exact ⟨i,j,rfl,h1,q _ _ _ _ _ s1 aEE h3⟩
end
section
variable {K:Fg}{G H:Hp}{M:Mem}{Γ:Gm}{σ:St}
theorem join_some {α:Type}{o:Option (Option α)}{x:α} (h:o.join=some x):o=some (some x):=by
 cases o with
 | none=>cases h
 | some y=>cases y with
  | none=>cases h
  | some z=>cases h; rfl
theorem EnvR.cap (h:EnvR K G Γ σ) {d:D}{v:V} (e:Den K G d v) (cap:List Nat):EnvR K G (some d::cap.map fun k=>(Γ[k]?).join) (some v::cap.map fun k=>(σ[k]?).join):=by
 refine ⟨by simp,fun i c q => ?_⟩
 cases i with
 | zero=>simp at q; subst q; exact ⟨v,rfl,e⟩
 | succ i =>
  rw [List.getElem?_cons_succ,List.getElem?_map] at q ⊢
  cases hc:cap[i]? with
  | none=>rw [hc] at q; cases q
  | some j =>
   rw [hc,Option.map_some] at q
   have q':(Γ[j]?).join=some c:=by injection q
   obtain ⟨u,a,b⟩:=h.get j c (join_some q')
   exact ⟨u,by rw [Option.map_some,a]; rfl,b⟩
theorem Stp.aside {G0 H0:Hp}{M0:Mem}{p:Addr}{o:HO} (s:Stp K G0 H0 M0 G H M) (h0:H0 p=none) (hg:G p=none) (hm:M p=none):Stp K G0 H0 M0 G (upd H p o) M:=by
 refine ⟨s.gg,⟨fun b u e => ?_,fun a m e => ?_⟩,fun a u e1 e2 e3 => ?_⟩
 ·rw [bL (bZ e hg)]; exact s.rel.same b u e
 ·have z:a≠p:=fun z=>by rw [z,hm] at e; cases e
  exact ⟨(s.rel.mem a m e).1,(s.rel.mem a m e).2.mv (Same.refl G) (bL z)⟩
 ·obtain ⟨x,y,z⟩:=s.fr a u e1 e2 e3
  exact ⟨by rw [bL (bZ e1 h0)]; exact x,y,z⟩
theorem Stp.track {G0 H0:Hp}{M0:Mem}{p:Addr}{vs:List V}{ds:List D} (s:Stp K G0 H0 M0 G H M) (h0:H0 p=none) (hg:G p=none) (hp:H p=some (.lst vs)) (dn:Dens K G ds vs):Stp K G0 H0 M0 G H (cF M p (.lst ds)):=by
 refine ⟨s.gg,⟨s.rel.same,fun a m e => ?_⟩,fun a u e1 e2 e3 => ?_⟩
 ·by_cases z:a=p
  ·subst z
   rw [aZ] at e; cases e
   exact ⟨hg,vs,hp,dn⟩
  ·rw [d9 z] at e; exact s.rel.mem a m e
 ·obtain ⟨x,y,z⟩:=s.fr a u e1 e2 e3
  exact ⟨x,y,by rw [d9 (bZ e1 h0)]; exact z⟩
end
def aB2 (Y:Cx) (ifs:List Expr):TT:=fun σ H Q=>∀ pins s,Inv Y pins σ H s →
  wpAny (model Y.prog Y.w) Y.A (forIn ifs true fun c r=>if r=true then do let ok ← isTrue c Y.env (eval c Y.env); pure (ForInStep.yield ok) else pure (ForInStep.yield r)) (TP Y pins σ Q) Y.xe s
def GIf (Y:Cx) (ifs:List Expr) (Γ:Gm) (M:Mem) (kb:Bool→Mem→Prop):Prop :=
 ∀ σ G H Q,EnvR Y.K G Γ σ→Rel Y.K G H M→qO Y.K M kb G H Q→aB2 Y ifs σ H Q
theorem bJ {Y:Cx}{Γ:Gm}{M:Mem}{kb:Bool→Mem→Prop} (h:kb true M):GIf Y [] Γ M kb:=fun σ G H Q en rl q pins s I=>aH4 pins s σ H Q I (q _ _ _ _ (Stp.refl rl) h)
theorem nD {Y:Cx}{c:Expr}{Γ:Gm}{M:Mem}{kb:Bool→Mem→Prop} (h:GT Y c Γ M kb):GIf Y [c] Γ M kb:=fun σ G H Q en rl q pins s I=>aKD pUT pins s σ H Q I (h σ G H Q en rl q)
def Comp (X:Cx) (x:Str) (ns:List Str) (cap:List Nat) (elt:Expr) (ifs:List Expr) (scope:Scope) (Γ:Gm) (k:D→Mem→Prop) (ds:List D) (M1:Mem):Prop :=
 ds.length≤sizeLine∧∃ I:Nat→List D→Mem→Prop,I 0 [] M1 ∧
  (∀ i d acc M2,ds[i]?=some d→I i acc M2→∀ cs C s₀ H₀ fp,GIf (aX X scope cs C (x::ns) s₀ H₀ fp) ifs (some d::cap.map fun k=>(Γ[k]?).join) M2 fun c M3 =>
   if c=true then (∀ cs C s₀ H₀ fp,GE (aX X scope cs C (x::ns) s₀ H₀ fp) elt (some d::cap.map fun k=>(Γ[k]?).join) M3 (fun y M4=>I (i+1) (acc++[y]) M4)) else I (i+1) acc M3) ∧
  (∀ acc M2,I ds.length acc M2→∀ a,M2 a=none→k (.mt a) (cF M2 a (.lst acc)))
theorem aEF {X:Cx}{x:Str}{px:Pos}{iter elt:Expr}{ifs:List Expr}{scope:Scope}{ns:List Str}{cap:List Nat}{Γ:Gm}{M:Mem}{k:D→Mem→Prop}
  (h:GI X (.Name x px) iter Γ M (Comp X x ns cap elt ifs scope Γ k)) {σ:St}{G H:Hp}{Q:VK} (en:EnvR X.K G Γ σ) (rl:Rel X.K G H M) (q:Cont X.K M k G H Q) :
  qF (tUI X (.Name x px) iter) cap (fun σ H Q=>∀ cs C s₀ H₀ fp,aB2 (aX X scope cs C (x::ns) s₀ H₀ fp) ifs σ H Q) (fun σ H Q=>∀ cs C s₀ H₀ fp,tU (aX X scope cs C (x::ns) s₀ H₀ fp) elt σ H Q) σ H Q:=by
 refine h σ G H _ en rl fun J G1 H1 ds M1 s1 yd ⟨hlen,I,h0,hstep,hend⟩ A hA => ?_
 have hA':=s1.rel.free hA
 refine ⟨fun i m ys H2=>m=ds.length - i∧i≤ds.length∧∃ G2 M2 acc,Stp X.K G1 H1 M1 G2 H2 M2∧H2 A=some (.lst ys)∧G2 A=none∧M2 A=none∧Dens X.K G2 acc ys∧I i acc M2∧acc.length≤i,
  ⟨ds.length,by simp,Nat.zero_le _,G1,M1,[],(Stp.refl s1.rel).aside hA hA'.1 hA'.2,bQ,hA'.1,hA'.2,bV,h0,Nat.le_refl _⟩,?_⟩
 rintro i m ys H2 ⟨rfl,hi,G2,M2,acc,s2,hl,hg,hm,dn,hI,hacc⟩
 refine ⟨hl,?_⟩
 by_cases hlt:i < ds.length
 ·refine .inr ⟨yd.go i G2 H2 M2 s2.gg s2.rel hlt,by rw [← dn.len]; omega,fun x H3 y => ?_⟩
  obtain ⟨G3,d,s3,hd,ex⟩:=yd.yld i G2 H2 M2 x H3 s2.gg s2.rel hlt y
  obtain ⟨l3,g3,m3⟩:=s3.fr A _ hl hg hm
  intro cs C s₀ H₀ fp
  have en3:=((en.up s1.gg).up (s2.trans s3).gg).cap ex cap
  refine hstep i d acc M2 hd hI cs C s₀ H₀ fp _ G3 H3 _ en3 s3.rel fun c G4 H4 M4 s4 h4 => ?_
  obtain ⟨l4,g4,m4⟩:=s4.fr A _ l3 g3 m3
  cases c with
  | true =>
   rw [if_pos rfl] at h4 ⊢
   intro cs C s₀ H₀ fp
   refine h4 cs C s₀ H₀ fp _ G4 H4 _ (en3.up s4.gg) s4.rel fun y G5 H5 d5 M5 s5 e5 h5 => ?_
   obtain ⟨l5,g5,m5⟩:=s5.fr A _ l4 g4 m4
   have s25:=((s2.trans s3).trans s4).trans s5
   exact ⟨l5,ds.length - (i+1),by omega,rfl,hlt,G5,M5,acc++[d5],s25.aside hA g5 m5,bQ,g5,m5,(dn.up ((s3.trans s4).trans s5).gg).append (bC e5 bV),h5,by rw [List.length_append,List.length_singleton]; omega⟩
  | false =>
   rw [if_neg Bool.false_ne_true] at h4 ⊢
   exact ⟨ds.length - (i+1),by omega,rfl,hlt,G4,M4,acc,(s2.trans s3).trans s4,l4,g4,m4,dn.up (s3.trans s4).gg,h4,by omega⟩
 ·have e:i=ds.length:=by omega
  subst e
  exact .inl ⟨yd.stop _ G2 H2 M2 s2.gg s2.rel rfl,q _ _ _ _ _ (s1.trans (s2.track hA hg hl dn)) xB (hend acc M2 hI A hm)⟩
end Z
namespace Z
open PySem L2
section
variable {X:Cx}{Γ:Gm}{M:Mem}{k:D→Mem→Prop}{F:Fin}{pos:Pos}{a b c e o tg iter:Expr}{st:Stmt}{ss body:List Stmt}
theorem aA1 {x:Str}{px:Pos}{elt:Expr}{ifs:List Expr}{scope sc:Scope}{N:List Str} (ns:List Str) (cap:List Nat) (h:GI X (.Name x px) iter Γ M (Comp X x ns cap elt ifs scope Γ k))
  (hsc:X.env.scope=sc:=by rfl) (hN:X.N=N:=by rfl) (ok:jM sc scope x ns cap N=true:=by first | decide +kernel | kernel_rfl!) (hc:X.calm=true:=by rfl) (hs:∀ v,foldedSetIterable iter X.env v=pure v:=by intro _; rfl) :
  GE X (.ListComp elt [⟨.Name x px,iter,ifs,0⟩] scope pos) Γ M k:=fun σ G H Q en rl q =>
 cU (aHR ns cap hc hsc hN ok pUI (fun cs C s₀ H₀ fp pins s σ H Q I h=>h cs C s₀ H₀ fp pins s I) (fun cs C s₀ H₀ fp pins s σ H Q I h=>h cs C s₀ H₀ fp pins s I) hs) (aEF h en rl q)
def aHZ (X:Cx) (x:Str) (ns:List Str) (cap:List Nat) (elt:Expr) (ifs:List Expr) (scope:Scope) (Γ:Gm) (k:D→Mem→Prop) (ds:List D) (M1:Mem):Prop :=
 ds.length≤sizeLine∧∃ I:Nat→List D→Mem→Prop,I 0 [] M1 ∧
  (∀ i d acc M2,ds[i]?=some d→I i acc M2→∀ cs C s₀ H₀ fp,GIf (aX X scope cs C (x::ns) s₀ H₀ fp) ifs (some d::cap.map fun k=>(Γ[k]?).join) M2 fun c M3 =>
   if c=true then (∀ cs C s₀ H₀ fp,GE (aX X scope cs C (x::ns) s₀ H₀ fp) elt (some d::cap.map fun k=>(Γ[k]?).join) M3 (fun y M4=>I (i+1) (acc++[y]) M4)) else I (i+1) acc M3) ∧
  (∀ acc M2,I ds.length acc M2→k (.lst acc) M2)
theorem bG {x:Str}{px:Pos}{elt:Expr}{ifs:List Expr}{scope sc:Scope}{N:List Str} (ns:List Str) (cap:List Nat) (h:GI X (.Name x px) iter Γ M (aHZ X x ns cap elt ifs scope Γ k))
  (hsc:X.env.scope=sc:=by rfl) (hN:X.N=N:=by rfl) (ok:jM sc scope x ns cap N=true:=by first | decide +kernel | kernel_rfl!) (hc:X.calm=true:=by rfl) (hs:∀ v,foldedSetIterable iter X.env v=pure v:=by intro _; rfl) :
  GE X (.ListComp elt [⟨.Name x px,iter,ifs,0⟩] scope pos) Γ M k:=by
 refine nN (aA1 ns cap ?_ hsc hN ok hc hs)
 intro σ G H Rr en rl q
 refine h σ G H Rr en rl fun J G1 H1 ds M1 s1 yd ⟨hl,I,h0,hstep,hend⟩ => ?_
 exact q J G1 H1 ds M1 s1 yd ⟨hl,I,h0,hstep,fun acc M2 hI a ha=>⟨a,acc,M2,rfl,aZ,ha,(Le.refl M2).upd ha,hend acc M2 hI⟩⟩
theorem b8 {x:Str}{ns:List Str}{cap:List Nat}{elt:Expr}{ifs:List Expr}{scope:Scope}{ds:List D}{M1:Mem} (hl:ds.length≤sizeLine) (I:Nat→List D→Mem→Prop) (h0:I 0 [] M1)
  (hs:∀ i d acc M2,ds[i]?=some d→I i acc M2→∀ cs C s₀ H₀ fp,GIf (aX X scope cs C (x::ns) s₀ H₀ fp) ifs (some d::cap.map fun k=>(Γ[k]?).join) M2 fun c M3 =>
   if c=true then (∀ cs C s₀ H₀ fp,GE (aX X scope cs C (x::ns) s₀ H₀ fp) elt (some d::cap.map fun k=>(Γ[k]?).join) M3 (fun y M4=>I (i+1) (acc++[y]) M4)) else I (i+1) acc M3)
  (hd:∀ acc M2,I ds.length acc M2→k (.lst acc) M2):aHZ X x ns cap elt ifs scope Γ k ds M1:=⟨hl,I,h0,hs,hd⟩
theorem bU (h:F.nx Γ M):GS X [] Γ M F:=fun σ G H E en rl q=>uH aIQ (q.nx σ G H Γ M (Stp.refl rl) en h)
theorem aH (h:G1 X st Γ M { F with nx:=fun Γ' M'=>GS X ss Γ' M' F }):GS X (st::ss) Γ M F:=fun σ G H E en rl q=>by
 refine uH (aHP pUS uF) ?_
 refine h σ G H _ en rl ⟨fun σ' G' H' Γ' M' s' en' h' => ?_,q.rt,q.bk,q.ct⟩
 exact h' σ' G' H' E en' s'.rel (q.up s')
theorem aL (h:G1 X st Γ M F):GS X [st] Γ M F:=fun σ G H E en rl q=>uH (aJT pUS) (h σ G H E en rl q)
theorem iC (i:Nat) {a:Addr}{ds:List D} (hΓ:Γ[i]?=some (some (.mt a))) (hM:M a=some (.lst ds)) (h:GS X ss (Γ.set i (some (.lst ds))) (iQ M a) F):GS X ss Γ M F:=fun σ G H E en rl q=>by
 obtain ⟨vs,x1,x2,s1⟩:=rl.frz hM
 obtain ⟨v,ev,dv⟩:=en.get i _ hΓ
 have dl:Den X.K (upd G a (.lst vs)) (.lst ds) v:=by rw [dv.mt_]; exact fR bQ (x2.up s1.gg)
 have en':=(en.up s1.gg).set dl i
 have es:σ.set i (some v)=σ:=by
  apply List.ext_getElem?
  intro j
  rw [List.getElem?_set]
  by_cases z:i=j
  ·subst z
   rw [if_pos rfl,if_pos (List.getElem?_eq_some_iff.mp ev).1,ev]
  ·rw [if_neg z]
 rw [es] at en'
 exact h σ _ H E en' s1.rel (q.up s1)
theorem aP (i:Nat) {x:Str}{pos':Pos} (hN:X.N.Nodup) (h:GE X e Γ M fun d M1=>F.nx (Γ.set i (some d)) M1) (hi:X.N[i]?=some x:=by rfl) (hx:Loc X.env.scope x:=by first | exact Or.inl rfl | exact Or.inr rfl)
  (hs:swapsWith e (some (.Name x pos')) pos.line X.env=pure false:=by rfl) (hf:X.fn x=true∨X.env.scope.names.lookup x=some .local:=by first | exact .inl rfl | exact .inr rfl):G1 X (.Assign [.Name x pos'] e pos) Γ M F:=fun σ G H E en rl q=>by
 refine iF (aLC hN hi hx pU hs hf) ?_
 exact h σ G H _ en rl fun v G1 H1 d M1 s1 e1 h1=>q.nx _ _ _ _ _ s1 ((en.up s1.gg).set e1 i) h1
theorem eZ (iy:Nat) {x y:Str}{px py spos:Pos}{elt:Expr}{ifs:List Expr}{scope sc:Scope}{N:List Str} (ns:List Str) (cap:List Nat) (hNd:N.Nodup) (h:GI X (.Name x px) iter Γ M (Comp X x ns cap elt ifs scope Γ fun d M1=>F.nx (Γ.set iy (some d)) M1))
  (hsc:X.env.scope=sc:=by rfl) (hN:X.N=N:=by rfl) (ok:jM sc scope x ns cap N=true:=by first | decide +kernel | kernel_rfl!) (hiy:N[iy]?=some y:=by rfl) (hyl:sc.names.lookup y=some .local:=by rfl) (hc:X.calm=true:=by rfl) (hs:∀ v,foldedSetIterable iter X.env v=pure v:=by intro _; rfl)
  (hsw:swapsWith (.ListComp elt [⟨.Name x px,iter,ifs,0⟩] scope pos) (some (.Name y py)) spos.line X.env=pure true:=by rfl) :
  G1 X (.Assign [.Name y py] (.ListComp elt [⟨.Name x px,iter,ifs,0⟩] scope pos) spos) Γ M F:=fun σ G H E en rl q=>by
 refine iF (zI (tt:=fun σ H Q=>∀ cs C s₀ H₀ fp,aB2 (aX X scope cs C (x::ns) s₀ H₀ fp) ifs σ H Q) (te:=fun σ H Q=>∀ cs C s₀ H₀ fp,tU (aX X scope cs C (x::ns) s₀ H₀ fp) elt σ H Q) iy ns cap hNd hiy hyl hc hsc hN ok pUI (fun cs C s₀ H₀ fp pins s σ H Q I h=>h cs C s₀ H₀ fp pins s I) (fun cs C s₀ H₀ fp pins s σ H Q I h=>h cs C s₀ H₀ fp pins s I) hs hsw) ?_
 exact aEF h en rl fun v G1 H1 d M1 s1 e1 h1=>q.nx _ _ _ _ _ s1 ((en.up s1.gg).set e1 iy) h1
theorem kY {x:Str}{ns:List Str}{cap:List Nat}{elt:Expr}{ifs:List Expr}{scope:Scope}{ds:List D}{M1:Mem} (hl:ds.length≤sizeLine) (I:Nat→List D→Mem→Prop) (h0:I 0 [] M1)
  (hs:∀ i d acc M2,ds[i]?=some d→I i acc M2→∀ cs C s₀ H₀ fp,GIf (aX X scope cs C (x::ns) s₀ H₀ fp) ifs (some d::cap.map fun k=>(Γ[k]?).join) M2 fun c M3 =>
   if c=true then (∀ cs C s₀ H₀ fp,GE (aX X scope cs C (x::ns) s₀ H₀ fp) elt (some d::cap.map fun k=>(Γ[k]?).join) M3 (fun y M4=>I (i+1) (acc++[y]) M4)) else I (i+1) acc M3)
  (hd:∀ acc M2,I ds.length acc M2→∀ a,M2 a=none→k (.mt a) (cF M2 a (.lst acc))):Comp X x ns cap elt ifs scope Γ k ds M1 :=
 ⟨hl,I,h0,hs,hd⟩
theorem gN (h:GE X e Γ M fun d M1=>GG X tg d Γ M1 F.nx) (hs:swapsWithSole [tg] e pos.line X.env=pure false:=by rfl) (hw:swappedStores [tg] e X.env=pure none:=by rfl)
  (h1:(assignEach [tg] X.env).map (·.2)=[assign tg X.env]:=by rfl):G1 X (.Assign [tg] e pos) Γ M F:=fun σ G H E en rl q=>by
 refine iF (aL6 pU pUG hs hw h1) ?_
 exact h σ G H _ en rl fun v G1 H1 d M1 s1 e1 h1=>h1 σ G1 H1 v _ (en.up s1.gg) s1.rel e1 (q.nx.up s1)
theorem aEJ (i j:Nat) {x y:Str}{px py pt:Pos}{kt k2 pt2} (hN:X.N.Nodup) (hij:i≠j) (h:GA X [a,b] Γ M fun ds M1=>∃ d1 d2,ds=[d1,d2]∧F.nx ((Γ.set i (some d1)).set j (some d2)) M1) (hi:X.N[i]?=some x:=by rfl) (hj:X.N[j]?=some y:=by rfl)
  (hx:X.env.scope.names.lookup x=some .local:=by rfl) (hy:X.env.scope.names.lookup y=some .local:=by rfl) (hc:X.calm=true:=by rfl)
  (hw:swappedStores [.Tuple [.Name x px, .Name y py] kt pt] (.Tuple [a,b] k2 pt2) X.env=pure (some [x,y]):=by rfl)
  (hs:swapsWithSole [.Tuple [.Name x px, .Name y py] kt pt] (.Tuple [a,b] k2 pt2) pos.line X.env=pure false:=by rfl) :
  G1 X (.Assign [.Tuple [.Name x px, .Name y py] kt pt] (.Tuple [a,b] k2 pt2) pos) Γ M F:=fun σ G H E en rl q=>by
 refine iF (aMI hc hN hi hj hij hx hy pUA hw hs) ?_
 refine h σ G H _ en rl fun vs G1 H1 ds M1 s1 e1 ⟨d1,d2,ed,h1⟩ => ?_
 subst ed
 obtain ⟨v,u,rfl,dv,du⟩:=dens2 e1
 exact ⟨v,u,rfl,q.nx _ _ _ _ _ s1 (((en.up s1.gg).set dv i).set du j) h1⟩
variable {kg:Gm→Mem→Prop}{d:D}
theorem bO (i:Nat) {x:Str} (hN:X.N.Nodup) (h:kg (Γ.set i (some d)) M) (hi:X.N[i]?=some x:=by rfl) (hx:Loc X.env.scope x:=by first | exact Or.inl rfl | exact Or.inr rfl)
  (hf:X.fn x=true∨X.env.scope.names.lookup x=some .local:=by first | exact .inl rfl | exact .inr rfl):GG X (.Name x pos) d Γ M kg:=fun σ G H v Q en rl e q =>
 tQ (p4 hN hi hx hf) (q _ _ _ _ _ (Stp.refl rl) (en.set e i) h)
theorem fS (h:kg Γ M):GGs X [] [] Γ M kg:=fun σ G H vs Q en rl e q=>aAU aAE ⟨cG e,q _ _ _ _ _ (Stp.refl rl) en h⟩
theorem bT {tgs:List Expr}{ds:List D} (h:GG X tg d Γ M fun Γ1 M1=>GGs X tgs ds Γ1 M1 kg) (hs:(assignEach (tg::tgs) X.env).map (·.2)=assign tg X.env::(assignEach tgs X.env).map (·.2):=by rfl):GGs X (tg::tgs) (d::ds) Γ M kg:=fun σ G H vs Q en rl e q=>by
 refine aAU (rX pUG aHC hs) ?_
 obtain ⟨v,r,ev,e1,e2⟩:=bX e
 refine ⟨v,r,ev,h σ G H v _ en rl e1 fun σ1 G1 H1 Γ1 M1 s1 en1 h1 => ?_⟩
 exact h1 σ1 G1 H1 r Q en1 s1.rel (e2.up s1.gg) (q.up s1)
theorem iL {tgs:List Expr}{kk:Nat}{n:Nat}{ds:List D} (hl:ds.length=n) (h:GGs X tgs ds Γ M kg) (hc:X.calm=true:=by rfl) (hn:(assignEach tgs X.env).length=n:=by rfl) (hst:(assignEach tgs X.env).findIdx? (·.1)=none:=by rfl) :
  GG X (.Tuple tgs kk pos) (.tup ds) Γ M kg:=fun σ G H v Q en rl e q=>by
 refine tQ (aEZ hc aHC hn hst) ?_
 obtain ⟨a,vs,ev,s,dn⟩:=e.tup_
 exact ⟨a,vs,ev,R.eE rl.same s,by rw [← dn.len]; exact hl,h σ G H vs Q en rl dn q⟩
theorem aLK {tgs:List Expr}{kk:Nat}{n:Nat}{ds:List D} (hl:ds.length=n) (h:GGs X tgs ds Γ M kg) (hc:X.calm=true:=by rfl) (hn:(assignEach tgs X.env).length=n:=by rfl) (hst:(assignEach tgs X.env).findIdx? (·.1)=none:=by rfl) :
  GG X (.Tuple tgs kk pos) (.lst ds) Γ M kg:=fun σ G H v Q en rl e q=>by
 refine tQ (aLR hc aHC hn hst) ?_
 obtain ⟨a,vs,ev,s,dn⟩:=e.lst_
 exact ⟨a,vs,ev,SqL.of (rl.same _ _ s),by rw [← dn.len]; exact hl,h σ G H vs Q en rl dn q⟩
theorem aDW {i:Expr} (h:GE X o Γ M fun d1 M1=>GE X i Γ M1 fun d2 M2=>∃ a n j ds,d1 = .mt a∧d2 = .int n∧M2 a=some (.lst ds)∧ixN ds.length n=some j∧kg Γ (cF M2 a (.lst (ds.set j d))))
  (ha:∀ v,assign (.Subscript o i pos) X.env v=(do
   let ov ← holding [v] (eval o X.env)
   let iv ← holding [v,ov] (eval i X.env)
   standAt pos
   holding [v,ov,iv] (setItem ov iv v)
   release [v,ov,iv] []):=by intro _; rfl):GG X (.Subscript o i pos) d Γ M kg:=fun σ G H v Q en rl e q=>by
 refine tQ (aMC pU pU set_list ha) ?_
 refine h σ G H _ en rl fun v1 G1 H1 d1 M1 s1 e1 h1 => ?_
 refine h1 σ G1 H1 _ (en.up s1.gg) s1.rel fun v2 G2 H2 d2 M2 s2 e2 ⟨a,n,j,ds,x1,x2,hm,hj,h2⟩ => ?_
 subst x1 x2
 obtain ⟨_,vs,es,dn⟩:=s2.rel.mem _ _ hm
 have s12:=s1.trans s2
 exact ⟨a,vs,n,j,(e1.up s2.gg).mt_,e2.int_,es,by rw [← dn.len]; exact hj,q _ _ _ _ _ (s12.trans (s2.rel.wr hm (dn.set (e.up s12.gg) j))) (en.up s12.gg) h2⟩
theorem iZ (h:GE X e Γ M fun _ M1=>F.nx Γ M1) (hs:swapsWith e none pos.line X.env=pure false:=by rfl):G1 X (.Expr e pos) Γ M F:=fun σ G H E en rl q =>
 iF (aJ2 pU hs) (h σ G H _ en rl fun v G1 H1 d M1 s1 e1 h1=>q.nx _ _ _ _ _ s1 (en.up s1.gg) h1)
theorem aT (h:GE X e Γ M F.rt):G1 X (.Return (some e) pos) Γ M F:=fun σ G H E en rl q=>iF (aMX pU) (h σ G H _ en rl q.rt)
theorem cA {ss1 ss2:List Stmt} (h:GT X c Γ M fun t M1=>if t=true then GS X ss1 Γ M1 F else GS X ss2 Γ M1 F):G1 X (.If c ss1 ss2 pos) Γ M F:=fun σ G H E en rl q=>by
 refine iF (aNZ pUT uF uF) ?_
 refine h σ G H _ en rl fun t G1 H1 M1 s1 h1 => ?_
 cases t with
 | true=>rw [if_pos rfl] at h1 ⊢; exact h1 σ G1 H1 E (en.up s1.gg) s1.rel (q.up s1)
 | false=>rw [if_neg Bool.false_ne_true] at h1 ⊢; exact h1 σ G1 H1 E (en.up s1.gg) s1.rel (q.up s1)
theorem eA (P:Gm→Mem→Prop) (h:G1 X st Γ M { F with nx:=P }) (h2:∀ Γ' M',P Γ' M'→F.nx Γ' M'):G1 X st Γ M F:=fun σ G H E en rl q=>h σ G H E en rl ⟨fun σ' G' H' Γ' M' s' en' h'=>q.nx σ' G' H' Γ' M' s' en' (h2 _ _ h'),q.rt,q.bk,q.ct⟩
def Loop (X:Cx) (tg:Expr) (body:List Stmt) (Γ:Gm) (F:Fin) (ds:List D) (M:Mem):Prop:=∃ I:Nat→Gm→Mem→Prop,I 0 Γ M ∧
 (∀ i d Γ' M',ds[i]?=some d→I i Γ' M'→GG X tg d Γ' M' fun Γ2 M2=>GS X body Γ2 M2 { F with nx:=I (i+1),ct:=I (i+1),bk:=F.nx })∧∀ Γ' M',I ds.length Γ' M'→F.nx Γ' M'
theorem gA (h:GI X tg iter Γ M (Loop X tg body Γ F)) (hp:PassesOwn (model X.prog X.w) X.A X.env X.xe:=by exact PassesOwn.never) (hc:X.calm=true:=by rfl) (hs:∀ x,foldedSetIterable iter X.env x=pure x:=by intro _; rfl):G1 X (.For tg iter body [] pos) Γ M F:=fun σ G H E en rl q=>by
 refine iF (aMU hp hc pUI pUG uF hs) ?_
 refine h σ G H _ en rl fun J G1 H1 ds M1 s1 yd ⟨I,h0,hstep,hend⟩ => ?_
 refine ⟨fun i m σ' H'=>m=ds.length - i∧i≤ds.length∧∃ G' Γ' M',Stp X.K G1 H1 M1 G' H' M'∧EnvR X.K G' Γ' σ'∧I i Γ' M',⟨ds.length,by simp,Nat.zero_le _,G1,Γ,M1,Stp.refl s1.rel,en.up s1.gg,h0⟩,?_⟩
 rintro i m σ2 H2 ⟨rfl,hi,G2,Γ2,M2,s2,en2,hI⟩
 by_cases hlt:i < ds.length
 ·refine .inr ⟨yd.go i G2 H2 M2 s2.gg s2.rel hlt,fun σ' H'=>∃ G' Γ' M',Stp X.K G1 H1 M1 G' H' M'∧EnvR X.K G' Γ' σ'∧I (i+1) Γ' M',fun σ' H' z=>⟨ds.length - (i+1),by omega,rfl,hlt,z⟩,fun x H3 y => ?_⟩
  obtain ⟨G3,d,s3,hd,ex⟩:=yd.yld i G2 H2 M2 x H3 s2.gg s2.rel hlt y
  have s13:=s2.trans s3
  refine hstep i d Γ2 M2 hd hI σ2 G3 H3 x _ (en2.up s3.gg) s3.rel ex fun σ4 G4 H4 Γ4 M4 s4 en4 h4 => ?_
  have s14:=s13.trans s4
  refine h4 σ4 G4 H4 _ en4 s4.rel ⟨fun σ5 G5 H5 Γ5 M5 s5 en5 h5=>⟨G5,Γ5,M5,s14.trans s5,en5,h5⟩,q.rt.up (s1.trans s14),q.nx.up (s1.trans s14),fun σ5 G5 H5 Γ5 M5 s5 en5 h5=>⟨G5,Γ5,M5,s14.trans s5,en5,h5⟩⟩
 ·have e:i=ds.length:=by omega
  subst e
  exact .inl ⟨yd.stop _ G2 H2 M2 s2.gg s2.rel rfl,q.nx _ _ _ _ _ (s1.trans s2) en2 (hend _ _ hI)⟩
theorem r6 (I:Nat→Gm→Mem→Prop) {n:Nat} (h0:I n Γ M)
  (hs:∀ m Γ' M',I m Γ' M'→GT X c Γ' M' fun t M1=>if t=true then GS X body Γ' M1 { F with nx:=fun Γ2 M2=>∃ m',m' < m∧I m' Γ2 M2,ct:=fun Γ2 M2=>∃ m',m' < m∧I m' Γ2 M2,bk:=F.nx } else F.nx Γ' M1)
  (hp:PassesOwn (model X.prog X.w) X.A X.env X.xe:=by exact PassesOwn.never):G1 X (.While c body [] pos) Γ M F:=fun σ G H E en rl q=>by
 refine iF (aFN hp pUT uF) ?_
 refine ⟨fun m σ' H'=>∃ G' Γ' M',Stp X.K G H M G' H' M'∧EnvR X.K G' Γ' σ'∧I m Γ' M',⟨n,G,Γ,M,Stp.refl rl,en,h0⟩,?_⟩
 rintro m σ2 H2 ⟨G2,Γ2,M2,s2,en2,hI⟩
 refine hs m Γ2 M2 hI σ2 G2 H2 _ en2 s2.rel fun t G3 H3 M3 s3 h3 => ?_
 have s13:=s2.trans s3
 cases t with
 | true =>
  rw [if_pos rfl] at h3 ⊢
  refine ⟨fun σ' H'=>∃ m',m' < m∧∃ G' Γ' M',Stp X.K G H M G' H' M'∧EnvR X.K G' Γ' σ'∧I m' Γ' M',fun σ' H' z=>z,?_⟩
  refine h3 σ2 G3 H3 _ (en2.up s3.gg) s3.rel ⟨fun σ5 G5 H5 Γ5 M5 s5 en5 ⟨m',hm,h5⟩=>⟨m',hm,G5,Γ5,M5,s13.trans s5,en5,h5⟩,q.rt.up s13,q.nx.up s13,fun σ5 G5 H5 Γ5 M5 s5 en5 ⟨m',hm,h5⟩=>⟨m',hm,G5,Γ5,M5,s13.trans s5,en5,h5⟩⟩
 | false =>
  rw [if_neg Bool.false_ne_true] at h3 ⊢
  exact q.nx _ _ _ _ _ s13 (en2.up s3.gg) h3
end
section
variable {P:Program}{w:World}{K:Fg}{mg:Str→Option Value}{base:Heap}
abbrev cxF (P:Program) (w:World) (K:Fg) (mg:Str→Option Value) (base:Heap) (N:List Str) (x:Str) (st:Stmt) (f:Addr) (cdv:Value) (A:Around) (outer:List Env) (s:Shared) (H:Hp) (E:XK):Cx :=
 (rF CX0 P w K mg base N x (aQ st) f cdv A outer s H E).nox
theorem bK {x:Str}{st:Stmt}{ps N:List Str}{f:Addr}{fd:FuncData}{n:Nat}{F:Ct} (Df:R.Df K mg x st ps f fd) (S:FnScope N ps (aQ st)) (len:∀ ds M k,F ds M k→ds.length=ps.length)
  (h:∀ cdv A outer s H E,Room n (cxF P w K mg base N x st f cdv A outer s H E).A→∀ ds M k,F ds M k →
   GS (cxF P w K mg base N x st f cdv A outer s H E) (eN st) (ds.map some++List.replicate (N.length - ds.length) none) M { nx:=fun _ M'=>k .non M',rt:=k }):FnOk P w K mg base CX0 (n+1) f fd ps (spZ K F):=by
 refine Df.F.ok S (fun vs H Q E h => ?_) (fun cdv A outer s H vs Q E hr hsp => ?_)
 ·obtain ⟨G,M,ds,k,rl,dn,hF,_⟩:=h
  rw [← dn.len]; exact len _ _ _ hF
 ·obtain ⟨G,M,ds,k,rl,dn,hF,q⟩:=hsp
  refine ⟨_,uF,?_⟩
  refine h cdv A outer s H E hr ds M k hF (start N vs) G H _ (EnvR.start dn N.length) rl ⟨fun σ' G' H' Γ' M' s' en' h'=>q _ _ _ _ _ s' uL h',q,fun _ _ _ _ _ _ _ h'=>h'.elim,fun _ _ _ _ _ _ _ h'=>h'.elim⟩
end
end Z
namespace Z
open PySem L2
mutual
def eqD:D→D→Bool
 | .non, .non=>true
 | .bl a, .bl b=>a == b
 | .int a, .int b=>a == b
 | .bl a, .int b=>(if a then 1 else 0) == b
 | .int a, .bl b=>a == (if b then 1 else 0)
 | .str a, .str b=>a == b
 | .tup xs, .tup ys=>eqDs xs ys
 | .lst xs, .lst ys=>eqDs xs ys
 | _,_=>false
def eqDs:List D→List D→Bool
 | [],[]=>true
 | x::xs,y::ys=>eqD x y && eqDs xs ys
 | _,_=>false
end
mutual
def okD:Nat→D→Bool
 | _, .non | _, .bl _ | _, .int _ | _, .str _=>true
 | n+1, .tup ds=>okDs n ds
 | n+1, .lst ds=>okDs n ds
 | _,_=>false
def okDs:Nat→List D→Bool
 | _,[]=>true
 | n,d::ds=>okD n d && okDs n ds
end
mutual
theorem eqD_refl:∀ (n:Nat) (d:D),okD n d=true→eqD d d=true
 | _, .non,_=>by simp only [eqD]
 | _, .bl _,_=>by simp only [eqD,beq_self_eq_true]
 | _, .int _,_=>by simp only [eqD,beq_self_eq_true]
 | _, .str _,_=>by simp only [eqD,beq_self_eq_true]
 | n+1, .tup ds,h=>by simp only [okD] at h; simp only [eqD]; exact eqDs_refl n ds h
 | n+1, .lst ds,h=>by simp only [okD] at h; simp only [eqD]; exact eqDs_refl n ds h
 | 0, .tup _,h=>by simp [okD] at h
 | 0, .lst _,h=>by simp [okD] at h
 | _, .mt _,h=>by simp [okD] at h
 | _, .fl _,h=>by simp [okD] at h
theorem eqDs_refl:∀ (n:Nat) (ds:List D),okDs n ds=true→eqDs ds ds=true
 | _,[],_=>by simp only [eqDs]
 | n,d::ds,h=>by
  simp only [okDs,Bool.and_eq_true] at h
  simp only [eqDs,eqD_refl n d h.1,eqDs_refl n ds h.2,Bool.and_true]
end
def eqJ (xs ys:List D) (j:Nat):Bool:=match xs[j]?,ys[j]? with
 | some x,some y=>eqD x y
 | _,_=>true
theorem gH:∀ (xs ys:List D),((List.range (min xs.length ys.length)).all (eqJ xs ys) && xs.length == ys.length)=eqDs xs ys
 | [],[]=>by simp [eqDs]
 | [],_::_=>by simp [eqDs]
 | _::_,[]=>by simp [eqDs]
 | x::xs,y::ys=>by
  have ih:=gH xs ys
  simp only [eqDs,← ih,List.length_cons]
  rw [show min (xs.length+1) (ys.length+1)=min xs.length ys.length+1 by omega,List.range_succ_eq_map,List.all_cons,List.all_map]
  have e1:eqJ (x::xs) (y::ys) 0=eqD x y:=rfl
  have e2:(eqJ (x::xs) (y::ys)) ∘ Nat.succ=eqJ xs ys:=by funext j; rfl
  rw [e1,e2,Bool.and_assoc]
  congr 2
  by_cases h:xs.length=ys.length
  ·rw [h]; simp
  ·rw [beq_eq_false_iff_ne.mpr h,beq_eq_false_iff_ne.mpr (by omega)]
section
variable {X:Cx}{pins:List (Addr × Obj)}{σ:St}{H:Hp}{s:Shared}
mutual
theorem den_inj (I:Inv X pins σ H s):∀ (n:Nat) (d e:D) (v:V),okD n d=true→okD n e=true→Den X.K H d v→Den X.K H e v→d=e
 | n, .non,e,v,h1,h2,x,y=>by
  rw [x.non_] at y
  cases e with
  | non=>rfl
  | bl b=>have:=y.bl_; cases this
  | int b=>have:=y.int_; cases this
  | str b=>have:=y.str_; cases this
  | mt b=>have:=y.mt_; cases this
  | tup b=>obtain ⟨_,_,q,_⟩:=y.tup_; cases q
  | lst b=>obtain ⟨_,_,q,_⟩:=y.lst_; cases q
  | fl b=>obtain ⟨_,_,q,_⟩:=y.fl_; cases q
  | st b=>obtain ⟨_,_,_,q,_⟩:=y.st_; cases q
 | n, .bl b,e,v,h1,h2,x,y=>by
  rw [x.bl_] at y
  cases e with
  | non=>have:=y.non_; cases this
  | bl b=>have:=y.bl_; cases this; rfl
  | int b=>have:=y.int_; cases this
  | str b=>have:=y.str_; cases this
  | mt b=>have:=y.mt_; cases this
  | tup b=>obtain ⟨_,_,q,_⟩:=y.tup_; cases q
  | lst b=>obtain ⟨_,_,q,_⟩:=y.lst_; cases q
  | fl b=>obtain ⟨_,_,q,_⟩:=y.fl_; cases q
  | st b=>obtain ⟨_,_,_,q,_⟩:=y.st_; cases q
 | n, .int b,e,v,h1,h2,x,y=>by
  rw [x.int_] at y
  cases e with
  | non=>have:=y.non_; cases this
  | bl b=>have:=y.bl_; cases this
  | int b=>have:=y.int_; cases this; rfl
  | str b=>have:=y.str_; cases this
  | mt b=>have:=y.mt_; cases this
  | tup b=>obtain ⟨_,_,q,_⟩:=y.tup_; cases q
  | lst b=>obtain ⟨_,_,q,_⟩:=y.lst_; cases q
  | fl b=>obtain ⟨_,_,q,_⟩:=y.fl_; cases q
  | st b=>obtain ⟨_,_,_,q,_⟩:=y.st_; cases q
 | n, .str b,e,v,h1,h2,x,y=>by
  rw [x.str_] at y
  cases e with
  | non=>have:=y.non_; cases this
  | bl b=>have:=y.bl_; cases this
  | int b=>have:=y.int_; cases this
  | str b=>have:=y.str_; cases this; rfl
  | mt b=>have:=y.mt_; cases this
  | tup b=>obtain ⟨_,_,q,_⟩:=y.tup_; cases q
  | lst b=>obtain ⟨_,_,q,_⟩:=y.lst_; cases q
  | fl b=>obtain ⟨_,_,q,_⟩:=y.fl_; cases q
  | st b=>obtain ⟨_,_,_,q,_⟩:=y.st_; cases q
 | n, .mt _,_,_,h1,_,_,_=>by simp [okD] at h1
 | n, .fl _,_,_,h1,_,_,_=>by simp [okD] at h1
 | 0, .tup _,_,_,h1,_,_,_=>by simp [okD] at h1
 | 0, .lst _,_,_,h1,_,_,_=>by simp [okD] at h1
 | n+1, .tup ds,e,v,h1,h2,x,y=>by
  obtain ⟨a,vs,rfl,sq,dn⟩:=x.tup_
  cases e with
  | non=>have:=y.non_; cases this
  | bl b=>have:=y.bl_; cases this
  | int b=>have:=y.int_; cases this
  | str b=>have:=y.str_; cases this
  | mt b=>simp [okD] at h2
  | fl b=>simp [okD] at h2
  | st b=>simp [okD] at h2
  | tup es =>
   obtain ⟨b,ws,q,sq2,dn2⟩:=y.tup_
   cases q
   rw [← I.tuple_inj sq sq2] at dn2
   simp only [okD] at h1 h2
   rw [dens_inj I n ds es vs h1 h2 dn dn2]
  | lst es =>
   obtain ⟨b,ws,q,sq2,dn2⟩:=y.lst_
   cases q
   exfalso
   obtain ⟨its,_,pt,_⟩:=I.tuple sq
   obtain ⟨jts,_,pl,_⟩:=I.list (SqL.of sq2)
   obtain ⟨o,e1,c1,_⟩:=pt
   obtain ⟨o2,n2,e2,c2,_⟩:=pl
   rw [e1] at e2; cases e2
   rw [c1] at c2; exact absurd c2 (by simp)
 | n+1, .lst ds,e,v,h1,h2,x,y=>by
  obtain ⟨a,vs,rfl,sq,dn⟩:=x.lst_
  cases e with
  | non=>have:=y.non_; cases this
  | bl b=>have:=y.bl_; cases this
  | int b=>have:=y.int_; cases this
  | str b=>have:=y.str_; cases this
  | mt b=>simp [okD] at h2
  | fl b=>simp [okD] at h2
  | st b=>simp [okD] at h2
  | lst es =>
   obtain ⟨b,ws,q,sq2,dn2⟩:=y.lst_
   cases q
   rw [sq] at sq2; cases sq2
   simp only [okD] at h1 h2
   rw [dens_inj I n ds es vs h1 h2 dn dn2]
  | tup es =>
   obtain ⟨b,ws,q,sq2,dn2⟩:=y.tup_
   cases q
   exfalso
   obtain ⟨its,_,pt,_⟩:=I.tuple sq2
   obtain ⟨jts,_,pl,_⟩:=I.list (SqL.of sq)
   obtain ⟨o,e1,c1,_⟩:=pt
   obtain ⟨o2,n2,e2,c2,_⟩:=pl
   rw [e1] at e2; cases e2
   rw [c1] at c2; exact absurd c2 (by simp)
theorem dens_inj (I:Inv X pins σ H s):∀ (n:Nat) (ds es:List D) (vs:List V),okDs n ds=true→okDs n es=true→Dens X.K H ds vs→Dens X.K H es vs→ds=es
 | _,[],es,vs,_,_,x,y=>by
  rw [cG x] at y
  cases es with
  | nil=>rfl
  | cons e es=>obtain ⟨_,_,q,_⟩:=bX y; cases q
 | n,d::ds,es,vs,h1,h2,x,y=>by
  obtain ⟨v,r,rfl,a,b⟩:=bX x
  cases es with
  | nil=>have:=cG y; cases this
  | cons e es =>
   obtain ⟨_,_,q,a2,b2⟩:=bX y
   cases q
   simp only [okDs,Bool.and_eq_true] at h1 h2
   rw [den_inj I n d e v h1.1 h2.1 a a2,dens_inj I n ds es r h1.2 h2.2 b b2]
end
end
end Z
namespace Z
open PySem L2
section
variable {X:Cx}{pins:List (Addr × Obj)}{σ:St}{H:Hp}{s:Shared}
theorem dJ (I:Inv X pins σ H s) {ds:List D}{v:V}{u:Value} (h:Den X.K H (.tup ds) v) (r:RelV v u):∃ a its vs,u = .ref a∧s.heap.IsTuple a (List.toArray its)∧Vals vs its∧Dens X.K H ds vs:=by
 obtain ⟨a,vs,rfl,sq,dn⟩:=h.tup_
 obtain ⟨its,rv,pt,_⟩:=I.tuple sq
 exact ⟨a,its,vs,r,pt,rv,dn⟩
theorem dL (I:Inv X pins σ H s) {ds:List D}{v:V}{u:Value} (h:Den X.K H (.lst ds) v) (r:RelV v u):∃ a its vs,u = .ref a∧s.heap.IsList a (List.toArray its)∧Vals vs its∧Dens X.K H ds vs:=by
 obtain ⟨a,vs,rfl,sq,dn⟩:=h.lst_
 obtain ⟨its,rv,pt,_⟩:=I.list (SqL.of sq)
 exact ⟨a,its,vs,r,pt.isList,rv,dn⟩
theorem cT:∀ {n:Nat}{ds:List D}{j:Nat}{d:D},okDs n ds=true→ds[j]?=some d→okD n d=true
 | _,[],_,_,_,e=>by simp at e
 | n,d0::ds,0,d,h,e=>by simp at e; subst e; simp only [okDs,Bool.and_eq_true] at h; exact h.1
 | n,d0::ds,j+1,d,h,e=>by simp only [okDs,Bool.and_eq_true] at h; exact cT (j:=j) h.2 (by simpa using e)
theorem eX {ds:List D}{vs:List V}{its:List Value} (dn:Dens X.K H ds vs) (rv:Vals vs its) {j:Nat} (h:j < its.toArray.size):∃ d v,ds[j]?=some d∧Den X.K H d v∧RelV v its.toArray[j]:=by
 obtain ⟨v,e1,r1⟩:=t7 rv h
 obtain ⟨d,e2,q⟩:=dn.get' e1
 exact ⟨d,v,e2,q,r1⟩
mutual
theorem eqAt_D (I:Inv X pins σ H s):∀ (d:D) (n:Nat) (e:D) (v u:V) (v' u':Value) (A:Around),okD n d=true→okD n e=true→Den X.K H d v→Den X.K H e u→RelV v v'→RelV u u'→A.units+n < cLine→SeqAt.EqAt A s v' u' (eqD d e)
 | .non,n,e,v,u,v',u',A,h1,h2,x,y,rx,ry,hu=>by
  rw [x.non_] at rx; cases (show v'=Value.none from rx)
  cases e with
  | non=>rw [y.non_] at ry; cases (show u'=Value.none from ry); simp only [eqD]; exact SeqAt.EqAt.same _
  | bl b=>rw [y.bl_] at ry; cases (show u'=Value.bool b from ry); simp only [eqD]; exact SeqAt.EqAt.none_bool b
  | int b=>rw [y.int_] at ry; obtain ⟨t,rfl⟩:=ry; simp only [eqD]; exact SeqAt.EqAt.none_int b t
  | str b=>rw [y.str_] at ry; obtain ⟨t,rfl⟩:=ry; simp only [eqD]; exact SeqAt.EqAt.none_str b t
  | mt b=>simp [okD] at h2
  | fl b=>simp [okD] at h2
  | st b=>simp [okD] at h2
  | tup es=>obtain ⟨a,its,vs,rfl,it,_⟩:=dJ I y ry; simp only [eqD]; exact SeqAt.EqAt.none_tuple it (by omega)
  | lst es=>obtain ⟨a,its,vs,rfl,it,_⟩:=dL I y ry; simp only [eqD]; exact SeqAt.EqAt.none_list it (by omega)
 | .bl c,n,e,v,u,v',u',A,h1,h2,x,y,rx,ry,hu=>by
  rw [x.bl_] at rx; cases (show v'=Value.bool c from rx)
  cases e with
  | non=>rw [y.non_] at ry; cases (show u'=Value.none from ry); simp only [eqD]; exact SeqAt.EqAt.bool_none c
  | bl b=>rw [y.bl_] at ry; cases (show u'=Value.bool b from ry); simp only [eqD]; exact SeqAt.EqAt.bool_bool c b
  | int b=>rw [y.int_] at ry; obtain ⟨t,rfl⟩:=ry; simp only [eqD]; exact SeqAt.EqAt.bool_int c b t
  | str b=>rw [y.str_] at ry; obtain ⟨t,rfl⟩:=ry; simp only [eqD]; exact SeqAt.EqAt.bool_str c b t
  | mt b=>simp [okD] at h2
  | fl b=>simp [okD] at h2
  | st b=>simp [okD] at h2
  | tup es=>obtain ⟨a,its,vs,rfl,it,_⟩:=dJ I y ry; simp only [eqD]; exact SeqAt.EqAt.bool_tuple c it (by omega)
  | lst es=>obtain ⟨a,its,vs,rfl,it,_⟩:=dL I y ry; simp only [eqD]; exact SeqAt.EqAt.bool_list c it (by omega)
 | .int c,n,e,v,u,v',u',A,h1,h2,x,y,rx,ry,hu=>by
  rw [x.int_] at rx; obtain ⟨t0,rfl⟩:=rx
  cases e with
  | non=>rw [y.non_] at ry; cases (show u'=Value.none from ry); simp only [eqD]; exact SeqAt.EqAt.int_none c t0
  | bl b=>rw [y.bl_] at ry; cases (show u'=Value.bool b from ry); simp only [eqD]; exact SeqAt.EqAt.int_bool c t0 b
  | int b=>rw [y.int_] at ry; obtain ⟨t,rfl⟩:=ry; simp only [eqD]; exact SeqAt.EqAt.int_int c t0 b t
  | str b=>rw [y.str_] at ry; obtain ⟨t,rfl⟩:=ry; simp only [eqD]; exact SeqAt.EqAt.int_str c t0 b t
  | mt b=>simp [okD] at h2
  | fl b=>simp [okD] at h2
  | st b=>simp [okD] at h2
  | tup es=>obtain ⟨a,its,vs,rfl,it,_⟩:=dJ I y ry; simp only [eqD]; exact SeqAt.EqAt.int_tuple c t0 it (by omega)
  | lst es=>obtain ⟨a,its,vs,rfl,it,_⟩:=dL I y ry; simp only [eqD]; exact SeqAt.EqAt.int_list c t0 it (by omega)
 | .str c,n,e,v,u,v',u',A,h1,h2,x,y,rx,ry,hu=>by
  rw [x.str_] at rx; obtain ⟨t0,rfl⟩:=rx
  cases e with
  | non=>rw [y.non_] at ry; cases (show u'=Value.none from ry); simp only [eqD]; exact SeqAt.EqAt.str_none c t0
  | bl b=>rw [y.bl_] at ry; cases (show u'=Value.bool b from ry); simp only [eqD]; exact SeqAt.EqAt.str_bool c t0 b
  | int b=>rw [y.int_] at ry; obtain ⟨t,rfl⟩:=ry; simp only [eqD]; exact SeqAt.EqAt.str_int c t0 b t
  | str b=>rw [y.str_] at ry; obtain ⟨t,rfl⟩:=ry; simp only [eqD]; exact SeqAt.EqAt.str_str c t0 b t
  | mt b=>simp [okD] at h2
  | fl b=>simp [okD] at h2
  | st b=>simp [okD] at h2
  | tup es=>obtain ⟨a,its,vs,rfl,it,_⟩:=dJ I y ry; simp only [eqD]; exact SeqAt.EqAt.str_tuple c t0 it (by omega)
  | lst es=>obtain ⟨a,its,vs,rfl,it,_⟩:=dL I y ry; simp only [eqD]; exact SeqAt.EqAt.str_list c t0 it (by omega)
 | .mt _,n,_,_,_,_,_,_,h1,_,_,_,_,_,_=>by simp [okD] at h1
 | .fl _,n,_,_,_,_,_,_,h1,_,_,_,_,_,_=>by simp [okD] at h1
 | .st _,n,_,_,_,_,_,_,h1,_,_,_,_,_,_=>by simp [okD] at h1
 | .tup ds,0,_,_,_,_,_,_,h1,_,_,_,_,_,_=>by simp [okD] at h1
 | .lst ds,0,_,_,_,_,_,_,h1,_,_,_,_,_,_=>by simp [okD] at h1
 | .tup ds,n+1,e,v,u,v',u',A,h1,h2,x,y,rx,ry,hu=>by
  obtain ⟨a,its,vs,rfl,it,rv,dn⟩:=dJ I x rx
  cases e with
  | non=>rw [y.non_] at ry; cases (show u'=Value.none from ry); simp only [eqD]; exact SeqAt.EqAt.tuple_none it (by omega)
  | bl b=>rw [y.bl_] at ry; cases (show u'=Value.bool b from ry); simp only [eqD]; exact SeqAt.EqAt.tuple_bool b it (by omega)
  | int b=>rw [y.int_] at ry; obtain ⟨t,rfl⟩:=ry; simp only [eqD]; exact SeqAt.EqAt.tuple_int b t it (by omega)
  | str b=>rw [y.str_] at ry; obtain ⟨t,rfl⟩:=ry; simp only [eqD]; exact SeqAt.EqAt.tuple_str b t it (by omega)
  | mt b=>simp [okD] at h2
  | fl b=>simp [okD] at h2
  | st b=>simp [okD] at h2
  | lst es=>obtain ⟨b,its2,vs2,rfl,it2,_⟩:=dL I y ry; simp only [eqD]; exact SeqAt.EqAt.tuple_list it it2 (by omega)
  | tup es =>
   obtain ⟨b,its2,vs2,rfl,it2,rv2,dn2⟩:=dJ I y ry
   have k1:okDs n ds=true:=by simpa only [okD] using h1
   have k2:okDs n es=true:=by simpa only [okD] using h2
   by_cases hab:a=b
   ·subst hab
    have e0:D.tup ds=D.tup es:=den_inj I (n+1) _ _ v h1 h2 x (by
     have:v=u:=by
      obtain ⟨_,_,e3,_⟩:=x.tup_
      obtain ⟨_,_,e4,_⟩:=y.tup_
      rw [e3] at rx; rw [e4] at ry
      cases rx; cases ry; rw [e3,e4]
     rw [this]; exact y)
    rw [← e0,eqD_refl (n+1) _ h1]
    exact SeqAt.EqAt.same _
   ·have:=SeqAt.RcAt.tuples (A:=A) (s:=s) (e:=eqJ ds es) it it2 (by omega) (fun j g1 g2=>by
     obtain ⟨c,v1,e1,q1,r1⟩:=eX dn rv g1
     obtain ⟨c2,v2,e2,q2,r2⟩:=eX dn2 rv2 g2
     have:=eqAts_D I ds n j c e1 c2 v1 v2 _ _ A.in1 (cT k1 e1) (cT k2 e2) q1 q2 r1 r2 (by show A.units+1+n < cLine; omega)
     unfold eqJ; rw [e1,e2]; exact this)
    rw [List.size_toArray,List.size_toArray,← rv.length,← rv2.length,← dn.len,← dn2.len,gH] at this
    simp only [eqD]
    exact SeqAt.EqAt.of_refs hab this
 | .lst ds,n+1,e,v,u,v',u',A,h1,h2,x,y,rx,ry,hu=>by
  obtain ⟨a,its,vs,rfl,it,rv,dn⟩:=dL I x rx
  cases e with
  | non=>rw [y.non_] at ry; cases (show u'=Value.none from ry); simp only [eqD]; exact SeqAt.EqAt.list_none it (by omega)
  | bl b=>rw [y.bl_] at ry; cases (show u'=Value.bool b from ry); simp only [eqD]; exact SeqAt.EqAt.list_bool b it (by omega)
  | int b=>rw [y.int_] at ry; obtain ⟨t,rfl⟩:=ry; simp only [eqD]; exact SeqAt.EqAt.list_int b t it (by omega)
  | str b=>rw [y.str_] at ry; obtain ⟨t,rfl⟩:=ry; simp only [eqD]; exact SeqAt.EqAt.list_str b t it (by omega)
  | mt b=>simp [okD] at h2
  | fl b=>simp [okD] at h2
  | st b=>simp [okD] at h2
  | tup es=>obtain ⟨b,its2,vs2,rfl,it2,_⟩:=dJ I y ry; simp only [eqD]; exact SeqAt.EqAt.list_tuple it it2 (by omega)
  | lst es =>
   obtain ⟨b,its2,vs2,rfl,it2,rv2,dn2⟩:=dL I y ry
   have k1:okDs n ds=true:=by simpa only [okD] using h1
   have k2:okDs n es=true:=by simpa only [okD] using h2
   by_cases hab:a=b
   ·subst hab
    have e0:D.lst ds=D.lst es:=den_inj I (n+1) _ _ v h1 h2 x (by
     have:v=u:=by
      obtain ⟨_,_,e3,_⟩:=x.lst_
      obtain ⟨_,_,e4,_⟩:=y.lst_
      rw [e3] at rx; rw [e4] at ry
      cases rx; cases ry; rw [e3,e4]
     rw [this]; exact y)
    rw [← e0,eqD_refl (n+1) _ h1]
    exact SeqAt.EqAt.same _
   ·simp only [eqD]
    refine SeqAt.EqAt.of_refs hab ?_
    by_cases hl:ds.length=es.length
    ·have hsz:its.toArray.size=its2.toArray.size:=by rw [List.size_toArray,List.size_toArray,← rv.length,← rv2.length,← dn.len,← dn2.len,hl]
     have:=SeqAt.RcAt.lists (A:=A) (s:=s) (e:=eqJ ds es) it it2 hsz (by omega) (fun j g1 g2=>by
      obtain ⟨c,v1,e1,q1,r1⟩:=eX dn rv g1
      obtain ⟨c2,v2,e2,q2,r2⟩:=eX dn2 rv2 g2
      have:=eqAts_D I ds n j c e1 c2 v1 v2 _ _ A.in1 (cT k1 e1) (cT k2 e2) q1 q2 r1 r2 (by show A.units+1+n < cLine; omega)
      unfold eqJ; rw [e1,e2]; exact this)
     have e3:=gH ds es
     rw [← hl,Nat.min_self,beq_self_eq_true,Bool.and_true] at e3
     rw [List.size_toArray,← rv.length,← dn.len,e3] at this
     exact this
    ·have hsz:(its.toArray.size != its2.toArray.size)=true:=by rw [bne_iff_ne,List.size_toArray,List.size_toArray,← rv.length,← rv2.length,← dn.len,← dn2.len]; exact hl
     have e3:=gH ds es
     rw [beq_eq_false_iff_ne.mpr hl,Bool.and_false] at e3
     rw [← e3]
     exact SeqAt.RcAt.lists_lengths it it2 hsz (by omega)
theorem eqAts_D (I:Inv X pins σ H s):∀ (ds:List D) (n j:Nat) (d:D),ds[j]?=some d→∀ (e:D) (v u:V) (v' u':Value) (A:Around),okD n d=true→okD n e=true→Den X.K H d v→Den X.K H e u→RelV v v'→RelV u u'→A.units+n < cLine→SeqAt.EqAt A s v' u' (eqD d e)
 | [],_,_,_,q=>by simp at q
 | d0::ds,n,0,d,q=>by
  simp at q; subst q
  exact fun e v u v' u' A=>eqAt_D I d0 n e v u v' u' A
 | d0::ds,n,j+1,d,q=>eqAts_D I ds n j d (by simpa using q)
end
inductive Disp:D→Prop
 | tup (ds:List D):Disp (.tup ds)
 | lst (ds:List D):Disp (.lst ds)
inductive Rs (M:Mem):D→D→Prop
 | tup (ds:List D):Rs M (.tup ds) (.tup ds)
 | lst (ds:List D):Rs M (.lst ds) (.lst ds)
 | mt {a:Addr}{ds:List D} (h:M a=some (.lst ds)):Rs M (.mt a) (.lst ds)
theorem Rs.disp {M:Mem}{d e:D} (h:Rs M d e):Disp e:=by cases h <;> constructor
theorem Rs.den {K:Fg}{G H:Hp}{M:Mem}{d e:D}{v:V} (h:Rs M d e) (rl:Rel K G H M) (q:Den K G d v):Den K H e v:=by
 cases h with
 | tup ds=>exact q.up rl.same
 | lst ds=>exact q.up rl.same
 | mt hm =>
  obtain ⟨_,vs,e1,dn⟩:=rl.mem _ _ hm
  rw [q.mt_]; exact fR e1 (dn.up rl.same)
def aCQ (K:Fg) (n:Nat) (neg:Bool):R2:=fun x y H Q=>∃ d e,Disp d∧Disp e∧okD n d=true∧okD n e=true∧Den K H d x∧Den K H e y∧Q (.bl (if neg then !eqD d e else eqD d e)) H
theorem rc_D (I:Inv X pins σ H s) {n:Nat}{d e:D}{v u:V}{v' u':Value} (A:Around) (g1:Disp d) (g2:Disp e) (h1:okD n d=true) (h2:okD n e=true) (x:Den X.K H d v) (y:Den X.K H e u) (rx:RelV v v') (ry:RelV u u') (hu:A.units+n < cLine):SeqAt.RcAt A s v' u' (eqD d e):=by
 cases g1 with
 | tup ds =>
  obtain ⟨a,its,vs,rfl,it,rv,dn⟩:=dJ I x rx
  cases g2 with
  | lst es=>obtain ⟨b,its2,vs2,rfl,it2,_⟩:=dL I y ry; simp only [eqD]; exact SeqAt.RcAt.tuple_list it it2 (by omega)
  | tup es =>
   obtain ⟨b,its2,vs2,rfl,it2,rv2,dn2⟩:=dJ I y ry
   cases n with
   | zero=>simp [okD] at h1
   | succ n =>
    have k1:okDs n ds=true:=by simpa only [okD] using h1
    have k2:okDs n es=true:=by simpa only [okD] using h2
    have:=SeqAt.RcAt.tuples (A:=A) (s:=s) (e:=eqJ ds es) it it2 (by omega) (fun j g1 g2=>by
     obtain ⟨c,v1,e1,q1,r1⟩:=eX dn rv g1
     obtain ⟨c2,v2,e2,q2,r2⟩:=eX dn2 rv2 g2
     have:=eqAt_D I c n c2 v1 v2 _ _ A.in1 (cT k1 e1) (cT k2 e2) q1 q2 r1 r2 (by show A.units+1+n < cLine; omega)
     unfold eqJ; rw [e1,e2]; exact this)
    rw [List.size_toArray,List.size_toArray,← rv.length,← rv2.length,← dn.len,← dn2.len,gH] at this
    simp only [eqD]; exact this
 | lst ds =>
  obtain ⟨a,its,vs,rfl,it,rv,dn⟩:=dL I x rx
  cases g2 with
  | tup es=>obtain ⟨b,its2,vs2,rfl,it2,_⟩:=dJ I y ry; simp only [eqD]; exact SeqAt.RcAt.list_tuple it it2 (by omega)
  | lst es =>
   obtain ⟨b,its2,vs2,rfl,it2,rv2,dn2⟩:=dL I y ry
   cases n with
   | zero=>simp [okD] at h1
   | succ n =>
    have k1:okDs n ds=true:=by simpa only [okD] using h1
    have k2:okDs n es=true:=by simpa only [okD] using h2
    simp only [eqD]
    by_cases hl:ds.length=es.length
    ·have hsz:its.toArray.size=its2.toArray.size:=by rw [List.size_toArray,List.size_toArray,← rv.length,← rv2.length,← dn.len,← dn2.len,hl]
     have:=SeqAt.RcAt.lists (A:=A) (s:=s) (e:=eqJ ds es) it it2 hsz (by omega) (fun j g1 g2=>by
      obtain ⟨c,v1,e1,q1,r1⟩:=eX dn rv g1
      obtain ⟨c2,v2,e2,q2,r2⟩:=eX dn2 rv2 g2
      have:=eqAt_D I c n c2 v1 v2 _ _ A.in1 (cT k1 e1) (cT k2 e2) q1 q2 r1 r2 (by show A.units+1+n < cLine; omega)
      unfold eqJ; rw [e1,e2]; exact this)
     have e3:=gH ds es
     rw [← hl,Nat.min_self,beq_self_eq_true,Bool.and_true] at e3
     rw [List.size_toArray,← rv.length,← dn.len,e3] at this
     exact this
    ·have hsz:(its.toArray.size != its2.toArray.size)=true:=by rw [bne_iff_ne,List.size_toArray,List.size_toArray,← rv.length,← rv2.length,← dn.len,← dn2.len]; exact hl
     have e3:=gH ds es
     rw [beq_eq_false_iff_ne.mpr hl,Bool.and_false] at e3
     rw [← e3]
     exact SeqAt.RcAt.lists_lengths it it2 hsz (by omega)
end
section
variable {X:Cx}
theorem iE {n:Nat} (hu:X.A.units+n < cLine):OpR X (compareOp .Eq) (aCQ X.K n false):=by
 intro pins s σ H x y v u Q I rx ry h
 obtain ⟨d,e,g1,g2,h1,h2,dx,dy,q⟩:=h
 exact rc_D I X.A g1 g2 h1 h2 dx dy rx ry hu X.prog X.w X.xe _ ⟨.bl (eqD d e),H,I,rfl,q⟩
theorem iD {K:Fg}{n:Nat}{M:Mem}{k:D→Mem→Prop}{d1 d2 e1 e2:D} (r1:Rs M d1 e1) (r2:Rs M d2 e2) (h1:okD n e1=true) (h2:okD n e2=true) (h:k (.bl (eqD e1 e2)) M):Op2 K (aCQ K n false) d1 d2 M k:=fun G H v1 v2 Q rl x y q =>
 ⟨e1,e2,r1.disp,r2.disp,h1,h2,r1.den rl x,r2.den rl y,q _ _ _ _ _ (Stp.refl rl) d8 h⟩
end
end Z
namespace Z
open PySem L2
mutual
def toPy:D→PyData
 | .non => .none
 | .bl b => .bool b
 | .int i => .int i
 | .str x => .str x
 | .tup ds => .tuple (toPys ds)
 | .lst ds => .list (toPys ds)
 | .mt _ => .none
 | .fl _ => .none
 | .st _ => .none
def toPys:List D→List PyData
 | []=>[]
 | d::ds=>toPy d::toPys ds
end
mutual
theorem depth_le:∀ (d:D) (n:Nat),okD n d=true→(toPy d).depth≤n
 | .non,_,_=>by simp [toPy,PyData.depth]
 | .bl _,_,_=>by simp [toPy,PyData.depth]
 | .int _,_,_=>by simp [toPy,PyData.depth]
 | .str _,_,_=>by simp [toPy,PyData.depth]
 | .mt _,n,h=>by simp [okD] at h
 | .fl _,n,h=>by simp [okD] at h
 | .st _,n,h=>by simp [okD] at h
 | .tup ds,0,h=>by simp [okD] at h
 | .lst ds,0,h=>by simp [okD] at h
 | .tup ds,n+1,h=>by
  simp only [toPy,PyData.depth]
  have:=depths_le ds n (by simpa only [okD] using h)
  omega
 | .lst ds,n+1,h=>by
  simp only [toPy,PyData.depth]
  have:=depths_le ds n (by simpa only [okD] using h)
  omega
theorem depths_le:∀ (ds:List D) (n:Nat),okDs n ds=true→PyData.depthAll (toPys ds)≤n
 | [],_,_=>by simp [toPys,PyData.depthAll]
 | d::ds,n,h=>by
  simp only [okDs,Bool.and_eq_true] at h
  simp only [toPys,PyData.depthAll]
  have h1:=depth_le d n h.1
  have h2:=depths_le ds n h.2
  omega
end
mutual
theorem noDict:∀ (d:D),(toPy d).hasDict=false
 | .non=>by simp only [toPy,PyData.hasDict]
 | .bl _=>by simp only [toPy,PyData.hasDict]
 | .int _=>by simp only [toPy,PyData.hasDict]
 | .str _=>by simp only [toPy,PyData.hasDict]
 | .mt _=>by simp only [toPy,PyData.hasDict]
 | .fl _=>by simp only [toPy,PyData.hasDict]
 | .st _=>by simp only [toPy,PyData.hasDict]
 | .tup ds=>by simp only [toPy,PyData.hasDict]; exact noDicts ds
 | .lst ds=>by simp only [toPy,PyData.hasDict]; exact noDicts ds
theorem noDicts:∀ (ds:List D),PyData.hasDictAll (toPys ds)=false
 | []=>by simp only [toPys,PyData.hasDictAll]
 | d::ds=>by simp only [toPys,PyData.hasDictAll,noDict d,noDicts ds,Bool.or_false]
end
section
variable {X:Cx}{pins:List (Addr × Obj)}{σ:St}{H:Hp}{s:Shared}
mutual
theorem reads_D (I:Inv X pins σ H s):∀ (d:D) (n:Nat) (v:V) (u:Value),okD n d=true→Den X.K H d v→RelV v u→∃ as,Reads s.heap u (toPy d) as
 | .non,_,v,u,_,x,r=>by rw [x.non_] at r; cases (show u=Value.none from r); exact ⟨_,by simp only [toPy]; exact .none⟩
 | .bl b,_,v,u,_,x,r=>by rw [x.bl_] at r; cases (show u=Value.bool b from r); exact ⟨_,by simp only [toPy]; exact .bool b⟩
 | .int b,_,v,u,_,x,r=>by rw [x.int_] at r; obtain ⟨t,rfl⟩:=r; exact ⟨_,by simp only [toPy]; exact .int b t⟩
 | .str b,_,v,u,_,x,r=>by rw [x.str_] at r; obtain ⟨t,rfl⟩:=r; exact ⟨_,by simp only [toPy]; exact .str b t⟩
 | .mt _,n,_,_,h,_,_=>by simp [okD] at h
 | .fl _,n,_,_,h,_,_=>by simp [okD] at h
 | .st _,n,_,_,h,_,_=>by simp [okD] at h
 | .tup ds,0,_,_,h,_,_=>by simp [okD] at h
 | .lst ds,0,_,_,h,_,_=>by simp [okD] at h
 | .tup ds,n+1,v,u,h,x,r=>by
  obtain ⟨a,its,vs,rfl,⟨o,e1,e2,m,e3⟩,rv,dn⟩:=dJ I x r
  obtain ⟨as,q⟩:=readss_D I ds n vs its (by simpa only [okD] using h) dn rv
  exact ⟨as,by simp only [toPy]; exact .tuple e1 e2 e3 (by simpa using q)⟩
 | .lst ds,n+1,v,u,h,x,r=>by
  obtain ⟨a,its,vs,rfl,⟨o,e1,e2,m,e3⟩,rv,dn⟩:=dL I x r
  obtain ⟨as,q⟩:=readss_D I ds n vs its (by simpa only [okD] using h) dn rv
  exact ⟨a::as,by simp only [toPy]; exact .list e1 e2 e3 (by simpa using q)⟩
theorem readss_D (I:Inv X pins σ H s):∀ (ds:List D) (n:Nat) (vs:List V) (us:List Value),okDs n ds=true→Dens X.K H ds vs→Vals vs us→∃ as,ReadsAll s.heap us (toPys ds) as
 | [],_,vs,us,_,x,r=>by
  rw [cG x] at r
  cases r
  exact ⟨[],by simp only [toPys]; exact .nil⟩
 | d::ds,n,vs,us,h,x,r=>by
  obtain ⟨v,t,rfl,a,b⟩:=bX x
  cases r with
  | cons r1 r2 =>
   simp only [okDs,Bool.and_eq_true] at h
   obtain ⟨as,q⟩:=reads_D I d n v _ h.1 a r1
   obtain ⟨bs,q2⟩:=readss_D I ds n t _ h.2 b r2
   exact ⟨as++bs,by simp only [toPys]; exact .cons q q2⟩
end
end
section
variable {X:Cx}
def aBB (K:Fg) (n:Nat):List V→Hp→VK→Prop:=fun xs H Q=>∃ x d,xs=[x]∧Disp d∧okD n d=true∧Den K H d x∧(toPy d).showable=true∧(toPy d).shown.length≤sizeLine∧Q (.str (toPy d).shown) H
theorem u9 {n:Nat} (hu:X.A.units+(n+1) < cLine) (hg:X.A.guards=some []):gL X (.builtin "repr") (aBB X.K n):=by
 intro pins s σ H xs us Q I r h
 obtain ⟨x,d,rfl,hd,ok,dx,hs,hz,q⟩:=h
 obtain ⟨u,rfl,rx⟩:=vals1 r
 obtain ⟨as,rd⟩:=reads_D I d n x u ok dx rx
 have hr:∃ a,u = .ref a:=by
  cases hd with
  | tup ds=>obtain ⟨a,_,_,e,_⟩:=dJ I dx rx; exact ⟨a,e⟩
  | lst ds=>obtain ⟨a,_,_,e,_⟩:=dL I dx rx; exact ⟨a,e⟩
 obtain ⟨a,rfl⟩:=hr
 have hdp:=depth_le d n ok
 refine repr_of_reads' rd hs (PyData.noDict_hsm (noDict d)) hg (by omega) (fun _ _ e=>e) (fun h' t tk hk => ?_) hz
 exact ⟨.str _,H,I.kept (t':=tk) hk,⟨t,rfl⟩,q⟩
theorem aI5 {K:Fg}{n:Nat}{M:Mem}{k:D→Mem→Prop}{d e:D} (r:Rs M d e) (ok:okD n e=true) (hs:(toPy e).showable=true) (hz:(toPy e).shown.length≤sizeLine) (h:k (.str (toPy e).shown) M):OpN K (aBB K n) [d] M k:=fun G H vs Q rl x q=>by
 obtain ⟨v,rfl,dv⟩:=dens1 x
 exact ⟨v,e,rfl,r.disp,ok,r.den rl dv,hs,hz,q _ _ _ _ _ (Stp.refl rl) fQ h⟩
theorem aII {x y:Value} (h:(x == y)=true):x=y:=eq_of_beq h
def eOf (ds:List D) (its:List Value) (c:D) (y:Value):Bool:=match (its.zip ds).find? (fun p=>p.1 == y) with
 | some p=>eqD p.2 c
 | none=>false
theorem pJ {pins:List (Addr × Obj)}{σ:St}{H:Hp}{s:Shared} (I:Inv X pins σ H s) {n:Nat}{ds:List D}{vs:List V}{its:List Value} (ok:okDs n ds=true) (dn:Dens X.K H ds vs) (rv:Vals vs its) {c:D}{j:Nat}{y:Value}{d:D}
  (hy:its[j]?=some y) (hd:ds[j]?=some d):eOf ds its c y=eqD d c:=by
 unfold eOf
 have hl:its.length=ds.length:=by rw [dn.len,rv.length]
 have hz:(its.zip ds)[j]?=some (y,d):=by rw [List.getElem?_zip_eq_some]; exact ⟨hy,hd⟩
 cases hf:(its.zip ds).find? (fun p=>p.1 == y) with
 | none =>
  have:=List.find?_eq_none.mp hf (y,d) (List.mem_of_getElem? hz)
  exact absurd (by simp) this
 | some p =>
  have h1:=List.find?_some hf
  have h2:=List.mem_of_find?_eq_some hf
  obtain ⟨i,hi⟩:=List.getElem?_of_mem h2
  obtain ⟨a1,a2⟩:=List.getElem?_zip_eq_some.mp (show (its.zip ds)[i]?=some (p.1,p.2) from hi)
  have ey:p.1=y:=aII h1
  rw [ey] at a1
  obtain ⟨v1,w1,q1⟩:=dn.get a2
  obtain ⟨v2,w2,q2⟩:=dn.get hd
  obtain ⟨u1,x1,r1⟩:=rv.get w1
  obtain ⟨u2,x2,r2⟩:=rv.get w2
  rw [a1] at x1; cases x1
  rw [hy] at x2; cases x2
  have:v1=v2:=r1.inj r2
  subst this
  show eqD p.2 c=eqD d c
  rw [den_inj I n p.2 d v1 (cT ok a2) (cT ok hd) q1 q2]
theorem pY {pins:List (Addr × Obj)}{σ:St}{H:Hp}{s:Shared} (I:Inv X pins σ H s) {n:Nat}{ds:List D}{vs:List V}{its:List Value} (ok:okDs n ds=true) (dn:Dens X.K H ds vs) (rv:Vals vs its) (c:D):its.toArray.any (eOf ds its c)=ds.any fun d=>eqD d c:=by
 have hl:its.length=ds.length:=by rw [dn.len,rv.length]
 rw [List.any_toArray]
 rw [Bool.eq_iff_iff,List.any_eq_true,List.any_eq_true]
 constructor
 ·rintro ⟨y,hy,e⟩
  obtain ⟨j,hj⟩:=List.getElem?_of_mem hy
  have hlt:j < ds.length:=by rw [← hl]; exact (List.getElem?_eq_some_iff.mp hj).1
  rw [pJ I ok dn rv hj (List.getElem?_eq_getElem hlt)] at e
  exact ⟨_,List.getElem_mem hlt,e⟩
 ·rintro ⟨d,hd,e⟩
  obtain ⟨j,hj⟩:=List.getElem?_of_mem hd
  have hlt:j < its.length:=by rw [hl]; exact (List.getElem?_eq_some_iff.mp hj).1
  refine ⟨its[j],List.getElem_mem hlt,?_⟩
  rw [pJ I ok dn rv (List.getElem?_eq_getElem hlt) hj]
  exact e
def aCJ (K:Fg) (n:Nat) (neg:Bool):R2:=fun x y H Q=>∃ c d ds,(d = .tup ds∨d = .lst ds)∧okD n c=true∧okDs n ds=true∧Den K H c x∧Den K H d y∧Q (.bl (if neg then !(ds.any fun e=>eqD e c) else ds.any fun e=>eqD e c)) H
theorem aLJ {n:Nat} (hu:X.A.units+(n+1) < cLine):OpR X (compareOp .In) (aCJ X.K n false):=by
 intro pins s σ H x y v u Q I rx ry h
 obtain ⟨c,d,ds,hd,okc,okd,dx,dy,q⟩:=h
 rcases hd with rfl | rfl
 ·obtain ⟨a,its,vs,rfl,it,rv,dn⟩:=dJ I dy ry
  refine SeqAt.in_tupleAt (eOf ds its c) it (fun y hy => ?_) ?_
  ·obtain ⟨j,hj⟩:=List.getElem?_of_mem (show y∈its by simpa using hy)
   obtain ⟨w1,e1,r1⟩:∃ w,vs[j]?=some w∧RelV w y:=by
    obtain ⟨w,e1,r1⟩:=t7 rv (j:=j) (by rw [List.size_toArray]; exact (List.getElem?_eq_some_iff.mp hj).1)
    refine ⟨w,e1,?_⟩
    have:its.toArray[j]'(by rw [List.size_toArray]; exact (List.getElem?_eq_some_iff.mp hj).1)=y:=by
     have:=(List.getElem?_eq_some_iff.mp hj).2
     simpa using this
    rw [← this]; exact r1
   obtain ⟨e,e2,q2⟩:=dn.get' e1
   rw [pJ I okd dn rv hj e2]
   exact eqAt_D I e n c w1 x y v X.A.in1 (cT okd e2) okc q2 dx r1 rx (by show X.A.units+1+n < cLine; omega)
  ·rw [pY I okd dn rv]
   exact ⟨.bl _,H,I,rfl,q⟩
 ·obtain ⟨a,its,vs,rfl,it,rv,dn⟩:=dL I dy ry
  refine SeqAt.in_listAt (eOf ds its c) it (fun y hy => ?_) ?_
  ·obtain ⟨j,hj⟩:=List.getElem?_of_mem (show y∈its by simpa using hy)
   obtain ⟨w1,e1,r1⟩:∃ w,vs[j]?=some w∧RelV w y:=by
    obtain ⟨w,e1,r1⟩:=t7 rv (j:=j) (by rw [List.size_toArray]; exact (List.getElem?_eq_some_iff.mp hj).1)
    refine ⟨w,e1,?_⟩
    have:its.toArray[j]'(by rw [List.size_toArray]; exact (List.getElem?_eq_some_iff.mp hj).1)=y:=by
     have:=(List.getElem?_eq_some_iff.mp hj).2
     simpa using this
    rw [← this]; exact r1
   obtain ⟨e,e2,q2⟩:=dn.get' e1
   rw [pJ I okd dn rv hj e2]
   exact eqAt_D I e n c w1 x y v X.A.in1 (cT okd e2) okc q2 dx r1 rx (by show X.A.units+1+n < cLine; omega)
  ·rw [pY I okd dn rv]
   exact ⟨.bl _,H,I,rfl,q⟩
end
end Z
namespace R
open PySem L2
theorem dQ {z:Str}{j:Nat} (h:j < z.length):z.cps.toList[j]?=some (atS z j):=by
 have h':j < z.cps.size:=h
 simp [atS,Array.getD,h']
theorem k8 {l:List Nat}{j:Nat}:atS (ofL l) j=l.getD j 0:=by
 unfold atS ofL
 rw [Array.getD_eq_getD_getElem?,List.getElem?_toArray,List.getD_eq_getElem?_getD]
def Good (n:Nat) (zs:List Str):Prop:=∀ z∈zs,z.length=n∧z.cps.toList.all sgn=true
theorem nL {n:Nat}{zs:List Str} (h:Good n zs) {z:Str} (hz:z∈zs) {j:Nat} (hj:j < n):atS z j=35∨atS z j=46:=by
 obtain ⟨h1,h2⟩:=h z hz
 have e:=dQ (z:=z) (j:=j) (by omega)
 have:=List.all_eq_true.mp h2 _ (List.mem_of_getElem? e)
 unfold sgn at this
 rw [Bool.or_eq_true,beq_iff_eq,beq_iff_eq] at this
 exact this
theorem rJ (n:Nat):(dots n).length=n:=by unfold dots; rw [nM,List.length_replicate]
theorem aJ9 {n:Nat}{z:Str} (hl:z.length=n) (h:∀ j,j < n→atS z j=46):z=dots n:=by
 apply gZ
 show z.cps.toList=List.replicate n 46
 apply List.ext_getElem?
 intro j
 by_cases hj:j < n
 ·rw [dQ (by omega),h j hj,List.getElem?_replicate,if_pos hj]
 ·rw [List.getElem?_eq_none (by rw [Array.length_toList]; have:z.cps.size=n:=hl; omega),List.getElem?_eq_none (by simp; omega)]
theorem k9 {n j:Nat}:atS (dots n) j=if j < n then 46 else 0:=by
 unfold dots
 rw [k8,List.getD_eq_getElem?_getD,List.getElem?_replicate]
 split <;> rfl
theorem kM {α:Type} (f:Nat→α):∀ p,f p≠f 0→∃ k,k < p∧f k≠f (k+1)
 | 0,h=>absurd rfl h
 | p+1,h=>by
  by_cases e:f p=f 0
  ·exact ⟨p,by omega,by rw [e]; exact Ne.symm h⟩
  ·obtain ⟨k,h1,h2⟩:=kM f p e
   exact ⟨k,by omega,h2⟩
theorem jA {α:Type} (f:Nat→α):∀ m p,f p≠f (p+m)→∃ k,p≤k∧k < p+m∧f k≠f (k+1)
 | 0,p,h=>absurd rfl h
 | m+1,p,h=>by
  by_cases e:f p=f (p+m)
  ·exact ⟨p+m,by omega,by omega,by rw [← e]; exact h⟩
  ·obtain ⟨k,h1,h2,h3⟩:=jA f m p e
   exact ⟨k,h1,by omega,h3⟩
theorem cX {zs:List Str}{i:Nat} (h:i < zs.length):(framed zs)[i+1]?=zs[i]?:=by
 unfold framed
 rw [List.append_assoc,List.singleton_append,List.getElem?_cons_succ,List.getElem?_append_left h]
theorem f9 (zs:List Str):(framed zs)[0]?=some (dots ((zs.head?.map (·.length)).getD 0)):=by simp [framed]
theorem eM (zs:List Str):(framed zs)[zs.length+1]?=some (dots ((zs.head?.map (·.length)).getD 0)):=by
 unfold framed
 rw [List.append_assoc,List.singleton_append,List.getElem?_cons_succ,List.getElem?_append_right (Nat.le_refl _)]
 simp
theorem eY {zs:List Str}{i:Nat} (hz:zs≠[]):i∈chg zs↔i≤zs.length∧(framed zs)[i]?≠(framed zs)[i+1]?:=by
 unfold chg
 have:zs.isEmpty=false:=by cases zs with
  | nil=>exact absurd rfl hz
  | cons _ _=>rfl
 rw [this]
 simp only [Bool.false_eq_true,if_false,List.mem_filter,List.mem_range,Bool.not_eq_true',decide_eq_false_iff_not]
 exact ⟨fun ⟨a,b⟩=>⟨by omega,b⟩,fun ⟨a,b⟩=>⟨by omega,b⟩⟩
theorem cZ {n:Nat}{zs:List Str} (h:∀ z∈zs,z.length=n) (hz:zs≠[]):(zs.head?.map (·.length)).getD 0=n:=by
 cases zs with
 | nil=>exact absurd rfl hz
 | cons z zr=>exact h z (by simp)
theorem aIF {n:Nat}{zs:List Str} (h:∀ z∈zs,z.length=n) {i:Nat}{z:Str} (hi:zs[i]?=some z) (hz:z≠dots n):2≤(chg zs).length:=by
 have hlt:i < zs.length:=(List.getElem?_eq_some_iff.mp hi).1
 have hne:zs≠[]:=fun e=>by rw [e] at hlt; simp at hlt
 have hw:=cZ h hne
 have f0:(framed zs)[0]?=some (dots n):=by rw [f9,hw]
 have fl:(framed zs)[zs.length+1]?=some (dots n):=by rw [eM,hw]
 have fp:(framed zs)[i+1]?=some z:=by rw [cX hlt,hi]
 obtain ⟨k1,a1,b1⟩:=kM (fun k=>(framed zs)[k]?) (i+1) (by show (framed zs)[i+1]?≠(framed zs)[0]?; rw [fp,f0]; exact fun e=>hz (Option.some.inj e))
 obtain ⟨k2,a2,a3,b2⟩:=jA (fun k=>(framed zs)[k]?) (zs.length - i) (i+1) (by
  show (framed zs)[i+1]?≠(framed zs)[i+1+(zs.length - i)]?
  rw [show i+1+(zs.length - i)=zs.length+1 by omega,fp,fl]; exact fun e=>hz (Option.some.inj e))
 have m1:k1∈chg zs:=(eY hne).mpr ⟨by omega,b1⟩
 have m2:k2∈chg zs:=(eY hne).mpr ⟨by omega,b2⟩
 match hc:chg zs,m1,m2 with
 | [],m1,_=>cases m1
 | [x],m1,m2 =>
  simp at m1 m2
  omega
 | _::_::_,_,_=>simp
def aR (zs:List Str):List Str:=(chg zs).dropLast.map fun i=>zs.getD i Str.empty
theorem kF {zs:List Str}:∀ z∈aR zs,z∈zs:=fun z hz=>by
 obtain ⟨i,hi,rfl⟩:=List.mem_map.mp hz
 have:=i9 (cL zs) (eB zs) i hi
 rw [List.getD_eq_getElem?_getD,List.getElem?_eq_getElem this]
 exact List.getElem_mem _
theorem f7 {n:Nat}{zs:List Str} (h:Good n zs):Good n (aR zs):=fun z hz=>h z (kF z hz)
theorem dZ (zs:List Str):(aR zs).length=(chg zs).length - 1:=by unfold aR; rw [List.length_map,List.length_dropLast]
theorem qY {n:Nat}{zs:List Str} (h:∀ z∈zs,z.length=n) (hr:aR zs≠[]):∃ z∈aR zs,z≠dots n:=by
 have h2:2≤(chg zs).length:=by
  have:=List.length_pos_iff.mpr hr
  rw [dZ] at this
  omega
 have hne:zs≠[]:=fun e=>by rw [e] at h2; simp [chg] at h2
 match hc:chg zs,h2 with
 | k0::k1::r,_ =>
  have m0:k0∈chg zs:=by rw [hc]; simp
  have s:=cL zs
  rw [hc] at s
  have hk1:k1≤zs.length:=eB zs k1 (by rw [hc]; simp)
  have hk:k0 < k1:=(List.pairwise_cons.mp s).1 k1 (by simp)
  have hk0:k0 < zs.length:=by omega
  obtain ⟨_,b0⟩:=(eY hne).mp m0
  have same:∀ j,j≤k0→(framed zs)[j]?=(framed zs)[0]?:=fun j hj=>Classical.byContradiction fun q=>by
   obtain ⟨k,a1,b1⟩:=kM (fun k=>(framed zs)[k]?) j q
   have:k∈chg zs:=(eY hne).mpr ⟨by omega,b1⟩
   rw [hc] at this
   rcases List.mem_cons.mp this with rfl | this
   ·omega
   ·have:=(List.pairwise_cons.mp s).1 k this
    omega
  refine ⟨zs.getD k0 Str.empty,?_,fun q=>b0 ?_⟩
  ·unfold aR
   rw [hc]
   simp
  ·rw [same k0 (Nat.le_refl _),f9,cZ h hne,cX hk0,← q,List.getD_eq_getElem?_getD,List.getElem?_eq_getElem hk0]
   rfl
theorem gF {zs:List Str}{n j:Nat} (h:∀ z∈zs,z.length=n) (hz:zs≠[]) (hj:j < n):(aJ zs)[j]?=some (ofL (zs.map (atS · j))):=by
 unfold aJ
 rw [cZ h hz,List.getElem?_map,List.getElem?_range hj]
 rfl
theorem iU {n:Nat}{zs:List Str} (h:Good n zs):Good zs.length (aJ zs):=fun z hz=>by
 refine ⟨dB z hz,?_⟩
 obtain ⟨j,hj,rfl⟩:=List.mem_map.mp hz
 rw [List.mem_range] at hj
 show (zs.map (atS · j)).all sgn=true
 rw [List.all_eq_true]
 intro c hc
 obtain ⟨z,hz,rfl⟩:=List.mem_map.mp hc
 have hne:zs≠[]:=fun e=>by rw [e] at hz; cases hz
 rw [cZ (fun z hz=>(h z hz).1) hne] at hj
 rcases nL h hz hj with e | e <;> rw [e] <;> rfl
structure Wf (nx ny:Nat) (zs:List Str):Prop where
 rows:zs.length+1=ny∨(nx=0∧ny=0∧zs=[])
 good:Good (nx - 1) zs
 wide:0 < nx∨(nx=0∧ny=0∧zs=[])
theorem wM {n:Nat}{zs:List Str} (h:Good n zs) {z:Str} (hz:z∈zs) (hd:z≠dots n):∃ j,j < n∧atS z j=35:=by
 refine Classical.byContradiction fun q=>hd (aJ9 (h z hz).1 fun j hj => ?_)
 rcases nL h hz hj with e | e
 ·exact absurd ⟨j,hj,e⟩ q
 ·exact e
theorem aKZ {n:Nat}{zs:List Str} (h:Good n zs) (hr:aR zs≠[]) :
  2≤(chg (aJ (aR zs))).length∧Wf (chg (aJ (aR zs))).length (chg zs).length (aJ (aR (aJ (aR zs))))∧(aJ (aR (aJ (aR zs)))).length=(aR zs).length:=by
 have g1:=f7 h
 obtain ⟨z,hz,hd⟩:=qY (fun z hz=>(h z hz).1) hr
 obtain ⟨j,hj,e35⟩:=wM g1 hz hd
 have gc:=iU g1
 have hc:=gF (fun z hz=>(g1 z hz).1) hr hj
 have hnd:ofL ((aR zs).map (atS · j))≠dots (aR zs).length:=fun q=>by
  obtain ⟨i,hi,ez⟩:=List.getElem_of_mem hz
  have e1:atS (ofL ((aR zs).map (atS · j))) i=35:=by
   rw [k8,List.getD_eq_getElem?_getD,List.getElem?_map,List.getElem?_eq_getElem hi,ez]
   exact e35
  rw [q,k9,if_pos hi] at e1
  cases e1
 have c2:=aIF (fun z hz=>(gc z hz).1) hc hnd
 have hk:aR (aJ (aR zs))≠[]:=fun q=>by
  have:=dZ (aJ (aR zs))
  rw [q] at this
  simp at this
  omega
 have g2:=f7 gc
 have l2:=(jV (fun z hz=>(g2 z hz).1)).2 hk
 have zl:=dZ zs
 have pos:=List.length_pos_iff.mpr hr
 refine ⟨c2,⟨.inl (by rw [l2]; omega),?_, .inl (by omega)⟩,l2⟩
 have g3:=iU g2
 rw [dZ] at g3
 exact g3
def bH (zs:List Str) (a u:Int):Bool:=decide (0≤u) && decide (0≤a) && ((zs[u.toNat]?).bind fun z=>z.cps.toList[a.toNat]?) == some 35
theorem dW {zs:List Str}{a u:Int} (h:u < 0):bH zs a u=false:=by
 unfold bH; rw [decide_eq_false (by omega)]; rfl
theorem dC {zs:List Str}{a u:Int} (h:a < 0):bH zs a u=false:=by
 unfold bH; rw [decide_eq_false (show ¬ (0:Int)≤a by omega),Bool.and_false]; rfl
theorem fJ {zs:List Str}{a u:Int} (h:(zs.length:Int)≤u):bH zs a u=false:=by
 unfold bH
 rw [List.getElem?_eq_none (by omega)]
 simp
theorem j4 {zs:List Str}{a u:Int}{z:Str} (e:zs[u.toNat]?=some z) (h:(z.length:Int)≤a):bH zs a u=false:=by
 unfold bH
 rw [e]
 have:z.cps.toList[a.toNat]?=none:=List.getElem?_eq_none (by rw [Array.length_toList]; have:z.cps.size=z.length:=rfl; omega)
 rw [Option.bind_some,this]
 cases decide (0≤u) <;> cases decide (0≤a) <;> rfl
theorem fI {zs:List Str}{a u:Int}{z:Str}{c:Nat} (hu:0≤u) (ha:0≤a) (e:zs[u.toNat]?=some z) (ec:z.cps.toList[a.toNat]?=some c):bH zs a u=decide (c=35):=by
 unfold bH
 rw [decide_eq_true hu,decide_eq_true ha,e]
 simp only [Option.bind_some,ec,Bool.and_true,Bool.true_and]
 by_cases h:c=35
 ·subst h; rfl
 ·rw [decide_eq_false h]; simp [h]
def sg (b:Bool):Nat:=if b then 35 else 46
end R
namespace Q
open PySem L2 Z
theorem BMin:bootBuiltins "min" = some (.builtin "min"):=by decide +kernel
theorem BRepr:bootBuiltins "repr" = some (.builtin "repr"):=by decide +kernel
structure Bt (mg:Str→Option Value):Prop where
 len:mg "len" = none
 abs:mg "abs" = none
 int:mg "int" = none
 min:mg "min" = none
 max:mg "max" = none
 range:mg "range" = none
 list:mg "list" = none
 tuple:mg "tuple" = none
 repr:mg "repr" = none
 all:mg "all" = none
 any:mg "any" = none
 enumerate:mg "enumerate" = none
 isi:mg "isinstance" = none
 bool:mg "bool" = none
 str:mg "str" = none
 zip:mg "zip" = none
 reversed:mg "reversed" = none
 sorted:mg "sorted" = none
 dict:mg "dict" = none
def FdM (M:Mem) (p:Addr) (b:Int):Prop:=∃ g m st:Int,M p=some (.lst [.int g, .int m, .int st])∧0≤g∧0≤m∧m < 2147483399∧0≤st∧st≤b
def cY (p:Addr) (M M':Mem):Prop:=∀ a o,a≠p→M a=some o→M' a=some o
theorem cY.refl (p:Addr) (M:Mem):cY p M M:=fun _ _ _ h=>h
theorem cY.trans {p:Addr}{M M1 M2:Mem} (a:cY p M M1) (b:cY p M1 M2):cY p M M2:=fun c o n h=>b c o n (a c o n h)
theorem cY.upd {p:Addr}{M M':Mem}{o:MO} (h:cY p M M'):cY p M (cF M' p o):=fun a u n e=>by rw [d9 n]; exact h a u n e
theorem cY.new {p a:Addr}{M M':Mem}{o:MO} (h:cY p M M') (n:M a=none):cY p M (cF M' a o):=fun b u nb e=>by
 rw [d9 (fun z=>by rw [z,n] at e; cases e)]; exact h b u nb e
theorem FdM.mono {M:Mem}{p:Addr}{b c:Int} (h:FdM M p b) (l:b≤c):FdM M p c:=by
 obtain ⟨g,m,st,e,h1,h2,h3,h4,h5⟩:=h
 exact ⟨g,m,st,e,h1,h2,h3,h4,by omega⟩
theorem FdM.ne {M:Mem}{p a:Addr}{b:Int} (h:FdM M p b) (n:M a=none):a≠p:=fun z=>by
 obtain ⟨g,m,st,e,_⟩:=h
 rw [← z,n] at e; cases e
theorem FdM.new {M:Mem}{p a:Addr}{b:Int}{o:MO} (h:FdM M p b) (n:a≠p):FdM (cF M a o) p b:=by
 obtain ⟨g,m,st,e,r⟩:=h
 exact ⟨g,m,st,by rw [d9 (Ne.symm n)]; exact e,r⟩
def aNF:Ct:=fun ds M k=>∃ (ns:List Int) (i:Int),ds=[.fl (ns.map .int), .int i]∧0≤i∧i < 2 ^ 40∧∀ p M',M p=none→Le M M'→FdM M' p 0→k (.mt p) M'
def aN4:Ct:=fun ds M k=>∃ (p:Addr) (n b:Int),ds=[.mt p, .int n]∧0 < n∧n < 1073741824∧FdM M p b∧b≤1000000∧∀ z M',0≤z→z < n→FdM M' p (b+1)→cY p M M'→(∀ a,a≠p→M' a=M a)→k (.int z) M'
def aA4:Ct:=fun ds M k=>∃ a b:Int,ds=[.int a, .int b]∧k (.int ((Int.gcd a b:Nat):Int)) M
theorem aF3 {ns:List Int}{k:Int} (h0:0≤k) (h:k < ns.length):∃ z:Int,atI (ns.map D.int) k=some (.int z):=by
 obtain ⟨j,rfl⟩:∃ j:Nat,k=(j:Int):=⟨k.toNat,by omega⟩
 have hj:j < ns.length:=by omega
 exact ⟨ns[j],cW (by simp [hj])⟩
theorem fX {M:Mem}{a:Addr}{o:MO} (h:M a=none):iQ (cF M a o) a=M:=by
 funext b
 unfold iQ cF
 by_cases e:b=a
 ·rw [if_pos e,e,h]
 ·rw [if_neg e,if_neg e]
def jC (bt at_:Int):D := .tup [.int (at_ / ((Int.gcd at_ bt:Nat):Int)), .int (bt / ((Int.gcd at_ bt:Nat):Int))]
structure Ats (bt:Int) (ats:List Int):Prop where
 bt:bt=1∨bt=2∨bt=9
 up:ats.Pairwise (· < ·)
 bd:∀ a∈ats, -20≤a∧a≤10 ^ 10
def aML:Ct:=fun ds M k=>∃ (p:Addr) (many b:Int),ds=[.mt p, .int many]∧0≤many∧many≤20∧FdM M p b∧b≤900000 ∧
 ∀ (a:Addr) (M':Mem) (bt:Int) (ats:List Int),M a=none→M' a=some (.lst (ats.map (jC bt)))→FdM M' p (b+50)→cY p M M'→ats.length=(many+1).toNat→Ats bt ats→k (.mt a) M'
theorem aJY {z:Int} (h0:0≤z) (h1:z < 4):∃ bt:Int,atI [D.int 1, .int 1, .int 2, .int 9] z=some (.int bt)∧(bt=1∨bt=2∨bt=9):=by
 have:z=0∨z=1∨z=2∨z=3:=by omega
 rcases this with rfl | rfl | rfl | rfl
 ·exact ⟨1,rfl, .inl rfl⟩
 ·exact ⟨1,rfl, .inl rfl⟩
 ·exact ⟨2,rfl, .inr (.inl rfl)⟩
 ·exact ⟨9,rfl, .inr (.inr rfl)⟩
theorem aDL {z:Int} (h0:0≤z) (h1:z < 3):∃ m:Int,atI [D.int 1, .int 4, .int (10 ^ (8:Int).toNat)] z=some (.int m)∧1≤m∧m≤100000000:=by
 have:z=0∨z=1∨z=2:=by omega
 rcases this with rfl | rfl | rfl
 ·exact ⟨1,rfl,by decide,by decide⟩
 ·exact ⟨4,rfl,by decide,by decide⟩
 ·exact ⟨_,rfl,by decide,by decide⟩
theorem aE5 {a bt:Int} (h:bt=1∨bt=2∨bt=9):0 < ((Int.gcd a bt:Nat):Int)∧((Int.gcd a bt:Nat):Int) < 1073741824:=by
 have hb:bt≠0:=by rcases h with rfl | rfl | rfl <;> decide
 have h1:0 < Int.gcd a bt:=Int.gcd_pos_of_ne_zero_right a hb
 have h2:Int.gcd a bt≤bt.natAbs:=Nat.le_of_dvd (by omega) (Int.gcd_dvd_natAbs_right a bt)
 have:bt.natAbs≤9:=by rcases h with rfl | rfl | rfl <;> decide
 omega
def aNO:Ct:=fun ds M k=>∃ (p:Addr) (b way i j wide high:Int),ds=[.mt p, .int way, .int i, .int j, .int wide, .int high]∧0≤way∧way < 9∧FdM M p b∧b≤900000∧0≤i∧i≤1000∧0≤j∧j≤1000∧0≤wide∧wide≤1000 ∧
 ∀ c M',FdM M' p (b+1)→cY p M M'→k (.bl c) M'
def kT (xs:List D) (js:List Nat):List D:=js.map fun j=>xs.getD j .non
def aIY:Ct:=fun ds M k=>∃ (xs:List D) (zs:List Str) (n:Nat),ds=[.lst xs, .lst (zs.map .str)]∧zs.length≤1000∧n≤1000∧(∀ z∈zs,z.length=n)∧xs.length=zs.length+1 ∧
 k (.tup [.lst (kT xs (R.chg zs)), .lst ((R.aR zs).map .str)]) M
def aKB:Ct:=fun ds M k=>∃ (zs:List Str) (n:Nat),ds=[.lst (zs.map .str)]∧zs.length≤1000∧n≤1000∧(∀ z∈zs,z.length=n)∧k (.lst ((R.aJ zs).map .str)) M
def jJ (xs ys:List D) (zs:List Str):D := .tup [.tup xs, .tup ys, .tup (zs.map .str)]
def aM7:Ct:=fun ds M k=>∃ (xs ys:List D) (zs:List Str) (n:Nat),ds=[.lst xs, .lst ys, .lst (zs.map .str)]∧zs.length≤1000∧n≤1000∧R.Good n zs∧xs.length=n+1∧ys.length=zs.length+1 ∧
 (R.aR zs=[]→k (jJ [] [] []) M)∧(R.aR zs≠[]→k (jJ (kT xs (R.chg (R.aJ (R.aR zs)))) (kT ys (R.chg zs)) (R.aJ (R.aR (R.aJ (R.aR zs))))) M)
structure YardOk (xs ys:List D) (zs:List Str):Prop where
 lx:∃ bt ats,xs=ats.map (jC bt)∧Ats bt ats
 ly:∃ bt ats,ys=ats.map (jC bt)∧Ats bt ats
 wf:R.Wf xs.length ys.length zs
 few:xs.length≤21∧ys.length≤21
 full:zs=[]→xs=[]∧ys=[]
theorem wU {zs:List Str}{n:Nat} (hz:∀ z∈zs,z.length=n) (hn:n≤1000):∃ z0:Str,atI (zs.map D.str++[.str ""]) 0=some (.str z0)∧(∀ z∈zs,z0.length=z.length)∧z0.length≤1000:=by
 cases zs with
 | nil=>exact ⟨"", rfl,fun z h=>(nomatch h),by decide +kernel⟩
 | cons z zr=>exact ⟨z,cW (j:=0) rfl,fun y hy=>by rw [hz z (by simp),hz y hy],by rw [hz z (by simp)]; exact hn⟩
theorem wZ {zs:List Str}{z0:Str} (h:atI (zs.map D.str++[.str ""]) 0=some (.str z0)):z0.length=(zs.head?.map (·.length)).getD 0:=by
 cases zs with
 | nil =>
  have:D.str "" = D.str z0:=Option.some.inj h
  injection this with e
  rw [← e]; decide +kernel
 | cons z zr =>
  have:D.str z=D.str z0:=Option.some.inj ((show some (D.str z)=atI _ 0 from (cW (j:=0) rfl).symm).trans h)
  injection this with e
  rw [← e]; rfl
theorem bW {α β:Type}{f:α→β}{l:List α}{i:Nat}{y:β} (h:(l.map f)[i]?=some y):∃ x,l[i]?=some x∧y=f x:=by
 rw [List.getElem?_map] at h
 cases e:l[i]? with
 | none=>rw [e] at h; cases h
 | some x=>rw [e] at h; exact ⟨x,rfl,(Option.some.inj h).symm⟩
end Q
namespace PySem
open Sem (wp)
open AutoSeq1 (wpAny_loadPart')
section
variable {prog:Program}{w:World}{A:Around}{E:Value→Shared→Prop}{s:Shared}
theorem yH {iq tu:Addr}{i:Nat}{its}{x:Value}{Q:Value→Shared→Prop} (hI:s.heap.IsTupleIter iq tu i) (hT:s.heap.IsTuple tu its) (hq:its[i]?=some x)
  (kQ:∀ h',h'.IsTupleIter iq tu (i+1)→Heap.SameBut iq s.heap h'→Q x { s with heap:=h' }):wpAny (model prog w) A (Builtin.SmallTypes.nextOf (.ref iq)) Q E s:=by
 obtain ⟨oI,eI,cI,dI⟩:=id hI
 obtain ⟨oT,eT,_,nT,dT⟩:=hT
 unfold Builtin.SmallTypes.nextOf
 refine wpAny_bind (wpAny_callSpecial?_slot (name:=Str.ofString "__next__") hI.typeIs F.slot_tuple_iterator_next (wpAny_call_entry F.slot_tuple_iterator_next hI.typeIs F.entry_tuple_iterator_next ?_ (F.args_tuple_iterator_next_1 _)))
 show wpAny _ _ (field (.ref iq) 0 >>= _) _ _ s
 refine wpAny_bind (wpAny_field eI dI (x := .ref tu) rfl ?_)
 show wpAny _ _ (if (Value.ref tu == Value.none)=true then _ else _) _ _ s
 rw [if_neg (show ¬ ((Value.ref tu == Value.none)=true) from Bool.false_ne_true)]
 show wpAny _ _ (field (.ref iq) 1 >>= _) _ _ s
 refine wpAny_bind (wpAny_field eI dI (x := .int i 0) rfl ?_)
 show wpAny _ _ (seqItems? (.ref tu) >>= _) _ _ s
 refine wpAny_bind (wpAny_seqItems eT dT ?_)
 simp only [Int.toNat_natCast,hq]
 refine wpAny_bind (wpAny_setField eI dI (by simp) (wpAny_pure ⟨x,rfl,wpAny_pure (kQ _ ?_ (Heap.SameBut.update ..))⟩))
 exact ⟨_,Heap.get?_update_self _ eI (Obj.isFreed_of_fields (Obj.data_mapFields dI _)),(Obj.cls_mapFields ..).trans cI,by rw [Obj.data_mapFields dI]; simp [rawInt]⟩
theorem yY {iq tu:Addr}{i:Nat}{its}{Q:Value→Shared→Prop} (hh:A.handled=none) (hI:s.heap.IsTupleIter iq tu i) (hT:s.heap.IsTuple tu its) (hq:its[i]?=none)
  (kE:∀ h' e,Heap.ExtBut iq s.heap h'→(∃ o,h'.get? e=some o∧o.cls = .type "StopIteration")→E (.ref e) { s with heap:=h' }):wpAny (model prog w) A (Builtin.SmallTypes.nextOf (.ref iq)) Q E s:=by
 obtain ⟨oI,eI,cI,dI⟩:=id hI
 obtain ⟨oT,eT,_,nT,dT⟩:=hT
 unfold Builtin.SmallTypes.nextOf
 refine wpAny_bind (wpAny_callSpecial?_slot (name:=Str.ofString "__next__") hI.typeIs F.slot_tuple_iterator_next (wpAny_call_entry F.slot_tuple_iterator_next hI.typeIs F.entry_tuple_iterator_next ?_ (F.args_tuple_iterator_next_1 _)))
 show wpAny _ _ (field (.ref iq) 0 >>= _) _ _ s
 refine wpAny_bind (wpAny_field eI dI (x := .ref tu) rfl ?_)
 show wpAny _ _ (if (Value.ref tu == Value.none)=true then _ else _) _ _ s
 rw [if_neg (show ¬ ((Value.ref tu == Value.none)=true) from Bool.false_ne_true)]
 show wpAny _ _ (field (.ref iq) 1 >>= _) _ _ s
 refine wpAny_bind (wpAny_field eI dI (x := .int i 0) rfl ?_)
 show wpAny _ _ (seqItems? (.ref tu) >>= _) _ _ s
 refine wpAny_bind (wpAny_seqItems eT dT ?_)
 simp only [Int.toNat_natCast,hq]
 refine wpAny_bind (wpAny_rule (wpAny_bind (wpAny_setField eI dI (by simp) ?_)))
 show wpAny _ _ ((newExc (.type "StopIteration") []) >>= _) _ _ _
 refine wpAny_bind ?_
 simp only [newExc,newTuple]
 refine (wpAny_bind (wpAny_newObj_type ?_ (by size_fits)))
 refine wpAny_bind (m:=firstArgMember _ _) (wpAny_of_eq (a:=Value.none) (by first | rfl | (simp only [firstArgMember]; rfl) | skip) ?_)
 refine (wpAny_newObj_type ?_ (by size_fits))
 simp only [raiseNew]
 refine wpAny_bind (wpAny_handled ?_)
 first | rw [show (A.in1).handled=none from hh] | rw [hh]
 refine (wpAny_bind (wpAny_pure (wpAny_throw ?_)))
 exact kE _ _ (((Heap.SameBut.update ..).extBut.push _).push _) ⟨_,Heap.get?_push_size _ rfl,rfl⟩
end
theorem Draws.tup {prog:Program}{w:World}{A:Around} (hh:A.handled=none) (iq tu:Addr) (hne:tu≠iq) (its:Array Value) :
  Draws prog w A iq [iq,tu] its.size (fun i v=>its[i]?=some v) (fun i h=>h.IsTupleIter iq tu i∧h.IsTuple tu its) where
 live:=fun _ _ q=>let ⟨o,ho,_⟩:=q.1; ⟨o,ho⟩
 frame:=fun _ _ _ q hk=>⟨let ⟨o,ho,r⟩:=q.1; ⟨o,hk iq (by simp) o ho,r⟩,let ⟨o,ho,r⟩:=q.2; ⟨o,hk tu (by simp) o ho,r⟩⟩
 item:=fun i s Q E hi q kQ=>by
  refine yH q.1 q.2 (x:=its[i]) (by simp [hi]) fun h' hit' hs' => ?_
  exact kQ _ h' s.toks (by simp [hi]) ⟨hit',let ⟨o,ho,r⟩:=q.2; ⟨o,(hs'.2 tu hne).trans ho,r⟩⟩ hs'
 done:=fun s Q E q kE=>yY hh q.1 q.2 (by simp) kE
section
variable {prog:Program}{w:World}{A:Around}{E:Value→Shared→Prop}{s:Shared}
theorem F.args_min4 (a b c d:Value):argsOk "min" ⟨[a,b,c,d],[]⟩:=by unfold argsOk; kernel_rfl
theorem aDO {a b c d:Int}{t u x y:Tok}{Q:Value→Shared→Prop} (hh:A.handled=none)
  (kQ:∀ (m:Int) (q:Tok) h' tk,(∀ e o,s.heap.get? e=some o→h'.get? e=some o)→Q (.int m q) { s with heap:=h',toks:=tk }) :
  wpAny (model prog w) A (call (.builtin "min") [.int a t, .int b u, .int c x, .int d y]) Q E s:=by
 have hname:(toString "min" ++ toString ".loop" : String) = "min.loop" := by decide
 refine call_function_tree F.kind_min F.plain_min F.entry_min (F.args_min4 _ _ _ _) ?_
 show wpAny _ A.in1 (Builtin.Builtins.bindParams "min" ["key", "default"] 0 ⟨[],[]⟩ >>= _) _ _ _
 refine wpAny_bind (wpAny_of_eq (show Builtin.Builtins.bindParams "min" ["key", "default"] 0 ⟨[],[]⟩=pure ([none,none]:List _) from rfl) ?_)
 show wpAny _ A.in1 (newTuple [.int a t, .int b u, .int c x, .int d y] >>= _) _ _ s
 refine wpAny_bind (wpAny_newObj_type ?_)
 have hT:(s.heap.push { cls := .type "tuple", data := .seq #[.int a t, .int b u, .int c x, .int d y] }).IsTuple s.heap.objs.size (intItems #[(a,t),(b,u),(c,x),(d,y)]):=⟨_,Heap.get?_push_size _ rfl,rfl,0,by simp [intItems]⟩
 have hsz:(s.heap.push { cls := .type "tuple", data := .seq #[.int a t, .int b u, .int c x, .int d y] }).objs.size=s.heap.objs.size+1:=Heap.size_push ..
 have key:wpAny (model prog w) A.in1 (pyIter (.ref s.heap.objs.size)) (fun iv s₂=>iv = .ref (s.heap.objs.size+1)∧s₂.heap.IsTupleIter (s.heap.objs.size+1) s.heap.objs.size 0∧s₂.heap.IsTuple s.heap.objs.size (intItems #[(a,t),(b,u),(c,x),(d,y)]) ∧
   s₂.heap.objs.size=s.heap.objs.size+2∧(∀ e o,s.heap.get? e=some o→s₂.heap.get? e=some o)∧∃ h2 tk2,s₂={ s with heap:=h2,toks:=tk2 }) E { s with heap:=s.heap.push { cls := .type "tuple", data := .seq #[.int a t, .int b u, .int c x, .int d y] } }:=by
  refine wpAny_pyIter_tuple hT ?_
  refine ⟨by rw [hsz],⟨_,by rw [← hsz]; exact Heap.get?_push_size _ rfl,rfl,rfl⟩,hT.push _,by rw [Heap.size_push,hsz],fun e o q=>Heap.get?_push_of_some _ (Heap.get?_push_of_some _ q),_,_,rfl⟩
 refine wpAny_bind (wpAny_mono key (fun iv s₂ h₂ => ?_) fun _ _ e=>e)
 obtain ⟨rfl,hI,hT2,hz2,hold,h2,tk2,rfl⟩:=h₂
 refine wpAny_bind (wpAny_newObj_type ?_)
 rw [hname]
 have W:=Walks.tuple (prog:=prog) (w:=w) (A:=A.in1) hh (s.heap.objs.size+1) s.heap.objs.size (Nat.ne_of_lt (Nat.lt_succ_self _)) (intItems #[(a,t),(b,u),(c,x),(d,y)])
 have hfp:h2.objs.size ∉ [s.heap.objs.size+1,s.heap.objs.size]:=fun hm=>by
  have hz3:h2.objs.size=s.heap.objs.size+2:=hz2
  rw [hz3] at hm
  simp at hm
 refine wpAny_pure ⟨plainId_quiet F.plain_min_loop _,codeAny_min_loop_first W _ (CmpOf.ints_lt (numAt #[(a,t),(b,u),(c,x),(d,y)]) (fun _ _=>intItems_at)) h2.objs.size hfp (by simp [intItems])
  (W.frame _ _ _ ⟨hI,hT2⟩ fun b _ o e=>Heap.get?_push_of_some _ e) (Heap.get?_push_size _ rfl) fun v h' tk hP hk => ?_⟩
 obtain ⟨m,q,hv⟩:∃ m q,v=Value.int m q:=by
  have hP':v∈intItems #[(a,t),(b,u),(c,x),(d,y)]:=Array.mem_of_getElem? hP
  simp [intItems] at hP'
  rcases hP' with h | h | h | h <;> exact ⟨_,_,h⟩
 rw [hv]
 refine kQ m q h' tk fun e o g=>hk e o (fun hm => ?_) (Nat.ne_of_lt (Heap.lt_size (hold e o g))) (Heap.get?_push_of_some _ (hold e o g))
 have hlt:=Heap.lt_size g
 rw [List.mem_singleton] at hm
 exact absurd hlt (by rw [hm]; exact Nat.not_lt.mpr (Nat.le_succ _))
end
end PySem
namespace L2
open PySem PySem.Spec PyProof.Rows
section
variable {X:Cx}{pins:List (Addr × Obj)}{σ:St}{H:Hp}{s:Shared}{h':Heap}
theorem Inv.turnedT {t':Nat}{ch:List Addr}{T:Addr}{o:HO} (I:Inv X pins σ H s) (k:∀ b ob,b ∉ ch→s.heap.get? b=some ob→h'.get? b=some ob) (hf:∀ b∈ch,lP X pins H b) (hT:s.heap.objs.size≤T)
  (new:fW X.prog X.w (upd H T o) h' T o):Inv X pins σ (upd H T o) { s with heap:=h',toks:=t' }:=by
 have hn:H T=none:=I.hok.fresh hT
 have nit:∀ b u,H b=some u→b ∉ ch:=fun b u e z=>by rw [(hf b z).1] at e; cases e
 have ne:∀ b u,s.heap.get? b=some u→b≠T:=fun b u e=>Nat.ne_of_lt (Nat.lt_of_lt_of_le (Heap.lt_size e) hT)
 refine I.step (g':=s.gens) (d':=s.drawn) (ch:=ch) (fun b hb => ?_) (fun b ob _ _ hc e _=>k b ob hc e) (fun b ob _ _ hc e _=>⟨ob.slots,k b ob hc e⟩) (fun b ob _ e n=>by rw [bL (ne b ob e)]; exact n)
  (fun b ob hc e=>⟨ob,k b ob hc e⟩) (fun b xs e=>by rw [bL (bZ e hn)]; exact e) (fun b ob u e=>by rw [bL (bZ e hn)]; exact e) (fun b ps e=>⟨#[],by rw [bL (bZ e hn),e]; simp⟩) (fun m hm => ?_) (fun b u e => ?_) I.bare
 ·obtain ⟨f0,f1,f2,f3,f4,f5⟩:=hf b hb
  exact ⟨f3,f1,f4,f5⟩
 ·obtain ⟨ob,es,ep,ho,r⟩:=hm
  exact ⟨ob,es,ep,k _ ob (fun z=>(hf _ z).2.1 rfl) ho,r⟩
 ·by_cases z:b=T
  ·subst z; rw [bQ] at e; cases e; exact new
  ·rw [bL z] at e
   refine (I.hok b u e).stay (fun c v hc q=>k c v ?_ q) (fun c q=>by rw [bL (bZ q hn)]; exact q) fun c xs q=>by rw [bL (bZ q hn)]; exact q
   rcases hc with y | y
   ·rw [y]; exact nit b u e
   ·exact nit c _ y
theorem Inv.turnedL {t':Nat}{ch:List Addr} (I:Inv X pins σ H s) (k:∀ b ob,b ∉ ch→s.heap.get? b=some ob→h'.get? b=some ob) (hf:∀ b∈ch,lP X pins H b):Inv X pins σ H { s with heap:=h',toks:=t' }:=by
 have nit:∀ b u,H b=some u→b ∉ ch:=fun b u e z=>by rw [(hf b z).1] at e; cases e
 refine I.step (g':=s.gens) (d':=s.drawn) (ch:=ch) (fun b hb => ?_) (fun b ob _ _ hc e _=>k b ob hc e) (fun b ob _ _ hc e _=>⟨ob.slots,k b ob hc e⟩) (fun _ _ _ _ n=>n)
  (fun b ob hc e=>⟨ob,k b ob hc e⟩) (fun _ _ e=>e) (fun _ _ _ e=>e) (fun b ps e=>⟨#[],by rw [e]; simp⟩) (fun m hm => ?_) (fun b u e => ?_) I.bare
 ·obtain ⟨f0,f1,f2,f3,f4,f5⟩:=hf b hb
  exact ⟨f3,f1,f4,f5⟩
 ·obtain ⟨ob,es,ep,ho,r⟩:=hm
  exact ⟨ob,es,ep,k _ ob (fun z=>(hf _ z).2.1 rfl) ho,r⟩
 ·refine (I.hok b u e).stay (fun c v hc q=>k c v ?_ q) (fun _ q=>q) fun _ _ q=>q
  rcases hc with y | y
  ·rw [y]; exact nit b u e
  ·exact nit c _ y
theorem aFC (hc:X.calm=true):gL X (.builtin "min") (fun xs H Q=>∃ a b c d:Int,xs=[.int a, .int b, .int c, .int d]∧∀ m:Int,Q (.int m) H):=by
 intro pins s σ H xs us Q I r h
 obtain ⟨a,b,c,d,rfl,q⟩:=h
 cases r with
 | cons r1 r =>
  cases r with
  | cons r2 r =>
   cases r with
   | cons r3 r =>
    cases r with
    | cons r4 r =>
     cases r
     obtain ⟨t1,rfl⟩:=r1
     obtain ⟨t2,rfl⟩:=r2
     obtain ⟨t3,rfl⟩:=r3
     obtain ⟨t4,rfl⟩:=r4
     exact aDO (I.ok.hd hc) fun m tq h' tk hk=>⟨.int m,H,I.kept (t':=tk) hk,⟨tq,rfl⟩,q m⟩
end
end L2
namespace Z
open PySem L2
section
variable {X:Cx}{Γ:Gm}{M:Mem}{k:D→Mem→Prop}{pos:Pos}{a b:Expr}{rest:List Expr}
theorem GE.mono {e:Expr}{k':D→Mem→Prop} (h:GE X e Γ M k) (f:∀ d M1,k d M1→k' d M1):GE X e Γ M k':=fun σ G H Q en rl q=>h σ G H Q en rl fun v G' H' d M' s e hk=>q v G' H' d M' s e (f d M' hk)
theorem aD6 (h:GE X a Γ M fun d M1=>∃ c,d = .bl c∧(c=false→GE X (.BoolOp .Or (b::rest) pos) Γ M1 fun d2 M2=>(∃ c2,d2 = .bl c2)∧M2=M1)∧∀ c',k (.bl c') M1):GE X (.BoolOp .Or (a::b::rest) pos) Γ M k:=by
 refine aB7 (h.mono fun d M1 ⟨c,ed,h1,h2⟩=>⟨c,ed,?_⟩)
 cases c with
 | true=>rw [if_pos rfl]; exact h2 true
 | false=>rw [if_neg Bool.false_ne_true]; exact (h1 rfl).mono fun d2 M2 ⟨⟨c2,e⟩,em⟩=>by subst e em; exact h2 c2
theorem aJQ {K:Fg}{i1 i2 i3 i4:Int} (h:∀ m:Int,k (.int m) M):OpN K (fun xs H Q=>∃ a b c d:Int,xs=[.int a, .int b, .int c, .int d]∧∀ m:Int,Q (.int m) H) [.int i1, .int i2, .int i3, .int i4] M k:=fun G H vs Q rl e q=>by
 obtain ⟨v1,r,rfl,d1,e⟩:=bX e
 obtain ⟨v2,r,rfl,d2,e⟩:=bX e
 obtain ⟨v3,v4,rfl,d3,d4⟩:=dens2 e
 exact ⟨i1,i2,i3,i4,by rw [d1.int_,d2.int_,d3.int_,d4.int_],fun m=>q _ _ _ _ _ (Stp.refl rl) dR (h m)⟩
end
end Z
namespace R
open PySem L2
theorem q5 {α:Type} (f:Nat→α):∀ p,f p≠f 0→∃ k,k < p∧f k≠f (k+1)∧f (k+1)=f p
 | 0,h=>absurd rfl h
 | p+1,h=>by
  by_cases e:f p=f (p+1)
  ·obtain ⟨k,h1,h2,h3⟩:=q5 f p (by rw [e]; exact h)
   exact ⟨k,by omega,h2,h3.trans e⟩
  ·exact ⟨p,by omega,e,rfl⟩
theorem xI {l:List Nat} (s:l.Pairwise (· < ·)) {a b:Nat} (ha:a∈l) (hb:b∈l) (h:a < b):a∈l.dropLast:=by
 have hne:l≠[]:=fun e=>by rw [e] at ha; cases ha
 have e:=List.dropLast_concat_getLast hne
 rw [← e] at ha hb s
 rw [List.pairwise_append] at s
 rcases List.mem_append.mp ha with ha | ha
 ·exact ha
 ·rw [List.mem_singleton] at ha
  rcases List.mem_append.mp hb with hb | hb
  ·have:=s.2.2 b hb _ (List.mem_singleton_self _)
   omega
  ·rw [List.mem_singleton] at hb
   omega
theorem row_kept {n:Nat}{zs:List Str} (h:∀ z∈zs,z.length=n) {z:Str} (hz:z∈zs):z=dots n∨z∈aR zs:=by
 by_cases hd:z=dots n
 ·exact .inl hd
 refine .inr ?_
 obtain ⟨p,hp,ez⟩:=List.getElem_of_mem hz
 have hne:zs≠[]:=fun e=>by rw [e] at hz; cases hz
 have hw:=cZ h hne
 have f0:(framed zs)[0]?=some (dots n):=by rw [f9,hw]
 have fl:(framed zs)[zs.length+1]?=some (dots n):=by rw [eM,hw]
 have fp:(framed zs)[p+1]?=some z:=by rw [cX hp,List.getElem?_eq_getElem hp,ez]
 have ne:∀ {o:Option Str},o=some (dots n)→(framed zs)[p+1]?≠o:=fun e q=>hd (by rw [fp,e] at q; injection q)
 obtain ⟨k,k1,k2,k3⟩:=q5 (fun i=>(framed zs)[i]?) (p+1) (ne f0)
 obtain ⟨j,j1,j2,j3⟩:=jA (fun i=>(framed zs)[i]?) (zs.length - p) (p+1) (by
  show (framed zs)[p+1]?≠(framed zs)[p+1+(zs.length - p)]?
  rw [show p+1+(zs.length - p)=zs.length+1 by omega]; exact ne fl)
 have mk:k∈chg zs:=(eY hne).mpr ⟨by omega,k2⟩
 have mj:j∈chg zs:=(eY hne).mpr ⟨by omega,j3⟩
 have:=xI (cL zs) mk mj (by omega)
 refine List.mem_map.mpr ⟨k,this,?_⟩
 have e:(framed zs)[k+1]?=some z:=k3.trans fp
 rw [cX (by omega)] at e
 rw [List.getD_eq_getElem?_getD,e]; rfl
theorem xG {n:Nat}{zs:List Str} (h:∀ z∈zs,z=dots n):chg zs=[]:=by
 by_cases hne:zs=[]
 ·rw [hne]; simp [chg]
 have hl:∀ z∈zs,z.length=n:=fun z hz=>by rw [h z hz,rJ]
 have hw:=cZ hl hne
 have all:∀ i,i≤zs.length+1→(framed zs)[i]?=some (dots n):=fun i hi=>by
  rcases Nat.eq_zero_or_pos i with rfl | hp
  ·rw [f9,hw]
  ·obtain ⟨j,rfl⟩:∃ j,i=j+1:=⟨i - 1,by omega⟩
   by_cases hj:j < zs.length
   ·rw [cX hj,List.getElem?_eq_getElem hj,h _ (List.getElem_mem hj)]
   ·rw [show j=zs.length by omega,eM,hw]
 refine List.eq_nil_iff_forall_not_mem.mpr fun i hi => ?_
 obtain ⟨a,b⟩:=(eY hne).mp hi
 exact b (by rw [all i (by omega),all (i+1) (by omega)])
theorem pR {n:Nat}{zs:List Str} (h:∀ z∈zs,z.length=n) (hr:aR zs=[]):chg zs=[]∧chg (aJ zs)=[]:=by
 have hd:∀ z∈zs,z=dots n:=fun z hz=>(row_kept h hz).elim id fun q=>by rw [hr] at q; cases q
 refine ⟨xG hd,xG (n:=zs.length) fun c hc => ?_⟩
 obtain ⟨j,hj,rfl⟩:=List.mem_map.mp hc
 rw [List.mem_range] at hj
 by_cases hne:zs=[]
 ·rw [hne] at hj; simp at hj
 rw [cZ h hne] at hj
 unfold dots ofL
 congr 2
 refine List.eq_replicate_iff.mpr ⟨by simp,fun b hb => ?_⟩
 obtain ⟨z,hz,rfl⟩:=List.mem_map.mp hb
 rw [hd z hz,k9,if_pos hj]
def tJ (n i:Nat) (z:Str):Nat:=if i=0∨i=n+1 then 46 else atS z (i - 1)
theorem cC {n:Nat}{zs:List Str} (h:∀ z∈zs,z.length=n) (hz:zs≠[]):(aJ zs).length=n:=by
 unfold aJ; rw [cZ h hz]; simp
theorem iK {n i:Nat}{zs:List Str} (h:∀ z∈zs,z.length=n) (hz:zs≠[]) (hn:0 < n) (hi:i≤n+1):(framed (aJ zs))[i]?=some (ofL (zs.map (tJ n i))):=by
 have hc:=cC h hz
 have hne:aJ zs≠[]:=fun e=>by rw [e] at hc; simp at hc; omega
 have hw:((aJ zs).head?.map (·.length)).getD 0=zs.length:=cZ (fun c hc=>dB c hc) hne
 have hd:dots zs.length=ofL (zs.map fun _=>46):=by
  unfold dots; rw [List.map_const']
 rcases Nat.eq_zero_or_pos i with rfl | hp
 ·rw [f9,hw,hd]; rfl
 ·obtain ⟨j,rfl⟩:∃ j,i=j+1:=⟨i - 1,by omega⟩
  by_cases hj:j < n
  ·rw [cX (by omega),gF h hz hj]
   congr 2
   apply List.map_congr_left
   intro z _
   unfold tJ
   rw [if_neg (by omega)]; rfl
  ·have e:j=(aJ zs).length:=by omega
   rw [e,eM,hw,hd]
   congr 2
   apply List.map_congr_left
   intro z _
   unfold tJ
   rw [if_pos (by omega)]
theorem uB {zs:List Str}{f g:Str→Nat}:(some (ofL (zs.map f))=some (ofL (zs.map g)))↔∀ z∈zs,f z=g z:=by
 constructor
 ·intro e
  injection e with e
  unfold ofL at e
  injection e with e
  have e:zs.map f=zs.map g:=by injection e
  exact fun z hz=>(List.map_inj_left.mp e) z hz
 ·intro e
  rw [List.map_congr_left e]
theorem mG {n:Nat}{zs:List Str} (h:∀ z∈zs,z.length=n) (hr:aR zs≠[]):chg (aJ (aR zs))=chg (aJ zs):=by
 have hz:zs≠[]:=fun e=>by subst e; exact hr (by simp [aR,chg])
 have hk:∀ z∈aR zs,z.length=n:=fun z q=>h z (kF z q)
 rcases Nat.eq_zero_or_pos n with rfl | hn
 ·have e1:aJ zs=[]:=List.length_eq_zero_iff.mp (cC h hz)
  have e2:aJ (aR zs)=[]:=List.length_eq_zero_iff.mp (cC hk hr)
  rw [e1,e2]
 ·have l1:=cC h hz
  have l2:=cC hk hr
  have n1:(aJ zs).isEmpty=false:=by cases hc:aJ zs with
   | nil=>rw [hc] at l1; simp at l1; omega
   | cons _ _=>rfl
  have n2:(aJ (aR zs)).isEmpty=false:=by cases hc:aJ (aR zs) with
   | nil=>rw [hc] at l2; simp at l2; omega
   | cons _ _=>rfl
  unfold chg
  rw [n1,n2,l1,l2,if_neg Bool.false_ne_true,if_neg Bool.false_ne_true]
  apply List.filter_congr
  intro i hi
  rw [List.mem_range] at hi
  rw [iK h hz hn (by omega),iK h hz hn (by omega),iK hk hr hn (by omega),iK hk hr hn (by omega)]
  congr 1
  apply decide_eq_decide.mpr
  rw [uB,uB]
  constructor
  ·intro q z hz
   rcases row_kept h hz with rfl | hz
   ·unfold tJ
    rw [k9,k9]
    split <;> split <;> (try split) <;> (try split) <;> first | rfl | omega
   ·exact q z hz
  ·exact fun q z hz=>q z (kF z hz)
theorem lV {n:Nat}{zs:List Str} (h:Good n zs) (hr:aR zs≠[]):aJ (aR (aJ (aR zs)))=cV zs:=by
 have g1:=f7 h
 have hl:∀ z∈aR zs,z.length=n:=fun z hz=>(g1 z hz).1
 obtain ⟨c2,wf,le⟩:=aKZ h hr
 have hJ:=mG (fun z hz=>(h z hz).1) hr
 have lt:∀ j∈(chg (aJ (aR zs))).dropLast,j < n:=fun j hj=>by
  have:=i9 (cL _) (eB _) j hj
  rw [cC hl hr] at this
  exact this
 have e1:aR (aJ (aR zs))=(chg (aJ (aR zs))).dropLast.map fun j=>ofL ((aR zs).map (atS · j)):=by
  show List.map _ _=_
  apply List.map_congr_left
  intro j hj
  rw [List.getD_eq_getElem?_getD,gF hl hr (lt j hj)]; rfl
 have hk:aR (aJ (aR zs))≠[]:=fun q=>by
  have:=dZ (aJ (aR zs))
  rw [q] at this
  simp at this
  omega
 have hw:((aR (aJ (aR zs))).head?.map (·.length)).getD 0=(aR zs).length:=cZ (fun z hz=>dB z (kF z hz)) hk
 have ek:cV zs=(aR zs).map fun z=>ofL ((chg (aJ (aR zs))).dropLast.map (atS z)):=by
  rw [hJ]; unfold aR cV; rw [List.map_map]; rfl
 rw [ek]
 show (List.range (((aR (aJ (aR zs))).head?.map (·.length)).getD 0)).map (fun j=>ofL ((aR (aJ (aR zs))).map (atS · j)))=_
 rw [hw,e1]
 apply List.ext_getElem
 ·simp
 ·intro r hr1 hr2
  rw [List.length_map,List.length_range] at hr1
  rw [List.getElem_map,List.getElem_map,List.getElem_range,List.map_map]
  congr 1
  apply List.map_congr_left
  intro j _
  show atS (ofL ((aR zs).map (atS · j))) r=_
  rw [k8,List.getD_eq_getElem?_getD,List.getElem?_map,List.getElem?_eq_getElem hr1]; rfl
abbrev Cell:=List Int
def nG (zs:List Str) (inside:Bool) (nx ny:Nat):List Cell:=(List.range (ny+1)).flatMap fun (u:Nat)=>(List.range (nx+1)).filterMap fun (a:Nat)=>if bH zs ((a:Int) - 1) ((u:Int) - 1)=inside then some [(a:Int) - 1,(u:Int) - 1] else none
inductive Rch (cells:List Cell) (st:List (Int × Int)) (s:Cell):Cell→Prop
 | refl:Rch cells st s s
 | step {x y:Int}{d:Int × Int}:Rch cells st s [x,y]→d∈st→[x+d.1,y+d.2]∈cells→Rch cells st s [x+d.1,y+d.2]
open Classical in
noncomputable def starts (cells:List Cell) (st:List (Int × Int)):Nat→List Cell
 | 0=>[]
 | i+1=>match cells[i]? with
  | some c=>if ∃ s∈starts cells st i,Rch cells st s c then starts cells st i else starts cells st i++[c]
  | none=>starts cells st i
def rowsOf (f:Int→Int→Bool) (w h:Nat):List Str:=(List.range h).map fun (u:Nat)=>ofL ((List.range w).map fun (a:Nat)=>sg (f (a:Int) (u:Int)))
theorem still {zs:List Str} (hz:zs≠[]) {a b:Nat} (hab:a≤b) (hb:b≤zs.length+1) (hn:∀ c∈chg zs,¬ (a≤c∧c < b)):(framed zs)[a]?=(framed zs)[b]?:=by
 refine Classical.byContradiction fun q => ?_
 obtain ⟨k,h1,h2,h3⟩:=jA (fun i=>(framed zs)[i]?) (b - a) a (by rw [show a+(b - a)=b by omega]; exact q)
 exact hn k ((eY hz).mpr ⟨by omega,h3⟩) ⟨h1,by omega⟩
theorem pD {zs:List Str}{i j:Nat}{c d:Nat} (hi:(chg zs)[i]?=some c) (hj:(chg zs)[j]?=some d) (h:i < j):c < d:=by
 obtain ⟨h1,e1⟩:=List.getElem?_eq_some_iff.mp hi
 obtain ⟨h2,e2⟩:=List.getElem?_eq_some_iff.mp hj
 have:=List.pairwise_iff_getElem.mp (cL zs) i j h1 h2 h
 rw [e1,e2] at this; exact this
theorem xQ {zs:List Str}{i:Nat}{c d e:Nat} (hi:(chg zs)[i]?=some c) (hj:(chg zs)[i+1]?=some d) (he:e∈chg zs) (h:c < e):d≤e:=by
 obtain ⟨k,hk,ek⟩:=List.getElem_of_mem he
 have ek':(chg zs)[k]?=some e:=by rw [List.getElem?_eq_getElem hk,ek]
 by_cases h1:k≤i
 ·by_cases h2:k=i
  ·subst h2; rw [hi] at ek'; cases ek'; omega
  ·have:=pD ek' hi (by omega); omega
 ·by_cases h2:k=i+1
  ·subst h2; rw [hj] at ek'; cases ek'; omega
  ·have:=pD hj ek' (by omega); omega
theorem uY {zs:List Str}{c e:Nat} (hi:(chg zs)[0]?=some c) (he:e∈chg zs):c≤e:=by
 obtain ⟨k,hk,ek⟩:=List.getElem_of_mem he
 have ek':(chg zs)[k]?=some e:=by rw [List.getElem?_eq_getElem hk,ek]
 by_cases h:k=0
 ·subst h; rw [hi] at ek'; cases ek'; omega
 ·have:=pD hi ek' (by omega); omega
theorem aDH {zs:List Str}{c e:Nat} (hi:(chg zs)[(chg zs).length - 1]?=some c) (he:e∈chg zs):e≤c:=by
 obtain ⟨k,hk,ek⟩:=List.getElem_of_mem he
 have ek':(chg zs)[k]?=some e:=by rw [List.getElem?_eq_getElem hk,ek]
 by_cases h:k=(chg zs).length - 1
 ·subst h; rw [hi] at ek'; cases ek'; omega
 ·have:=pD ek' hi (by omega); omega
theorem wY {zs:List Str}{i c:Nat} (hi:(chg zs)[i]?=some c) (h:i+1 < (chg zs).length):(aR zs)[i]?=zs[c]?∧c < zs.length:=by
 have hd:(chg zs).dropLast[i]?=some c:=by rw [List.getElem?_dropLast,if_pos (by omega)]; exact hi
 have hl:=i9 (cL zs) (eB zs) c (List.mem_of_getElem? hd)
 unfold aR
 rw [List.getElem?_map,hd,Option.map_some,List.getD_eq_getElem?_getD,List.getElem?_eq_getElem hl]
 exact ⟨rfl,hl⟩
theorem yS {n:Nat}{zs:List Str} (h:∀ z∈zs,z.length=n) (hr:aR zs≠[]):chg (aR zs)=List.range (chg zs).length:=by
 have hc:chg zs≠[]:=fun e=>hr (by unfold aR; rw [e]; rfl)
 have hz:zs≠[]:=pX zs hc
 have hkl:=dZ zs
 have hk1:1≤(aR zs).length:=List.length_pos_iff.mpr hr
 have hK:∀ z∈aR zs,z.length=n:=fun z hz=>h z (kF z hz)
 have w1:=cZ h hz
 have w2:=cZ hK hr
 have f0:=f9 zs
 have fl:=eM zs
 have g0:=f9 (aR zs)
 have gl:=eM (aR zs)
 rw [w1] at f0 fl
 rw [w2] at g0 gl
 have A:∀ i c,(chg zs)[i]?=some c→(framed (aR zs))[i]?=(framed zs)[c]?:=fun i c hi=>by
  have hil:=(List.getElem?_eq_some_iff.mp hi).1
  have hcl:=eB zs c (List.mem_of_getElem? hi)
  cases i with
  | zero =>
   rw [g0,← f0]
   exact still hz (Nat.zero_le _) (by omega) fun e he z=>by have:=uY hi he; omega
  | succ i =>
   obtain ⟨b,hb⟩:∃ b,(chg zs)[i]?=some b:=⟨(chg zs)[i],List.getElem?_eq_getElem (by omega)⟩
   obtain ⟨k1,k2⟩:=wY hb (by omega)
   have lt:=pD hb hi (Nat.lt_succ_self i)
   rw [cX (by omega),k1,← cX k2]
   exact still hz (by omega) (by omega) fun e he z=>by have:=xQ hb hi he (by omega); omega
 have B:∀ i c,(chg zs)[i]?=some c→(framed (aR zs))[i+1]?=(framed zs)[c+1]?:=fun i c hi=>by
  have hil:=(List.getElem?_eq_some_iff.mp hi).1
  have hcl:=eB zs c (List.mem_of_getElem? hi)
  by_cases hlast:i+1 < (chg zs).length
  ·obtain ⟨k1,k2⟩:=wY hi hlast
   rw [cX (by omega),k1,← cX k2]
  ·have ei:i=(chg zs).length - 1:=by omega
   rw [show i+1=(aR zs).length+1 by omega,gl,← fl]
   exact (still hz (by omega) (Nat.le_refl _) fun e he z=>by have:=aDH (ei ▸ hi) he; omega).symm
 have:chg (aR zs)=(List.range ((aR zs).length+1)).filter fun i => !decide ((framed (aR zs))[i]?=(framed (aR zs))[i+1]?):=by
  unfold chg
  rw [if_neg (by rw [List.isEmpty_iff]; exact hr)]
 rw [this,show (aR zs).length+1=(chg zs).length by omega]
 refine List.filter_eq_self.mpr fun i hi => ?_
 have hil:=List.mem_range.mp hi
 have hi':(chg zs)[i]?=some (chg zs)[i]:=List.getElem?_eq_getElem hil
 have hne:=((eY hz).mp (List.mem_of_getElem? hi')).2
 rw [← A i _ hi',← B i _ hi'] at hne
 rw [decide_eq_false hne]; rfl
theorem lU {n:Nat}{zs:List Str} (h:∀ z∈zs,z.length=n) (hz:zs≠[]) (hn:0 < n):aJ (aJ zs)=zs:=by
 have hc:(aJ zs).length=n:=cC h hz
 have hcn:aJ zs≠[]:=fun e=>by rw [e] at hc; simp at hc; omega
 have hce:∀ z∈aJ zs,z.length=zs.length:=fun z hz=>dB z hz
 have hzl:0 < zs.length:=List.length_pos_iff.mpr hz
 have hcc:=cC hce hcn
 apply List.ext_getElem?
 intro i
 by_cases hi:i < zs.length
 ·rw [gF hce hcn hi,List.getElem?_eq_getElem hi]
  congr 1
  apply gZ
  show (aJ zs).map (atS · i)=zs[i].cps.toList
  apply List.ext_getElem?
  intro j
  have hl:=h zs[i] (List.getElem_mem hi)
  by_cases hj:j < n
  ·rw [List.getElem?_map,gF h hz hj,Option.map_some,dQ (by omega),k8,List.getD_eq_getElem?_getD,List.getElem?_map,List.getElem?_eq_getElem hi]
   rfl
  ·rw [List.getElem?_eq_none (by rw [List.length_map]; omega),List.getElem?_eq_none (by rw [Array.length_toList]; have:zs[i].cps.size=zs[i].length:=rfl; omega)]
 ·rw [List.getElem?_eq_none (by omega),List.getElem?_eq_none (by omega)]
theorem aCC {n:Nat}{zs:List Str} (h:Good n zs) (hr:aR zs≠[]) :
  chg (cV zs)=List.range (chg zs).length∧chg (aJ (cV zs))=List.range (chg (aJ zs)).length∧cV zs≠[]∧Good ((chg (aJ zs)).length - 1) (cV zs)∧2≤(chg (aJ zs)).length∧2≤(chg zs).length:=by
 have hl:∀ z∈zs,z.length=n:=fun z hz=>(h z hz).1
 have gR:=f7 h
 have hR:∀ z∈aR zs,z.length=n:=fun z hz=>(gR z hz).1
 obtain ⟨z0,hz0,hd0⟩:=qY hl hr
 obtain ⟨j0,hj0,_⟩:=wM gR hz0 hd0
 have hn:0 < n:=by omega
 have eR:=yS hl hr
 have eC:=mG hl hr
 have gC:=iU gR
 have hC:∀ z∈aJ (aR zs),z.length=(aR zs).length:=fun z hz=>(gC z hz).1
 have cne:aJ (aR zs)≠[]:=fun e=>by have:=cC hR hr; rw [e] at this; simp at this; omega
 have kne:aR (aJ (aR zs))≠[]:=fun e=>by
  have h1:=(pR hC e).2
  rw [lU hR hr hn,eR] at h1
  have h2:(chg zs).length=0:=by simpa using congrArg List.length h1
  have:=dZ zs
  exact hr (List.length_eq_zero_iff.mp (by omega))
 have eK:=yS hC kne
 have gK:=f7 gC
 have hK:∀ z∈aR (aJ (aR zs)),z.length=(aR zs).length:=fun z hz=>(gK z hz).1
 have rl:0 < (aR zs).length:=List.length_pos_iff.mpr hr
 have e1:=mG hC kne
 rw [lU hR hr hn,eR,lV h hr] at e1
 have e2:aJ (cV zs)=aR (aJ (aR zs)):=by rw [← lV h hr]; exact lU hK kne rl
 have kl:=dZ (aJ (aR zs))
 have kp:0 < (aR (aJ (aR zs))).length:=List.length_pos_iff.mpr kne
 have kz:=dZ zs
 rw [eC] at kl
 refine ⟨e1,by rw [e2,eK,eC],fun e => ?_,?_,by omega,by omega⟩
 ·rw [e] at e1
  have h2:=congrArg List.length e1
  rw [List.length_range,show (chg ([]:List Str)).length=0 from rfl] at h2
  omega
 ·rw [← lV h hr]
  have:=iU gK
  rw [kl] at this
  exact this
theorem aAN {zs:List Str}{r j c d:Nat} (hj:j < zs.length) (h1:(chg zs)[r]?=some c) (h2:(chg zs)[r+1]?=some d) (hc:c≤j) (hd:j < d):zs[j]?=zs[c]?:=by
 have hz:zs≠[]:=fun e=>by rw [e] at hj; simp at hj
 rw [← cX hj,← cX (show c < zs.length by omega)]
 exact (still hz (by omega) (by omega) fun e he z=>by have:=xQ h1 h2 he (by omega); omega).symm
theorem xJ {n:Nat}{zs:List Str} (h:∀ z∈zs,z.length=n) {j:Nat} (hj:j < zs.length) (hn:∀ r c d,(chg zs)[r]?=some c→(chg zs)[r+1]?=some d→¬ (c≤j∧j < d)):zs[j]?=some (dots n):=by
 have hz:zs≠[]:=fun e=>by rw [e] at hj; simp at hj
 have w:=cZ h hz
 have f0:=f9 zs
 have fl:=eM zs
 rw [w] at f0 fl
 rw [← cX hj]
 by_cases hall:∀ e∈chg zs,j < e
 ·rw [← f0]
  exact (still hz (Nat.zero_le _) (by omega) fun e he z=>by have:=hall e he; omega).symm
 ·have h0:∀ (r c:Nat),(chg zs)[r]?=some c→c≤j:=fun r=>by
   induction r with
   | zero =>
    intro c hc
    refine Classical.byContradiction fun q=>hall fun e he => ?_
    have:=uY hc he; omega
   | succ r ih =>
    intro d hd
    have hr:=(List.getElem?_eq_some_iff.mp hd).1
    have hc:(chg zs)[r]?=some (chg zs)[r]:=List.getElem?_eq_getElem (by omega)
    have:=hn r _ d hc hd
    have:=ih _ hc
    omega
  rw [← fl]
  refine still hz (by omega) (Nat.le_refl _) fun e he z => ?_
  obtain ⟨k,hk,ek⟩:=List.getElem_of_mem he
  have:=h0 k e (by rw [List.getElem?_eq_getElem hk,ek])
  omega
theorem aKO {zs:List Str}{r c i j:Nat} (hr:(chg zs)[r]?=some i) (hr1:r+1 < (chg zs).length) (hc:(chg (aJ zs))[c]?=some j) (hc1:c+1 < (chg (aJ zs)).length) {z:Str} (hz:zs[i]?=some z):∃ y,(cV zs)[r]?=some y∧atS y c=atS z j:=by
 have d1:(chg zs).dropLast[r]?=some i:=by rw [List.getElem?_dropLast,if_pos (by omega)]; exact hr
 have d2:(chg (aJ zs)).dropLast[c]?=some j:=by rw [List.getElem?_dropLast,if_pos (by omega)]; exact hc
 unfold cV
 rw [List.getElem?_map,d1]
 refine ⟨_,rfl,?_⟩
 rw [k8,List.getD_eq_getElem?_getD,List.getElem?_map,d2,List.getD_eq_getElem?_getD,hz]
 rfl
theorem aL1 {n:Nat}{zs:List Str} (h:∀ z∈zs,z.length=n) {c k i d:Nat} (hk:k < n) (h1:(chg (aJ zs))[c]?=some i) (h2:(chg (aJ zs))[c+1]?=some d) (hc:i≤k) (hd:k < d):∀ z∈zs,atS z k=atS z i:=fun z hz=>by
 have hne:zs≠[]:=fun e=>by rw [e] at hz; cases hz
 have hl:=cC h hne
 have:=aAN (zs:=aJ zs) (by omega) h1 h2 hc hd
 rw [gF h hne hk,gF h hne (by omega)] at this
 exact uB.mp this z hz
theorem aK1 {n:Nat}{zs:List Str} (h:∀ z∈zs,z.length=n) {k:Nat} (hk:k < n) (hn:∀ r c d,(chg (aJ zs))[r]?=some c→(chg (aJ zs))[r+1]?=some d→¬ (c≤k∧k < d)):∀ z∈zs,atS z k=46:=fun z hz=>by
 have hne:zs≠[]:=fun e=>by rw [e] at hz; cases hz
 have hl:=cC h hne
 have:=xJ (zs:=aJ zs) (fun z hz=>dB z hz) (j:=k) (by omega) hn
 rw [gF h hne hk] at this
 have e:ofL (zs.map (atS · k))=dots zs.length:=by injection this
 obtain ⟨i,hi,rfl⟩:=List.getElem_of_mem hz
 have e2:=congrArg (fun s=>atS s i) e
 simp only [k8,k9,if_pos hi] at e2
 rw [List.getD_eq_getElem?_getD,List.getElem?_map,List.getElem?_eq_getElem hi] at e2
 exact e2
def dX (C:List Nat) (k:Int):Nat:=(C.filter fun (i:Nat)=>decide ((i:Int)≤k)).length
def bd (C:List Nat) (k:Int):Int:=(dX C k:Int) - 1
theorem tX {k:Int}:∀ {C:List Nat},C.Pairwise (· < ·)→∀ {i c:Nat},C[i]?=some c→((c:Int)≤k↔i < dX C k)
 | [],_,i,c,h=>by simp at h
 | a::l,hs,i,c,h=>by
  obtain ⟨h1,h2⟩:=List.pairwise_cons.mp hs
  unfold dX
  by_cases ha:(a:Int)≤k
  ·rw [List.filter_cons_of_pos (by simpa using ha),List.length_cons]
   cases i with
   | zero=>simp at h; subst h; exact ⟨fun _=>by omega,fun _=>ha⟩
   | succ i =>
    have:=tX (k:=k) h2 (i:=i) (c:=c) (by simpa using h)
    unfold dX at this
    rw [this]; omega
  ·rw [List.filter_cons_of_neg (by simpa using ha)]
   have e:l.filter (fun (i:Nat)=>decide ((i:Int)≤k))=[]:=List.filter_eq_nil_iff.mpr fun x hx=>by have:=h1 x hx; simp; omega
   rw [e]
   cases i with
   | zero=>simp at h; subst h; exact ⟨fun z=>absurd z ha,fun z=>by simp at z⟩
   | succ i =>
    have:=h1 c (List.mem_of_getElem? (i:=i) (by simpa using h))
    exact ⟨fun z=>by omega,fun z=>by simp at z⟩
theorem aDZ (C:List Nat) (k:Int):dX C k≤C.length:=List.length_filter_le _ _
theorem aJZ {n:Nat}{zs:List Str} (g:Good n zs) (k j:Int):bH (cV zs) (bd (chg (aJ zs)) k) (bd (chg zs) j)=bH zs k j:=by
 have h:∀ z∈zs,z.length=n:=fun z hz=>(g z hz).1
 have kl:(cV zs).length=(chg zs).length - 1:=by unfold cV; rw [List.length_map,List.length_dropLast]
 have kw:∀ z∈cV zs,z.length=(chg (aJ zs)).length - 1:=fun z hz=>by
  unfold cV at hz
  obtain ⟨i,_,rfl⟩:=List.mem_map.mp hz
  rw [nM,List.length_map,List.length_dropLast]
 have c1:=aDZ (chg zs) j
 have c2:=aDZ (chg (aJ zs)) k
 have key1:=fun {i c}=>tX (k:=j) (cL zs) (i:=i) (c:=c)
 have key2:=fun {i c}=>tX (k:=k) (cL (aJ zs)) (i:=i) (c:=c)
 unfold bd
 -- the row is none: both are out
 by_cases hr:0 < dX (chg zs) j∧dX (chg zs) j < (chg zs).length
 rotate_left
 ·have lhs:bH (cV zs) ((dX (chg (aJ zs)) k:Int) - 1) ((dX (chg zs) j:Int) - 1)=false:=by
   by_cases h0:dX (chg zs) j=0
   ·exact dW (by omega)
   ·exact fJ (by omega)
  rw [lhs]
  symm
  by_cases hj0:j < 0
  ·exact dW hj0
  by_cases hj1:(zs.length:Int)≤j
  ·exact fJ hj1
  obtain ⟨m,rfl⟩:∃ m:Nat,j=(m:Int):=⟨j.toNat,by omega⟩
  have hd:=xJ h (j:=m) (by omega) fun r c d h1 h2 h3=>by
   have a1:=key1 h1
   have a2:=key1 h2
   have hl2:=(List.getElem?_eq_some_iff.mp h2).1
   omega
  by_cases hk0:k < 0
  ·exact dC hk0
  obtain ⟨q,rfl⟩:∃ q:Nat,k=(q:Int):=⟨k.toNat,by omega⟩
  by_cases hk1:n≤q
  ·exact j4 (z:=dots n) (by rw [Int.toNat_natCast]; exact hd) (by rw [rJ]; omega)
  ·rw [fI (z:=dots n) (c:=46) (by omega) (by omega) (by rw [Int.toNat_natCast]; exact hd) (by rw [Int.toNat_natCast,dQ (by rw [rJ]; omega),k9,if_pos (by omega)])]
   rfl
 obtain ⟨r,hr0⟩:∃ r,dX (chg zs) j=r+1:=⟨dX (chg zs) j - 1,by omega⟩
 have er:(((dX (chg zs) j:Nat):Int) - 1)=(r:Int):=by omega
 have g1:(chg zs)[r]?=some (chg zs)[r]:=List.getElem?_eq_getElem (by omega)
 have g2:(chg zs)[r+1]?=some (chg zs)[r+1]:=List.getElem?_eq_getElem (by omega)
 have b1:=(key1 g1).mpr (by omega)
 have b2:=key1 g2
 have hd2:=eB _ _ (List.mem_of_getElem? g2)
 obtain ⟨m,rfl⟩:∃ m:Nat,j=(m:Int):=⟨j.toNat,by omega⟩
 have hm:m < zs.length:=by omega
 have eb:=aAN hm g1 g2 (by omega) (by omega)
 obtain ⟨z,hz⟩:∃ z,zs[m]?=some z:=⟨zs[m],List.getElem?_eq_getElem hm⟩
 rw [hz] at eb
 have hzm:=List.mem_of_getElem? hz
 have hkr:r < (cV zs).length:=by omega
 have hky:(cV zs)[r]?=some (cV zs)[r]:=List.getElem?_eq_getElem hkr
 have hyl:=kw _ (List.getElem_mem hkr)
 rw [er]
 by_cases hc:0 < dX (chg (aJ zs)) k∧dX (chg (aJ zs)) k < (chg (aJ zs)).length
 rotate_left
 ·have lhs:bH (cV zs) ((dX (chg (aJ zs)) k:Int) - 1) (r:Int)=false:=by
   by_cases h0:dX (chg (aJ zs)) k=0
   ·exact dC (by omega)
   ·exact j4 (z:=(cV zs)[r]) (by rw [Int.toNat_natCast]; exact hky) (by omega)
  rw [lhs]
  symm
  by_cases hk0:k < 0
  ·exact dC hk0
  obtain ⟨q,rfl⟩:∃ q:Nat,k=(q:Int):=⟨k.toNat,by omega⟩
  by_cases hk1:n≤q
  ·exact j4 (z:=z) (by rw [Int.toNat_natCast]; exact hz) (by rw [h z hzm]; omega)
  ·have:=aK1 h (k:=q) (by omega) (fun r c d h1 h2 h3=>by
    have a1:=key2 h1
    have a2:=key2 h2
    have hl2:=(List.getElem?_eq_some_iff.mp h2).1
    omega) z hzm
   rw [fI (z:=z) (c:=46) (by omega) (by omega) (by rw [Int.toNat_natCast]; exact hz) (by rw [Int.toNat_natCast,dQ (by rw [h z hzm]; omega),this])]
   rfl
 obtain ⟨c,hc0⟩:∃ c,dX (chg (aJ zs)) k=c+1:=⟨dX (chg (aJ zs)) k - 1,by omega⟩
 have ec:(((dX (chg (aJ zs)) k:Nat):Int) - 1)=(c:Int):=by omega
 have f1:(chg (aJ zs))[c]?=some (chg (aJ zs))[c]:=List.getElem?_eq_getElem (by omega)
 have f2:(chg (aJ zs))[c+1]?=some (chg (aJ zs))[c+1]:=List.getElem?_eq_getElem (by omega)
 have d1:=(key2 f1).mpr (by omega)
 have d2:=key2 f2
 have hne:zs≠[]:=fun e=>by rw [e] at hm; simp at hm
 have hcl:=cC h hne
 have hd3:=eB _ _ (List.mem_of_getElem? f2)
 obtain ⟨q,rfl⟩:∃ q:Nat,k=(q:Int):=⟨k.toNat,by omega⟩
 have hq:q < n:=by omega
 obtain ⟨y,hy,ey⟩:=aKO g1 (by omega) f1 (by omega) eb.symm
 have ecol:=aL1 h (k:=q) hq f1 f2 (by omega) (by omega) z hzm
 have hyl2:=kw y (List.mem_of_getElem? hy)
 rw [ec,fI (z:=y) (c:=atS y c) (by omega) (by omega) (by rw [Int.toNat_natCast]; exact hy) (by rw [Int.toNat_natCast]; exact dQ (by omega)),
  fI (z:=z) (c:=atS z q) (by omega) (by omega) (by rw [Int.toNat_natCast]; exact hz) (by rw [Int.toNat_natCast]; exact dQ (by rw [h z hzm]; exact hq)),ey,ecol]
def cM (z:Str):Str:=ofL z.cps.toList.reverse
theorem kI (z:Str):(cM z).cps.toList=z.cps.toList.reverse:=rfl
theorem lF (z:Str):(cM z).length=z.length:=by
 show (z.cps.toList.reverse.toArray).size=z.cps.size
 simp
theorem aG1 {a b:Str} (h:cM a=cM b):a=b:=by
 apply gZ
 have:(cM a).cps.toList=(cM b).cps.toList:=by rw [h]
 rw [kI,kI] at this
 exact List.reverse_inj.mp this
theorem aKS {z:Str}{j:Nat} (h:j < z.length):atS (cM z) j=atS z (z.length - 1 - j):=by
 have h':j < z.cps.toList.length:=by rw [Array.length_toList]; exact h
 have e:=dQ (z:=cM z) (j:=j) (by rw [lF]; exact h)
 have e2:=dQ (z:=z) (j:=z.length - 1 - j) (by omega)
 rw [kI,List.getElem?_reverse h',Array.length_toList] at e
 have:z.cps.size=z.length:=rfl
 rw [this,e2] at e
 exact (Option.some.inj e).symm
theorem aG6 (n:Nat):cM (dots n)=dots n:=by
 apply gZ
 rw [kI]
 show (List.replicate n 46).reverse=List.replicate n 46
 exact List.reverse_replicate
theorem wV {n:Nat}{K:List Str} (g:Good n K):Good n (K.map cM):=fun z hz=>by
 obtain ⟨y,hy,rfl⟩:=List.mem_map.mp hz
 obtain ⟨h1,h2⟩:=g y hy
 refine ⟨(lF y).trans h1,?_⟩
 rw [kI,List.all_reverse]; exact h2
theorem mJ {n:Nat}{K:List Str} (h:∀ z∈K,z.length=n) (hK:K≠[]):framed K=[dots n]++K++[dots n]:=by unfold framed; rw [cZ h hK]
theorem n8 {K:List Str} (hK:K≠[]):chg K=List.range (K.length+1)↔∀ i,i≤K.length→(framed K)[i]?≠(framed K)[i+1]?:=by
 constructor
 ·intro e i hi
  exact ((eY hK).mp (by rw [e]; exact List.mem_range.mpr (by omega))).2
 ·intro h
  unfold chg
  rw [if_neg (by rw [List.isEmpty_iff]; exact hK)]
  refine List.filter_eq_self.mpr fun i hi => ?_
  rw [decide_eq_false (h i (by have:=List.mem_range.mp hi; omega))]; rfl
theorem sE {n:Nat}{K:List Str} (h:∀ z∈K,z.length=n) (hK:K≠[]) (e:chg K=List.range (K.length+1)):chg (K.map cM)=List.range ((K.map cM).length+1):=by
 have hK':K.map cM≠[]:=by simpa using hK
 have h':∀ z∈K.map cM,z.length=n:=fun z hz=>by obtain ⟨y,hy,rfl⟩:=List.mem_map.mp hz; rw [lF]; exact h y hy
 rw [n8 hK']
 rw [n8 hK] at e
 have ef:framed (K.map cM)=(framed K).map cM:=by
  rw [mJ h' hK',mJ h hK,List.map_append,List.map_append,List.map_singleton,aG6]
 intro i hi
 rw [List.length_map] at hi
 rw [ef,List.getElem?_map,List.getElem?_map]
 intro q
 have hl:=g6 K
 have a1:(framed K)[i]?=some (framed K)[i]:=List.getElem?_eq_getElem (by omega)
 have a2:(framed K)[i+1]?=some (framed K)[i+1]:=List.getElem?_eq_getElem (by omega)
 refine e i hi ?_
 rw [a1,a2] at q ⊢
 rw [Option.map_some,Option.map_some] at q
 exact congrArg some (aG1 (Option.some.inj q))
theorem rA {n:Nat}{K:List Str} (h:∀ z∈K,z.length=n) (hK:K≠[]) (e:chg K=List.range (K.length+1)):chg K.reverse=List.range (K.reverse.length+1):=by
 have hK':K.reverse≠[]:=by simpa using hK
 have h':∀ z∈K.reverse,z.length=n:=fun z hz=>h z (List.mem_reverse.mp hz)
 rw [n8 hK']
 rw [n8 hK] at e
 have ef:framed K.reverse=(framed K).reverse:=by
  rw [mJ h' hK',mJ h hK,List.reverse_append,List.reverse_append]; simp
 intro i hi
 rw [List.length_reverse] at hi
 have hl:=g6 K
 rw [ef,List.getElem?_reverse (by omega),List.getElem?_reverse (by omega),hl]
 intro q
 have:=e (K.length - i) (by omega)
 rw [show K.length+2 - 1 - i=K.length - i+1 by omega,show K.length+2 - 1 - (i+1)=K.length - i by omega] at q
 exact this q.symm
theorem qS {n:Nat}{K:List Str} (h:∀ z∈K,z.length=n) (hK:K≠[]):aJ (K.map cM)=(aJ K).reverse:=by
 have hK':K.map cM≠[]:=by simpa using hK
 have h':∀ z∈K.map cM,z.length=n:=fun z hz=>by obtain ⟨y,hy,rfl⟩:=List.mem_map.mp hz; rw [lF]; exact h y hy
 have l1:=cC h hK
 have l2:=cC h' hK'
 apply List.ext_getElem?
 intro j
 by_cases hj:j < n
 ·rw [gF h' hK' hj,List.getElem?_reverse (by omega),l1,gF h hK (by omega),List.map_map]
  congr 2
  refine List.map_congr_left fun z hz => ?_
  show atS (cM z) j=_
  rw [aKS (by rw [h z hz]; exact hj),h z hz]
 ·rw [List.getElem?_eq_none (by omega),List.getElem?_eq_none (by rw [List.length_reverse]; omega)]
theorem aES {n:Nat}{K:List Str} (h:∀ z∈K,z.length=n) (hK:K≠[]) (hn:0 < n):aJ ((aJ K).map cM)=K.reverse:=by
 have hc:(aJ K).length=n:=cC h hK
 have hcn:aJ K≠[]:=fun e=>by rw [e] at hc; simp at hc; omega
 rw [qS (n:=K.length) (fun z hz=>dB z hz) hcn,lU h hK hn]
theorem xZ {K:List Str}{a u:Int}:bH K a u=true↔0≤u∧0≤a∧∃ z,K[u.toNat]?=some z∧z.cps.toList[a.toNat]?=some 35:=by
 unfold bH
 rw [Bool.and_eq_true,Bool.and_eq_true,decide_eq_true_eq,decide_eq_true_eq,beq_iff_eq]
 constructor
 ·rintro ⟨⟨h1,h2⟩,h3⟩
  obtain ⟨z,hz,e⟩:=Option.bind_eq_some_iff.mp h3
  exact ⟨h1,h2,z,hz,e⟩
 ·rintro ⟨h1,h2,z,hz,e⟩
  exact ⟨⟨h1,h2⟩,Option.bind_eq_some_iff.mpr ⟨z,hz,e⟩⟩
def kH:List Int→List Int→List Int
 | [],ys=>ys
 | x::xs,[]=>x::xs
 | x::xs,y::ys=>if y < x then y::kH (x::xs) ys else if x=y then x::kH xs ys else x::kH xs (y::ys)
termination_by xs ys=>xs.length+ys.length
theorem sG {xs ys:List Int}{f s:Nat} (hf:f < xs.length) (hs:s < ys.length) :
  kH (xs.drop f) (ys.drop s)=(if ys.getD s 0 < xs.getD f 0 then ys.getD s 0 else xs.getD f 0)::kH (xs.drop (f+if xs.getD f 0=(if ys.getD s 0 < xs.getD f 0 then ys.getD s 0 else xs.getD f 0) then 1 else 0)) (ys.drop (s+if ys.getD s 0=(if ys.getD s 0 < xs.getD f 0 then ys.getD s 0 else xs.getD f 0) then 1 else 0)):=by
 have ex:xs.drop f=xs.getD f 0::xs.drop (f+1):=by rw [List.drop_eq_getElem_cons hf,List.getD_eq_getElem?_getD,List.getElem?_eq_getElem hf]; rfl
 have ey:ys.drop s=ys.getD s 0::ys.drop (s+1):=by rw [List.drop_eq_getElem_cons hs,List.getD_eq_getElem?_getD,List.getElem?_eq_getElem hs]; rfl
 generalize xs.getD f 0=x at *
 generalize ys.getD s 0=y at *
 conv=>lhs; rw [ex,ey,kH]
 by_cases h:y < x
 ·rw [if_pos h,if_pos h,if_neg (by omega),if_pos rfl]
  show _=y::kH (xs.drop f) (ys.drop (s+1))
  rw [ex]
 ·rw [if_neg h,if_neg h,if_pos rfl]
  by_cases h2:x=y
  ·rw [if_pos h2,if_pos h2.symm]
  ·rw [if_neg h2,if_neg (fun e=>h2 e.symm)]
   show _=x::kH (xs.drop (f+1)) (ys.drop s)
   rw [ey]
end R
namespace U
open PySem
abbrev Up (ws:List Rat):Prop:=ws.Pairwise (· < ·)
def ix (ws:List Rat) (x:Rat):Int:=((ws.filter fun w=>decide (w≤x)).length:Int) - 1
theorem vX (ws:List Rat) (x:Rat) : -1≤ix ws x:=by unfold ix; omega
theorem vZ (ws:List Rat) (x:Rat):ix ws x < ws.length:=by
 unfold ix
 have:=List.length_filter_le (fun w=>decide (w≤x)) ws
 omega
theorem iG {x:Rat}:∀ {ws:List Rat},Up ws→∀ {i:Nat} (h:i < ws.length),ws[i]≤x↔(i:Int)≤ix ws x
 | [],_,i,h=>absurd h (Nat.not_lt_zero _)
 | w::r,u,i,h=>by
  obtain ⟨u1,u2⟩:=List.pairwise_cons.mp u
  unfold ix
  by_cases hw:w≤x
  ·rw [List.filter_cons_of_pos (by simpa using hw),List.length_cons]
   cases i with
   | zero=>exact ⟨fun _=>by omega,fun _=>hw⟩
   | succ i =>
    have:=iG (x:=x) u2 (i:=i) (by simpa using h)
    unfold ix at this
    simp only [List.getElem_cons_succ]
    rw [this]
    omega
  ·rw [List.filter_cons_of_neg (by simpa using hw)]
   have e:r.filter (fun w=>decide (w≤x))=[]:=List.filter_eq_nil_iff.mpr fun a ha=>by
    have:=u1 a ha
    simp only [decide_eq_true_eq]
    grind
   rw [e]
   have h1:¬ (w::r)[i]≤x:=by
    cases i with
    | zero=>simpa using hw
    | succ i =>
     have:=u1 _ (List.getElem_mem (by simpa using h:i < r.length))
     simp only [List.getElem_cons_succ]
     grind
   exact ⟨fun z=>absurd z h1,fun z=>by simp at z; omega⟩
theorem sF {ws:List Rat}{x:Rat}{k:Int} (u:Up ws) (h0 : -1≤k) (h1:k < ws.length) (h:∀ (i:Nat) (hi:i < ws.length),ws[i]≤x↔(i:Int)≤k):ix ws x=k:=by
 have a:=vX ws x
 have b:=vZ ws x
 apply Int.le_antisymm
 ·by_cases hk:0≤ix ws x
  ·have q:=(h (ix ws x).toNat (by omega)).mp ((iG u (by omega)).mpr (by omega))
   omega
  ·omega
 ·by_cases hk:0≤k
  ·have q:=(iG (x:=x) u (i:=k.toNat) (by omega)).mp ((h k.toNat (by omega)).mpr (by omega))
   omega
  ·omega
theorem l8 {ws:List Rat} (u:Up ws) {i j:Nat} (hi:i < ws.length) (hj:j < ws.length):ws[i] < ws[j]↔i < j:=by
 have p:=List.pairwise_iff_getElem.mp u
 constructor
 ·intro h
  rcases Nat.lt_trichotomy i j with q | q | q
  ·exact q
  ·subst q; grind
  ·have:=p j i hj hi q; grind
 ·exact p i j hi hj
theorem nV {ws:List Rat} (u:Up ws) {i j:Nat} (hi:i < ws.length) (hj:j < ws.length):ws[i]≤ws[j]↔i≤j:=by
 have:=l8 u hj hi
 constructor
 ·intro h; refine Nat.le_of_not_lt fun q => ?_
  have:=this.mpr q; grind
 ·intro h
  have:¬ ws[j] < ws[i]:=fun q=>by have:=this.mp q; omega
  grind
theorem gG {ws:List Rat} (u:Up ws) {i:Nat} (hi:i < ws.length):ix ws ws[i]=i :=
 sF u (by omega) (by omega) fun j hj=>by rw [nV u hj hi]; omega
theorem aDU {ws vs:List Rat} (u:Up ws) (v:Up vs) (h:∀ x,x∈ws↔x∈vs):ws=vs:=by
 induction ws generalizing vs with
 | nil =>
  cases vs with
  | nil=>rfl
  | cons a r=>exact absurd ((h a).mpr (.head _)) (by simp)
 | cons w ws ih =>
  cases vs with
  | nil=>exact absurd ((h w).mp (.head _)) (by simp)
  | cons a r =>
   obtain ⟨u1,u2⟩:=List.pairwise_cons.mp u
   obtain ⟨v1,v2⟩:=List.pairwise_cons.mp v
   have e:w=a:=by
    rcases List.mem_cons.mp ((h w).mp (.head _)) with q | q
    ·exact q
    ·rcases List.mem_cons.mp ((h a).mpr (.head _)) with z | z
     ·exact z.symm
     ·have:=v1 w q; have:=u1 a z; grind
   subst e
   rw [ih u2 v2 fun x => ?_]
   constructor
   ·intro hx
    rcases List.mem_cons.mp ((h x).mp (.tail _ hx)) with q | q
    ·subst q; have:=u1 x hx; grind
    ·exact q
   ·intro hx
    rcases List.mem_cons.mp ((h x).mpr (.tail _ hx)) with q | q
    ·subst q; have:=v1 x hx; grind
    ·exact q
theorem aAH {ws xs:List Rat} (u:Up ws) (v:Up xs) (hs:∀ w∈ws,w∈xs) {x:Rat}{i:Nat} (hi:i < xs.length) (e:ix xs x=i):ix ws x=ix ws xs[i]:=by
 unfold ix
 refine congrArg (fun l:List Rat=>(l.length:Int) - 1) (List.filter_congr fun w hw => ?_)
 obtain ⟨j,hj,rfl⟩:=List.getElem_of_mem (hs w hw)
 have h1:=iG (x:=x) v hj
 have h2:=nV v hj hi
 rw [decide_eq_decide,h1,h2,e]
 omega
theorem aEI {ws xs:List Rat} (v:Up xs) (hs:∀ w∈ws,w∈xs) {x:Rat} (e:ix xs x = -1):ix ws x = -1:=by
 unfold ix
 rw [List.filter_eq_nil_iff.mpr fun w hw => ?_]
 ·rfl
 ·obtain ⟨j,hj,rfl⟩:=List.getElem_of_mem (hs w hw)
  have h1:=iG (x:=x) v hj
  rw [decide_eq_true_eq,h1,e]
  omega
theorem zX {ws xs:List Rat} (v:Up xs) (hs:∀ w∈ws,w∈xs) {x:Rat} (e:ix xs x=(xs.length:Int) - 1):ix ws x=(ws.length:Int) - 1:=by
 unfold ix
 rw [List.filter_eq_self.mpr fun w hw => ?_]
 obtain ⟨j,hj,rfl⟩:=List.getElem_of_mem (hs w hw)
 have h1:=iG (x:=x) v hj
 rw [decide_eq_true_eq,h1,e]
 omega
def iN (xs:List Rat) (js:List Nat):List Rat:=js.map fun j=>xs.getD j 0
theorem xW {xs:List Rat} (u:Up xs) {js:List Nat} (hs:js.Pairwise (· < ·)) (h:∀ j∈js,j < xs.length):Up (iN xs js):=by
 unfold iN Up
 rw [List.pairwise_map]
 refine List.Pairwise.imp_of_mem ?_ hs
 intro a b ha hb hab
 have h1:=h a ha
 have h2:=h b hb
 rw [List.getD_eq_getElem?_getD,List.getD_eq_getElem?_getD,List.getElem?_eq_getElem h1,List.getElem?_eq_getElem h2]
 exact (l8 u h1 h2).mpr hab
theorem uT {xs:List Rat}{js:List Nat} (h:∀ j∈js,j < xs.length):∀ x∈iN xs js,x∈xs:=fun x hx=>by
 obtain ⟨j,hj,rfl⟩:=List.mem_map.mp hx
 rw [List.getD_eq_getElem?_getD,List.getElem?_eq_getElem (h j hj)]
 exact List.getElem_mem _
theorem zS {xs:List Rat} (u:Up xs) {js:List Nat} (h:∀ j∈js,j < xs.length) (x:Rat):ix (iN xs js) x=R.bd js (ix xs x):=by
 unfold ix iN R.bd R.dX
 rw [List.filter_map,List.length_map]
 congr 2
 congr 1
 refine List.filter_congr fun j hj => ?_
 have h1:=h j hj
 have:=iG (x:=x) u h1
 show decide (xs.getD j 0≤x)=_
 rw [List.getD_eq_getElem?_getD,List.getElem?_eq_getElem h1,decide_eq_decide]
 exact this
end U
namespace Z
open PySem L2
theorem aLX {K:Fg}{M:Mem}{k:D→Mem→Prop}{i:Int}{d1:D}{t:Bool}{ds:List D} (q1:Seq M d1 t ds) (h:∃ d,atI ds i=some d∧k d M):Op2 K (rIx K) d1 (.int i) M k:=by
 obtain ⟨d,e,hk⟩:=h
 exact aI q1 e hk
end Z
namespace Q
open PySem L2 Z
theorem pick5b {a b c d e:Bool}{z:Int}{P:D→Prop} (h0:0≤z) (h1:z < 5) (h:∀ t,P (.bl t)):∃ x,atI ([D.bl a, .bl b, .bl c, .bl d]++[.bl e]) z=some x∧P x:=by
 have:z=0∨z=1∨z=2∨z=3∨z=4:=by omega
 rcases this with rfl | rfl | rfl | rfl | rfl
 ·exact ⟨_,rfl,h _⟩
 ·exact ⟨_,rfl,h _⟩
 ·exact ⟨_,rfl,h _⟩
 ·exact ⟨_,rfl,h _⟩
 ·exact ⟨_,rfl,h _⟩
theorem aLZ {z:Int} (h0:0≤z) (h1:z < 5):∃ q:Int,atI [D.int 14, .int 14, .int 14, .int 4, .int 14] z=some (.int q)∧0 < q∧q≤14:=by
 have:z=0∨z=1∨z=2∨z=3∨z=4:=by omega
 rcases this with rfl | rfl | rfl | rfl | rfl
 ·exact ⟨_,rfl,by decide,by decide⟩
 ·exact ⟨_,rfl,by decide,by decide⟩
 ·exact ⟨_,rfl,by decide,by decide⟩
 ·exact ⟨_,rfl,by decide,by decide⟩
 ·exact ⟨_,rfl,by decide,by decide⟩
theorem rK {n:Nat} (h:n≤1000):("." : Str).length * ((n:Int)).toNat≤sizeLine:=by
 have e:("." : Str).length=1:=by decide +kernel
 rw [e,Int.toNat_natCast,Nat.one_mul]
 exact R.aU (by omega)
theorem iA {zs:List Str}{i:Nat} (h:i < zs.length+2):∃ u,(R.framed zs)[i]?=some u:=⟨(R.framed zs)[i]'(by rw [R.g6]; exact h),by simp [R.g6,h]⟩
theorem m6 {zs:List Str}{i:Nat}{z:Str} (h:zs[i]?=some z):atI (zs.map D.str) (0+(i:Int))=some (.str z):=by
 rw [Int.zero_add]; exact cW (by rw [List.getElem?_map,h]; rfl)
theorem rS {zs:List Str}{i:Nat}{z:Str} (h:zs[i+1]?=some z):atI (zs.map D.str) (0+(i:Int)+1)=some (.str z):=by
 rw [Int.zero_add]; exact cW (j:=i+1) (by rw [List.getElem?_map,h]; rfl)
def dF (l:List Nat):List D:=l.map fun (i:Nat)=>D.int (i:Int)
theorem fV {l:List Nat}{i:Nat}{d:D} (h:(dF l)[i]?=some d):∃ j,l[i]?=some j∧d = .int (j:Int):=bW h
theorem c6 (l:List Nat):(dF l).length=l.length:=by simp [dF]
theorem xE {zs:List Str}:(List.range (zs.length+1)).filter (fun i => !decide ((R.framed zs)[i]?=(R.framed zs)[i+1]?))=R.chg zs:=by
 unfold R.chg
 cases zs with
 | nil=>rfl
 | cons z zr=>rfl
theorem eH {p:Nat→Bool}{n:Nat}:(List.range (n+1)).filter p=if p n=true then (List.range n).filter p++[n] else (List.range n).filter p:=by
 rw [List.range_succ,List.filter_append]
 by_cases h:p n=true
 ·rw [if_pos h,List.filter_cons_of_pos h]; rfl
 ·rw [if_neg h,List.filter_cons_of_neg h,List.filter_nil,List.append_nil]
theorem fE {α:Type} (l:List α):cutD l none (some (-1))=l.dropLast:=by
 unfold cutD
 have e1:HT.sIx l.length 0 none=0:=rfl
 have e2:HT.sIx l.length l.length (some (-1))=l.length - 1:=by
  show (if (-1:Int) < 0 then ((-1:Int)+(l.length:Int)).toNat else min (-1:Int).toNat l.length)=l.length - 1
  rw [if_pos (by decide)]; omega
 rw [e1,e2,List.drop_zero,Nat.sub_zero,List.dropLast_eq_take]
theorem gE (l:List Nat):(dF l).dropLast=dF l.dropLast:=by simp [dF,List.map_dropLast]
theorem bY {α β:Type}{f:α→β}{l:List α}{i:Nat}{x:α} (h:l[i]?=some x):(l.take (i+1)).map f=(l.take i).map f++[f x]:=by
 rw [take_snoc h,List.map_append]; rfl
theorem wL {xs:List D}{j:Nat} (h:j < xs.length):atI xs (j:Int)=some (xs.getD j .non):=cW (by simp [h])
theorem nI (l:List Str) (h:∀ z∈l,z.length=1):(l.map (·.length)).sum=l.length:=by
 induction l with
 | nil=>rfl
 | cons a l ih =>
  rw [List.map_cons,List.sum_cons,ih fun z hz=>h z (by simp [hz]),h a (by simp),List.length_cons,Nat.add_comm]
theorem rL (zs:List Str) (j:Nat):PySem.Txt.join Str.empty (zs.map fun z=>(⟨#[R.atS z j]⟩:Str))=R.ofL (zs.map (R.atS · j)):=by
 have:=R.jZ (zs.map (R.atS · j))
 rw [List.map_map] at this
 exact this
theorem aKL {zs:List Str}{j:Nat} (h:j < zs.length):atI ((R.framed zs).map D.str) ((j:Int)+1)=some (.str (zs.getD j Str.empty)):=by
 refine cW (j:=j+1) ?_
 rw [List.getElem?_map,R.cX h,List.getElem?_eq_getElem h,List.getD_eq_getElem?_getD,List.getElem?_eq_getElem h]
 rfl
theorem u4:∀ (zs:List Str) (n:Nat),okDs n (zs.map D.str)=true
 | [],_=>rfl
 | z::zs,n=>by rw [List.map_cons]; simp only [okDs,okD,Bool.true_and]; exact u4 zs n
theorem aAB (zs:List Str):okD 2 (.lst (zs.map D.str))=true:=by simp only [okD]; exact u4 zs 1
theorem eq_nil {ds:List D}:eqD (.lst ds) (.lst [])=decide (ds=[]):=by
 simp only [eqD]
 cases ds with
 | nil=>simp [eqDs]
 | cons d ds=>simp [eqDs]
theorem map_nil {α β:Type}{f:α→β}{l:List α} (h:decide (l.map f=[])=true):l=[]:=by
 have:=of_decide_eq_true h
 cases l with
 | nil=>rfl
 | cons a l=>cases this
end Q
namespace R
open PySem L2
theorem units_le {A:Around}{k n:Nat} (hr:Room k A) (h:n≤64:=by decide):A.units+n < cLine:=by have:=hr.units; omega
end R
namespace Q
open PySem L2 Z
theorem FdM.del {M:Mem}{p a:Addr}{b:Int} (h:FdM M p b) (n:a≠p):FdM (iQ M a) p b:=by
 obtain ⟨g,m,st,e,r⟩:=h
 exact ⟨g,m,st,by rw [jR (Ne.symm n)]; exact e,r⟩
theorem cY.del {p a:Addr}{M M':Mem} (h:cY p M M') (n:M a=none):cY p M (iQ M' a):=fun b u nb e=>by
 rw [jR (fun z=>by rw [z,n] at e; cases e)]; exact h b u nb e
theorem aC9 (M:Mem) (a:Addr):Le (iQ M a) M:=fun b o h=>by
 by_cases z:b=a
 ·rw [z,mO] at h; cases h
 ·rw [jR z] at h; exact h
theorem cY.none_of {p a:Addr}{M M':Mem} (h:cY p M M') (n:M' a=none) (np:a≠p):M a=none:=by
 cases e:M a with
 | none=>rfl
 | some o=>rw [h a o np e] at n; cases n
theorem yN (c:Bool):atI ((".#" : Str).cps.toList) (if c=true then (1:Int) else 0)=some (if c=true then 35 else 46):=by
 cases c <;> decide +kernel
theorem vC {n:Nat}{zs:List Str} (h:R.Good n zs) {cs:List Nat} (hl:cs.length=n) (hs:∀ c∈cs,c=35∨c=46):R.Good n (zs++[R.ofL cs]):=fun z hz=>by
 rcases List.mem_append.mp hz with hz | hz
 ·exact h z hz
 ·rw [List.mem_singleton] at hz
  subst hz
  refine ⟨by rw [R.nM]; exact hl,?_⟩
  show cs.all R.sgn=true
  rw [List.all_eq_true]
  intro c hc
  rcases hs c hc with rfl | rfl <;> rfl
theorem pZ (l:List Nat):((l.map fun c=>(⟨#[c]⟩:Str)).map (·.length)).sum=l.length:=by
 rw [nI _ fun z hz=>by obtain ⟨c,_,rfl⟩:=List.mem_map.mp hz; rfl,List.length_map]
end Q
namespace Z
open PySem L2
section
variable {K:Fg}{M:Mem}{k:D→Mem→Prop}
end
end Z
namespace L2
open PySem PySem.Spec PyProof.Rows
section
variable {X:Cx}
end
end L2
namespace Z
open PySem L2
section
variable {K:Fg}{M:Mem}{k:D→Mem→Prop}
end
end Z
namespace Q
open PySem L2 Z
def cHas:Ct:=fun ds M k=>∃ (x y:D) (zs:List Str) (a u:Int),ds=[.tup [x,y, .tup (zs.map .str)], .int a, .int u]∧(∀ z∈zs,z.length≤1000)∧k (.bl (R.bH zs a u)) M
theorem aCR {c:Nat}:decide ((⟨#[c]⟩:Str)=("#" : Str))=decide (c=35):=by
 have e:("#" : Str)=⟨#[35]⟩:=by decide +kernel
 rw [e]
 by_cases h:c=35
 ·rw [h]; simp
 ·rw [decide_eq_false h]
  exact decide_eq_false fun z=>h (by injection z with z; simpa using z)
theorem cell_in {zs:List Str}{a u:Int} (h1:¬ decide (u < 0)=true) (h2:¬ decide (((zs.map D.str).length:Int)≤u)=true) (h3:¬ decide (a < 0)=true):0≤u∧0≤a∧∃ z,zs[u.toNat]?=some z∧atI (zs.map D.str) u=some (.str z):=by
 have h1':¬ u < 0:=fun z=>h1 (decide_eq_true z)
 have h2':¬ ((zs.length:Nat):Int)≤u:=fun z=>h2 (decide_eq_true (by rw [List.length_map]; exact z))
 have h3':¬ a < 0:=fun z=>h3 (decide_eq_true z)
 obtain ⟨j,rfl⟩:∃ j:Nat,u=(j:Int):=⟨u.toNat,by omega⟩
 have hj:j < zs.length:=by omega
 refine ⟨by omega,by omega,zs[j],by simp [hj],cW (by simp [hj])⟩
theorem aJ7 {z:Str}{a:Int} (ha:0≤a) (h:¬ ((z.length:Nat):Int)≤a):∃ c,z.cps.toList[a.toNat]?=some c∧atI z.cps.toList a=some c:=by
 obtain ⟨j,rfl⟩:∃ j:Nat,a=(j:Int):=⟨a.toNat,by omega⟩
 have hj:j < z.cps.toList.length:=by rw [Array.length_toList]; have:z.cps.size=z.length:=rfl; omega
 exact ⟨z.cps.toList[j],by simp,cW (List.getElem?_eq_getElem hj)⟩
end Q
namespace HT
open PySem PySem.Spec PyProof.Rows
section
variable {prog:Program}{w:World}{A:Around}{E:Value→Shared→Prop}{s:Shared}
theorem aB4 (n:Nat):Builtin.Slice.slicePlaces ((n:Int) - 1) (-1) (-1)=n:=by
 unfold Builtin.Slice.slicePlaces
 rw [if_neg (by decide)]
 by_cases h:(n:Int) - 1 > -1
 ·rw [if_pos h]
  have:((n:Int) - 1 - -1 - 1) / (- -1)=(n:Int) - 1:=by
   rw [show (- -1:Int)=1 from rfl,Int.ediv_one]; omega
  rw [this]; omega
 ·rw [if_neg h]; omega
theorem zD {sl:Addr}{n:Nat}{t:Tok}{Q:Int × Int × Nat→Shared→Prop} (hs:s.heap.IsSliceOf sl .none .none (.int (-1) t)) (hq:Q ((n:Int) - 1, -1,n) s):wpAny (model prog w) A (Builtin.Slice.sliceApplied (.ref sl) (pure (n:Int))) Q E s:=by
 obtain ⟨oS,eS,cS,dS⟩:=id hs
 unfold Builtin.Slice.sliceApplied Builtin.Slice.sliceFields
 refine wpAny_bind (wpAny_bind (wpAny_field eS dS (x := .none) rfl (wpAny_bind (wpAny_field eS dS (x := .none) rfl (wpAny_bind (wpAny_field eS dS (x := .int (-1) t) rfl (wpAny_pure ?_)))))))
 refine wpAny_bind (slicePart_int ?_)
 show wpAny _ _ (if ((-1:Int) == 0)=true then _ else _) _ _ s
 rw [if_neg (by decide)]
 refine wpAny_bind (slicePart_none (wpAny_bind (slicePart_none (wpAny_bind (wpAny_pure ?_)))))
 show wpAny _ _ (pure ((n:Int) - 1,(-1:Int),Builtin.Slice.slicePlaces ((n:Int) - 1) (-1) (-1))) _ _ s
 rw [aB4]
 exact wpAny_pure hq
theorem aFU (its:List Value):((List.range its.length).filterMap fun (m:Nat)=>its.toArray[(((its.length:Int) - 1)+(m:Int) * -1).toNat]?).toArray=its.reverse.toArray:=by
 congr 1
 have key:∀ (l:List Nat),(∀ m∈l,m < its.length)→l.filterMap (fun (m:Nat)=>its.toArray[(((its.length:Int) - 1)+(m:Int) * -1).toNat]?)=l.map fun m=>its.reverse.getD m .none:=by
  intro l
  induction l with
  | nil=>intro _; rfl
  | cons m l ih =>
   intro h
   have hm:=h m (by simp)
   have e1:(((its.length:Int) - 1)+(m:Int) * -1).toNat=its.length - 1 - m:=by omega
   rw [List.filterMap_cons,e1,List.map_cons,ih fun q hq=>h q (by simp [hq])]
   have e2:its.toArray[its.length - 1 - m]?=some (its.reverse.getD m .none):=by
    rw [List.getElem?_toArray,List.getD_eq_getElem?_getD,List.getElem?_reverse hm,List.getElem?_eq_getElem (by omega)]
    rfl
   rw [e2]
 rw [key _ fun m hm=>List.mem_range.mp hm]
 apply List.ext_getElem?
 intro i
 by_cases hi:i < its.length
 ·rw [List.getElem?_map,List.getElem?_range hi,Option.map_some,List.getD_eq_getElem?_getD,List.getElem?_eq_getElem (by rw [List.length_reverse]; exact hi)]
  rfl
 ·rw [List.getElem?_eq_none (by simp; omega),List.getElem?_eq_none (by rw [List.length_reverse]; omega)]
theorem aDR {tu sl:Addr}{its:List Value}{t:Tok}{Q:Value→Shared→Prop} (ht:IsTup s.heap tu its.toArray) (hs:s.heap.IsSliceOf sl .none .none (.int (-1) t)) (hsz:its.length≤sizeLine)
  (hq:Q (.ref s.heap.objs.size) { s with heap:=s.heap.push { cls := .type "tuple", data := .seq its.reverse.toArray } }):wpAny (model prog w) A (getItem (.ref tu) (.ref sl)) Q E s:=by
 have hok:sizeOk (.seq its.reverse.toArray):=by
  show its.reverse.toArray.size≤sizeLine
  rw [List.size_toArray,List.length_reverse]; exact hsz
 obtain ⟨oS,eS,cS,dS⟩:=id hs
 have hTs:s.TypeIs (.ref sl) "slice" := ⟨oS,eS,cS⟩
 unfold getItem
 try with_reducible refine wpAny_holding ?_
 first | refine wpAny_bind (wpAny_pure ?_) | skip
 refine wpAny_bind (wpAny_sequenceKey ht.typeIs (by decide) ?_)
 refine wpAny_bind (wpAny_callSpecial?_slot (name:=Str.ofString "__getitem__") ht.typeIs PyProof.Rows.slot_tuple_getitem (wpAny_call_entry PyProof.Rows.slot_tuple_getitem ht.typeIs entry_tuple_getitem ?_ (args_tuple_getitem _ _)))
 show wpAny _ _ (Builtin.Tuple.tupleItemsOf (.ref tu) >>= _) _ _ s
 refine wpAny_bind (tupleItemsOf_ ht ?_)
 refine wpAny_bind (wpAny_typeOf hTs ?_)
 rw [if_pos (by decide)]
 rw [List.size_toArray]
 refine wpAny_bind (zD (n:=its.length) hs ?_)
 show wpAny _ _ (if ((((its.length:Int) - 1) == 0 && (-1:Int) == 1 && its.length == its.toArray.size)=true) then _ else _) _ _ s
 rw [if_neg (by simp),aFU]
 first
  | exact wpAny_bind (m:=Builtin.Tuple.tupleExact _) (wpAny_newObj_type (wpAny_pure ⟨_,rfl,wpAny_pure hq⟩) hok)
  | exact wpAny_bind (m:=Builtin.Tuple.tupleExact _) (wpAny_newObj_type (wpAny_bind (wpAny_pure (wpAny_pure ⟨_,rfl,wpAny_pure hq⟩))) hok)
  | exact wpAny_bind (wpAny_bind (m:=Builtin.Tuple.tupleExact _) (wpAny_newObj_type (wpAny_pure (wpAny_pure ⟨_,rfl,wpAny_pure hq⟩)) hok))
  | exact wpAny_bind (wpAny_bind (m:=Builtin.Tuple.tupleExact _) (wpAny_newObj_type (wpAny_pure ⟨_,rfl,wpAny_pure hq⟩) hok))
end
end HT
namespace L2
open PySem PySem.Spec PyProof.Rows
section
variable {X:Cx}
def aND (K:PySem.W.Frag):V→Hp→VK→Prop:=fun x H Q=>∃ a xs,x = .ref a∧SqT K H a xs∧∀ p,H p=none→Q (.ref p) (upd H p (.tup xs.reverse))
theorem aIB {e:Expr}{te:TE}{j:Nat}{p1 p2 p3 pos:Pos} (he:PE X e te):PE X (.Subscript e (.Slice none none (some (.UnaryOp .USub (.Constant (.int 1) j p1) p3)) p2) pos) (fun σ H Q=>te σ H fun x H1=>aND X.K x H1 Q):=by
 intro pins s σ H Q I h
 refine Subscript_ (thn (he pins s σ H _ I h) fun v s1 ⟨x,H1,I1,r1,q1⟩ => ?_)
 obtain ⟨a,xs,rfl,hx,q⟩:=q1
 cases r1
 refine wpAny_Slice ?_
 rw [evalPart_none]
 refine wpAny_pure (wpAny_pure ?_)
 rw [evalPart_some]
 have hneg:PE X (.UnaryOp .USub (.Constant (.int 1) j p1) p3) (tUn (rU fun i => .int (-i)) (tC (.int 1))):=wG dH tT
 refine thn (hneg pins s1 σ H1 (fun x H'=>x = .int (-1)∧H'=H1) I1 ⟨1,rfl,rfl,rfl⟩) fun u s2 ⟨y,H2,I2,r2,e1,e2⟩ => ?_
 subst e1 e2
 obtain ⟨t,rfl⟩:=r2
 have I4:Inv X pins σ H2 { s2 with heap:=s2.heap.push { cls := .type "slice", data := .fields #[.none, .none, .int (-1) t] } }:=I2.kept (t':=s2.toks) fun b ob q=>Heap.get?_push_of_some _ q
 obtain ⟨its,r,ht,hz⟩:=I4.tuple hx
 have hlen:=r.length
 show wpAny (model X.prog X.w) X.A (subscriptTail e _ (.ref a) (.ref s2.heap.objs.size)) (EP X pins σ Q) X.xe { s2 with heap:=s2.heap.push { cls := .type "slice", data := .fields #[.none, .none, .int (-1) t] } }
 refine tail_any (ops:=[.ref a, .ref s2.heap.objs.size]) ht.typeIs PyProof.Rows.slot_tuple_getitem.lookup ?_ (by with_unfolding_all rfl)
 refine HT.aDR ht (Heap.IsSliceOf.new ..) (by omega) ?_
 refine ⟨.ref _,_,I4.laid (t':=s2.toks) (o := .tup xs.reverse) (fun b ob q=>Heap.get?_push_of_some _ q) (Nat.le_refl _) ?_,rfl,q _ (I4.hok.fresh (Nat.le_refl _))⟩
 exact ⟨by rw [List.length_reverse]; exact hz,its.reverse,r.reverse,_,Heap.get?_push_size _ rfl,rfl,_,rfl⟩
end
end L2
namespace Z
open PySem L2
section
variable {X:Cx}{Γ:Gm}{M:Mem}{k:D→Mem→Prop}{e:Expr}
theorem aKW {j:Nat}{p1 p2 p3 pos:Pos} (h:GE X e Γ M fun d M1=>∃ ds,d = .tup ds∧k (.tup ds.reverse) M1):GE X (.Subscript e (.Slice none none (some (.UnaryOp .USub (.Constant (.int 1) j p1) p3)) p2) pos) Γ M k:=fun σ G H Q en rl q=>by
 refine cU (aIB pU) ?_
 refine h σ G H _ en rl fun v G1 H1 d M1 s1 e1 ⟨ds,ed,h1⟩ => ?_
 subst ed
 obtain ⟨a,vs,ev,sq,dn⟩:=e1.tup_
 refine ⟨a,vs,ev,R.eE s1.rel.same sq,fun p hp => ?_⟩
 have st:=s1.rel.new (o := .tup vs.reverse) hp
 exact q _ _ _ _ _ (s1.trans st) (dN (SqT.of bQ) (dn.reverse.up st.gg)) h1
theorem aLB {K:Fg}{n:Nat}{c d e:D}{ds:List D} (r:Rs M d e) (he:e = .tup ds∨e = .lst ds) (hc:okD n c=true) (hd:okDs n ds=true) (h:k (.bl (ds.any fun x=>eqD x c)) M):Op2 K (aCJ K n false) c d M k:=fun G H v1 v2 Q rl e1 e2 q =>
 ⟨c,e,ds,he,hc,hd,e1.up rl.same,r.den rl e2,q _ _ _ _ _ (Stp.refl rl) d8 h⟩
theorem kG {n:Nat} (hu:X.A.units+(n+1) < cLine):OpR X (compareOp .NotIn) (aCJ X.K n true):=by
 intro pins s σ H x y v u Q I rx ry h
 obtain ⟨c,d,ds,hd,okc,okd,dx,dy,q⟩:=h
 have one:∀ {its:List Value}{vs:List V},Vals vs its→Dens X.K H ds vs→∀ y∈its.toArray,SeqAt.EqAt X.A.in1 s y v (eOf ds its c y):=fun {its vs} rv dn y hy=>by
  obtain ⟨j,hj⟩:=List.getElem?_of_mem (show y∈its by simpa using hy)
  have hlt:j < vs.length:=by rw [rv.length]; exact (List.getElem?_eq_some_iff.mp hj).1
  obtain ⟨u2,e2,r1⟩:=rv.get (List.getElem?_eq_getElem hlt)
  rw [hj] at e2; cases e2
  obtain ⟨e,e2,q2⟩:=dn.get' (List.getElem?_eq_getElem hlt)
  rw [pJ I okd dn rv hj e2]
  exact eqAt_D I e n c _ x y v X.A.in1 (cT okd e2) okc q2 dx r1 rx (by show X.A.units+1+n < cLine; omega)
 rcases hd with rfl | rfl
 ·obtain ⟨a,its,vs,rfl,it,rv,dn⟩:=dJ I dy ry
  refine SeqAt.notIn_tupleAt (eOf ds its c) it (one rv dn) ?_
  rw [pY I okd dn rv]
  exact ⟨.bl _,H,I,rfl,q⟩
 ·obtain ⟨a,its,vs,rfl,it,rv,dn⟩:=dL I dy ry
  refine SeqAt.notIn_listAt (eOf ds its c) it (one rv dn) ?_
  rw [pY I okd dn rv]
  exact ⟨.bl _,H,I,rfl,q⟩
theorem kB {K:Fg}{n:Nat}{c d e:D}{ds:List D} (r:Rs M d e) (he:e = .tup ds∨e = .lst ds) (hc:okD n c=true) (hd:okDs n ds=true) (h:k (.bl (!ds.any fun x=>eqD x c)) M):Op2 K (aCJ K n true) c d M k:=fun G H v1 v2 Q rl e1 e2 q =>
 ⟨c,e,ds,he,hc,hd,e1.up rl.same,r.den rl e2,q _ _ _ _ _ (Stp.refl rl) d8 h⟩
end
end Z
namespace Q
open PySem L2 Z
end Q
namespace Z
open PySem L2
theorem slen (a b:Str):(a++b).length=a.length+b.length:=by
 show (a.cps++b.cps).size=_
 rw [Array.size_append]; rfl
theorem qZ:∀ (ts:List Str) (k:Nat) (acc:Str),(textFrom k acc ts).length≤acc.length+(ts.map (·.length)).sum+2 * ts.length
 | [],k,acc=>by simp [textFrom]
 | t::ts,k,acc=>by
  have ih:=qZ ts (k+1) (acc++(if k > 0 then ", " else "" : String)++t)
  have e:(acc++((if k > 0 then ", " else "" : String):Str)++t).length≤acc.length+2+t.length:=by
   rw [slen,slen]
   split
   ·have:((", " : String):Str).length=2:=by decide +kernel
    omega
   ·have:(("" : String):Str).length=0:=by decide +kernel
    omega
  show (textFrom (k+1) (acc++(if k > 0 then ", " else "" : String)++t) ts).length≤_
  rw [List.map_cons,List.sum_cons,List.length_cons]
  omega
theorem zM (ts:List Str):(listText ts).length≤(ts.map (·.length)).sum+2 * ts.length+2:=by
 unfold listText
 rw [slen]
 have h:=qZ ts 0 "["
 have e1:("[" : Str).length=1:=by decide +kernel
 have e2:("]" : Str).length=1:=by decide +kernel
 omega
theorem join_le:∀ ts:List Str,(Str.join ", " ts).length≤(ts.map (·.length)).sum+2 * ts.length
 | []=>by show (Str.empty).length≤_; exact Nat.zero_le _
 | [x]=>by show x.length≤_; simp
 | x::y::r=>by
  have ih:=join_le (y::r)
  show (x ++ ", " ++ Str.join ", " (y::r)).length≤_
  rw [slen,slen]
  have e2:((", " : String):Str).length=2:=by decide +kernel
  rw [List.map_cons,List.sum_cons,List.length_cons]
  omega
theorem yB (ts:List Str):(tupleText ts).length≤(ts.map (·.length)).sum+2 * ts.length+3:=by
 unfold tupleText
 rw [slen,slen]
 have h:=join_le ts
 have e1:("(" : Str).length=1:=by decide +kernel
 have e2:(((if ts.length == 1 then ",)" else ")" : String)):Str).length≤2:=by split <;> decide +kernel
 omega
mutual
def smD:D→Bool
 | .non | .bl _ | .str _=>true
 | .int i=>decide (i.natAbs < 10 ^ 65)
 | .tup ds=>smDs ds
 | .lst ds=>smDs ds
 | .mt _ | .fl _ | .st _=>false
def smDs:List D→Bool
 | []=>true
 | d::ds=>smD d && smDs ds
end
mutual
def wt:D→Nat
 | .non=>4
 | .bl _=>5
 | .int _=>66
 | .str x=>(reprText x).length
 | .tup ds=>wts ds+3
 | .lst ds=>wts ds+2
 | .mt _ | .fl _ | .st _=>0
def wts:List D→Nat
 | []=>0
 | d::ds=>wt d+2+wts ds
end
mutual
theorem shown_le:∀ d:D,smD d=true→(toPy d).showable=true∧(toPy d).shown.length≤wt d
 | .non,_=>by simp only [toPy,PyData.showable,PyData.shown,wt]; exact ⟨trivial,by decide +kernel⟩
 | .bl b,_=>by simp only [toPy,PyData.showable,PyData.shown,wt]; exact ⟨trivial,by cases b <;> decide +kernel⟩
 | .str x,_=>by simp only [toPy,PyData.showable,PyData.shown,wt]; exact ⟨trivial,Nat.le_refl _⟩
 | .int i,h=>by
  simp only [smD,decide_eq_true_eq] at h
  simp only [toPy,PyData.showable,PyData.shown,wt,decide_eq_true_eq]
  refine ⟨?_,?_⟩
  ·have h2:i.natAbs < 2 ^ 1920:=Nat.lt_of_lt_of_le h (by decide)
   by_cases h0:i.natAbs=0
   ·rw [h0]; decide
   ·exact (Nat.log2_lt h0).mpr h2
  ·have:=int_text_length_le10 (a:=i) (k:=65) (by decide) h
   show (Str.ofString (toString i)).length≤66
   rw [ofString_length]; exact this
 | .mt _,h=>by simp [smD] at h
 | .fl _,h=>by simp [smD] at h
 | .st _,h=>by simp [smD] at h
 | .tup ds,h=>by
  simp only [smD] at h
  obtain ⟨h1,h2⟩:=showns_le ds h
  simp only [toPy,PyData.showable,PyData.shown,wt]
  exact ⟨h1,Nat.le_trans (yB _) (by omega)⟩
 | .lst ds,h=>by
  simp only [smD] at h
  obtain ⟨h1,h2⟩:=showns_le ds h
  simp only [toPy,PyData.showable,PyData.shown,wt]
  exact ⟨h1,Nat.le_trans (zM _) (by omega)⟩
theorem showns_le:∀ ds:List D,smDs ds=true→PyData.showableAll (toPys ds)=true∧((PyData.shownAll (toPys ds)).map (·.length)).sum+2 * (PyData.shownAll (toPys ds)).length≤wts ds
 | [],_=>by simp [toPys,PyData.showableAll,PyData.shownAll,wts]
 | d::ds,h=>by
  simp only [smDs,Bool.and_eq_true] at h
  obtain ⟨a1,a2⟩:=shown_le d h.1
  obtain ⟨b1,b2⟩:=showns_le ds h.2
  simp only [toPys,PyData.showableAll,PyData.shownAll,wts,List.map_cons,List.sum_cons,List.length_cons]
  exact ⟨by rw [a1,b1]; rfl,by omega⟩
end
theorem i8 {n:Nat}:∀ {ds:List D},(∀ d∈ds,okD n d=true)→okDs n ds=true
 | [],_=>by simp only [okDs]
 | d::ds,h=>by
  have ih:=i8 (ds:=ds) fun e he=>h e (List.mem_cons_of_mem _ he)
  simp only [okDs,h d (by simp),ih,Bool.and_true]
theorem yP {K:Fg}{n:Nat}{M:Mem}{k:D→Mem→Prop}{d e:D} (r:Rs M d e) (ok:okD n e=true) (hs:smD e=true) (hz:wt e≤10000000) (h:k (.str (toPy e).shown) M):OpN K (aBB K n) [d] M k :=
 aI5 r ok (shown_le e hs).1 (Nat.le_trans (shown_le e hs).2 (Nat.le_trans hz (by decide))) h
end Z
namespace Q
open PySem L2 Z
def pairD (p:Int × Int):D := .tup [.int p.1, .int p.2]
def aB1:Ct:=fun ds M k=>∃ ns:List Int,ds=[.fl (ns.map .int)]∧ns.length≤63∧∀ M',k (.bl true) M'
end Q
namespace L2
open PySem PySem.Spec PyProof.Rows
section
variable {X:Cx}
end
end L2
namespace Z
open PySem L2
section
variable {X:Cx}{Γ:Gm}{M:Mem}{k:D→Mem→Prop}{pos:Pos}{a b:Expr}{rest:List Expr}
end
section
variable {X:Cx}{pins:List (Addr × Obj)}{σ:St}{H:Hp}{s:Shared}
theorem aMW (I:Inv X pins σ H s) {n:Nat}{d e:D}{v u:V}{v' u':Value} (A:Around) (g1:Disp d) (g2:Disp e) (h1:okD n d=true) (h2:okD n e=true) (x:Den X.K H d v) (y:Den X.K H e u) (rx:RelV v v') (ry:RelV u u') (hu:A.units+n < cLine):SeqAt.RcNeAt A s v' u' (!eqD d e):=by
 cases g1 with
 | tup ds =>
  obtain ⟨a,its,vs,rfl,it,rv,dn⟩:=dJ I x rx
  cases g2 with
  | lst es=>obtain ⟨b,its2,vs2,rfl,it2,_⟩:=dL I y ry; simp only [eqD]; exact SeqAt.RcNeAt.tuple_list it it2 (by omega)
  | tup es =>
   obtain ⟨b,its2,vs2,rfl,it2,rv2,dn2⟩:=dJ I y ry
   cases n with
   | zero=>simp [okD] at h1
   | succ n =>
    have k1:okDs n ds=true:=by simpa only [okD] using h1
    have k2:okDs n es=true:=by simpa only [okD] using h2
    have:=SeqAt.RcNeAt.tuples (A:=A) (s:=s) (e:=eqJ ds es) it it2 (by omega) (fun j g1 g2=>by
     obtain ⟨c,v1,e1,q1,r1⟩:=eX dn rv g1
     obtain ⟨c2,v2,e2,q2,r2⟩:=eX dn2 rv2 g2
     have:=eqAt_D I c n c2 v1 v2 _ _ A.in1 (cT k1 e1) (cT k2 e2) q1 q2 r1 r2 (by show A.units+1+n < cLine; omega)
     unfold eqJ; rw [e1,e2]; exact this)
    rw [List.size_toArray,List.size_toArray,← rv.length,← rv2.length,← dn.len,← dn2.len,gH] at this
    simp only [eqD]; exact this
 | lst ds =>
  obtain ⟨a,its,vs,rfl,it,rv,dn⟩:=dL I x rx
  cases g2 with
  | tup es=>obtain ⟨b,its2,vs2,rfl,it2,_⟩:=dJ I y ry; simp only [eqD]; exact SeqAt.RcNeAt.list_tuple it it2 (by omega)
  | lst es =>
   obtain ⟨b,its2,vs2,rfl,it2,rv2,dn2⟩:=dL I y ry
   cases n with
   | zero=>simp [okD] at h1
   | succ n =>
    have k1:okDs n ds=true:=by simpa only [okD] using h1
    have k2:okDs n es=true:=by simpa only [okD] using h2
    simp only [eqD]
    by_cases hl:ds.length=es.length
    ·have hsz:its.toArray.size=its2.toArray.size:=by rw [List.size_toArray,List.size_toArray,← rv.length,← rv2.length,← dn.len,← dn2.len,hl]
     have:=SeqAt.RcNeAt.lists (A:=A) (s:=s) (e:=eqJ ds es) it it2 hsz (by omega) (fun j g1 g2=>by
      obtain ⟨c,v1,e1,q1,r1⟩:=eX dn rv g1
      obtain ⟨c2,v2,e2,q2,r2⟩:=eX dn2 rv2 g2
      have:=eqAt_D I c n c2 v1 v2 _ _ A.in1 (cT k1 e1) (cT k2 e2) q1 q2 r1 r2 (by show A.units+1+n < cLine; omega)
      unfold eqJ; rw [e1,e2]; exact this)
     have e3:=gH ds es
     rw [← hl,Nat.min_self,beq_self_eq_true,Bool.and_true] at e3
     rw [List.size_toArray,← rv.length,← dn.len,e3] at this
     exact this
    ·have hsz:(its.toArray.size != its2.toArray.size)=true:=by rw [bne_iff_ne,List.size_toArray,List.size_toArray,← rv.length,← rv2.length,← dn.len,← dn2.len]; exact hl
     have e3:=gH ds es
     rw [beq_eq_false_iff_ne.mpr hl,Bool.and_false] at e3
     rw [← e3]
     exact SeqAt.RcNeAt.lists_lengths it it2 hsz (by omega)
end
section
variable {X:Cx}
theorem sU {n:Nat} (hu:X.A.units+n < cLine):OpR X (compareOp .NotEq) (aCQ X.K n true):=by
 intro pins s σ H x y v u Q I rx ry h
 obtain ⟨d,e,g1,g2,h1,h2,dx,dy,q⟩:=h
 exact aMW I X.A g1 g2 h1 h2 dx dy rx ry hu X.prog X.w X.xe _ ⟨.bl (!eqD d e),H,I,rfl,q⟩
theorem sK {K:Fg}{n:Nat}{M:Mem}{k:D→Mem→Prop}{d1 d2 e1 e2:D} (r1:Rs M d1 e1) (r2:Rs M d2 e2) (h1:okD n e1=true) (h2:okD n e2=true) (h:k (.bl (!eqD e1 e2)) M):Op2 K (aCQ K n true) d1 d2 M k:=fun G H v1 v2 Q rl x y q =>
 ⟨e1,e2,r1.disp,r2.disp,h1,h2,r1.den rl x,r2.den rl y,q _ _ _ _ _ (Stp.refl rl) d8 h⟩
end
section
variable {X:Cx}{M:Mem}{k:D→Mem→Prop}{K:Fg}
end
end Z
namespace Z
open PySem L2 PySem.Spec PyProof.Rows
def tyN:D→String
 | .non => "NoneType"
 | .bl _ => "bool"
 | .int _ => "int"
 | .str _ => "str"
 | .tup _ => "tuple"
 | .lst _ | .fl _ | .mt _ | .st _ => "list"
def isN (T S:String):Bool:=S == T || (S == "bool" && T == "int")
def isD (T:String) (d:D):Bool:=isN T (tyN d)
def Plain5 (T:String):Prop:=T = "int" ∨ T = "bool" ∨ T = "str" ∨ T = "tuple" ∨ T = "list"
theorem aNM {K:Fg}{T S:String} (h:Plain5 T) (h2:S = "NoneType" ∨ Plain5 S):PySem.W.kitOne K (.type S) (.type T)=some (isN T S):=by
 rcases h with rfl | rfl | rfl | rfl | rfl <;> rcases h2 with rfl | rfl | rfl | rfl | rfl | rfl <;> first
  | exact aMS (by decide +kernel) (by decide +kernel) (by decide +kernel)
  | (rw [aGO (by decide +kernel)]; decide +kernel)
theorem aMT (d:D):tyN d = "NoneType" ∨ Plain5 (tyN d):=by
 cases d with
 | non=>exact .inl rfl
 | bl b=>exact .inr (.inr (.inl rfl))
 | int b=>exact .inr (.inl rfl)
 | str b=>exact .inr (.inr (.inr (.inl rfl)))
 | tup b=>exact .inr (.inr (.inr (.inr (.inl rfl))))
 | lst b=>exact .inr (.inr (.inr (.inr (.inr rfl))))
 | fl b=>exact .inr (.inr (.inr (.inr (.inr rfl))))
 | mt b=>exact .inr (.inr (.inr (.inr (.inr rfl))))
 | st b=>exact .inr (.inr (.inr (.inr (.inr rfl))))
theorem aNA {K:Fg}{T:String} (h:Plain5 T) (d:D):PySem.W.kitOne K (.type (tyN d)) (.type T)=some (isD T d):=aNM h (aMT d)
def Slv:D→Prop
 | .mt _ | .st _=>False
 | _=>True
theorem aET {X:Cx}{T:String} (hT:Plain5 T):gL X (.builtin "isinstance") (fun xs H Q=>∃ x d,xs=[x, .ty T]∧Slv d∧Den X.K H d x∧Q (.bl (isD T d)) H):=by
 intro pins s σ H xs us Q I r h
 obtain ⟨x,d,rfl,nm,dx,q⟩:=h
 obtain ⟨u,w',rfl,rx,r2⟩:=vals2 r
 cases (show w'=Value.type T from r2)
 have e:=aNA (K:=X.K) hT d
 have fin:∀ tk,∃ v H',Inv X pins σ H' { s with toks:=tk }∧RelV v (Value.bool (isD T d))∧Q v H':=fun tk=>⟨.bl (isD T d),H,I.tok tk,rfl,q⟩
 cases d with
 | non=>rw [dx.non_] at rx; cases (show u=Value.none from rx); exact PySem.W.kia_one PySem.W.kitx_none I.kIn True.intro e (fun z=>nomatch z) fin
 | bl y=>rw [dx.bl_] at rx; cases (show u=Value.bool y from rx); exact PySem.W.kia_one PySem.W.kitx_bool I.kIn True.intro e (fun z=>nomatch z) fin
 | int i=>rw [dx.int_] at rx; obtain ⟨t,q2⟩:=(show ∃ t,u=Value.int i t from rx); cases q2; exact PySem.W.kia_one PySem.W.kitx_int I.kIn True.intro e (fun z=>nomatch z) fin
 | str y=>rw [dx.str_] at rx; obtain ⟨t,q2⟩:=(show ∃ t,u=Value.str y t from rx); cases q2; exact PySem.W.kia_one PySem.W.kitx_str I.kIn True.intro e (fun z=>nomatch z) fin
 | mt a=>exact nm.elim
 | st a=>exact nm.elim
 | tup ds =>
  obtain ⟨a,its,vs,rfl,⟨o,h1,h2,_⟩,_⟩:=dJ I dx rx
  exact PySem.W.kia_one PySem.W.kitx_tuple I.kIn ⟨o,h1,h2⟩ e (fun z=>nomatch z) fin
 | lst ds =>
  obtain ⟨a,its,vs,rfl,⟨o,h1,h2,_⟩,_⟩:=dL I dx rx
  exact PySem.W.kia_one PySem.W.kitx_list I.kIn ⟨o,h1,h2⟩ e (fun z=>nomatch z) fin
 | fl ds =>
  obtain ⟨a,vs,rfl,sq,dn⟩:=dx.fl_
  cases (show u=Value.ref a from rx)
  obtain ⟨its,rv,pt,_⟩:=I.list sq
  obtain ⟨o,h1,h2,_⟩:=pt.isList
  exact PySem.W.kia_one PySem.W.kitx_list I.kIn ⟨o,h1,h2⟩ e (fun z=>nomatch z) fin
inductive Rz (M:Mem):D→D→Prop
 | self {d:D} (h:Slv d):Rz M d d
 | mt {a:Addr}{ds:List D} (h:M a=some (.lst ds)):Rz M (.mt a) (.lst ds)
section
variable {X:Cx}{Γ:Gm}{M:Mem}{k:D→Mem→Prop}{pos p1 p2:Pos}{e:Expr}
theorem kK {C:Str}{T:String} (hT:Plain5 T) (hm:X.mg "isinstance" = none) (hmT:X.mg C=none) (hvT:bootBuiltins C=some (.type T)) (h:GE X e Γ M fun d M1=>∃ d',Rz M1 d d'∧k (.bl (isD T d')) M1) (hg:Gl X "isinstance" := by rfl) (hgT:Gl X C:=by rfl)
  (hn:C ≠ "__name__" := by decide) (hdb:(C == ("__debug__" : Str))=false:=by decide)
  (he:starEach [e, .Name C p2] X.env=(false,eval e X.env)::starEach [.Name C p2] X.env:=by rfl) (hpl:(backTo pos (starEach [.Name C p2] X.env)).any (·.1)=false:=by rfl):GE X (.Call (.Name "isinstance" p1) [e, .Name C p2] [] pos) Γ M k:=fun σ G H Q en rl q=>by
 refine cU (wI (aET hT) hg hm PyProof.Rows.boot_isinstance (uC (hs:=he) pU (uC (aIU (v := .ty T) hgT hmT hvT rfl hn hdb) aER)) (by decide) (by decide) he hpl) ?_
 refine h σ G H _ en rl fun v G1 H1 d M1 s1 e1 ⟨d',rz,h1⟩ => ?_
 refine ⟨v,d',rfl,?_,?_,q _ _ _ _ _ s1 d8 h1⟩
 ·cases rz with
  | self h=>exact h
  | mt h=>exact True.intro
 ·cases rz with
  | self h=>exact e1.up s1.rel.same
  | mt hm =>
   obtain ⟨_,vs,e2,dn⟩:=s1.rel.mem _ _ hm
   rw [e1.mt_]; exact fR e2 (dn.up s1.rel.same)
end
end Z
namespace HD
open PySem PySem.Spec PyProof.Rows
section
variable {prog:Program}{w:World}{A:Around}{E:Value→Shared→Prop}{s:Shared}{d it:Addr}{o:Obj}{es:Array DictEntry}{ep:Nat}
end
end HD
namespace HD
open PySem PySem.Spec PyProof.Rows
section
variable {prog:Program}{w:World}{K:Type} [DecidableEq K] {knd:HeapKind prog w K}{A:Around}{E:Value→Shared→Prop}{s:Shared}{d a:Addr}{xs:List (K × Addr × Value)}{k:K}{v:Value}
end
end HD
namespace HD
open PySem PySem.Spec PyProof.Rows
section
variable {prog:Program}{w:World}{K:Type} [DecidableEq K] {knd:HeapKind prog w K}{A:Around}{E:Value→Shared→Prop}{s:Shared}{d o:Addr}{xs ys:List (K × Addr × Value)}
end
end HD
namespace Z
open PySem PySem.Spec PyProof.Rows L2
end Z
namespace Z
open PySem PySem.Spec PyProof.Rows L2
section
variable {X:Cx}{pins:List (Addr × Obj)}{σ:L2.St}{H:Hp}{s:Shared}{a b:Addr}{k:List Int}{ks:List (List Int)}{xs:List (List Int × Addr)}{ep:Nat}
theorem items_int {P:Program}{w:World}:∀ {ks:List Int}{us:List Value},Vals (ks.map V.int) us→ItemsAre (intKind P w) ks us
 | [],_,r=>by rw [List.map_nil] at r; cases r; exact .nil
 | k::ks,_,r=>by
  rw [List.map_cons] at r
  cases r with
  | @cons x y l m h t =>
   obtain ⟨tk,rfl⟩:=(show ∃ t,y=Value.int k t from h)
   exact .cons (by show Value.isInt k (Value.int k tk)=true; simp [Value.isInt]) (items_int t)
end
end Z
namespace Z
open PySem L2
inductive Stt (M:Mem):D→List (List Int)→Prop
 | st (ks:List (List Int)):Stt M (.st ks) ks
 | mt {a:Addr}{ks:List (List Int)} (h:M a=some (.st ks)):Stt M (.mt a) ks
section
variable {K:Fg}{G H:Hp}{M:Mem}{k:D→Mem→Prop}
end
section
variable {X:Cx}{Γ:Gm}{M:Mem}{k:D→Mem→Prop}{kg:Gm→Mem→Prop}{F:Fin}{pos:Pos}{a b c e o tg iter:Expr}{ss:List Stmt}
end
end Z
namespace Z
open PySem L2
section
variable {X:Cx}{Γ:Gm}{M:Mem}{tg iter:Expr}{ki:List D→Mem→Prop}
end
end Z
namespace R
structure Gth (cells:List Cell) (st:List (Int × Int)) (s:Cell) (ks ws:List Cell) (busy:Option (Int × Int × List (Int × Int))):Prop where
 s0:s∈ks
 all:∀ c∈ks,Rch cells st s c
 sub:∀ c∈ks,c∈cells
 nd:ks.Nodup
 ww:∀ c∈ws,c∈ks
 cl:∀ x y,[x,y]∈ks→[x,y]∈ws∨(∃ dn,busy=some (x,y,dn))∨∀ d∈st,[x+d.1,y+d.2]∈cells→[x+d.1,y+d.2]∈ks
 bz:∀ x y dn,busy=some (x,y,dn)→[x,y]∈ks∧∀ d∈dn,[x+d.1,y+d.2]∈cells→[x+d.1,y+d.2]∈ks
section
variable {cells:List Cell}{st:List (Int × Int)}{s:Cell}{ks ws:List Cell}{x y:Int}{dn:List (Int × Int)}{d:Int × Int}
end
end R
namespace Q
open PySem L2 Z
end Q
namespace R
open PySem L2
def edge (zs:List Str) (f p b:Nat):Bool :=
 let on:=if f % 2=0 then bH zs (p:Int) (b:Int) else bH zs (b:Int) (p:Int)
 let off:=if f % 2=0 then bH zs ((p:Int) - 1) (b:Int) else bH zs (b:Int) ((p:Int) - 1)
 if f < 2 then on && !off else off && !on
abbrev RS:=List (Nat × Nat) × Option Nat
structure RInv (bs:List Bool) (n:Nat) (q:RS):Prop where
 bd:∀ p∈q.1,p.1 < p.2∧p.2 < n
 bg:∀ b,q.2=some b→b < n
 len:q.1.length≤n
 any:(q.1≠[]∨q.2≠none)↔∃ i,i < n∧bs.getD i false=true
end R
namespace Q
open PySem L2 Z
end Q
namespace R
open PySem L2
end R
namespace Q
open PySem L2 Z
theorem qK (z:Str) (zr:List Str):atI ((z::zr).map D.str) 0=some (.str z):=cW (j:=0) rfl
theorem aBI (z:Str) (js:List Nat):PySem.Txt.join Str.empty (js.map fun j=>(⟨#[R.atS z j]⟩:Str))=R.ofL (js.map (R.atS z)):=by
 have:=R.jZ (js.map (R.atS z))
 rw [List.map_map] at this
 exact this
def aJF:Ct:=fun ds M k=>∃ (z:Str) (js:List Nat),ds=[.str z, .lst (dF js)]∧z.length≤1000∧js.length≤1000∧(∀ j∈js,j < z.length)∧k (.str (R.ofL (js.map (R.atS z)))) M
def p0 (xs ys:List D) (zs:List Str):D:=jJ (kT xs (R.chg (R.aJ zs))) (kT ys (R.chg zs)) (R.cV zs)
structure Grp (cells:List R.Cell) (st:List (Int × Int)) (n:Nat) (gs:List (List R.Cell)):Prop where
 len:gs.length=(R.starts cells st n).length
 at_:∀ (j:Nat) s,(R.starts cells st n)[j]?=some s→∃ ks,gs[j]?=some ks∧∀ c,c∈ks↔R.Rch cells st s c
noncomputable def aNI (cells:List R.Cell) (st:List (Int × Int)) (s:R.Cell) (w h:Nat):List Str:=R.rowsOf (fun a u => @decide (R.Rch cells st s [a,u]) (Classical.propDecidable _)) w h
noncomputable def aAF (xs ys:List D) (cells:List R.Cell) (st:List (Int × Int)) (ss:List R.Cell):List D:=ss.map fun s=>p0 xs ys (aNI cells st s (xs.length - 1) (ys.length - 1))
def straight:List (Int × Int):=[(1,0),(0,1),(-1,0),(0, -1)]
def yV:List (Int × Int):=[(1,0),(1,1),(0,1),(-1,1),(-1,0),(-1, -1),(0, -1),(1, -1)]
noncomputable def pcs (xs ys:List D) (zs:List Str):List D:=aAF xs ys (R.nG zs true xs.length ys.length) straight (R.starts (R.nG zs true xs.length ys.length) straight (R.nG zs true xs.length ys.length).length)
theorem wQ:("#" : Str)=⟨#[35]⟩:=by decide +kernel
theorem zC (l:List Nat):PySem.Txt.join Str.empty (l.map fun c=>(⟨#[c]⟩:Str))=R.ofL l:=R.jZ l
theorem iX {X:Cx}{Γ:Gm}{M:Mem}{k:D→Mem→Prop}{pos:Pos}{x:Str}{a:Addr}{d:D} (hm:X.mg x=some (.ref a)) (hd:∀ G,Den X.K G d (.ref a)) (h:k d M) (hg:Gl X x:=by rfl) (hb:(x == ("__debug__" : Str))=false:=by decide):GE X (.Name x pos) Γ M k :=
 fun σ G H Q en rl q=>cU (aJC (v := .ref a) hg hm rfl hb) (q _ G H d M (Stp.refl rl) (hd G) h)
def al9 (all:Bool) (r u:Int):Bool:=all || r * u == 0
def st9 (all:Bool):List (Int × Int):=[(-1, -1),(-1,0),(-1,1),(0, -1),(0,0),(0,1),(1, -1),(1,0),(1,1)].filter fun d=>al9 all d.1 d.2
def l3:List Int:=[-1,0,1]
theorem pE {X:Cx}{e:Expr}{Γ:Gm}{M:Mem}{kb:Bool→Mem→Prop}{B:Bool} (h:GT X e Γ M fun c M1=>c=B∧M1=M) (hk:kb B M):GT X e Γ M kb:=fun σ G H Q en rl q=>h σ G H Q en rl fun b G' H' M' s ⟨e1,e2⟩=>q b G' H' M' s (by rw [e1,e2]; exact hk)
theorem aLG {K:Fg}{G:Hp}{a:Addr}{i j:Int}{ti tj n:Nat}{od:Option Addr}{sl:Array (Option Value)} (h:K.lookup a=some ⟨.type "tuple", od, .seq #[.int i ti, .int j tj] n,sl⟩):Den K G (pairD (i,j)) (.ref a) :=
 dN (vs:=[.int i, .int j]) (.inr ⟨_,_,_,h,rfl,rfl,(by show (2:Nat)≤sizeLine; decide), .cons ⟨ti,rfl⟩ (.cons ⟨tj,rfl⟩ .nil)⟩) (bC dR (bC dR bV))
theorem vB:∀ as:List Addr,Vals (as.map V.ref) (as.map Value.ref)
 | [] => .nil
 | a::as => .cons rfl (vB as)
theorem nO {K:Fg}{G:Hp}{a:Addr}{as:List Addr}{ds:List D}{n:Nat}{od:Option Addr}{sl:Array (Option Value)} (h:K.lookup a=some ⟨.type "tuple", od, .seq (as.map Value.ref).toArray n,sl⟩) (hl:as.length≤100) (hd:Dens K G ds (as.map V.ref)):Den K G (.tup ds) (.ref a) :=
 dN (vs:=as.map V.ref) (.inr ⟨_,_,_,h,rfl,rfl,(by rw [List.size_toArray,List.length_map]; exact R.aU (by omega)),vB as⟩) hd
noncomputable def hls (xs ys:List D) (zs:List Str):List D:=aAF xs ys (R.nG zs false xs.length ys.length) yV ((R.starts (R.nG zs false xs.length ys.length) yV (R.nG zs false xs.length ys.length).length).drop 1)
end Q
namespace HT
open PySem PySem.Spec PyProof.Rows
section
variable {prog:Program}{w:World}{A:Around}{E:Value→Shared→Prop}{s:Shared}
theorem o0 {t sl:Addr}{items:Array Value}{vl vu:Value}{lo hi:Option Int}{Q:Value→Shared→Prop} (ht:IsTup s.heap t items) (hs:s.heap.IsSliceOf sl vl vu .none) (pl:IsPart vl lo) (pu:IsPart vu hi)
  (hw:sIx items.size 0 lo=0∧sIx items.size items.size hi=items.size) (h:Q (.ref t) s):wpAny (model prog w) A (getItem (.ref t) (.ref sl)) Q E s:=by
 obtain ⟨os,hos,hcs,hds⟩:=id hs
 have hTs:s.TypeIs (.ref sl) "slice" := ⟨os,hos,hcs⟩
 unfold getItem
 try with_reducible refine wpAny_holding ?_
 first | refine wpAny_bind (wpAny_pure ?_) | skip
 refine wpAny_bind (wpAny_sequenceKey ht.typeIs (by decide) ?_)
 refine wpAny_bind (wpAny_callSpecial?_slot (name:=Str.ofString "__getitem__") ht.typeIs PyProof.Rows.slot_tuple_getitem
  (wpAny_call_entry PyProof.Rows.slot_tuple_getitem ht.typeIs entry_tuple_getitem ?_ (args_tuple_getitem _ _)))
 show wpAny _ _ (Builtin.Tuple.tupleItemsOf (.ref t) >>= _) _ _ s
 refine wpAny_bind (tupleItemsOf_ ht ?_)
 refine wpAny_bind (wpAny_typeOf hTs ?_)
 rw [if_pos (by decide)]
 refine wpAny_bind (lE hs pl pu ?_)
 have hyes:(((sIx items.size 0 lo:Nat):Int) == 0 && (1:Int) == 1 && (sIx items.size items.size hi - sIx items.size 0 lo) == items.size)=true:=by
  rw [hw.1,hw.2]; simp
 show wpAny _ _ (if (((sIx items.size 0 lo:Nat):Int) == 0 && (1:Int) == 1 && (sIx items.size items.size hi - sIx items.size 0 lo) == items.size)=true then _ else _) _ _ s
 rw [if_pos hyes]
 refine wpAny_bind ?_
 unfold Builtin.Tuple.tupleIsExact
 refine wpAny_bind (wpAny_typeOf ht.typeIs (wpAny_pure ?_))
 rw [if_pos (by rfl)]
 refine wpAny_bind (wpAny_rule ?_)
 exact wpAny_pure ⟨_,rfl,wpAny_pure h⟩
end
end HT
namespace L2
open PySem PySem.Spec PyProof.Rows
section
variable {X:Cx}
def rSlA (K:PySem.W.Frag):V→Option Int→Option Int→Hp→VK→Prop:=fun x lo hi H Q=>∃ a xs,x = .ref a∧SqT K H a xs ∧
 ((HT.sIx xs.length 0 lo=0∧HT.sIx xs.length xs.length hi=xs.length)→Q (.ref a) H)∧(¬ (HT.sIx xs.length 0 lo=0∧HT.sIx xs.length xs.length hi=xs.length)→∀ p,H p=none→Q (.ref p) (upd H p (.tup (lR xs lo hi))))
theorem m8:SlR X (rSlA X.K):=by
 intro pins s σ H x v vl vu lo hi sl Q I rx hs pl pu h
 obtain ⟨a,xs,e,hx,q1,q2⟩:=h
 by_cases hw:HT.sIx xs.length 0 lo=0∧HT.sIx xs.length xs.length hi=xs.length
 ·subst e
  cases rx
  obtain ⟨its,r,ht,hz⟩:=I.tuple hx
  have hlen:its.toArray.size=xs.length:=by rw [List.size_toArray]; exact r.length.symm
  refine ⟨"tuple", _,PyProof.Rows.slot_tuple_getitem.lookup,ht.typeIs,?_⟩
  exact HT.o0 ht hs pl pu (by rw [hlen]; exact hw) ⟨.ref a,H,I,rfl,q1 hw⟩
 ·exact aMZ pins s σ H x v vl vu lo hi sl Q I rx hs pl pu ⟨a,xs,e,hx,hw,q2 hw⟩
end
end L2
namespace Z
open PySem L2
theorem m9 {K:Fg}{M:Mem}{k:D→Mem→Prop}{ds:List D}{l u:Option Int} (h:k (.tup (cutD ds l u)) M):Op3 K (rSlA K) (.tup ds) l u M k:=fun G H v Q rl e q=>by
 obtain ⟨a,vs,ev,s,dn⟩:=(Seq.tup ds).sq rl e
 refine ⟨a,vs,ev,s,fun hw => ?_,fun hw p hp => ?_⟩
 ·have ec:cutD ds l u=ds:=by
   rw [← dn.len] at hw
   unfold cutD
   rw [hw.1,hw.2,List.drop_zero,Nat.sub_zero,List.take_length]
  rw [ec] at h
  exact q _ _ _ _ _ (Stp.refl rl) (by rw [← ev]; exact e) h
 ·have st:=rl.new (o := .tup (lR vs l u)) hp
  exact q _ _ _ _ _ st (dN (SqT.of bQ) ((dn.cut l u).up st.gg)) h
theorem p7 {α:Type} (l:List α) (n:Nat):cutD l none (some (n:Int))=l.take n:=by
 unfold cutD
 have e1:HT.sIx l.length 0 none=0:=rfl
 have e2:HT.sIx l.length l.length (some (n:Int))=min n l.length:=HT.t9 l.length l.length n
 rw [e1,e2,List.drop_zero,Nat.sub_zero,List.take_eq_take_iff]
 omega
end Z
namespace Q
open PySem L2 Z
mutual
def tameB:Nat→D→Bool
 | _, .non | _, .bl _=>true
 | _, .int i=>decide (i.natAbs < 10 ^ 65)
 | _, .str z=>decide (z.length≤1000)
 | n+1, .tup ds=>decide (ds.length≤100) && tamesB n ds
 | n+1, .lst ds=>decide (ds.length≤100) && tamesB n ds
 | _,_=>false
def tamesB:Nat→List D→Bool
 | _,[]=>true
 | n,d::ds=>tameB n d && tamesB n ds
end
mutual
theorem tame_ok:∀ (n:Nat) (d:D),tameB n d=true→okD n d=true
 | _, .non,_=>by simp only [okD]
 | _, .bl _,_=>by simp only [okD]
 | _, .int _,_=>by simp only [okD]
 | _, .str _,_=>by simp only [okD]
 | n+1, .tup ds,h=>by
  simp only [tameB,Bool.and_eq_true] at h
  simp only [okD]; exact tames_ok n ds h.2
 | n+1, .lst ds,h=>by
  simp only [tameB,Bool.and_eq_true] at h
  simp only [okD]; exact tames_ok n ds h.2
 | 0, .tup _,h=>by simp [tameB] at h
 | 0, .lst _,h=>by simp [tameB] at h
 | _, .mt _,h=>by simp [tameB] at h
 | _, .fl _,h=>by simp [tameB] at h
 | _, .st _,h=>by simp [tameB] at h
theorem tames_ok:∀ (n:Nat) (ds:List D),tamesB n ds=true→okDs n ds=true
 | _,[],_=>by simp only [okDs]
 | n,d::ds,h=>by
  simp only [tamesB,Bool.and_eq_true] at h
  simp only [okDs,tame_ok n d h.1,tames_ok n ds h.2,Bool.and_true]
end
mutual
theorem tame_up:∀ (n:Nat) (d:D),tameB n d=true→tameB (n+1) d=true
 | _, .non,_=>by simp only [tameB]
 | _, .bl _,_=>by simp only [tameB]
 | _, .int _,h=>by simpa only [tameB] using h
 | _, .str _,h=>by simpa only [tameB] using h
 | n+1, .tup ds,h=>by
  simp only [tameB,Bool.and_eq_true] at h ⊢
  exact ⟨h.1,tames_up n ds h.2⟩
 | n+1, .lst ds,h=>by
  simp only [tameB,Bool.and_eq_true] at h ⊢
  exact ⟨h.1,tames_up n ds h.2⟩
 | 0, .tup _,h=>by simp [tameB] at h
 | 0, .lst _,h=>by simp [tameB] at h
 | _, .mt _,h=>by simp [tameB] at h
 | _, .fl _,h=>by simp [tameB] at h
 | _, .st _,h=>by simp [tameB] at h
theorem tames_up:∀ (n:Nat) (ds:List D),tamesB n ds=true→tamesB (n+1) ds=true
 | _,[],_=>by simp only [tamesB]
 | n,d::ds,h=>by
  simp only [tamesB,Bool.and_eq_true] at h ⊢
  exact ⟨tame_up n d h.1,tames_up n ds h.2⟩
end
def ltP (p q:Int × Int):Bool:=decide (p.1 * q.2 < q.1 * p.2)
def toS:D→Str
 | .str z=>z
 | _=>Str.empty
def Sq2 (t:Bool) (d:D) (ds:List D):Prop:=d=if t=true then .lst ds else .tup ds
def aHA:Ct:=fun ds M k=>∃ (t:Bool) (r:D) (zs:List Str) (n j:Nat),ds=[r, .int (j:Int)]∧Sq2 t r (zs.map .str)∧zs.length≤1000∧n≤1000∧(∀ z∈zs,z.length=n)∧j < n∧k (.str (R.ofL (zs.map (R.atS · j)))) M
def aD7:Ct:=fun ds M k=>∃ (t:Bool) (r:D) (zs:List Str) (n:Nat),ds=[r]∧Sq2 t r (zs.map .str)∧zs.length≤1000∧n≤1000∧(∀ z∈zs,z.length=n)∧k (.lst ((R.aJ zs).map .str)) M
def aE9:Ct:=fun ds M k=>∃ (t:Bool) (r:D) (zs:List Str) (n:Nat),ds=[r]∧Sq2 t r (zs.map .str)∧zs.length≤1000∧n≤1000∧(∀ z∈zs,z.length=n)∧k (.lst (dF (R.chg zs))) M
def aFR:Ct:=fun ds M k=>∃ (t:Bool) (dx dy dr:D) (xs ys:List D) (zs:List Str) (n:Nat),ds=[dx,dy,dr]∧Sq2 t dx xs∧Sq2 t dy ys∧Sq2 t dr (zs.map .str)∧zs.length≤900∧n≤900∧(∀ z∈zs,z.length=n)∧(∀ j∈R.chg (R.aJ zs),j < xs.length)∧(∀ j∈R.chg zs,j < ys.length)∧k (p0 xs ys zs) M
theorem aFS {K:Fg}{M:Mem}{k:D→Mem→Prop}{x y:Str} (h:k (.bl (!(Builtin.Str.occurrences y x 0 y.length 1).isEmpty)) M):Op2 K (fun x y H Q=>∃ i j,x = .str i∧y = .str j∧Q (.bl (!(Builtin.Str.occurrences j i 0 j.length 1).isEmpty)) H) (.str x) (.str y) M k:=fun G H v1 v2 Q rl e1 e2 q =>
 ⟨x,y,e1.str_,e2.str_,q _ _ _ _ _ (Stp.refl rl) d8 h⟩
theorem mB {b:Bool}{P Q:Prop} (h:b=true) (p:P):if b=true then P else Q:=by rw [if_pos h]; exact p
theorem oF {b:Bool}{P Q:Prop} (h:b=false) (p:Q):if b=true then P else Q:=by rw [if_neg (by rw [h]; exact Bool.false_ne_true)]; exact p
theorem pX:R.chg []=[]:=by decide +kernel
theorem iM {zs:List Str}{ny:Nat} (h:zs.length=ny - 1):∀ j∈R.chg zs,j < ny:=fun j hj=>by
 have:=R.eB zs j hj
 cases zs with
 | nil=>rw [pX] at hj; cases hj
 | cons z zr=>rw [List.length_cons] at h this; omega
theorem iJ {zs:List Str}{nx:Nat} (h:∀ z∈zs,z.length=nx - 1):∀ j∈R.chg (R.aJ zs),j < nx:=fun j hj=>by
 have h1:=(R.jV h).1
 have:=R.eB _ j hj
 cases hc:R.aJ zs with
 | nil=>rw [hc,pX] at hj; cases hj
 | cons z zr=>rw [hc] at h1 this; rw [List.length_cons] at h1 this; omega
theorem aFH {xs ys:List D} (zs:List Str) (hx:∀ x∈xs,okD 1 x=true) (hy:∀ y∈ys,okD 1 y=true):okD 3 (jJ xs ys zs)=true:=by
 have o1:=i8 hx
 have o2:=i8 hy
 have o3:okDs 1 (zs.map D.str)=true:=i8 fun d hd=>by obtain ⟨z,_,rfl⟩:=List.mem_map.mp hd; rfl
 simp only [jJ,okD,okDs,o1,o2,o3,Bool.and_true]
end Q
namespace Z
open PySem L2 PySem.Spec PyProof.Rows
def aH2 (K:Fg):R2:=fun x y H Q=>∃ a b xs ys,x = .ref a∧y = .ref b∧SqT K H a xs∧SqT K H b ys∧xs.length+ys.length≤sizeLine∧(xs=[]→Q (.ref b) H)∧(xs≠[]→ys=[]→Q (.ref a) H)∧(xs≠[]→ys≠[]→∀ p,H p=none→Q (.ref p) (upd H p (.tup (xs++ys))))
theorem aIM {X:Cx}:OpR X (binaryOp .Add) (aH2 X.K):=by
 intro pins s σ H x y v u Q I rx ry h
 obtain ⟨a,b,xs,ys,e1,e2,ha,hb,hz,q0,q1,q2⟩:=h
 by_cases hx:xs=[]
 ·subst e1 e2
  cases rx
  cases ry
  obtain ⟨its,r1,p1,_⟩:=I.tuple ha
  obtain ⟨its2,r2,p2,_⟩:=I.tuple hb
  have hi:its=[]:=r1.nil_iff.mpr hx
  obtain ⟨⟨cls,dd,data,sl⟩,ho,hc,n,hd⟩:=id p1
  obtain ⟨⟨cls2,dd2,data2,sl2⟩,ho2,hc2,n2,hd2⟩:=id p2
  simp only at hc hd hc2 hd2
  subst hc hd hc2 hd2
  exact concat_meets ⟨_,ho,rfl⟩ ⟨_,ho2,rfl⟩ noFill_tuple_add seq_tuple_add PySem.F.slot_tuple_add PySem.F.entry_tuple_add (PySem.F.args_tuple_add_2 _ _)
   (tuple_addW0 a b its.toArray its2.toArray n n2 dd dd2 sl sl2 (by simp [hi])) ⟨ho,ho2, .ref b,H,I,rfl,q0 hx⟩
 ·exact aIR pins s σ H x y v u Q I rx ry ⟨a,b,xs,ys,e1,e2,ha,hb,hx,hz,q1 hx,q2 hx⟩
section
variable {K:Fg}{M:Mem}{k:D→Mem→Prop}{ds es:List D}
theorem aKT (hz:ds.length+es.length≤sizeLine) (h:k (.tup (ds++es)) M):Op2 K (aH2 K) (.tup ds) (.tup es) M k:=fun G H v1 v2 Q rl e1 e2 q=>by
 obtain ⟨a,vs,ev,s,dn⟩:=e1.tup_
 obtain ⟨b,ws,ew,s2,dn2⟩:=e2.tup_
 have l1:=dn.len
 have l2:=dn2.len
 refine ⟨a,b,vs,ws,ev,ew,R.eE rl.same s,R.eE rl.same s2,by rw [← l1,← l2]; exact hz,fun z => ?_,fun _ z => ?_,fun _ _ p hp => ?_⟩
 ·have z2:ds=[]:=by rw [z] at l1; exact List.length_eq_zero_iff.mp l1
  rw [z2,List.nil_append] at h
  rw [← ew]
  exact q _ _ _ _ _ (Stp.refl rl) e2 h
 ·have z2:es=[]:=by rw [z] at l2; exact List.length_eq_zero_iff.mp l2
  rw [z2,List.append_nil] at h
  rw [← ev]
  exact q _ _ _ _ _ (Stp.refl rl) e1 h
 ·have st:=rl.new (o := .tup (vs++ws)) hp
  exact q _ _ _ _ _ st (dN (SqT.of bQ) ((dn.append dn2).up st.gg)) h
end
end Z
namespace Q
open PySem L2 Z
theorem pA {X:Cx}{e:Expr}{Γ:Gm}{M:Mem}{P kb:Bool→Mem→Prop} (h:GT X e Γ M P) (hk:∀ c M1,P c M1→kb c M1):GT X e Γ M kb:=fun σ G H Q en rl q=>h σ G H Q en rl fun b G' H' M' s hp=>q b G' H' M' s (hk _ _ hp)
theorem aGB (c:Bool):atI ("#." : Str).cps.toList (if c=true then 1 else 0)=some (if c=true then 46 else 35):=by cases c <;> decide +kernel
theorem xF {α:Type} (l:List α) (n:Nat):cutD l (some ((n:Int)+1)) none=l.drop (n+1):=by
 unfold cutD
 have e1:HT.sIx l.length 0 (some ((n:Int)+1))=min (n+1) l.length:=HT.t9 l.length 0 (n+1)
 have e2:HT.sIx l.length l.length none=l.length:=rfl
 rw [e1,e2]
 by_cases h:n+1≤l.length
 ·rw [Nat.min_eq_left h,List.take_of_length_le (by rw [List.length_drop]; exact Nat.le_refl _)]
 ·rw [Nat.min_eq_right (by omega),Nat.sub_self,List.take_zero,List.drop_eq_nil_of_le (by omega)]
theorem aIP {α:Type} (l:List α) (a b:Option Int):(cutD l a b).length≤l.length:=by
 unfold cutD
 rw [List.length_take,List.length_drop]; omega
structure TT (n:Nat) (xs:List D):Prop where
 len:xs.length≤n
 each:∀ x∈xs,tameB 2 x=true
theorem xL (z:Str) (a b:Option Int):(gT z a b).length≤z.length:=by
 show (lL z.cps.toList a b).toArray.size≤z.cps.size
 rw [List.size_toArray,← Array.length_toList]
 exact aIP z.cps.toList a b
theorem two {n:Nat}{x y:D} (hx:tameB n x=true) (hy:tameB n y=true):∀ d∈[x,y],tameB n d=true:=fun d hd=>by
 simp only [List.mem_cons,List.not_mem_nil,or_false] at hd
 rcases hd with rfl | rfl <;> assumption
end Q
namespace Z
open PySem L2
end Z
namespace Q
open PySem L2 Z
def sc (c:Nat) (l:List Nat):Int:=(l.map fun n=>if decide (n=c)=true then (1:Int) else 0).sum
end Q
namespace HD
open PySem PySem.Spec PyProof.Rows
section
variable {prog:Program}{w:World}{K:Type} [DecidableEq K] {knd:HeapKind prog w K}{A:Around}{E:Value→Shared→Prop}{s:Shared}{d a:Addr}{xs:List (K × Addr × Value)}{k:K}
end
end HD
namespace HD
open PySem PySem.Spec PyProof.Rows
section
variable {prog:Program}{w:World}{K:Type} [DecidableEq K] {knd:HeapKind prog w K}{A:Around}{E:Value→Shared→Prop}{s:Shared}{o:Addr}{ys:List (K × Addr × Value)}
end
end HD
namespace HD
open PySem PySem.Spec PyProof.Rows
section
variable {prog:Program}{w:World}{A:Around}{E:Value→Shared→Prop}{s:Shared}{d o:Addr}{od oo:Obj}{es eo:Array DictEntry}{ep e2:Nat}
end
end HD
namespace Z
open PySem L2
section
variable {X:Cx}{Γ:Gm}{M:Mem}{k:D→Mem→Prop}{e o:Expr}
end
end Z
namespace Z
open PySem L2
end Z
namespace HD
open PySem PySem.Spec PyProof.Rows
end HD
namespace Z
open PySem L2
end Z
namespace HT
open PySem PyProof.Rows
section
open PySem.SeqAt
open PySem.AutoSeq1 (wpAny_loadPart')
open PySem.MeetsSeq PySem.MeetsSeq2 PySem.MeetsSeq3
end
end HT
namespace Z
open PySem L2
section
variable {X:Cx}{Γ:Gm}{M:Mem}{F:Fin}{tg iter:Expr}{body:List Stmt}{pos:Pos}
end
end Z
namespace Z
open PySem L2
def tk (M:Mem) (b:Addr):Bool:=match M b with
 | some (.lst _)=>true
 | _=>false
def fA (G H:Hp) (M:Mem):Hp:=fun b=>if tk M b=true then H b else G b
def fC (G1:Hp) (M:Mem):Hp:=fun b=>if tk M b=true then none else G1 b
def noM:Mem:=fun _=>none
mutual
def noL:D→Bool
 | .non | .bl _ | .int _ | .str _=>true
 | .tup ds=>noLs ds
 | _=>false
def noLs:List D→Bool
 | []=>true
 | d::ds=>noL d && noLs ds
end
theorem aBG {M:Mem}{b:Addr} (h:M b=none):tk M b=false:=by unfold tk; rw [h]
section
variable {K:Fg}{G H G1 H1:Hp}{M M1:Mem}
theorem Rel.gM (rl:Rel K G H M) {b:Addr}{o:HO} (h:G b=some o):M b=none:=by
 cases e:M b with
 | none=>rfl
 | some m=>rw [(rl.mem b m e).1] at h; cases h
theorem Rel.loan_same (rl:Rel K G H M):Same G (fA G H M):=fun b o h=>by
 unfold fA; rw [if_neg (by rw [aBG (rl.gM h)]; exact Bool.false_ne_true)]; exact h
theorem Rel.loan (rl:Rel K G H M):Rel K (fA G H M) H noM:=⟨fun b o h=>by
 unfold fA at h
 split at h
 ·exact h
 ·exact rl.same b o h,fun a o h=>nomatch h⟩
theorem Rel.loan_back (rl:Rel K G H M) (s:Stp K (fA G H M) H noM G1 H1 M1):Stp K G H M (fC G1 M) H1 M:=by
 have sg:Same G (fC G1 M):=fun b o h=>by
  unfold fC
  rw [if_neg (by rw [aBG (rl.gM h)]; exact Bool.false_ne_true)]
  exact s.gg b o (rl.loan_same b o h)
 have keep:∀ a m,M a=some m→fC G1 M a=none∧H1 a=H a:=fun a m e=>by
  obtain ⟨g0,mk⟩:=rl.mem a m e
  obtain ⟨u,hu⟩:=rl.got e
  cases m with
  | lst ds =>
   have t:tk M a=true:=by unfold tk; rw [e]
   refine ⟨by unfold fC; rw [if_pos t],?_⟩
   have h1:fA G H M a=some u:=by unfold fA; rw [if_pos t]; exact hu
   rw [s.rel.same a u (s.gg a u h1),hu]
  | st ks =>
   have t:¬ tk M a=true:=by unfold tk; rw [e]; exact Bool.false_ne_true
   have h1:fA G H M a=none:=by unfold fA; rw [if_neg t]; exact g0
   obtain ⟨x,y,_⟩:=s.fr a u hu h1 rfl
   exact ⟨by unfold fC; rw [if_neg t]; exact y,by rw [x,hu]⟩
  | ob ks =>
   have t:¬ tk M a=true:=by unfold tk; rw [e]; exact Bool.false_ne_true
   have h1:fA G H M a=none:=by unfold fA; rw [if_neg t]; exact g0
   obtain ⟨x,y,_⟩:=s.fr a u hu h1 rfl
   exact ⟨by unfold fC; rw [if_neg t]; exact y,by rw [x,hu]⟩
 refine ⟨sg,⟨fun b o h => ?_,fun a m e => ?_⟩,fun a o h g m => ?_⟩
 ·unfold fC at h
  split at h
  ·cases h
  ·exact s.rel.same b o h
 ·exact ⟨(keep a m e).1,(rl.mem a m e).2.mv sg (keep a m e).2⟩
 ·have t:¬ tk M a=true:=by rw [aBG m]; exact Bool.false_ne_true
  have h1:fA G H M a=none:=by unfold fA; rw [if_neg t]; exact g
  obtain ⟨x,y,_⟩:=s.fr a o h h1 rfl
  exact ⟨x,by unfold fC; rw [if_neg t]; exact y,m⟩
theorem aBZ {a:Addr}{vs:List V} (hl:∀ b,tk M b=true→∃ ws,G1 b=some (.lst ws)) (h:SqT K G1 a vs):SqT K (fC G1 M) a vs:=by
 rcases h with h | h
 ·refine .inl ?_
  have ne:¬ tk M a=true:=fun t=>by
   obtain ⟨ws,e⟩:=hl a t
   rcases h with h | ⟨o,h⟩ <;> rw [e] at h <;> cases h
  have e:fC G1 M a=G1 a:=by unfold fC; rw [if_neg ne]
  rcases h with h | ⟨o,h⟩
  ·exact .inl (e.trans h)
  ·exact .inr ⟨o,e.trans h⟩
 ·exact .inr h
mutual
theorem den_strip (hl:∀ b,tk M b=true→∃ ws,G1 b=some (.lst ws)):∀ (d:D) {v:V},noL d=true→Den K G1 d v→Den K (fC G1 M) d v
 | .non,_,_,h=>by simp only [Den] at h ⊢; exact h
 | .bl _,_,_,h=>by simp only [Den] at h ⊢; exact h
 | .int _,_,_,h=>by simp only [Den] at h ⊢; exact h
 | .str _,_,_,h=>by simp only [Den] at h ⊢; exact h
 | .tup ds,_,n,h=>by
  simp only [noL] at n
  simp only [Den] at h ⊢
  obtain ⟨a,vs,e,q,r⟩:=h
  exact ⟨a,vs,e,aBZ hl q,dens_strip hl ds n r⟩
 | .mt _,_,n,_=>by simp [noL] at n
 | .lst _,_,n,_=>by simp [noL] at n
 | .fl _,_,n,_=>by simp [noL] at n
 | .st _,_,n,_=>by simp [noL] at n
theorem dens_strip (hl:∀ b,tk M b=true→∃ ws,G1 b=some (.lst ws)):∀ (ds:List D) {vs:List V},noLs ds=true→Dens K G1 ds vs→Dens K (fC G1 M) ds vs
 | [],_,_,h=>by simp only [Dens] at h ⊢; exact h
 | d::ds,_,n,h=>by
  simp only [noLs,Bool.and_eq_true] at n
  simp only [Dens] at h ⊢
  obtain ⟨v,r,e,h1,h2⟩:=h
  exact ⟨v,r,e,den_strip hl d n.1 h1,dens_strip hl ds n.2 h2⟩
end
end
def Ln (M:Mem) (d d':D):Prop:=∀ K G H v,Rel K G H M→Den K G d v→Den K (fA G H M) d' v
def Lns (M:Mem) (ds ds':List D):Prop:=∀ K G H vs,Rel K G H M→Dens K G ds vs→Dens K (fA G H M) ds' vs
theorem Ln.self {M:Mem} (d:D):Ln M d d:=fun K G H v rl h=>h.up rl.loan_same
theorem Ln.mt {M:Mem}{a:Addr}{ds:List D} (h:M a=some (.lst ds)):Ln M (.mt a) (.lst ds):=fun K G H v rl e=>by
 obtain ⟨_,vs,e1,e2⟩:=rl.mem a _ h
 rw [e.mt_]
 exact fR (by unfold fA tk; rw [h]; exact e1) (e2.up rl.loan_same)
theorem Lns.nil {M:Mem}:Lns M [] []:=fun K G H vs rl e=>by rw [cG e]; exact bV
theorem Lns.cons {M:Mem}{d d':D}{ds ds':List D} (h:Ln M d d') (r:Lns M ds ds'):Lns M (d::ds) (d'::ds'):=fun K G H vs rl e=>by
 obtain ⟨v,rr,rfl,h1,h2⟩:=bX e
 exact bC (h K G H v rl h1) (r K G H rr rl h2)
inductive LnE (M:Mem):Gm→Gm→Prop
 | n:LnE M [] []
 | s {o:Option D}{Γ Γ':Gm} (r:LnE M Γ Γ'):LnE M (o::Γ) (none::Γ')
 | c {d d':D}{Γ Γ':Gm} (h:Ln M d d') (r:LnE M Γ Γ'):LnE M (some d::Γ) (some d'::Γ')
theorem LnE.get {M:Mem}{Γ Γ':Gm} (l:LnE M Γ Γ'):Γ'.length=Γ.length∧∀ (i:Nat) (d':D),Γ'[i]?=some (some d')→∃ d,Γ[i]?=some (some d)∧Ln M d d':=by
 induction l with
 | n=>exact ⟨rfl,fun i d' h=>by simp at h⟩
 | s r ih =>
  refine ⟨by simp [ih.1],fun i d' h => ?_⟩
  cases i with
  | zero=>simp at h
  | succ i=>simpa using ih.2 i d' (by simpa using h)
 | c h r ih =>
  refine ⟨by simp [ih.1],fun i d' e => ?_⟩
  cases i with
  | zero=>simp at e; subst e; exact ⟨_,rfl,h⟩
  | succ i=>simpa using ih.2 i d' (by simpa using e)
theorem LnE.env {M:Mem}{Γ Γ':Gm} (l:LnE M Γ Γ') {K:Fg}{G H:Hp}{σ:St} (rl:Rel K G H M) (en:EnvR K G Γ σ):EnvR K (fA G H M) Γ' σ:=by
 obtain ⟨h1,h2⟩:=l.get
 refine ⟨by rw [h1]; exact en.len,fun i d' e => ?_⟩
 obtain ⟨d,e1,ln⟩:=h2 i d' e
 obtain ⟨v,e2,dv⟩:=en.get i d e1
 exact ⟨v,e2,ln K G H v rl dv⟩
section
variable {X:Cx}{Γ Γ':Gm}{M:Mem}{k:D→Mem→Prop}{kb:Bool→Mem→Prop}{e:Expr}{d0:D}{b0:Bool}
theorem aK8 (l:LnE M Γ Γ') (h:GT X e Γ' noM fun b _=>b=b0) (hk:kb b0 M):GT X e Γ M kb:=fun σ G H Q en rl q =>
 h σ _ H Q (l.env rl en) rl.loan fun b G1 H1 M1 s1 ed=>by
  subst ed
  exact q b _ H1 M (rl.loan_back s1) hk
end
end Z
namespace Z
open PySem L2
section
variable {X:Cx}{Γ:Gm}{M:Mem}{k:D→Mem→Prop}{kb:Bool→Mem→Prop}{pos:Pos}{a b c:Expr}
end
end Z
namespace Q
open PySem L2 Z
def p1 (x:Int):Int × Int:=(x,1)
structure Up7 (xs:List Int):Prop where
 up:xs.Pairwise (· < ·)
 few:xs.length≤7
 bd:∀ x∈xs, -1000000000≤x∧x≤1000000000
def dv (a b:Int):Int:=if b < 0 then -((Int.gcd a b:Nat):Int) else ((Int.gcd a b:Nat):Int)
def lowP (a b:Int):Int × Int:=(a.fdiv (dv a b),b.fdiv (dv a b))
def aI8:Ct:=fun ds M k=>∃ a b:Int,ds=[.int a, .int b]∧b≠0∧b.natAbs < 10 ^ 1000∧k (pairD (lowP a b)) M
theorem nV {xs:List Int} (h:xs.Pairwise (· < ·)) {i j:Nat} (hij:i≤j) (hj:j < xs.length):xs.getD i 0≤xs.getD j 0:=by
 rw [List.getD_eq_getElem?_getD,List.getD_eq_getElem?_getD,List.getElem?_eq_getElem (show i < xs.length by omega),List.getElem?_eq_getElem hj]
 by_cases e:i=j
 ·subst e; exact Int.le_refl _
 ·exact Int.le_of_lt (List.pairwise_iff_getElem.mp h i j (by omega) hj (by omega))
theorem l8 {xs:List Int} (h:xs.Pairwise (· < ·)) {i j:Nat} (hij:i < j) (hj:j < xs.length):xs.getD i 0 < xs.getD j 0:=by
 rw [List.getD_eq_getElem?_getD,List.getD_eq_getElem?_getD,List.getElem?_eq_getElem (show i < xs.length by omega),List.getElem?_eq_getElem hj]
 exact List.pairwise_iff_getElem.mp h i j (by omega) hj (by omega)
end Q
namespace L2
open PySem PySem.Spec PyProof.Rows
section
variable {X:Cx}
theorem pL {prog:Program}{w:World}{A:Around} (hh:A.handled=none) (it:Addr) (x:Str) (t:Tok) :
  Draws prog w A it [it] x.cps.size (fun i v=>∃ c u,x.cps[i]?=some c∧v = .str ⟨#[c]⟩ u) (fun i h=>h.IsStrIter it (strIterType x) x t i):=by
 unfold strIterType
 split
 ·first | exact Draws.strAscii hh it x t | exact Draws.strWide hh it x t
 ·first | exact Draws.strWide hh it x t | exact Draws.strAscii hh it x t
end
end L2
namespace Z
open PySem L2
section
variable {X:Cx}{Γ:Gm}{M:Mem}{k:D→Mem→Prop}{pos:Pos}{a b:Expr}{rest:List Expr}
end
end Z
namespace Q
open PySem L2 Z
structure Bg (p:Int × Int):Prop where
 a:p.1.natAbs < 10 ^ 400
 b:p.2.natAbs < 10 ^ 400
 c:p.2≠0
theorem big400 {i:Int} (h:i.natAbs < 10 ^ 400):i.natAbs < big:=Nat.lt_of_lt_of_le h (by unfold big; decide)
theorem sB {p q:Int × Int} (hp:Bg p) (hq:Bg q):p.2 * q.2≠0∧(p.2 * q.2).natAbs < 10 ^ 1000:=by
 refine ⟨Int.mul_ne_zero hp.c hq.c,?_⟩
 rw [Int.natAbs_mul]
 refine Nat.lt_of_lt_of_le (Nat.mul_lt_mul'' hp.b hq.b) ?_
 rw [← Nat.pow_add]
 exact Nat.pow_le_pow_right (by decide) (by decide)
def lowG (t b:Int):Int × Int:=(t.fdiv ((Int.gcd t b:Nat):Int),b.fdiv ((Int.gcd t b:Nat):Int))
structure Spot (xs:List Int) (v:Int × Int) (cols:List Int):Prop where
 pos:0 < v.2
 sm:v.1.natAbs < 10 ^ 65∧v.2.natAbs < 10 ^ 65
 at_:(∃ k:Nat,k < xs.length∧v=p1 (xs.getD k 0)∧cols=[(k:Int) - 1,(k:Int)])∨(∃ k:Int,cols=[k]∧∀ i,i < xs.length→(xs.getD i 0 * v.2 < v.1↔(i:Int)≤k)∧xs.getD i 0 * v.2≠v.1)
end Q
namespace PySem
namespace F
theorem rE:Manifest.owners.lookup (String.ofList ['d','e','s','r','e','v','e','r'].reverse)=some Manifest.sig_reversed:=by kernel_rfl
theorem gS:Slot "reversed" "__next__" "reversed.__next__" :=
 .of (owner := "reversed") (n := "__next__") (by rw [typeLookup_type,builtinLookup_eq_fast]; kernel_rfl) (by decide +kernel) (by decide +kernel) (by decide +kernel)
  (by first | exact .inl (by decide +kernel) | exact .inr (by decide +kernel)) (by rw [isSubtype_type]; kernel_rfl)
theorem oZ:entryFor table "reversed.__next__" = some Builtin.«reversed.__next__» := entryFor_of_tree (by kernel_rfl)
theorem nA (a:Value):argsOk "reversed.__next__" ⟨[a],[]⟩:=by
 unfold argsOk; rw [signature?_of (id := "reversed.__next__") (n:=['_','_','t','x','e','n','_','_']) (o:=['d','e','s','r','e','v','e','r']) (by kernel_rfl) rE]; kernel_rfl
theorem o5:Slot "reversed" "__iter__" "reversed.__iter__" :=
 .of (owner := "reversed") (n := "__iter__") (by rw [typeLookup_type,builtinLookup_eq_fast]; kernel_rfl) (by decide +kernel) (by decide +kernel) (by decide +kernel)
  (by first | exact .inl (by decide +kernel) | exact .inr (by decide +kernel)) (by rw [isSubtype_type]; kernel_rfl)
theorem uP (a:Value):argsOk "reversed.__iter__" ⟨[a],[]⟩:=by
 unfold argsOk; rw [signature?_of (id := "reversed.__iter__") (n:=['_','_','r','e','t','i','_','_']) (o:=['d','e','s','r','e','v','e','r']) (by kernel_rfl) rE]; kernel_rfl
theorem vS:entryFor table "reversed.__iter__" = some Builtin.«dict_keyiterator.__iter__» :=
 entryFor_alias (id' := "dict_keyiterator.__iter__") (by kernel_rfl) (by first | rfl | decide +kernel | (unfold String.splitOn; simp +decide [String.splitOnAux])) (by decide +kernel) (by kernel_rfl)
theorem xD:Slot "reversed" "__init__" "object.__init__" :=
 .of (owner := "object") (n := "__init__") (by rw [typeLookup_type,builtinLookup_eq_fast]; kernel_rfl) (by decide +kernel) (by decide +kernel) (by decide +kernel)
  (by first | exact .inl (by decide +kernel) | exact .inr (by decide +kernel)) (by rw [isSubtype_type]; kernel_rfl)
theorem sM:TypeCalled "reversed" "reversed.__new__" "object.__init__" :=
 ⟨by decide +kernel,by decide +kernel,⟨_,_,mro_reversed⟩,made_reversed,by decide +kernel,by rw [isSubtype_type]; kernel_rfl,xD⟩
theorem zP:typeLookup (.type "tuple") "__reversed__" = pure none:=by rw [typeLookup_type,builtinLookup_eq_fast]; kernel_rfl
theorem aDQ:typeLookup (.type "str") "__reversed__" = pure none:=by rw [typeLookup_type,builtinLookup_eq_fast]; kernel_rfl
theorem aFZ:typeLookup (.type "reversed") "__len__" = pure none:=by rw [typeLookup_type,builtinLookup_eq_fast]; kernel_rfl
theorem aJH:typeLookup (.type "reversed") "__length_hint__" = pure (some (.builtin "reversed.__length_hint__")):=by rw [typeLookup_type,builtinLookup_eq_fast]; kernel_rfl
theorem pN:Slot "reversed" "__length_hint__" "reversed.__length_hint__" :=
 .of (owner := "reversed") (n := "__length_hint__") (by rw [typeLookup_type,builtinLookup_eq_fast]; kernel_rfl) (by decide +kernel) (by decide +kernel) (by decide +kernel)
  (by first | exact .inl (by decide +kernel) | exact .inr (by decide +kernel)) (by rw [isSubtype_type]; kernel_rfl)
theorem vR:entryFor table "reversed.__length_hint__" = some Builtin.«reversed.__length_hint__» := entryFor_of_tree (by kernel_rfl)
theorem uK (a:Value):argsOk "reversed.__length_hint__" ⟨[a],[]⟩:=by
 unfold argsOk; rw [signature?_of (id := "reversed.__length_hint__") (n:=['_','_','t','n','i','h','_','h','t','g','n','e','l','_','_']) (o:=['d','e','s','r','e','v','e','r']) (by kernel_rfl) rE]; kernel_rfl
end F
def wF (v:Value) (i:Int):Obj:={ cls := .type "reversed", data := .fields #[v,rawInt i] }
def Heap.IsRv (h:Heap) (a:Addr) (v:Value) (i:Int):Prop:=∃ o,h.get? a=some o∧o.cls = .type "reversed" ∧ o.data = .fields #[v,rawInt i]
section
variable {prog:Program}{w:World}{A:Around}{E:Value→Shared→Prop}{s:Shared}
theorem Heap.IsRv.typeIs {a:Addr}{v:Value}{i:Int} (x:s.heap.IsRv a v i):s.TypeIs (.ref a) "reversed" := let ⟨o,ho,hc,_⟩:=x; ⟨o,ho,hc⟩
theorem pC {v:Value}{T gid:String}{n:Int} (hrev:typeLookup (.type T) "__reversed__" = pure none) (hdict:isSubtype (.type T) (.type "dict")=pure false)
  (hgi:typeLookup (.type T) "__getitem__" = pure (some (.builtin gid))) (hin:["tuple.__getitem__", "str.__getitem__", "bytes.__getitem__", "bytearray.__getitem__", "memoryview.__getitem__", "numpy.ndarray.__getitem__", "sqlite3.Row.__getitem__"].contains gid=true) :
  Meets (Builtin.«reversed.__new__» ⟨[.type "reversed", v],[]⟩) (fun A R s=>s.TypeIs v T ∧
   (∀ (prog:Program) (w:World) (Q:Value→Shared→Prop) (E:Value→Shared→Prop),Q (.int n (s.toks+1)) { s with toks:=s.toks+1+1 }→wpAny (model prog w) A.in1 (call (.builtin "len") [v]) Q E s) ∧
   R (.ok (.ret (.ref s.heap.objs.size))) { s with heap:=s.heap.push (wF v (n - 1)),toks:=s.toks+1+1 }) :=
 .of_wp fun prog w A R s ⟨hT,hlen,h⟩=>by
  unfold Builtin.«reversed.__new__»
  refine wpAny_bind (wpAny_of_eq (newClass_reversed _) ?_)
  try dsimp only
  refine wpAny_bind (wpAny_of_eq (a:=()) (by first | rfl | kernel_rfl) ?_)
  refine wpAny_bind (wpAny_of_eq (a:=()) (by first | rfl | kernel_rfl) ?_)
  try dsimp only
  refine wpAny_bind (wpAny_specialOf hT hrev ?_)
  try dsimp only
  refine wpAny_bind ?_
  refine wpAny_bind (wpAny_isInstance hT hdict ?_)
  rw [if_neg Bool.false_ne_true]
  refine wpAny_bind (wpAny_specialOf hT hgi ?_)
  dsimp only
  rw [if_pos hin]
  refine wpAny_pure ?_
  rw [if_neg (show ¬ ((!true)=true) from Bool.false_ne_true)]
  refine wpAny_bind (hlen _ _ _ _ ?_)
  refine wpAny_bind (m:=asInt? (.int n (s.toks+1))) (wpAny_pure ?_)
  dsimp only
  refine wpAny_bind (m:=Builtin.SmallTypes.newRecord (Value.type "reversed") [v,rawInt (n - 1)]) ?_
  show wpAny _ _ (newObj (Value.type "reversed") (.fields #[v,rawInt (n - 1)])) _ _ _
  exact wpAny_newObj_type (wpAny_pure ⟨_,rfl,h⟩)
theorem lQ {v:Value}{T gid:String}{n:Int}{Q:Value→Shared→Prop} (hrev:typeLookup (.type T) "__reversed__" = pure none) (hdict:isSubtype (.type T) (.type "dict")=pure false)
  (hgi:typeLookup (.type T) "__getitem__" = pure (some (.builtin gid))) (hin:["tuple.__getitem__", "str.__getitem__", "bytes.__getitem__", "bytearray.__getitem__", "memoryview.__getitem__", "numpy.ndarray.__getitem__", "sqlite3.Row.__getitem__"].contains gid=true)
  (hT:s.TypeIs v T) (hlen:∀ (A:Around) (prog:Program) (w:World) (Q:Value→Shared→Prop) (E:Value→Shared→Prop),Q (.int n (s.toks+1)) { s with toks:=s.toks+1+1 }→wpAny (model prog w) A (call (.builtin "len") [v]) Q E s)
  (h:Q (.ref s.heap.objs.size) { s with heap:=s.heap.push (wF v (n - 1)),toks:=s.toks+1+1 }):wpAny (model prog w) A (call (.type "reversed") [v]) Q E s:=by
 refine callType_new F.sM (by decide) (F.typeCall_reversed_1 _) (F.newCall_reversed_1 _) (fun obj=>F.args_object_init_2 obj _) F.entry_reversed_new (pC (n:=n) hrev hdict hgi hin) ?_
 exact ⟨hT,fun _ _ _ _=>hlen _ _ _ _ _,⟨_,Heap.get?_push_size _ rfl,rfl⟩,h⟩
theorem jL {it:Addr}{v:Value}{T gid:String}{i:Nat}{P:Value→Prop}{Q:Option Value→Shared→Prop} (hit:s.heap.IsRv it v (i:Int)) (hT:s.TypeIs v T) (hgi:typeLookup (.type T) "__getitem__" = pure (some (.builtin gid)))
  (hget:∀ (A:Around) (u tk:Tok) (Q:Value→Shared→Prop) (E:Value→Shared→Prop),(∀ x tk',P x→Q x { s with toks:=tk' })→wpAny (model prog w) A (getItem v (.int (i:Int) u)) Q E { s with toks:=tk })
  (hQ:∀ x h' tk,P x→h'.IsRv it v ((i:Int) - 1)→Heap.SameBut it s.heap h'→Q (some x) { s with heap:=h',toks:=tk }):wpAny (model prog w) A (pyNext (.ref it)) Q E s:=by
 obtain ⟨o,ho,hc,hd⟩:=id hit
 unfold pyNext
 refine wpAny_bind (wpAny_attempt (wpAny_callSpecial?_slot (name:=Str.ofString "__next__") hit.typeIs F.gS
  (wpAny_call_entry F.gS hit.typeIs F.oZ ?_ (F.nA _))))
 unfold Builtin.«reversed.__next__»
 refine wpAny_bind (wpAny_of_eq (a:=(Value.ref it,[])) rfl ?_)
 try dsimp only
 refine wpAny_bind (wpAny_field ho hd (x:=v) rfl ?_)
 refine wpAny_bind (wpAny_field ho hd (x:=rawInt (i:Int)) rfl ?_)
 show wpAny _ _ (if (i:Int) < 0 then _ else _) _ _ s
 rw [if_neg (by omega)]
 refine wpAny_bind (wpAny_specialOf hT hgi ?_)
 rw [if_neg (show ¬ (Option.isNone (some (Value.builtin gid))=true) from Bool.false_ne_true)]
 refine wpAny_bind (wpAny_mkInt ?_)
 refine wpAny_bind (wpAny_attempt (hget _ _ _ _ _ fun x tk' px => ?_))
 try dsimp only
 refine wpAny_bind (wpAny_field (s:={ s with toks:=tk' }) ho hd (x:=rawInt (i:Int)) rfl ?_)
 show wpAny _ _ (setField (.ref it) 1 (rawInt ((i:Int) - 1)) >>= _) _ _ _
 refine wpAny_bind (wpAny_setField (s:={ s with toks:=tk' }) ho hd (by simp) ?_)
 refine wpAny_pure ⟨x,rfl,wpAny_pure (hQ x _ tk' px ?_ (Heap.SameBut.update ..))⟩
 exact ⟨_,Heap.get?_update_self _ ho (Obj.isFreed_of_fields (Obj.data_mapFields hd _)),(Obj.cls_mapFields ..).trans hc,by
  rw [Obj.data_mapFields hd]; simp⟩
theorem jP {it:Addr}{v:Value}{Q:Option Value→Shared→Prop} (hh:A.handled=none) (hit:s.heap.IsRv it v (-1))
  (hQ:∀ h',Heap.ExtBut it s.heap h'→Q none { s with heap:=h' }):wpAny (model prog w) A (pyNext (.ref it)) Q E s:=by
 obtain ⟨o,ho,hc,hd⟩:=id hit
 unfold pyNext
 refine wpAny_bind (wpAny_attempt (wpAny_callSpecial?_slot (name:=Str.ofString "__next__") hit.typeIs F.gS
  (wpAny_call_entry F.gS hit.typeIs F.oZ ?_ (F.nA _))))
 unfold Builtin.«reversed.__next__»
 refine wpAny_bind (wpAny_of_eq (a:=(Value.ref it,[])) rfl ?_)
 try dsimp only
 refine wpAny_bind (wpAny_field ho hd (x:=v) rfl ?_)
 refine wpAny_bind (wpAny_field ho hd (x:=rawInt (-1)) rfl ?_)
 show wpAny _ _ (if (-1:Int) < 0 then _ else _) _ _ s
 rw [if_pos (by decide)]
 refine wpAny_bind (wpAny_rule ?_)
 refine wpAny_bind ?_
 refine wpAny_bind (wpAny_setField ho hd (by simp) ?_)
 refine wpAny_setField (Heap.get?_update_self _ ho (Obj.isFreed_of_fields (Obj.data_mapFields hd _))) (Obj.data_mapFields hd _) (by simp) ?_
 first
 | show wpAny _ _ (newExc (.type "StopIteration") [] >>= _) _ _ _
 | (refine wpAny_bind ?_; show wpAny _ _ (newExc (.type "StopIteration") [] >>= _) _ _ _)
 refine wpAny_bind ?_
 simp only [newExc,newTuple]
 refine wpAny_bind (wpAny_newObj_type ?_ (by size_fits))
 refine wpAny_bind (m:=firstArgMember _ _) (wpAny_of_eq (a:=Value.none) (by first | rfl | (simp only [firstArgMember]; rfl)) ?_)
 refine wpAny_newObj_type ?_ (by size_fits)
 simp only [raiseNew]
 refine wpAny_bind (wpAny_handled ?_)
 first | rw [show A.in1.handled=none from hh] | rw [hh]
 refine wpAny_bind (wpAny_pure (wpAny_throw ?_))
 refine wpAny_bind (wpAny_isInstance (T := "StopIteration") (b:=true) ⟨_,Heap.get?_push_size _ rfl,rfl⟩ isSubtype_stop ?_)
 refine wpAny_pure (hQ _ ?_)
 exact fun b o hb e=>Heap.get?_push_of_some _ (Heap.get?_push_of_some _ (((Heap.SameBut.update ..).2 b hb).trans (((Heap.SameBut.update ..).2 b hb).trans e)))
theorem gI {it:Addr}{v:Value}{i:Int}{Q:Value→Shared→Prop} (hit:s.heap.IsRv it v i) (h:Q (.ref it) s):wpAny (model prog w) A (pyIter (.ref it)) Q E s:=by
 refine wpAny_pyIter_slot hit.typeIs F.o5 (wpAny_call_entry F.o5 hit.typeIs F.vS ?_ (F.uP _))
 show wpAny _ _ (ret (.ref it)) _ _ s
 exact wpAny_pure ⟨_,rfl, "reversed", _,hit.typeIs,F.gS.lookup,h⟩
end
end PySem
namespace PySem
open PyProof.Rows
theorem Walks.revStr {prog:Program}{w:World}{A:Around} (hh:A.handled=none) (I:Addr) (x:Str) (t:Tok) (hx:x.cps.size≤sizeLine) :
  Walks prog w A I [I] [I] x.cps.size (fun i v=>∃ c u,x.cps[x.cps.size - 1 - i]?=some c∧v = .str ⟨#[c]⟩ u) (fun i h=>i≤x.cps.size∧h.IsRv I (.str x t) ((x.cps.size:Int) - 1 - (i:Int))) where
 sub:=fun b hb=>hb
 frame:=fun _ _ _ st hk=>⟨st.1,let ⟨o,ho,r⟩:=st.2; ⟨o,hk I (by simp) o ho,r⟩⟩
 item:=fun i s Q E hi st hQ=>by
  have e:(x.cps.size:Int) - 1 - (i:Int)=((x.cps.size - 1 - i:Nat):Int):=by omega
  have hit:=st.2
  rw [e] at hit
  have hs:sizeLine=16777216:=sizeLine_eq
  have hlt:x.cps.size - 1 - i < x.cps.size:=by omega
  refine jL (P:=fun v=>∃ c u,x.cps[x.cps.size - 1 - i]?=some c∧v = .str ⟨#[c]⟩ u) hit (typeIs_str s x t) F.slot_str_getitem.lookup (fun A u tk Q E q => ?_) fun v h' tk pv hit' hs' => ?_
  ·refine getItem_str (s:={ s with toks:=tk }) (c:=x.cps[x.cps.size - 1 - i]) (by rw [Bool.or_eq_false_iff,decide_eq_false_iff_not,decide_eq_false_iff_not]; omega) ?_ (q _ _ ⟨_,_,by rw [Array.getElem?_eq_getElem hlt],rfl⟩)
   have e1:seqIndex? ((x.cps.size - 1 - i:Nat):Int) x.length=some (x.cps.size - 1 - i):=by
    unfold seqIndex?
    have:x.length=x.cps.size:=rfl
    simp; omega
   rw [e1,Option.bind_some,Array.getElem?_eq_getElem hlt]
  ·have e2:((x.cps.size - 1 - i:Nat):Int) - 1=(x.cps.size:Int) - 1 - ((i+1:Nat):Int):=by omega
   rw [e2] at hit'
   exact hQ _ h' tk pv ⟨hi,hit'⟩ fun b o hb eo=>hs'.extBut b o (fun h=>hb (by simp [h])) eo
 done:=fun s Q E st hQ=>by
  have hit:=st.2
  rw [show (x.cps.size:Int) - 1 - (x.cps.size:Int) = -1 by omega] at hit
  exact jP hh hit fun h' he'=>hQ h' s.toks fun b o hb eo=>he' b o (fun h=>hb (by simp [h])) eo
 self:=fun _ _ _ _ st hQ=>gI st.2 hQ
section
variable {prog:Program}{w:World}{A:Around}{E:Value→Shared→Prop}{s:Shared}{I:Addr}
theorem vQ {x:Str}{t:Tok}{i:Int}{Q:Value→Shared→Prop} (hx:x.cps.size≤sizeLine) (hit:s.heap.IsRv I (.str x t) i) (hi:i+1≤x.cps.size)
  (hQ:∀ u tk,s.toks≤tk→Q (.int (i+1) u) { s with toks:=tk }):wpAny (model prog w) A (call (.builtin "reversed.__length_hint__") [.ref I]) Q E s:=by
 obtain ⟨o,ho,hc,hd⟩:=id hit
 have hs:sizeLine=16777216:=sizeLine_eq
 refine wpAny_call_entry F.pN hit.typeIs F.vR ?_ (F.uK _)
 unfold Builtin.«reversed.__length_hint__»
 refine wpAny_bind (wpAny_of_eq (a:=Value.ref I) rfl ?_)
 refine wpAny_bind (wpAny_field ho hd (x := .str x t) rfl ?_)
 rw [if_neg (show ¬ ((Value.str x t == Value.none)=true) from Bool.false_ne_true)]
 have hl:x.length=x.cps.size:=rfl
 refine wpAny_bind (len_str (by omega) ?_)
 refine wpAny_bind (m:=asInt? _) (wpAny_pure ?_)
 try dsimp only
 refine wpAny_bind (wpAny_field (s:={ s with toks:=_ }) ho hd (x:=rawInt i) rfl ?_)
 show wpAny _ _ (if (x.length:Int) < i+1 then _ else _) _ _ _
 rw [if_neg (by omega)]
 exact wpAny_bind (wpAny_mkInt (wpAny_pure ⟨_,rfl,hQ _ _ (by show s.toks≤s.toks+1+1+1; omega)⟩))
end
end PySem
namespace PySem
open PyProof.Rows
section
variable {prog:Program}{w:World}{A:Around}{E:Value→Shared→Prop}{s:Shared}{I:Addr}
theorem r0 {x:Str}{t:Tok}{Q:List Value→Shared→Prop} (hh:A.handled=none) (hn:x.cps.size≤sizeLine) (hit:s.heap.IsRv I (.str x t) ((x.cps.size:Int) - 1))
  (hQ:∀ s' acc,Moved [I] (fun a b=>b=a) s s'→ItemsOf (fun i v=>∃ c u,x.cps[x.cps.size - 1 - i]?=some c∧v = .str ⟨#[c]⟩ u) acc x.cps.size→Q acc.toList s'):wpAny (model prog w) A (collect (.ref I)) Q E s:=by
 have W:=(Walks.revStr (prog:=prog) (w:=w) (A:=A.in1) hh I x t hn).toS
 have hst:0≤x.cps.size∧s.heap.IsRv I (.str x t) ((x.cps.size:Int) - 1 - ((0:Nat):Int)):=⟨Nat.zero_le _,by rw [show (x.cps.size:Int) - 1 - ((0:Nat):Int)=(x.cps.size:Int) - 1 by omega]; exact hit⟩
 have hlt:I < s.heap.objs.size:=by obtain ⟨o,ho,_⟩:=hit; exact Heap.lt_size ho
 have hSI:s.heap.objs.size≠I:=Nat.ne_of_gt hlt
 have hSf:s.heap.objs.size ∉ [I]:=fun h=>hSI (List.mem_singleton.mp h)
 unfold collect
 refine wpAny_bind (wpAny_runValue (codeAny_builtin F.entry_proto_collect ?_))
 rw [Around.under_plainId F.plain_proto_collect _]
 show wpAny _ A.in1 (newList [] >>= fun l=>again (.builtin "list.__iadd__" ⟨[l, .ref I],[]⟩)) _ _ s
 refine wpAny_bind (wpAny_newObj_type ?_)
 refine wpAny_pure ⟨plainId_quiet F.plain_list_iadd _,codeAny_builtin F.entry_list_iadd ?_⟩
 rw [Around.under_plainId F.plain_list_iadd _]
 have hst₁:=W.frame 0 s (s.heap.push { cls := .type "list", data := .seq ([]:List Value).toArray }) s.toks hst (Nat.le_refl _) fun b _ o e=>Heap.get?_push_of_some _ e
 have hS₁:(s.heap.push { cls := .type "list", data := .seq ([]:List Value).toArray }).get? s.heap.objs.size=some { cls := .type "list", data := .seq ([]:List Value).toArray }:=Heap.get?_push_size _ rfl
 have h1:Builtin.List.listSameRef (.ref s.heap.objs.size) (.ref I)=false:=by simp [Builtin.List.listSameRef,hSI]
 show wpAny _ A.in1 (Builtin.List.listExtendWith (.ref s.heap.objs.size) (.ref I) (.ref s.heap.objs.size)) _ _ _
 unfold Builtin.List.listExtendWith
 refine wpAny_bind (wpAny_typeOf hst₁.2.typeIs ?_)
 rw [if_neg (by rw [h1]; decide)]
 refine wpAny_bind (W.self 0 _ _ _ hst₁ ?_)
 refine wpAny_bind (wpAny_holding ?_)
 unfold Builtin.List.listLengthHint
 refine wpAny_bind (wpAny_specialOf hst₁.2.typeIs F.aFZ ?_)
 show wpAny _ A.in1 (specialOf (Value.ref I) (Str.ofString "__length_hint__") >>= _) _ _ _
 refine wpAny_bind (wpAny_specialOf hst₁.2.typeIs F.aJH ?_)
 (generalize hid:("reversed.__length_hint__" : String)=id0; (fail_if_success (clear hid id0)); wp_delta; rw [show splitId id0=some ("reversed", "__length_hint__") from by subst hid; decide +kernel]; subst hid)
 refine wpAny_bind (wpAny_isInstance (b:=true) hst₁.2.typeIs (by rw [isSubtype_type]; kernel_rfl) ?_)
 rw [if_neg (show ¬ ((!true)=true) from Bool.false_ne_true)]
 rw [if_neg (show ¬ (_=true) from by first | decide +kernel | (intro h; revert h; decide +kernel))]
 refine wpAny_bind (wpAny_rule ?_)
 refine wpAny_bind (wpAny_of_eq (F.pN.bind _) ?_)
 dsimp only
 refine wpAny_bind (wpAny_attempt (vQ hn hst₁.2 (by omega) fun u tk htk => ?_))
 have en:(x.cps.size:Int) - 1 - ((0:Nat):Int)+1=(x.cps.size:Int):=by omega
 rw [en]
 have hsl:sizeLine=16777216:=sizeLine_eq
 have hfit:Builtin.List.listFitsIndex (x.cps.size:Int)=true:=by
  unfold Builtin.List.listFitsIndex
  rw [Bool.and_eq_true,decide_eq_true_eq,decide_eq_true_eq]
  omega
 have hlong:¬ (Builtin.List.listTooLong ((x.cps.size:Int)).toNat=true):=by
  unfold Builtin.List.listTooLong
  rw [decide_eq_true_eq]; omega
 have hneg:¬ ((x.cps.size:Int) < 0):=by omega
 generalize hN:(x.cps.size:Int)=N at hfit hlong hneg ⊢
 show wpAny _ _ (asInt? (.int N u) >>= _) _ _ _
 refine wpAny_bind (wpAny_of_eq (a:=some N) rfl ?_)
 dsimp only
 rw [hfit,if_neg (show ¬ ((!true)=true) from Bool.false_ne_true),if_neg hneg,if_neg hlong]
 refine wpAny_pure ?_
 have hst₂:=W.frame 0 _ _ tk hst₁ htk fun b _ o e=>e
 by_cases h0:x.cps.size=0
 ·rw [show ((N != 0)=false) from by rw [← hN,h0]; rfl]
  rw [if_neg (by decide)]
  refine wpAny_pure ⟨plainId_quiet F.plain_extend_loop _,codeAny_extend_loopS W hn _ hSf _ x.cps.size 0 _ _ _ rfl (Nat.zero_le _) hst₂ hS₁ (ItemsOf.nil _) fun s' acc' c' hm hS' hacc => ?_⟩
  show wpAny _ A (load s.heap.objs.size >>= _) _ _ s'
  refine wpAny_bind (wpAny_load hS' ?_)
  exact wpAny_pure (hQ s' acc' (Moved.drop_new (o:={ cls := .type "list", data := .seq ([]:List Value).toArray }) (tk:=tk) hm htk) hacc)
 ·rw [show ((N != 0)=true) from by rw [bne_iff_ne]; omega]
  show wpAny _ A.in1 (rule "list.extend.makes-room" >>= fun _=>Builtin.List.listTouch (.ref s.heap.objs.size) >>= fun _ =>
   again (.builtin "list.extend.loop" ⟨[.ref s.heap.objs.size, .ref I, .ref s.heap.objs.size],[]⟩)) _ _ _
  refine wpAny_bind (wpAny_rule ?_)
  refine wpAny_bind ?_
  show wpAny _ A.in1 (updateSeq s.heap.objs.size (·.push .none) >>= fun _=>updateSeq s.heap.objs.size (·.pop)) _ _ _
  refine wpAny_bind (wpAny_updateSeq hS₁ rfl ?_)
  have hS₂:=Heap.get?_update_self (Obj.mapSeq (·.push Value.none)) hS₁ rfl
  refine wpAny_updateSeq hS₂ rfl ?_
  have hS₃:=Heap.get?_update_self (Obj.mapSeq (·.pop)) hS₂ rfl
  have oth:∀ b o,b≠s.heap.objs.size→(s.heap.push { cls := .type "list", data := .seq ([]:List Value).toArray }).get? b=some o →
    (((s.heap.push { cls := .type "list", data := .seq ([]:List Value).toArray }).update s.heap.objs.size (Obj.mapSeq (·.push Value.none))).update s.heap.objs.size (Obj.mapSeq (·.pop))).get? b=some o :=
   fun b o hb e=>(Heap.get?_update_other _ _ (Ne.symm hb)).trans ((Heap.get?_update_other _ _ (Ne.symm hb)).trans e)
  refine wpAny_pure ⟨plainId_quiet F.plain_extend_loop _,codeAny_extend_loopS W hn _ hSf _ x.cps.size 0 _ _ _ rfl (Nat.zero_le _)
   (W.frame 0 ({ s with heap:=s.heap.push { cls := .type "list", data := .seq ([]:List Value).toArray } }:Shared) _ tk hst₁ htk fun b hb o e=>oth b o (fun h=>hSf (h ▸ hb)) e) hS₃ (ItemsOf.nil _) fun s' acc' c' hm hS' hacc => ?_⟩
  show wpAny _ A (load s.heap.objs.size >>= _) _ _ s'
  refine wpAny_bind (wpAny_load hS' ?_)
  exact wpAny_pure (hQ s' acc' (Moved.drop_new (o:={ cls := .type "list", data := .seq ([]:List Value).toArray }) (tk:=tk) (Moved.trans W.gtrans (show Moved (s.heap.objs.size::[I]) (fun a b=>b=a) ({ s with heap:=s.heap.push { cls := .type "list", data := .seq ([]:List Value).toArray },toks:=tk }:Shared) ({ s with heap:=((s.heap.push { cls := .type "list", data := .seq ([]:List Value).toArray }).update s.heap.objs.size (Obj.mapSeq (·.push Value.none))).update s.heap.objs.size (Obj.mapSeq (·.pop)),toks:=tk }:Shared) from ⟨fun b o hb e=>oth b o (fun h=>hb (h ▸ List.mem_cons_self)) e,rfl,rfl,rfl,Nat.le_refl _⟩) hm) htk) hacc)
end
end PySem
namespace PySem
open PyProof.Rows
open Builtin Builtin.Str Builtin.Int
def nX (x:Str):List Str:=x.cps.toList.reverse.map fun c=>(⟨#[c]⟩:Str)
theorem yL (x:Str):(nX x).length=x.cps.size:=by simp [nX]
theorem yU {y:Str}{l:List (Str × Tok)} (h:ItemsOf (fun i v=>∃ c u,y.cps[y.cps.size - 1 - i]?=some c∧v = .str ⟨#[c]⟩ u) (strValues l).toArray y.cps.size):l.map (·.1)=nX y:=by
 have hsz:l.length=y.cps.size:=by simpa [strValues] using h.1
 apply List.ext_getElem?
 intro j
 by_cases hj:j < l.length
 ·obtain ⟨c,u,hc,hv⟩:=h.2 j (.str l[j].1 l[j].2) (by simp [strValues,List.getElem?_eq_getElem hj])
  injection hv with h1 _
  have hc2:y.cps.toList.reverse[j]?=some c:=by
   rw [List.getElem?_reverse (by rw [Array.length_toList]; omega),Array.length_toList,Array.getElem?_toList]; exact hc
  unfold nX
  rw [List.getElem?_map,List.getElem?_map,hc2,List.getElem?_eq_getElem hj,Option.map_some,Option.map_some,h1]
 ·rw [List.getElem?_eq_none (by simpa using Nat.le_of_not_lt hj),List.getElem?_eq_none (by rw [yL]; omega)]
section
variable {prog:Program}{w:World}{A:Around}{E:Value→Shared→Prop}{s:Shared}{I:Addr}
theorem aIO {sep x:Str}{ts t:Tok}{Q:Value→Shared→Prop} (hh:A.handled=none) (hsep:sep.length≤16) (hx:x.cps.size≤1000) (hit:s.heap.IsRv I (.str x t) ((x.cps.size:Int) - 1))
  (hq:∀ s' t' k,Moved [I] (fun a b=>b=a) s s'→Q (.str (Txt.join sep (nX x)) t') { s' with toks:=k }):wpAny (model prog w) A (call (.builtin "str.join") [.str sep ts, .ref I]) Q E s:=by
 have hs:sizeLine=16777216:=sizeLine_eq
 refine wpAny_call (codeAny_call_builtin F.slot_str_join.plain F.entry_str_join (F.slot_str_join.check _ _ _ _ _ _ _ _ (typeIs_str _ _ _) (F.args_str_join_2 _ _) ?_))
 rw [join_tree_other]
 refine wpAny_bind (wpAny_typeOf hit.typeIs ?_)
 show wpAny _ A.in1 ((pyIter (.ref I)).tryCatch _ >>= fun it=>collect it >>= fun items=>joinTail sep items) _ _ s
 refine wpAny_bind (wpAny_tryCatch (gI hit ?_))
 refine wpAny_bind (r0 hh (by omega) hit fun s' acc hm hacc => ?_)
 obtain ⟨l,hl⟩:=exists_strValues acc.toList fun v hv=>by
  obtain ⟨j,hj,rfl⟩:=Array.mem_iff_getElem.mp (Array.mem_toList_iff.mp hv)
  obtain ⟨c,u,_,e⟩:=hacc.2 j _ (Array.getElem?_eq_getElem hj)
  exact ⟨_,u,e⟩
 rw [← hl]
 have hacc':=hacc
 rw [show acc=(strValues l).toArray from by rw [hl]] at hacc'
 have el:=yU hacc'
 have hok:JoinOk sep (l.map (·.1))=true:=by
  rw [el]
  refine joinOk_of_weight ?_ hsep
  rw [yL]
  unfold nX
  rw [signLens_sum,List.length_reverse,Array.length_toList]
  omega
 unfold JoinOk at hok
 rw [Bool.not_eq_true'] at hok
 have g:Gives (joinTail sep (strValues l)) (joinMade sep l):=by
  have g0:=gives_joinTail sep l hok
  cases l with
  | nil=>exact g0
  | cons p r=>cases r with
   | nil=>exact g0
   | cons q r'=>exact g0
 exact g prog w A (wants Q E) s' (post_join l ⟨joinFit_length hok,fun t' k=>by rw [el]; exact hq s' t' k hm⟩)
end
end PySem
namespace L2
open PySem PySem.Spec PyProof.Rows
section
variable {X:Cx}
def Irt (K:PySem.W.Frag) (a:Addr) (n:Nat):It :=
 ⟨fun i H=>∃ xs x,SqT K H a xs∧xs.length=n∧xs.reverse[i]?=some x,fun i H x H'=>H'=H∧∀ xs,SqT K H a xs→xs.reverse[i]?=some x,fun i H=>i=n⟩
theorem aE6 {P:Program}{w:World}{K:PySem.W.Frag}{tg:Expr} (a it:Addr) (n:Nat) (hn:n≤sizeLine):Turn P w K tg (Irt K a n) [it] it (fun i h=>h.IsRv it (.ref a) ((n:Int) - 1 - (i:Int))) where
 mem:=by simp
 obj:=fun i h st b hb=>by
  have e:b=it:=by simpa using hb
  subst e
  obtain ⟨o,e,c,d⟩:=st
  exact ⟨o,e,fun v z=>by rw [d] at z; cases z⟩
 keep:=fun i h h' st k=>let ⟨o,e,r⟩:=st; ⟨o,k it (by simp) o e,r⟩
 item:=by
  intro X hP hw hK hc i pins s σ H E I hf st hg
  subst hP hw hK
  obtain ⟨xs,x,hq,hxl,hx⟩:=hg
  obtain ⟨its,rv,p,hz⟩:=I.tuple hq
  have hil:i < xs.length:=by have:=(List.getElem?_eq_some_iff.mp hx).1; rwa [List.length_reverse] at this
  have hx2:xs[n - 1 - i]?=some x:=by rw [List.getElem?_reverse hil,hxl] at hx; exact hx
  obtain ⟨u,hu,ru⟩:=rv.get hx2
  obtain ⟨f0,f1,f2,f3,f4,f5⟩:=hf it (by simp)
  have hl:=rv.length
  have hs:sizeLine=16777216:=sizeLine_eq
  have e:(n:Int) - 1 - (i:Int)=((n - 1 - i:Nat):Int):=by omega
  rw [e] at st
  refine jL (P:=fun v=>v=u) st (show s.TypeIs (.ref a) "tuple" from p.typeIs) F.slot_tuple_getitem.lookup (fun A uu tk Q E q => ?_) fun v h' tk pv st' sb => ?_
  ·refine getItem_tuple (s:={ s with toks:=tk }) (items:=its.toArray) (j:=n - 1 - i) (x:=u) p (by omega) (by omega) ?_ (by simpa using hu) (q u tk rfl)
   unfold seqIndex?
   simp; omega
  ·subst pv
   have I1:Inv X pins σ H { s with heap:=h',toks:=tk }:=I.turned (t':=tk) (fun b o hb e=>(sb.2 b hb).trans e) f0 f1 f3 f4 f5
   have st2:h'.IsRv it (.ref a) ((n:Int) - 1 - ((i+1:Nat):Int)):=by rw [show (n:Int) - 1 - ((i+1:Nat):Int)=((n - 1 - i:Nat):Int) - 1 by omega]; exact st'
   obtain ⟨o,e,c,d⟩:=id st2
   exact ⟨v,rfl,vY (s:={ s with heap:=h',toks:=tk }) e c d (by decide) ⟨x,H,I1,ru,⟨rfl,fun ys hy=>by rw [I.tuple_inj hy hq]; exact hx⟩,st2,fun b hb=>(hf b hb).1⟩⟩
 done:=by
  intro X hP hw hK hc i pins s σ H E I hf st hg
  subst hP hw hK
  have hg':i=n:=hg
  subst hg'
  obtain ⟨f0,f1,f2,f3,f4,f5⟩:=hf it (by simp)
  rw [show (i:Int) - 1 - (i:Int) = -1 by omega] at st
  exact jP (I.ok.hd hc) st fun h' eb=>⟨rfl,I.turned (t':=s.toks) (fun b o hb e=>eb b o hb e) f0 f1 f3 f4 f5⟩
 self:=fun _ _ _ _ _ st h=>gI st h
def aNE (K:PySem.W.Frag) (ta:TA):TI:=fun σ H R=>ta σ H fun vs H1=>∃ a xs,vs=[.ref a]∧SqT K H1 a xs∧R (Irt K a xs.length) H1
theorem aIT {tg a:Expr}{ta:TA}{p pos:Pos} (hg:Gl X "reversed") (hm:X.mg "reversed" = none) (hv:bootBuiltins "reversed" = some (.type "reversed")) (ha:PA X [a] ta) (hs:starEach [a] X.env=[(false,eval a X.env)]:=by rfl) :
  PI X tg (.Call (.Name "reversed" p) [a] [] pos) (aNE X.K ta):=by
 intro pins s σ H R I h
 refine Call_ (iB I hg hm hv (PyProof.Rows.callWith_type1 (thn (ha pos pins s σ H _ I h) fun us s1 ⟨vs,H1,I1,r1,q1⟩ => ?_) hs rfl))
 obtain ⟨b,xs,e,hq,q⟩:=q1
 subst e
 obtain ⟨u,rfl,ru⟩:=vals1 r1
 cases ru
 obtain ⟨its,rv,pt,hz⟩:=I1.tuple hq
 have hl:=rv.length
 have hs:sizeLine=16777216:=sizeLine_eq
 have hll:=line63
 refine lQ (n:=(xs.length:Int)) F.zP F.sub_tuple_dict F.slot_tuple_getitem.lookup (by decide) (show s1.TypeIs (.ref b) "tuple" from pt.typeIs) (fun A prog w Q E q=>len_tuple pt (by simp only [List.size_toArray]; omega) (by simp only [List.size_toArray]; rw [← hl]; exact q)) ?_
 have hit:(s1.heap.push (wF (.ref b) ((xs.length:Int) - 1))).IsRv s1.heap.objs.size (.ref b) ((xs.length:Int) - 1 - ((0:Nat):Int)):=⟨_,Heap.get?_push_size _ rfl,rfl,by rw [show (xs.length:Int) - 1 - ((0:Nat):Int)=(xs.length:Int) - 1 by omega]; rfl⟩
 have I2:=I1.kept (h':=s1.heap.push (wF (.ref b) ((xs.length:Int) - 1))) (t':=s1.toks+1+1) fun b o e=>Heap.get?_push_of_some _ e
 refine gI (s:={ s1 with heap:=_,toks:=_ }) hit ?_
 refine ⟨_,[s1.heap.objs.size],_,Irt X.K b xs.length,H1,rfl,I2,aE6 b _ xs.length (by omega),hit,fun c hc => ?_,q⟩
 rw [List.mem_singleton] at hc
 subst hc
 exact I1.fpOk (Nat.le_refl _) (I1.hok.fresh (Nat.le_refl _))
def aGA (to:TE) (ta:TA):TE:=fun σ H Q=>to σ H fun x H1=>∃ sep,x = .str sep∧sep.length≤16∧ta σ H1 fun vs H2=>∃ y,vs=[.str y]∧y.cps.size≤1000∧Q (.str (Txt.join sep (nX y))) H2
theorem aBT {o a:Expr}{to:TE}{ta:TA}{p pos apos cpos:Pos} (hc:X.calm=true) (hg:Gl X "reversed") (hm:X.mg "reversed" = none) (hv:bootBuiltins "reversed" = some (.type "reversed")) (ho:PE X o to) (ha:PA X [a] ta)
  (hbase:attributeBase o "join" X.env (eval o X.env)=eval o X.env:=by rfl)
  (hfew:((backTo cpos (starEach [.Call (.Name "reversed" p) [a] [] pos] X.env)).all (fun x => !x.1) && (backToKw cpos (keywordEach [] X.env)).all (fun x=>x.1.isSome)
   && decide ([Expr.Call (.Name "reversed" p) [a] [] pos].length+([]:List Keyword).length+(if ([]:List Keyword).isEmpty then 0 else 1) < 30))=true:=by rfl)
  (hline:(apos.endLine == cpos.line)=true:=by rfl) (hs1:starEach [.Call (.Name "reversed" p) [a] [] pos] X.env=[(false,eval (.Call (.Name "reversed" p) [a] [] pos) X.env)]:=by rfl) (hs:starEach [a] X.env=[(false,eval a X.env)]:=by rfl) :
  PE X (.Call (.Attribute o "join" apos) [.Call (.Name "reversed" p) [a] [] pos] [] cpos) (aGA to ta):=by
 intro pins s σ H Q I h
 refine wpAny_Call_method_late hbase hfew hline rfl (thn (ho pins s σ H _ I h) fun v s1 ⟨x,H1,I1,r1,sep,ex,hsep,q1⟩ => ?_)
 subst ex
 obtain ⟨ts,rfl⟩:=r1
 refine ⟨"str", "str.join", F.plainAttrs_str,F.slot_str_join,F.type_str_join,typeIs_str _ _ _,fun a e=>(nomatch e),?_⟩
 rw [hs1]
 refine Calls.callWith_builtin rfl (Calls.evalArgs_plain ?_)
 show wpAny _ _ (spliced ((false,eval (.Call (.Name "reversed" p) [a] [] pos) X.env)::[])) _ _ s1
 refine Calls.spliced_cons ?_
 refine Call_ (iB I1 hg hm hv (PyProof.Rows.callWith_type1 (thn (ha pos pins s1 σ H1 _ I1 q1) fun us s2 ⟨vs,H2,I2,r2,q2⟩ => ?_) hs rfl))
 obtain ⟨y,e,hy,q⟩:=q2
 subst e
 obtain ⟨u,rfl,ru⟩:=vals1 r2
 obtain ⟨t,rfl⟩:=ru
 have hly:y.length=y.cps.size:=rfl
 refine lQ (n:=(y.cps.size:Int)) F.aDQ F.sub_str_dict F.slot_str_getitem.lookup (by decide) (typeIs_str _ _ _) (fun A prog w Q E q=>len_str (by omega) q) ?_
 refine Calls.spliced_nil ?_
 refine aIO (s:={ s2 with heap:=_,toks:=_ }) (I.ok.hd hc) hsep hy (⟨_,Heap.get?_push_size _ rfl,rfl,rfl⟩) fun s' t' k hm => ?_
 have I3:Inv X pins σ H2 { s2 with heap:=s'.heap,toks:=k }:=I2.kept (t':=k) fun b o e=>hm.heap b o (fun hb=>by rw [List.mem_singleton] at hb; exact absurd hb (Nat.ne_of_lt (Heap.lt_size e))) (Heap.get?_push_of_some _ e)
 have es:({ s' with toks:=k }:Shared)={ s2 with heap:=s'.heap,toks:=k }:=by
  obtain ⟨h',g',d',k',o'⟩:=s'
  have e1:=hm.gens
  have e2:=hm.drawn
  have e3:=hm.os
  simp only at e1 e2 e3
  rw [e1,e2,e3]
 rw [es]
 exact ⟨.str _,H2,I3,⟨t',rfl⟩,q⟩
end
end L2
namespace Z
open PySem L2
section
variable {X:Cx}{Γ:Gm}{M:Mem}{k:D→Mem→Prop}{pos:Pos}{a b o tg:Expr}{rest:List Expr}{ki:List D→Mem→Prop}
theorem aKF {K:Fg}{G0:Hp}{a:Addr}{vs:List V}{ds:List D} (s:SqT K G0 a vs) (dn:Dens K G0 ds vs):YD K (Irt K a vs.length) ds.reverse G0 where
 go:=fun i G H M sg rl h=>by
  have hl:=dn.len
  rw [List.length_reverse] at h
  exact ⟨vs,vs.reverse[i]'(by rw [List.length_reverse]; omega),R.eE rl.same (R.eE sg s),rfl,List.getElem?_eq_getElem _⟩
 yld:=fun i G H M v H' sg rl h y=>by
  obtain ⟨rfl,hy⟩:=y
  have hl:=dn.len
  rw [List.length_reverse] at h
  have e:=hy vs (R.eE rl.same (R.eE sg s))
  obtain ⟨d,hd,dd⟩:=dn.reverse.get' e
  exact ⟨G,d,Stp.refl rl,hd,dd.up sg⟩
 stop:=fun i G H M sg rl h=>by
  rw [List.length_reverse,dn.len] at h
  exact h
theorem aJW {p:Pos} (hm:X.mg "reversed" = none) (hv:bootBuiltins "reversed" = some (.type "reversed")) (h:GA X [a] Γ M fun ds M1=>∃ es,ds=[.tup es]∧ki es.reverse M1) (hg:Gl X "reversed" := by rfl) (hs:starEach [a] X.env=[(false,eval a X.env)]:=by rfl) :
  GI X tg (.Call (.Name "reversed" p) [a] [] pos) Γ M ki:=fun σ G H Rr en rl q=>by
 refine lI (aIT hg hm hv pUA hs) ?_
 refine h σ G H _ en rl fun vs G1 H1 ds M1 s1 e1 ⟨es,ed,h1⟩ => ?_
 subst ed
 obtain ⟨v,rfl,dv⟩:=dens1 e1
 obtain ⟨b,ws,ev,s,dn⟩:=dv.tup_
 exact ⟨b,ws,by rw [ev],R.eE s1.rel.same s,q _ _ _ _ _ s1 (aKF s dn) h1⟩
theorem aBD {p apos cpos:Pos} (hm:X.mg "reversed" = none) (hv:bootBuiltins "reversed" = some (.type "reversed"))
  (h:GE X o Γ M fun d M1=>∃ sep,d = .str sep∧sep.length≤16∧GA X [a] Γ M1 fun ds M2=>∃ y,ds=[.str y]∧y.cps.size≤1000∧k (.str (Txt.join sep (nX y))) M2)
  (hc:X.calm=true:=by rfl) (hg:Gl X "reversed" := by rfl)
  (hbase:attributeBase o "join" X.env (eval o X.env)=eval o X.env:=by rfl)
  (hfew:((backTo cpos (starEach [.Call (.Name "reversed" p) [a] [] pos] X.env)).all (fun x => !x.1) && (backToKw cpos (keywordEach [] X.env)).all (fun x=>x.1.isSome)
   && decide ([Expr.Call (.Name "reversed" p) [a] [] pos].length+([]:List Keyword).length+(if ([]:List Keyword).isEmpty then 0 else 1) < 30))=true:=by rfl)
  (hline:(apos.endLine == cpos.line)=true:=by rfl) (hs1:starEach [.Call (.Name "reversed" p) [a] [] pos] X.env=[(false,eval (.Call (.Name "reversed" p) [a] [] pos) X.env)]:=by rfl) (hs:starEach [a] X.env=[(false,eval a X.env)]:=by rfl) :
  GE X (.Call (.Attribute o "join" apos) [.Call (.Name "reversed" p) [a] [] pos] [] cpos) Γ M k:=fun σ G H Q en rl q=>by
 refine cU (aBT hc hg hm hv pU pUA hbase hfew hline hs1 hs) ?_
 refine h σ G H _ en rl fun v G1 H1 d M1 s1 e1 ⟨sep,ed,hsep,h1⟩ => ?_
 subst ed
 refine ⟨sep,e1.str_,hsep,?_⟩
 refine h1 σ G1 H1 _ (en.up s1.gg) s1.rel fun vs G2 H2 ds M2 s2 e2 ⟨y,ed,hy,h2⟩ => ?_
 subst ed
 obtain ⟨u,rfl,du⟩:=dens1 e2
 exact ⟨y,by rw [du.str_],hy,q _ _ _ _ _ (s1.trans s2) fQ h2⟩
end
end Z
namespace Q
open PySem L2 Z
theorem aKC {t b:Int} (hb:0 < b):lowP t b=lowG t b:=by
 unfold lowP lowG dv
 rw [if_neg (by omega)]
structure Tidy2 (K:List Str) (a b:Nat):Prop where
 v:(K=[]∧a=0∧b=0)∨(K≠[]∧R.chg K=List.range b∧R.chg (R.aJ K)=List.range a∧R.Good (a - 1) K∧K.length+1=b∧2≤a∧2≤b)
theorem Tidy2.good {K:List Str}{a b:Nat} (h:Tidy2 K a b):R.Good (a - 1) K∧K.length=b - 1:=by
 rcases h.v with ⟨rfl,rfl,rfl⟩ | ⟨_,_,_,g,l,_,_⟩
 ·exact ⟨fun z hz=>(nomatch hz),rfl⟩
 ·exact ⟨g,by omega⟩
theorem aCI {n:Nat}{zs:List Str} (g:R.Good n zs):Tidy2 (R.cV zs) (R.chg (R.aJ zs)).length (R.chg zs).length:=by
 by_cases hr:R.aR zs=[]
 ·obtain ⟨e1,e2⟩:=R.pR (fun z hz=>(g z hz).1) hr
  refine ⟨.inl ⟨?_,?_,?_⟩⟩
  ·unfold R.cV; rw [e1] <;> first | rfl | (rw [e2]; rfl)
  ·first | (rw [e2]; rfl) | (rw [e1]; rfl)
  ·first | (rw [e1]; rfl) | (rw [e2]; rfl)
 ·obtain ⟨t1,t2,t3,t4,t5,t6⟩:=R.aCC g hr
  have hkl:(R.cV zs).length=(R.chg zs).length - 1:=by unfold R.cV; rw [List.length_map,List.length_dropLast]
  exact ⟨.inr ⟨t3,t1,t2,t4,by omega,t5,t6⟩⟩
theorem wN {K:List Str}{a b:Nat} (h:Tidy2 K a b):Tidy2 (K.map R.cM) a b:=by
 rcases h.v with ⟨rfl,rfl,rfl⟩ | ⟨hK,t1,t2,g,l,ha,hb⟩
 ·exact ⟨.inl ⟨rfl,rfl,rfl⟩⟩
 ·have hl:∀ z∈K,z.length=a - 1:=fun z hz=>(g z hz).1
  have lc:=R.cC hl hK
  have hcn:R.aJ K≠[]:=fun e=>by rw [e] at lc; simp at lc; omega
  refine ⟨.inr ⟨by simpa using hK,?_,?_,R.wV g,by rw [List.length_map]; exact l,ha,hb⟩⟩
  ·have:=R.sE hl hK (by rw [t1,l])
   rw [this,List.length_map,l]
  ·rw [R.qS hl hK]
   have:=R.rA (n:=K.length) (fun z hz=>R.dB z hz) hcn (by rw [t2,lc,show a - 1+1=a by omega])
   rw [this,List.length_reverse,lc,show a - 1+1=a by omega]
theorem aBC {K:List Str}{a b:Nat} (h:Tidy2 K a b):Tidy2 ((R.aJ K).map R.cM) b a:=by
 rcases h.v with ⟨rfl,rfl,rfl⟩ | ⟨hK,t1,t2,g,l,ha,hb⟩
 ·exact ⟨.inl ⟨rfl,rfl,rfl⟩⟩
 ·have hl:∀ z∈K,z.length=a - 1:=fun z hz=>(g z hz).1
  have lc:=R.cC hl hK
  have hcn:R.aJ K≠[]:=fun e=>by rw [e] at lc; simp at lc; omega
  have gc:=R.iU g
  refine ⟨.inr ⟨by simpa using hcn,?_,?_,?_,by rw [List.length_map,lc]; omega,hb,ha⟩⟩
  ·have:=R.sE (n:=K.length) (fun z hz=>R.dB z hz) hcn (by rw [t2,lc,show a - 1+1=a by omega])
   rw [this,List.length_map,lc,show a - 1+1=a by omega]
  ·rw [R.aES hl hK (by omega)]
   have:=R.rA hl hK (by rw [t1,l])
   rw [this,List.length_reverse,l]
  ·rw [show b - 1=K.length by omega]; exact R.wV gc
structure By (w:Nat) (p:Int × Int):Prop where
 b0:0 < p.2
 b9:p.2≤9
 a20:p.1.natAbs≤20
 a0:w=3→0 < p.1
end Q
namespace U
open PySem
def inY (ws us:List Rat) (K:List Str) (x y:Rat):Bool:=R.bH K (ix ws x) (ix us y)
theorem lY {n:Nat}{K:List Str} (h:∀ z∈K,z.length=n) {a u:Int} (ha:(n:Int)≤a):R.bH K a u=false:=by
 cases e:R.bH K a u with
 | false=>rfl
 | true =>
  obtain ⟨h1,h2,z,hz,hc⟩:=R.xZ.mp e
  have:=h z (List.mem_of_getElem? hz)
  have h3:a.toNat < z.cps.toList.length:=(List.getElem?_eq_some_iff.mp hc).1
  rw [Array.length_toList] at h3
  have h4:z.cps.size=z.length:=rfl
  omega
structure Steps (f:Rat→Rat→Bool) (xs ys:List Rat):Prop where
 out:∀ x y,ix xs x = -1∨ix xs x=(xs.length:Int) - 1∨ix ys y = -1∨ix ys y=(ys.length:Int) - 1→f x y=false
 at_:∀ x y (i j:Nat) (hi:i < xs.length) (hj:j < ys.length),ix xs x=i→ix ys y=j→f x y=f xs[i] ys[j]
theorem aC0 {ws us xs ys:List Rat}{K:List Str} (u:Up ws) (u':Up us) (hK:∀ z∈K,z.length=ws.length - 1) (lK:K.length=us.length - 1) (v:Up xs) (v':Up ys) (hs:∀ w∈ws,w∈xs) (hs':∀ w∈us,w∈ys):Steps (inY ws us K) xs ys where
 out x y h:=by
  unfold inY
  rcases h with h | h | h | h
  ·rw [aEI v hs h]; exact R.dC (by omega)
  ·rw [zX v hs h]
   cases ws with
   | nil=>exact R.dC (by simp)
   | cons w r=>exact lY hK (by simp)
  ·rw [aEI v' hs' h]; exact R.dW (by omega)
  ·rw [zX v' hs' h]
   cases us with
   | nil=>exact R.dW (by simp)
   | cons w r=>exact R.fJ (by rw [lK]; simp)
 at_ x y i j hi hj e e':=by
  unfold inY
  rw [aAH u v hs hi e,aAH u' v' hs' hj e']
theorem Steps.pick {f g:Rat→Rat→Bool}{xs ys:List Rat} (hf:Steps f xs ys) (hg:Steps g xs ys) (p:Bool→Bool→Bool) (h0:p false false=false):Steps (fun x y=>p (f x y) (g x y)) xs ys :=
 ⟨fun x y h=>by rw [hf.out x y h,hg.out x y h]; exact h0,fun x y i j hi hj e e'=>by rw [hf.at_ x y i j hi hj e e',hg.at_ x y i j hi hj e e']⟩
def eW (f:Rat→Rat→Bool) (xs ys:List Rat):List Str:=ys.dropLast.map fun y=>R.ofL (xs.dropLast.map fun x=>R.sg (f x y))
theorem gU (f:Rat→Rat→Bool) (xs ys:List Rat):(eW f xs ys).length=ys.length - 1:=by unfold eW; rw [List.length_map,List.length_dropLast]
theorem fU (f:Rat→Rat→Bool) (xs ys:List Rat):R.Good (xs.length - 1) (eW f xs ys):=fun z hz=>by
 unfold eW at hz
 obtain ⟨y,_,rfl⟩:=List.mem_map.mp hz
 refine ⟨by rw [R.nM,List.length_map,List.length_dropLast],?_⟩
 rw [List.all_eq_true]
 intro c hc
 have hc':c∈xs.dropLast.map fun x=>R.sg (f x y):=hc
 obtain ⟨q,_,rfl⟩:=List.mem_map.mp hc'
 unfold R.sg; split <;> rfl
theorem aF5 {f:Rat→Rat→Bool}{xs ys:List Rat}{i j:Nat} (hi:i+1 < xs.length) (hj:j+1 < ys.length):R.bH (eW f xs ys) (i:Int) (j:Int)=f xs[i] ys[j]:=by
 have hj':j < ys.dropLast.length:=by rw [List.length_dropLast]; omega
 have hi':i < xs.dropLast.length:=by rw [List.length_dropLast]; omega
 have e1:(eW f xs ys)[((j:Int)).toNat]?=some (R.ofL (xs.dropLast.map fun x=>R.sg (f x ys[j]))):=by
  rw [Int.toNat_natCast]; unfold eW
  rw [List.getElem?_map,List.getElem?_eq_getElem hj',List.getElem_dropLast]; rfl
 have e2:(R.ofL (xs.dropLast.map fun x=>R.sg (f x ys[j]))).cps.toList[((i:Int)).toNat]?=some (R.sg (f xs[i] ys[j])):=by
  rw [Int.toNat_natCast]
  show (xs.dropLast.map fun x=>R.sg (f x ys[j]))[i]?=_
  rw [List.getElem?_map,List.getElem?_eq_getElem hi',List.getElem_dropLast]; rfl
 rw [R.fI (by omega) (by omega) e1 e2]
 unfold R.sg
 cases f xs[i] ys[j] <;> rfl
theorem aH6 {f:Rat→Rat→Bool}{xs ys:List Rat} (h:Steps f xs ys) (x y:Rat):R.bH (eW f xs ys) (ix xs x) (ix ys y)=f x y:=by
 have a1:=vX xs x
 have a2:=vZ xs x
 have b1:=vX ys y
 have b2:=vZ ys y
 by_cases ha:ix xs x = -1
 ·rw [h.out x y (.inl ha),ha]; exact R.dC (by omega)
 by_cases ha':ix xs x=(xs.length:Int) - 1
 ·rw [h.out x y (.inr (.inl ha')),ha']
  exact lY (fun z hz=>(fU f xs ys z hz).1) (by omega)
 by_cases hb:ix ys y = -1
 ·rw [h.out x y (.inr (.inr (.inl hb))),hb]; exact R.dW (by omega)
 by_cases hb':ix ys y=(ys.length:Int) - 1
 ·rw [h.out x y (.inr (.inr (.inr hb'))),hb']
  exact R.fJ (by rw [gU]; omega)
 obtain ⟨i,hi⟩:∃ i:Nat,ix xs x=i:=⟨(ix xs x).toNat,by omega⟩
 obtain ⟨j,hj⟩:∃ j:Nat,ix ys y=j:=⟨(ix ys y).toNat,by omega⟩
 rw [h.at_ x y i j (by omega) (by omega) hi hj,hi,hj]
 exact aF5 (by omega) (by omega)
theorem aKP {xs ys:List Rat}{zs:List Str} (u:Up xs) (v:Up ys) (g:R.Good (xs.length - 1) zs) (hz:zs.length=ys.length - 1) (x y:Rat) :
  inY (iN xs (R.chg (R.aJ zs))) (iN ys (R.chg zs)) (R.cV zs) x y=R.bH zs (ix xs x) (ix ys y):=by
 unfold inY
 rw [zS u (Q.iJ fun z hz=>(g z hz).1),zS v (Q.iM hz),R.aJZ g]
theorem yR {n:Nat}{K:List Str} (g:R.Good n K) {j:Nat}{z:Str} (hz:K[j]?=some z):z=R.ofL ((List.range n).map fun (c:Nat)=>R.sg (R.bH K (c:Int) (j:Int))):=by
 obtain ⟨hl,hs⟩:=g z (List.mem_of_getElem? hz)
 have e:z.cps.toList=(List.range n).map fun (c:Nat)=>R.sg (R.bH K (c:Int) (j:Int)):=by
  refine List.ext_getElem? fun c => ?_
  rw [List.getElem?_map]
  by_cases hc:c < n
  ·rw [List.getElem?_range hc,R.dQ (by omega)]
   have h2:=R.nL g (List.mem_of_getElem? hz) hc
   rw [Option.map_some,R.fI (z:=z) (c:=R.atS z c) (by omega) (by omega) (by rw [Int.toNat_natCast]; exact hz) (by rw [Int.toNat_natCast]; exact R.dQ (by omega))]
   unfold R.sg
   rcases h2 with h2 | h2 <;> rw [h2] <;> rfl
  ·rw [List.getElem?_eq_none (by rw [Array.length_toList]; have:z.cps.size=z.length:=rfl; omega),List.getElem?_eq_none (by simpa using hc)]; rfl
 unfold R.ofL
 rw [← e]
theorem aKI {n:Nat}{K K':List Str} (g:R.Good n K) (g':R.Good n K') (hl:K.length=K'.length) (h:∀ a u:Nat,a < n→u < K.length→R.bH K (a:Int) (u:Int)=R.bH K' (a:Int) (u:Int)):K=K':=by
 refine List.ext_getElem? fun j => ?_
 by_cases hj:j < K.length
 ·have e1:K[j]?=some K[j]:=List.getElem?_eq_getElem hj
  have e2:K'[j]?=some (K'[j]'(by omega)):=List.getElem?_eq_getElem (by omega)
  rw [e1,e2,yR g e1,yR g' e2]
  congr 2
  refine List.map_congr_left fun c hc => ?_
  rw [h c j (List.mem_range.mp hc) hj]
 ·rw [List.getElem?_eq_none (by omega),List.getElem?_eq_none (by omega)]
theorem frow {n:Nat}{K:List Str} (g:R.Good n K) (hK:K≠[]) {j:Nat} (hj:j≤K.length+1):(R.framed K)[j]?=some (R.ofL ((List.range n).map fun (c:Nat)=>R.sg (R.bH K (c:Int) ((j:Int) - 1)))):=by
 have hw:=R.cZ (fun z hz=>(g z hz).1) hK
 have hd:∀ u:Int,(∀ c:Nat,R.bH K (c:Int) u=false)→R.dots n=R.ofL ((List.range n).map fun (c:Nat)=>R.sg (R.bH K (c:Int) u)):=fun u hu=>by
  unfold R.dots
  congr 1
  refine (List.eq_replicate_iff.mpr ⟨by simp,fun b hb => ?_⟩).symm
  obtain ⟨c,_,rfl⟩:=List.mem_map.mp hb
  rw [hu c]; rfl
 rcases Nat.eq_zero_or_pos j with rfl | hp
 ·rw [R.f9,hw,← hd _ fun c=>R.dW (by omega)]
 ·obtain ⟨k,rfl⟩:∃ k,j=k+1:=⟨j - 1,by omega⟩
  rw [show (((k+1:Nat):Int) - 1)=(k:Int) by omega]
  by_cases hk:k < K.length
  ·rw [R.cX hk,List.getElem?_eq_getElem hk,← yR g (List.getElem?_eq_getElem hk)]
  ·have e:k=K.length:=by omega
   rw [e,R.eM,hw,← hd _ fun c=>R.fJ (by omega)]
theorem fcol {n:Nat}{K:List Str} (g:R.Good n K) (hK:K≠[]) (hn:0 < n) {i:Nat} (hi:i≤n+1):(R.framed (R.aJ K))[i]?=some (R.ofL ((List.range K.length).map fun (r:Nat)=>R.sg (R.bH K ((i:Int) - 1) (r:Int)))):=by
 rw [R.iK (fun z hz=>(g z hz).1) hK hn hi]
 congr 2
 refine List.ext_getElem? fun r => ?_
 rw [List.getElem?_map,List.getElem?_map]
 by_cases hr:r < K.length
 ·rw [List.getElem?_eq_getElem hr,List.getElem?_range hr,Option.map_some,Option.map_some]
  congr 1
  have e1:K[r]?=some K[r]:=List.getElem?_eq_getElem hr
  have hl:=(g _ (List.getElem_mem hr)).1
  unfold R.tJ
  split
  ·rename_i h
   rcases h with rfl | rfl
   ·rw [R.dC (by omega)]; rfl
   ·rw [lY (fun z hz=>(g z hz).1) (by omega)]; rfl
  ·rename_i h
   have hi':i - 1 < n:=by omega
   have h2:=R.nL g (List.getElem_mem hr) hi'
   rw [show ((i:Int) - 1)=((i - 1:Nat):Int) by omega,R.fI (z:=K[r]) (c:=R.atS K[r] (i - 1)) (by omega) (by omega) (by rw [Int.toNat_natCast]; exact e1) (by rw [Int.toNat_natCast]; exact R.dQ (by omega))]
   unfold R.sg
   rcases h2 with h2 | h2 <;> rw [h2] <;> rfl
 ·rw [List.getElem?_eq_none (by omega),List.getElem?_eq_none (by simpa using hr)]; rfl
theorem aFE {n:Nat}{f g:Nat→Bool} (h:some (R.ofL ((List.range n).map fun c=>R.sg (f c)))≠some (R.ofL ((List.range n).map fun c=>R.sg (g c)))):∃ c,c < n∧f c≠g c:=by
 refine Classical.byContradiction fun q=>h ?_
 congr 2
 refine List.map_congr_left fun c hc => ?_
 have:=List.mem_range.mp hc
 have e:f c=g c:=Classical.byContradiction fun z=>q ⟨c,this,z⟩
 rw [e]
theorem yM {K:List Str}{a b:Nat} (T:Q.Tidy2 K a b) {i:Nat} (hi:i < a):∃ j:Nat,j+1 < b∧R.bH K ((i:Int) - 1) (j:Int)≠R.bH K (i:Int) (j:Int):=by
 rcases T.v with ⟨_,rfl,_⟩ | ⟨hK,t1,t2,g,l,ha,hb⟩
 ·omega
 ·have hm:i∈R.chg (R.aJ K):=by rw [t2]; exact List.mem_range.mpr hi
  have lc:=R.cC (fun z hz=>(g z hz).1) hK
  have hcn:R.aJ K≠[]:=fun e=>by rw [e] at lc; simp at lc; omega
  obtain ⟨h1,h2⟩:=(R.eY hcn).mp hm
  rw [fcol g hK (by omega) (by omega),fcol g hK (by omega) (by omega)] at h2
  obtain ⟨c,hc,hne⟩:=aFE h2
  refine ⟨c,by omega,?_⟩
  rwa [show (((i+1:Nat):Int) - 1)=(i:Int) by omega] at hne
theorem xO {K:List Str}{a b:Nat} (T:Q.Tidy2 K a b) {j:Nat} (hj:j < b):∃ i:Nat,i+1 < a∧R.bH K (i:Int) ((j:Int) - 1)≠R.bH K (i:Int) (j:Int):=by
 rcases T.v with ⟨_,_,rfl⟩ | ⟨hK,t1,t2,g,l,ha,hb⟩
 ·omega
 ·have hm:j∈R.chg K:=by rw [t1]; exact List.mem_range.mpr hj
  obtain ⟨h1,h2⟩:=(R.eY hK).mp hm
  rw [frow g hK (by omega),frow g hK (by omega)] at h2
  obtain ⟨c,hc,hne⟩:=aFE h2
  refine ⟨c,by omega,?_⟩
  rwa [show (((j+1:Nat):Int) - 1)=(j:Int) by omega] at hne
def JX (f:Rat→Rat→Bool) (w:Rat):Prop:=∃ y,∀ x,x < w→∃ x',x≤x'∧x' < w∧f x' y≠f w y
theorem pM {ws:List Rat} (u:Up ws) {i:Nat} (hi:i < ws.length) {x:Rat} (hx:x < ws[i]) (h:∀ k (hk:k < ws.length),k < i→ws[k]≤x):ix ws x=(i:Int) - 1 :=
 sF u (by omega) (by omega) fun k hk=>by
  constructor
  ·intro h1
   have:=(l8 u hk hi).mp (by grind)
   omega
  ·intro h1
   exact h k hk (by omega)
theorem before {ws:List Rat} (u:Up ws) {i:Nat} (hi:i < ws.length) {x:Rat} (hx:x < ws[i]):∃ x',x≤x'∧x' < ws[i]∧ix ws x'=(i:Int) - 1:=by
 by_cases h0:i=0
 ·subst h0
  exact ⟨x,by grind,hx,pM u hi hx fun k _ q=>absurd q (Nat.not_lt_zero _)⟩
 ·have hp:i - 1 < ws.length:=by omega
  have hl:=(l8 u hp hi).mpr (by omega)
  have le:∀ k (hk:k < ws.length),k < i→ws[k]≤ws[i - 1]:=fun k hk q=>(nV u hk hp).mpr (by omega)
  by_cases hm:x≤ws[i - 1]
  ·exact ⟨ws[i - 1],hm,hl,pM u hi hl le⟩
  ·exact ⟨x,by grind,hx,pM u hi hx fun k hk q=>by have:=le k hk q; grind⟩
theorem still {ws:List Rat} (u:Up ws) {w:Rat} (hw:w ∉ ws):∃ x,x < w∧∀ x',x≤x'→x' < w→ix ws x'=ix ws w:=by
 have a:=vX ws w
 have b:=vZ ws w
 by_cases hk:ix ws w = -1
 ·refine ⟨w - 1,by grind,fun x' h1 h2 => ?_⟩
  rw [hk]
  refine sF u (by omega) (by omega) fun i hi => ?_
  constructor
  ·intro h; have:=(iG (x:=w) u hi).mp (by grind); omega
  ·intro h; omega
 ·have hi:(ix ws w).toNat < ws.length:=by omega
  have hle:=(iG (x:=w) u hi).mpr (by omega)
  have hne:ws[(ix ws w).toNat]≠w:=fun e=>hw (e ▸ List.getElem_mem hi)
  refine ⟨ws[(ix ws w).toNat],by grind,fun x' h1 h2 => ?_⟩
  refine sF u a b fun i hi' => ?_
  constructor
  ·intro h; exact (iG (x:=w) u hi').mp (by grind)
  ·intro h
   have:=(nV u hi' hi).mpr (by omega)
   grind
theorem aCS {ws us:List Rat}{K:List Str} (u:Up ws) (u':Up us) (T:Q.Tidy2 K ws.length us.length) (w:Rat):w∈ws↔JX (inY ws us K) w:=by
 constructor
 ·intro hw
  obtain ⟨i,hi,rfl⟩:=List.getElem_of_mem hw
  obtain ⟨j,hj,hne⟩:=yM T hi
  refine ⟨us[j],fun x hx => ?_⟩
  obtain ⟨x',h1,h2,h3⟩:=before u hi hx
  refine ⟨x',h1,h2,?_⟩
  unfold inY
  rw [h3,gG u hi,gG u' (by omega)]
  exact hne
 ·rintro ⟨y,h⟩
  refine Classical.byContradiction fun hw => ?_
  obtain ⟨x,hx,hs⟩:=still u hw
  obtain ⟨x',h1,h2,h3⟩:=h x hx
  unfold inY at h3
  rw [hs x' h1 h2] at h3
  exact h3 rfl
theorem aCU {ws us:List Rat}{K:List Str} (u:Up ws) (u':Up us) (T:Q.Tidy2 K ws.length us.length) (w:Rat):w∈us↔JX (fun y x=>inY ws us K x y) w:=by
 constructor
 ·intro hw
  obtain ⟨j,hj,rfl⟩:=List.getElem_of_mem hw
  obtain ⟨i,hi,hne⟩:=xO T hj
  refine ⟨ws[i],fun x hx => ?_⟩
  obtain ⟨x',h1,h2,h3⟩:=before u' hj hx
  refine ⟨x',h1,h2,?_⟩
  unfold inY
  dsimp only
  rw [h3,gG u' hj,gG u (by omega)]
  exact hne
 ·rintro ⟨x,h⟩
  refine Classical.byContradiction fun hw => ?_
  obtain ⟨y,hy,hs⟩:=still u' hw
  obtain ⟨y',h1,h2,h3⟩:=h y hy
  unfold inY at h3
  dsimp only at h3
  rw [hs y' h1 h2] at h3
  exact h3 rfl
theorem aHN {ws us ws' us':List Rat}{K K':List Str} (u:Up ws) (v:Up us) (T:Q.Tidy2 K ws.length us.length) (u':Up ws') (v':Up us') (T':Q.Tidy2 K' ws'.length us'.length)
  (h:∀ x y,inY ws us K x y=inY ws' us' K' x y):ws=ws'∧us=us'∧K=K':=by
 have hf:inY ws us K=inY ws' us' K':=funext fun x=>funext fun y=>h x y
 have e1:ws=ws':=aDU u u' fun x=>by rw [aCS u v T,aCS u' v' T',hf]
 have e2:us=us':=aDU v v' fun x=>by rw [aCU u v T,aCU u' v' T',hf]
 subst e1 e2
 refine ⟨rfl,rfl,?_⟩
 obtain ⟨g,l⟩:=T.good
 obtain ⟨g',l'⟩:=T'.good
 refine aKI g g' (by omega) fun a b ha hb => ?_
 have:=h ws[a] us[b]
 unfold inY at this
 rwa [gG u (by omega),gG v (by omega)] at this
def a9:List Rat→List Rat→List Rat
 | [],ys=>ys
 | x::xs,[]=>x::xs
 | x::xs,y::ys=>if y < x then y::a9 (x::xs) ys else if x=y then x::a9 xs ys else x::a9 xs (y::ys)
termination_by xs ys=>xs.length+ys.length
theorem yC:∀ xs,a9 xs []=xs
 | []=>by rw [a9]
 | x::xs=>by rw [a9]
theorem xV (ys:List Rat):a9 [] ys=ys:=by rw [a9]
theorem c8:∀ (xs ys:List Rat) (a:Rat),a∈a9 xs ys↔a∈xs∨a∈ys
 | [],ys,a=>by rw [a9]; simp
 | x::xs,[],a=>by rw [a9]; simp
 | x::xs,y::ys,a=>by
  rw [a9]
  split
  ·rw [List.mem_cons,c8 (x::xs) ys a,List.mem_cons (a:=a) (b:=y)]
   constructor
   ·rintro (h | h | h)
    ·exact .inr (.inl h)
    ·exact .inl h
    ·exact .inr (.inr h)
   ·rintro (h | h | h)
    ·exact .inr (.inl h)
    ·exact .inl h
    ·exact .inr (.inr h)
  ·split
   ·rename_i h1 h2
    subst h2
    rw [List.mem_cons,c8 xs ys a,List.mem_cons,List.mem_cons]
    constructor
    ·rintro (h | h | h)
     ·exact .inl (.inl h)
     ·exact .inl (.inr h)
     ·exact .inr (.inr h)
    ·rintro ((h | h) | h | h)
     ·exact .inl h
     ·exact .inr (.inl h)
     ·exact .inl h
     ·exact .inr (.inr h)
   ·rw [List.mem_cons,c8 xs (y::ys) a,List.mem_cons (a:=a) (b:=x)]
    constructor
    ·rintro (h | h | h)
     ·exact .inl (.inl h)
     ·exact .inl (.inr h)
     ·exact .inr h
    ·rintro ((h | h) | h)
     ·exact .inl h
     ·exact .inr (.inl h)
     ·exact .inr (.inr h)
termination_by xs ys=>xs.length+ys.length
theorem cQ:∀ {xs ys:List Rat},xs.Pairwise (· < ·)→ys.Pairwise (· < ·)→(a9 xs ys).Pairwise (· < ·)
 | [],ys,_,hy=>by rw [a9]; exact hy
 | x::xs,[],hx,_=>by rw [a9]; exact hx
 | x::xs,y::ys,hx,hy=>by
  obtain ⟨x1,x2⟩:=List.pairwise_cons.mp hx
  obtain ⟨y1,y2⟩:=List.pairwise_cons.mp hy
  rw [a9]
  split
  ·rename_i h
   refine List.pairwise_cons.mpr ⟨fun a ha => ?_,cQ hx y2⟩
   rcases (c8 _ _ _).mp ha with h1 | h1
   ·rcases List.mem_cons.mp h1 with rfl | h1
    ·exact h
    ·have:=x1 a h1; grind
   ·exact y1 a h1
  ·split
   ·rename_i h1 h2
    subst h2
    refine List.pairwise_cons.mpr ⟨fun a ha => ?_,cQ x2 y2⟩
    rcases (c8 _ _ _).mp ha with h1 | h1
    ·exact x1 a h1
    ·exact y1 a h1
   ·rename_i h1 h2
    refine List.pairwise_cons.mpr ⟨fun a ha => ?_,cQ x2 hy⟩
    rcases (c8 _ _ _).mp ha with h3 | h3
    ·exact x1 a h3
    ·rcases List.mem_cons.mp h3 with rfl | h3
     ·grind
     ·have:=y1 a h3; grind
termination_by xs ys=>xs.length+ys.length
theorem hX:∀ (xs ys:List Rat),(a9 xs ys).length≤xs.length+ys.length
 | [],ys=>by rw [a9]; simp
 | x::xs,[]=>by rw [a9]; simp
 | x::xs,y::ys=>by
  rw [a9]
  split
  ·have:=hX (x::xs) ys; simp only [List.length_cons] at *; omega
  ·split
   ·have:=hX xs ys; simp only [List.length_cons] at *; omega
   ·have:=hX xs (y::ys); simp only [List.length_cons] at *; omega
termination_by xs ys=>xs.length+ys.length
theorem sG {xs ys:List Rat}{f s:Nat} (hf:f < xs.length) (hs:s < ys.length) :
  a9 (xs.drop f) (ys.drop s)=(if ys.getD s 0 < xs.getD f 0 then ys.getD s 0 else xs.getD f 0)::a9 (xs.drop (f+if xs.getD f 0=(if ys.getD s 0 < xs.getD f 0 then ys.getD s 0 else xs.getD f 0) then 1 else 0)) (ys.drop (s+if ys.getD s 0=(if ys.getD s 0 < xs.getD f 0 then ys.getD s 0 else xs.getD f 0) then 1 else 0)):=by
 have ex:xs.drop f=xs.getD f 0::xs.drop (f+1):=by rw [List.drop_eq_getElem_cons hf,List.getD_eq_getElem?_getD,List.getElem?_eq_getElem hf]; rfl
 have ey:ys.drop s=ys.getD s 0::ys.drop (s+1):=by rw [List.drop_eq_getElem_cons hs,List.getD_eq_getElem?_getD,List.getElem?_eq_getElem hs]; rfl
 generalize xs.getD f 0=x at *
 generalize ys.getD s 0=y at *
 conv=>lhs; rw [ex,ey,a9]
 by_cases h:y < x
 ·rw [if_pos h,if_pos h,if_neg (show ¬ x=y by grind),if_pos rfl]
  show _=y::a9 (xs.drop f) (ys.drop (s+1))
  rw [ex]
 ·rw [if_neg h,if_neg h,if_pos rfl]
  by_cases h2:x=y
  ·rw [if_pos h2,if_pos h2.symm]
  ·rw [if_neg h2,if_neg (fun e=>h2 e.symm)]
   show _=x::a9 (xs.drop (f+1)) (ys.drop s)
   rw [ey]
structure Yd where
 ws:List Rat
 us:List Rat
 K:List Str
 uw:Up ws
 uu:Up us
 T:Q.Tidy2 K ws.length us.length
def Yd.has (A:Yd) (x y:Rat):Bool:=inY A.ws A.us A.K x y
theorem Yd.ext' {A B:Yd} (h:∀ x y,A.has x y=B.has x y):A=B:=by
 obtain ⟨ws,us,K,uw,uu,T⟩:=A
 obtain ⟨ws',us',K',uw',uu',T'⟩:=B
 obtain ⟨rfl,rfl,rfl⟩:=aHN uw uu T uw' uu' T' h
 rfl
theorem Yd.ext_iff' {A B:Yd}:A=B↔∀ x y,A.has x y=B.has x y:=⟨fun e=>by subst e; intros; rfl,Yd.ext'⟩
theorem Yd.wide (A:Yd):(∀ z∈A.K,z.length=A.ws.length - 1)∧A.K.length=A.us.length - 1:=⟨fun z hz=>(A.T.good.1 z hz).1,A.T.good.2⟩
theorem Yd.steps (A:Yd) {xs ys:List Rat} (v:Up xs) (v':Up ys) (hs:∀ w∈A.ws,w∈xs) (hs':∀ w∈A.us,w∈ys):Steps A.has xs ys:=aC0 A.uw A.uu A.wide.1 A.wide.2 v v' hs hs'
def Yd.ofG (xs ys:List Rat) (zs:List Str) (u:Up xs) (v:Up ys) (g:R.Good (xs.length - 1) zs) (hz:zs.length=ys.length - 1):Yd where
 ws:=iN xs (R.chg (R.aJ zs))
 us:=iN ys (R.chg zs)
 K:=R.cV zs
 uw:=xW u (R.cL _) (Q.iJ fun z hz=>(g z hz).1)
 uu:=xW v (R.cL _) (Q.iM hz)
 T:=by
  have:=Q.aCI g
  unfold iN
  rw [List.length_map,List.length_map]
  exact this
theorem Yd.ofG_has {xs ys:List Rat}{zs:List Str} (u:Up xs) (v:Up ys) (g:R.Good (xs.length - 1) zs) (hz:zs.length=ys.length - 1) (x y:Rat):(Yd.ofG xs ys zs u v g hz).has x y=R.bH zs (ix xs x) (ix ys y):=aKP u v g hz x y
theorem Yd.ofG_ws {xs ys:List Rat}{zs:List Str} (u:Up xs) (v:Up ys) (g:R.Good (xs.length - 1) zs) (hz:zs.length=ys.length - 1):(∀ w∈(Yd.ofG xs ys zs u v g hz).ws,w∈xs)∧∀ w∈(Yd.ofG xs ys zs u v g hz).us,w∈ys :=
 ⟨uT (Q.iJ fun z hz=>(g z hz).1),uT (Q.iM hz)⟩
def Yd.ofF (f:Rat→Rat→Bool) (xs ys:List Rat) (u:Up xs) (v:Up ys):Yd:=Yd.ofG xs ys (eW f xs ys) u v (fU f xs ys) (gU f xs ys)
theorem Yd.ofF_has {f:Rat→Rat→Bool}{xs ys:List Rat} (u:Up xs) (v:Up ys) (h:Steps f xs ys) (x y:Rat):(Yd.ofF f xs ys u v).has x y=f x y:=by
 unfold Yd.ofF
 rw [Yd.ofG_has,aH6 h]
theorem mgl {ws vs:List Rat}:∀ w∈ws,w∈a9 ws vs:=fun w hw=>(c8 _ _ _).mpr (.inl hw)
theorem mgr {ws vs:List Rat}:∀ w∈vs,w∈a9 ws vs:=fun w hw=>(c8 _ _ _).mpr (.inr hw)
def Yd.op (p:Bool→Bool→Bool) (A B:Yd):Yd:=Yd.ofF (fun x y=>p (A.has x y) (B.has x y)) (a9 A.ws B.ws) (a9 A.us B.us) (cQ A.uw B.uw) (cQ A.uu B.uu)
theorem Yd.op_has {p:Bool→Bool→Bool} (h0:p false false=false) (A B:Yd) (x y:Rat):(Yd.op p A B).has x y=p (A.has x y) (B.has x y) :=
 Yd.ofF_has _ _ ((A.steps (cQ A.uw B.uw) (cQ A.uu B.uu) mgl mgl).pick (B.steps (cQ A.uw B.uw) (cQ A.uu B.uu) mgr mgr) p h0) x y
structure On (Sx Sy:List Rat) (A:Yd):Prop where
 x:∀ w∈A.ws,w∈Sx
 y:∀ w∈A.us,w∈Sy
theorem On.op {Sx Sy:List Rat}{A B:Yd} (a:On Sx Sy A) (b:On Sx Sy B) (p:Bool→Bool→Bool):On Sx Sy (Yd.op p A B) where
 x w hw:=by
  rcases (c8 _ _ _).mp ((Yd.ofG_ws (cQ A.uw B.uw) (cQ A.uu B.uu) (fU _ _ _) (gU _ _ _)).1 w hw) with h | h
  ·exact a.x w h
  ·exact b.x w h
 y w hw:=by
  rcases (c8 _ _ _).mp ((Yd.ofG_ws (cQ A.uw B.uw) (cQ A.uu B.uu) (fU _ _ _) (gU _ _ _)).2 w hw) with h | h
  ·exact a.y w h
  ·exact b.y w h
theorem aGG {ws:List Rat} (u:Up ws):ws.Nodup:=u.imp fun h=>by grind
theorem kJ {ws S:List Rat} (u:Up ws) (h:∀ w∈ws,w∈S):ws.length≤S.length:=(aGG u).length_le_of_subset h
theorem Yd.void_iff (A:Yd):A.K=[]↔∀ x y,A.has x y=false:=by
 constructor
 ·intro h x y
  unfold Yd.has inY
  rw [h]
  cases e:R.bH [] (ix A.ws x) (ix A.us y) with
  | false=>rfl
  | true=>obtain ⟨_,_,z,hz,_⟩:=R.xZ.mp e; cases hz
 ·intro h
  rcases A.T.v with ⟨e,_,_⟩ | ⟨hK,t1,t2,g,l,ha,hb⟩
  ·exact e
  ·exfalso
   obtain ⟨j,hj,hne⟩:=yM A.T (i:=0) (by omega)
   have:=h (A.ws[0]'(by omega)) (A.us[j]'(by omega))
   unfold Yd.has inY at this
   rw [gG A.uw,gG A.uu] at this
   rw [R.dC (by omega)] at hne
   exact hne this.symm
def Yd.void:Yd:=⟨[],[],[], .nil, .nil,⟨.inl ⟨rfl,rfl,rfl⟩⟩⟩
theorem Yd.void_has (x y:Rat):Yd.void.has x y=false:=(Yd.void_iff _).mp rfl x y
end U
namespace Q
open PySem L2 Z
theorem aG3 (p v:Int × Int):eqD (pairD p) (pairD v)=decide (p=v):=by
 obtain ⟨a,b⟩:=v
 obtain ⟨x,y⟩:=p
 unfold pairD
 simp only [eqD,eqDs,Bool.and_true]
 by_cases h1:x=a
 ·by_cases h2:y=b
  ·rw [decide_eq_true (by rw [h1,h2])]; simp [h1,h2]
  ·rw [decide_eq_false (by intro e; injection e with e1 e2; exact h2 e2)]; simp [h2]
 ·rw [decide_eq_false (by intro e; injection e with e1 e2; exact h1 e1)]; simp [h1]
def aDF:Ct:=fun ds M k=>∃ z:Str,ds=[.str z]∧z.length≤1000∧k (.str (R.cM z)) M
theorem aG5 (z:Str):PySem.Txt.join Str.empty (nX z)=R.cM z:=zC z.cps.toList.reverse
end Q
namespace PySem
open Builtin
structure ZAp (z TI TO i1 i2:Addr) (fp1 fp2:List Addr):Prop where
 TIz:TI≠z
 TOz:TO≠z
 i1z:i1≠z
 i2z:i2≠z
 TOi1:TO≠i1
 TOi2:TO≠i2
 i12:i1≠i2
 f1:∀ b∈fp1,b≠z∧b≠TO∧b≠i2
 f2:∀ b∈fp2,b≠z∧b≠TO∧b≠i1
section
variable {prog:Program}{w:World}{A:Around}{E:Value→Shared→Prop}{s:Shared}{z TI TO i1 i2:Addr}{fp1 fp2:List Addr}{n1 n2 k:Nat}{P1 P2:Nat→Value→Prop}{S1 S2:Nat→Heap→Prop}{a b:Value}
theorem aDI {Q:Value→Shared→Prop} (D1:Draws prog w A i1 fp1 n1 P1 S1) (D2:Draws prog w A i2 fp2 n2 P2 S2) (ap:ZAp z TI TO i1 i2 fp1 fp2)
  (hz:IsZip s.heap z TI TO .none) (hTI:IsPair s.heap TI (.ref i1) (.ref i2)) (hTO:IsPair s.heap TO a b) (s1:S1 k s.heap) (s2:S2 k s.heap) (l1:k < n1) (l2:k < n2)
  (hQ:∀ x y h' tk,P1 k x→P2 k y→IsZip h' z TI TO (rawInt s.heap.objs.size)→IsPair h' TO x y→S1 (k+1) h'→S2 (k+1) h'→IsPair h' s.heap.objs.size x y→h'.objs.size=s.heap.objs.size+1 →
   (∀ c o,c≠z→c≠TO→c≠i1→c≠i2→s.heap.get? c=some o→h'.get? c=some o)→Q (.ref s.heap.objs.size) { s with heap:=h',toks:=tk }) :
  wpAny (model prog w) A (Builtin.«zip.__next__» ⟨[.ref z],[]⟩) (fun fin s'=>∃ v,fin = .done (.ret v)∧Q v s') E s:=by
 show wpAny _ _ (field (.ref z) 2 >>= _) _ _ _
 refine wpAny_bind (wpAny_field hz rfl (x := .bool false) rfl ?_)
 show wpAny _ _ (field (.ref z) 3 >>= _) _ _ _
 refine wpAny_bind (wpAny_field hz rfl (x := .ref TI) rfl ?_)
 refine wpAny_bind (wpAny_seqItems hTI rfl ?_)
 show wpAny _ _ (Builtin.SmallTypes.ownedTupleIsFree (.ref z) >>= _) _ _ _
 refine wpAny_bind ?_
 unfold Builtin.SmallTypes.ownedTupleIsFree
 refine wpAny_bind (wpAny_field hz rfl (x := .none) rfl (wpAny_pure ?_))
 simp only [if_true]
 refine wpAny_bind (wpAny_rule ?_)
 refine wpAny_bind (wpAny_field hz rfl (x := .ref TO) rfl ?_)
 refine wpAny_bind (wpAny_setField_rec hz (by simp) fun h1 hz1 hs1 => ?_)
 replace hz1:IsZip h1 z TI TO .ellipsis:=hz1
 refine wpAny_bind ?_
 simp only [List.zipIdx_cons,List.zipIdx_nil,List.forIn_cons,List.forIn_nil]
 have k1:∀ c o,c≠z→s.heap.get? c=some o→h1.get? c=some o:=fun c o h e=>hs1.extBut _ _ h e
 refine wpAny_bind (wpAny_bind (wpAny_onRaise ?_))
 show wpAny _ _ (Builtin.SmallTypes.nextOf (.ref i1) >>= _) _ _ _
 refine wpAny_bind (D1.item k _ _ _ l1 (D1.frame _ _ _ s1 fun c hc o e=>k1 c o (ap.f1 c hc).1 e) fun x h2 t2 px st2 hs2=>wpAny_pure ?_)
 have k2:∀ c o,c≠i1→h1.get? c=some o→h2.get? c=some o:=fun c o h e=>hs2.extBut _ _ h e
 have hTO2:IsPair h2 TO a b:=k2 _ _ ap.TOi1 (k1 _ _ ap.TOz hTO)
 refine wpAny_bind (wpAny_seqItems hTO2 rfl ?_)
 refine wpAny_bind (wpAny_updateSeq_pair hTO2 fun h3 hTO3 hs3 => ?_)
 replace hTO3:IsPair h3 TO x b:=hTO3
 have k3:∀ c o,c≠TO→h2.get? c=some o→h3.get? c=some o:=fun c o h e=>hs3.extBut _ _ h e
 refine wpAny_bind (wpAny_letGo (wpAny_pure ?_))
 refine wpAny_bind (wpAny_bind (wpAny_onRaise ?_))
 show wpAny _ _ (Builtin.SmallTypes.nextOf (.ref i2) >>= _) _ _ _
 refine wpAny_bind (D2.item k _ _ _ l2 (D2.frame _ _ _ s2 fun c hc o e=>k3 c o (ap.f2 c hc).2.1 (k2 c o (ap.f2 c hc).2.2 (k1 c o (ap.f2 c hc).1 e))) fun y h4 t4 py st4 hs4=>wpAny_pure ?_)
 have k4:∀ c o,c≠i2→h3.get? c=some o→h4.get? c=some o:=fun c o h e=>hs4.extBut _ _ h e
 have hTO4:IsPair h4 TO x b:=k4 _ _ ap.TOi2 hTO3
 refine wpAny_bind (wpAny_seqItems hTO4 rfl ?_)
 refine wpAny_bind (wpAny_updateSeq_pair hTO4 fun h5 hTO5 hs5 => ?_)
 replace hTO5:IsPair h5 TO x y:=hTO5
 have k5:∀ c o,c≠TO→h4.get? c=some o→h5.get? c=some o:=fun c o h e=>hs5.extBut _ _ h e
 refine wpAny_bind (wpAny_letGo (wpAny_pure (wpAny_pure ?_)))
 refine wpAny_bind (wpAny_seqItems hTO5 rfl ?_)
 refine wpAny_bind (wpAny_newTuple ?_)
 have hsz:h5.objs.size=s.heap.objs.size:=by rw [hs5.1,hs4.1,hs3.1,hs2.1,hs1.1]
 have hz5:IsZip h5 z TI TO .ellipsis:=k5 _ _ ap.TOz.symm (k4 _ _ ap.i2z.symm (k3 _ _ ap.TOz.symm (k2 _ _ ap.i1z.symm hz1)))
 have hzlt:z < h5.objs.size:=Heap.lt_size hz5
 show wpAny _ _ (Builtin.SmallTypes.ownedTupleHandOut (.ref z) (.ref h5.objs.size) >>= _) _ _ _
 refine wpAny_bind ?_
 unfold Builtin.SmallTypes.ownedTupleHandOut
 have hz6:IsZip (h5.push { cls := .type "tuple", data := .seq #[x,y] }) z TI TO .ellipsis:=Heap.get?_push_of_some _ hz5
 refine wpAny_bind (wpAny_setField_rec hz6 (by simp) fun h7 hz7 hs7 => ?_)
 replace hz7:IsZip h7 z TI TO (rawInt h5.objs.size):=hz7
 refine wpAny_setField_rec hz7 (by simp) fun h8 hz8 hs8 => ?_
 replace hz8:IsZip h8 z TI TO (rawInt h5.objs.size):=hz8
 have up:∀ c o,c≠z→h5.get? c=some o→h8.get? c=some o:=fun c o c1 e=>hs8.extBut _ _ c1 (hs7.extBut _ _ c1 (Heap.get?_push_of_some _ e))
 have hT8:IsPair h8 h5.objs.size x y:=hs8.extBut _ _ (Nat.ne_of_gt hzlt) (hs7.extBut _ _ (Nat.ne_of_gt hzlt) (Heap.get?_push_size _ rfl))
 have sz8:h8.objs.size=h5.objs.size+1:=by rw [hs8.1,hs7.1,Heap.size_push]
 rw [hsz] at hz8 hT8 sz8
 refine wpAny_pure ⟨_,rfl,?_⟩
 show Q (.ref h5.objs.size) _
 rw [hsz]
 refine hQ x y h8 _ px py hz8 (up _ _ ap.TOz hTO5) (D1.frame _ _ _ st2 fun c hc o e=>up c o (ap.f1 c hc).1 (k5 c o (ap.f1 c hc).2.1 (k4 c o (ap.f1 c hc).2.2 (k3 c o (ap.f1 c hc).2.1 e))))
  (D2.frame _ _ _ st4 fun c hc o e=>up c o (ap.f2 c hc).1 (k5 c o (ap.f2 c hc).2.1 e)) hT8 sz8 fun c o c1 c2 c3 c4 e=>up c o c1 (k5 c o c2 (k4 c o c4 (k3 c o c2 (k2 c o c3 (k1 c o c1 e)))))
theorem aG4 {Q:Fin→Shared→Prop} (D1:Draws prog w A i1 fp1 n1 P1 S1) (ap:ZAp z TI TO i1 i2 fp1 fp2)
  (hz:IsZip s.heap z TI TO .none) (hTI:IsPair s.heap TI (.ref i1) (.ref i2)) (s1:S1 n1 s.heap)
  (hE:∀ h' e,(∀ c o,c≠z→c≠i1→s.heap.get? c=some o→h'.get? c=some o)→(∃ o,h'.get? e=some o∧o.cls = .type "StopIteration")→E (.ref e) { s with heap:=h' }) :
  wpAny (model prog w) A (Builtin.«zip.__next__» ⟨[.ref z],[]⟩) Q E s:=by
 show wpAny _ _ (field (.ref z) 2 >>= _) _ _ _
 refine wpAny_bind (wpAny_field hz rfl (x := .bool false) rfl ?_)
 show wpAny _ _ (field (.ref z) 3 >>= _) _ _ _
 refine wpAny_bind (wpAny_field hz rfl (x := .ref TI) rfl ?_)
 refine wpAny_bind (wpAny_seqItems hTI rfl ?_)
 show wpAny _ _ (Builtin.SmallTypes.ownedTupleIsFree (.ref z) >>= _) _ _ _
 refine wpAny_bind ?_
 unfold Builtin.SmallTypes.ownedTupleIsFree
 refine wpAny_bind (wpAny_field hz rfl (x := .none) rfl (wpAny_pure ?_))
 simp only [if_true]
 refine wpAny_bind (wpAny_rule ?_)
 refine wpAny_bind (wpAny_field hz rfl (x := .ref TO) rfl ?_)
 refine wpAny_bind (wpAny_setField_rec hz (by simp) fun h1 hz1 hs1 => ?_)
 replace hz1:IsZip h1 z TI TO .ellipsis:=hz1
 refine wpAny_bind ?_
 simp only [List.zipIdx_cons,List.zipIdx_nil,List.forIn_cons,List.forIn_nil]
 refine wpAny_bind (wpAny_bind (wpAny_onRaise ?_))
 show wpAny _ _ (Builtin.SmallTypes.nextOf (.ref i1) >>= _) _ _ _
 refine wpAny_bind (D1.done _ _ _ (D1.frame _ _ _ s1 fun c hc o e=>hs1.extBut _ _ (ap.f1 c hc).1 e) fun h2 e hs2 he => ?_)
 obtain ⟨oe,hoe,hce⟩:=he
 have hz2:IsZip h2 z TI TO .ellipsis:=hs2 _ _ ap.i1z.symm hz1
 have hez:e≠z:=fun x=>by subst x; rw [hz2] at hoe; cases hoe; simp at hce
 refine wpAny_setField_rec hz2 (by simp) fun h3 _ hs3=>hE h3 e (fun c o c1 c3 x=>hs3.extBut _ _ c1 (hs2 _ _ c3 (hs1.extBut _ _ c1 x))) ⟨oe,hs3.extBut _ _ hez hoe,hce⟩
theorem mX {Q:Option Value→Shared→Prop} (D1:Draws prog w A.in1 i1 fp1 n1 P1 S1) (D2:Draws prog w A.in1 i2 fp2 n2 P2 S2) (ap:ZAp z TI TO i1 i2 fp1 fp2)
  (hz:IsZip s.heap z TI TO .none) (hTI:IsPair s.heap TI (.ref i1) (.ref i2)) (hTO:IsPair s.heap TO a b) (s1:S1 k s.heap) (s2:S2 k s.heap) (l1:k < n1) (l2:k < n2)
  (hQ:∀ x y h' tk,P1 k x→P2 k y→IsZip h' z TI TO (rawInt s.heap.objs.size)→IsPair h' TO x y→S1 (k+1) h'→S2 (k+1) h'→IsPair h' s.heap.objs.size x y→h'.objs.size=s.heap.objs.size+1 →
   (∀ c o,c≠z→c≠TO→c≠i1→c≠i2→s.heap.get? c=some o→h'.get? c=some o)→Q (some (.ref s.heap.objs.size)) { s with heap:=h',toks:=tk }) :
  wpAny (model prog w) A (pyNext (.ref z)) Q E s:=by
 have hT:s.TypeIs (.ref z) "zip" := ⟨_,hz,rfl⟩
 unfold pyNext
 exact wpAny_bind (wpAny_attempt (wpAny_callSpecial?_slot (name:=Str.ofString "__next__") hT F.slot_zip_next
  (wpAny_call_entry F.slot_zip_next hT F.entry_zip_next
   (aDI D1 D2 ap hz hTI hTO s1 s2 l1 l2 fun x y h' tk a0 a1 a2 a3 a4 a5 a6 a7 a8=>wpAny_pure (hQ x y h' tk a0 a1 a2 a3 a4 a5 a6 a7 a8)) (F.args_zip_next_1 _))))
theorem nZ {Q:Option Value→Shared→Prop} (D1:Draws prog w A.in1 i1 fp1 n1 P1 S1) (ap:ZAp z TI TO i1 i2 fp1 fp2)
  (hz:IsZip s.heap z TI TO .none) (hTI:IsPair s.heap TI (.ref i1) (.ref i2)) (s1:S1 n1 s.heap)
  (hQ:∀ h',(∀ c o,c≠z→c≠i1→s.heap.get? c=some o→h'.get? c=some o)→Q none { s with heap:=h' }):wpAny (model prog w) A (pyNext (.ref z)) Q E s:=by
 have hT:s.TypeIs (.ref z) "zip" := ⟨_,hz,rfl⟩
 unfold pyNext
 refine wpAny_bind (wpAny_attempt (wpAny_callSpecial?_slot (name:=Str.ofString "__next__") hT F.slot_zip_next
  (wpAny_call_entry F.slot_zip_next hT F.entry_zip_next (aG4 D1 ap hz hTI s1 fun h' e hk he => ?_) (F.args_zip_next_1 _))))
 obtain ⟨o,ho,hc⟩:=he
 refine wpAny_bind (wpAny_isInstance (T := "StopIteration") (b:=true) ⟨o,ho,hc⟩ isSubtype_stop ?_)
 exact wpAny_pure (hQ _ hk)
end
end PySem
namespace PySem
open PyProof.Rows
abbrev aCH (h:Heap) (x:Str) (t:Tok):Heap:=h.push { cls := .type (strIterType x),data := .fields #[.str x t, .int 0 0] }
abbrev aBY (h:Heap) (x y:Str) (t u:Tok):Heap:=(aCH h x t).push { cls := .type (strIterType y),data := .fields #[.str y u, .int 0 0] }
abbrev aB8 (h:Heap) (x y:Str) (t u:Tok):Heap:=(aBY h x y t u).push { cls := .type "tuple", data := .seq #[.ref h.objs.size, .ref (aCH h x t).objs.size] }
abbrev aB0 (h:Heap) (x y:Str) (t u:Tok):Heap:=(aB8 h x y t u).push { cls := .type "tuple", data := .seq #[.none, .none] }
abbrev rZ (h:Heap) (x y:Str) (t u:Tok):Heap:=(aB0 h x y t u).push { cls := .type "zip", data := .fields #[.none, .bool false, .bool false, .ref (aBY h x y t u).objs.size, .ref (aB8 h x y t u).objs.size] }
theorem tZ (x y:Str) (t u:Tok) :
  Meets (Builtin.«zip.__new__» ⟨[.type "zip", .str x t, .str y u],[]⟩) (fun _ R s=>R (.ok (.ret (.ref (aB0 s.heap x y t u).objs.size))) { s with heap:=rZ s.heap x y t u }) :=
 .of_wp fun prog w A R s h=>by
  obtain ⟨hp,g,d,tk,os⟩:=s
  have hsub:=sub_zip
  wp_walk using wpAny_pyIter_strU,wpAny_pyIter_strU
  exact ⟨_,rfl,h⟩
section
variable {prog:Program}{w:World}{A:Around}{E:Value→Shared→Prop}{s:Shared}
theorem xS {x y:Str}{t u:Tok}{Q:Value→Shared→Prop}
  (h:∀ h',IsZip h' (s.heap.objs.size+4) (s.heap.objs.size+2) (s.heap.objs.size+3) .none→IsPair h' (s.heap.objs.size+2) (.ref s.heap.objs.size) (.ref (s.heap.objs.size+1)) →
   IsPair h' (s.heap.objs.size+3) .none .none→h'.IsStrIter s.heap.objs.size (strIterType x) x t 0→h'.IsStrIter (s.heap.objs.size+1) (strIterType y) y u 0→h'.objs.size=s.heap.objs.size+5 →
   (∀ c o,s.heap.get? c=some o→h'.get? c=some o)→Q (.ref (s.heap.objs.size+4)) { s with heap:=h' }) :
  wpAny (model prog w) A (call (.type "zip") [.str x t, .str y u]) Q E s:=by
 refine callType_new F.called_zip (by decide) (F.typeCall_zip_2 _ _) (F.newCall_zip_2 _ _) (fun obj=>F.args_object_init_3 obj _ _) F.entry_zip_new (tZ x y t u) ?_
 have z1:(aCH s.heap x t).objs.size=s.heap.objs.size+1:=Heap.size_push ..
 have z2:(aBY s.heap x y t u).objs.size=s.heap.objs.size+2:=by rw [Heap.size_push,z1]
 have z3:(aB8 s.heap x y t u).objs.size=s.heap.objs.size+3:=by rw [Heap.size_push,z2]
 have z4:(aB0 s.heap x y t u).objs.size=s.heap.objs.size+4:=by rw [Heap.size_push,z3]
 have z5:(rZ s.heap x y t u).objs.size=s.heap.objs.size+5:=by rw [Heap.size_push,z4]
 have g5:(rZ s.heap x y t u).get? (aB0 s.heap x y t u).objs.size=some _:=Heap.get?_push_size _ rfl
 have g4:(rZ s.heap x y t u).get? (aB8 s.heap x y t u).objs.size=some _:=Heap.get?_push_of_some _ (Heap.get?_push_size _ rfl)
 have g3:(rZ s.heap x y t u).get? (aBY s.heap x y t u).objs.size=some _:=Heap.get?_push_of_some _ (Heap.get?_push_of_some _ (Heap.get?_push_size _ rfl))
 have g2:(rZ s.heap x y t u).get? (aCH s.heap x t).objs.size=some _:=Heap.get?_push_of_some _ (Heap.get?_push_of_some _ (Heap.get?_push_of_some _ (Heap.get?_push_size _ rfl)))
 have g1:(rZ s.heap x y t u).get? s.heap.objs.size=some _:=Heap.get?_push_of_some _ (Heap.get?_push_of_some _ (Heap.get?_push_of_some _ (Heap.get?_push_of_some _ (Heap.get?_push_size _ rfl))))
 show _∧_
 rw [z2,z3,z4] at g5
 rw [z1,z2] at g3
 rw [z3] at g4
 rw [z1] at g2
 rw [z4]
 exact ⟨⟨_,g5,rfl⟩,h _ g5 g3 g4 ⟨_,g1,rfl,rfl⟩ ⟨_,g2,rfl,rfl⟩ z5 fun c o e=>Heap.get?_push_of_some _ (Heap.get?_push_of_some _ (Heap.get?_push_of_some _ (Heap.get?_push_of_some _ (Heap.get?_push_of_some _ e))))⟩
end
end PySem
namespace L2
open PySem PySem.Spec PyProof.Rows
section
variable {X:Cx}
def Izs (x y:Str):It:=⟨fun i H=>i < x.cps.size∧i < y.cps.size,fun i H v H'=>∃ T c d,H T=none∧v = .ref T∧H'=upd H T (.tup [.str ⟨#[c]⟩, .str ⟨#[d]⟩])∧x.cps[i]?=some c∧y.cps[i]?=some d,fun i H=>x.cps.size=i⟩
theorem aEC {P:Program}{w:World}{K:PySem.W.Frag}{elts:List Expr}{kk:Nat}{tp:Pos} (x y:Str) (t u:Tok) (z TI TO i1 i2:Addr) (ap:ZAp z TI TO i1 i2 [i1] [i2]) (hTT:TI≠TO∧TI≠i1∧TI≠i2) :
  Turn P w K (.Tuple elts kk tp) (Izs x y) [z,TI,TO,i1,i2] z (fun i h=>IsZip h z TI TO .none∧IsPair h TI (.ref i1) (.ref i2)∧(∃ a b,IsPair h TO a b)∧h.IsStrIter i1 (strIterType x) x t i∧h.IsStrIter i2 (strIterType y) y u i) where
 mem:=by simp
 obj:=fun i h st b hb=>by
  obtain ⟨hz,hTI,⟨a1,b1,hTO⟩,⟨o1,ho1,hc1,hd1⟩,o2,ho2,hc2,hd2⟩:=st
  simp only [List.mem_cons,List.not_mem_nil,or_false] at hb
  rcases hb with rfl | rfl | rfl | rfl | rfl
  ·exact ⟨_,hz,fun v q=>by cases q⟩
  ·exact ⟨_,hTI,fun v q=>by cases q⟩
  ·exact ⟨_,hTO,fun v q=>by cases q⟩
  ·exact ⟨o1,ho1,fun v q=>by rw [hd1] at q; cases q⟩
  ·exact ⟨o2,ho2,fun v q=>by rw [hd2] at q; cases q⟩
 keep:=fun i h h' st k=>by
  obtain ⟨hz,hTI,⟨a1,b1,hTO⟩,⟨o1,ho1,r1⟩,o2,ho2,r2⟩:=st
  exact ⟨k z (by simp) _ hz,k TI (by simp) _ hTI,⟨a1,b1,k TO (by simp) _ hTO⟩,⟨o1,k i1 (by simp) o1 ho1,r1⟩,o2,k i2 (by simp) o2 ho2,r2⟩
 item:=by
  intro X hP hw hK hc i pins s σ H E I hf st hg
  subst hP hw hK
  obtain ⟨hz,hTI,⟨a1,b1,hTO⟩,hi1,hi2⟩:=st
  have D1:=pL (prog:=X.prog) (w:=X.w) (A:=X.A.in1) (I.ok.hd hc) i1 x t
  have D2:=pL (prog:=X.prog) (w:=X.w) (A:=X.A.in1) (I.ok.hd hc) i2 y u
  refine mX D1 D2 ap hz hTI hTO hi1 hi2 hg.1 hg.2 fun p q h1 tk hp hq hz1 hTO1 hs1 hs2 hT hsz hk => ?_
  obtain ⟨c,tc,hcx,rfl⟩:=hp
  obtain ⟨d,td,hdy,rfl⟩:=hq
  refine ⟨_,rfl,wpAny_letOwnedTupleGo_zip hz1 fun h2 hz2 hs => ?_⟩
  have lz:=Heap.lt_size hz
  have lTO:=Heap.lt_size hTO
  have lTI:=Heap.lt_size hTI
  have l1:i1 < s.heap.objs.size:=by obtain ⟨o,e,_⟩:=hi1; exact Heap.lt_size e
  have l2:i2 < s.heap.objs.size:=by obtain ⟨o,e,_⟩:=hi2; exact Heap.lt_size e
  have up:∀ b o,b≠z→h1.get? b=some o→h2.get? b=some o:=fun b o n e=>hs.extBut _ _ n e
  have tup2:h2.get? s.heap.objs.size=some { cls := .type "tuple", data := .seq #[.str ⟨#[c]⟩ tc, .str ⟨#[d]⟩ td] }:=up _ _ (Nat.ne_of_gt lz) hT
  have k2:∀ b ob,b ∉ [z,TI,TO,i1,i2]→s.heap.get? b=some ob→h2.get? b=some ob:=fun b ob hb q=>by
   simp only [List.mem_cons,List.not_mem_nil,or_false,not_or] at hb
   exact up b ob hb.1 (hk b ob hb.1 hb.2.2.1 hb.2.2.2.1 hb.2.2.2.2 q)
  have I2:Inv X pins σ (upd H s.heap.objs.size (.tup [.str ⟨#[c]⟩, .str ⟨#[d]⟩])) { s with heap:=h2,toks:=tk }:=I.turnedT k2 hf (Nat.le_refl _) ⟨(show 2≤sizeLine by decide),[.str ⟨#[c]⟩ tc, .str ⟨#[d]⟩ td], .cons ⟨tc,rfl⟩ (.cons ⟨td,rfl⟩ .nil),_,tup2,rfl,0,rfl⟩
  have hn:H s.heap.objs.size=none:=I.hok.fresh (Nat.le_refl _)
  refine ⟨.ref s.heap.objs.size,_,I2,rfl,⟨s.heap.objs.size,c,d,hn,rfl,rfl,hcx,hdy⟩,⟨hz2,up _ _ ap.TIz (hk _ _ ap.TIz hTT.1 hTT.2.1 hTT.2.2 hTI),⟨_,_,up _ _ ap.TOz hTO1⟩,?_,?_⟩,fun b hb => ?_⟩
  ·obtain ⟨o,e,r⟩:=hs1
   exact ⟨o,up _ _ ap.i1z e,r⟩
  ·obtain ⟨o,e,r⟩:=hs2
   exact ⟨o,up _ _ ap.i2z e,r⟩
  ·rw [bL (fun e => ?_)]
   ·exact (hf b hb).1
   ·simp only [List.mem_cons,List.not_mem_nil,or_false] at hb
    rcases hb with y | y | y | y | y <;> rw [y] at e
    ·exact absurd e (Nat.ne_of_lt lz)
    ·exact absurd e (Nat.ne_of_lt lTI)
    ·exact absurd e (Nat.ne_of_lt lTO)
    ·exact absurd e (Nat.ne_of_lt l1)
    ·exact absurd e (Nat.ne_of_lt l2)
 done:=by
  intro X hP hw hK hc i pins s σ H E I hf st hg
  subst hP hw hK
  obtain ⟨hz,hTI,⟨a1,b1,hTO⟩,hi1,hi2⟩:=st
  have D1:=pL (prog:=X.prog) (w:=X.w) (A:=X.A.in1) (I.ok.hd hc) i1 x t
  have hn:x.cps.size=i:=hg
  subst hn
  refine nZ D1 ap hz hTI hi1 fun h2 hx=>⟨rfl,I.turnedL (t':=s.toks) (ch:=[z,i1]) (fun b ob hb q=>hx b ob (fun e=>hb (by simp [e])) (fun e=>hb (by simp [e])) q) fun b hb=>hf b ?_⟩
  simp only [List.mem_cons,List.not_mem_nil,or_false] at hb
  rcases hb with y | y <;> rw [y] <;> simp
 self:=fun A i s Q E st h=>wpAny_pyIter_zip st.1 h
theorem uI (n:Nat):ZAp (n+4) (n+2) (n+3) n (n+1) [n] [n+1] :=
  ⟨Nat.ne_of_lt (Nat.add_lt_add_left (by decide) n),Nat.ne_of_lt (Nat.add_lt_add_left (by decide) n),Nat.ne_of_lt (Nat.lt_add_of_pos_right (by decide)),Nat.ne_of_lt (Nat.add_lt_add_left (by decide) n),Nat.ne_of_gt (Nat.lt_add_of_pos_right (by decide)),Nat.ne_of_gt (Nat.add_lt_add_left (by decide) n),Nat.ne_of_lt (Nat.lt_add_of_pos_right (by decide)),
   fun b hb=>by rw [List.mem_singleton] at hb; subst hb; exact ⟨Nat.ne_of_lt (Nat.lt_add_of_pos_right (by decide)),Nat.ne_of_lt (Nat.lt_add_of_pos_right (by decide)),Nat.ne_of_lt (Nat.lt_add_of_pos_right (by decide))⟩,
   fun b hb=>by rw [List.mem_singleton] at hb; subst hb; exact ⟨Nat.ne_of_lt (Nat.add_lt_add_left (by decide) n),Nat.ne_of_lt (Nat.add_lt_add_left (by decide) n),Nat.ne_of_gt (Nat.lt_add_of_pos_right (by decide))⟩⟩
theorem rT (n:Nat):n+2≠n+3∧n+2≠n∧n+2≠n+1:=⟨by omega,by omega,by omega⟩
def aN0 (ta:TA):TI:=fun σ H R=>ta σ H fun vs H1=>∃ x y,vs=[.str x, .str y]∧R (Izs x y) H1
theorem aJ5 {elts:List Expr}{kk:Nat}{tp:Pos}{a b:Expr}{ta:TA}{p pos:Pos} (hg:Gl X "zip") (hm:X.mg "zip" = none) (hv:bootBuiltins "zip" = some (.type "zip")) (ha:PA X [a,b] ta) (hs:starEach [a,b] X.env=[(false,eval a X.env),(false,eval b X.env)]:=by rfl) (hs2:starEach [b] X.env=[(false,eval b X.env)]:=by rfl) :
  PI X (.Tuple elts kk tp) (.Call (.Name "zip" p) [a,b] [] pos) (aN0 ta):=by
 intro pins s σ H R I h
 refine Call_ (iB I hg hm hv (PyProof.Rows.callWith_type1 (thn (ha pos pins s σ H _ I h) fun us s1 ⟨vs,H1,I1,r1,q1⟩ => ?_) (by rw [hs,hs2]) (by rw [hs2]; rfl)))
 obtain ⟨x,y,e,q⟩:=q1
 subst e
 obtain ⟨v1,v2,rfl,ru1,ru2⟩:=vals2 r1
 obtain ⟨t,rfl⟩:=ru1
 obtain ⟨u,rfl⟩:=ru2
 refine xS fun h' hz hTI hTO h1 h2 hsz hk => ?_
 have I2:Inv X pins σ H1 { s1 with heap:=h' }:=I1.kept (t':=s1.toks) hk
 refine wpAny_pyIter_zip hz ?_
 refine ⟨_,[s1.heap.objs.size+4,s1.heap.objs.size+2,s1.heap.objs.size+3,s1.heap.objs.size,s1.heap.objs.size+1],_,Izs x y,H1,rfl,I2,aEC x y t u (s1.heap.objs.size+4) (s1.heap.objs.size+2) (s1.heap.objs.size+3) s1.heap.objs.size (s1.heap.objs.size+1) (uI _) (rT _),⟨hz,hTI,⟨_,_,hTO⟩,h1,h2⟩,fun c hc => ?_,q⟩
 have hle:s1.heap.objs.size≤c:=by
  simp only [List.mem_cons,List.not_mem_nil,or_false] at hc
  rcases hc with h | h | h | h | h <;> rw [h] <;> first | exact Nat.le_refl _ | exact Nat.le_add_right _ _
 exact I1.fpOk hle (I1.hok.fresh hle)
end
end L2
namespace Z
open PySem L2
section
variable {X:Cx}{Γ:Gm}{M:Mem}{k:D→Mem→Prop}{pos:Pos}{a b:Expr}{rest:List Expr}
def d7 (xs ys:List D):List D:=(xs.zip ys).map fun p => .tup [p.1,p.2]
theorem aJN {K:Fg}{x y:Str} (hl:x.cps.size=y.cps.size) {G0:Hp}:YD K (Izs x y) (d7 (iT x) (iT y)) G0 where
 go:=fun i G H M sg rl h=>by
  unfold d7 at h
  rw [List.length_map,List.length_zip,jW,jW] at h
  exact ⟨by show i < x.length; omega,by show i < y.length; omega⟩
 yld:=fun i G H M v H' sg rl h z=>by
  obtain ⟨T,c,d,hT,rfl,rfl,hc,hd⟩:=z
  have st:=rl.new (o := .tup [.str ⟨#[c]⟩, .str ⟨#[d]⟩]) hT
  refine ⟨_, .tup [.str ⟨#[c]⟩, .str ⟨#[d]⟩],st,?_,dN (SqT.of bQ) (bC fQ (bC fQ bV))⟩
  unfold d7
  have e:((iT x).zip (iT y))[i]?=some (.str ⟨#[c]⟩, .str ⟨#[d]⟩):=List.getElem?_zip_eq_some.mpr ⟨by simp [iT,hc],by simp [iT,hd]⟩
  rw [List.getElem?_map,e]
  rfl
 stop:=fun i G H M sg rl h=>by
  unfold d7 at h
  rw [List.length_map,List.length_zip,jW,jW] at h
  show x.cps.size=i
  have:x.length=x.cps.size:=rfl
  have:y.length=y.cps.size:=rfl
  omega
theorem aI4 {elts:List Expr}{kk:Nat}{tp p:Pos}{ki:List D→Mem→Prop} (hm:X.mg "zip" = none) (hv:bootBuiltins "zip" = some (.type "zip")) (h:GA X [a,b] Γ M fun ds M1=>∃ x y:Str,ds=[.str x, .str y]∧x.cps.size=y.cps.size∧ki (d7 (iT x) (iT y)) M1) (hg:Gl X "zip" := by rfl)
  (hs:starEach [a,b] X.env=[(false,eval a X.env),(false,eval b X.env)]:=by rfl) (hs2:starEach [b] X.env=[(false,eval b X.env)]:=by rfl) :
  GI X (.Tuple elts kk tp) (.Call (.Name "zip" p) [a,b] [] pos) Γ M ki:=fun σ G H Rr en rl q=>by
 refine lI (aJ5 hg hm hv pUA hs hs2) ?_
 refine h σ G H _ en rl fun vs G1 H1 ds M1 s1 e1 ⟨x,y,ed,hl,h1⟩ => ?_
 subst ed
 obtain ⟨v,u,rfl,dv,du⟩:=dens2 e1
 exact ⟨x,y,by rw [dv.str_,du.str_],q _ _ _ _ _ s1 (aJN hl) h1⟩
end
end Z
namespace L2
open PySem PySem.Spec PyProof.Rows
section
variable {X:Cx}
theorem g8 {h:Heap}{a b:Addr}{its:Array Value}{o:Obj} (hl:h.IsList a its) (ho:h.get? b=some o) (hc:o.cls ≠ .type "list"):a≠b:=fun z=>by
 obtain ⟨o1,e1,c1,_⟩:=hl
 rw [z,ho] at e1; cases e1
 exact hc c1
def Izl (K:PySem.W.Frag) (a b:Addr):It:=⟨fun i H=>∃ xs ys x y,SqL K H a xs∧SqL K H b ys∧xs[i]?=some x∧ys[i]?=some y,fun i H v H'=>∃ T x y,H T=none∧v = .ref T∧H'=upd H T (.tup [x,y])∧(∀ xs,SqL K H a xs→xs[i]?=some x)∧(∀ ys,SqL K H b ys→ys[i]?=some y),fun i H=>∃ xs,SqL K H a xs∧xs.length=i⟩
theorem aFD {P:Program}{w:World}{K:PySem.W.Frag}{elts:List Expr}{kk:Nat}{tp:Pos} (a b z TI TO i1 i2:Addr) (ap0:ZAp z TI TO i1 i2 [i1] [i2]) (hTT:TI≠TO∧TI≠i1∧TI≠i2) :
  Turn P w K (.Tuple elts kk tp) (Izl K a b) [z,TI,TO,i1,i2] z (fun i h=>IsZip h z TI TO .none∧IsPair h TI (.ref i1) (.ref i2)∧(∃ a b,IsPair h TO a b)∧h.IsListIter i1 a i∧h.IsListIter i2 b i) where
 mem:=by simp
 obj:=fun i h st b hb=>by
  obtain ⟨hz,hTI,⟨a1,b1,hTO⟩,⟨o1,ho1,hc1,hd1⟩,o2,ho2,hc2,hd2⟩:=st
  simp only [List.mem_cons,List.not_mem_nil,or_false] at hb
  rcases hb with rfl | rfl | rfl | rfl | rfl
  ·exact ⟨_,hz,fun v q=>by cases q⟩
  ·exact ⟨_,hTI,fun v q=>by cases q⟩
  ·exact ⟨_,hTO,fun v q=>by cases q⟩
  ·exact ⟨o1,ho1,fun v q=>by rw [hd1] at q; cases q⟩
  ·exact ⟨o2,ho2,fun v q=>by rw [hd2] at q; cases q⟩
 keep:=fun i h h' st k=>by
  obtain ⟨hz,hTI,⟨a1,b1,hTO⟩,⟨o1,ho1,r1⟩,o2,ho2,r2⟩:=st
  exact ⟨k z (by simp) _ hz,k TI (by simp) _ hTI,⟨a1,b1,k TO (by simp) _ hTO⟩,⟨o1,k i1 (by simp) o1 ho1,r1⟩,o2,k i2 (by simp) o2 ho2,r2⟩
 item:=by
  intro X hP hw hK hc i pins s σ H E I hf st hg
  subst hP hw hK
  obtain ⟨hz,hTI,⟨a1,b1,hTO⟩,hi1,hi2⟩:=st
  obtain ⟨xs,ys,x,y,hqx,hqy,hx,hy⟩:=hg
  obtain ⟨itx,rvx,ptx,hzx⟩:=I.list hqx
  obtain ⟨ity,rvy,pty,hzy⟩:=I.list hqy
  obtain ⟨o1,ho1,hc1,hd1⟩:=id hi1
  obtain ⟨o2,ho2,hc2,hd2⟩:=id hi2
  have n1:∀ {a its},s.heap.IsList a its→a≠z∧a≠TO∧a≠i1∧a≠i2:=fun hl=>⟨g8 hl hz (by simp),g8 hl hTO (by simp),g8 hl ho1 (by rw [hc1]; simp),g8 hl ho2 (by rw [hc2]; simp)⟩
  have na:=n1 ptx.isList
  have nb:=n1 pty.isList
  have ap:ZAp z TI TO i1 i2 [i1,a] [i2,b]:=⟨ap0.TIz,ap0.TOz,ap0.i1z,ap0.i2z,ap0.TOi1,ap0.TOi2,ap0.i12,
   fun c hc=>by
    rcases List.mem_cons.mp hc with rfl | hc
    ·exact ap0.f1 _ (by simp)
    ·rw [List.mem_singleton] at hc; subst hc; exact ⟨na.1,na.2.1,na.2.2.2⟩,
   fun c hc=>by
    rcases List.mem_cons.mp hc with rfl | hc
    ·exact ap0.f2 _ (by simp)
    ·rw [List.mem_singleton] at hc; subst hc; exact ⟨nb.1,nb.2.1,nb.2.2.1⟩⟩
  have D1:=Draws.list (prog:=X.prog) (w:=X.w) (A:=X.A.in1) (I.ok.hd hc) i1 a na.2.2.1 itx.toArray
  have D2:=Draws.list (prog:=X.prog) (w:=X.w) (A:=X.A.in1) (I.ok.hd hc) i2 b nb.2.2.2 ity.toArray
  have l1:i < itx.toArray.size:=by rw [List.size_toArray,← rvx.length]; exact (List.getElem?_eq_some_iff.mp hx).1
  have l2:i < ity.toArray.size:=by rw [List.size_toArray,← rvy.length]; exact (List.getElem?_eq_some_iff.mp hy).1
  refine mX D1 D2 ap hz hTI hTO ⟨hi1,ptx.isList⟩ ⟨hi2,pty.isList⟩ l1 l2 fun p q h1 tk hp hq hz1 hTO1 hs1 hs2 hT hsz hk => ?_
  obtain ⟨u,hu,ru⟩:=rvx.get hx
  obtain ⟨v,hv,rv⟩:=rvy.get hy
  have ep:p=u:=by
   have e3:itx[i]?=some p:=by simpa using hp
   rw [hu] at e3; exact (Option.some.inj e3).symm
  have eq:q=v:=by
   have e3:ity[i]?=some q:=by simpa using hq
   rw [hv] at e3; exact (Option.some.inj e3).symm
  subst ep eq
  refine ⟨_,rfl,wpAny_letOwnedTupleGo_zip hz1 fun h2 hz2 hs => ?_⟩
  have lz:=Heap.lt_size hz
  have lTO:=Heap.lt_size hTO
  have lTI:=Heap.lt_size hTI
  have li1:=Heap.lt_size ho1
  have li2:=Heap.lt_size ho2
  have up:∀ b o,b≠z→h1.get? b=some o→h2.get? b=some o:=fun b o n e=>hs.extBut _ _ n e
  have tup2:h2.get? s.heap.objs.size=some { cls := .type "tuple", data := .seq #[p,q] }:=up _ _ (Nat.ne_of_gt lz) hT
  have k2:∀ b ob,b ∉ [z,TI,TO,i1,i2]→s.heap.get? b=some ob→h2.get? b=some ob:=fun b ob hb q=>by
   simp only [List.mem_cons,List.not_mem_nil,or_false,not_or] at hb
   exact up b ob hb.1 (hk b ob hb.1 hb.2.2.1 hb.2.2.2.1 hb.2.2.2.2 q)
  have I2:Inv X pins σ (upd H s.heap.objs.size (.tup [x,y])) { s with heap:=h2,toks:=tk }:=I.turnedT k2 hf (Nat.le_refl _) ⟨(show 2≤sizeLine by decide),[p,q], .cons ru (.cons rv .nil),_,tup2,rfl,0,rfl⟩
  have hn:H s.heap.objs.size=none:=I.hok.fresh (Nat.le_refl _)
  refine ⟨.ref s.heap.objs.size,_,I2,rfl,⟨s.heap.objs.size,x,y,hn,rfl,rfl,fun xs' q'=>by rw [I.list_inj q' hqx]; exact hx,fun ys' q'=>by rw [I.list_inj q' hqy]; exact hy⟩,⟨hz2,up _ _ ap.TIz (hk _ _ ap.TIz hTT.1 hTT.2.1 hTT.2.2 hTI),⟨_,_,up _ _ ap.TOz hTO1⟩,?_,?_⟩,fun b hb => ?_⟩
  ·obtain ⟨o,e,r⟩:=hs1.1
   exact ⟨o,up _ _ ap.i1z e,r⟩
  ·obtain ⟨o,e,r⟩:=hs2.1
   exact ⟨o,up _ _ ap.i2z e,r⟩
  ·rw [bL (fun e => ?_)]
   ·exact (hf b hb).1
   ·simp only [List.mem_cons,List.not_mem_nil,or_false] at hb
    rcases hb with y | y | y | y | y <;> rw [y] at e
    ·exact absurd e (Nat.ne_of_lt lz)
    ·exact absurd e (Nat.ne_of_lt lTI)
    ·exact absurd e (Nat.ne_of_lt lTO)
    ·exact absurd e (Nat.ne_of_lt li1)
    ·exact absurd e (Nat.ne_of_lt li2)
 done:=by
  intro X hP hw hK hc i pins s σ H E I hf st hg
  subst hP hw hK
  obtain ⟨hz,hTI,⟨a1,b1,hTO⟩,hi1,hi2⟩:=st
  obtain ⟨xs,hqx,hlen⟩:=hg
  obtain ⟨itx,rvx,ptx,hzx⟩:=I.list hqx
  obtain ⟨o1,ho1,hc1,hd1⟩:=id hi1
  have na:a≠i1:=g8 ptx.isList ho1 (by rw [hc1]; simp)
  have naz:a≠z:=g8 ptx.isList hz (by simp)
  have naT:a≠TO:=g8 ptx.isList hTO (by simp)
  obtain ⟨o2,ho2,hc2,hd2⟩:=id hi2
  have na2:a≠i2:=g8 ptx.isList ho2 (by rw [hc2]; simp)
  have ap:ZAp z TI TO i1 i2 [i1,a] [i2]:=⟨ap0.TIz,ap0.TOz,ap0.i1z,ap0.i2z,ap0.TOi1,ap0.TOi2,ap0.i12,
   fun c hc=>by
    rcases List.mem_cons.mp hc with rfl | hc
    ·exact ap0.f1 _ (by simp)
    ·rw [List.mem_singleton] at hc; subst hc; exact ⟨naz,naT,na2⟩,ap0.f2⟩
  have D1:=Draws.list (prog:=X.prog) (w:=X.w) (A:=X.A.in1) (I.ok.hd hc) i1 a na itx.toArray
  have hn:itx.toArray.size=i:=by rw [List.size_toArray,← rvx.length]; exact hlen
  subst hn
  refine nZ D1 ap hz hTI ⟨hi1,ptx.isList⟩ fun h2 hx=>⟨rfl,I.turnedL (t':=s.toks) (ch:=[z,i1]) (fun b ob hb q=>hx b ob (fun e=>hb (by simp [e])) (fun e=>hb (by simp [e])) q) fun b hb=>hf b ?_⟩
  simp only [List.mem_cons,List.not_mem_nil,or_false] at hb
  rcases hb with y | y <;> rw [y] <;> simp
 self:=fun A i s Q E st h=>wpAny_pyIter_zip st.1 h
def aN3 (K:PySem.W.Frag) (ta:TA):TI:=fun σ H R=>ta σ H fun vs H1=>∃ a b xs ys,vs=[.ref a, .ref b]∧SqL K H1 a xs∧SqL K H1 b ys∧R (Izl K a b) H1
theorem aIS {elts:List Expr}{kk:Nat}{tp:Pos}{a b:Expr}{ta:TA}{p pos:Pos} (hg:Gl X "zip") (hm:X.mg "zip" = none) (hv:bootBuiltins "zip" = some (.type "zip")) (ha:PA X [a,b] ta) (hs:starEach [a,b] X.env=[(false,eval a X.env),(false,eval b X.env)]:=by rfl) (hs2:starEach [b] X.env=[(false,eval b X.env)]:=by rfl) :
  PI X (.Tuple elts kk tp) (.Call (.Name "zip" p) [a,b] [] pos) (aN3 X.K ta):=by
 intro pins s σ H R I h
 refine Call_ (iB I hg hm hv (PyProof.Rows.callWith_type1 (thn (ha pos pins s σ H _ I h) fun us s1 ⟨vs,H1,I1,r1,q1⟩ => ?_) (by rw [hs,hs2]) (by rw [hs2]; rfl)))
 obtain ⟨c,d,xs,ys,e,hqx,hqy,q⟩:=q1
 subst e
 obtain ⟨v1,v2,rfl,ru1,ru2⟩:=vals2 r1
 cases ru1
 cases ru2
 obtain ⟨itx,rvx,ptx,hzx⟩:=I1.list hqx
 obtain ⟨ity,rvy,pty,hzy⟩:=I1.list hqy
 refine call_zip_2 ptx.isList pty.isList fun h' hz hTI hTO h1 h2 hsz hk => ?_
 have I2:Inv X pins σ H1 { s1 with heap:=h' }:=I1.kept (t':=s1.toks) hk
 refine wpAny_pyIter_zip hz ?_
 refine ⟨_,[s1.heap.objs.size+4,s1.heap.objs.size+2,s1.heap.objs.size+3,s1.heap.objs.size,s1.heap.objs.size+1],_,Izl X.K c d,H1,rfl,I2,aFD c d (s1.heap.objs.size+4) (s1.heap.objs.size+2) (s1.heap.objs.size+3) s1.heap.objs.size (s1.heap.objs.size+1) (uI _) (rT _),⟨hz,hTI,⟨_,_,hTO⟩,h1,h2⟩,fun c hc => ?_,q⟩
 have hle:s1.heap.objs.size≤c:=by
  simp only [List.mem_cons,List.not_mem_nil,or_false] at hc
  rcases hc with h | h | h | h | h <;> rw [h] <;> first | exact Nat.le_refl _ | exact Nat.le_add_right _ _
 exact I1.fpOk hle (I1.hok.fresh hle)
end
end L2
namespace Z
open PySem L2
section
variable {X:Cx}{Γ:Gm}{M:Mem}{k:D→Mem→Prop}{pos:Pos}{a b:Expr}{rest:List Expr}
theorem aKV {K:Fg}{a b:Addr}{vs us:List V}{ds es:List D}{G0:Hp} (s1:SqL K G0 a vs) (d1:Dens K G0 ds vs) (s2:SqL K G0 b us) (d2:Dens K G0 es us) (hl:ds.length=es.length):YD K (Izl K a b) (d7 ds es) G0 where
 go:=fun i G H M sg rl h=>by
  unfold d7 at h
  rw [List.length_map,List.length_zip] at h
  have h1:=d1.len
  have h2:=d2.len
  exact ⟨vs,us,vs[i]'(by omega),us[i]'(by omega),rl.same.seq (sg.seq s1),rl.same.seq (sg.seq s2),List.getElem?_eq_getElem _,List.getElem?_eq_getElem _⟩
 yld:=fun i G H M v H' sg rl h z=>by
  obtain ⟨T,x,y,hT,rfl,rfl,hx,hy⟩:=z
  obtain ⟨c,hc,ec⟩:=d1.get' (hx vs (rl.same.seq (sg.seq s1)))
  obtain ⟨d,hd,ed⟩:=d2.get' (hy us (rl.same.seq (sg.seq s2)))
  have st:=rl.new (o := .tup [x,y]) hT
  refine ⟨_, .tup [c,d],st,?_,dN (SqT.of bQ) (bC ((ec.up sg).up st.gg) (bC ((ed.up sg).up st.gg) bV))⟩
  unfold d7
  have e:(ds.zip es)[i]?=some (c,d):=List.getElem?_zip_eq_some.mpr ⟨hc,hd⟩
  rw [List.getElem?_map,e]
  rfl
 stop:=fun i G H M sg rl h=>by
  unfold d7 at h
  rw [List.length_map,List.length_zip] at h
  have h1:=d1.len
  exact ⟨vs,rl.same.seq (sg.seq s1),by omega⟩
theorem aJS {elts:List Expr}{kk:Nat}{tp p:Pos}{ki:List D→Mem→Prop} (hm:X.mg "zip" = none) (hv:bootBuiltins "zip" = some (.type "zip")) (h:GA X [a,b] Γ M fun ds M1=>∃ xs ys,ds=[.lst xs, .lst ys]∧xs.length=ys.length∧ki (d7 xs ys) M1) (hg:Gl X "zip" := by rfl)
  (hs:starEach [a,b] X.env=[(false,eval a X.env),(false,eval b X.env)]:=by rfl) (hs2:starEach [b] X.env=[(false,eval b X.env)]:=by rfl) :
  GI X (.Tuple elts kk tp) (.Call (.Name "zip" p) [a,b] [] pos) Γ M ki:=fun σ G H Rr en rl q=>by
 refine lI (aIS hg hm hv pUA hs hs2) ?_
 refine h σ G H _ en rl fun vs G1 H1 ds M1 s1 e1 ⟨xs,ys,ed,hl,h1⟩ => ?_
 subst ed
 obtain ⟨v,u,rfl,dv,du⟩:=dens2 e1
 obtain ⟨c,vs,ev,sv,dn⟩:=dv.lst_
 obtain ⟨d,us,eu,su,dm⟩:=du.lst_
 exact ⟨c,d,vs,us,by rw [ev,eu],SqL.of (s1.rel.same _ _ sv),SqL.of (s1.rel.same _ _ su),q _ _ _ _ _ s1 (aKV (SqL.of sv) dn (SqL.of su) dm hl) h1⟩
end
end Z
namespace Q
open PySem L2 Z
theorem iW {α:Type} (l:List α) (n:Nat) (h:n≤l.length):cutD l (some (n:Int)) none=l.drop n:=by
 unfold cutD
 rw [HT.aGR,show HT.sIx l.length 0 (some (n:Int))=min n l.length from HT.t9 _ _ n,Nat.min_eq_left h]
 exact List.take_of_length_le (by rw [List.length_drop]; exact Nat.le_refl _)
end Q
namespace Z
open PySem L2
theorem aD8 {X:Cx}{e:Expr}{Γ:Gm}{M:Mem}{P k:D→Mem→Prop} (h:GE X e Γ M P) (hk:∀ d M1,P d M1→k d M1):GE X e Γ M k:=fun σ G H Q en rl q=>h σ G H Q en rl fun v G' H' d M' s ed hp=>q v G' H' d M' s ed (hk d M' hp)
end Z
namespace Q
open PySem L2 Z
def wH (K:List Str) (cs:List Int) (u:Int):Str:=R.ofL (cs.map fun c=>R.sg (R.bH K c u))
def aE3:Ct:=fun ds M k=>∃ (x y:D) (K:List Str) (cs:List Int) (u:Int),ds=[.tup [x,y, .tup (K.map .str)], .lst (cs.map .int), .int u]∧(∀ z∈K,z.length≤1000)∧cs.length≤300∧k (.str (wH K cs u)) M
def oE (ps:List Str) (p:Nat × Nat):Bool:=ps.any fun q=>decide (q=(⟨#[p.1,p.2]⟩:Str))
def sV (ps:List Str) (a b:Str):Str:=R.ofL ((a.cps.toList.zip b.cps.toList).map fun p=>R.sg (oE ps p))
def aBN:Ct:=fun ds M k=>∃ (a b:Str) (ps:List Str),ds=[.str a, .str b, .tup (ps.map .str)]∧a.length=b.length∧a.length≤900∧ps.length≤10∧k (.str (sV ps a b)) M
theorem aHL (ps:List Str) (q:Str):((ps.map D.str).any fun x=>eqD x (.str q))=ps.any fun p=>decide (p=q):=by
 rw [List.any_map]
 congr 1
end Q
namespace L2
open PySem PySem.Spec PyProof.Rows
def aLD (K:PySem.W.Frag) (J:It) (cap:List Nat) (tt:TT) (te:TE) (σ:St) (H1:Hp) (Q:VK) (D:Addr):Prop:=∃ W:Nat→Nat→List V→Hp→Prop,(∃ m,W 0 m [] (upd H1 D (.lst [])))∧∀ i m ys H2,W i m ys H2 →
 H2 D=some (.lst ys)∧((J.stop i H2∧Q (.ref D) H2)∨(J.go i H2∧ys.length < sizeLine∧∀ x H3,J.yld i H2 x H3→∃ p a b,x = .ref p∧SqT K H3 p [a,b] ∧
  tt (some a::some b::cap.map fun k=>(σ[k]?).join) H3 fun c H4=>if c=true then te (some a::some b::cap.map fun k=>(σ[k]?).join) H4 fun y H5=>H5 D=some (.lst ys)∧∃ m',m' < m∧W (i+1) m' (ys++[y]) (upd H5 D (.lst (ys++[y])))
   else ∃ m',m' < m∧W (i+1) m' ys H4))
def sY (K:PySem.W.Frag) (wi:TI) (cap:List Nat) (tt:TT) (te:TE):TE:=fun σ H Q=>wi σ H fun J H1=>∀ D,H1 D=none→aLD K J cap tt te σ H1 Q D
theorem aB3 {X:Cx}{x1 x2:Str}{px1 px2 tp pos:Pos}{kk:Nat}{iter elt:Expr}{ifs:List Expr}{scope:Scope}{ns:List Str}{cap:List Nat}{wi:TI}{tt:TT}{te:TE} (hc:X.calm=true) (hkind:scope.kind = .function)
  (hnames:∀ y∈scope.names,y.2 = .local→scope.names.lookup y.1=some .local) (hx1:Loc (relabel scope X.env) x1) (hxf1:scope.names.lookup x1=some .cell∨(relabel scope X.env).names.lookup x1=some .local) (hx2:Loc (relabel scope X.env) x2) (hxf2:scope.names.lookup x2=some .cell∨(relabel scope X.env).names.lookup x2=some .local)
  (hNc:(x1::x2::ns).Nodup) (hlen:cap.length=ns.length) (hcap:∀ (j k:Nat) (nm:Str),cap[j]?=some k→ns[j]?=some nm→X.N[k]?=some nm∧(X.env.scope.names.lookup nm=some .cell∨X.env.scope.names.lookup nm=some .free))
  (hns:∀ nm∈ns,(nm,NameKind.free)∈scope.names∧(nm,NameKind.cell) ∉ scope.names) (hnsk:∀ nm∈ns,scope.names.lookup nm=some .free) (hfree:∀ y∈scope.names,y.2 = .free→X.env.scope.names.lookup y.1=some .cell∨X.env.scope.names.lookup y.1=some .free)
  (hi:PI X (.Tuple [.Name x1 px1, .Name x2 px2] kk tp) iter wi)
  (ht:∀ cs C s₀ H₀ fp,PIf (aX X scope cs C (x1::x2::ns) s₀ H₀ fp) ifs tt) (he:∀ cs C s₀ H₀ fp,PE (aX X scope cs C (x1::x2::ns) s₀ H₀ fp) elt te)
  (hs:∀ v,foldedSetIterable iter X.env v=pure v:=by intro _; rfl)
  {use:Option (Value→Sem Unit)}{Q':Value→Shared→Prop}{pins:List (Addr × Obj)}{s:Shared}{σ:St}{H:Hp}{Q:VK}{ip:Pos} (I:Inv X pins σ H s) (h:sY X.K wi cap tt te σ H Q)
  (hfin:∀ (D C:Addr) (H':Hp) (s':Shared),Inv X pins σ H' s'→Q (.ref D) H'→(∃ m,s'.heap.Ns C m)→CFree X pins H' C→compPost (model X.prog X.w) X.A X.xe use Q' (.ref D) C (.ok .next) s') :
  wpAny (model X.prog X.w) X.A (comprehension (.ListComp elt [⟨.Tuple [.Name x1 px1, .Name x2 px2] kk tp,iter,ifs,0⟩] scope pos) scope X.env ip (newList []) false (eval iter X.env) use) Q' X.xe s:=by
 obtain ⟨cl,ecl,cl1,cl2⟩:=oY (scope:=scope) (env:=X.env) fun n hn=>I.ok.has n (hfree (n, .free) hn rfl)
 refine wpAny_comprehension_free (use:=use) rfl hs ecl hkind hnames (thn (hi pins s σ H _ I h) fun xv s1 h1=>thn h1 fun itv s2 h2 => ?_)
 obtain ⟨it,fp,tn,J,H2,rfl,I2,T,st2,f2,q⟩:=h2
 have hD:H2 s2.heap.objs.size=none:=I2.fresh
 obtain ⟨W,⟨m0,w0⟩,step⟩:=q s2.heap.objs.size hD
 refine wpAny_newObj_type ?_ (by show 0≤sizeLine; exact Nat.zero_le _)
 have I3:Inv X pins σ (upd H2 s2.heap.objs.size (.lst [])) { s2 with heap:=s2.heap.push { cls := .type "list", data := .seq ([]:List Value).toArray } } :=
  I2.laid (t':=s2.toks) (fun b u e=>Heap.get?_push_of_some _ e) (Nat.le_refl _) ⟨Nat.zero_le _,[],0, .nil,Heap.get?_push_size _ rfl⟩
 have sz3:(s2.heap.push { cls := .type "list", data := .seq ([]:List Value).toArray }).objs.size=s2.heap.objs.size+1:=Heap.size_push ..
 have hfp3:∀ b∈fp,∀ o,(upd H2 s2.heap.objs.size (.lst [])) b≠some o:=fun b hb o z=>by
  obtain ⟨ob,e,_⟩:=T.obj 0 _ st2 b hb
  rw [bL (Nat.ne_of_lt (Heap.lt_size e)),(f2 b hb).1] at z
  cases z
 revert I3 sz3 w0 step hfp3
 generalize upd H2 s2.heap.objs.size (.lst [])=H3
 generalize hs3:({ s2 with heap:=s2.heap.push { cls := .type "list", data := .seq ([]:List Value).toArray } }:Shared)=s3
 intro step w0 I3 sz3 hfp3
 have st3:tn 0 s3.heap:=T.keep 0 _ _ st2 fun b _ o e=>by rw [← hs3]; exact Heap.get?_push_of_some _ e
 have fpLt:∀ b∈fp,b < s3.heap.objs.size:=fun b hb=>by
  obtain ⟨o,e,_⟩:=T.obj 0 _ st3 b hb
  exact Heap.lt_size e
 refine qW ?_
 have new:CellsOk (pushCells (s3.heap.push { cls := .type "dict", data := .dict #[] }) scope.names) (s3.heap.objs.size+1) (cellsFrom (s3.heap.objs.size+1) scope.names []):=by
  have ok:=cellsFrom_ok scope.names (s3.heap.push { cls := .type "dict", data := .dict #[] }) (s3.heap.objs.size+1) [] ⟨fun _ _ hm=>(nomatch hm),List.Pairwise.nil⟩ (by rw [Heap.size_push]; exact Nat.le_refl _)
  rw [Heap.size_push] at ok
  exact ok
 have keep4:∀ b o,s3.heap.get? b=some o→(pushCells (s3.heap.push { cls := .type "dict", data := .dict #[] }) scope.names).get? b=some o:=fun b o e=>pushCells_keeps _ _ b o (Heap.get?_push_of_some _ e)
 have nsC:(pushCells (s3.heap.push { cls := .type "dict", data := .dict #[] }) scope.names).Ns s3.heap.objs.size (fun _=>none):=(Heap.Ns.new s3.heap (.type "dict")).keeps (pushCells_keeps _ _)
 have lk:∀ y c,(cellsFrom (s3.heap.objs.size+1) scope.names cl).lookup y=some c→((y,c)∈cellsFrom (s3.heap.objs.size+1) scope.names []∧(y,NameKind.cell)∈scope.names)∨(cl.lookup y=some c∧X.env.cells.lookup y=some c):=fun y c e=>by
  rw [fH,fY] at e
  cases z:(cellsFrom (s3.heap.objs.size+1) scope.names []).lookup y with
  | some c' =>
   rw [z] at e
   have e':c'=c:=Option.some.inj e
   subst e'
   have hm:=PySem.mem_of_lookup z
   rcases nR _ _ _ hm with q | q
   ·exact .inl ⟨hm,q⟩
   ·cases q
  | none=>rw [z] at e; exact .inr ⟨e,cl1 y c e⟩
 have oldLt:∀ y c,X.env.cells.lookup y=some c→c < s3.heap.objs.size:=fun y c e=>by
  obtain ⟨v,z⟩:=I3.cell y c e
  exact z.lt
 have hlk2:∀ nm∈ns,∃ c,(cellsFrom (s3.heap.objs.size+1) scope.names cl).lookup nm=some c∧X.env.cells.lookup nm=some c:=fun nm hnm=>by
  obtain ⟨h1,h2⟩:=hns nm hnm
  obtain ⟨c,e⟩:=cl2 nm h1
  refine ⟨c,?_,cl1 nm c e⟩
  rw [fH,fY]
  cases z:(cellsFrom (s3.heap.objs.size+1) scope.names []).lookup nm with
  | some c' =>
   rcases nR _ _ _ (PySem.mem_of_lookup z) with q | q
   ·exact absurd q h2
   ·cases q
  | none=>exact e
 show codeAny (model X.prog X.w) X.A (.compStart (.ListComp elt [⟨.Tuple [.Name x1 px1, .Name x2 px2] kk tp,iter,ifs,0⟩] scope pos) 0 (.ref it) (.ref s2.heap.objs.size) (aX X scope (cellsFrom (s3.heap.objs.size+1) scope.names cl) s3.heap.objs.size (x1::x2::ns) s3 H3 fp).env) (compPost (model X.prog X.w) X.A X.xe use Q' (.ref s2.heap.objs.size) s3.heap.objs.size) { s3 with heap:=pushCells (s3.heap.push { cls := .type "dict", data := .dict #[] }) scope.names }
 have ht':=ht (cellsFrom (s3.heap.objs.size+1) scope.names cl) s3.heap.objs.size s3 H3 fp
 have he':=he (cellsFrom (s3.heap.objs.size+1) scope.names cl) s3.heap.objs.size s3 H3 fp
 have OK:(aX X scope (cellsFrom (s3.heap.objs.size+1) scope.names cl) s3.heap.objs.size (x1::x2::ns) s3 H3 fp).Ok:=by
  refine ⟨I3.ok.mod,hkind,I3.ok.glob,I3.ok.blt,Nat.le_refl _,fun y z c e1 e2 => ?_,fun y hy => ?_,fun y c hf e => ?_,fun _=>I3.ok.hd hc,I3.ok.frames, .inl rfl,fun b hb=>⟨Nat.ne_of_lt (fpLt b hb),fun y c e => ?_⟩,I3.bs,Nat.le_trans I3.ok.bsz I3.sz,fun b o e hb => ?_,fun b hb hm => ?_,I3.stack,I3.stkFree⟩
  ·rcases lk y c e1 with ⟨a1,_⟩ | ⟨a1,a2⟩ <;> rcases lk z c e2 with ⟨b1,_⟩ | ⟨b1,b2⟩
   ·exact name_of_addr new.apart a1 b1
   ·exact absurd (Nat.lt_of_lt_of_le (oldLt z c b2) (Nat.le_of_succ_le (new.empty y c a1).2)) (Nat.lt_irrefl _)
   ·exact absurd (Nat.lt_of_lt_of_le (oldLt y c a2) (Nat.le_of_succ_le (new.empty z c b1).2)) (Nat.lt_irrefl _)
   ·exact I3.ok.inj y z c a2 b2
  ·have key:scope.names.lookup y=some .cell∨scope.names.lookup y=some .free:=by
    rcases hy with hy | hy
    ·rcases dP (env:=X.env) (names:=scope.names) hy with q | ⟨q,_⟩
     ·exact .inl q
     ·exact .inr q
    ·rcases dP (env:=X.env) (names:=scope.names) hy with q | ⟨q,_⟩
     ·exact .inr q
     ·exact .inr q
   rcases key with q | q
   ·exact Option.isSome_iff_exists.mp (PySem.W.cellsFrom_some scope.names (s3.heap.objs.size+1) cl (.inl q))
   ·obtain ⟨c,e⟩:=cl2 y (PySem.mem_of_lookup q)
    exact Option.isSome_iff_exists.mp (PySem.W.cellsFrom_some scope.names (s3.heap.objs.size+1) cl (.inr (by rw [e]; rfl)))
  ·have hf':scope.names.lookup y=some .cell:=by
    have hf0:(scope.names.lookup y == some .cell)=true:=hf
    simpa using hf0
   have e':(cellsFrom (s3.heap.objs.size+1) scope.names cl).lookup y=some c:=e
   have e0:=Option.isSome_iff_exists.mp (PySem.W.cellsFrom_some scope.names (s3.heap.objs.size+1) [] (.inl hf'))
   obtain ⟨c',z⟩:=e0
   rw [fH,fY,z] at e'
   cases e'
   exact Nat.le_of_succ_le (new.empty y c (PySem.mem_of_lookup z)).2
  ·rcases lk y c e with ⟨a1,_⟩ | ⟨a1,a2⟩
   ·exact fun z=>absurd (Nat.lt_of_lt_of_le (fpLt b hb) (z ▸ Nat.le_of_succ_le (new.empty y c a1).2)) (Nat.lt_irrefl _)
   ·exact (f2 b hb).2.2.2.2.1 y c a2
  ·rcases (f2 b hb).2.2.2.1 with z | z
   ·exact I3.ok.noex b o e z
   ·exact absurd (Nat.lt_of_lt_of_le (Heap.lt_size (I3.ok.bs b o e).1) z) (Nat.lt_irrefl _)
  ·rcases List.mem_cons.mp (I3.stkSub b hm) with z | z
   ·exact (f2 b hb).2.1 z
   ·exact (f2 b hb).2.2.1 z
 have IY:Inv (aX X scope (cellsFrom (s3.heap.objs.size+1) scope.names cl) s3.heap.objs.size (x1::x2::ns) s3 H3 fp) [] (none::none::cap.map fun k=>(σ[k]?).join) H3 { s3 with heap:=pushCells (s3.heap.push { cls := .type "dict", data := .dict #[] }) scope.names }:=by
  refine ⟨OK,rfl,I3.bare,Un.kept keep4,⟨_,nsC,fun i nm v e1 e2 e3 => ?_⟩,fun y c e => ?_,I3.fresh,fun y c e => ?_,fun p hp=>absurd (show p∈([]:List (Addr × Obj)) from hp) (by simp),I3.hok.kept keep4,by simp [aX,hlen]⟩
  ·cases i with
   | zero=>cases e2
   | succ i' =>
   cases i' with
   | zero=>cases e2
   | succ j =>
    have e1':ns[j]?=some nm:=e1
    have e2':(cap.map fun k=>(σ[k]?).join)[j]?=some (some v):=e2
    rw [List.getElem?_map] at e2'
    cases hk:cap[j]? with
    | none=>rw [hk] at e2'; cases e2'
    | some k =>
     rw [hk] at e2'
     have e2'':(σ[k]?).join=some v:=Option.some.inj e2'
     have e4:σ[k]?=some (some v):=by
      cases z:σ[k]? with
      | none=>rw [z] at e2''; cases e2''
      | some o=>rw [z] at e2''; exact congrArg some e2''
     obtain ⟨hN,hcell⟩:=hcap j k nm hk e1'
     obtain ⟨m,_,hl⟩:=I3.loc
     obtain ⟨u,r,l⟩:=hl k nm v hN e4 (.inr hcell)
     refine ⟨u,r,?_⟩
     rcases l with ⟨l1,_⟩ | ⟨_,c,ec,z⟩
     ·have l1':X.env.scope.names.lookup nm=some .local:=l1
      rcases hcell with q | q <;> rw [q] at l1' <;> cases l1'
     ·obtain ⟨c',g1,g2⟩:=hlk2 nm (List.mem_of_getElem? e1')
      rw [ec] at g2
      cases g2
      refine .inr ⟨?_,c,g1,?_⟩
      ·rcases e3 with q | q
       ·rcases dP (env:=X.env) (names:=scope.names) q with w1 | ⟨_,w1⟩
        ·exfalso
         have hmem:=(hns nm (List.mem_of_getElem? e1')).1
         have:=hnames (nm, .local) (PySem.mem_of_lookup w1) rfl
         -- a name has one kind in a scope: its cell is known,so it is not local here
         exact absurd (I3.ok.has nm (hfree (nm, .free) hmem rfl)) (fun _=>by
          have hk2:=(hnsk nm (List.mem_of_getElem? e1'))
          rw [w1] at hk2; cases hk2)
        ·cases w1
       ·exact q
      ·obtain ⟨o,ho,hd⟩:=z
       exact ⟨o,keep4 c o ho,hd⟩
  ·rcases lk y c e with ⟨a1,_⟩ | ⟨a1,a2⟩
   ·exact ⟨none,(new.empty y c a1).1⟩
   ·obtain ⟨v,o,ho,hd⟩:=I3.cell y c a2
    exact ⟨v,o,keep4 c o ho,hd⟩
  ·rcases lk y c e with ⟨a1,_⟩ | ⟨a1,a2⟩
   ·exact I3.hok.fresh (Nat.le_of_succ_le (new.empty y c a1).2)
   ·exact I3.freeC y c a2
 -- what is reached at the end
 have fin:∀ {σ':St}{H':Hp}{s':Shared},Inv (aX X scope (cellsFrom (s3.heap.objs.size+1) scope.names cl) s3.heap.objs.size (x1::x2::ns) s3 H3 fp) [] σ' H' s'→Q (.ref s2.heap.objs.size) H' →
   compPost (model X.prog X.w) X.A X.xe use Q' (.ref s2.heap.objs.size) s3.heap.objs.size (.ok .next) s':=fun {σ' H' s'} J qd=>by
  obtain ⟨m',hn',_⟩:=J.loc
  have hCn:H' s3.heap.objs.size=none:=J.free
  refine hfin _ _ H' s' (I3.call' (ch:=fp) J.os J.base J.hok J.bare fun b hb=>⟨(f2 b hb).2.2.2.1,(f2 b hb).2.1,(f2 b hb).2.2.2.2.1,(f2 b hb).2.2.2.2.2⟩) qd ⟨m',hn'⟩ ⟨hCn,Nat.ne_of_gt I3.lt,I3.sz,fun y c e=>Nat.ne_of_lt (oldLt y c e),fun p hp=>Nat.ne_of_lt (Heap.lt_size (I3.pin p hp).1)⟩
 have fpY:∀ {H':Hp},(∀ b∈fp,H' b=none)→∀ b∈fp,lP (aX X scope (cellsFrom (s3.heap.objs.size+1) scope.names cl) s3.heap.objs.size (x1::x2::ns) s3 H3 fp) [] H' b:=fun {H'} hn b hb =>
  ⟨hn b hb,(OK.exf b hb).1,OK.exfs b hb, .inl hb,(OK.exf b hb).2,fun p hp=>absurd (show p∈([]:List (Addr × Obj)) from hp) (by simp)⟩
 have st4:tn 0 (pushCells (s3.heap.push { cls := .type "dict", data := .dict #[] }) scope.names):=T.keep 0 _ _ st3 fun b _ o e=>keep4 b o e
 have fr3:∀ b∈fp,H3 b=none:=fun b hb=>by
  cases z:H3 b with
  | none=>rfl
  | some o=>exact absurd rfl (fun _:(1:Nat)=1=>hfp3 b hb o z)
 have loop:codeAny (model X.prog X.w) X.A (.compLoop (.ListComp elt [⟨.Tuple [.Name x1 px1, .Name x2 px2] kk tp,iter,ifs,0⟩] scope pos) 0 (.ref it) (.ref s2.heap.objs.size) (aX X scope (cellsFrom (s3.heap.objs.size+1) scope.names cl) s3.heap.objs.size (x1::x2::ns) s3 H3 fp).env) (compPost (model X.prog X.w) X.A X.xe use Q' (.ref s2.heap.objs.size) s3.heap.objs.size) { s3 with heap:=pushCells (s3.heap.push { cls := .type "dict", data := .dict #[] }) scope.names }:=by
  refine o6 (fun n s'=>∃ i ys o1 o2 H',Inv (aX X scope (cellsFrom (s3.heap.objs.size+1) scope.names cl) s3.heap.objs.size (x1::x2::ns) s3 H3 fp) [] (o1::o2::cap.map fun k=>(σ[k]?).join) H' s'∧tn i s'.heap∧(∀ b∈fp,H' b=none)∧W i n ys H') ?_ m0 ⟨0,[],none,none,H3,IY,st4,fr3,w0⟩
  rintro n s5 ⟨i,ys,o1,o2,H5,I5,st5,fr5,w5⟩
  obtain ⟨eD,alt⟩:=step i n ys H5 w5
  rcases alt with ⟨stop,qd⟩ | ⟨go,hz,turn⟩
  ·refine thn (T.done (aX X scope (cellsFrom (s3.heap.objs.size+1) scope.names cl) s3.heap.objs.size (x1::x2::ns) s3 H3 fp) rfl rfl rfl hc i [] s5 _ H5 (fun _ _=>False) I5 (fpY fr5) st5 stop) fun r s6 ⟨hr,I6⟩ => ?_
   subst hr
   exact fin I6 qd
  ·refine thn (T.item (aX X scope (cellsFrom (s3.heap.objs.size+1) scope.names cl) s3.heap.objs.size (x1::x2::ns) s3 H3 fp) rfl rfl rfl hc i [] s5 _ H5 (fun _ _=>False) I5 (fpY fr5) st5 go) fun r s6 ⟨u,hr,h6⟩ => ?_
   subst hr
   refine thn h6 fun _ s7 ⟨xv',H7,I7,r7,y7,st7,fr7⟩ => ?_
   have I7':=I7.pinned (fpY fr7) (T.obj _ _ st7)
   obtain ⟨pv,xa,xb,ex,sq,turn'⟩:=turn xv' _ y7
   have fnx:∀ {x:Str},(scope.names.lookup x=some .cell∨(relabel scope X.env).names.lookup x=some .local)→(aX X scope (cellsFrom (s3.heap.objs.size+1) scope.names cl) s3.heap.objs.size (x1::x2::ns) s3 H3 fp).fn x=true∨(relabel scope X.env).names.lookup x=some .local:=fun h=>h.elim (fun z => .inl (by show (scope.names.lookup _ == some .cell)=true; rw [z]; rfl)) .inr
   have hst:PG (aX X scope (cellsFrom (s3.heap.objs.size+1) scope.names cl) s3.heap.objs.size (x1::x2::ns) s3 H3 fp) (.Tuple [.Name x1 px1, .Name x2 px2] kk tp) (gTup X.K 2 (aBW (oO 0) (aBW (oO 1) gNil))):=aEZ hc (rX (p4 hNc rfl hx1 (fnx hxf1)) (rX (p4 hNc rfl hx2 (fnx hxf2)) aAE rfl) rfl) rfl rfl
   refine thn (hst _ s7 _ H7 xv' u (fun σ8 H8=>σ8=(some xa::some xb::cap.map fun k=>(σ[k]?).join)∧H8=H7) I7' r7 ⟨pv,[xa,xb],ex,sq,rfl,_,_,rfl,_,_,rfl,rfl,rfl,rfl⟩) fun _ s8 ⟨σ8,H8,I8,e8,e8'⟩ => ?_
   subst e8 e8'
   have back:∀ {σ9:St}{H9:Hp}{s9:Shared},Inv (aX X scope (cellsFrom (s3.heap.objs.size+1) scope.names cl) s3.heap.objs.size (x1::x2::ns) s3 H3 fp) ([]++nE fp s7.heap) σ9 H9 s9→tn (i+1) s9.heap∧∀ b∈fp,H9 b=none:=fun {σ9 H9 s9} I9=>by
    refine ⟨T.keep _ _ _ st7 fun b hb o e=>(I9.pin (b,o) (List.mem_append_right _ (List.mem_append_right _ (g7 hb e)))).1,fun b hb => ?_⟩
    obtain ⟨o,e,d⟩:=T.obj _ _ st7 b hb
    exact (I9.pin (b,o) (List.mem_append_right _ (List.mem_append_right _ (g7 hb e)))).2.1
   refine thn (ht' _ s8 _ _ _ I8 turn') fun b s9 ⟨H9,I9,q9⟩ => ?_
   cases b with
   | false =>
    rw [if_neg Bool.false_ne_true] at q9 ⊢
    obtain ⟨m',hm,w9⟩:=q9
    obtain ⟨st9,fr9⟩:=back I9
    exact ⟨m',hm,i+1,ys,_,_,H9,I9.unpinned,st9,fr9,w9⟩
   | true =>
    rw [if_pos rfl] at q9 ⊢
    refine thn (he' _ s9 _ _ _ I9 q9) fun yv s10 ⟨y,H10,I10,r10,eD10,m',hm,w10⟩ => ?_
    refine thn (fD (X:=aX X scope (cellsFrom (s3.heap.objs.size+1) scope.names cl) s3.heap.objs.size (x1::x2::ns) s3 H3 fp) _ s10 _ H10 (.ref s2.heap.objs.size) [y] (.ref s2.heap.objs.size) [yv] (fun _ H11=>H11=upd H10 s2.heap.objs.size (.lst (ys++[y]))) I10 rfl (.cons r10 .nil) ⟨_,ys,y,rfl,rfl,eD10,hz,rfl⟩) fun _ s11 ⟨_,H11,I11,_,e11⟩ => ?_
    subst e11
    obtain ⟨st11,fr11⟩:=back I11
    exact ⟨m',hm,i+1,_,_,_,_,I11.unpinned,st11,fr11,w10⟩
 exact codeAny_compStart_list loop (T.self X.A 0 _ _ _ st4 loop)
theorem aHS {X:Cx}{x1 x2:Str}{px1 px2 tp pos:Pos}{kk:Nat}{iter elt:Expr}{ifs:List Expr}{scope:Scope}{ns:List Str}{cap:List Nat}{wi:TI}{tt:TT}{te:TE} (hc:X.calm=true) (hkind:scope.kind = .function)
  (hnames:∀ y∈scope.names,y.2 = .local→scope.names.lookup y.1=some .local) (hx1:Loc (relabel scope X.env) x1) (hxf1:scope.names.lookup x1=some .cell∨(relabel scope X.env).names.lookup x1=some .local) (hx2:Loc (relabel scope X.env) x2) (hxf2:scope.names.lookup x2=some .cell∨(relabel scope X.env).names.lookup x2=some .local)
  (hNc:(x1::x2::ns).Nodup) (hlen:cap.length=ns.length) (hcap:∀ (j k:Nat) (nm:Str),cap[j]?=some k→ns[j]?=some nm→X.N[k]?=some nm∧(X.env.scope.names.lookup nm=some .cell∨X.env.scope.names.lookup nm=some .free))
  (hns:∀ nm∈ns,(nm,NameKind.free)∈scope.names∧(nm,NameKind.cell) ∉ scope.names) (hnsk:∀ nm∈ns,scope.names.lookup nm=some .free) (hfree:∀ y∈scope.names,y.2 = .free→X.env.scope.names.lookup y.1=some .cell∨X.env.scope.names.lookup y.1=some .free)
  (hi:PI X (.Tuple [.Name x1 px1, .Name x2 px2] kk tp) iter wi)
  (ht:∀ cs C s₀ H₀ fp,PIf (aX X scope cs C (x1::x2::ns) s₀ H₀ fp) ifs tt) (he:∀ cs C s₀ H₀ fp,PE (aX X scope cs C (x1::x2::ns) s₀ H₀ fp) elt te)
  (hs:∀ v,foldedSetIterable iter X.env v=pure v:=by intro _; rfl) :
  PE X (.ListComp elt [⟨.Tuple [.Name x1 px1, .Name x2 px2] kk tp,iter,ifs,0⟩] scope pos) (sY X.K wi cap tt te):=by
 intro pins s σ H Q I h
 rw [eval_ListComp]
 refine aB3 hc hkind hnames hx1 hxf1 hx2 hxf2 hNc hlen hcap hns hnsk hfree hi ht he hs (use:=none) I h fun D C H' s' J q ⟨m,hn⟩ cf=>⟨m,hn,fun h' hs' => ?_⟩
 exact ⟨.ref D,H',J.turned (t':=s'.toks) (it:=C) (fun b o hb e=>(hs'.2 b hb).trans e) cf.hn cf.hL (.inr cf.h1) cf.h2 cf.h3,rfl,q⟩
def qM (sc scope:Scope) (x1 x2:Str) (ns:List Str) (cap:List Nat) (N:List Str):Bool:=jM sc scope x1 ns cap N && jM sc scope x2 ns cap N && decide (x1≠x2)
theorem aDJ {X:Cx}{x1 x2:Str}{px1 px2 tp pos:Pos}{kk:Nat}{iter elt:Expr}{ifs:List Expr}{scope sc:Scope}{N:List Str} (ns:List Str) (cap:List Nat) {wi:TI}{tt:TT}{te:TE} (hc:X.calm=true) (hsc:X.env.scope=sc) (hN:X.N=N) (ok:qM sc scope x1 x2 ns cap N=true)
  (hi:PI X (.Tuple [.Name x1 px1, .Name x2 px2] kk tp) iter wi)
  (ht:∀ cs C s₀ H₀ fp,PIf (aX X scope cs C (x1::x2::ns) s₀ H₀ fp) ifs tt) (he:∀ cs C s₀ H₀ fp,PE (aX X scope cs C (x1::x2::ns) s₀ H₀ fp) elt te)
  (hs:∀ v,foldedSetIterable iter X.env v=pure v:=by intro _; rfl) :
  PE X (.ListComp elt [⟨.Tuple [.Name x1 px1, .Name x2 px2] kk tp,iter,ifs,0⟩] scope pos) (sY X.K wi cap tt te):=by
 subst hsc hN
 unfold qM at ok
 simp only [Bool.and_eq_true,decide_eq_true_eq] at ok
 obtain ⟨⟨ok1,ok2⟩,hne⟩:=ok
 have k:=mK ok1
 have k2:=mK ok2
 have nd:(x1::x2::ns).Nodup:=by
  obtain ⟨a1,a2⟩:=List.nodup_cons.mp k.hNc
  obtain ⟨b1,b2⟩:=List.nodup_cons.mp k2.hNc
  refine List.nodup_cons.mpr ⟨fun h => ?_,k2.hNc⟩
  rcases List.mem_cons.mp h with h | h
  ·exact hne h
  ·exact a1 h
 have one:∀ {x:Str},(scope.names.lookup x=some .local∨scope.names.lookup x=some .cell)→Loc (relabel scope X.env) x:=fun h=>by
  rcases h with z | z
  ·exact .inl (lookup_relabel_local z)
  ·exact .inr (eV z)
 have two:∀ {x:Str},(scope.names.lookup x=some .local∨scope.names.lookup x=some .cell)→scope.names.lookup x=some .cell∨(relabel scope X.env).names.lookup x=some .local:=fun h=>by
  rcases h with z | z
  ·exact .inr (lookup_relabel_local z)
  ·exact .inl z
 exact aHS hc k.hkind k.hnames (one k.hx) (two k.hx) (one k2.hx) (two k2.hx) nd k.hlen k.hcap k.hns k.hnsk k.hfree hi ht he hs
end L2
namespace Z
open PySem L2
theorem EnvR.cap2 {K:Fg}{G:Hp}{Γ:Gm}{σ:St} (h:EnvR K G Γ σ) {d1 d2:D}{v1 v2:V} (e1:Den K G d1 v1) (e2:Den K G d2 v2) (cap:List Nat):EnvR K G (some d1::some d2::cap.map fun k=>(Γ[k]?).join) (some v1::some v2::cap.map fun k=>(σ[k]?).join):=by
 have c:=h.cap e2 cap
 refine ⟨by simp,fun i q' z => ?_⟩
 cases i with
 | zero=>simp at z; subst z; exact ⟨v1,rfl,e1⟩
 | succ i=>exact c.get i q' z
def Comp2 (X:Cx) (x1 x2:Str) (ns:List Str) (cap:List Nat) (elt:Expr) (ifs:List Expr) (scope:Scope) (Γ:Gm) (k:D→Mem→Prop) (ds:List D) (M1:Mem):Prop :=
 ds.length≤sizeLine∧(∀ d∈ds,∃ d1 d2,d = .tup [d1,d2])∧∃ I:Nat→List D→Mem→Prop,I 0 [] M1 ∧
  (∀ i d1 d2 acc M2,ds[i]?=some (.tup [d1,d2])→I i acc M2→∀ cs C s₀ H₀ fp,GIf (aX X scope cs C (x1::x2::ns) s₀ H₀ fp) ifs (some d1::some d2::cap.map fun k=>(Γ[k]?).join) M2 fun c M3 =>
   if c=true then (∀ cs C s₀ H₀ fp,GE (aX X scope cs C (x1::x2::ns) s₀ H₀ fp) elt (some d1::some d2::cap.map fun k=>(Γ[k]?).join) M3 (fun y M4=>I (i+1) (acc++[y]) M4)) else I (i+1) acc M3) ∧
  (∀ acc M2,I ds.length acc M2→∀ a,M2 a=none→k (.mt a) (cF M2 a (.lst acc)))
theorem aKN {X:Cx}{x1 x2:Str}{px1 px2 tp:Pos}{kk:Nat}{iter elt:Expr}{ifs:List Expr}{scope:Scope}{ns:List Str}{cap:List Nat}{Γ:Gm}{M:Mem}{k:D→Mem→Prop}
  (h:GI X (.Tuple [.Name x1 px1, .Name x2 px2] kk tp) iter Γ M (Comp2 X x1 x2 ns cap elt ifs scope Γ k)) {σ:St}{G H:Hp}{Q:VK} (en:EnvR X.K G Γ σ) (rl:Rel X.K G H M) (q:Cont X.K M k G H Q) :
  sY X.K (tUI X (.Tuple [.Name x1 px1, .Name x2 px2] kk tp) iter) cap (fun σ H Q=>∀ cs C s₀ H₀ fp,aB2 (aX X scope cs C (x1::x2::ns) s₀ H₀ fp) ifs σ H Q) (fun σ H Q=>∀ cs C s₀ H₀ fp,tU (aX X scope cs C (x1::x2::ns) s₀ H₀ fp) elt σ H Q) σ H Q:=by
 refine h σ G H _ en rl fun J G1 H1 ds M1 s1 yd ⟨hlen,hpair,I,h0,hstep,hend⟩ A hA => ?_
 have hA':=s1.rel.free hA
 refine ⟨fun i m ys H2=>m=ds.length - i∧i≤ds.length∧∃ G2 M2 acc,Stp X.K G1 H1 M1 G2 H2 M2∧H2 A=some (.lst ys)∧G2 A=none∧M2 A=none∧Dens X.K G2 acc ys∧I i acc M2∧acc.length≤i,
  ⟨ds.length,by simp,Nat.zero_le _,G1,M1,[],(Stp.refl s1.rel).aside hA hA'.1 hA'.2,bQ,hA'.1,hA'.2,bV,h0,Nat.le_refl _⟩,?_⟩
 rintro i m ys H2 ⟨rfl,hi,G2,M2,acc,s2,hl,hg,hm,dn,hI,hacc⟩
 refine ⟨hl,?_⟩
 by_cases hlt:i < ds.length
 ·refine .inr ⟨yd.go i G2 H2 M2 s2.gg s2.rel hlt,by rw [← dn.len]; omega,fun x H3 y => ?_⟩
  obtain ⟨G3,d,s3,hd,ex⟩:=yd.yld i G2 H2 M2 x H3 s2.gg s2.rel hlt y
  obtain ⟨l3,g3,m3⟩:=s3.fr A _ hl hg hm
  obtain ⟨d1,d2,ed⟩:=hpair d (List.mem_of_getElem? hd)
  subst ed
  obtain ⟨p,vs,ev,sq,dn3⟩:=ex.tup_
  obtain ⟨va,vb,evs,da,db⟩:=dens2 dn3
  subst evs
  refine ⟨p,va,vb,ev,R.eE s3.rel.same sq,?_⟩
  intro cs C s₀ H₀ fp
  have en3:=((en.up s1.gg).up (s2.trans s3).gg).cap2 da db cap
  refine hstep i d1 d2 acc M2 hd hI cs C s₀ H₀ fp _ G3 H3 _ en3 s3.rel fun c G4 H4 M4 s4 h4 => ?_
  obtain ⟨l4,g4,m4⟩:=s4.fr A _ l3 g3 m3
  cases c with
  | true =>
   rw [if_pos rfl] at h4 ⊢
   intro cs C s₀ H₀ fp
   refine h4 cs C s₀ H₀ fp _ G4 H4 _ (en3.up s4.gg) s4.rel fun y G5 H5 d5 M5 s5 e5 h5 => ?_
   obtain ⟨l5,g5,m5⟩:=s5.fr A _ l4 g4 m4
   have s25:=((s2.trans s3).trans s4).trans s5
   exact ⟨l5,ds.length - (i+1),by omega,rfl,hlt,G5,M5,acc++[d5],s25.aside hA g5 m5,bQ,g5,m5,(dn.up ((s3.trans s4).trans s5).gg).append (bC e5 bV),h5,by rw [List.length_append,List.length_singleton]; omega⟩
  | false =>
   rw [if_neg Bool.false_ne_true] at h4 ⊢
   exact ⟨ds.length - (i+1),by omega,rfl,hlt,G4,M4,acc,(s2.trans s3).trans s4,l4,g4,m4,dn.up (s3.trans s4).gg,h4,by omega⟩
 ·have e:i=ds.length:=by omega
  subst e
  exact .inl ⟨yd.stop _ G2 H2 M2 s2.gg s2.rel rfl,q _ _ _ _ _ (s1.trans (s2.track hA hg hl dn)) xB (hend acc M2 hI A hm)⟩
section
variable {X:Cx}{Γ:Gm}{M:Mem}{k:D→Mem→Prop}{pos:Pos}{iter:Expr}
theorem aHM {x1 x2:Str}{px1 px2 tp:Pos}{kk:Nat}{elt:Expr}{ifs:List Expr}{scope sc:Scope}{N:List Str} (ns:List Str) (cap:List Nat) (h:GI X (.Tuple [.Name x1 px1, .Name x2 px2] kk tp) iter Γ M (Comp2 X x1 x2 ns cap elt ifs scope Γ k))
  (hsc:X.env.scope=sc:=by rfl) (hN:X.N=N:=by rfl) (ok:qM sc scope x1 x2 ns cap N=true:=by first | decide +kernel | kernel_rfl!) (hc:X.calm=true:=by rfl) (hs:∀ v,foldedSetIterable iter X.env v=pure v:=by intro _; rfl) :
  GE X (.ListComp elt [⟨.Tuple [.Name x1 px1, .Name x2 px2] kk tp,iter,ifs,0⟩] scope pos) Γ M k:=fun σ G H Q en rl q =>
 cU (aDJ ns cap hc hsc hN ok pUI (fun cs C s₀ H₀ fp pins s σ H Q I h=>h cs C s₀ H₀ fp pins s I) (fun cs C s₀ H₀ fp pins s σ H Q I h=>h cs C s₀ H₀ fp pins s I) hs) (aKN h en rl q)
def aDV (X:Cx) (x1 x2:Str) (ns:List Str) (cap:List Nat) (elt:Expr) (ifs:List Expr) (scope:Scope) (Γ:Gm) (k:D→Mem→Prop) (ds:List D) (M1:Mem):Prop :=
 ds.length≤sizeLine∧(∀ d∈ds,∃ d1 d2,d = .tup [d1,d2])∧∃ I:Nat→List D→Mem→Prop,I 0 [] M1 ∧
  (∀ i d1 d2 acc M2,ds[i]?=some (.tup [d1,d2])→I i acc M2→∀ cs C s₀ H₀ fp,GIf (aX X scope cs C (x1::x2::ns) s₀ H₀ fp) ifs (some d1::some d2::cap.map fun k=>(Γ[k]?).join) M2 fun c M3 =>
   if c=true then (∀ cs C s₀ H₀ fp,GE (aX X scope cs C (x1::x2::ns) s₀ H₀ fp) elt (some d1::some d2::cap.map fun k=>(Γ[k]?).join) M3 (fun y M4=>I (i+1) (acc++[y]) M4)) else I (i+1) acc M3) ∧
  (∀ acc M2,I ds.length acc M2→k (.lst acc) M2)
theorem vD {x1 x2:Str}{px1 px2 tp:Pos}{kk:Nat}{elt:Expr}{ifs:List Expr}{scope sc:Scope}{N:List Str} (ns:List Str) (cap:List Nat) (h:GI X (.Tuple [.Name x1 px1, .Name x2 px2] kk tp) iter Γ M (aDV X x1 x2 ns cap elt ifs scope Γ k))
  (hsc:X.env.scope=sc:=by rfl) (hN:X.N=N:=by rfl) (ok:qM sc scope x1 x2 ns cap N=true:=by first | decide +kernel | kernel_rfl!) (hc:X.calm=true:=by rfl) (hs:∀ v,foldedSetIterable iter X.env v=pure v:=by intro _; rfl) :
  GE X (.ListComp elt [⟨.Tuple [.Name x1 px1, .Name x2 px2] kk tp,iter,ifs,0⟩] scope pos) Γ M k:=by
 refine nN (aHM ns cap ?_ hsc hN ok hc hs)
 intro σ G H Rr en rl q
 refine h σ G H Rr en rl fun J G1 H1 ds M1 s1 yd ⟨hl,hpair,I,h0,hstep,hend⟩ => ?_
 exact q J G1 H1 ds M1 s1 yd ⟨hl,hpair,I,h0,hstep,fun acc M2 hI a ha=>⟨a,acc,M2,rfl,aZ,ha,(Le.refl M2).upd ha,hend acc M2 hI⟩⟩
theorem aE4 {x1 x2:Str}{ns:List Str}{cap:List Nat}{elt:Expr}{ifs:List Expr}{scope:Scope}{ds:List D}{M1:Mem} (hl:ds.length≤sizeLine) (hpair:∀ d∈ds,∃ d1 d2,d = .tup [d1,d2]) (I:Nat→List D→Mem→Prop) (h0:I 0 [] M1)
  (hs:∀ i d1 d2 acc M2,ds[i]?=some (.tup [d1,d2])→I i acc M2→∀ cs C s₀ H₀ fp,GIf (aX X scope cs C (x1::x2::ns) s₀ H₀ fp) ifs (some d1::some d2::cap.map fun k=>(Γ[k]?).join) M2 fun c M3 =>
   if c=true then (∀ cs C s₀ H₀ fp,GE (aX X scope cs C (x1::x2::ns) s₀ H₀ fp) elt (some d1::some d2::cap.map fun k=>(Γ[k]?).join) M3 (fun y M4=>I (i+1) (acc++[y]) M4)) else I (i+1) acc M3)
  (hd:∀ acc M2,I ds.length acc M2→k (.lst acc) M2):aDV X x1 x2 ns cap elt ifs scope Γ k ds M1:=⟨hl,hpair,I,h0,hs,hd⟩
end
end Z
namespace Q
open PySem L2 Z
theorem rR {xs ys:List D}{d:D} (h:d∈d7 xs ys):∃ d1 d2,d = .tup [d1,d2]:=by
 unfold d7 at h
 obtain ⟨p,_,rfl⟩:=List.mem_map.mp h
 exact ⟨_,_,rfl⟩
theorem yW {xs ys:List D}{i:Nat}{d1 d2:D} (h:(d7 xs ys)[i]?=some (.tup [d1,d2])):xs[i]?=some d1∧ys[i]?=some d2:=by
 unfold d7 at h
 rw [List.getElem?_map] at h
 obtain ⟨p,hp,e⟩:=Option.map_eq_some_iff.mp h
 injection e with e
 injection e with e1 e
 injection e with e2 _
 have:=List.getElem?_zip_eq_some.mp (show (xs.zip ys)[i]?=some (p.1,p.2) from hp)
 rw [e1,e2] at this
 exact this
theorem aGM {a b:Str}{i:Nat}{d1 d2:D} (h:(d7 (iT a) (iT b))[i]?=some (.tup [d1,d2])):∃ c e,(a.cps.toList.zip b.cps.toList)[i]?=some (c,e)∧d1 = .str ⟨#[c]⟩∧d2 = .str ⟨#[e]⟩:=by
 obtain ⟨h1,h2⟩:=yW h
 unfold iT at h1 h2
 rw [List.getElem?_map] at h1 h2
 obtain ⟨c,hc,e1⟩:=Option.map_eq_some_iff.mp h1
 obtain ⟨e,he,e2⟩:=Option.map_eq_some_iff.mp h2
 exact ⟨c,e,List.getElem?_zip_eq_some.mpr ⟨hc,he⟩,e1.symm,e2.symm⟩
theorem aF2 (l:List Str):okDs 0 (l.map D.str)=true:=i8 fun d hd=>by obtain ⟨z,_,rfl⟩:=List.mem_map.mp hd; rfl
end Q
namespace Q
open PySem L2 Z U
def pq (q:Rat):Int × Int:=(q.num,(q.den:Int))
def bA (q:Rat):D:=pairD (pq q)
def aO (xs:List Rat):List D:=xs.map bA
theorem aY (xs:List Rat):(aO xs).length=xs.length:=List.length_map ..
structure Bq (q:Rat):Prop where
 a:q.num.natAbs < 10 ^ 400
 b:q.den < 10 ^ 400
theorem Bq.g {q:Rat} (h:Bq q):Bg (pq q):=⟨h.a,by show ((q.den:Int)).natAbs < _; rw [Int.natAbs_natCast]; exact h.b,by show (q.den:Int)≠0; have:=q.den_nz; omega⟩
def BqL (xs:List Rat):Prop:=∀ x∈xs,Bq x
theorem aHV (a b:Rat):ltP (pq a) (pq b)=decide (a < b):=by
 unfold ltP pq
 rw [decide_eq_decide]
 exact (Rat.lt_iff a b).symm
theorem aMM {a b:Rat}:pq a=pq b↔a=b:=by
 constructor
 ·intro e
  unfold pq at e
  injection e with e1 e2
  exact Rat.ext e1 (by omega)
 ·intro e; rw [e]
theorem tL (a b:Rat):eqD (bA a) (bA b)=decide (a=b):=by
 unfold bA
 rw [aG3,decide_eq_decide,aMM]
theorem tM (t b:Int) (hb:b≠0):lowP t b=pq (Rat.divInt t b):=by
 obtain ⟨h1,h2⟩:=Num.aC5 t b hb
 unfold pq
 rw [← h1,← h2]
 rfl
theorem lM (q:Rat):(q.den:Int)≠0:=by have:=q.den_nz; omega
theorem aJ6 (a b:Rat):lowP ((pq a).1 * (pq b).2+(pq b).1 * (pq a).2) ((pq a).2 * (pq b).2)=pq (a+b):=by
 exact (tM _ _ (Int.mul_ne_zero (lM a) (lM b))).trans (congrArg pq (Num.zR a b))
theorem aG7 (a b:Rat):lowP ((pq a).1 * (pq b).2 - (pq b).1 * (pq a).2) ((pq a).2 * (pq b).2)=pq (a - b):=by
 exact (tM _ _ (Int.mul_ne_zero (lM a) (lM b))).trans (congrArg pq (Num.aJU a b))
theorem aGP (a b:Rat):lowP ((pq a).1 * (pq b).1) ((pq a).2 * (pq b).2)=pq (a * b):=by
 exact (tM _ _ (Int.mul_ne_zero (lM a) (lM b))).trans (congrArg pq (Num.aJI a b))
def aJK:Ct:=fun ds M k=>∃ p q:Int × Int,ds=[pairD p,pairD q]∧(p.1.natAbs < 10 ^ 400∧p.2.natAbs < 10 ^ 400)∧(q.1.natAbs < 10 ^ 400∧q.2.natAbs < 10 ^ 400)∧k (.bl (ltP p q)) M
theorem Bq.p {q:Rat} (h:Bq q):(pq q).1.natAbs < 10 ^ 400∧(pq q).2.natAbs < 10 ^ 400:=⟨h.g.a,h.g.b⟩
def aFB:Ct:=fun ds M k=>∃ a b:Rat,ds=[bA a,bA b]∧Bq a∧Bq b∧k (bA (a+b)) M
def aI1:Ct:=fun ds M k=>∃ a b:Rat,ds=[bA a,bA b]∧Bq a∧Bq b∧k (bA (a - b)) M
def aIN:Ct:=fun ds M k=>∃ a b:Rat,ds=[bA a,bA b]∧Bq a∧Bq b∧k (bA (a * b)) M
theorem jS {ws:List Rat}{i:Nat} (h:i < ws.length):atI (aO ws) (i:Int)=some (bA (ws.getD i 0)):=cW (by
 unfold aO
 rw [List.getElem?_map,List.getD_eq_getElem?_getD,List.getElem?_eq_getElem h]; rfl)
def iS (ws:List Rat) (x:Rat):Nat:=(ws.filter fun w=>decide (w < x)).length
def lN (ws:List Rat) (x:Rat):List Int:=if iS ws x < ws.length∧ws.getD (iS ws x) 0=x then [(iS ws x:Int) - 1,(iS ws x:Int)] else [(iS ws x:Int) - 1]
theorem aJ3 {ws:List Rat}{x:Rat} (h:x ∉ ws):(iS ws x:Int) - 1=ix ws x:=by
 unfold iS ix
 congr 3
 refine List.filter_congr fun w hw => ?_
 have:w≠x:=fun e=>h (e ▸ hw)
 rw [decide_eq_decide]
 grind
theorem aLP {ws:List Rat} (u:Up ws) {i:Nat} (h:i < ws.length):iS ws ws[i]=i:=by
 have e:ix ws ws[i]=i:=gG u h
 have:(ws.filter fun w=>decide (w≤ws[i])).length=iS ws ws[i]+1:=by
  unfold iS
  clear e
  revert i
  induction ws with
  | nil=>intro i h; exact absurd h (Nat.not_lt_zero _)
  | cons a r ih =>
   intro i h
   obtain ⟨u1,u2⟩:=List.pairwise_cons.mp u
   cases i with
   | zero =>
    have e1:r.filter (fun w=>decide (w≤a))=[]:=List.filter_eq_nil_iff.mpr fun b hb=>by have:=u1 b hb; simp only [decide_eq_true_eq]; grind
    have e2:r.filter (fun w=>decide (w < a))=[]:=List.filter_eq_nil_iff.mpr fun b hb=>by have:=u1 b hb; simp only [decide_eq_true_eq]; grind
    show ((a::r).filter fun w=>decide (w≤a)).length=((a::r).filter fun w=>decide (w < a)).length+1
    rw [List.filter_cons_of_pos (by simp only [decide_eq_true_eq]; grind),List.filter_cons_of_neg (by simp only [decide_eq_true_eq]; grind),e1,e2]; rfl
   | succ i =>
    have hi:i < r.length:=by simpa using h
    have:=u1 _ (List.getElem_mem hi)
    show ((a::r).filter fun w=>decide (w≤r[i])).length=((a::r).filter fun w=>decide (w < r[i])).length+1
    rw [List.filter_cons_of_pos (by simp only [decide_eq_true_eq]; grind),List.filter_cons_of_pos (by simp only [decide_eq_true_eq]; grind),List.length_cons,List.length_cons,ih u2 hi]
 unfold ix at e
 omega
theorem aEY {ws:List Rat}{x:Rat} (h:x ∉ ws):lN ws x=[ix ws x]:=by
 unfold lN
 rw [if_neg,aJ3 h]
 rintro ⟨h1,h2⟩
 refine h ?_
 rw [List.getD_eq_getElem?_getD,List.getElem?_eq_getElem h1] at h2
 exact h2 ▸ List.getElem_mem h1
theorem aGQ {ws:List Rat} (u:Up ws) {i:Nat} (h:i < ws.length):lN ws ws[i]=[(i:Int) - 1,(i:Int)]:=by
 unfold lN
 rw [aLP u h,if_pos ⟨h,by rw [List.getD_eq_getElem?_getD,List.getElem?_eq_getElem h]; rfl⟩]
theorem tS {ws:List Rat} (u:Up ws) (x:Rat):atI ((lN ws x).map D.int) (-1)=some (.int (ix ws x)):=by
 by_cases h:x∈ws
 ·obtain ⟨i,hi,rfl⟩:=List.getElem_of_mem h
  rw [aGQ u hi,gG u hi]
  exact rY [D.int _] (D.int _)
 ·rw [aEY h]; exact rY [] (D.int _)
def aK5:Ct:=fun ds M k=>∃ (ws:List Rat) (x:Rat),ds=[.tup (aO ws),bA x]∧BqL ws∧ws.length≤100∧Bq x∧k (.lst ((lN ws x).map .int)) M
def aG8:Ct:=fun ds M k=>∃ xs ys:List Rat,ds=[.tup (aO xs), .tup (aO ys)]∧BqL xs∧BqL ys∧xs.length≤100∧ys.length≤100∧k (.lst (aO (a9 xs ys))) M
theorem iI (xs:List Rat) (n:Nat):(aO xs).drop n=aO (xs.drop n):=by unfold aO; rw [List.map_drop]
theorem cJ (xs ys:List Rat):aO xs++aO ys=aO (xs++ys):=by unfold aO; rw [List.map_append]
theorem uW (xs:List Rat):(aO xs).dropLast=aO xs.dropLast:=by unfold aO; rw [List.map_dropLast]
theorem q8 {xs:List Rat}{js:List Nat} (h:∀ j∈js,j < xs.length):kT (aO xs) js=aO (iN xs js):=by
 unfold kT aO iN
 rw [List.map_map]
 refine List.map_congr_left fun j hj => ?_
 have:=h j hj
 rw [List.getD_eq_getElem?_getD,List.getElem?_map,List.getElem?_eq_getElem this]
 show bA xs[j]=bA (xs.getD j 0)
 rw [List.getD_eq_getElem?_getD,List.getElem?_eq_getElem this]; rfl
def yd (A:Yd):D:=jJ (aO A.ws) (aO A.us) A.K
theorem uG {xs ys:List Rat}{zs:List Str} (u:Up xs) (v:Up ys) (g:R.Good (xs.length - 1) zs) (hz:zs.length=ys.length - 1):p0 (aO xs) (aO ys) zs=yd (Yd.ofG xs ys zs u v g hz):=by
 unfold p0 yd
 rw [q8 (iJ fun z hz=>(g z hz).1),q8 (iM hz)]; rfl
theorem mU (xs:List Rat):∀ x∈aO xs,okD 1 x=true:=fun x hx=>by
 obtain ⟨q,_,rfl⟩:=List.mem_map.mp hx
 rfl
theorem j5 (A:Yd):okD 3 (yd A)=true:=aFH _ (mU _) (mU _)
theorem yA:∀ (a b:List Rat),eqDs (aO a) (aO b)=decide (a=b)
 | [],[]=>rfl
 | [],b::bs=>by unfold aO; simp [eqDs]
 | a::as,[]=>by unfold aO; simp [eqDs]
 | a::as,b::bs=>by
  have ih:=yA as bs
  unfold aO at ih ⊢
  simp only [List.map_cons,eqDs]
  rw [tL,ih]
  by_cases h1:a=b <;> by_cases h2:as=bs <;> simp [h1,h2]
theorem wW:∀ (a b:List Str),eqDs (a.map D.str) (b.map D.str)=decide (a=b)
 | [],[]=>rfl
 | [],b::bs=>by simp [eqDs]
 | a::as,[]=>by simp [eqDs]
 | a::as,b::bs=>by
  have ih:=wW as bs
  simp only [List.map_cons,eqDs]
  rw [ih]
  by_cases h1:a=b <;> by_cases h2:as=bs <;> simp [h1,h2,eqD]
theorem aLU {A B:Yd}:A=B↔A.ws=B.ws∧A.us=B.us∧A.K=B.K:=by
 constructor
 ·intro e; subst e; exact ⟨rfl,rfl,rfl⟩
 ·obtain ⟨ws,us,K,_,_,_⟩:=A
  obtain ⟨ws',us',K',_,_,_⟩:=B
  rintro ⟨rfl,rfl,rfl⟩
  rfl
noncomputable instance:DecidableEq Yd:=fun _ _=>Classical.propDecidable _
theorem sD (A B:Yd):eqD (yd A) (yd B)=decide (A=B):=by
 unfold yd jJ
 simp only [eqD,eqDs,yA,wW,Bool.and_true]
 by_cases h:A=B
 ·subst h; simp
 ·rw [decide_eq_false h]
  by_cases h1:A.ws=B.ws
  ·by_cases h2:A.us=B.us
   ·have h3:A.K≠B.K:=fun e=>h (aLU.mpr ⟨h1,h2,e⟩)
    simp [h3]
   ·simp [h2]
  ·simp [h1]
structure Bnd (S:List Rat):Prop where
 len:S.length≤90
 b:BqL S
theorem onB {Sx Sy:List Rat}{A:Yd} (o:On Sx Sy A) (hx:Bnd Sx) (hy:Bnd Sy):BqL A.ws∧BqL A.us∧A.ws.length≤90∧A.us.length≤90 :=
 ⟨fun w hw=>hx.b w (o.x w hw),fun w hw=>hy.b w (o.y w hw),Nat.le_trans (kJ A.uw o.x) hx.len,Nat.le_trans (kJ A.uu o.y) hy.len⟩
def zK:Ct:=fun ds M k=>∃ (A:Yd) (xs ys:List Rat),ds=[yd A, .lst (aO xs), .lst (aO ys)]∧BqL A.ws∧BqL A.us∧BqL xs∧BqL ys∧A.ws.length≤90∧A.us.length≤90∧xs.length≤300∧ys.length≤300∧k (.lst ((eW A.has xs ys).map .str)) M
def pW (ps:List Str) (a b:Bool):Bool:=oE ps (R.sg a,R.sg b)
def aGN:Ct:=fun ds M k=>∃ (A B:Yd) (Sx Sy:List Rat) (ps:List Str),ds=[yd A,yd B, .tup (ps.map .str)]∧Bnd Sx∧Bnd Sy∧On Sx Sy A∧On Sx Sy B∧ps.length≤10∧k (yd (Yd.op (pW ps) A B)) M
def aM9 (p:Bool→Bool→Bool):Ct:=fun ds M k=>∃ (A B:Yd) (Sx Sy:List Rat),ds=[yd A,yd B]∧Bnd Sx∧Bnd Sy∧On Sx Sy A∧On Sx Sy B∧k (yd (Yd.op p A B)) M
def aHT (a b:Bool):Bool:=a && b
def aK4 (a b:Bool):Bool:=a || b
def eU (a b:Bool):Bool:=a && !b
theorem aCW:pW ["#."]=eU:=by funext a b; cases a <;> cases b <;> decide +kernel
theorem aCT (ps:List Str) (f g:Rat→Rat→Bool) (xs ys:List Rat):(((eW f xs ys).zip (eW g xs ys)).map fun p=>sV ps p.1 p.2)=eW (fun x y=>pW ps (f x y) (g x y)) xs ys:=by
 unfold eW
 rw [List.zip_map',List.map_map]
 refine List.map_congr_left fun y _ => ?_
 show sV ps (R.ofL _) (R.ofL _)=_
 unfold sV
 show R.ofL (((xs.dropLast.map fun x=>R.sg (f x y)).zip (xs.dropLast.map fun x=>R.sg (g x y))).map fun p=>R.sg (oE ps p))=_
 rw [List.zip_map',List.map_map]
 rfl
theorem aHJ (A:Yd) (xs:List Rat) (y:Rat):wH A.K (xs.dropLast.map (ix A.ws)) (ix A.us y)=R.ofL (xs.dropLast.map fun x=>R.sg (A.has x y)):=by
 unfold wH
 rw [List.map_map]; rfl
end Q
namespace U
open PySem
inductive Cmp (g:Rat→Rat):Rat→List Rat→List Rat→Prop
 | nil {v:Rat}{xs:List Rat} (hv:v=0) (h:∀ x∈xs,g x=0):Cmp g v xs []
 | skip {v a:Rat}{r ws:List Rat} (e:g a=v) (h:Cmp g v r ws):Cmp g v (a::r) ws
 | keep {v a:Rat}{r ws:List Rat} (h:Cmp g (g a) r ws):Cmp g v (a::r) (a::ws)
def Yd.shift (A:Yd) (a b:Rat):Yd where
 ws:=A.ws.map (· + a)
 us:=A.us.map (· + b)
 K:=A.K
 uw:=by unfold Up; rw [List.pairwise_map]; exact A.uw.imp fun h=>by grind
 uu:=by unfold Up; rw [List.pairwise_map]; exact A.uu.imp fun h=>by grind
 T:=by rw [List.length_map,List.length_map]; exact A.T
theorem aED {f:Rat→Rat}{x y:Rat} (h:∀ w,f w≤x↔w≤y) (ws:List Rat):ix (ws.map f) x=ix ws y:=by
 unfold ix
 rw [List.filter_map,List.length_map]
 refine congrArg (fun l:List Rat=>(l.length:Int) - 1) (List.filter_congr fun w _ => ?_)
 show decide (f w≤x)=decide (w≤y)
 rw [decide_eq_decide]; exact h w
theorem Yd.shift_has (A:Yd) (a b x y:Rat):(A.shift a b).has x y=A.has (x - a) (y - b):=by
 unfold Yd.has inY Yd.shift
 dsimp only
 rw [aED (y:=x - a) (fun w=>by grind),aED (y:=y - b) (fun w=>by grind)]
def jN (ws:List Rat):List Rat:=ws.reverse.map fun x=>0 - x
theorem oD (ws:List Rat):(jN ws).length=ws.length:=by unfold jN; rw [List.length_map,List.length_reverse]
theorem aA3 {ws:List Rat} (u:Up ws):Up (jN ws):=by
 unfold jN Up
 rw [List.pairwise_map,List.pairwise_reverse]
 exact u.imp fun h=>by grind
theorem aG0 {ws:List Rat}{x:Rat}:x∈jN ws↔0 - x∈ws:=by
 unfold jN
 rw [List.mem_map]
 constructor
 ·rintro ⟨w,hw,rfl⟩
  rw [show (0:Rat) - (0 - w)=w by grind]
  exact List.mem_reverse.mp hw
 ·intro h
  exact ⟨0 - x,List.mem_reverse.mpr h,by grind⟩
def Yd.mirror (A:Yd):Yd where
 ws:=jN A.ws
 us:=A.us
 K:=A.K.map R.cM
 uw:=aA3 A.uw
 uu:=A.uu
 T:=by rw [oD]; exact Q.wN A.T
def Yd.turn (A:Yd):Yd where
 ws:=jN A.us
 us:=A.ws
 K:=(R.aJ A.K).map R.cM
 uw:=aA3 A.uu
 uu:=A.uw
 T:=by rw [oD]; exact Q.aBC A.T
theorem Yd.big (A:Yd):A.K=[]∨(2≤A.ws.length∧2≤A.us.length):=by
 rcases A.T.v with ⟨h,_,_⟩ | ⟨_,_,_,_,_,h1,h2⟩
 ·exact .inl h
 ·exact .inr ⟨h1,h2⟩
end U
set_option exponentiation.threshold 500
namespace Q
open PySem L2 Z U
theorem aIJ (q:Rat):q * (q.den:Rat)=(q.num:Rat):=by
 have h:=Rat.num_divInt_den q
 have hd:((q.den:Int):Rat)≠0:=by
  intro e
  have:=Rat.intCast_inj.mp (e.trans (Rat.intCast_zero).symm)
  have:=q.den_nz; omega
 conv=>lhs; lhs; rw [← h,Rat.divInt_eq_div]
 rw [← Rat.intCast_natCast,Rat.div_mul_cancel hd]
structure Fr (m B:Nat) (q:Rat):Prop where
 ex:∃ k:Int,q * (m:Rat)=(k:Rat)∧k.natAbs≤B
theorem Fr.cross {m B:Nat}{q:Rat} (h:Fr m B q):∃ k:Int,q.num * (m:Int)=k * (q.den:Int)∧k.natAbs≤B:=by
 obtain ⟨k,e,hk⟩:=h.ex
 refine ⟨k,?_,hk⟩
 have h1:q * (q.den:Rat)=(q.num:Rat):=aIJ q
 have h2:((q.num * (m:Int):Int):Rat)=((k * (q.den:Int):Int):Rat):=by
  rw [Rat.intCast_mul,Rat.intCast_mul,Rat.intCast_natCast,Rat.intCast_natCast,← h1,← e]
  grind
 exact Rat.intCast_inj.mp h2
theorem Fr.bd {m B:Nat}{q:Rat} (h:Fr m B q) (hm:0 < m):q.num.natAbs≤B∧q.den≤m:=by
 obtain ⟨k,e,hk⟩:=h.cross
 have e':q.num.natAbs * m=k.natAbs * q.den:=by
  have:=congrArg Int.natAbs e
  rwa [Int.natAbs_mul,Int.natAbs_mul,Int.natAbs_natCast,Int.natAbs_natCast] at this
 have hd:q.den ∣ m:=by
  refine Nat.Coprime.dvd_of_dvd_mul_left (k:=q.den) (m:=q.num.natAbs) (Nat.Coprime.symm q.reduced) ?_
  rw [e']; exact Nat.dvd_mul_left _ _
 have hl:=Nat.le_of_dvd hm hd
 refine ⟨?_,hl⟩
 have:q.num.natAbs * m≤B * m:=by
  rw [e']; exact Nat.mul_le_mul hk hl
 exact Nat.le_of_mul_le_mul_right this hm
theorem Fr.bq {m B:Nat}{q:Rat} (h:Fr m B q) (hm:0 < m) (h1:m < 10 ^ 400) (h2:B < 10 ^ 400):Bq q:=⟨Nat.lt_of_le_of_lt (h.bd hm).1 h2,Nat.lt_of_le_of_lt (h.bd hm).2 h1⟩
theorem Fr.mono {m B B':Nat}{q:Rat} (h:Fr m B q) (hB:B≤B'):Fr m B' q:=let ⟨k,e,hk⟩:=h.ex; ⟨k,e,by omega⟩
theorem Fr.zero (m B:Nat):Fr m B 0:=⟨0,by rw [Rat.zero_mul]; rfl,by simp⟩
theorem Fr.add {m B C:Nat}{a b:Rat} (h:Fr m B a) (g:Fr m C b):Fr m (B+C) (a+b):=by
 obtain ⟨k,e,hk⟩:=h.ex
 obtain ⟨l,e',hl⟩:=g.ex
 exact ⟨k+l,by rw [Rat.intCast_add,← e,← e']; grind,by omega⟩
theorem Fr.sub {m B C:Nat}{a b:Rat} (h:Fr m B a) (g:Fr m C b):Fr m (B+C) (a - b):=by
 obtain ⟨k,e,hk⟩:=h.ex
 obtain ⟨l,e',hl⟩:=g.ex
 exact ⟨k - l,by rw [Rat.intCast_sub,← e,← e']; grind,by omega⟩
theorem Fr.mul {m n B C:Nat}{a b:Rat} (h:Fr m B a) (g:Fr n C b):Fr (m * n) (B * C) (a * b):=by
 obtain ⟨k,e,hk⟩:=h.ex
 obtain ⟨l,e',hl⟩:=g.ex
 exact ⟨k * l,by rw [Rat.intCast_mul,← e,← e',Rat.natCast_mul]; grind,by rw [Int.natAbs_mul]; exact Nat.mul_le_mul hk hl⟩
theorem Fr.int {m B:Nat}{x:Int} (h:x.natAbs * m≤B):Fr m B (x:Rat):=⟨x * m,by rw [Rat.intCast_mul,Rat.intCast_natCast],by rw [Int.natAbs_mul,Int.natAbs_natCast]; exact h⟩
def FrL (m B:Nat) (ws:List Rat):Prop:=∀ w∈ws,Fr m B w
theorem FrL.at {m B:Nat}{ws:List Rat} (h:FrL m B ws) (i:Nat):Fr m B (ws.getD i 0):=by
 rw [List.getD_eq_getElem?_getD]
 cases e:ws[i]? with
 | none=>exact Fr.zero m B
 | some w=>exact h w (List.mem_of_getElem? e)
def sm:Nat:=10 ^ 60
end Q
set_option exponentiation.threshold 500
namespace Q
open PySem L2 Z U
theorem hB (A B:Yd) (x y:Rat):(Yd.op aHT A B).has x y=(A.has x y && B.has x y):=Yd.op_has rfl A B x y
theorem hE (A B:Yd) (x y:Rat):(Yd.op aK4 A B).has x y=(A.has x y || B.has x y):=Yd.op_has rfl A B x y
theorem hL (A B:Yd) (x y:Rat):(Yd.op eU A B).has x y=(A.has x y && !B.has x y):=Yd.op_has rfl A B x y
theorem in1 (A B:Yd):Yd.op eU (Yd.op aHT A B) A=Yd.void:=Yd.ext' fun x y=>by rw [hL,hB,Yd.void_has]; cases A.has x y <;> cases B.has x y <;> rfl
structure Y8 (A:Yd):Prop where
 x:FrL 6 100000000000 A.ws
 y:FrL 6 100000000000 A.us
 lx:A.ws.length≤7
 ly:A.us.length≤7
structure S8 (S:List Rat):Prop where
 len:S.length≤30
 fr:FrL 6 100000000000 S
structure O8 (Sx Sy:List Rat) (A:Yd):Prop where
 on:On Sx Sy A
 sx:S8 Sx
 sy:S8 Sy
theorem bq12:Bq (1 / 2):=⟨by decide +kernel,by decide +kernel⟩
end Q
set_option exponentiation.threshold 500
namespace Q
open PySem L2 Z U
theorem rV {t b:Int} (hb:0 < b):pairD (lowG t b)=bA (Rat.divInt t b):=by
 rw [← aKC hb,tM _ _ (by omega)]; rfl
end Q
set_option exponentiation.threshold 500
namespace Q
open PySem L2 Z U
def aA6:Ct:=fun ds M k=>∃ (A:U.Yd) (a b:Rat),ds=[yd A,bA a,bA b]∧BqL A.ws∧BqL A.us∧Bq a∧Bq b∧A.ws.length≤90∧A.us.length≤90∧k (yd (A.shift a b)) M
def aH3:Ct:=fun ds M k=>∃ xs:List Rat,ds=[.tup (aO xs)]∧BqL xs∧xs.length≤100∧k (.tup (aO (jN xs))) M
def aG2:Ct:=fun ds M k=>∃ A:U.Yd,ds=[yd A]∧BqL A.us∧A.ws.length≤90∧A.us.length≤90∧k (yd A.turn) M
def aBX:Ct:=fun ds M k=>∃ A:U.Yd,ds=[yd A]∧BqL A.ws∧A.ws.length≤90∧A.us.length≤90∧k (yd A.mirror) M
theorem bq0:Bq 0:=⟨by decide +kernel,by decide +kernel⟩
theorem Bq.neg {q:Rat} (h:Bq q):Bq (0 - q):=by
 rw [show (0:Rat) - q = -q by grind]
 exact ⟨by rw [Rat.neg_num,Int.natAbs_neg]; exact h.a,by rw [Rat.neg_den]; exact h.b⟩
def pm (A:U.Yd):List Rat:=A.ws++A.us++jN A.ws++jN A.us
theorem nn (x:Rat):(0:Rat) - (0 - x)=x:=by grind
theorem eJ (A:U.Yd):A=U.Yd.void↔A.K=[]:=by
 rw [A.void_iff,U.Yd.ext_iff']
 refine forall_congr' fun x=>forall_congr' fun y => ?_
 rw [U.Yd.void_has]
structure P4 (a b c d:Rat):Prop where
 fa:Fr 2520 1000000 a
 fb:Fr 2520 1000000 b
 fc:Fr 2520 1000000 c
 fd:Fr 2520 1000000 d
 c0:0 < c
 d0:0 < d
def mm:Nat:=2520 * 2520 * 2520
structure Sk (q:Rat):Prop where
 fr:Fr mm (10 ^ 40) q
structure Y10 (A:U.Yd):Prop where
 x:FrL 2520 10000000000000 A.ws
 y:FrL 2520 10000000000000 A.us
 lx:A.ws.length≤14
 ly:A.us.length≤14
theorem aMO {m B:Nat}{q:Rat} (h:Fr m B q):Fr m B (0 - q):=((Fr.zero m 0).sub h).mono (by omega)
structure Y11 (A:U.Yd):Prop where
 x:FrL (2520 * 2520) 100000000000000000000 A.ws
 y:FrL (2520 * 2520) 100000000000000000000 A.us
 lx:A.ws.length≤14
 ly:A.us.length≤14
def tn:Nat→U.Yd→U.Yd
 | 0,A=>A
 | n+1,A=>(tn n A).turn
structure Ps (a:Rat):Prop where
 fr:Fr 2520 1000000 a
 p:0 < a
 inv:Fr 2520 1000000 (1 / a)
end Q
namespace U
open PySem
def hit (s:Bool) (ws:List Rat) (dn up:Rat) (h:Int→Bool) (x:Rat):Prop:=∃ u,x - up≤u∧u≤x+dn∧h (ix ws u)=s
open Classical in
noncomputable def gro (s:Bool) (ws:List Rat) (dn up:Rat) (h:Int→Bool) (x:Rat):Bool:=if hit s ws dn up h x then s else !s
def aA8 (ws:List Rat) (dn:Rat):List Rat:=ws.map (· - dn)
def aBO (ws:List Rat) (up:Rat):List Rat:=ws.map (· + up)
def aCA (ws:List Rat) (dn up:Rat):List Rat:=a9 (aA8 ws dn) (aBO ws up)
theorem aIZ {ws:List Rat} (u:Up ws) (dn:Rat):Up (aA8 ws dn):=by unfold aA8 Up; rw [List.pairwise_map]; exact u.imp fun h=>by grind
theorem aIL {ws:List Rat} (u:Up ws) (up:Rat):Up (aBO ws up):=by unfold aBO Up; rw [List.pairwise_map]; exact u.imp fun h=>by grind
theorem aA2 {ws:List Rat} (u:Up ws) (dn up:Rat):Up (aCA ws dn up):=cQ (aIZ u dn) (aIL u up)
noncomputable def growS (s:Bool) (ws:List Rat) (dn up:Rat) (z:Str):Str:=R.ofL ((aCA ws dn up).dropLast.map fun x=>R.sg (gro s ws dn up (fun i=>R.bH [z] i 0) x))
noncomputable def groF (s:Bool) (A:Yd) (a b c d:Rat) (x y:Rat):Bool:=gro s A.us b d (fun r=>gro s A.ws a c (fun i=>R.bH A.K i r) x) y
structure Nn (a b c d:Rat):Prop where
 a:0≤a
 b:0≤b
 c:0≤c
 d:0≤d
noncomputable def Yd.grow (A:Yd) (s:Bool) (a b c d:Rat):Yd:=Yd.ofF (groF s A a b c d) (aCA A.ws a c) (aCA A.us b d) (aA2 A.uw a c) (aA2 A.uu b d)
structure Bx where
 w:Rat
 s:Rat
 e:Rat
 n:Rat
structure Bx.Ok (b:Bx):Prop where
 w:0≤b.w
 s:0≤b.s
 e:0≤b.e
 n:0≤b.n
noncomputable def Yd.cut (A:Yd) (b:Bx):Yd:=A.grow false b.e b.n b.w b.s
noncomputable def Yd.back (A:Yd) (b:Bx):Yd:=A.grow true b.w b.s b.e b.n
theorem mid {x u a b c d:Rat} (ha:0≤a) (hb:0≤b) (hc:0≤c) (hd:0≤d) (h1:x - (a+c)≤u) (h2:u≤x+(b+d)):∃ m,x - a≤m∧m≤x+b∧m - c≤u∧u≤m+d:=by
 by_cases h3:u+c < x+b
 ·by_cases h4:u+c < x - a
  ·exact absurd h1 (by grind)
  ·exact ⟨u+c,by grind,by grind,by grind,by grind⟩
 ·exact ⟨x+b,by grind,by grind,by grind,by grind⟩
end U
namespace Z
open PySem L2
section
variable {X:Cx}{Γ:Gm}{M:Mem}{k:D→Mem→Prop}
end
end Z
set_option exponentiation.threshold 500
namespace Q
open PySem L2 Z U
theorem aJE (l:List Nat) (b:Nat):gT (R.ofL l) none (some (b:Int))=R.ofL (l.take b):=by
 have:=p7 l b
 unfold cutD at this
 unfold gT lL R.ofL
 rw [← this]
theorem aC2 (l:List Nat) (e:Nat) (h:e≤l.length):gT (R.ofL l) (some (e:Int)) none=R.ofL (l.drop e):=by
 have:=iW l e h
 unfold cutD at this
 unfold gT lL R.ofL
 rw [← this]
structure Gr (ws:List Rat) (dn up:Rat):Prop where
 u:Up ws
 d0:0≤dn
 u0:0≤up
 b:BqL ws
 bd:Bq dn
 bu:Bq up
 lo:BqL (aA8 ws dn)
 hi:BqL (aBO ws up)
 len:ws.length≤90
def bxP (p q r s:Int) (t:Rat):Bx:=⟨(p:Rat) * t,(q:Rat) * t,(r:Rat) * t,(s:Rat) * t⟩
structure CutOk (A:Yd) (p q r s:Int) (t:Rat):Prop where
 hp:p.natAbs < 1000
 hq:q.natAbs < 1000
 hr:r.natAbs < 1000
 hs:s.natAbs < 1000
 ht:Bq t
 xc:Gr A.ws (bxP p q r s t).e (bxP p q r s t).w
 yc:Gr A.us (bxP p q r s t).n (bxP p q r s t).s
 xb:Gr A.ws (bxP p q r s t).w (bxP p q r s t).e
 yb:Gr A.us (bxP p q r s t).s (bxP p q r s t).n
end Q
set_option exponentiation.threshold 500
namespace Q
open PySem L2 Z U
structure Pc (p:Int):Prop where
 a:1≤p
 b:p≤9
structure Tm (t:Rat):Prop where
 p:0≤t
 n:t.num.natAbs≤1000000000000
 d:t.den≤1000000
theorem aCZ {a b:Int} (hb:0 < b):Fr b.toNat a.natAbs (Rat.divInt a b):=by
 have nb:((b:Int):Rat)≠0:=fun e=>by have:=Rat.intCast_inj.mp (e.trans Rat.intCast_zero.symm); omega
 refine ⟨a,?_,Nat.le_refl _⟩
 have e:((b.toNat:Nat):Rat)=((b:Int):Rat):=by rw [← Rat.intCast_natCast,Int.toNat_of_nonneg (by omega)]
 rw [Rat.divInt_eq_div,e]
 grind
structure Yk (m B n:Nat) (A:Yd):Prop where
 x:FrL m B A.ws
 y:FrL m B A.us
 lx:A.ws.length≤n
 ly:A.us.length≤n
structure Mk (m:Nat) (t:Rat):Prop where
 m0:0 < m
 m1:m≤100000000000000000000
 p:0≤t
 f:Fr m 100000000000000000000000000000000 t
structure Pp (p q r s:Int):Prop where
 p:Pc p
 q:Pc q
 r:Pc r
 s:Pc s
end Q
namespace U
open PySem
def maxQ (a b:Rat):Rat:=if a < b then b else a
def minQ (a b:Rat):Rat:=if b < a then b else a
def tB (ws:List Rat) (x p q:Rat) (b:Nat):Rat :=
 if b=0 then (x - ws.getD 0 0) / p else if b < ws.length then maxQ ((x - ws.getD b 0) / p) ((ws.getD (b - 1) 0 - x) / q) else (ws.getD (b - 1) 0 - x) / q
theorem gD {ws:List Rat}{i:Nat} (h:i < ws.length):ws.getD i 0=ws[i]:=by rw [List.getD_eq_getElem?_getD,List.getElem?_eq_getElem h]; rfl
def aF6 (tx:Nat→Rat) (ty:Rat) (out:Nat→Bool):Nat→Rat→Rat
 | 0,t=>t
 | n+1,t=>if out n then minQ (aF6 tx ty out n t) (maxQ (tx n) ty) else aF6 tx ty out n t
def hAll (tx ty:Nat→Rat) (out:Nat→Nat→Bool) (na:Nat):Nat→Rat→Rat
 | 0,t=>t
 | m+1,t=>aF6 tx (ty m) (fun a=>out a m) na (hAll tx ty out na m t)
structure Pz (p q r s:Rat):Prop where
 p:0 < p
 q:0 < q
 r:0 < r
 s:0 < s
def hgt (A:Yd) (p q r s x y:Rat):Rat:=hAll (tB A.ws x p r) (tB A.us y q s) (fun a b => !R.bH A.K ((a:Int) - 1) ((b:Int) - 1)) (A.ws.length+1) (A.us.length+1) (tB A.ws x p r 0)
structure IsH (A:Yd) (p q r s x y h:Rat):Prop where
 nn:0≤h
 i:∀ t,0 < t→(t≤h↔∀ u v,x - p * t < u→u < x+r * t→y - q * t < v→v < y+s * t→A.has u v=true)
end U
set_option exponentiation.threshold 500
namespace Q
open PySem L2 Z U
structure Nm (m B:Nat):Prop where
 m0:0 < m
 m1:m≤sm
 b:B≤sm
structure Dn (m B:Nat) (q:Rat):Prop where
 n:q.num.natAbs≤2 * B
 d:q.den≤9 * m
end Q
set_option exponentiation.threshold 500
namespace Q
open PySem L2 Z U
structure Tm2 (t:Rat):Prop where
 p:0≤t
 n:t.num.natAbs≤100000000000000000000
 d:t.den≤1000000000000
def bot:Int:=200000000000000000000
structure Al (a b:Int):Prop where
 n:a.natAbs≤10 ^ 35
end Q
namespace HD
open PySem PySem.Spec PyProof.Rows L2 PySem.W
section
variable {prog:Program}{w:World}{A:Around}{E:Value→Shared→Prop}{s:Shared}
end
end HD
namespace Z
open PySem L2
section
variable {K:Fg}{G H:Hp}{M:Mem}{p:Addr}
end
section
variable {X:Cx}{Γ:Gm}{M:Mem}{k:D→Mem→Prop}{kg:Gm→Mem→Prop}{pos:Pos}{o:Expr}{pins:List (Addr × Obj)}{σ:St}{H:Hp}{s:Shared}
theorem mD:∀ {vs:List Value}{ns:List Int},PyProof.Rows.IntsAre vs ns→Vals (ns.map V.int) vs
 | _,_, .nil => .nil
 | _,_, .cons n t h => .cons ⟨t,rfl⟩ (mD h)
end
end Z
set_option exponentiation.threshold 500
namespace Q
open PySem L2 Z U
end Q
namespace PySem
open Builtin
section
variable {prog:Program}{w:World}{A:Around}{E:Value→Shared→Prop}{s:Shared}{z TI TO i1 i2:Addr}{fp1 fp2:List Addr}{n1 n2 k:Nat}{P1 P2:Nat→Value→Prop}{S1 S2:Nat→Heap→Prop}{a b:Value}
end
end PySem
namespace L2
open PySem PySem.Spec PyProof.Rows
section
variable {X:Cx}
end
end L2
namespace Z
open PySem L2
section
variable {X:Cx}{Γ:Gm}{M:Mem}{k:D→Mem→Prop}{pos:Pos}{a b:Expr}{rest:List Expr}
end
end Z
set_option exponentiation.threshold 500
namespace Q
open PySem L2 Z U
structure MidOf (xs vs:List Int) (t:Rat) (m:Int):Prop where
 off:∀ x∈xs,∀ v∈vs,2 * (x * (t.den:Int)+v * t.num)≠m
 bd : -10000000000000000≤m∧m≤10000000000000000
def Tb (ws:List Rat) (x:Rat) (k:Int):Prop := -1≤k∧k < ws.length∧(k < 0∨ws.getD k.toNat 0≤x)∧(ws.length≤k+1∨x≤ws.getD (k+1).toNat 0)
theorem gD {ws:List Rat}{i:Nat} (h:i < ws.length):ws.getD i 0=ws[i]:=by simp [h]
theorem mQ {ws:List Rat} (u:Up ws) {x:Rat}{k:Int} (h0 : -1≤k) (h1:k < ws.length) (h2:k < 0∨ws.getD k.toNat 0≤x) (h3:ws.length≤k+1∨x < ws.getD (k+1).toNat 0):ix ws x=k:=sF u h0 h1 fun i hi=>by
 constructor
 ·intro h
  refine Int.not_lt.mp fun z => ?_
  rcases h3 with h3 | h3
  ·omega
  ·have hk:(k+1).toNat < ws.length:=by omega
   rw [gD hk] at h3
   have:=(U.nV u hk hi).mpr (by omega)
   grind
 ·intro h
  rcases h2 with h2 | h2
  ·omega
  ·have hk:k.toNat < ws.length:=by omega
   rw [gD hk] at h2
   have:=(U.nV u hi hk).mpr (by omega)
   grind
theorem near {ws:List Rat} (u:Up ws) {x:Rat}{k:Int} (h:Tb ws x k) {d:Rat} (hd:0 < d):∃ x',x - d < x'∧x' < x+d∧ix ws x'=k:=by
 obtain ⟨h0,h1,h2,h3⟩:=h
 by_cases q:ws.length≤k+1∨x < ws.getD (k+1).toNat 0
 ·exact ⟨x,by grind,by grind,mQ u h0 h1 h2 q⟩
 ·have q1:k+1 < ws.length:=by omega
  have q2:¬ x < ws.getD (k+1).toNat 0:=fun z=>q (.inr z)
  have q3:x=ws.getD (k+1).toNat 0:=by rcases h3 with h3 | h3; omega; grind
  by_cases kn:k < 0
  ·exact ⟨x - d / 2,by grind,by grind,mQ u h0 h1 (.inl kn) (.inr (by grind))⟩
  ·have lt:ws.getD k.toNat 0 < ws.getD (k+1).toNat 0:=by
    rw [gD (show k.toNat < ws.length by omega),gD (show (k+1).toNat < ws.length by omega)]
    exact (U.l8 u _ _).mpr (by omega)
   by_cases c:ws.getD k.toNat 0≤x - d / 2
   ·exact ⟨x - d / 2,by grind,by grind,mQ u h0 h1 (.inr c) (.inr (by grind))⟩
   ·exact ⟨ws.getD k.toNat 0,by grind,by grind,mQ u h0 h1 (.inr Rat.le_refl) (.inr lt)⟩
def About (A:Yd) (x y:Rat) (c:Bool):Prop:=∃ d:Rat,0 < d∧∀ x' y',x - d < x'→x' < x+d→y - d < y'→y' < y+d→A.has x' y'=c
theorem About.cells {A:Yd}{x y:Rat}{c:Bool} (h:About A x y c) {k l:Int} (hk:Tb A.ws x k) (hl:Tb A.us y l):R.bH A.K k l=c:=by
 obtain ⟨d,d0,h⟩:=h
 obtain ⟨x',a1,a2,a3⟩:=near A.uw hk d0
 obtain ⟨y',b1,b2,b3⟩:=near A.uu hl d0
 have:=h x' y' a1 a2 b1 b2
 unfold Yd.has inY at this
 rw [a3,b3] at this
 exact this
def mid (ws:List Rat) (i:Nat):Rat:=Rat.divInt 1 2 * (ws.getD i 0+ws.getD (i+1) 0)
theorem zZ:Rat.divInt 1 2=(1 / 2:Rat):=by rw [Rat.divInt_eq_div]; rfl
theorem u5 {A:Yd}{a b:Nat} (ha:a+1 < A.ws.length) (hb:b+1 < A.us.length):About A (mid A.ws a) (mid A.us b) (R.bH A.K (a:Int) (b:Int)):=by
 have l1:A.ws.getD a 0 < A.ws.getD (a+1) 0:=by rw [gD (show a < A.ws.length by omega),gD ha]; exact (U.l8 A.uw _ _).mpr (by omega)
 have l2:A.us.getD b 0 < A.us.getD (b+1) 0:=by rw [gD (show b < A.us.length by omega),gD hb]; exact (U.l8 A.uu _ _).mpr (by omega)
 unfold mid
 rw [zZ]
 obtain ⟨d,d0,d1,d2⟩:∃ d:Rat,0 < d∧d≤(A.ws.getD (a+1) 0 - A.ws.getD a 0) / 2∧d≤(A.us.getD (b+1) 0 - A.us.getD b 0) / 2:=by
  by_cases c:A.ws.getD (a+1) 0 - A.ws.getD a 0≤A.us.getD (b+1) 0 - A.us.getD b 0
  ·exact ⟨(A.ws.getD (a+1) 0 - A.ws.getD a 0) / 2,by grind,by grind,by grind⟩
  ·exact ⟨(A.us.getD (b+1) 0 - A.us.getD b 0) / 2,by grind,by grind,by grind⟩
 refine ⟨d,d0,fun x' y' h1 h2 h3 h4 => ?_⟩
 unfold Yd.has inY
 rw [mQ A.uw (k:=(a:Int)) (by omega) (by omega) (.inr (by rw [Int.toNat_natCast]; grind)) (.inr (by rw [show ((a:Int)+1).toNat=a+1 by omega]; grind)),mQ A.uu (k:=(b:Int)) (by omega) (by omega) (.inr (by rw [Int.toNat_natCast]; grind)) (.inr (by rw [show ((b:Int)+1).toNat=b+1 by omega]; grind))]
theorem aEG {A B:Yd} (h:Yd.op eU A B=Yd.void) (g:Yd.op eU B A=Yd.void):A=B:=Yd.ext' fun x y=>by
 have h1:=congrArg (fun Y=>Yd.has Y x y) h
 have h2:=congrArg (fun Y=>Yd.has Y x y) g
 simp only [Yd.op_has (p:=eU) rfl,Yd.void_has] at h1 h2
 revert h1 h2
 cases A.has x y <;> cases B.has x y <;> decide
theorem sS {A B:Yd}{x y:Rat} (h:About (Yd.op eU A B) x y true):About A x y true∧About B x y false:=by
 obtain ⟨d,d0,h⟩:=h
 have key:∀ x' y',x - d < x'→x' < x+d→y - d < y'→y' < y+d→A.has x' y'=true∧B.has x' y'=false:=fun x' y' a b c e=>by
  have:=h x' y' a b c e
  rw [Yd.op_has (p:=eU) rfl] at this
  revert this
  cases A.has x' y' <;> cases B.has x' y' <;> decide
 exact ⟨⟨d,d0,fun x' y' a b c e=>(key x' y' a b c e).1⟩,⟨d,d0,fun x' y' a b c e=>(key x' y' a b c e).2⟩⟩
theorem aBF {A:Yd} (h:A≠Yd.void):2≤A.ws.length∧2≤A.us.length∧∃ a:Nat,a+1 < A.ws.length∧R.bH A.K (a:Int) 0=true:=by
 have hK:A.K≠[]:=fun e=>h ((eJ A).mpr e)
 have big:=A.big.resolve_left hK
 refine ⟨big.1,big.2,?_⟩
 obtain ⟨j,hj,hne⟩:=xO A.T (j:=0) (by omega)
 rw [R.dW (by omega)] at hne
 refine ⟨j,by omega,?_⟩
 revert hne
 cases R.bH A.K (j:Int) ((0:Nat):Int) <;> simp
end Q
namespace Z
open PySem L2
def aAM:V→List V→Hp→VK→Prop:=fun x vs H Q=>∃ (a b:Str) (i:Nat) (rest:List Nat),x = .str a∧vs=[.str b]∧Builtin.Str.occurrences a b 0 a.length 1=i::rest∧Q (.int (i:Int)) H
theorem aC8 {X:Cx}:MtR X "str.index" aAM:=by
 intro pins s σ H x vs u us Q I rx rv h
 obtain ⟨a,b,i,rest,rfl,rfl,ho,q⟩:=h
 obtain ⟨v,rfl,ry⟩:=vals1 rv
 obtain ⟨t,rfl⟩:=rx
 obtain ⟨t',rfl⟩:=ry
 exact SC.index ho ⟨.int _,H,I.tok _,⟨_,rfl⟩,q⟩
theorem aCX {K:Fg}{M:Mem}{k:D→Mem→Prop}{a b:Str}{i:Nat}{rest:List Nat} (ho:Builtin.Str.occurrences a b 0 a.length 1=i::rest) (h:k (.int (i:Int)) M):OpM K aAM (.str a) [.str b] M k:=fun G H v vs Q rl e e2 q=>by
 obtain ⟨u,rfl,du⟩:=dens1 e2
 exact ⟨a,b,i,rest,e.str_,by rw [du.str_],ho,q _ _ _ _ _ (Stp.refl rl) dR h⟩
def Fo (P:Program) (w:World) (K:PySem.W.Frag) (mg:Str→Option Value) (base:Heap) (x:Str) (st:Stmt) (ps:List Str) (n:Nat) (c:Ct):Prop:=∃ f fd,R.Df K mg x st ps f fd∧FnOk P w K mg base CX0 n f fd ps (spZ K c)
theorem aM {X:Cx}{Γ:Gm}{M:Mem}{k:D→Mem→Prop}{pos p:Pos}{e:Expr}{es:List Expr}{x:Str}{st:Stmt}{ps:List Str}{n j:Nat}{c:Ct} (g:Fo X.prog X.w X.K X.mg X.base x st ps n c) (hr:Room j X.A)
  (h:GA X (e::es) Γ M fun ds M1=>c ds M1 k) (hn:n≤j:=by decide) (hg:Gl X x:=by rfl) (hdb:(x == ("__debug__" : Str))=false:=by decide) (he:starEach (e::es) X.env=(false,eval e X.env)::starEach es X.env:=by rfl) (hpl:(backTo pos (starEach es X.env)).any (·.1)=false:=by rfl) :
  GE X (.Call (.Name x p) (e::es) [] pos) Γ M k:=by
 obtain ⟨f,fd,D,G⟩:=g
 exact aJP G (hr.mono hn) D.m D.F.kp D.b h hg hdb he hpl
end Z
set_option exponentiation.threshold 500
namespace Q
open PySem L2 Z U
theorem aBV {z:Str} (h:∃ i,i < z.length∧R.atS z i=35):∃ i rest,Builtin.Str.occurrences z ("#" : Str) 0 z.length 1=i::rest∧i < z.length∧R.atS z i=35:=by
 obtain ⟨j,hj,ej⟩:=h
 have e:("#" : Str)=⟨#[35]⟩:=by decide +kernel
 have hm:35∈z.cps.toList:=List.mem_of_getElem? (i:=j) (by rw [R.dQ hj,ej])
 have ne:=PyProof.Rows.empty_one z 35
 rw [decide_eq_true hm,Bool.not_true] at ne
 rw [e]
 cases o:Builtin.Str.occurrences z ⟨#[35]⟩ 0 z.length 1 with
 | nil=>rw [o] at ne; cases ne
 | cons i rest =>
  have sp:=StrLaws.occ_spec z ⟨#[35]⟩ 0 z.length 1 i (by rw [o]; exact List.mem_cons_self ..)
  have hi:i < z.length:=sp.1
  refine ⟨i,rest,rfl,hi,?_⟩
  have h2:=sp.2
  unfold Builtin.Str.subAt at h2
  rw [beq_iff_eq] at h2
  have hc:i < z.cps.size:=hi
  have h3:=congrArg (fun a=>a.getD 0 0) h2
  unfold R.atS
  rw [show z.cps.getD i 0=(z.cps.extract i (i+1)).getD 0 0 by simp [Array.getD,hc]; omega]
  exact h3
theorem aL5:bA (Rat.divInt 1 2) = .tup [.int 1, .int 2]:=by
 have:(Rat.divInt 1 2).num=1∧(Rat.divInt 1 2).den=2:=by decide +kernel
 unfold bA pairD pq
 rw [this.1,this.2]
 rfl
theorem jO {ws:List Rat}{i:Nat} (h:i < ws.length):atI (aO ws) (i:Int)=some (bA (ws.getD i 0)):=by
 refine cW ?_
 unfold aO
 rw [List.getElem?_map,List.getElem?_eq_getElem h,gD h]
 rfl
def turnN:Nat→Yd→Yd
 | 0,A=>A
 | n+1,A=>(turnN n A).turn
def bring (w:Bool × Nat) (A:Yd):Yd:=turnN w.2 (if w.1=true then A.mirror else A)
noncomputable def jU (A B:Yd):Rat:=if A=Yd.void∨B=Yd.void then 0 else B.ws.getD 0 0 - A.ws.getD 0 0
noncomputable def jQ (A B:Yd):Rat:=if A=Yd.void∨B=Yd.void then 0 else B.us.getD 0 0 - A.us.getD 0 0
noncomputable def laid (w:Bool × Nat) (A B:Yd):Yd:=(bring w A).shift (jU (bring w A) B) (jQ (bring w A) B)
def WYS:List (Bool × Nat):=[(false,0),(false,1),(false,2),(false,3),(true,0),(true,1),(true,2),(true,3)]
def rH (w:Bool × Nat):D := .tup [.bl w.1, .int (w.2:Int)]
structure Wd (B:Nat) (A:Yd):Prop where
 x:FrL 45360 B A.ws
 y:FrL 45360 B A.us
 lx:A.ws.length≤25
 ly:A.us.length≤25
theorem zW {m B:Nat}{ws:List Rat} (h:FrL m B ws):FrL m B (jN ws):=fun w hw=>by
 have:=aMO (h _ (aG0.mp hw))
 rwa [nn] at this
theorem Wd.turn {B:Nat}{A:Yd} (h:Wd B A):Wd B A.turn:=⟨zW h.y,h.x,by show (jN A.us).length≤25; rw [oD]; exact h.ly,h.lx⟩
theorem Wd.mirror {B:Nat}{A:Yd} (h:Wd B A):Wd B A.mirror:=⟨zW h.x,h.y,by show (jN A.ws).length≤25; rw [oD]; exact h.lx,h.ly⟩
theorem Wd.turnN {B:Nat}{A:Yd} (h:Wd B A):∀ n,Wd B (Q.turnN n A)
 | 0=>h
 | n+1=>(Wd.turnN h n).turn
theorem Wd.bring {B:Nat}{A:Yd} (h:Wd B A) (w:Bool × Nat):Wd B (bring w A):=by
 unfold Q.bring
 split
 ·exact h.mirror.turnN _
 ·exact h.turnN _
theorem Wd.shift {B C:Nat}{A:Yd} (h:Wd B A) {a b:Rat} (ha:Fr 45360 C a) (hb:Fr 45360 C b):Wd (B+C) (A.shift a b):=by
 refine ⟨fun w hw => ?_,fun w hw => ?_,by show (List.map _ _).length≤_; rw [List.length_map]; exact h.lx,by show (List.map _ _).length≤_; rw [List.length_map]; exact h.ly⟩
 ·obtain ⟨v,hv,rfl⟩:=List.mem_map.mp hw
  exact (h.x v hv).add ha
 ·obtain ⟨v,hv,rfl⟩:=List.mem_map.mp hw
  exact (h.y v hv).add hb
theorem pP {B C:Nat}{A A':Yd} (h:Wd B A) (g:Wd C A'):Fr 45360 (C+B) (jU A A')∧Fr 45360 (C+B) (jQ A A'):=by
 unfold jU jQ
 split
 ·exact ⟨.zero _ _, .zero _ _⟩
 ·exact ⟨(g.x.at 0).sub (h.x.at 0),(g.y.at 0).sub (h.y.at 0)⟩
theorem Wd.laid {B C:Nat}{A A':Yd} (h:Wd B A) (g:Wd C A') (w:Bool × Nat):Wd (B+(C+B)) (laid w A A'):=(h.bring w).shift (pP (h.bring w) g).1 (pP (h.bring w) g).2
theorem cP {B:Nat}{q:Rat} (h:Fr 45360 B q) (hB:B≤10 ^ 300):Bq q:=h.bq (by decide) (by decide +kernel) (Nat.lt_of_le_of_lt hB (by decide +kernel))
theorem Wd.bq {B:Nat}{A:Yd} (h:Wd B A) (hB:B≤10 ^ 300):BqL A.ws∧BqL A.us:=⟨fun w hw=>cP (h.x w hw) hB,fun w hw=>cP (h.y w hw) hB⟩
theorem Wd.mono {B C:Nat}{A:Yd} (h:Wd B A) (hB:B≤C):Wd C A:=⟨fun w hw=>(h.x w hw).mono hB,fun w hw=>(h.y w hw).mono hB,h.lx,h.ly⟩
def aM0:Ct:=fun ds M k=>∃ a b:Rat,ds=[bA a,bA b]∧Bq a∧Bq b∧Bq (a+b)∧k (bA (Rat.divInt 1 2 * (a+b))) M
def aDN:Ct:=fun ds M k=>∃ (A:Yd) (w:Bool × Nat),ds=[yd A,rH w]∧Wd (10 ^ 100) A∧w.2 < 4∧k (yd (bring w A)) M
def aJR:Ct:=fun ds M k=>∃ A B:Yd,ds=[yd A,yd B]∧Wd (10 ^ 100) A∧Wd (10 ^ 100) B∧k (.tup [bA (jU A B),bA (jQ A B)]) M
def aJJ:Ct:=fun ds M k=>∃ (A B:Yd) (w:Bool × Nat),ds=[yd A,yd B,rH w]∧Wd (10 ^ 100) A∧Wd (10 ^ 100) B∧w.2 < 4∧k (yd (laid w A B)) M
def aFY:Ct:=fun ds M k=>∃ (A:Yd),ds=[yd A]∧A≠Yd.void∧BqL A.ws∧BqL A.us∧(∀ a b,a∈A.ws→b∈A.ws→Bq (a+b))∧(∀ a b,a∈A.us→b∈A.us→Bq (a+b))∧A.ws.length≤90∧A.us.length≤90∧∀ a:Nat,a+1 < A.ws.length→1 < A.us.length→R.bH A.K (a:Int) 0=true→k (.tup [bA (mid A.ws a),bA (mid A.us 0)]) M
structure Ptg (A B:Yd) (p:Rat × Rat × Nat):Prop where
 w:p.2.2=0∧About A p.1 p.2.1 true∧About B p.1 p.2.1 false∨p.2.2=1∧About B p.1 p.2.1 true∧About A p.1 p.2.1 false
 x:Fr 90720 (10 ^ 200) p.1
 y:Fr 90720 (10 ^ 200) p.2.1
def p3D (p:Rat × Rat × Nat):D := .tup [bA p.1,bA p.2.1, .int (p.2.2:Int)]
def aF0:Ct:=fun ds M k=>∃ A B:Yd,ds=[yd A,yd B]∧Wd (10 ^ 110) A∧Wd (10 ^ 110) B∧A≠B∧∀ p,Ptg A B p→k (p3D p) M
noncomputable def fnd (A B:Yd):Option (Bool × Nat):=WYS.find? fun w=>decide (laid w A B=B)
theorem aGS {A B:Yd}{i:Nat}{w:Bool × Nat} (h:∀ (j:Nat) v,j < i→WYS[j]?=some v→laid v A B≠B) (hw:WYS[i]?=some w) (e:laid w A B=B):fnd A B=some w:=by
 unfold fnd
 rw [List.find?_eq_some_iff_getElem]
 obtain ⟨hi,ew⟩:=List.getElem?_eq_some_iff.mp hw
 exact ⟨decide_eq_true e,i,hi,ew,fun j hj=>by rw [decide_eq_false (h j _ hj (List.getElem?_eq_getElem (by omega)))]; rfl⟩
theorem aGT {A B:Yd} (h:∀ (j:Nat) v,j < 8→WYS[j]?=some v→laid v A B≠B):fnd A B=none:=by
 unfold fnd
 rw [List.find?_eq_none]
 intro w hw
 obtain ⟨j,hj,e⟩:=List.getElem_of_mem hw
 rw [decide_eq_true_eq]
 exact h j w hj (by rw [List.getElem?_eq_getElem hj,e])
theorem aD1 {w:Bool × Nat} (h:w∈WYS):w.2 < 4:=by
 revert w
 decide
def aMY:Ct:=fun ds M k=>∃ A B:Yd,ds=[yd A,yd B]∧Wd (10 ^ 50) A∧Wd (10 ^ 50) B∧(∀ w,fnd A B=some w→k (.tup [.str "same", .int (w.2:Int), .bl w.1,bA (jU (bring w A) B),bA (jQ (bring w A) B)]) M) ∧
 (fnd A B=none→∀ (a:Addr) (ps:List (Rat × Rat × Nat)),M a=none→ps.length=8→(∀ (i:Nat) w p,WYS[i]?=some w→ps[i]?=some p→Ptg (laid w A B) B p)→k (.tup [.str "unlike", .mt a]) (cF M a (.lst (ps.map p3D))))
def top (i:Nat):Stmt:=PySem.Challenge.pw_roofridges_k47_likeness_told.main.body.getD i (.Pass ⟨0,0,0,0⟩)
abbrev f8:Stmt:=top 2
abbrev n5:Stmt:=top 3
abbrev sZ:Stmt:=top 4
abbrev qG:Stmt:=top 5
abbrev qJ:Stmt:=top 6
abbrev qC:Stmt:=top 7
abbrev nW:Stmt:=top 8
abbrev tD:Stmt:=top 9
abbrev oK:Stmt:=top 12
abbrev l7:Stmt:=top 13
abbrev mI:Stmt:=top 14
abbrev oU:Stmt:=top 15
abbrev n9:Stmt:=top 16
abbrev kX:Stmt:=top 17
abbrev kS:Stmt:=top 18
abbrev kW:Stmt:=top 20
abbrev kU:Stmt:=top 21
abbrev pS:Stmt:=top 22
abbrev nS:Stmt:=top 23
abbrev kZ:Stmt:=top 24
abbrev j7:Stmt:=top 26
abbrev jB:Stmt:=top 27
abbrev jD:Stmt:=top 28
abbrev oH:Stmt:=top 29
abbrev tK:Stmt:=top 30
abbrev l6:Stmt:=top 33
abbrev mF:Stmt:=top 34
abbrev mE:Stmt:=top 35
abbrev hU:Stmt:=top 36
abbrev mH:Stmt:=top 37
abbrev kR:Stmt:=top 38
abbrev r9:Stmt:=top 40
abbrev tF:Stmt:=top 41
abbrev oW:Stmt:=top 42
abbrev qE:Stmt:=top 43
abbrev p6:Stmt:=top 44
abbrev mV:Stmt:=top 45
abbrev oN:Stmt:=top 46
abbrev sN:Stmt:=top 47
abbrev pV:Stmt:=top 48
abbrev qA:Stmt:=top 49
abbrev qB:Stmt:=top 50
abbrev n6:Stmt:=top 51
abbrev k7:Stmt:=top 52
abbrev sQ:Stmt:=top 53
abbrev l9:Stmt:=top 54
abbrev p8:Stmt:=top 55
abbrev j6:Stmt:=top 56
abbrev qP:Stmt:=top 57
abbrev mC:Stmt:=top 58
abbrev tG:Stmt:=top 59
abbrev r8:Stmt:=top 60
abbrev p5:Stmt:=top 61
abbrev qH:Stmt:=top 62
section
variable {P:Program}{w:World}{K:PySem.W.Frag}{mg:Str→Option Value}{base:Heap}
theorem nK:FnScope ["_law_script", "_law_k", "_law_cell", "_law_great"] ["_law_script", "_law_k"] (aQ r9):=⟨rfl,rfl,rfl,by decide +kernel,rfl,by decide +kernel,by decide +kernel⟩
abbrev aEU (P w K mg base):=Fo P w K mg base "_law_feed" r9 ["_law_script", "_law_k"] 1 aNF
theorem aJA {f:Addr}{fd:FuncData} (Df:R.Df K mg "_law_feed" r9 ["_law_script", "_law_k"] f fd) (T:Bt mg):aEU P w K mg base:=by
 refine ⟨f,fd,Df,bK Df nK (fun ds M k h => ?_) (fun cdv A outer s H E hr ds M k h => ?_)⟩
 ·obtain ⟨ns,i,rfl,_⟩:=h; rfl
 obtain ⟨ns,i,rfl,hi,hi2,hk⟩:=h
 refine aH (aP 2 nK.nd (ge_int (aH (eA (fun Γ' M'=>M'=M∧∃ c:Int,Γ'=[some (.fl (ns.map .int)),some (.int i),some (.int c),none]) ?_ ?_))))
 ·refine cA (bD jG (aD 1 rfl (bB bI T.len PySem.boot_len (aC (aD 0 rfl (aE (cH (.fl _) (eQ ⟨_,rfl,(ite2 (fun hb => ?_) (fun hb => ?_))⟩))))))))
  ·have hb':=of_decide_eq_true hb
   rw [List.length_map] at hb'
   obtain ⟨z,hz⟩:=aF3 (ns:=ns) hi hb'
   exact aL (aP 2 nK.nd (aG aF (aD 0 rfl (aD 1 rfl (aI (.fl _) hz ⟨rfl,_,rfl⟩)))))
  ·exact bU ⟨rfl,_,rfl⟩
 rintro Γ' M' ⟨rfl,c,rfl⟩
 refine aH (aP 3 nK.nd (bB rW T.abs PyProof.Rows.boot_abs (aC (aD 2 rfl (aE (yQ (aH (eA (fun Γ' M1=>M1=M'∧∃ g:Int,0≤g∧Γ'=[some (.fl (ns.map .int)),some (.int i),some (.int c),some (.int g)]) ?_ ?_))))))))
 ·refine cA (bD jG (aD 3 rfl (aK sC (ge_int (ge_int (bR ⟨by decide,by decide,by decide⟩ (eQ ⟨_,rfl,(ite2 (fun hb => ?_) (fun hb => ?_))⟩)))))))
  ·exact aL (aP 3 nK.nd (ge_int ⟨rfl,0,by omega,rfl⟩))
  ·exact bU ⟨rfl,_,by split <;> omega,rfl⟩
 rintro Γ' M' ⟨rfl,g,hg,rfl⟩
 refine aL (aT (iY ?_))
 have hm:=Int.emod_nonneg c (show (2147483399:Int)≠0 by decide)
 have hm2:=Int.emod_lt_of_pos c (show (0:Int) < 2147483399 by decide)
 refine aC (aD 3 rfl (aC (aK fF (aK b5 (aK b5 (aK gP (aK fF (aD 2 rfl (ge_int (bR (show (0:Int) < _ by first | decide | omega) (ge_int (bR (by first | exact .inl ⟨by omega,by omega⟩ | exact .inr ⟨by omega,by omega⟩) (aK gP (ge_int (aD 1 rfl (bR (by first | exact .inl ⟨by omega,by omega⟩ | exact .inr ⟨by omega,by omega⟩) (bP (ge_int (bP (ge_int (bR (show (0:Int) < _ by first | decide | omega) (aC (ge_int (aE ⟨(show 3≤sizeLine by decide),fun p hp=>(hk p _ hp ((Le.refl _).upd hp) ⟨g,_,0,aZ,hg,?_,?_,by omega,by omega⟩)⟩))))))))))))))))))))))))
 ·exact Int.emod_nonneg _ (by decide)
 ·exact Int.emod_lt_of_pos _ (by decide)
theorem fM:FnScope ["one", "other", "rest"] ["one", "other"] (aQ f8):=⟨rfl,rfl,rfl,by decide +kernel,rfl,by decide +kernel,by decide +kernel⟩
abbrev lS (P w K mg base):=Fo P w K mg base "common_divisor" f8 ["one", "other"] 1 aA4
theorem qR {f:Addr}{fd:FuncData} (Df:R.Df K mg "common_divisor" f8 ["one", "other"] f fd) (T:Bt mg):lS P w K mg base:=by
 refine ⟨f,fd,Df,bK Df fM (fun ds M k h => ?_) (fun cdv A outer s H E hr ds M k h => ?_)⟩
 ·obtain ⟨a,b,rfl,_⟩:=h; rfl
 obtain ⟨a,b,rfl,hk⟩:=h
 refine aH (r6 (fun m Γ' M'=>M'=M∧∃ (x y:Int) (v:Option D),Γ'=[some (.int x),some (.int y),v]∧Int.gcd x y=Int.gcd a b∧m=y.natAbs) (n:=b.natAbs) ⟨rfl,a,b,_,rfl,rfl,rfl⟩ ?_)
 rintro m Γ' M' ⟨rfl,x,y,v,rfl,hg,rfl⟩
 refine bD jK (aD 1 rfl (ge_int (nJ ⟨_,rfl,(ite2 (fun hb => ?_) (fun hb => ?_))⟩)))
 ·have hy:y≠0:=fun z=>by subst z; simp at hb
  refine aH (aP 2 fM.nd (aK aAY (aD 0 rfl (aD 1 rfl (bR hy (aH (aP 0 fM.nd (aD 1 rfl (aL (aP 1 fM.nd (aD 2 rfl ⟨_,Num.aAQ x y hy,rfl,_,_,_,rfl,?_,rfl⟩)))))))))))
  rw [Num.xP]; exact hg
 ·have hy:y=0:=by simpa using hb
  subst hy
  refine aL (aT (bB rW T.abs PyProof.Rows.boot_abs (aC (aD 0 rfl (aE (yQ ?_))))))
  rw [R.aAV,hg]
  exact hk
end
end Q
namespace L2
open PySem PySem.Spec PyProof.Rows
theorem picked_rev (z:Str):(Builtin.Str.strSliceIndices none none (-1) z.length).filterMap (z.cps[·]?)=z.cps.toList.reverse:=by
 rw [show Builtin.Str.strSliceIndices none none (-1) z.length=(List.range z.cps.size).reverse by rw [← PySem.W.krv_range,← PySem.W.krv_sliceRange]; rfl,List.filterMap_reverse,PySem.W.krv_all]
section
variable {X:Cx}
theorem aH7 {e:Expr}{te:TE}{j:Nat}{p1 p2 p3 pos:Pos} (he:PE X e te):PE X (.Subscript e (.Slice none none (some (.UnaryOp .USub (.Constant (.int 1) j p1) p3)) p2) pos) (fun σ H Q=>te σ H fun x H1=>∃ z:Str,x = .str z∧z.length≤sizeLine∧Q (.str (R.cM z)) H1):=by
 intro pins s σ H Q I h
 refine Subscript_ (thn (he pins s σ H _ I h) fun v s1 ⟨x,H1,I1,r1,q1⟩ => ?_)
 obtain ⟨z,rfl,hz,q⟩:=q1
 obtain ⟨tz,rfl⟩:=r1
 refine wpAny_Slice ?_
 rw [evalPart_none]
 refine wpAny_pure (wpAny_pure ?_)
 rw [evalPart_some]
 have hneg:PE X (.UnaryOp .USub (.Constant (.int 1) j p1) p3) (tUn (rU fun i => .int (-i)) (tC (.int 1))):=wG dH tT
 refine thn (hneg pins s1 σ H1 (fun x H'=>x = .int (-1)∧H'=H1) I1 ⟨1,rfl,rfl,rfl⟩) fun u s2 ⟨y,H2,I2,r2,e1,e2⟩ => ?_
 subst e1 e2
 obtain ⟨t,rfl⟩:=r2
 have I4:Inv X pins σ H2 { s2 with heap:=s2.heap.push { cls := .type "slice", data := .fields #[.none, .none, .int (-1) t] } }:=I2.kept (t':=s2.toks) fun b ob q=>Heap.get?_push_of_some _ q
 show wpAny (model X.prog X.w) X.A (subscriptTail e _ (.str z tz) (.ref s2.heap.objs.size)) (EP X pins σ Q) X.xe { s2 with heap:=s2.heap.push { cls := .type "slice", data := .fields #[.none, .none, .int (-1) t] } }
 refine tail_any (ops:=[.str z tz, .ref s2.heap.objs.size]) (typeIs_str _ z tz) slot_str_getitem.lookup ?_ (by with_unfolding_all rfl)
 refine wpAny_getItem_str_slice (l:=none) (u:=none) (st:=some (-1,t)) ⟨_,Heap.get?_push_size _ rfl,rfl,rfl⟩ rfl ?_
 unfold sliceMade slicePicked
 rw [if_neg (by simp)]
 show (Made.str ⟨((Builtin.Str.strSliceIndices none none (-1) z.length).filterMap (z.cps[·]?)).toArray⟩).post _ _
 rw [picked_rev]
 refine ⟨?_, .str (R.cM z),H2,I4.tok _,⟨_,rfl⟩,q⟩
 show z.cps.toList.reverse.toArray.size≤sizeLine
 rw [List.size_toArray,List.length_reverse,Array.length_toList]
 exact hz
end
end L2
namespace Z
open PySem L2
theorem uM {X:Cx}{Γ:Gm}{M:Mem}{k:D→Mem→Prop}{e:Expr}{j:Nat}{p1 p2 p3 pos:Pos} (h:GE X e Γ M fun d M1=>∃ z:Str,d = .str z∧z.length≤sizeLine∧k (.str (R.cM z)) M1):GE X (.Subscript e (.Slice none none (some (.UnaryOp .USub (.Constant (.int 1) j p1) p3)) p2) pos) Γ M k:=fun σ G H Q en rl q=>by
 refine cU (aH7 pU) ?_
 refine h σ G H _ en rl fun v G1 H1 d M1 s1 e1 ⟨z,ed,hz,h1⟩ => ?_
 subst ed
 exact ⟨z,e1.str_,hz,q _ _ _ _ _ s1 fQ h1⟩
end Z
namespace L2
open PySem PySem.Spec PyProof.Rows
section
variable {X:Cx}{pos:Pos}
theorem aJ0 {i j l:Nat}{x y z:Str}{a b c:Expr}{ta:TA}{px py pz pt:Pos}{kt k2 pt2} (hc:X.calm=true) (hN:X.N.Nodup) (hi:X.N[i]?=some x) (hj:X.N[j]?=some y) (hl:X.N[l]?=some z) (hij:i≠j) (hil:i≠l) (hjl:j≠l)
  (hx:X.env.scope.names.lookup x=some .local) (hy:X.env.scope.names.lookup y=some .local) (hz:X.env.scope.names.lookup z=some .local) (ha:PA X [a,b,c] ta)
  (hw:swappedStores [.Tuple [.Name x px, .Name y py, .Name z pz] kt pt] (.Tuple [a,b,c] k2 pt2) X.env=pure (some [x,y,z]))
  (hs:swapsWithSole [.Tuple [.Name x px, .Name y py, .Name z pz] kt pt] (.Tuple [a,b,c] k2 pt2) pos.line X.env=pure false:=by rfl) :
  PS X (.Assign [.Tuple [.Name x px, .Name y py, .Name z pz] kt pt] (.Tuple [a,b,c] k2 pt2) pos) (fun D σ H=>ta σ H fun vs H1=>∃ v w u,vs=[v,w,u]∧D.nx (((σ.set i (some v)).set j (some w)).set l (some u)) H1):=by
 intro pins s σ H D I h
 rw [exec_Assign_arm]
 refine wpAny_bind (wpAny_standAt ?_)
 rw [hs]
 refine wpAny_bind (wpAny_pure ?_)
 rw [if_neg (by decide)]
 refine wpAny_bind (Tuple_ (thn (ha _ pins s σ H _ I h) fun us s1 ⟨vs,H1,I1,r1,q1⟩ => ?_))
 obtain ⟨v,w,u,e1,q1⟩:=q1
 subst e1
 obtain ⟨u1,u2,u3,rfl,rv,rw',ru⟩:∃ u1 u2 u3,us=[u1,u2,u3]∧RelV v u1∧RelV w u2∧RelV u u3:=by
  cases r1 with
  | cons p q =>
   cases q with
   | cons p' q' =>
    cases q' with
    | cons p'' q'' =>
     cases q''
     exact ⟨_,_,_,rfl,p,p',p''⟩
 refine wpAny_newObj_type ?_ (by show 3≤sizeLine; decide)
 have I2:Inv X pins σ H1 { s1 with heap:=s1.heap.push { cls := .type "tuple", data := .seq [u1,u2,u3].toArray } }:=I1.kept (t':=s1.toks) fun b o e=>Heap.get?_push_of_some _ e
 rw [hw]
 refine wpAny_bind (wpAny_pure ?_)
 show wpAny (model X.prog X.w) X.A (do rule "assign.swapped-stores"; let items ← unpackItems (.ref s1.heap.objs.size) 3 none; assignInOrder [fun v=>bindName X.env z v,fun v=>bindName X.env y v,fun v=>bindName X.env x v] items.reverse; pure Flow.next) _ _ _
 refine wpAny_bind (wpAny_rule (wpAny_bind (unpackItems_tuple (items := #[u1,u2,u3]) (I.ok.hd hc) (IsTup.new s1.heap _) fun h' hx' => ?_)))
 have I3:=I2.kept (h':=h') (t':=s1.toks) fun b o e=>hx' b o (Nat.ne_of_lt (Heap.lt_size e)) e
 show wpAny _ _ (assignInOrder [fun v=>bindName X.env z v,fun v=>bindName X.env y v,fun v=>bindName X.env x v] [u3,u2,u1] >>= fun _=>pure Flow.next) _ _ _
 refine wpAny_bind (assignInOrder_cons (wpAny_bindName (iP I3 hN hl (.inl hz) ru (fun s2 I4 => ?_) (.inr hz))))
 refine assignInOrder_cons (wpAny_bindName (iP I4 hN hj (.inl hy) rw' (fun s3 I5 => ?_) (.inr hy)))
 refine assignInOrder_cons (wpAny_bindName (iP I5 hN hi (.inl hx) rv (fun s4 I6=>assignInOrder_nil (wpAny_pure ?_)) (.inr hx)))
 rw [List.set_comm _ _ (Ne.symm hij),List.set_comm _ _ (Ne.symm hil),List.set_comm _ _ (Ne.symm hjl)] at I6
 exact ⟨_,H1,I6,q1⟩
end
end L2
namespace Z
open PySem L2
section
variable {X:Cx}{Γ:Gm}{M:Mem}{F:Fin}{a b c:Expr}{pos:Pos}
theorem aKK (i j l:Nat) {x y z:Str}{px py pz pt:Pos}{kt k2 pt2} (hN:X.N.Nodup) (hij:i≠j∧i≠l∧j≠l) (h:GA X [a,b,c] Γ M fun ds M1=>∃ d1 d2 d3,ds=[d1,d2,d3]∧F.nx (((Γ.set i (some d1)).set j (some d2)).set l (some d3)) M1) (hi:X.N[i]?=some x:=by rfl) (hj:X.N[j]?=some y:=by rfl) (hl:X.N[l]?=some z:=by rfl)
  (hx:X.env.scope.names.lookup x=some .local:=by rfl) (hy:X.env.scope.names.lookup y=some .local:=by rfl) (hz:X.env.scope.names.lookup z=some .local:=by rfl) (hc:X.calm=true:=by rfl)
  (hw:swappedStores [.Tuple [.Name x px, .Name y py, .Name z pz] kt pt] (.Tuple [a,b,c] k2 pt2) X.env=pure (some [x,y,z]):=by rfl)
  (hs:swapsWithSole [.Tuple [.Name x px, .Name y py, .Name z pz] kt pt] (.Tuple [a,b,c] k2 pt2) pos.line X.env=pure false:=by rfl) :
  G1 X (.Assign [.Tuple [.Name x px, .Name y py, .Name z pz] kt pt] (.Tuple [a,b,c] k2 pt2) pos) Γ M F:=fun σ G H E en rl q=>by
 refine iF (aJ0 hc hN hi hj hl hij.1 hij.2.1 hij.2.2 hx hy hz pUA hw hs) ?_
 refine h σ G H _ en rl fun vs G1 H1 ds M1 s1 e1 ⟨d1,d2,d3,ed,h1⟩ => ?_
 subst ed
 obtain ⟨v,r,rfl,dv,e2⟩:=bX e1
 obtain ⟨w,u,rfl,dw,du⟩:=dens2 e2
 exact ⟨v,w,u,rfl,q.nx _ _ _ _ _ s1 ((((en.up s1.gg).set dv i).set dw j).set du l) h1⟩
end
end Z
set_option exponentiation.threshold 500
namespace Q
open PySem L2 Z U
section
variable {ws us:List Rat}{zs:List Str} (u:Up ws) (v:Up us) (g:R.Good (ws.length - 1) zs) (hz:zs.length=us.length - 1)
theorem rQ (h:R.aR zs=[]):jJ [] [] []=yd (Yd.ofG ws us zs u v g hz):=by
 obtain ⟨h1,h2⟩:=R.pR (fun z hz=>(g z hz).1) h
 rw [← uG u v g hz]
 unfold p0 R.cV
 rw [h1,h2]
 rfl
theorem rG (h:R.aR zs≠[]):jJ (kT (aO ws) (R.chg (R.aJ (R.aR zs)))) (kT (aO us) (R.chg zs)) (R.aJ (R.aR (R.aJ (R.aR zs))))=yd (Yd.ofG ws us zs u v g hz):=by
 rw [← uG u v g hz,R.mG (fun z hz=>(g z hz).1) h,R.lV g h]
 rfl
end
theorem aEX {bt a:Int} (hb:0 < bt):jC bt a=bA (Rat.divInt a bt):=by
 rw [← rV hb]
 have g0:(0:Int)≤((Int.gcd a bt:Nat):Int):=by omega
 unfold jC lowG pairD
 rw [Int.fdiv_eq_ediv_of_nonneg _ g0,Int.fdiv_eq_ediv_of_nonneg _ g0]
def lnQ (bt:Int) (ats:List Int):List Rat:=ats.map fun a=>Rat.divInt a bt
theorem u7 {bt:Int} (hb:0 < bt) (ats:List Int):ats.map (jC bt)=aO (lnQ bt ats):=by
 unfold aO lnQ
 rw [List.map_map]
 exact List.map_congr_left fun a _=>aEX hb
theorem Ats.pos {bt:Int}{ats:List Int} (h:Ats bt ats):0 < bt:=by rcases h.bt with e | e | e <;> omega
theorem aNC {a b c:Int} (hc:0 < c) (h:a < b):Rat.divInt a c < Rat.divInt b c:=by
 rw [Rat.divInt_eq_div,Rat.divInt_eq_div,Rat.div_def,Rat.div_def]
 have p:(0:Rat) < (c:Rat):=by exact_mod_cast hc
 have q:(0:Rat) < (c:Rat)⁻¹:=Rat.inv_pos.mpr p
 have:(a:Rat) < (b:Rat):=by exact_mod_cast h
 exact Rat.mul_lt_mul_of_pos_right this q
theorem Ats.upQ {bt:Int}{ats:List Int} (h:Ats bt ats):Up (lnQ bt ats):=by
 unfold lnQ
 exact List.pairwise_map.mpr (h.up.imp fun q=>aNC h.pos q)
theorem Ats.fr {bt:Int}{ats:List Int} (h:Ats bt ats):FrL 45360 (10 ^ 20) (lnQ bt ats):=fun w hw=>by
 obtain ⟨a,ha,rfl⟩:=List.mem_map.mp hw
 have bd:=h.bd a ha
 have key:∀ c:Nat,bt * c=45360→Fr 45360 (10 ^ 20) (Rat.divInt a bt):=fun c hc=>by
  refine ⟨a * c,?_,?_⟩
  ·have p:=h.pos
   have nz:(bt:Rat)≠0:=by
    have:(0:Rat) < (bt:Rat):=by exact_mod_cast p
    grind
   rw [show ((45360:Nat):Rat)=(bt:Rat) * (c:Rat) by rw [← Rat.intCast_natCast c,← Rat.intCast_mul,hc]; rfl,Rat.divInt_eq_div,← Rat.mul_assoc,Rat.div_mul_cancel nz,Rat.intCast_mul,Rat.intCast_natCast]
  ·rw [Int.natAbs_mul,Int.natAbs_natCast]
   have c1:c≤45360:=by rcases h.bt with e | e | e <;> subst e <;> omega
   refine Nat.le_trans (Nat.mul_le_mul (show a.natAbs≤10000000000 by omega) c1) (by decide)
 rcases h.bt with e | e | e <;> subst e
 ·exact key 45360 (by decide)
 ·exact key 22680 (by decide)
 ·exact key 5040 (by decide)
theorem xR {ws us:List Rat}{zs:List Str}{B:Nat} (u:Up ws) (v:Up us) (g:R.Good (ws.length - 1) zs) (hz:zs.length=us.length - 1) (hx:FrL 45360 B ws) (hy:FrL 45360 B us) (lx:ws.length≤25) (ly:us.length≤25):Wd B (Yd.ofG ws us zs u v g hz) :=
 ⟨fun w hw=>hx w ((Yd.ofG_ws u v g hz).1 w hw),fun w hw=>hy w ((Yd.ofG_ws u v g hz).2 w hw),Nat.le_trans (kJ (Yd.uw _) (Yd.ofG_ws u v g hz).1) lx,Nat.le_trans (kJ (Yd.uu _) (Yd.ofG_ws u v g hz).2) ly⟩
def aC7:Ct:=fun ds M k=>∃ (A:Yd) (n:Nat) (b:Bool),ds=[yd A, .int (n:Int), .bl b]∧Wd (10 ^ 100) A∧n < 4∧k (yd (bring (b,n) A)) M
theorem uA (ds:List D):eqD (.tup ds) (.tup [])=decide (ds=[]):=by
 cases ds <;> rfl
theorem yX (A:Yd):aO A.ws=[]↔A=Yd.void:=by
 rw [eJ]
 constructor
 ·intro h
  rcases A.big with e | e
  ·exact e
  ·have:(aO A.ws).length=0:=by rw [h]; rfl
   rw [aY] at this
   omega
 ·intro h
  have e:=(eJ A).mpr h
  rw [e]
  rfl
def aMB:Ct:=fun ds M k=>∃ (A B:Yd) (n:Nat) (b:Bool),ds=[yd A,yd B, .int (n:Int), .bl b]∧Wd (10 ^ 100) A∧Wd (10 ^ 100) B∧n < 4∧k (.lst [yd (laid (b,n) A B),bA (jU (bring (b,n) A) B),bA (jQ (bring (b,n) A) B)]) M
def aIK:Ct:=fun ds M k=>∃ (p:Addr) (b most:Int),ds=[.mt p, .int most]∧1≤most∧most≤11∧FdM M p b∧b≤100000∧∀ (A:Yd) M',Wd (10 ^ 20) A→FdM M' p (b+1000)→cY p M M'→k (yd A) M'
end Q
set_option exponentiation.threshold 500
namespace Q
open PySem L2 Z U
theorem aHY (a b:Rat):decide ((pq a).1 * (pq b).2≤(pq b).1 * (pq a).2)=decide (a≤b):=by
 unfold pq
 rw [decide_eq_decide]
 exact (Rat.le_iff a b).symm
theorem sH {ws:List Rat}{k:Int} (h0:0≤k) (h:k < ws.length):atI (aO ws) k=some (bA (ws.getD k.toNat 0)):=by
 have:=jO (ws:=ws) (i:=k.toNat) (by omega)
 rwa [Int.toNat_of_nonneg h0] at this
theorem pick2i (k:Int) (c:Bool):atI [D.int k,D.int (-1)] (if c then 1 else 0)=some (.int (if c=true then -1 else k)):=by cases c <;> rfl
def TbL (ws:List Rat) (x:Rat) (ks:List Int):Prop:=ks.length≤ws.length+1∧∀ e∈ks,∃ k,Tb ws x k∧e=if k=(ws.length:Int) - 1 then -1 else k
def aC3:Ct:=fun ds M k=>∃ (ws:List Rat) (x:Rat),ds=[.tup (aO ws),bA x]∧ws.length≤90∧BqL ws∧Bq x∧∀ ks,TbL ws x ks→k (.lst (ks.map .int)) M
def sgD (c:Bool):D := .str ⟨#[R.sg c]⟩
def aJ8:Ct:=fun ds M k=>∃ (A:Yd) (x y:Rat) (c:Bool),ds=[yd A,bA x,bA y]∧A.ws.length≤90∧A.us.length≤90∧BqL A.ws∧BqL A.us∧Bq x∧Bq y∧About A x y c∧∀ n,k (.lst (List.replicate n (sgD c))) M
theorem aFK {A:Yd}{x y:Rat}{c:Bool} (h:About A x y c) {r q:Int} (hr:∃ k,Tb A.us y k∧r=if k=(A.us.length:Int) - 1 then -1 else k) (hq:∃ k,Tb A.ws x k∧q=if k=(A.ws.length:Int) - 1 then -1 else k) (o:¬ (0≤r∧0≤q)):c=false:=by
 obtain ⟨l,tl,el⟩:=hr
 obtain ⟨k,tk,ek⟩:=hq
 rw [← h.cells tk tl]
 obtain ⟨l0,l1,_,_⟩:=tl
 obtain ⟨k0,k1,_,_⟩:=tk
 obtain ⟨hw,hK⟩:=A.wide
 by_cases a:0≤r
 ·have b:¬ 0≤q:=fun z=>o ⟨a,z⟩
  split at ek
  ·by_cases z:k < 0
   ·exact R.dC z
   ·exact lY hw (by omega)
  ·exact R.dC (by omega)
 ·split at el
  ·by_cases z:l < 0
   ·exact R.dW z
   ·exact R.fJ (by omega)
  ·exact R.dW (by omega)
theorem aKY {A:Yd}{x y:Rat}{c:Bool} (h:About A x y c) {r q:Int} (hr:∃ k,Tb A.us y k∧r=if k=(A.us.length:Int) - 1 then -1 else k) (hq:∃ k,Tb A.ws x k∧q=if k=(A.ws.length:Int) - 1 then -1 else k) (o:0≤r∧0≤q):∃ z,atI (A.K.map D.str) r=some (.str z)∧z.length=A.ws.length - 1∧atI z.cps.toList q=some (R.sg c):=by
 obtain ⟨l,tl,el⟩:=hr
 obtain ⟨k,tk,ek⟩:=hq
 have hc:=h.cells tk tl
 obtain ⟨l0,l1,_,_⟩:=tl
 obtain ⟨k0,k1,_,_⟩:=tk
 obtain ⟨hw,hK⟩:=A.wide
 have nl:¬ l=(A.us.length:Int) - 1:=by intro z; rw [if_pos z] at el; omega
 have nk:¬ k=(A.ws.length:Int) - 1:=by intro z; rw [if_pos z] at ek; omega
 rw [if_neg nl] at el
 rw [if_neg nk] at ek
 subst el ek
 obtain ⟨o1,o2⟩:=o
 have hl:r.toNat < A.K.length:=by omega
 have hz:=List.getElem?_eq_getElem hl
 generalize A.K[r.toNat]=z at hz
 have zl:=hw z (List.mem_of_getElem? hz)
 have hq:q.toNat < z.length:=by omega
 have g:=R.nL A.T.good.1 (List.mem_of_getElem? hz) (j:=q.toNat) (by omega)
 rw [R.fI o1 o2 hz (R.dQ hq)] at hc
 refine ⟨z,?_,zl,?_⟩
 ·have:atI (A.K.map D.str) ((r.toNat:Nat):Int)=some (.str z):=cW (by rw [List.getElem?_map,hz]; rfl)
  rwa [Int.toNat_of_nonneg o1] at this
 ·have:=R.j8 hq
  rw [Int.toNat_of_nonneg o2] at this
  rw [this,← hc]
  rcases g with e | e <;> rw [e] <;> rfl
def aI6:Ct:=fun ds M k=>∃ q:Rat,ds=[bA q]∧k (.bl true) M
def aK3:Ct:=fun ds M k=>∃ (A B:Yd) (p:Rat × Rat × Nat),ds=[yd A,yd B,p3D p]∧Wd (10 ^ 110) A∧Wd (10 ^ 110) B∧Ptg A B p∧k (.bl true) M
theorem qL (n:Nat) (c:Bool) (s:Str) (h:(⟨#[R.sg c]⟩:Str)≠s):(List.replicate n (sgD c)).any (fun x=>eqD x (.str s))=false:=by
 rw [List.any_eq_false]
 intro d hd
 rw [List.eq_of_mem_replicate hd]
 show ¬ decide ((⟨#[R.sg c]⟩:Str)=s)=true
 rw [decide_eq_true_eq]
 exact h
theorem sI (n m:Nat) (c:Bool):okDs m (List.replicate n (sgD c))=true:=by
 induction n with
 | zero=>rfl
 | succ n ih=>rw [List.replicate_succ]; show (okD m (sgD c) && _)=true; rw [ih]; cases m <;> rfl
end Q
namespace PySem
open Builtin PyProof.Rows
abbrev itB (t:Bool):String:=if t then "tuple_iterator" else "list_iterator"
abbrev aCO (t:Bool) (h:Heap) (l1:Addr):Heap:=h.push { cls := .type (itB t),data := .fields #[.ref l1, .int 0 0] }
abbrev aCF (t u:Bool) (h:Heap) (l1 l2:Addr):Heap:=(aCO t h l1).push { cls := .type (itB u),data := .fields #[.ref l2, .int 0 0] }
abbrev aBH (t u:Bool) (h:Heap) (l1 l2:Addr):Heap:=(aCF t u h l1 l2).push { cls := .type "tuple", data := .seq #[.ref h.objs.size, .ref (aCO t h l1).objs.size] }
abbrev aB6 (t u:Bool) (h:Heap) (l1 l2:Addr):Heap:=(aBH t u h l1 l2).push { cls := .type "tuple", data := .seq #[.none, .none] }
abbrev rM (t u:Bool) (h:Heap) (l1 l2:Addr):Heap:=(aB6 t u h l1 l2).push { cls := .type "zip", data := .fields #[.none, .bool false, .bool false, .ref (aCF t u h l1 l2).objs.size, .ref (aBH t u h l1 l2).objs.size] }
def PlC (t:Bool) (h:Heap) (a:Addr) (its:Array Value):Prop:=if t then h.IsTuple a its else h.IsList a its
theorem PlC.push {t:Bool}{h:Heap}{a:Addr}{its:Array Value} (q:PlC t h a its) (o:Obj):PlC t (h.push o) a its:=by
 cases t
 ·exact Heap.IsList.push q o
 ·exact Heap.IsTuple.push q o
theorem aHX {t:Bool}{prog:Program}{w:World}{A:Around}{E:Value→Shared→Prop}{s:Shared}{a:Addr}{its:Array Value}{Q:Value→Shared→Prop} (h:PlC t s.heap a its) (hq:Q (.ref s.heap.objs.size) { s with heap:=s.heap.push { cls := .type (itB t),data := .fields #[.ref a, .int 0 0] } }):wpAny (model prog w) A (pyIter (.ref a)) Q E s:=by
 cases t
 ·exact wpAny_pyIter_list h hq
 ·exact wpAny_pyIter_tuple h hq
theorem aEM (t u:Bool) (l1 l2:Addr) (xs ys:Array Value) :
  Meets (Builtin.«zip.__new__» ⟨[.type "zip", .ref l1, .ref l2],[]⟩) (fun _ R s=>PlC t s.heap l1 xs∧PlC u s.heap l2 ys ∧
   R (.ok (.ret (.ref (aB6 t u s.heap l1 l2).objs.size))) { s with heap:=rM t u s.heap l1 l2 }) :=
 .of_wp fun prog w A R s h=>by
  obtain ⟨hp,g,d,tk,os⟩:=s; obtain ⟨hl1,hl2,h⟩:=h
  have hsub:=sub_zip
  have hL1:PlC t (Shared.heap ⟨hp,g,d,tk,os⟩) l1 xs:=hl1
  have hL2:PlC u (Shared.heap ⟨hp.push { cls := .type (itB t),data := .fields #[.ref l1, .int 0 0] },g,d,tk,os⟩) l2 ys:=PlC.push hl2 _
  wp_walk using aHX hL1,aHX hL2
  exact ⟨_,rfl,h⟩
end PySem
namespace L2
open PySem PySem.Spec PyProof.Rows
def SqC (t:Bool) (K:PySem.W.Frag) (H:Hp) (a:Addr) (xs:List V):Prop:=if t then SqT K H a xs else SqL K H a xs
def jI (t:Bool) (h:Heap) (it a:Addr) (i:Nat):Prop:=if t then h.IsTupleIter it a i else h.IsListIter it a i
theorem jI.get {t:Bool}{h:Heap}{it a:Addr}{i:Nat} (q:jI t h it a i):∃ o,h.get? it=some o∧(o.cls ≠ .type "list" ∧ o.cls ≠ .type "tuple")∧∀ v,o.data ≠ .cell v:=by
 cases t <;> obtain ⟨o,e,c,d⟩:=q <;> exact ⟨o,e,⟨by rw [c]; simp,by rw [c]; simp⟩,fun v z=>by rw [d] at z; cases z⟩
theorem jI.keep {t:Bool}{h h':Heap}{it a:Addr}{i:Nat} (q:jI t h it a i) (k:∀ o,h.get? it=some o→h'.get? it=some o):jI t h' it a i:=by
 cases t <;> obtain ⟨o,e,r⟩:=q <;> exact ⟨o,k o e,r⟩
theorem aKJ {h:Heap}{a b:Addr}{its:Array Value}{o:Obj} (hl:h.IsTuple a its) (ho:h.get? b=some o) (hc:o.cls ≠ .type "tuple"):a≠b:=fun z=>by
 obtain ⟨o1,e1,c1,_⟩:=hl
 rw [z,ho] at e1; cases e1
 exact hc c1
theorem aMP {t:Bool}{h:Heap}{a:Addr}{its:Array Value} (q:PlC t h a its):∃ o,h.get? a=some o:=by
 cases t <;> obtain ⟨o,e,_⟩:=q <;> exact ⟨o,e⟩
theorem nC {t:Bool}{h:Heap}{a b:Addr}{its:Array Value}{o:Obj} (q:PlC t h a its) (ho:h.get? b=some o) (hc:o.cls ≠ .type "list" ∧ o.cls ≠ .type "tuple"):a≠b:=by
 cases t
 ·exact g8 q ho hc.1
 ·exact aKJ q ho hc.2
theorem wX {t:Bool}{X:Cx}{pins:List (Addr × Obj)}{σ:St}{H:Hp}{s:Shared}{a:Addr}{xs:List V} (I:Inv X pins σ H s) (h:SqC t X.K H a xs):∃ its:List Value,Vals xs its∧PlC t s.heap a its.toArray:=by
 cases t
 ·obtain ⟨its,r,p,_⟩:=I.list h; exact ⟨its,r,p.isList⟩
 ·obtain ⟨its,r,p,_⟩:=I.tuple h; exact ⟨its,r,p⟩
theorem injC {t:Bool}{X:Cx}{pins:List (Addr × Obj)}{σ:St}{H:Hp}{s:Shared}{a:Addr}{xs ys:List V} (I:Inv X pins σ H s) (h:SqC t X.K H a xs) (h':SqC t X.K H a ys):xs=ys:=by
 cases t
 ·exact I.list_inj h h'
 ·exact I.tuple_inj h h'
theorem sqC {t:Bool}{K:PySem.W.Frag}{H H':Hp}{a:Addr}{xs:List V} (e:Same H H') (h:SqC t K H a xs):SqC t K H' a xs:=by
 cases t
 ·exact e.seq h
 ·exact R.eE e h
theorem yF {t:Bool}{prog:Program}{w:World}{A:Around} (hh:A.handled=none) (iq a:Addr) (hne:a≠iq) (its:Array Value):Draws prog w A iq [iq,a] its.size (fun i v=>its[i]?=some v) (fun i h=>jI t h iq a i∧PlC t h a its):=by
 cases t
 ·exact Draws.list hh iq a hne its
 ·exact Draws.tup hh iq a hne its
theorem aAK {t:Bool}{h:Heap}{it a:Addr} (e:h.get? it=some { cls := .type (itB t),data := .fields #[.ref a, .int 0 0] }):jI t h it a 0:=by
 cases t <;> exact ⟨_,e,rfl,rfl⟩
theorem aEK (t u:Bool) {prog:Program}{w:World}{A:Around}{E:Value→Shared→Prop}{s:Shared}{l1 l2:Addr}{xs ys:Array Value}{Q:Value→Shared→Prop} (h1:PlC t s.heap l1 xs) (h2:PlC u s.heap l2 ys)
  (h:∀ h',IsZip h' (s.heap.objs.size+4) (s.heap.objs.size+2) (s.heap.objs.size+3) .none→IsPair h' (s.heap.objs.size+2) (.ref s.heap.objs.size) (.ref (s.heap.objs.size+1)) →
   IsPair h' (s.heap.objs.size+3) .none .none→jI t h' s.heap.objs.size l1 0→jI u h' (s.heap.objs.size+1) l2 0→h'.objs.size=s.heap.objs.size+5 →
   (∀ c o,s.heap.get? c=some o→h'.get? c=some o)→Q (.ref (s.heap.objs.size+4)) { s with heap:=h' }) :
  wpAny (model prog w) A (call (.type "zip") [.ref l1, .ref l2]) Q E s:=by
 refine callType_new F.called_zip (by decide) (F.typeCall_zip_2 _ _) (F.newCall_zip_2 _ _) (fun obj=>F.args_object_init_3 obj _ _) F.entry_zip_new
  (aEM t u l1 l2 xs ys) ⟨h1,h2,?_⟩
 have z1:(aCO t s.heap l1).objs.size=s.heap.objs.size+1:=Heap.size_push ..
 have z2:(aCF t u s.heap l1 l2).objs.size=s.heap.objs.size+2:=by rw [Heap.size_push,z1]
 have z3:(aBH t u s.heap l1 l2).objs.size=s.heap.objs.size+3:=by rw [Heap.size_push,z2]
 have z4:(aB6 t u s.heap l1 l2).objs.size=s.heap.objs.size+4:=by rw [Heap.size_push,z3]
 have z5:(rM t u s.heap l1 l2).objs.size=s.heap.objs.size+5:=by rw [Heap.size_push,z4]
 have g5:(rM t u s.heap l1 l2).get? (aB6 t u s.heap l1 l2).objs.size=some _:=Heap.get?_push_size _ rfl
 have g4:(rM t u s.heap l1 l2).get? (aBH t u s.heap l1 l2).objs.size=some _:=Heap.get?_push_of_some _ (Heap.get?_push_size _ rfl)
 have g3:(rM t u s.heap l1 l2).get? (aCF t u s.heap l1 l2).objs.size=some _:=Heap.get?_push_of_some _ (Heap.get?_push_of_some _ (Heap.get?_push_size _ rfl))
 have g2:(rM t u s.heap l1 l2).get? (aCO t s.heap l1).objs.size=some _:=Heap.get?_push_of_some _ (Heap.get?_push_of_some _ (Heap.get?_push_of_some _ (Heap.get?_push_size _ rfl)))
 have g1:(rM t u s.heap l1 l2).get? s.heap.objs.size=some _:=Heap.get?_push_of_some _ (Heap.get?_push_of_some _ (Heap.get?_push_of_some _ (Heap.get?_push_of_some _ (Heap.get?_push_size _ rfl))))
 show _∧_
 rw [z2,z3,z4] at g5
 rw [z1,z2] at g3
 rw [z3] at g4
 rw [z1] at g2
 rw [z4]
 exact ⟨⟨_,g5,rfl⟩,h _ g5 g3 g4 (aAK g1) (aAK g2) z5 fun c o x =>
  Heap.get?_push_of_some _ (Heap.get?_push_of_some _ (Heap.get?_push_of_some _ (Heap.get?_push_of_some _ (Heap.get?_push_of_some _ x))))⟩
end L2
namespace L2
open PySem PySem.Spec PyProof.Rows
section
variable {X:Cx}
def Izc (t u:Bool) (K:PySem.W.Frag) (a b:Addr):It:=⟨fun i H=>∃ xs ys x y,SqC t K H a xs∧SqC u K H b ys∧xs[i]?=some x∧ys[i]?=some y,fun i H v H'=>∃ T x y,H T=none∧v = .ref T∧H'=upd H T (.tup [x,y])∧(∀ xs,SqC t K H a xs→xs[i]?=some x)∧(∀ ys,SqC u K H b ys→ys[i]?=some y),fun i H=>∃ xs,SqC t K H a xs∧xs.length=i⟩
theorem aEN {P:Program}{w:World}{K:PySem.W.Frag}{elts:List Expr}{kk:Nat}{tp:Pos} (t u:Bool) (a b z TI TO i1 i2:Addr) (ap0:ZAp z TI TO i1 i2 [i1] [i2]) (hTT:TI≠TO∧TI≠i1∧TI≠i2) (hTab:a≠TO∧b≠TO) :
  Turn P w K (.Tuple elts kk tp) (Izc t u K a b) [z,TI,TO,i1,i2] z (fun i h=>IsZip h z TI TO .none∧IsPair h TI (.ref i1) (.ref i2)∧(∃ a b,IsPair h TO a b)∧jI t h i1 a i∧jI u h i2 b i) where
 mem:=by simp
 obj:=fun i h st b hb=>by
  obtain ⟨hz,hTI,⟨a1,b1,hTO⟩,hi1,hi2⟩:=st
  obtain ⟨o1,ho1,hc1,hd1⟩:=hi1.get
  obtain ⟨o2,ho2,hc2,hd2⟩:=hi2.get
  simp only [List.mem_cons,List.not_mem_nil,or_false] at hb
  rcases hb with rfl | rfl | rfl | rfl | rfl
  ·exact ⟨_,hz,fun v q=>by cases q⟩
  ·exact ⟨_,hTI,fun v q=>by cases q⟩
  ·exact ⟨_,hTO,fun v q=>by cases q⟩
  ·exact ⟨o1,ho1,fun v q=>hd1 v q⟩
  ·exact ⟨o2,ho2,fun v q=>hd2 v q⟩
 keep:=fun i h h' st k=>by
  obtain ⟨hz,hTI,⟨a1,b1,hTO⟩,hi1,hi2⟩:=st
  exact ⟨k z (by simp) _ hz,k TI (by simp) _ hTI,⟨a1,b1,k TO (by simp) _ hTO⟩,hi1.keep (k i1 (by simp)),hi2.keep (k i2 (by simp))⟩
 item:=by
  intro X hP hw hK hc i pins s σ H E I hf st hg
  subst hP hw hK
  obtain ⟨hz,hTI,⟨a1,b1,hTO⟩,hi1,hi2⟩:=st
  obtain ⟨xs,ys,x,y,hqx,hqy,hx,hy⟩:=hg
  obtain ⟨itx,rvx,ptx⟩:=wX I hqx
  obtain ⟨ity,rvy,pty⟩:=wX I hqy
  obtain ⟨o1,ho1,hc1,hd1⟩:=hi1.get
  obtain ⟨o2,ho2,hc2,hd2⟩:=hi2.get
  have n1:∀ {t a its},PlC t s.heap a its→a≠z∧a≠i1∧a≠i2:=fun hl=>⟨nC hl hz ⟨by simp,by simp⟩,nC hl ho1 hc1,nC hl ho2 hc2⟩
  have na:=n1 ptx
  have nb:=n1 pty
  have ap:ZAp z TI TO i1 i2 [i1,a] [i2,b]:=⟨ap0.TIz,ap0.TOz,ap0.i1z,ap0.i2z,ap0.TOi1,ap0.TOi2,ap0.i12,
   fun c hc=>by
    rcases List.mem_cons.mp hc with rfl | hc
    ·exact ap0.f1 _ (by simp)
    ·rw [List.mem_singleton] at hc; subst hc; exact ⟨na.1,hTab.1,na.2.2⟩,
   fun c hc=>by
    rcases List.mem_cons.mp hc with rfl | hc
    ·exact ap0.f2 _ (by simp)
    ·rw [List.mem_singleton] at hc; subst hc; exact ⟨nb.1,hTab.2,nb.2.1⟩⟩
  have D1:=yF (t:=t) (prog:=X.prog) (w:=X.w) (A:=X.A.in1) (I.ok.hd hc) i1 a na.2.1 itx.toArray
  have D2:=yF (t:=u) (prog:=X.prog) (w:=X.w) (A:=X.A.in1) (I.ok.hd hc) i2 b nb.2.2 ity.toArray
  have l1:i < itx.toArray.size:=by rw [List.size_toArray,← rvx.length]; exact (List.getElem?_eq_some_iff.mp hx).1
  have l2:i < ity.toArray.size:=by rw [List.size_toArray,← rvy.length]; exact (List.getElem?_eq_some_iff.mp hy).1
  refine mX D1 D2 ap hz hTI hTO ⟨hi1,ptx⟩ ⟨hi2,pty⟩ l1 l2 fun p q h1 tk hp hq hz1 hTO1 hs1 hs2 hT hsz hk => ?_
  obtain ⟨u,hu,ru⟩:=rvx.get hx
  obtain ⟨v,hv,rv⟩:=rvy.get hy
  have ep:p=u:=by
   have e3:itx[i]?=some p:=by simpa using hp
   rw [hu] at e3; exact (Option.some.inj e3).symm
  have eq:q=v:=by
   have e3:ity[i]?=some q:=by simpa using hq
   rw [hv] at e3; exact (Option.some.inj e3).symm
  subst ep eq
  refine ⟨_,rfl,wpAny_letOwnedTupleGo_zip hz1 fun h2 hz2 hs => ?_⟩
  have lz:=Heap.lt_size hz
  have lTO:=Heap.lt_size hTO
  have lTI:=Heap.lt_size hTI
  have li1:=Heap.lt_size ho1
  have li2:=Heap.lt_size ho2
  have up:∀ b o,b≠z→h1.get? b=some o→h2.get? b=some o:=fun b o n e=>hs.extBut _ _ n e
  have tup2:h2.get? s.heap.objs.size=some { cls := .type "tuple", data := .seq #[p,q] }:=up _ _ (Nat.ne_of_gt lz) hT
  have k2:∀ b ob,b ∉ [z,TI,TO,i1,i2]→s.heap.get? b=some ob→h2.get? b=some ob:=fun b ob hb q=>by
   simp only [List.mem_cons,List.not_mem_nil,or_false,not_or] at hb
   exact up b ob hb.1 (hk b ob hb.1 hb.2.2.1 hb.2.2.2.1 hb.2.2.2.2 q)
  have I2:Inv X pins σ (upd H s.heap.objs.size (.tup [x,y])) { s with heap:=h2,toks:=tk }:=I.turnedT k2 hf (Nat.le_refl _) ⟨(show 2≤sizeLine by decide),[p,q], .cons ru (.cons rv .nil),_,tup2,rfl,0,rfl⟩
  have hn:H s.heap.objs.size=none:=I.hok.fresh (Nat.le_refl _)
  refine ⟨.ref s.heap.objs.size,_,I2,rfl,⟨s.heap.objs.size,x,y,hn,rfl,rfl,fun xs' q'=>by rw [injC I q' hqx]; exact hx,fun ys' q'=>by rw [injC I q' hqy]; exact hy⟩,⟨hz2,up _ _ ap.TIz (hk _ _ ap.TIz hTT.1 hTT.2.1 hTT.2.2 hTI),⟨_,_,up _ _ ap.TOz hTO1⟩,?_,?_⟩,fun b hb => ?_⟩
  ·exact hs1.1.keep (fun o=>up _ _ ap.i1z)
  ·exact hs2.1.keep (fun o=>up _ _ ap.i2z)
  ·rw [bL (fun e => ?_)]
   ·exact (hf b hb).1
   ·simp only [List.mem_cons,List.not_mem_nil,or_false] at hb
    rcases hb with y | y | y | y | y <;> rw [y] at e
    ·exact absurd e (Nat.ne_of_lt lz)
    ·exact absurd e (Nat.ne_of_lt lTI)
    ·exact absurd e (Nat.ne_of_lt lTO)
    ·exact absurd e (Nat.ne_of_lt li1)
    ·exact absurd e (Nat.ne_of_lt li2)
 done:=by
  intro X hP hw hK hc i pins s σ H E I hf st hg
  subst hP hw hK
  obtain ⟨hz,hTI,⟨a1,b1,hTO⟩,hi1,hi2⟩:=st
  obtain ⟨xs,hqx,hlen⟩:=hg
  obtain ⟨itx,rvx,ptx⟩:=wX I hqx
  obtain ⟨o1,ho1,hc1,hd1⟩:=hi1.get
  obtain ⟨o2,ho2,hc2,hd2⟩:=hi2.get
  have n1:∀ {t a its},PlC t s.heap a its→a≠z∧a≠i1∧a≠i2:=fun hl=>⟨nC hl hz ⟨by simp,by simp⟩,nC hl ho1 hc1,nC hl ho2 hc2⟩
  have na:=n1 ptx
  have ap:ZAp z TI TO i1 i2 [i1,a] [i2]:=⟨ap0.TIz,ap0.TOz,ap0.i1z,ap0.i2z,ap0.TOi1,ap0.TOi2,ap0.i12,
   fun c hc=>by
    rcases List.mem_cons.mp hc with rfl | hc
    ·exact ap0.f1 _ (by simp)
    ·rw [List.mem_singleton] at hc; subst hc; exact ⟨na.1,hTab.1,na.2.2⟩,ap0.f2⟩
  have D1:=yF (t:=t) (prog:=X.prog) (w:=X.w) (A:=X.A.in1) (I.ok.hd hc) i1 a na.2.1 itx.toArray
  have hn:itx.toArray.size=i:=by rw [List.size_toArray,← rvx.length]; exact hlen
  subst hn
  refine nZ D1 ap hz hTI ⟨hi1,ptx⟩ fun h2 hx=>⟨rfl,I.turnedL (t':=s.toks) (ch:=[z,i1]) (fun b ob hb q=>hx b ob (fun e=>hb (by simp [e])) (fun e=>hb (by simp [e])) q) fun b hb=>hf b ?_⟩
  simp only [List.mem_cons,List.not_mem_nil,or_false] at hb
  rcases hb with y | y <;> rw [y] <;> simp
 self:=fun A i s Q E st h=>wpAny_pyIter_zip st.1 h
def aNB (t u:Bool) (K:PySem.W.Frag) (ta:TA):TI:=fun σ H R=>ta σ H fun vs H1=>∃ a b xs ys,vs=[.ref a, .ref b]∧SqC t K H1 a xs∧SqC u K H1 b ys∧R (Izc t u K a b) H1
theorem aIG (t u:Bool) {elts:List Expr}{kk:Nat}{tp:Pos}{a b:Expr}{ta:TA}{p pos:Pos} (hg:Gl X "zip") (hm:X.mg "zip" = none) (hv:bootBuiltins "zip" = some (.type "zip")) (ha:PA X [a,b] ta) (hs:starEach [a,b] X.env=[(false,eval a X.env),(false,eval b X.env)]:=by rfl) (hs2:starEach [b] X.env=[(false,eval b X.env)]:=by rfl) :
  PI X (.Tuple elts kk tp) (.Call (.Name "zip" p) [a,b] [] pos) (aNB t u X.K ta):=by
 intro pins s σ H R I h
 refine Call_ (iB I hg hm hv (PyProof.Rows.callWith_type1 (thn (ha pos pins s σ H _ I h) fun us s1 ⟨vs,H1,I1,r1,q1⟩ => ?_) (by rw [hs,hs2]) (by rw [hs2]; rfl)))
 obtain ⟨c,d,xs,ys,e,hqx,hqy,q⟩:=q1
 subst e
 obtain ⟨v1,v2,rfl,ru1,ru2⟩:=vals2 r1
 cases ru1
 cases ru2
 obtain ⟨itx,rvx,ptx⟩:=wX I1 hqx
 obtain ⟨ity,rvy,pty⟩:=wX I1 hqy
 have ltn:∀ {t a its},PlC t s1.heap a its→a≠s1.heap.objs.size+3:=fun hl=>by
  obtain ⟨o,e⟩:=aMP hl
  exact Nat.ne_of_lt (Nat.lt_add_right 3 (Heap.lt_size e))
 refine aEK t u ptx pty fun h' hz hTI hTO h1 h2 hsz hk => ?_
 have I2:Inv X pins σ H1 { s1 with heap:=h' }:=I1.kept (t':=s1.toks) hk
 refine wpAny_pyIter_zip hz ?_
 refine ⟨_,[s1.heap.objs.size+4,s1.heap.objs.size+2,s1.heap.objs.size+3,s1.heap.objs.size,s1.heap.objs.size+1],_,Izc t u X.K c d,H1,rfl,I2,aEN t u c d (s1.heap.objs.size+4) (s1.heap.objs.size+2) (s1.heap.objs.size+3) s1.heap.objs.size (s1.heap.objs.size+1) (uI _) (rT _) ⟨ltn ptx,ltn pty⟩,⟨hz,hTI,⟨_,_,hTO⟩,h1,h2⟩,fun c hc => ?_,q⟩
 have hle:s1.heap.objs.size≤c:=by
  simp only [List.mem_cons,List.not_mem_nil,or_false] at hc
  rcases hc with h | h | h | h | h <;> rw [h] <;> first | exact Nat.le_refl _ | exact Nat.le_add_right _ _
 exact I1.fpOk hle (I1.hok.fresh hle)
end
end L2
namespace Z
open PySem L2
section
variable {X:Cx}{Γ:Gm}{M:Mem}{k:D→Mem→Prop}{pos:Pos}{a b:Expr}{rest:List Expr}
theorem aK2 {t u:Bool}{K:Fg}{a b:Addr}{vs us:List V}{ds es:List D}{G0:Hp} (s1:SqC t K G0 a vs) (d1:Dens K G0 ds vs) (s2:SqC u K G0 b us) (d2:Dens K G0 es us) (hl:ds.length=es.length):YD K (Izc t u K a b) (d7 ds es) G0 where
 go:=fun i G H M sg rl h=>by
  unfold d7 at h
  rw [List.length_map,List.length_zip] at h
  have h1:=d1.len
  have h2:=d2.len
  exact ⟨vs,us,vs[i]'(by omega),us[i]'(by omega),sqC rl.same (sqC sg s1),sqC rl.same (sqC sg s2),List.getElem?_eq_getElem _,List.getElem?_eq_getElem _⟩
 yld:=fun i G H M v H' sg rl h z=>by
  obtain ⟨T,x,y,hT,rfl,rfl,hx,hy⟩:=z
  obtain ⟨c,hc,ec⟩:=d1.get' (hx vs (sqC rl.same (sqC sg s1)))
  obtain ⟨d,hd,ed⟩:=d2.get' (hy us (sqC rl.same (sqC sg s2)))
  have st:=rl.new (o := .tup [x,y]) hT
  refine ⟨_, .tup [c,d],st,?_,dN (SqT.of bQ) (bC ((ec.up sg).up st.gg) (bC ((ed.up sg).up st.gg) bV))⟩
  unfold d7
  have e:(ds.zip es)[i]?=some (c,d):=List.getElem?_zip_eq_some.mpr ⟨hc,hd⟩
  rw [List.getElem?_map,e]
  rfl
 stop:=fun i G H M sg rl h=>by
  unfold d7 at h
  rw [List.length_map,List.length_zip] at h
  have h1:=d1.len
  have h2:=d2.len
  exact ⟨vs,sqC rl.same (sqC sg s1),by omega⟩
def SqD (t:Bool) (xs:List D):D:=if t then .tup xs else .lst xs
theorem SqD.sq {t:Bool}{K:Fg}{G:Hp}{xs:List D}{v:V} (h:Den K G (SqD t xs) v):∃ c vs,v = .ref c∧SqC t K G c vs∧Dens K G xs vs:=by
 cases t
 ·obtain ⟨c,vs,ev,sv,dn⟩:=Den.lst_ h
  exact ⟨c,vs,ev,SqL.of sv,dn⟩
 ·exact Den.tup_ h
theorem aH9 (t u:Bool) {elts:List Expr}{kk:Nat}{tp p:Pos}{ki:List D→Mem→Prop} (hm:X.mg "zip" = none) (hv:bootBuiltins "zip" = some (.type "zip")) (h:GA X [a,b] Γ M fun ds M1=>∃ xs ys,ds=[SqD t xs,SqD u ys]∧xs.length=ys.length∧ki (d7 xs ys) M1) (hg:Gl X "zip" := by rfl)
  (hs:starEach [a,b] X.env=[(false,eval a X.env),(false,eval b X.env)]:=by rfl) (hs2:starEach [b] X.env=[(false,eval b X.env)]:=by rfl) :
  GI X (.Tuple elts kk tp) (.Call (.Name "zip" p) [a,b] [] pos) Γ M ki:=fun σ G H Rr en rl q=>by
 refine lI (aIG t u hg hm hv pUA hs hs2) ?_
 refine h σ G H _ en rl fun vs G1 H1 ds M1 s1 e1 ⟨xs,ys,ed,hl,h1⟩ => ?_
 subst ed
 obtain ⟨v,w,rfl,dv,dw⟩:=dens2 e1
 obtain ⟨c,vs,ev,sv,dn⟩:=SqD.sq dv
 obtain ⟨d,us,eu,su,dm⟩:=SqD.sq dw
 exact ⟨c,d,vs,us,by rw [ev,eu],sqC s1.rel.same sv,sqC s1.rel.same su,q _ _ _ _ _ s1 (aK2 sv dn su dm hl) h1⟩
end
end Z
namespace L2
open PySem PySem.Spec PyProof.Rows
section
variable {X:Cx}
theorem aJG {e:Expr}{te:TE}{j:Nat}{p1 p2 p3 pos:Pos} (he:PE X e te):PE X (.Subscript e (.Slice none none (some (.UnaryOp .USub (.Constant (.int 1) j p1) p3)) p2) pos) (fun σ H Q=>te σ H fun x H1=>∃ a xs,x = .ref a∧SqL X.K H1 a xs∧∀ p,H1 p=none→Q (.ref p) (upd H1 p (.lst xs.reverse))):=by
 intro pins s σ H Q I h
 refine Subscript_ (thn (he pins s σ H _ I h) fun v s1 ⟨x,H1,I1,r1,q1⟩ => ?_)
 obtain ⟨a,xs,rfl,hx,q⟩:=q1
 cases r1
 refine wpAny_Slice ?_
 rw [evalPart_none]
 refine wpAny_pure (wpAny_pure ?_)
 rw [evalPart_some]
 have hneg:PE X (.UnaryOp .USub (.Constant (.int 1) j p1) p3) (tUn (rU fun i => .int (-i)) (tC (.int 1))):=wG dH tT
 refine thn (hneg pins s1 σ H1 (fun x H'=>x = .int (-1)∧H'=H1) I1 ⟨1,rfl,rfl,rfl⟩) fun u s2 ⟨y,H2,I2,r2,e1,e2⟩ => ?_
 subst e1 e2
 obtain ⟨t,rfl⟩:=r2
 have I4:Inv X pins σ H2 { s2 with heap:=s2.heap.push { cls := .type "slice", data := .fields #[.none, .none, .int (-1) t] } }:=I2.kept (t':=s2.toks) fun b ob q=>Heap.get?_push_of_some _ q
 obtain ⟨its,r,ht,hz⟩:=I4.list hx
 have hlen:=r.length
 show wpAny (model X.prog X.w) X.A (subscriptTail e _ (.ref a) (.ref s2.heap.objs.size)) (EP X pins σ Q) X.xe { s2 with heap:=s2.heap.push { cls := .type "slice", data := .fields #[.none, .none, .int (-1) t] } }
 refine tail_any (ops:=[.ref a, .ref s2.heap.objs.size]) ht.isList.typeIs slot_list_getitem.lookup ?_ (by with_unfolding_all rfl)
 refine wpAny_getItem_list_slice ht.isList (Heap.IsSliceOf.new ..) .none .none (.int _ _) (by decide) ?_ (by rw [List.size_toArray]; omega)
 rw [PySem.W.krv_pick]
 refine ⟨.ref _,_,I4.laid (t':=s2.toks) (o := .lst xs.reverse) (fun b ob q=>Heap.get?_push_of_some _ q) (Nat.le_refl _) ?_,rfl,q _ (I4.hok.fresh (Nat.le_refl _))⟩
 exact ⟨by rw [List.length_reverse]; exact hz,_,0,r.reverse,Heap.get?_push_size _ rfl⟩
end
end L2
namespace Z
open PySem L2
theorem aJ4 {X:Cx}{Γ:Gm}{M:Mem}{k:D→Mem→Prop}{e:Expr}{j:Nat}{p1 p2 p3 pos:Pos} (h:GE X e Γ M fun d M1=>∃ ds,d = .lst ds∧k (.lst ds.reverse) M1):GE X (.Subscript e (.Slice none none (some (.UnaryOp .USub (.Constant (.int 1) j p1) p3)) p2) pos) Γ M k:=fun σ G H Q en rl q=>by
 refine cU (aJG pU) ?_
 refine h σ G H _ en rl fun v G1 H1 d M1 s1 e1 ⟨ds,ed,h1⟩ => ?_
 subst ed
 obtain ⟨a,vs,ev,sq,dn⟩:=e1.lst_
 refine ⟨a,vs,ev,SqL.of (s1.rel.same _ _ sq),fun p hp => ?_⟩
 have st:=s1.rel.new (o := .lst vs.reverse) hp
 exact q _ _ _ _ _ (s1.trans st) (fR bQ (dn.reverse.up st.gg)) h1
end Z
set_option exponentiation.threshold 500
namespace Z
open PySem L2
theorem aI2 {X:Cx}{Γ:Gm}{M:Mem}{k:D→Mem→Prop}{e:Expr}{u:D} (h:GE X e Γ M fun d M1=>∃ a ds M2,d = .tup [u, .mt a]∧M1 a=some (.lst ds)∧M2 a=none∧Le M2 M1∧k (.tup [u, .lst ds]) M2):GE X e Γ M k:=fun σ G H Q en rl q =>
 h σ G H Q en rl fun v G1 H1 d M1 s1 e1 ⟨a,ds,M2,ed,h1,h2,h3,h4⟩=>by
  subst ed
  obtain ⟨vs,x1,x2,st⟩:=s1.rel.frz h1
  have l:Le M2 (iQ M1 a):=fun b o z=>by rw [jR (fun y=>by rw [y,h2] at z; cases z)]; exact h3 b o z
  obtain ⟨c,ws,ev,sq,dn⟩:=e1.tup_
  obtain ⟨v1,r1,rfl,g1,dn⟩:=bX dn
  obtain ⟨v2,r2,rfl,g2,dn⟩:=bX dn
  have e3:=cG dn
  subst e3
  have ea:=g2.mt_
  subst ea
  exact q _ _ _ _ _ ((s1.trans st).trans (st.rel.drop l)) (by rw [ev]; exact dN (R.eE st.gg sq) (bC (g1.up st.gg) (bC (fR bQ (x2.up st.gg)) bV))) h4
theorem Ln.tup {M:Mem}{ds ds':List D} (h:Lns M ds ds'):Ln M (.tup ds) (.tup ds'):=fun K G H v rl e=>by
 obtain ⟨a,vs,ev,e1,e2⟩:=e.tup_
 rw [ev]
 exact dN (R.eE rl.loan_same e1) (h K G H vs rl e2)
end Z
namespace Q
open PySem L2 Z U
def aGL:Ct:=fun ds M k=>aIY ds M k∨ds=[.lst [], .lst []]∧k (.tup [.lst [], .lst []]) M
def aMG:Ct:=fun ds M k=>aM7 ds M k∨ds=[.lst [], .lst [], .lst []]∧k (jJ [] [] []) M
def Yd.last (A:Yd) (c:Rat) (hc:0 < c):Yd:=⟨A.ws.dropLast++(A.ws.getLast?.toList.map (· + c)),A.us,A.K,by
  cases h:A.ws.getLast? with
  | none=>rw [List.getLast?_eq_none_iff.mp h]; exact List.Pairwise.nil
  | some x =>
   have e:A.ws=A.ws.dropLast++[x]:=by
    have ne:A.ws≠[]:=fun z=>by rw [z] at h; cases h
    have e1:=List.dropLast_concat_getLast ne
    rw [List.getLast?_eq_some_getLast ne] at h
    rw [Option.some.inj h] at e1
    exact e1.symm
   have u:=A.uw
   unfold Up at u ⊢
   rw [e] at u
   rw [List.pairwise_append] at u
   show List.Pairwise (· < ·) (A.ws.dropLast++[x+c])
   rw [List.pairwise_append]
   refine ⟨u.1,by simp,fun a ha b hb => ?_⟩
   rw [List.mem_singleton] at hb
   have:=u.2.2 a ha x (by simp)
   grind,A.uu,by
  have:(A.ws.dropLast++(A.ws.getLast?.toList.map (· + c))).length=A.ws.length:=by
   cases h:A.ws.getLast? with
   | none=>rw [List.getLast?_eq_none_iff.mp h]; rfl
   | some x =>
    have:A.ws≠[]:=fun z=>by rw [z] at h; cases h
    have:=List.length_pos_iff.mpr this
    show (A.ws.dropLast++[x+c]).length=_
    rw [List.length_append,List.length_dropLast]
    show A.ws.length - 1+1=_
    omega
  rw [this]
  exact A.T⟩
theorem uR {A:Yd}{c:Rat} (hc:0 < c) (h:2≤A.ws.length):(Yd.last A c hc).ws=A.ws.dropLast++[A.ws.getD (A.ws.length - 1) 0+c]:=by
 have h1:A.ws.length - 1 < A.ws.length:=by omega
 have:A.ws.getLast?=some (A.ws.getD (A.ws.length - 1) 0):=by
  rw [List.getLast?_eq_getElem?,gD h1]
  exact List.getElem?_eq_getElem h1
 show A.ws.dropLast++(A.ws.getLast?.toList.map (· + c))=_
 rw [this]
 rfl
theorem Wd.last {B C:Nat}{A:Yd}{c:Rat} (hc:0 < c) (h:Wd B A) (g:Fr 45360 C c) (l:2≤A.ws.length):Wd (B+C) (Yd.last A c hc):=by
 refine ⟨fun w hw => ?_,fun w hw=>(h.y w hw).mono (by omega),?_,h.ly⟩
 ·rw [uR hc l] at hw
  rcases List.mem_append.mp hw with hw | hw
  ·exact (h.x w ((List.dropLast_sublist _).mem hw)).mono (by omega)
  ·rw [List.mem_singleton] at hw
   rw [hw]
   exact (h.x.at _).add g
 ·rw [uR hc l,List.length_append,List.length_dropLast]
  show A.ws.length - 1+1≤25
  have:=h.lx
  omega
theorem wO {n:Int} (hn:0 < n):D.tup [.int 1, .int n]=bA (Rat.divInt 1 n):=by
 rw [← rV hn]
 have:Int.gcd 1 n=1:=Int.one_gcd ..
 unfold lowG
 rw [this]
 rw [show ((1:Nat):Int)=1 from rfl,Int.fdiv_one,Int.fdiv_one]
 rfl
theorem p9 {n:Int} (h1:1≤n) (h9:n≤9):Fr 45360 (10 ^ 20) (Rat.divInt 1 n)∧0 < Rat.divInt 1 n:=by
 have:n=1∨n=2∨n=3∨n=4∨n=5∨n=6∨n=7∨n=8∨n=9:=by omega
 have key:∀ (n:Int) (c:Nat),0 < n→n * c=45360→Fr 45360 (10 ^ 20) (Rat.divInt 1 n)∧0 < Rat.divInt 1 n:=fun n c p hc=>by
  have pq:(0:Rat) < (n:Rat):=by exact_mod_cast p
  have nz:(n:Rat)≠0:=by grind
  refine ⟨⟨c,?_,?_⟩,?_⟩
  ·rw [show ((45360:Nat):Rat)=(n:Rat) * (c:Rat) by rw [← Rat.intCast_natCast c,← Rat.intCast_mul,hc]; rfl,Rat.divInt_eq_div,← Rat.mul_assoc,Rat.div_mul_cancel nz,Rat.intCast_natCast]
   exact Rat.one_mul _
  ·rw [Int.natAbs_natCast]
   have:c≤45360:=by
    have:(c:Int)≤n * c:=by
     have:=Int.mul_le_mul_of_nonneg_right (show 1≤n by omega) (show (0:Int)≤(c:Int) by omega)
     omega
    omega
   exact Nat.le_trans this (by decide)
  ·rw [Rat.divInt_eq_div,Rat.div_def]
   have:=Rat.inv_pos.mpr pq
   rw [show ((1:Int):Rat)=1 from rfl,Rat.one_mul]
   exact this
 rcases this with e | e | e | e | e | e | e | e | e <;> subst e
 ·exact key 1 45360 (by decide) (by decide)
 ·exact key 2 22680 (by decide) (by decide)
 ·exact key 3 15120 (by decide) (by decide)
 ·exact key 4 11340 (by decide) (by decide)
 ·exact key 5 9072 (by decide) (by decide)
 ·exact key 6 7560 (by decide) (by decide)
 ·exact key 7 6480 (by decide) (by decide)
 ·exact key 8 5670 (by decide) (by decide)
 ·exact key 9 5040 (by decide) (by decide)
theorem nP {k:Int} (h:k.natAbs≤10 ^ 10):Fr 45360 (10 ^ 20) (k:Rat):=Fr.int (Nat.le_trans (Nat.mul_le_mul_right _ h) (by decide +kernel))
def lnI (n:Nat):List Rat:=(List.range n).map fun (k:Nat)=>((k:Int):Rat)
theorem lA (n:Nat):(lnI n).length=n:=by unfold lnI; rw [List.length_map,List.length_range]
theorem nQ (n:Nat):Up (lnI n):=by
 unfold lnI Up
 rw [List.pairwise_map]
 refine List.pairwise_lt_range.imp fun {a b} h => ?_
 have:(a:Int) < (b:Int):=by omega
 exact_mod_cast this
theorem aEV {n:Nat} (h:n≤25):FrL 45360 (10 ^ 20) (lnI n):=fun w hw=>by
 obtain ⟨k,hk,rfl⟩:=List.mem_map.mp hw
 have:=List.mem_range.mp hk
 exact nP (by rw [Int.natAbs_natCast]; exact Nat.le_trans (show k≤25 by omega) (by decide))
def Yd.cell:Yd:=⟨[0,1],[0,1],[("#" : Str)],by unfold Up; simp; grind,by unfold Up; simp; grind,⟨.inr ⟨by simp,by decide +kernel,by decide +kernel,by intro z hz; rw [List.mem_singleton] at hz; rw [hz]; exact ⟨by decide +kernel,by decide +kernel⟩,rfl,by decide,by decide⟩⟩⟩
theorem aIA:Wd (10 ^ 20) Yd.cell:=by
 have:FrL 45360 (10 ^ 20) [(0:Rat),1]:=fun w hw=>by
  rcases List.mem_cons.mp hw with e | e
  ·rw [e]; exact Fr.zero _ _
  ·rw [List.mem_singleton.mp e]; exact nP (k:=1) (by decide)
 exact ⟨this,this,by decide,by decide⟩
theorem aFL {z:Str}{n c:Nat}{s:Nat} (hz:z.length=n∧z.cps.toList.all R.sgn=true) (hc:c < n) (hs:R.sgn s=true):(gT z none (some (c:Int))++⟨#[s]⟩++gT z (some ((c:Int)+1)) none).length=n∧(gT z none (some (c:Int))++⟨#[s]⟩++gT z (some ((c:Int)+1)) none).cps.toList.all R.sgn=true:=by
 obtain ⟨h1,h2⟩:=hz
 have e:z=R.ofL z.cps.toList:=rfl
 have ln:z.cps.toList.length=n:=by rw [Array.length_toList]; exact h1
 have e1:gT z none (some (c:Int))=R.ofL (z.cps.toList.take c):=aJE z.cps.toList c
 have e2:gT z (some ((c:Int)+1)) none=R.ofL (z.cps.toList.drop (c+1)):=aC2 z.cps.toList (c+1) (by omega)
 rw [e1,e2]
 have e3:(R.ofL (z.cps.toList.take c)++⟨#[s]⟩++R.ofL (z.cps.toList.drop (c+1)):Str).cps.toList=z.cps.toList.take c++[s]++z.cps.toList.drop (c+1):=by
  show ((R.ofL (z.cps.toList.take c)).cps ++ #[s]++(R.ofL (z.cps.toList.drop (c+1))).cps).toList=_
  rw [Array.toList_append,Array.toList_append]
  rfl
 constructor
 ·show Array.size _=n
  rw [← Array.length_toList,e3,List.length_append,List.length_append,List.length_take,List.length_drop]
  show min c z.cps.toList.length+1+_=n
  omega
 ·rw [e3,List.all_append,List.all_append,Bool.and_eq_true,Bool.and_eq_true]
  rw [List.all_eq_true] at h2
  refine ⟨⟨List.all_eq_true.mpr fun x hx=>h2 x (List.mem_of_mem_take hx),by simp [hs]⟩,List.all_eq_true.mpr fun x hx=>h2 x (List.mem_of_mem_drop hx)⟩
theorem aJX {n r:Nat}{zs:List Str}{z:Str} (g:R.Good n zs) (hz:z.length=n∧z.cps.toList.all R.sgn=true) (hr:r < zs.length):R.Good n (zs.take r++[z]++zs.drop (r+1))∧(zs.take r++[z]++zs.drop (r+1)).length=zs.length:=by
 constructor
 ·intro y hy
  rw [List.mem_append,List.mem_append,List.mem_singleton] at hy
  rcases hy with (hy | hy) | hy
  ·exact g y (List.mem_of_mem_take hy)
  ·rw [hy]; exact hz
  ·exact g y (List.mem_of_mem_drop hy)
 ·rw [List.length_append,List.length_append,List.length_take,List.length_drop]
  show min r zs.length+1+_=_
  omega
theorem aIV {ws:List Rat} (h:1≤ws.length):atI (aO ws) (-1)=some (bA (ws.getD (ws.length - 1) 0)):=by
 have e:aO ws=aO ws.dropLast++[bA (ws.getD (ws.length - 1) 0)]:=by
  have ne:ws≠[]:=fun z=>by rw [z] at h; cases h
  conv=>lhs; rw [← List.dropLast_concat_getLast ne]
  rw [← cJ,gD (by omega),List.getLast_eq_getElem]
  rfl
 rw [e]
 exact rY _ _
theorem aIW {A:Yd}{c:Rat} (hc:0 < c) (h:2≤A.ws.length):yd (Yd.last A c hc) = .tup [.tup (cutD (aO A.ws) none (some (-1))++[bA (A.ws.getD (A.ws.length - 1) 0+c)]), .tup (aO A.us), .tup (A.K.map .str)]:=by
 show jJ (aO (Yd.last A c hc).ws) _ _=_
 rw [uR hc h,← cJ,fE]
 unfold aO
 rw [List.map_dropLast]
 rfl
theorem aLI {zs:List Str}{y:Str}{r:Nat}:cutD (zs.map D.str) none (some (r:Int))++[D.str y]++cutD (zs.map D.str) (some ((r:Int)+1)) none=(zs.take r++[y]++zs.drop (r+1)).map D.str:=by
 rw [p7,xF,List.map_append,List.map_append,List.map_take,List.map_drop]
 rfl
theorem aI3 {zs:List D}{y:D}{r:Nat}:(cutD zs none (some (r:Int))++[y]).length+(cutD zs (some ((r:Int)+1)) none).length≤zs.length+1:=by
 rw [p7,xF,List.length_append,List.length_take,List.length_drop]
 show min r zs.length+1+_≤_
 omega
theorem pick246 {z:Int} (h0:0≤z) (h1:z < 3):∃ m:Int,atI [D.int 2, .int 4, .int 6] z=some (.int m)∧1≤m∧m≤11:=by
 have:z=0∨z=1∨z=2:=by omega
 rcases this with rfl | rfl | rfl
 ·exact ⟨2,rfl,by decide,by decide⟩
 ·exact ⟨4,rfl,by decide,by decide⟩
 ·exact ⟨6,rfl,by decide,by decide⟩
theorem small10 {z:Int} (h0:0≤z) (h1:z < 1000000000):(z - 500000000).natAbs≤10 ^ 10:=Nat.le_trans (show _≤1000000000 by omega) (by decide)
theorem small5 {z:Int} (h0:0≤z) (h1:z < 41):(z - 20).natAbs≤10 ^ 10:=Nat.le_trans (show _≤100 by omega) (by decide)
def aM1:Ct:=fun ds M k=>∃ (p:Addr) (b:Int) (A:Yd),ds=[.mt p,yd A]∧Wd (10 ^ 20) A∧FdM M p b∧b≤100000∧∀ (B:Yd) M',Wd (10 ^ 20) B→FdM M' p (b+1)→cY p M M'→k (yd B) M'
def aFW:Ct:=fun ds M k=>∃ (p:Addr) (b:Int) (A:Yd),ds=[.mt p,yd A]∧Wd (10 ^ 30) A∧FdM M p b∧b≤100000∧∀ (B:Yd) M',Wd (10 ^ 40) B→FdM M' p (b+3)→cY p M M'→k (yd B) M'
def aNK:Ct:=fun ds M k=>∃ (p:Addr),ds=[.mt p]∧FdM M p 0∧∀ (A B:Yd) M',Wd (10 ^ 50) A→Wd (10 ^ 50) B→cY p M M'→k (.lst [yd A,yd B]) M'
def Tells (A B:Yd) (d:D):Prop:=(∃ w,fnd A B=some w∧d = .tup [.str "same", .int (w.2:Int), .bl w.1,bA (jU (bring w A) B),bA (jQ (bring w A) B)]) ∨
 (fnd A B=none∧∃ ps:List (Rat × Rat × Nat),ps.length=8∧(∀ (i:Nat) w p,WYS[i]?=some w→ps[i]?=some p→Ptg (laid w A B) B p)∧d = .tup [.str "unlike", .lst (ps.map p3D)])
def aMN:Ct:=fun ds M k=>∃ (A B:Yd) (d:D),ds=[yd A,yd B,d]∧Wd (10 ^ 50) A∧Wd (10 ^ 50) B∧Tells A B d∧k (.bl true) M
def wyN (j:Nat):Bool × Nat:=(decide (3 < j),j % 4)
noncomputable def ldD (A B:Yd) (j:Nat):D := .lst [yd (laid (wyN j) A B),bA (jU (bring (wyN j) A) B),bA (jQ (bring (wyN j) A) B)]
theorem aGC {A B:Yd} (i:Nat):[yd A,yd B,D.int ((0+(i:Int)) % 4),D.bl (decide (0+(i:Int) > 3))]=[yd A,yd B, .int ((i % 4:Nat):Int), .bl (decide (3 < i))]:=by
 rw [Int.zero_add,show (i:Int) % 4=((i % 4:Nat):Int) by omega,decide_eq_decide.mpr (show (i:Int) > 3↔3 < i by omega)]
theorem yE {A B:Yd}{j:Nat} (h:j < 8):atI ((List.range 8).map (ldD A B)) (j:Int)=some (ldD A B j):=cW (by rw [List.getElem?_map,List.getElem?_range h]; rfl)
theorem aHU {A B:Yd}{j:Nat} (h:j < 8):atI ((List.range 8).map (ldD A B)) (0+(j:Int))=some (ldD A B j):=by rw [Int.zero_add]; exact yE h
theorem aL0 {j:Nat} (h:j < 8):WYS[j]?=some (wyN j):=by
 have:∀ j:Fin 8,WYS[j.val]?=some (wyN j.val):=by decide
 exact this ⟨j,h⟩
theorem aGY (l:List Nat):okD 1 (.lst (l.map fun (j:Nat)=>D.int (j:Int)))=true:=i8 fun d hd=>by obtain ⟨z,_,rfl⟩:=List.mem_map.mp hd; rfl
theorem sL (j:Nat) (rest:List Nat):atI ((j::rest).map fun (j:Nat)=>D.int (j:Int)) 0=some (.int (j:Int)):=cW (j:=0) rfl
theorem aHH:fnd Yd.void Yd.void=some (false,0):=by
 unfold fnd
 have:laid (false,0) Yd.void Yd.void=Yd.void:=Yd.ext' fun x y=>by
  unfold laid
  rw [Yd.shift_has]
  show Yd.has Yd.void _ _=_
  rw [Yd.void_has,Yd.void_has]
 exact List.find?_cons_of_pos (p:=fun w=>decide (laid w Yd.void Yd.void=Yd.void)) (decide_eq_true this)
theorem zV:WYS=(List.range 8).map wyN:=by decide
theorem aBP {A B:Yd}{w:Bool × Nat} (h:fnd A B=some w):∃ j rest,(List.range 8).filter (fun j=>decide (laid (wyN j) A B=B))=j::rest∧j < 8∧w=wyN j:=by
 unfold fnd at h
 rw [zV,List.find?_map] at h
 cases e:(List.range 8).filter (fun j=>decide (laid (wyN j) A B=B)) with
 | nil =>
  rw [List.filter_eq_nil_iff] at e
  rw [show (List.range 8).find? ((fun w=>decide (laid w A B=B)) ∘ wyN)=none from List.find?_eq_none.mpr fun x hx=>e x hx] at h
  cases h
 | cons j rest =>
  have e2:(List.range 8).find? (fun j=>decide (laid (wyN j) A B=B))=some j:=by rw [← List.head?_filter,e]; rfl
  refine ⟨j,rest,rfl,?_,?_⟩
  ·have:=List.mem_filter.mp (show j∈(List.range 8).filter _ by rw [e]; exact List.mem_cons_self ..)
   exact List.mem_range.mp this.1
  ·rw [show (List.range 8).find? ((fun w=>decide (laid w A B=B)) ∘ wyN)=some j from e2] at h
   exact (Option.some.inj h).symm
theorem zQ {A B:Yd} (h:fnd A B=none):(List.range 8).filter (fun j=>decide (laid (wyN j) A B=B))=[]:=by
 rw [List.filter_eq_nil_iff]
 unfold fnd at h
 rw [List.find?_eq_none] at h
 intro j hj
 exact h (wyN j) (by rw [zV]; exact List.mem_map_of_mem hj)
theorem aLE {M:Mem}{j:Nat}{x y:D}:Rs M (.tup [.str "same", .int ((j:Int) % 4), .bl (decide ((j:Int) > 3)),x,y]) (.tup [.str "same", .int ((wyN j).2:Int), .bl (wyN j).1,x,y]):=by
 rw [show (j:Int) % 4=((wyN j).2:Int) by show _=((j % 4:Nat):Int); omega,show decide ((j:Int) > 3)=(wyN j).1 from decide_eq_decide.mpr (by omega)]
 exact .tup _
theorem aMH {j:Nat}{x y:Rat} (hx:Fr 45360 (10 ^ 50+10 ^ 50) x) (hy:Fr 45360 (10 ^ 50+10 ^ 50) y):okD 3 (.tup [.str "same", .int ((wyN j).2:Int), .bl (wyN j).1,bA x,bA y])=true∧smD (.tup [.str "same", .int ((wyN j).2:Int), .bl (wyN j).1,bA x,bA y])=true∧wt (.tup [.str "same", .int ((wyN j).2:Int), .bl (wyN j).1,bA x,bA y])≤10000000:=by
 have b1:=hx.bd (by decide)
 have b2:=hy.bd (by decide)
 have k1:(10:Nat) ^ 50+10 ^ 50 < 10 ^ 65:=by decide +kernel
 have k2:(45360:Nat) < 10 ^ 65:=by decide +kernel
 have l:(reprText ("same" : Str)).length≤100:=by decide +kernel
 refine ⟨rfl,?_,?_⟩
 ·have w4:(wyN j).2 < 4:=by show j % 4 < 4; omega
  simp only [bA,pairD,pq,smD,smDs,Bool.and_true,Bool.true_and,Bool.and_eq_true,decide_eq_true_eq,Int.natAbs_natCast]
  exact ⟨by omega,⟨by omega,by omega⟩,by omega,by omega⟩
 ·simp only [bA,pairD,pq,wt,wts]
  omega
end Q
namespace Q
open PySem L2 Z
open U
section
variable {P:Program}{w:World}{K:PySem.W.Frag}{mg:Str→Option Value}{base:Heap}
theorem f6:FnScope ["_law_lines_here", "_law_some", "_law_blank", "_law_held", "_law_kept"] ["_law_lines_here", "_law_some"] (aQ mV):=⟨rfl,rfl,rfl,by decide +kernel,rfl,by decide +kernel,by decide +kernel⟩
abbrev uU (P w K mg base):=Fo P w K mg base "_law_tidied" mV ["_law_lines_here", "_law_some"] 1 aGL
theorem aBS {f:Addr}{fd:FuncData} (Df:R.Df K mg "_law_tidied" mV ["_law_lines_here", "_law_some"] f fd) (T:Bt mg):uU P w K mg base:=by
 refine ⟨f,fd,Df,bK Df f6 (fun ds M k h => ?_) (fun cdv A outer s H E hr ds M k h => ?_)⟩
 ·rcases h with ⟨xs,zs,n,rfl,_⟩ | ⟨rfl,_⟩ <;> rfl
 rcases h with ⟨xs,zs,n,rfl,hl,hn,hz,hx,hk⟩ | ⟨rfl,hk⟩
 rotate_left
 ·refine aH (aP 2 f6.nd (aK qN (ge_str (bB bI T.len PySem.boot_len (aC (aG aF (aK eO (aD 1 rfl (b7 (aC (ge_str (aE ⟨(show 1≤sizeLine by decide),(eP (.lst _) (.lst _) (show 1≤sizeLine by decide) (ge_int (aI (.lst _) rfl (aE (gY (by decide +kernel) (qI (by decide +kernel) (by decide +kernel) (by decide +kernel) (aH (aP 3 f6.nd (aK eO (aK eO (b7 (aC (aD 2 rfl (aE ⟨(show 1≤sizeLine by decide),(aD 1 rfl (eP (.lst _) (.lst _) (show 1≤sizeLine by decide) (b7 (aC ?_))))⟩))))))))))))))⟩))))))))))))
  refine aD 2 rfl (aE ⟨(show 1≤sizeLine by decide),(eP (.lst _) (.lst _) (show 2≤sizeLine by decide) (aH (eZ 4 ["_law_held"] [3] f6.nd (dD T.range (aC (bB bI T.len PySem.boot_len (aC (aD 0 rfl (aE (cH (.lst _) (aE ⟨_,rfl,by decide,by decide,?_⟩)))))))))))⟩)
  refine kY (ds:=jY 0 0) (by decide) (fun i acc M'=>M'=M∧acc=[]) ⟨rfl,rfl⟩ (fun i d acc M' hd=>nomatch hd) ?_
  rintro acc M' ⟨rfl,rfl⟩ a ha
  refine iC 4 rfl aZ ?_
  rw [fX ha]
  refine aL (aT (aS (aC ((bG ["_law_lines_here"] [0] (bS (aD 4 rfl ⟨_, .inr (.inl rfl),(b8 (ds:=[]) (by decide) (fun i acc M1=>M1=M'∧acc=[]) ⟨rfl,rfl⟩ (fun i d acc M' hd=>nomatch hd) ?_)⟩)))))))
  rintro acc M1 ⟨rfl,rfl⟩
  refine aC ((bG ["_law_held"] [3] (bS (c9 i6 (aD 4 rfl (dU (dM (fZ dH (ge_int ⟨_,rfl,⟨_,rfl,(kC (.lst _) ⟨_, .inr (.inl rfl),(b8 (ds:=[]) (by decide) (fun i acc M2=>M2=M1∧acc=[]) ⟨rfl,rfl⟩ (fun i d acc M' hd=>nomatch hd) ?_)⟩)⟩⟩)))))))))
  rintro acc M1 ⟨rfl,rfl⟩
  exact aE ⟨(show 2≤sizeLine by decide),hk⟩
 obtain ⟨z0,e0,l0,le0⟩:=wU hz hn
 refine aH (aP 2 f6.nd (aK qN (ge_str (bB bI T.len PySem.boot_len (aC (aG aF (aK eO (aD 1 rfl (b7 (aC (ge_str (aE ⟨(show 1≤sizeLine by decide),(eP (.lst _) (.lst _) (by rw [List.length_map]; exact R.aU (by simp only [List.length_cons,List.length_nil]; omega)) (ge_int (aI (.lst _) e0 (aE (gY (R.aU (by omega)) (qI (by omega) (by omega) (rK le0) ?_))))))⟩))))))))))))
 rw [Int.toNat_natCast,R.o7,wZ e0]
 refine aH (aP 3 f6.nd (aK eO (aK eO (b7 (aC (aD 2 rfl (aE ⟨(show 1≤sizeLine by decide),(aD 1 rfl (eP (.lst _) (.lst _) (by rw [List.length_map]; exact R.aU (by simp only [List.length_cons,List.length_nil]; omega)) (b7 (aC (aD 2 rfl (aE ⟨(show 1≤sizeLine by decide),(eP (.lst _) (.lst _) (by simp only [List.length_append,List.length_map,List.length_cons,List.length_nil]; exact R.aU (by omega)) ?_)⟩))))))⟩)))))))
 rw [show [D.str (R.dots ((zs.head?.map (·.length)).getD 0))]++zs.map D.str++[D.str (R.dots ((zs.head?.map (·.length)).getD 0))]=(R.framed zs).map D.str from by simp [R.framed]]
 refine aH (eZ 4 ["_law_held"] [3] f6.nd (dD T.range (aC (bB bI T.len PySem.boot_len (aC (aD 0 rfl (aE (cH (.lst _) (aE ⟨_,rfl,by omega,by omega,?_⟩)))))))))
 rw [Int.toNat_natCast,hx]
 refine kY (by rw [bM]; exact R.aU (by omega)) (fun i acc M'=>M'=M∧acc=((List.range i).filter fun i => !decide ((R.framed zs)[i]?=(R.framed zs)[i+1]?)).map fun (j:Nat)=>D.int (j:Int)) ⟨rfl,rfl⟩ ?_ ?_
 ·rintro i d acc M' hd ⟨rfl,rfl⟩ cs C s₀ H₀ fp
  obtain ⟨hi,rfl⟩:=cR hd
  obtain ⟨u,hu⟩:=iA (zs:=zs) (i:=i) (by omega)
  obtain ⟨v,hv⟩:=iA (zs:=zs) (i:=i+1) (by omega)
  refine nD (bD jK (aG aF (aD 1 rfl (aD 0 rfl (aI (.lst _) (m6 hu) (aG aF (aD 1 rfl (aK b5 (aD 0 rfl (ge_int (bP (aI (.lst _) (rS hv) (tP ⟨_,rfl,?_⟩)))))))))))))
  have ed:(!decide ((R.framed zs)[i]?=(R.framed zs)[i+1]?))=(!decide (u=v)):=by rw [hu,hv]; congr 1; simp
  refine ite2 (fun hb=>fun cs C s₀ H₀ fp => ?_) (fun hb => ?_)
  ·refine aD 0 rfl ⟨rfl,?_⟩
   rw [eH,if_pos (by rw [ed]; exact hb),List.map_append,Int.zero_add]
   rfl
  ·refine ⟨rfl,?_⟩
   rw [eH,if_neg (by rw [ed]; exact hb)]
 rintro acc M' ⟨rfl,rfl⟩ a ha
 rw [bM,xE]
 refine iC 4 rfl aZ ?_
 rw [fX ha]
 refine aL (aT (aS (aC ((bG ["_law_lines_here"] [0] (bS (aD 4 rfl ⟨_, .inr (.inl rfl),(b8 (ds:=dF (R.chg zs)) (by unfold dF; rw [List.length_map]; exact R.aU (by have:=R.lB zs; omega)) (fun i acc M1=>M1=M'∧acc=((R.chg zs).take i).map fun j=>xs.getD j .non) ⟨rfl,rfl⟩ ?_ ?_)⟩)))))))
 ·rintro i d acc M1 hd ⟨rfl,rfl⟩ cs C s₀ H₀ fp
  obtain ⟨j,hj,rfl⟩:=fV hd
  have hjl:=R.eB zs j (List.mem_of_getElem? hj)
  exact bJ (b4 fun cs C s₀ H₀ fp=>(aG aF (aD 1 rfl (aD 0 rfl (aI (.lst _) (wL (by omega)) ⟨rfl,(bY hj).symm⟩)))))
 rintro acc M1 ⟨rfl,rfl⟩
 rw [c6,List.take_length]
 refine aC ((bG ["_law_held"] [3] (bS (c9 i6 (aD 4 rfl (dU (dM (fZ dH (ge_int ⟨_,rfl,⟨_,rfl,(kC (.lst _) ?_)⟩⟩)))))))))
 rw [show cutD ((R.chg zs).map fun (j:Nat)=>D.int (j:Int)) none (some (-1))=dF (R.chg zs).dropLast from (fE _).trans (gE _)]
 refine ⟨_, .inr (.inl rfl),(b8 (ds:=dF (R.chg zs).dropLast) (by unfold dF; rw [List.length_map,List.length_dropLast]; exact R.aU (by have:=R.lB zs; omega)) (fun i acc M2=>M2=M1∧acc=(((R.chg zs).dropLast.take i).map fun j=>zs.getD j Str.empty).map D.str) ⟨rfl,rfl⟩ ?_ ?_)⟩
 ·rintro i d acc M2 hd ⟨rfl,rfl⟩ cs C s₀ H₀ fp
  obtain ⟨j,hj,rfl⟩:=fV hd
  have hjl:=R.i9 (R.cL zs) (R.eB zs) j (List.mem_of_getElem? hj)
  refine bJ (b4 fun cs C s₀ H₀ fp=>(aG aF (aD 1 rfl (aK b5 (aD 0 rfl (ge_int (bP (aI (.lst _) (aKL hjl) ⟨rfl,?_⟩))))))))
  rw [bY hj,List.map_append]
  rfl
 rintro acc M1 ⟨rfl,rfl⟩
 rw [c6,List.take_length]
 exact aE ⟨(show 2≤sizeLine by decide),hk⟩
theorem lC:FnScope ["_law_feed_here", "_law_many", "_law_digit", "_law_count", "_law_mixed"] ["_law_feed_here", "_law_many"] (aQ tF):=⟨rfl,rfl,rfl,by decide +kernel,rfl,by decide +kernel,by decide +kernel⟩
abbrev lH (P w K mg base):=Fo P w K mg base "_law_next" tF ["_law_feed_here", "_law_many"] 1 aN4
theorem aJO {f:Addr}{fd:FuncData} (Df:R.Df K mg "_law_next" tF ["_law_feed_here", "_law_many"] f fd):lH P w K mg base:=by
 refine ⟨f,fd,Df,bK Df lC (fun ds M k h => ?_) (fun cdv A outer s H E hr ds M k h => ?_)⟩
 ·obtain ⟨p,n,b,rfl,_⟩:=h; rfl
 obtain ⟨p,n,b,rfl,hn,hn2,⟨g,m,st,hM,hg,hm,hm2,hs,hs2⟩,hb,hk⟩:=h
 refine aH (cA (bD wD (aG aF (aD 0 rfl (ge_int (aI (.mt hM) rfl (ge_int (eQ ⟨_,rfl,(ite2 (fun hgt => ?_) (fun hgt => ?_))⟩))))))))
 ·exact aH (aP 2 lC.nd (aK fF (aG aF (aD 0 rfl (ge_int (aI (.mt hM) rfl (aD 1 rfl (bR (show (0:Int) < _ by first | decide | omega) (aH (gN (aK nH (aG aF (aD 0 rfl (ge_int (aI (.mt hM) rfl (aD 1 rfl (bR ⟨hn,hn2⟩ (aDW (aD 0 rfl (ge_int ⟨p,0,0,_,rfl,rfl,hM,rfl,(aL (aT (aD 2 rfl (hk _ _ (Int.emod_nonneg _ (by omega)) (Int.emod_lt_of_pos _ hn) ⟨_,m,st,aZ,Int.ediv_nonneg hg (by omega),hm,hm2,hs,by omega⟩ (cY.refl p M).upd (fun a ha=>d9 ha)))))⟩))))))))))))))))))))
 ·refine bU (aH (gN (aK b5 (aG aF (aD 0 rfl (ge_int (aI (.mt hM) rfl (ge_int (bP (aDW (aD 0 rfl (ge_int ⟨p,2,2,_,rfl,rfl,hM,rfl,(aH (aP 3 lC.nd (aG aF (aD 0 rfl (ge_int (aI (.mt aZ) rfl (aH (aP 4 lC.nd ?_))))))))⟩))))))))))))
  have b1 : -(2 ^ 64) < st+1∧st+1 < 2 ^ 64:=by omega
  refine aK fF (aK b5 (aK b5 (aG aF (aD 0 rfl (ge_int (aI (.mt aZ) rfl (aK gP (aK gP (ge_int (aD 3 rfl (bR (.inl ⟨by decide,by decide⟩) (aD 3 rfl (bR (.inr b1) (bP (aK gP (ge_int (aD 3 rfl (bR (.inl ⟨by decide,by decide⟩) (bP (ge_int (bR (show (0:Int) < _ by first | decide | omega) (aH (aP 4 lC.nd (aK fF (aK b5 (aK b5 (aK gP (aD 4 rfl (aD 4 rfl (bR (.inl (R.u8 _ (by decide) (by decide))) (aK gP ?_)))))))))))))))))))))))))))))))
  exact ge_int (aD 4 rfl (bR (.inl ⟨by decide,by decide⟩) (bP (aD 3 rfl (bP (ge_int (bR (show (0:Int) < _ by first | decide | omega) (aH (aP 4 lC.nd (aK fF (aK b5 (aK gP (aD 4 rfl (aD 4 rfl (bR (.inl (R.u8 _ (by decide) (by decide))) (aK gP (ge_int (aD 4 rfl (bR (.inl ⟨by decide,by decide⟩) (bP (ge_int (bR (show (0:Int) < _ by first | decide | omega) (aL (aT (aK fF (aK nH (aD 4 rfl (ge_int (bR ⟨by decide,by decide⟩ (aD 1 rfl (bR hn (hk _ _ (Int.emod_nonneg _ (by omega)) (Int.emod_lt_of_pos _ hn) ⟨g,m,st+1,aZ,hg,hm,hm2,by omega,by omega⟩ (cY.refl p M).upd (fun a ha=>d9 ha)))))))))))))))))))))))))))))))))
theorem uV:FnScope ["_law_one", "_law_other"] ["_law_one", "_law_other"] (aQ oW):=⟨rfl,rfl,rfl,by decide +kernel,rfl,by decide +kernel,by decide +kernel⟩
abbrev oM (P w K mg base):=Fo P w K mg base "_law_shared" oW ["_law_one", "_law_other"] 1 aA4
theorem aEB {f:Addr}{fd:FuncData} (Df:R.Df K mg "_law_shared" oW ["_law_one", "_law_other"] f fd) (T:Bt mg):oM P w K mg base:=by
 refine ⟨f,fd,Df,bK Df uV (fun ds M k h => ?_) (fun cdv A outer s H E hr ds M k h => ?_)⟩
 ·obtain ⟨a,b,rfl,_⟩:=h; rfl
 obtain ⟨a,b,rfl,hk⟩:=h
 refine aH (r6 (fun m Γ' M'=>M'=M∧∃ x y:Int,Γ'=[some (.int x),some (.int y)]∧Int.gcd x y=Int.gcd a b∧m=y.natAbs) (n:=b.natAbs) ⟨rfl,a,b,rfl,rfl,rfl⟩ ?_)
 rintro m Γ' M' ⟨rfl,x,y,rfl,hg,rfl⟩
 refine bD jK (aD 1 rfl (ge_int (nJ ⟨_,rfl,(ite2 (fun hb => ?_) (fun hb => ?_))⟩)))
 ·have hy:y≠0:=fun z=>by subst z; simp at hb
  refine aL (aEJ 0 1 uV.nd (by decide) (aC (aD 1 rfl (aC (aK aAY (aD 0 rfl (aD 1 rfl (bR hy (aE ⟨_,_,rfl,_,Num.aAQ x y hy,rfl,_,_,rfl,?_,rfl⟩)))))))))
  rw [Num.xP]; exact hg
 ·have hy:y=0:=by simpa using hb
  subst hy
  refine aL (aT (bB rW T.abs PyProof.Rows.boot_abs (aC (aD 0 rfl (aE (yQ ?_))))))
  rw [R.aAV,hg]
  exact hk
theorem aEW:FnScope ["_law_rows"] ["_law_rows"] (aQ oN):=⟨rfl,rfl,rfl,by decide +kernel,rfl,by decide +kernel,by decide +kernel⟩
abbrev rN (P w K mg base):=Fo P w K mg base "_law_across" oN ["_law_rows"] 1 aKB
theorem aFG {f:Addr}{fd:FuncData} (Df:R.Df K mg "_law_across" oN ["_law_rows"] f fd) (T:Bt mg):rN P w K mg base:=by
 refine ⟨f,fd,Df,bK Df aEW (fun ds M k h => ?_) (fun cdv A outer s H E hr ds M k h => ?_)⟩
 ·obtain ⟨zs,n,rfl,_⟩:=h; rfl
 obtain ⟨zs,n,rfl,hl,hn,hz,hk⟩:=h
 obtain ⟨z0,e0,l0,le0⟩:=wU hz hn
 refine aL (aT ((bG ["_law_rows"] [0] (dD T.range (aC (bB bI T.len PySem.boot_len (aC (aG aF (aK eO (aD 0 rfl (b7 (aC (ge_str (aE ⟨(show 1≤sizeLine by decide),(eP (.lst _) (.lst _) (by rw [List.length_map]; exact R.aU (by simp only [List.length_cons,List.length_nil]; omega)) (ge_int (aI (.lst _) e0 (aE (gY (R.aU (by omega)) (aE ⟨_,rfl,by omega,by omega,?_⟩))))))⟩))))))))))))))
 rw [Int.toNat_natCast]
 refine b8 (by rw [bM]; exact R.aU (by omega)) (fun i acc M'=>M'=M∧acc=((List.range i).map fun j=>R.ofL (zs.map (R.atS · j))).map D.str) ⟨rfl,rfl⟩ ?_ ?_
 ·rintro i d acc M' hd ⟨rfl,rfl⟩ cs C s₀ H₀ fp
  obtain ⟨hi,rfl⟩:=cR hd
  refine bJ (b4 fun cs C s₀ H₀ fp=>(fL PySem.F.plainAttrs_str PySem.F.slot_str_join PySem.F.type_str_join i7 (ge_str ⟨rfl,(aC ((bG ["_law_k"] [0] (bS (aD 1 rfl ⟨_, .inr (.inl rfl),(b8 (ds:=zs.map D.str) (by rw [List.length_map]; exact R.aU (by omega)) (fun i2 acc2 M2=>M2=M'∧acc2=((zs.take i2).map fun z=>(⟨#[R.atS z i]⟩:Str)).map D.str) ⟨rfl,rfl⟩ ?_ ?_)⟩)))))⟩)))
  ·rintro i2 d2 acc2 M2 hd2 ⟨rfl,rfl⟩ cs C s₀ H₀ fp
   obtain ⟨z,hz2,rfl⟩:=bW hd2
   have hzn:=hz z (List.mem_of_getElem? hz2)
   have hin:i < z.length:=by rw [← l0 z (List.mem_of_getElem? hz2)]; exact hi
   refine bJ (b4 fun cs C s₀ H₀ fp=>(aG aF (aD 0 rfl (aD 1 rfl (gB (R.aU (by omega)) (by rw [Int.zero_add]; exact R.j8 hin) ⟨rfl,?_⟩)))))
   rw [take_snoc hz2,List.map_append,List.map_append]
   rfl
  ·rintro acc2 M2 ⟨rfl,rfl⟩
   rw [List.length_map,List.take_length]
   refine aE (i5 (ys:=zs.map fun z=>(⟨#[R.atS z i]⟩:Str)) (.lst _) (by decide +kernel) ?_ ?_)
   ·rw [nI _ (fun z hz => ?_),List.length_map]
    ·omega
    ·obtain ⟨y,_,rfl⟩:=List.mem_map.mp hz
     rfl
   ·refine ⟨rfl,?_⟩
    rw [R.fB,rL,List.range_succ,List.map_append,List.map_append]
    rfl
 ·rintro acc M' ⟨rfl,rfl⟩
  rw [bM,wZ e0]
  exact hk
theorem rD:FnScope ["_law_feed_here", "_law_way", "_law_k", "_law_j", "_law_wide", "_law_high", "_law_edge", "_law_known"] ["_law_feed_here", "_law_way", "_law_k", "_law_j", "_law_wide", "_law_high"] (aQ p6):=⟨rfl,rfl,rfl,by decide +kernel,rfl,by decide +kernel,by decide +kernel⟩
abbrev aAD (P w K mg base):=Fo P w K mg base "_law_is_in" p6 ["_law_feed_here", "_law_way", "_law_k", "_law_j", "_law_wide", "_law_high"] 2 aNO
theorem aFM {f:Addr}{fd:FuncData} (Df:R.Df K mg "_law_is_in" p6 ["_law_feed_here", "_law_way", "_law_k", "_law_j", "_law_wide", "_law_high"] f fd) (aN5:lH P w K mg base) (T:Bt mg):aAD P w K mg base:=by
 refine ⟨f,fd,Df,bK Df rD (fun ds M k h => ?_) (fun cdv A outer s H E hr ds M k h => ?_)⟩
 ·obtain ⟨p,b,way,i,j,wide,high,rfl,_⟩:=h; rfl
 obtain ⟨p,b,way,i,j,wide,high,rfl,w0,w1,hF0,hb,i0,i1,j0,j1,wd0,wd1,hk⟩:=h
 refine aH (cA (bD jG (aD 1 rfl (ge_int (eQ ⟨_,rfl,(ite2 (fun hw => ?_) (fun hw => ?_))⟩)))))
 ·refine aL (aT (cB aCN (aM aN5 hr (aC (aD 0 rfl (aC (ge_int (aE ⟨p,_,_,rfl,by decide,by decide,hF0,by omega,fun z1 M1 z10 z11 hF1 hB1 hE1 => ?_⟩))))))))
  exact aD 1 rfl (eQ (hk _ _ hF1 hB1))
 refine bU ?_
 have hw4:4≤way:=by
  have:¬ way < 4:=fun z=>hw (decide_eq_true z)
  omega
 refine aH (aP 6 rD.nd (bB (aFC rfl) T.min BMin (aC (aD 2 rfl (aC (aD 3 rfl (aC (aK cD (aK cD (aD 4 rfl (ge_int (bP (aD 2 rfl (bP (aC (aK cD (aK cD (aD 5 rfl (ge_int (bP (aD 3 rfl (bP (aE (aJQ fun edge=>(aH (aP 7 rD.nd (iY (aC (cB dG (aK fF (aD 6 rfl (ge_int (bR (show (0:Int) < _ by first | decide | omega) ?_)))))))))))))))))))))))))))))))))
 refine ge_int (d6 (aC (cB dG (aK fF (aK b5 (aD 2 rfl (aD 3 rfl (bP (ge_int (bR (show (0:Int) < _ by first | decide | omega) (ge_int (d6 (aC (aD6 (cB dG (aK fF (aD 3 rfl (ge_int (bR (show (0:Int) < _ by first | decide | omega) (ge_int (d6 ⟨_,rfl,fun _ => ?_,fun c3 => ?_⟩)))))))))))))))))))))
 ·exact lJ (cB dG (aD 2 rfl (aK gP (aK cD (aD 4 rfl (ge_int (bP (aK fF (aK nH (aD 3 rfl (ge_int (bR ⟨by decide,by decide⟩ (ge_int (bR (show (0:Int) < 2 by decide) (bR (.inl ⟨by omega,by omega⟩) (d6 (⟨⟨_,rfl⟩,rfl⟩)))))))))))))))))
 refine aC (tR (aE ⟨(show 4≤sizeLine by decide),fun a ha => ?_⟩))
 have hap:a≠p:=hF0.ne ha
 refine aH (iZ (fL PySem.F.plainAttrs_list PySem.F.slot_list_append PySem.F.type_list_append fD (aD 7 rfl (⟨⟨rfl,_,aZ⟩,(aC (aD6 (cB dG (aD 6 rfl (ge_int (d6 ⟨_,rfl,fun _ => ?_,fun c5 => ?_⟩))))))⟩))))
 ·exact lJ (cB dG (aK fF (aK b5 (aD 2 rfl (aD 3 rfl (bP (ge_int (bR (show (0:Int) < _ by first | decide | omega) (ge_int (d6 (⟨⟨_,rfl⟩,rfl⟩)))))))))))
 refine aE (gQ aZ (show 4 < sizeLine by decide) ?_)
 obtain ⟨q,hq,q0,q1⟩:=aLZ (z:=way - 4) (by omega) (by omega)
 refine aL (aT (cB jK (aG aF (aD 7 rfl (aK cD (aD 1 rfl (ge_int (bP (aLX (.mt aZ) (pick5b (by omega) (by omega) fun c=>(cB dG (aM aN5 hr (aC (aD 0 rfl (aC (aG aF (b7 (aC (ge_int (aC (ge_int (aC (ge_int (aC (ge_int (aC (ge_int (aE ⟨(show 5≤sizeLine by decide),(aK cD (aD 1 rfl (ge_int ?_)))⟩))))))))))))))))))))))))))))
 refine bP (aI (.lst _) hq (aE ⟨p,q,_,rfl,by omega,by omega,(hF0.new hap).new hap,by omega,fun z1 M1 z10 z11 hF1 hB1 hE1 => ?_⟩))
 exact ge_int (d6 (aL9 (hk _ _ hF1 ((((cY.refl p M).new ha).new ha).trans hB1))))
theorem jT:FnScope ["_law_xs", "_law_ys", "_law_rows", "_law_columns"] ["_law_xs", "_law_ys", "_law_rows"] (aQ sN):=⟨rfl,rfl,rfl,by decide +kernel,rfl,by decide +kernel,by decide +kernel⟩
abbrev sO (P w K mg base):=Fo P w K mg base "_law_tidy" sN ["_law_xs", "_law_ys", "_law_rows"] 2 aMG
theorem aKQ {f:Addr}{fd:FuncData} (Df:R.Df K mg "_law_tidy" sN ["_law_xs", "_law_ys", "_law_rows"] f fd) (aN6:uU P w K mg base) (aN7:rN P w K mg base) (T:Bt mg):sO P w K mg base:=by
 refine ⟨f,fd,Df,bK Df jT (fun ds M k h => ?_) (fun cdv A outer s H E hr ds M k h => ?_)⟩
 ·rcases h with ⟨xs,ys,zs,n,rfl,_⟩ | ⟨rfl,_⟩ <;> rfl
 rcases h with ⟨xs,ys,zs,n,rfl,hl,hn,hg,hx,hy,k0,k1⟩ | ⟨rfl,hk⟩
 rotate_left
 ·refine aH (gN (aM aN6 hr (aC (aD 1 rfl (aC (aD 2 rfl (aE (.inr ⟨rfl,(iL rfl (bT (bO 1 jT.nd (bT (bO 2 jT.nd (fS (aH (cA (bD (iE (n:=2) (R.units_le hr)) (aD 2 rfl (b7 (aE ⟨(show 0≤sizeLine by decide),(iD (.lst _) (.lst _) rfl rfl ⟨_,rfl,b4 (aL (aT (aS (aC (aS (aE ⟨(show 0≤sizeLine by decide),(aC (aS (aE ⟨(show 0≤sizeLine by decide),(aC (aS (aE ⟨(show 0≤sizeLine by decide),(aE ⟨(show 3≤sizeLine by decide),?_⟩)⟩)))⟩)))⟩))))))⟩)⟩))))))))))))⟩))))))))
  exact hk
 refine aH (gN (aM aN6 hr (aC (aD 1 rfl (aC (aD 2 rfl (aE (.inl ⟨ys,zs,n,rfl,hl,hn,fun z hz=>(hg z hz).1,hy,(iL rfl (bT (bO 1 jT.nd (bT (bO 2 jT.nd (fS (aH (cA (bD (iE (n:=2) (R.units_le hr)) (aD 2 rfl (b7 (aE ⟨(show 0≤sizeLine by decide),(iD (.lst _) (.lst _) (aAB _) rfl ⟨_,rfl,?_⟩)⟩))))))))))))⟩))))))))
 rw [eq_nil]
 refine ite2 (fun hb => ?_) (fun hb => ?_)
 ·exact aL (aT (aS (aC (aS (aE ⟨(show 0≤sizeLine by decide),(aC (aS (aE ⟨(show 0≤sizeLine by decide),(aC (aS (aE ⟨(show 0≤sizeLine by decide),(aE ⟨(show 3≤sizeLine by decide),(k0 (map_nil hb))⟩)⟩)))⟩)))⟩)))))
 have hne:R.aR zs≠[]:=fun e=>hb (by rw [e]; rfl)
 refine bU ?_
 have g1:=R.f7 hg
 have gl:(R.aR zs).length≤1000:=by have:=R.dZ zs; have:=R.lB zs; omega
 have cl:=(R.jV fun z hz=>(g1 z hz).1).2 hne
 refine aH (gN (aM aN6 hr (aC (aD 0 rfl (aC (aM aN7 hr (aC (aD 2 rfl (aE ⟨R.aR zs,n,rfl,gl,hn,fun z hz=>(g1 z hz).1,(aE (.inl ⟨xs,R.aJ (R.aR zs),(R.aR zs).length,rfl,by omega,gl,fun z hz=>R.dB z hz,by omega,?_⟩))⟩)))))))))
 refine iL rfl (bT (bO 0 jT.nd (bT (bO 3 jT.nd (fS ?_)))))
 have g2:=R.f7 (R.iU g1)
 have gl2:(R.aR (R.aJ (R.aR zs))).length≤1000:=by have:=R.dZ (R.aJ (R.aR zs)); have:=R.lB (R.aJ (R.aR zs)); omega
 exact aL (aT (aS (aC (bF bN T.tuple R.BT (aC (aD 0 rfl (aE (cK (.lst _) (aC (bF bN T.tuple R.BT (aC (aD 1 rfl (aE (cK (.lst _) (aC (bF bN T.tuple R.BT (aC (aM aN7 hr (aC (aD 3 rfl (aE ⟨_,_,rfl,gl2,gl,fun z hz=>(g2 z hz).1,(aE (cK (.lst _) (aE ⟨(show 3≤sizeLine by decide),(k1 hne)⟩)))⟩)))))))))))))))))))))
theorem rC:FnScope ["_law_one", "_law_other", "_law_at", "_law_by"] ["_law_one", "_law_other"] (aQ qA):=⟨rfl,rfl,rfl,by decide +kernel,rfl,by decide +kernel,by decide +kernel⟩
abbrev nF (P w K mg base):=Fo P w K mg base "_law_plus" qA ["_law_one", "_law_other"] 2 aFB
theorem aHB {f:Addr}{fd:FuncData} (Df:R.Df K mg "_law_plus" qA ["_law_one", "_law_other"] f fd) (aN8:oM P w K mg base):nF P w K mg base:=by
 refine ⟨f,fd,Df,bK Df rC (fun ds M k h => ?_) (fun cdv A outer s H E hr ds M k h => ?_)⟩
 ·obtain ⟨a,b,rfl,_⟩:=h; rfl
 obtain ⟨a,b,rfl,ha,hb,hk⟩:=h
 have dd:=sB ha.g hb.g
 have d0:0 < (pq a).2 * (pq b).2:=Int.mul_pos (show (0:Int) < (a.den:Int) by have:=a.den_pos; omega) (show (0:Int) < (b.den:Int) by have:=b.den_pos; omega)
 refine aH (aP 2 rC.nd (aK b5 (aK c7 (aG aF (aD 0 rfl (ge_int (aI (.tup _) rfl (aG aF (aD 1 rfl (ge_int (aI (.tup _) rfl (bR ⟨big400 ha.g.a,big400 hb.g.b⟩ (aK c7 (aG aF (aD 1 rfl (ge_int (aI (.tup _) rfl (aG aF (aD 0 rfl (ge_int (aI (.tup _) rfl (bR ⟨big400 hb.g.a,big400 ha.g.b⟩ (bP (aH (aP 3 rC.nd (aM aN8 hr (aC (aD 2 rfl (aC (aK c7 (aG aF (aD 0 rfl (ge_int (aI (.tup _) rfl (aG aF (aD 1 rfl (ge_int (aI (.tup _) rfl (bR ⟨big400 ha.g.b,big400 hb.g.b⟩ (aE ⟨_,_,rfl,?_⟩))))))))))))))))))))))))))))))))))))))))
 have key:=rV (t:=(pq a).1 * (pq b).2+(pq b).1 * (pq a).2) d0
 rw [show Rat.divInt ((pq a).1 * (pq b).2+(pq b).1 * (pq a).2) ((pq a).2 * (pq b).2)=a+b from Num.zR a b] at key
 rw [← key] at hk
 generalize (pq a).1 * (pq b).2+(pq b).1 * (pq a).2=t at *
 have gp:Int.gcd t ((pq a).2 * (pq b).2) ∣ ((pq a).2 * (pq b).2).natAbs:=Nat.gcd_dvd_right _ _
 have gl:=Nat.le_of_dvd (by omega) gp
 have g0:((Int.gcd t ((pq a).2 * (pq b).2):Nat):Int)≠0:=fun z=>by
  have:Int.gcd t ((pq a).2 * (pq b).2)=0:=by omega
  rw [this] at gp
  have:=Nat.eq_zero_of_zero_dvd gp
  omega
 have g1:((Int.gcd t ((pq a).2 * (pq b).2):Nat):Int).natAbs < big:=by
  rw [Int.natAbs_natCast]
  exact Nat.lt_of_le_of_lt gl (Nat.lt_of_lt_of_le dd.2 (by decide +kernel))
 exact aL (aT (aS (aC (aK n4 (aD 2 rfl (aD 3 rfl (bR ⟨g0,g1⟩ (aC (aK n4 (aK c7 (aG aF (aD 0 rfl (ge_int (aI (.tup _) rfl (aG aF (aD 1 rfl (ge_int (aI (.tup _) rfl (bR ⟨big400 ha.g.b,big400 hb.g.b⟩ (aD 3 rfl (bR ⟨g0,g1⟩ (aE ⟨(show 2≤sizeLine by decide),hk⟩))))))))))))))))))))))
theorem fG:FnScope ["_law_feed_here", "_law_yard_here", "_law_xs", "_law_ys", "_law_rows", "_law_row", "_law_column", "_law_sign", "_law_new"] ["_law_feed_here", "_law_yard_here"] (aQ mC):=⟨rfl,rfl,rfl,by decide +kernel,rfl,by decide +kernel,by decide +kernel⟩
abbrev vK (P w K mg base):=Fo P w K mg base "_law_flipped" mC ["_law_feed_here", "_law_yard_here"] 3 aFW
theorem aCD {f:Addr}{fd:FuncData} (Df:R.Df K mg "_law_flipped" mC ["_law_feed_here", "_law_yard_here"] f fd) (aN5:lH P w K mg base) (aN9:nF P w K mg base) (aOA:sO P w K mg base) (T:Bt mg):vK P w K mg base:=by
 refine ⟨f,fd,Df,bK Df fG (fun ds M k h => ?_) (fun cdv A outer s H E hr ds M k h => ?_)⟩
 ·obtain ⟨p,b,A,rfl,_⟩:=h; rfl
 obtain ⟨p,b,A,rfl,hA,hF0,hb,hk⟩:=h
 have h3:(10:Nat) ^ 30≤10 ^ 300:=by decide +kernel
 have lx:=hA.lx
 have ly:=hA.ly
 obtain ⟨hw,lK⟩:=A.wide
 refine aH (gN (aD 1 rfl (iL rfl (bT (bO 2 fG.nd (bT (bO 3 fG.nd (bT (bO 4 fG.nd (fS (aH (cA (bD (iE (n:=2) (R.units_le hr)) (aD 4 rfl (aS (aE ⟨(show 0≤sizeLine by decide),(iD (e1 := .tup (A.K.map .str)) (e2 := .tup []) (.tup _) (.tup _) (aAB _) rfl ⟨_,rfl,?_⟩)⟩))))))))))))))))
 rw [uA]
 refine ite2 (fun h1 => ?_) (fun h1=>bU ?_)
 ·refine aL (aT (aS (aC (aS (aC (aS (aC (ge_int (aC (ge_int (aE ⟨(show 2≤sizeLine by decide),(aC (aS (aC (ge_int (aC (ge_int (aE ⟨(show 2≤sizeLine by decide),(aE ⟨(show 2≤sizeLine by decide),(aC (aS (aC (aS (aC (ge_int (aC (ge_int (aE ?_)))))))))⟩)⟩)))))))⟩)))))))))))
  exact ⟨(show 2≤sizeLine by decide),(aC (aS (aC (ge_int (aC (ge_int (aE ⟨(show 2≤sizeLine by decide),(aE ⟨(show 2≤sizeLine by decide),(aC (aS (aC (ge_str (aE ⟨(show 1≤sizeLine by decide),(aE ⟨(show 3≤sizeLine by decide),(hk Yd.cell M (aIA.mono (by decide +kernel)) (hF0.mono (by omega)) (cY.refl p M))⟩)⟩)))))⟩)⟩)))))))⟩
 have h1:A.K≠[]:=fun e=>h1 (by rw [e]; rfl)
 have big:=A.big.resolve_left h1
 refine aH (cA (bD dG (aM aN5 hr (aC (aD 0 rfl (aC (ge_int (aE ⟨p,_,_,rfl,by decide,by decide,hF0,by omega,fun z1 M1 z10 z11 hF1 hB1 hE1 => ?_⟩))))))))
 refine ge_int (d6 ⟨_,rfl,(ite2 (fun h2 => ?_) (fun h2=>bU ?_))⟩)
 ·refine aL (aT (aS (aC (aK aIM (c9 m8 (aD 2 rfl (dU (dM (fZ dH (ge_int ⟨_,rfl,⟨_,rfl,(m9 (aS (aC (aM aN9 hr (aC (aG aF (aD 2 rfl (fZ dH (ge_int ⟨_,rfl,(aI (.tup _) (aIV (by omega)) (aC (aS (aC (ge_int (aC (aK b5 (ge_int (aM aN5 hr ?_)))))))))⟩)))))))))⟩⟩))))))))))
  refine aC (aD 0 rfl (aC (ge_int (aE ⟨p,_,_,rfl,by decide,by decide,hF1,by omega,fun z2 M2 z20 z21 hF2 hB2 hE2 => ?_⟩))))
  refine bP (aE ⟨(show 2≤sizeLine by decide),(aE ⟨A.ws.getD (A.ws.length - 1) 0,Rat.divInt 1 (1+z2),by rw [← wO (by omega)],cP (hA.x.at _) h3,cP (p9 (n:=1+z2) (by omega) (by omega)).1 (by decide +kernel),(aE ⟨(show 1≤sizeLine by decide),(aKT (by rw [fE,List.length_dropLast,aY]; exact R.aU (by simp only [List.length_cons,List.length_nil]; omega)) (aC (aD 3 rfl (aC (aD 4 rfl (aE ⟨(show 3≤sizeLine by decide),?_⟩))))))⟩)⟩)⟩)
  have pf:=p9 (n:=1+z2) (by omega) (by omega)
  rw [← aIW pf.2 big.1]
  exact hk _ _ ((Wd.last pf.2 hA pf.1 big.1).mono (by decide +kernel)) (hF2.mono (by omega)) (hB1.trans hB2)
 refine aH (aP 5 fG.nd (aM aN5 hr (aC (aD 0 rfl (aC (bB bI T.len PySem.boot_len (aC (aD 4 rfl (aE (cH (.tup _) (aE ⟨p,(A.K.length:Int),_,by rw [List.length_map],by omega,by omega,hF1,by omega,fun z2 M2 z20 z21 hF2 hB2 hE2 => ?_⟩)))))))))))
 refine aH (aP 6 fG.nd (aM aN5 hr (aC (aD 0 rfl (aC (aK cD (bB bI T.len PySem.boot_len (aC (aD 2 rfl (aE (cH (.tup _) (ge_int (bP (aE ⟨p,(A.ws.length:Int) - 1,_,by rw [aY],by omega,by omega,hF2,by omega,fun z3 M3 z30 z31 hF3 hB3 hE3 => ?_⟩))))))))))))))
 obtain ⟨r,rfl⟩:∃ r:Nat,z2=r:=⟨z2.toNat,by omega⟩
 obtain ⟨c,rfl⟩:∃ r:Nat,z3=r:=⟨z3.toNat,by omega⟩
 have hrl:r < A.K.length:=by omega
 have hz:=List.getElem?_eq_getElem hrl
 generalize A.K[r]=z at hz
 have gz:=A.T.good.1 z (List.mem_of_getElem? hz)
 have ez:atI (A.K.map D.str) (r:Int)=some (.str z):=cW (by rw [List.getElem?_map,hz]; rfl)
 have zl:z.length≤100:=by omega
 have cl1:=xL z none (some (c:Int))
 have cl2:=xL z (some ((c:Int)+1)) none
 refine aH (aP 7 fG.nd (aG aF (ge_str (bF lT T.int R.BI (aC (cB dG (aG aF (aG aF (aD 4 rfl (aD 5 rfl (aI (.tup _) ez (aD 6 rfl (gB (R.aU (by omega)) (R.j8 (by omega)) (ge_str (pG (aE (qD (gB (by decide +kernel) (aGB _) ?_))))))))))))))))))
 generalize hs:(if decide (({ cps := #[R.atS z c] }:Str)=("#" : Str))=true then 46 else 35)=sg
 have hsg:R.sgn sg=true:=by rw [← hs]; split <;> rfl
 have ps:=aFL gz (c:=c) (by omega) hsg
 refine aH (aP 8 fG.nd (aK kP (aK kP (c9 aEA (aG aF (aD 4 rfl (aD 5 rfl (aI (.tup _) ez (dU (dM (aD 6 rfl ⟨_,rfl,(aFF (R.aU (by omega)) (aD 7 rfl (pT (R.aU (by show _+1≤_; omega)) (c9 aEA (aG aF (aD 4 rfl (aD 5 rfl (aI (.tup _) ez (dM (aK b5 (aD 6 rfl (ge_int (bP ⟨_,rfl,(dU (aFF (R.aU (by omega)) (pT (R.aU (by rw [show ∀ x y:Str,(x++y).length=x.length+y.length from fun x y=>Array.size_append ..]; show _+1+_≤_; omega)) ?_)))⟩)))))))))))))⟩)))))))))))
 generalize gT z none (some (c:Int))++⟨#[sg]⟩++gT z (some ((c:Int)+1)) none=y at *
 obtain ⟨g2,l2⟩:=aJX A.T.good.1 ps hrl
 refine aL (aT (aM aOA hr (aC (bF dE T.list R.BL (aC (aD 2 rfl (aE (hV (.tup _) (aC (bF dE T.list R.BL (aC (aD 3 rfl (aE (hV (.tup _) (aC (aK eO (aK eO (bF dE T.list R.BL (aC (c9 m8 (aD 4 rfl (dU (dM (aD 5 rfl ⟨_,rfl,(m9 (aE (hV (.tup _) (b7 (aC (aD 8 rfl ?_))))))⟩))))))))))))))))))))))))
 refine aE ⟨(show 1≤sizeLine by decide),(eP (.lst _) (.lst _) (by rw [p7,List.length_take,List.length_map]; exact R.aU (by simp only [List.length_cons,List.length_nil]; omega)) (bF dE T.list R.BL (aC (c9 m8 (aD 4 rfl (dM (aK b5 (aD 5 rfl (ge_int (bP ⟨_,rfl,(dU (m9 (aE (hV (.tup _) (eP (.lst _) (.lst _) (by refine Nat.le_trans aI3 ?_; rw [List.length_map]; exact R.aU (by omega)) ?_)))))⟩))))))))))⟩
 refine aE (.inl ⟨_,_,A.K.take r++[y]++A.K.drop (r+1),A.ws.length - 1,by rw [aLI],by omega,by omega,g2,by rw [aY]; omega,by rw [aY]; omega,fun h0 => ?_,fun h0 => ?_⟩)
 all_goals have wd:=(xR A.uw A.uu g2 (by omega) hA.x hA.y (by omega) (by omega)).mono (show 10 ^ 30≤10 ^ 40 by decide +kernel)
 ·rw [rQ A.uw A.uu g2 (by omega) h0]
  exact hk _ _ wd (hF3.mono (by omega)) ((hB1.trans hB2).trans hB3)
 ·rw [rG A.uw A.uu g2 (by omega) h0]
  exact hk _ _ wd (hF3.mono (by omega)) ((hB1.trans hB2).trans hB3)
theorem hW:FnScope ["_law_feed_here", "_law_yard_here", "_law_xs", "_law_ys", "_law_rows", "_law_image", "_law_joined", "_law_row", "_law_other"] ["_law_feed_here", "_law_yard_here"] (aQ tG):=⟨rfl,rfl,rfl,by decide +kernel,rfl,by decide +kernel,by decide +kernel⟩
abbrev aDX (P w K mg base):=Fo P w K mg base "_law_even" tG ["_law_feed_here", "_law_yard_here"] 3 aM1
theorem aJB {f:Addr}{fd:FuncData} (Df:R.Df K mg "_law_even" tG ["_law_feed_here", "_law_yard_here"] f fd) (aN5:lH P w K mg base) (aOA:sO P w K mg base) (T:Bt mg):aDX P w K mg base:=by
 refine ⟨f,fd,Df,bK Df hW (fun ds M k h => ?_) (fun cdv A outer s H E hr ds M k h => ?_)⟩
 ·obtain ⟨p,b,A,rfl,_⟩:=h; rfl
 obtain ⟨p,b,A,rfl,hA,hF0,hb,hk⟩:=h
 have lx:=hA.lx
 have ly:=hA.ly
 obtain ⟨hw,lK⟩:=A.wide
 refine aH (gN (aD 1 rfl (iL rfl (bT (bO 2 hW.nd (bT (bO 3 hW.nd (bT (bO 4 hW.nd (fS (aH (eZ 5 [] [] hW.nd (bS (aD 4 rfl ⟨_, .inl rfl,(kY (by rw [List.length_map]; exact R.aU (by omega)) (fun i acc M'=>M'=M∧acc=((A.K.take i).map R.cM).map D.str) ⟨rfl,rfl⟩ ?_ ?_)⟩))))))))))))))
 ·rintro i d acc M' hd ⟨rfl,rfl⟩ cs C s₀ H₀ fp
  obtain ⟨z,hz,rfl⟩:=bW hd
  refine bJ (b4 fun cs C s₀ H₀ fp=>(uM (aD 0 rfl ⟨_,rfl,(by rw [hw z (List.mem_of_getElem? hz)]; exact R.aU (by omega)),⟨rfl,?_⟩⟩)))
  rw [bY hz,List.map_append]
  rfl
 rintro acc M ⟨rfl,rfl⟩ a ha
 rw [List.length_map,List.take_length]
 refine iC 5 rfl aZ ?_
 rw [fX ha]
 have rw_:∀ z∈A.K.map R.cM,z.length=A.ws.length - 1:=fun z hz=>by
  obtain ⟨y,hy,rfl⟩:=List.mem_map.mp hz
  rw [← hw y hy]
  exact R.lF y
 refine aH (eA (fun Γ' M1=>∃ Ks:List Str,Ks.length=A.K.length∧(∀ z∈Ks,z.length=A.ws.length - 1)∧Γ'=[some (.mt p),some (yd A),some (.tup (aO A.ws)),some (.tup (aO A.us)),some (.tup (A.K.map .str)),some (.lst (Ks.map .str)),none,none,none]∧FdM M1 p (b+1)∧cY p M M1) (cA ?_) ?_)
 ·refine bD dG (aM aN5 hr (aC (aD 0 rfl (aC (ge_int (aE ⟨p,_,_,rfl,by decide,by decide,hF0,by omega,fun z1 M1 z10 z11 hF1 hB1 hE1 => ?_⟩))))))
  refine ge_int (d6 ⟨_,rfl,(ite2 (fun h2=>aL (aP 5 hW.nd (aJ4 (aD 5 rfl ⟨_,rfl,?_⟩)))) (fun h2=>bU ⟨A.K.map R.cM,List.length_map ..,rw_,rfl,hF1,hB1⟩))⟩)
  rw [← List.map_reverse]
  exact ⟨(A.K.map R.cM).reverse,by rw [List.length_reverse,List.length_map],fun z hz=>rw_ z (List.mem_reverse.mp hz),rfl,hF1,hB1⟩
 rintro Γ' M1 ⟨Ks,kl,kw,rfl,hF1,hB1⟩
 refine aH (aP 6 hW.nd (iY (aE ⟨(show 0≤sizeLine by decide),fun aj haj=>(aH (gA (aH9 true false T.zip PyProof.Rows.boot_zip (aC (aD 4 rfl (aC (aD 5 rfl (aE ⟨A.K.map .str,Ks.map .str,rfl,by rw [List.length_map,List.length_map]; omega,?_⟩))))))))⟩)))
 have hl:(d7 (A.K.map D.str) (Ks.map D.str)).length=A.K.length:=by unfold d7; rw [List.length_map,List.length_zip,List.length_map,List.length_map]; omega
 refine ⟨fun i Γ' M2=>∃ zs v7 v8,Γ'=[some (.mt p),some (yd A),some (.tup (aO A.ws)),some (.tup (aO A.us)),some (.tup (A.K.map .str)),some (.lst (Ks.map .str)),some (.mt aj),v7,v8]∧M2=cF M1 aj (.lst (zs.map .str))∧zs.length=i∧R.Good (A.ws.length - 1) zs,⟨[],_,_,rfl,rfl,rfl,fun z hz=>(nomatch hz)⟩,?_,?_⟩
 ·rintro i d Γ' M2 hd ⟨zs,v7,v8,rfl,rfl,hzl,hg⟩
  obtain ⟨d1,d2,rfl⟩:=rR (List.mem_of_getElem? hd)
  obtain ⟨e1,e2⟩:=yW hd
  obtain ⟨y,hy,rfl⟩:=bW e1
  obtain ⟨o,ho,rfl⟩:=bW e2
  have yl:=hw y (List.mem_of_getElem? hy)
  have ol:=kw o (List.mem_of_getElem? ho)
  have hi:=(List.getElem?_eq_some_iff.mp hy).1
  refine iL rfl (bT (bO 7 hW.nd (bT (bO 8 hW.nd (fS (aL (iZ (fL PySem.F.plainAttrs_list PySem.F.slot_list_append PySem.F.type_list_append fD (aD 6 rfl (⟨⟨rfl,_,aZ⟩,aC (fL PySem.F.plainAttrs_str PySem.F.slot_str_join PySem.F.type_str_join i7 (ge_str ⟨rfl,aC (bG ["_law_row", "_law_other"] [7,8] (dD T.range (aC (bB bI T.len PySem.boot_len (aC (aD 7 rfl (aE (gY (R.aU (by omega)) (aE ⟨_,rfl,by omega,by omega,?_⟩)))))))))⟩))⟩))))))))))
  rw [Int.toNat_natCast,yl]
  refine b8 (by rw [bM]; exact R.aU (by omega)) (fun i2 acc M3=>M3=cF M1 aj (.lst (zs.map .str))∧∃ qs:List Nat,acc=(qs.map fun c=>(⟨#[c]⟩:Str)).map D.str∧(∀ c∈qs,c=35∨c=46)∧qs.length=i2) ⟨rfl,[],rfl,fun c hc=>(nomatch hc),rfl⟩ ?_ ?_
  ·rintro i2 d acc M3 hd2 ⟨rfl,qs,rfl,hqs,hl2⟩ cs C s₀ H₀ fp
   obtain ⟨hi2,rfl⟩:=cR hd2
   refine bJ (b4 fun cs C s₀ H₀ fp=>(aG aF (ge_str (bF lT T.int R.BI (aC (cB aFA (ge_str (aK kP (aG aF (aD 1 rfl (aD 0 rfl (gB (R.aU (by omega)) (by rw [Int.zero_add]; exact R.j8 (by omega)) (aG aF (aD 2 rfl (aD 0 rfl (gB (R.aU (by omega)) (by rw [Int.zero_add]; exact R.j8 (by omega)) (pT (show 2≤sizeLine by decide) (aFS ?_))))))))))))))))))
   generalize (!(Builtin.Str.occurrences _ _ _ _ _).isEmpty)=c
   refine aE (qD (gB (by decide +kernel) (yN c) ⟨rfl,qs++[if c=true then 35 else 46],by simp,fun q hq => ?_,by simp [hl2]⟩))
   rcases List.mem_append.mp hq with hq | hq
   ·exact hqs q hq
   ·rw [List.mem_singleton] at hq
    rw [hq]; cases c
    ·exact .inr rfl
    ·exact .inl rfl
  rintro acc M3 ⟨rfl,qs,rfl,hqs,hl2⟩
  rw [bM] at hl2
  refine aE (i5 (.lst _) (by decide +kernel) (by rw [pZ,List.length_map]; omega) (aE (gQ aZ (by rw [List.length_map,hzl]; exact Nat.lt_of_le_of_lt (show i≤50 by omega) (by decide)) ?_)))
  rw [R.fB,R.jZ]
  exact ⟨zs++[R.ofL qs],_,_,rfl,by rw [lW,List.map_append]; rfl,by rw [List.length_append,hzl]; rfl,vC hg hl2 hqs⟩
 ·rintro Γ' M2 ⟨zs,v7,v8,rfl,rfl,hzl,hg⟩
  rw [hl] at hzl
  refine iC 6 rfl aZ ?_
  rw [fX haj]
  refine aL (aT (aM aOA hr (aC (bG [] [] (dD T.range (aC (bB bI T.len PySem.boot_len (aC (aD 2 rfl (aE (cH (.tup _) (aE ?_))))))))))))
  rw [aY]
  refine ⟨_,rfl,by omega,by omega,?_⟩
  rw [Int.toNat_natCast]
  refine b8 (by rw [bM]; exact R.aU (by omega)) (fun i acc M'=>M'=M1∧acc=aO (lnI i)) ⟨rfl,rfl⟩ ?_ ?_
  ·rintro i d acc M' hd ⟨rfl,rfl⟩ cs C s₀ H₀ fp
   obtain ⟨hi,rfl⟩:=cR hd
   refine bJ (b4 fun cs C s₀ H₀ fp=>(aS (aC (aD 0 rfl (aC (ge_int (aE ⟨(show 2≤sizeLine by decide),⟨rfl,?_⟩⟩)))))))
   unfold lnI
   rw [List.range_succ,List.map_append,← cJ,Int.zero_add]
   rfl
  rintro acc M1 ⟨rfl,rfl⟩
  rw [bM]
  refine aC (bG [] [] (dD T.range (aC (bB bI T.len PySem.boot_len (aC (aD 3 rfl (aE (cH (.tup _) (aE ?_)))))))))
  rw [aY]
  refine ⟨_,rfl,by omega,by omega,?_⟩
  rw [Int.toNat_natCast]
  refine b8 (by rw [bM]; exact R.aU (by omega)) (fun i acc M'=>M'=M1∧acc=aO (lnI i)) ⟨rfl,rfl⟩ ?_ ?_
  ·rintro i d acc M' hd ⟨rfl,rfl⟩ cs C s₀ H₀ fp
   obtain ⟨hi,rfl⟩:=cR hd
   refine bJ (b4 fun cs C s₀ H₀ fp=>(aS (aC (aD 0 rfl (aC (ge_int (aE ⟨(show 2≤sizeLine by decide),⟨rfl,?_⟩⟩)))))))
   unfold lnI
   rw [List.range_succ,List.map_append,← cJ,Int.zero_add]
   rfl
  rintro acc M1 ⟨rfl,rfl⟩
  rw [bM]
  refine aC (aD 6 rfl (aE ?_))
  by_cases hK:A.K=[]
  ·have e:=(eJ A).mpr hK
   rw [hK] at hzl
   have ez:=List.length_eq_zero_iff.mp hzl
   subst ez e
   exact .inr ⟨rfl,hk Yd.void _ hA hF1 hB1⟩
  have big:=A.big.resolve_left hK
  have g2:R.Good ((lnI A.ws.length).length - 1) zs:=by rw [lA]; exact hg
  have z2:zs.length=(lnI A.us.length).length - 1:=by rw [lA]; omega
  have wd:=xR (nQ _) (nQ _) g2 z2 (aEV lx) (aEV ly) (by rw [lA]; omega) (by rw [lA]; omega)
  refine .inl ⟨_,_,zs,A.ws.length - 1,rfl,by omega,by omega,hg,by rw [aY,lA]; omega,by rw [aY,lA]; omega,fun h0 => ?_,fun h0 => ?_⟩
  ·rw [rQ (nQ _) (nQ _) g2 z2 h0]
   exact hk _ _ wd hF1 hB1
  ·rw [rG (nQ _) (nQ _) g2 z2 h0]
   exact hk _ _ wd hF1 hB1
theorem gW:FnScope ["_law_feed_here", "_law_many", "_law_bottom", "_law_most", "_law_at", "_law_found", "_law_k", "_law_by"] ["_law_feed_here", "_law_many"] (aQ qE):=⟨rfl,rfl,rfl,by decide +kernel,rfl,by decide +kernel,by decide +kernel⟩
abbrev aAO (P w K mg base):=Fo P w K mg base "_law_lines" qE ["_law_feed_here", "_law_many"] 2 aML
theorem aGX {f:Addr}{fd:FuncData} (Df:R.Df K mg "_law_lines" qE ["_law_feed_here", "_law_many"] f fd) (aN5:lH P w K mg base) (aN8:oM P w K mg base) (T:Bt mg):aAO P w K mg base:=by
 refine ⟨f,fd,Df,bK Df gW (fun ds M k h => ?_) (fun cdv A outer s H E hr ds M k h => ?_)⟩
 ·obtain ⟨p,many,b,rfl,_⟩:=h; rfl
 obtain ⟨p,many,b,rfl,hm0,hm1,hF0,hb,hk⟩:=h
 refine aH (aP 2 gW.nd (aG aF (b7 (aC (ge_int (aC (ge_int (aC (ge_int (aC (ge_int (aE ⟨(show 4≤sizeLine by decide),(aM aN5 hr (aC (aD 0 rfl (aC (ge_int (aE ⟨p,_,_,rfl,by decide,by decide,hF0,by omega,fun z1 M1 z10 z11 hF1 hB1 hE1 => ?_⟩))))))⟩))))))))))))
 obtain ⟨bt,hbt,hbt2⟩:=aJY z10 z11
 refine aI (.lst _) hbt (aH (aP 3 gW.nd (aG aF (b7 (aC (ge_int (aC (ge_int (aC (aK sC (ge_int (ge_int (bR ⟨by decide,by decide,by decide⟩ (aE ⟨(show 3≤sizeLine by decide),(aM aN5 hr (aC (aD 0 rfl (aC (ge_int (aE ⟨p,_,_,rfl,by decide,by decide,hF1,by omega,fun z2 M2 z20 z21 hF2 hB2 hE2 => ?_⟩))))))⟩))))))))))))))
 obtain ⟨most,hmo,hmo1,hmo2⟩:=aDL z20 z21
 refine aI (.lst _) hmo (aH (aP 4 gW.nd (aK cD (aM aN5 hr (aC (aD 0 rfl (aC (ge_int (aE ⟨p,_,_,rfl,by decide,by decide,hF2,by omega,fun z3 M3 z30 z31 hF3 hB3 hE3 => ?_⟩)))))))))
 refine ge_int (bP (aH (aP 5 gW.nd (iY (aE ⟨(show 0≤sizeLine by decide),fun a ha => ?_⟩)))))
 have hap:a≠p:=hF3.ne ha
 have haM:M a=none:=by
  cases e:M a with
  | none=>rfl
  | some o=>rw [hB3 a o hap (hB2 a o hap (hB1 a o hap e))] at ha; cases ha
 refine aH (gA (dD T.range (aC (aK b5 (aD 1 rfl (ge_int (bP (aE ⟨_,rfl,by omega,by omega,?_⟩))))))))
 refine ⟨fun i Γ' M'=>∃ (t:Int) (ats:List Int) (vk vb:Option D),Γ'=[some (.mt p),some (.int many),some (.int bt),some (.int most),some (.int t),some (.mt a),vk,vb]∧M' a=some (.lst (ats.map (jC bt)))∧FdM M' p (b+3+i)∧cY p M M' ∧
  ats.length=i∧ats.Pairwise (· < ·)∧(∀ x∈ats, -20≤x∧x < t) ∧ -20≤t∧t≤20+100000000 * i,?_,?_,?_⟩
 ·refine ⟨z3 - 20,[],none,none,rfl,aZ,(hF3.new hap).mono (by omega),((hB1.trans hB2).trans hB3).new haM,rfl, .nil,fun x hx=>(nomatch hx),by omega,by omega⟩
 ·rintro i d Γ' M' hd ⟨t,ats,vk,vb,rfl,hM,hF,hB,hl,hp,hlt,t0,t1⟩
  obtain ⟨hi,rfl⟩:=cR hd
  have hi':i≤20:=by omega
  refine bO 6 gW.nd (aH (aP 7 gW.nd (aM aN8 hr (aC (aD 4 rfl (aC (aD 2 rfl (aE ⟨_,_,rfl,?_⟩))))))))
  have hg:=aE5 (a:=t) hbt2
  refine aH (iZ (fL PySem.F.plainAttrs_list PySem.F.slot_list_append PySem.F.type_list_append fD (aD 5 rfl (⟨⟨rfl,_,hM⟩,(aC (aS (aC (aK nH (aD 4 rfl (aD 7 rfl (bR hg (aC (aK nH (aD 2 rfl (aD 7 rfl (bR hg (aE ⟨(show 2≤sizeLine by decide),(aE (gQ hM (by rw [List.length_map,hl]; exact Nat.lt_of_le_of_lt hi' (by decide)) (aL (aP 4 gW.nd (aK b5 (aK b5 (aD 4 rfl (ge_int (bP (aM aN5 hr (aC (aD 0 rfl (aC (aD 3 rfl ?_))))))))))))))⟩)))))))))))))⟩))))
  refine aE ⟨p,most,_,rfl,by omega,by omega,hF.new hap,by omega,fun z M2 z0 z1 hF2 hB2 hE2 => ?_⟩
  refine bP ⟨_,ats++[t],_,_,rfl,?_,hF2.mono (by omega),(hB.new haM).trans hB2,by rw [List.length_append,hl]; rfl,?_,?_,by omega,by omega⟩
  ·rw [hE2 a hap,aZ,List.map_append]; rfl
  ·rw [List.pairwise_append]
   exact ⟨hp,by simp,fun x hx y hy=>by rw [List.mem_singleton] at hy; rw [hy]; exact (hlt x hx).2⟩
  ·intro x hx
   rcases List.mem_append.mp hx with hx | hx
   ·have:=hlt x hx; omega
   ·rw [List.mem_singleton] at hx; omega
 ·rintro Γ' M' ⟨t,ats,vk,vb,rfl,hM,hF,hB,hl,hp,hlt,t0,t1⟩
  rw [bM] at hF hl t1
  refine aL (aT (aD 5 rfl (hk a M' bt ats haM hM (hF.mono (by omega)) hB hl ⟨hbt2,hp,fun x hx => ?_⟩)))
  have:=hlt x hx
  omega
theorem iR:FnScope ["_law_feed_here", "_law_most", "_law_xs", "_law_ys", "_law_way", "_law_rows", "_law_j", "_law_signs_here"] ["_law_feed_here", "_law_most"] (aQ pV):=⟨rfl,rfl,rfl,by decide +kernel,rfl,by decide +kernel,by decide +kernel⟩
abbrev aAA (P w K mg base):=Fo P w K mg base "_law_yard" pV ["_law_feed_here", "_law_most"] 3 aIK
theorem aHK {f:Addr}{fd:FuncData} (Df:R.Df K mg "_law_yard" pV ["_law_feed_here", "_law_most"] f fd) (aOB:aAO P w K mg base) (aN5:lH P w K mg base) (aOC:aAD P w K mg base) (aOA:sO P w K mg base) (T:Bt mg):aAA P w K mg base:=by
 refine ⟨f,fd,Df,bK Df iR (fun ds M k h => ?_) (fun cdv A outer s H E hr ds M k h => ?_)⟩
 ·obtain ⟨p,b,most,rfl,_⟩:=h; rfl
 obtain ⟨p,b,most,rfl,hm1,hm2,hF0,hb,hk⟩:=h
 refine aH (aP 2 iR.nd (nN (aM aOB hr (aC (aD 0 rfl (aC (aK b5 (ge_int (aM aN5 hr (aC (aD 0 rfl (aC (aD 1 rfl (aE ⟨p,most,_,rfl,by omega,by omega,hF0,by omega,fun z1 M1 z10 z11 hF1 hB1 hE1 => ?_⟩))))))))))))))
 refine bP (aE ⟨p,_,_,rfl,by omega,by omega,hF1,by omega,fun ax Nx btx atx hax hMx hGx hCx hlx hAx => ?_⟩)
 refine ⟨ax,_,iQ Nx ax,rfl,hMx,mO,aC9 _ _,?_⟩
 have xp:ax≠p:=hF1.ne hax
 have xn:M ax=none:=hB1.none_of hax xp
 have hF2:=hGx.del xp
 have hB2:=(hB1.trans hCx).del xn
 refine aH (aP 3 iR.nd (nN (aM aOB hr (aC (aD 0 rfl (aC (aK b5 (ge_int (aM aN5 hr (aC (aD 0 rfl (aC (aD 1 rfl (aE ⟨p,most,_,rfl,by omega,by omega,hF2,by omega,fun z3 M3 z30 z31 hF3 hB3 hE3 => ?_⟩))))))))))))))
 refine bP (aE ⟨p,_,_,rfl,by omega,by omega,hF3,by omega,fun ay Ny bty aty hay hMy hGy hCy hly hAy => ?_⟩)
 refine ⟨ay,_,iQ Ny ay,rfl,hMy,mO,aC9 _ _,?_⟩
 have yp:ay≠p:=hF3.ne hay
 have yn:M ay=none:=(hB2.trans hB3).none_of hay yp
 have hF4:=hGy.del yp
 have hB4:=((hB2.trans hB3).trans hCy).del yn
 refine aH (aP 4 iR.nd (aM aN5 hr (aC (aD 0 rfl (aC (ge_int (aE ⟨p,_,_,rfl,by decide,by decide,hF4,by omega,fun z5 M5 z50 z51 hF5 hB5 hE5 => ?_⟩)))))))
 have hB6:=hB4.trans hB5
 refine aH (aP 5 iR.nd (iY (aE ⟨(show 0≤sizeLine by decide),fun ar har => ?_⟩)))
 have rp:ar≠p:=hF5.ne har
 have rn:M ar=none:=hB6.none_of har rp
 have lx1:(atx.map (jC btx)).length=atx.length:=List.length_map ..
 have ly1:(aty.map (jC bty)).length=aty.length:=List.length_map ..
 refine aH (gA (dD T.range (aC (aK cD (bB bI T.len PySem.boot_len (aC (aD 3 rfl (aE (cH (.lst _) (ge_int (bP (aE ⟨_,rfl,by omega,by omega,?_⟩))))))))))))
 rw [ly1,show ((aty.length:Int) - 1).toNat=aty.length - 1 by omega]
 refine ⟨fun i Γ' M'=>∃ (zs:List Str) (vj vs:Option D),Γ'=[some (.mt p),some (.int most),some (.lst (atx.map (jC btx))),some (.lst (aty.map (jC bty))),some (.int z5),some (.mt ar),vj,vs]∧M' ar=some (.lst (zs.map .str)) ∧
  FdM M' p (b+150+20 * i)∧cY p M M'∧zs.length=i∧R.Good (atx.length - 1) zs,?_,?_,?_⟩
 ·exact ⟨[],none,none,rfl,aZ,(hF5.new rp).mono (by omega),hB6.new rn,rfl,fun z hz=>(nomatch hz)⟩
 ·rintro i d Γ' M' hd ⟨zs,vj,vs,rfl,hM,hF,hB,hl,hg⟩
  obtain ⟨hi,rfl⟩:=cR hd
  refine bO 6 iR.nd (aH (eZ 7 ["_law_feed_here", "_law_way", "_law_j", "_law_xs", "_law_ys"] [0,4,6,2,3] iR.nd (dD T.range (aC (aK cD (bB bI T.len PySem.boot_len (aC (aD 2 rfl (aE (cH (.lst _) (ge_int (bP (aE ⟨_,rfl,by omega,by omega,?_⟩)))))))))))))
  rw [lx1,show ((atx.length:Int) - 1).toNat=atx.length - 1 by omega]
  refine kY (ds:=jY 0 (atx.length - 1)) (by rw [bM]; exact R.aU (by omega)) (fun i2 acc M2=>∃ cs:List Nat,acc=(cs.map fun c=>(⟨#[c]⟩:Str)).map D.str∧(∀ c∈cs,c=35∨c=46)∧cs.length=i2∧FdM M2 p (b+150+20 * i+i2)∧cY p M M2∧M2 ar=some (.lst (zs.map .str)))
   ⟨[],rfl,fun c hc=>(nomatch hc),rfl,hF.mono (by omega),hB,hM⟩ ?_ ?_
  ·rintro i2 d2 acc M2 hd2 ⟨cs,rfl,hcs,hl2,hF2',hB2',hM2⟩ cs' C s₀ H₀ fp
   obtain ⟨hi2,rfl⟩:=cR hd2
   refine bJ (b4 fun cs' C s₀ H₀ fp=>(aG aF (ge_str (bF lT T.int R.BI (aC (aM aOC hr (aC (aD 1 rfl (aC (aD 2 rfl (aC (aD 0 rfl (aC (aD 3 rfl (aC (aK cD (bB bI T.len PySem.boot_len (aC (aD 4 rfl (aE (cH (.lst _) (ge_int (bP (aC (aK cD (bB bI T.len PySem.boot_len (aC (aD 5 rfl (aE (cH (.lst _) (ge_int ?_)))))))))))))))))))))))))))))))
   refine bP (aE ⟨p,_,z5,_,_,_,_,rfl,z50,z51,hF2',by omega,by omega,by omega,by omega,by omega,by omega,by omega,fun c M3 hF3' hB3' => ?_⟩)
   refine aE (qD (gB (by decide +kernel) (yN c) ⟨cs++[if c=true then 35 else 46],by simp,fun q hq => ?_,by simp [hl2],hF3'.mono (by omega),hB2'.trans hB3',?_⟩))
   ·rcases List.mem_append.mp hq with hq | hq
    ·exact hcs q hq
    ·rw [List.mem_singleton] at hq
     rw [hq]; cases c
     ·exact .inr rfl
     ·exact .inl rfl
   ·exact hB3' ar _ rp hM2
  ·rintro acc M2 ⟨cs,rfl,hcs,hl2,hF2',hB2',hM2⟩ as has
   rw [bM] at hl2 hF2'
   have sp:as≠p:=hF2'.ne has
   have sr:ar≠as:=fun z=>by rw [← z,hM2] at has; cases has
   refine aL (iZ (fL PySem.F.plainAttrs_list PySem.F.slot_list_append PySem.F.type_list_append fD (aD 5 rfl (⟨⟨rfl,_,((d9 sr).trans hM2)⟩,(aC (fL PySem.F.plainAttrs_str PySem.F.slot_str_join PySem.F.type_str_join i7 (ge_str ⟨rfl,(aC (aD 7 rfl (aE (i5 (.mt aZ) (by decide +kernel) (by rw [pZ,List.length_map]; omega) (aE (gQ ((d9 sr).trans hM2) (by rw [List.length_map,hl]; exact Nat.lt_of_le_of_lt (show i≤20 by omega) (by decide)) ?_))))))⟩)))⟩))))
   rw [R.fB,R.jZ]
   refine ⟨zs++[R.ofL cs],_,_,rfl,by rw [aZ,List.map_append]; rfl,((hF2'.new sp).new rp).mono (by omega),(hB2'.new (hB2'.none_of has sp)).new rn,by rw [List.length_append,hl]; rfl,vC hg hl2 hcs⟩
 ·rintro Γ' M' ⟨zs,vj,vs,rfl,hM,hF,hB,hl,hg⟩
  rw [bM] at hl hF
  refine iC 5 rfl hM ?_
  have hF7:=hF.del rp
  have hB7:=hB.del rn
  refine aL (aT (aM aOA hr (aC (aD 2 rfl (aC (aD 3 rfl (aC (aD 5 rfl (aE (.inl ⟨_,_,zs,atx.length - 1,rfl,by omega,by omega,hg,by omega,by omega,fun h0 => ?_,fun h0 => ?_⟩))))))))))
  all_goals
   have ux:=hAx.upQ
   have uy:=hAy.upQ
   have lx2:(lnQ btx atx).length=atx.length:=List.length_map ..
   have ly2:(lnQ bty aty).length=aty.length:=List.length_map ..
   have g2:R.Good ((lnQ btx atx).length - 1) zs:=by rw [lx2]; exact hg
   have z2:zs.length=(lnQ bty aty).length - 1:=by rw [ly2]; omega
   have wd:=xR ux uy g2 z2 hAx.fr hAy.fr (by omega) (by omega)
  ·rw [rQ ux uy g2 z2 h0]
   exact hk _ _ wd (hF7.mono (by omega)) hB7
  ·rw [u7 hAx.pos,u7 hAy.pos,rG ux uy g2 z2 h0]
   exact hk _ _ wd (hF7.mono (by omega)) hB7
theorem aHE:FnScope ["_law_lines_here"] ["_law_lines_here"] (aQ qB):=⟨rfl,rfl,rfl,by decide +kernel,rfl,by decide +kernel,by decide +kernel⟩
abbrev aAC (P w K mg base):=Fo P w K mg base "_law_below" qB ["_law_lines_here"] 1 aH3
theorem aF8 {f:Addr}{fd:FuncData} (Df:R.Df K mg "_law_below" qB ["_law_lines_here"] f fd) (T:Bt mg):aAC P w K mg base:=by
 refine ⟨f,fd,Df,bK Df aHE (fun ds M k h => ?_) (fun cdv A outer s H E hr ds M k h => ?_)⟩
 ·obtain ⟨xs,rfl,_⟩:=h; rfl
 obtain ⟨xs,rfl,h9,hl,hk⟩:=h
 refine aL (aT (bF bN T.tuple R.BT (aC (bG [] [] (bS (aKW (aD 0 rfl ⟨_,rfl,⟨_, .inl rfl,?_⟩⟩)))))))
 have er:(aO xs).reverse=aO xs.reverse:=by unfold aO; rw [List.map_reverse]
 rw [er]
 have hl2:(aO xs.reverse).length=xs.length:=by rw [aY,List.length_reverse]
 refine b8 (by rw [hl2]; exact R.aU (by omega)) (fun i acc M'=>M'=M∧acc=aO ((xs.reverse.take i).map fun x=>0 - x)) ⟨rfl,rfl⟩ ?_ ?_
 ·rintro i d acc M' hd ⟨rfl,rfl⟩ cs C s₀ H₀ fp
  obtain ⟨x,hx,rfl⟩:=bW hd
  refine bJ (b4 fun cs C s₀ H₀ fp=>(aS (aC (aK cD (ge_int (aG aF (aD 0 rfl (ge_int (aI (.tup _) rfl (bP (aC (aG aF (aD 0 rfl (ge_int (aI (.tup _) rfl (aE ⟨(show 2≤sizeLine by decide),⟨rfl,?_⟩⟩))))))))))))))))
  rw [bY hx,← cJ]
  congr 1
  show [D.tup [.int (0 - x.num), .int (x.den:Int)]]=[bA (0 - x)]
  rw [show (0:Rat) - x = -x by grind]
  unfold bA pairD pq
  rw [Rat.neg_num,Rat.neg_den,Int.zero_sub]
 rintro acc M' ⟨rfl,rfl⟩
 rw [hl2,show xs.length=xs.reverse.length from (List.length_reverse ..).symm,List.take_length]
 exact aE (cK (.lst _) hk)
theorem eG:FnScope ["_law_yard_here", "_law_turns", "_law_is_mirrored", "_law_xs", "_law_ys", "_law_rows", "_law_turn", "_law_columns"] ["_law_yard_here", "_law_turns", "_law_is_mirrored"] (aQ k7):=⟨rfl,rfl,rfl,by decide +kernel,rfl,by decide +kernel,by decide +kernel⟩
abbrev nY (P w K mg base):=Fo P w K mg base "_law_brought" k7 ["_law_yard_here", "_law_turns", "_law_is_mirrored"] 3 aC7
theorem zG {f:Addr}{fd:FuncData} (Df:R.Df K mg "_law_brought" k7 ["_law_yard_here", "_law_turns", "_law_is_mirrored"] f fd) (aOD:aAC P w K mg base) (aN7:rN P w K mg base) (T:Bt mg):nY P w K mg base:=by
 refine ⟨f,fd,Df,bK Df eG (fun ds M k h => ?_) (fun cdv A outer s H E hr ds M k h => ?_)⟩
 ·obtain ⟨A,n,b,rfl,_⟩:=h; rfl
 obtain ⟨A,n,b,rfl,hA,hn,hk⟩:=h
 have h3:(10:Nat) ^ 100≤10 ^ 300:=by decide +kernel
 have lx:=hA.lx
 have ly:=hA.ly
 obtain ⟨hw,lK⟩:=A.wide
 refine aH (gN (aD 0 rfl (iL rfl (bT (bO 3 eG.nd (bT (bO 4 eG.nd (bT (bO 5 eG.nd (fS (aH (eA (fun Γ' M'=>M=M'∧Γ'=[some (yd A),some (.int (n:Int)),some (.bl b),some (.tup (aO (if b=true then A.mirror else A).ws)),some (.tup (aO (if b=true then A.mirror else A).us)),some (.tup ((if b=true then A.mirror else A).K.map .str)),none,none]) (cA ?_) ?_))))))))))))
 ·refine dA (aD 2 rfl ⟨_,rfl,?_⟩)
  cases b with
  | false=>exact eF (bU ⟨rfl,rfl⟩)
  | true =>
   refine b4 (aL (aEJ 3 5 eG.nd (by decide) (aC (aM aOD hr (aC (aD 3 rfl (aE ⟨A.ws,rfl,(hA.bq h3).1,by omega,?_⟩)))))))
   refine aC (bF bN T.tuple R.BT (aC (bG [] [] (bS (aD 5 rfl ⟨_, .inl rfl,(b8 (by rw [List.length_map]; exact R.aU (by omega)) (fun i2 acc M'=>M'=M∧acc=((A.K.take i2).map R.cM).map D.str) ⟨rfl,rfl⟩ ?_ ?_)⟩)))))
   ·rintro i2 d acc M' hd ⟨rfl,rfl⟩ cs C s₀ H₀ fp
    obtain ⟨z,hz,rfl⟩:=bW hd
    refine bJ (b4 fun cs C s₀ H₀ fp=>(uM (aD 0 rfl ⟨_,rfl,(by rw [hw z (List.mem_of_getElem? hz)]; exact R.aU (by omega)),⟨rfl,?_⟩⟩)))
    rw [bY hz,List.map_append]
    rfl
   rintro acc M ⟨rfl,rfl⟩
   rw [List.length_map,List.take_length]
   refine aE (cK (.lst _) (aE ⟨_,_,rfl,rfl,rfl⟩))
 rintro Γ' M' ⟨rfl,rfl⟩
 have hB:Wd (10 ^ 100) (if b=true then A.mirror else A):=by
  split
  ·exact hA.mirror
  ·exact hA
 refine aH (gA (dD T.range (aC (aD 1 rfl (aE ⟨_,rfl,by omega,by omega,?_⟩)))))
 rw [Int.toNat_natCast]
 refine ⟨fun i Γ' M'=>M=M'∧∃ v6 v7,Γ'=[some (yd A),some (.int (n:Int)),some (.bl b),some (.tup (aO (turnN i (if b=true then A.mirror else A)).ws)),some (.tup (aO (turnN i (if b=true then A.mirror else A)).us)),some (.tup ((turnN i (if b=true then A.mirror else A)).K.map .str)),v6,v7],⟨rfl,_,_,rfl⟩,?_,?_⟩
 rotate_left
 ·rintro Γ' M' ⟨rfl,v6,v7,rfl⟩
  rw [bM]
  exact aL (aT (aS (aC (aD 3 rfl (aC (aD 4 rfl (aC (aD 5 rfl (aE ⟨(show 3≤sizeLine by decide),hk⟩)))))))))
 rintro i d Γ' M' hd ⟨rfl,v6,v7,rfl⟩
 have hT:=hB.turnN i
 have tx:=hT.lx
 have ty:=hT.ly
 obtain ⟨yw,yK⟩:=(turnN i (if b=true then A.mirror else A)).wide
 have lc:=(R.jV yw).1
 refine bO 6 eG.nd (aH (aP 7 eG.nd (aM aN7 hr (aC (bF dE T.list R.BL (aC (aD 5 rfl (aE (hV (.tup _) (aE ⟨(turnN i (if b=true then A.mirror else A)).K,(turnN i (if b=true then A.mirror else A)).ws.length - 1,rfl,by omega,by omega,yw,?_⟩))))))))))
 refine aL (aKK 3 4 5 eG.nd (by decide) (aC (aM aOD hr (aC (aD 4 rfl (aE ⟨(turnN i (if b=true then A.mirror else A)).us,rfl,(hT.bq h3).2,by omega,?_⟩))))))
 refine aC (aD 3 rfl (aC (bF bN T.tuple R.BT (aC (bG [] [] (bS (aD 7 rfl ⟨_, .inr (.inl rfl),(b8 (by rw [List.length_map]; exact R.aU (by omega)) (fun i2 acc M'=>M'=M∧acc=(((R.aJ (turnN i (if b=true then A.mirror else A)).K).take i2).map R.cM).map D.str) ⟨rfl,rfl⟩ ?_ ?_)⟩)))))))
 ·rintro i2 d acc M' hd ⟨rfl,rfl⟩ cs C s₀ H₀ fp
  obtain ⟨z,hz,rfl⟩:=bW hd
  refine bJ (b4 fun cs C s₀ H₀ fp=>(uM (aD 0 rfl ⟨_,rfl,(by rw [R.dB z (List.mem_of_getElem? hz)]; exact R.aU (by omega)),⟨rfl,?_⟩⟩)))
  rw [bY hz,List.map_append]
  rfl
 rintro acc M ⟨rfl,rfl⟩
 rw [List.length_map,List.take_length]
 exact aE (cK (.lst _) (aE ⟨_,_,_,rfl,rfl,_,_,rfl⟩))
theorem mL:FnScope ["_law_yard_here", "_law_x", "_law_y", "_law_xs", "_law_ys", "_law_rows"] ["_law_yard_here", "_law_x", "_law_y"] (aQ n6):=⟨rfl,rfl,rfl,by decide +kernel,rfl,by decide +kernel,by decide +kernel⟩
abbrev rO (P w K mg base):=Fo P w K mg base "_law_moved" n6 ["_law_yard_here", "_law_x", "_law_y"] 3 aA6
theorem aEP {f:Addr}{fd:FuncData} (Df:R.Df K mg "_law_moved" n6 ["_law_yard_here", "_law_x", "_law_y"] f fd) (aN9:nF P w K mg base) (T:Bt mg):rO P w K mg base:=by
 refine ⟨f,fd,Df,bK Df mL (fun ds M k h => ?_) (fun cdv A outer s H E hr ds M k h => ?_)⟩
 ·obtain ⟨A,a,b,rfl,_⟩:=h; rfl
 obtain ⟨A,a,b,rfl,h9,g9,ba,bb,hl,gl,hk⟩:=h
 refine aH (gN (aD 0 rfl (iL rfl (bT (bO 3 mL.nd (bT (bO 4 mL.nd (bT (bO 5 mL.nd (fS (aL (aT (aS (aC (bF bN T.tuple R.BT (aC (bG ["_law_x"] [1] (bS (aD 3 rfl ⟨_, .inl rfl,(b8 (by rw [aY]; exact R.aU (by omega)) (fun i acc M'=>M'=M∧acc=aO ((A.ws.take i).map (· + a))) ⟨rfl,rfl⟩ ?_ ?_)⟩)))))))))))))))))))
 ·rintro i d acc M' hd ⟨rfl,rfl⟩ cs C s₀ H₀ fp
  obtain ⟨x,hx,rfl⟩:=bW hd
  refine bJ (b4 fun cs C s₀ H₀ fp=>(aM aN9 hr (aC (aD 0 rfl (aC (aD 1 rfl (aE ⟨x,a,rfl,h9 x (List.mem_of_getElem? hx),ba,⟨rfl,?_⟩⟩)))))))
  rw [bY hx,← cJ]
  rfl
 rintro acc M ⟨rfl,rfl⟩
 rw [aY,List.take_length]
 refine aE (cK (.lst _) (aC (bF bN T.tuple R.BT (aC (bG ["_law_y"] [2] (bS (aD 4 rfl ⟨_, .inl rfl,(b8 (by rw [aY]; exact R.aU (by omega)) (fun i acc M'=>M'=M∧acc=aO ((A.us.take i).map (· + b))) ⟨rfl,rfl⟩ ?_ ?_)⟩)))))))
 ·rintro i d acc M' hd ⟨rfl,rfl⟩ cs C s₀ H₀ fp
  obtain ⟨x,hx,rfl⟩:=bW hd
  refine bJ (b4 fun cs C s₀ H₀ fp=>(aM aN9 hr (aC (aD 0 rfl (aC (aD 1 rfl (aE ⟨x,b,rfl,g9 x (List.mem_of_getElem? hx),bb,⟨rfl,?_⟩⟩)))))))
  rw [bY hx,← cJ]
  rfl
 rintro acc M ⟨rfl,rfl⟩
 rw [aY,List.take_length]
 exact aE (cK (.lst _) (aC (aD 5 rfl (aE ⟨(show 3≤sizeLine by decide),hk⟩))))
theorem gX:FnScope ["_law_feed_here", "_law_one", "_law_other", "_law_x", "_law_way"] ["_law_feed_here"] (aQ r8):=⟨rfl,rfl,rfl,by decide +kernel,rfl,by decide +kernel,by decide +kernel⟩
abbrev aDB (P w K mg base):=Fo P w K mg base "_law_pair" r8 ["_law_feed_here"] 4 aNK
theorem aKH {f:Addr}{fd:FuncData} (Df:R.Df K mg "_law_pair" r8 ["_law_feed_here"] f fd) (aN5:lH P w K mg base) (aN9:nF P w K mg base) (aOE:aAA P w K mg base) (aOF:aDX P w K mg base) (aOG:nY P w K mg base) (aOH:rO P w K mg base) (aOI:vK P w K mg base) (T:Bt mg):aDB P w K mg base:=by
 refine ⟨f,fd,Df,bK Df gX (fun ds M k h => ?_) (fun cdv A outer s H E hr ds M k h => ?_)⟩
 ·obtain ⟨p,rfl,_⟩:=h; rfl
 obtain ⟨p,rfl,hF0,hk⟩:=h
 refine aH (aP 1 gX.nd (aM aOE hr (aC (aD 0 rfl (aC (aG aF (b7 (aC (ge_int (aC (ge_int (aC (ge_int (aE ⟨(show 3≤sizeLine by decide),(aM aN5 hr (aC (aD 0 rfl (aC (ge_int (aE ⟨p,_,_,rfl,by decide,by decide,hF0,by omega,fun z1 M1 z10 z11 hF1 hB1 hE1 => ?_⟩))))))⟩))))))))))))))
 obtain ⟨mo,hmo,m1,m2⟩:=pick246 z10 z11
 refine aI (.lst _) hmo (aE ⟨p,_,mo,rfl,m1,m2,hF1,by omega,fun A1 M2 w1 hF2 hB2 => ?_⟩)
 refine aH (eA (fun Γ' M'=>∃ A:Yd,Wd (10 ^ 20) A∧Γ'=[some (.mt p),some (yd A),none,none,none]∧FdM M' p 1010∧cY p M M') (cA ?_) ?_)
 ·refine bD dG (aM aN5 hr (aC (aD 0 rfl (aC (ge_int (aE ⟨p,_,_,rfl,by decide,by decide,hF2,by omega,fun z3 M3 z30 z31 hF3 hB3 hE3 => ?_⟩))))))
  refine ge_int (d6 ⟨_,rfl,(ite2 (fun h2=>aL (aP 1 gX.nd (aM aOF hr (aC (aD 0 rfl (aC (aD 1 rfl (aE ⟨p,_,A1,rfl,w1,hF3,by omega,fun A2 M4 w2 hF4 hB4 => ?_⟩)))))))) (fun h2=>bU ⟨A1,w1,rfl,hF3.mono (by omega),(hB1.trans hB2).trans hB3⟩))⟩)
  exact ⟨A2,w2,rfl,hF4.mono (by omega),((hB1.trans hB2).trans hB3).trans hB4⟩
 clear hF0 hF1 hF2 hB1 hB2 w1
 rintro Γ' M0 ⟨A,wA,rfl,hF0,hB0⟩
 refine aH (aP 2 gX.nd (aM aOG hr (aC (aD 1 rfl (aC (aM aN5 hr (aC (aD 0 rfl (aC (ge_int (aE ⟨p,_,_,rfl,by decide,by decide,hF0,by omega,fun z1 M1 z10 z11 hF1 hB1 hE1 => ?_⟩)))))))))))
 refine aC (cB dG (aM aN5 hr (aC (aD 0 rfl (aC (ge_int (aE ⟨p,_,_,rfl,by decide,by decide,hF1,by omega,fun z2 M2 z20 z21 hF2 hB2 hE2 => ?_⟩)))))))
 refine ge_int (d6 (aE ⟨A,z1.toNat,_,by rw [Int.toNat_of_nonneg z10],wA.mono (by decide +kernel),by omega,?_⟩))
 have wB:Wd (10 ^ 20) (bring (decide (z2=1),z1.toNat) A):=wA.bring _
 generalize bring (decide (z2=1),z1.toNat) A=B0 at wB ⊢
 have lx:=wB.lx
 have ly:=wB.ly
 refine aH (aP 3 gX.nd (aM aN9 hr (aC (aS (aC (aK cD (aM aN5 hr (aC (aD 0 rfl (aC (aK sC (ge_int (ge_int (bR ⟨by decide,by decide,by decide⟩ (aE ⟨p,_,_,rfl,by decide,by decide,hF2,by omega,fun z3 M3 z30 z31 hF3 hB3 hE3 => ?_⟩)))))))))))))))
 refine aK gP (ge_int (aK sC (ge_int (ge_int (bR ⟨by decide,by decide,by decide⟩ (bR (.inl ⟨by decide,by decide⟩) (bP (aC (ge_int (aE ⟨(show 2≤sizeLine by decide),(aC (aS (aC (ge_int (aC (aK b5 (ge_int (aM aN5 hr (aC (aD 0 rfl (aC (ge_int (aE ⟨p,_,_,rfl,by decide,by decide,hF3,by omega,fun z4 M4 z40 z41 hF4 hB4 hE4 => ?_⟩)))))))))))))⟩))))))))))
 refine bP (aE ⟨(show 2≤sizeLine by decide),(aE ⟨((z3 - 500000000:Int):Rat),Rat.divInt 1 (1+z4),by rw [← wO (by omega)]; rfl,cP (nP (small10 z30 z31)) (by decide +kernel),cP (p9 (n:=1+z4) (by omega) (by omega)).1 (by decide +kernel),?_⟩)⟩)
 have x3:=(nP (small10 z30 z31)).add (p9 (n:=1+z4) (by omega) (by omega)).1
 generalize ((z3 - 500000000:Int):Rat)+Rat.divInt 1 (1+z4)=x at x3 ⊢
 refine aH (aP 2 gX.nd (aM aOH hr (aC (aD 2 rfl (aC (aD 3 rfl (aC (aS (aC (aK cD (aM aN5 hr (aC (aD 0 rfl (aC (ge_int (aE ⟨p,_,_,rfl,by decide,by decide,hF4,by omega,fun z5 M5 z50 z51 hF5 hB5 hE5 => ?_⟩))))))))))))))))
 refine ge_int (bP (aC (ge_int (aE ⟨(show 2≤sizeLine by decide),(aE ⟨B0,x,((z5 - 20:Int):Rat),rfl,(wB.bq (by decide +kernel)).1,(wB.bq (by decide +kernel)).2,cP x3 (by decide +kernel),cP (nP (small5 z50 z51)) (by decide +kernel),by omega,by omega,?_⟩)⟩))))
 have wS:=(wB.shift x3 ((nP (small5 z50 z51)).mono (by decide +kernel))).mono (show _≤10 ^ 30 by decide +kernel)
 generalize B0.shift x ((z5 - 20:Int):Rat)=B1 at wS ⊢
 have hBa:=((((hB0.trans hB1).trans hB2).trans hB3).trans hB4).trans hB5
 refine aH (aP 4 gX.nd (aM aN5 hr (aC (aD 0 rfl (aC (ge_int (aE ⟨p,_,_,rfl,by decide,by decide,hF5,by omega,fun z6 M6 z60 z61 hF6 hB6 hE6 => ?_⟩)))))))
 refine aH (eA (fun Γ' M'=>∃ B:Yd,Wd (10 ^ 50) B∧Γ'=[some (.mt p),some (yd A),some (yd B),some (bA x),some (.int z6)]∧FdM M' p 1050∧cY p M M') (cA ?_) ?_)
 ·refine bD dG (aD 4 rfl (ge_int (d6 ⟨_,rfl,(ite2 (fun h2=>aL (aP 2 gX.nd (aM aOI hr (aC (aD 0 rfl (aC (aD 2 rfl (aE ⟨p,_,B1,rfl,wS,hF6,by omega,fun B M7 w7 hF7 hB7 => ?_⟩)))))))) (fun h2=>bU ⟨B1,wS.mono (by decide +kernel),rfl,hF6.mono (by omega),hBa.trans hB6⟩))⟩)))
  exact ⟨B,w7.mono (by decide +kernel),rfl,hF7.mono (by omega),(hBa.trans hB6).trans hB7⟩
 rintro Γ' M7 ⟨B,wB2,rfl,hF7,hB7⟩
 refine aH (eA (fun Γ' M'=>∃ B:Yd,Wd (10 ^ 50) B∧Γ'=[some (.mt p),some (yd A),some (yd B),some (bA x),some (.int z6)]∧cY p M M') (cA ?_) ?_)
 ·refine bD dG (aD 4 rfl (ge_int (d6 ⟨_,rfl,(ite2 (fun h2=>aL (aP 2 gX.nd (aM aOE hr (aC (aD 0 rfl (aC (ge_int (aE ⟨p,_,4,rfl,by decide,by decide,hF7,by omega,fun B M8 w8 hF8 hB8 => ?_⟩)))))))) (fun h2=>bU ⟨B,wB2,rfl,hB7⟩))⟩)))
  exact ⟨B,w8.mono (by decide +kernel),rfl,hB7.trans hB8⟩
 rintro Γ' M8 ⟨B,wB3,rfl,hB8⟩
 exact aL (aT (b7 (aC (aD 1 rfl (aC (aD 2 rfl (aE ⟨(show 2≤sizeLine by decide),(hk A B M8 (wA.mono (by decide +kernel)) wB3 hB8)⟩)))))))
theorem lD:FnScope ["_law_one", "_law_other", "_law_turns", "_law_is_mirrored", "_law_yard_here", "_law_x", "_law_y"] ["_law_one", "_law_other", "_law_turns", "_law_is_mirrored"] (aQ sQ):=⟨rfl,rfl,rfl,by decide +kernel,rfl,by decide +kernel,by decide +kernel⟩
abbrev aDA (P w K mg base):=Fo P w K mg base "_law_laid" sQ ["_law_one", "_law_other", "_law_turns", "_law_is_mirrored"] 4 aMB
theorem aIH {f:Addr}{fd:FuncData} (Df:R.Df K mg "_law_laid" sQ ["_law_one", "_law_other", "_law_turns", "_law_is_mirrored"] f fd) (aOG:nY P w K mg base) (aN9:nF P w K mg base) (aOH:rO P w K mg base) (T:Bt mg):aDA P w K mg base:=by
 refine ⟨f,fd,Df,bK Df lD (fun ds M k h => ?_) (fun cdv A outer s H E hr ds M k h => ?_)⟩
 ·obtain ⟨A,B,n,b,rfl,_⟩:=h; rfl
 obtain ⟨A,B,n,b,rfl,hA,hB,hn,hk⟩:=h
 have hY:=hA.bring (b,n)
 have h3:(10:Nat) ^ 100≤10 ^ 300:=by decide +kernel
 have h4:(10:Nat) ^ 100+10 ^ 100≤10 ^ 300:=by decide +kernel
 have st:=pP hY hB
 refine aH (aP 4 lD.nd (aM aOG hr (aC (aD 0 rfl (aC (aD 2 rfl (aC (aD 3 rfl (aE ⟨A,n,b,rfl,hA,hn,?_⟩)))))))))
 unfold laid at hk
 generalize bring (b,n) A=Y at *
 have lx:=hY.lx
 have ly:=hY.ly
 refine aH (gN (aS (aC (aS (aC (ge_int (aC (ge_int (aE ⟨(show 2≤sizeLine by decide),(aC (aS (aC (ge_int (aC (ge_int (aE ⟨(show 2≤sizeLine by decide),(aE ⟨(show 2≤sizeLine by decide),(iL rfl (bT (bO 5 lD.nd (bT (bO 6 lD.nd (fS (aH (eA (fun Γ' M'=>M=M'∧Γ'=[some (yd A),some (yd B),some (.int (n:Int)),some (.bl b),some (yd Y),some (bA (jU Y B)),some (bA (jQ Y B))]) (cA (pA (P:=fun c M1=>(c=true↔¬ (Y=Yd.void∨B=Yd.void))∧M1=M) (kL (pQ (bD (sU (n:=2) (R.units_le hr)) ?_))) ?_)) ?_))))))))⟩)⟩)))))))⟩)))))))))
 ·refine aG aF (aD 4 rfl (ge_int (aI (.tup _) rfl (aS (aE ⟨(show 0≤sizeLine by decide),(sK (e1 := .tup (aO Y.ws)) (e2 := .tup []) (.tup _) (.tup _) (i8 (mU _)) rfl ⟨_,rfl,?_⟩)⟩)))))
  rw [uA]
  refine ite2 (fun h1=>m7 (bD (sU (n:=2) (R.units_le hr)) ?_)) (fun h1=>⟨⟨(fun z=>nomatch z),fun z=>absurd (.inl ((yX Y).mp (by simpa using h1))) z⟩,rfl⟩)
  have h1:¬ aO Y.ws=[]:=by simpa using h1
  refine aG aF (aD 1 rfl (ge_int (aI (.tup _) rfl (aS (aE ⟨(show 0≤sizeLine by decide),(sK (e1 := .tup (aO B.ws)) (e2 := .tup []) (.tup _) (.tup _) (i8 (mU _)) rfl ⟨_,rfl,?_,rfl⟩)⟩)))))
  rw [uA,Bool.not_eq_true',decide_eq_false_iff_not,yX]
  exact ⟨fun z=>not_or.mpr ⟨fun e=>h1 ((yX Y).mpr e),z⟩,fun z=>(not_or.mp z).2⟩
 ·rintro c M1 ⟨hc,rfl⟩
  refine ite2 (fun h1 => ?_) (fun h1=>bU ⟨rfl,?_⟩)
  ·have h1:=hc.mp h1
   have a1:=Y.big.resolve_left fun e=>h1 (.inl ((eJ Y).mpr e))
   have b1:=B.big.resolve_left fun e=>h1 (.inr ((eJ B).mpr e))
   have ng:∀ q:Rat,D.tup [.int (0 - q.num), .int (q.den:Int)]=bA (0 - q):=fun q=>by
    rw [show (0:Rat) - q = -q by grind]
    unfold bA pairD pq
    rw [Rat.neg_num,Rat.neg_den,Int.zero_sub]
   have sb:∀ x y:Rat,x+(0 - y)=x - y:=fun x y=>by grind
   refine aH (aP 5 lD.nd (aM aN9 hr (aC (aG aF (aG aF (aD 1 rfl (ge_int (aI (.tup _) rfl (ge_int (aI (.tup _) (jO (ws:=B.ws) (i:=0) (by omega)) (aC (aS (aC (aK cD (ge_int (aG aF (aG aF (aG aF (aD 4 rfl (ge_int (aI (.tup _) rfl (ge_int (aI (.tup _) (jO (ws:=Y.ws) (i:=0) (by omega)) (ge_int (aI (.tup _) rfl (bP (aC (aG aF (aG aF (aG aF (aD 4 rfl ?_)))))))))))))))))))))))))))))))
   refine ge_int (aI (.tup _) rfl (ge_int (aI (.tup _) (jO (ws:=Y.ws) (i:=0) (by omega)) (ge_int (aI (.tup _) rfl (aE ⟨(show 2≤sizeLine by decide),(aE ⟨_,0 - Y.ws.getD 0 0,by rw [← ng]; rfl,cP (hB.x.at 0) h3,(cP (hY.x.at 0) h3).neg,(aL (aP 6 lD.nd (aM aN9 hr (aC (aG aF (aG aF (aD 1 rfl (ge_int (aI (.tup _) rfl (ge_int (aI (.tup _) (jO (ws:=B.us) (i:=0) (by omega)) (aC (aS (aC (aK cD (ge_int (aG aF (aG aF (aG aF (aD 4 rfl (ge_int (aI (.tup _) rfl ?_))))))))))))))))))))))⟩)⟩))))))
   refine ge_int (aI (.tup _) (jO (ws:=Y.us) (i:=0) (by omega)) (ge_int (aI (.tup _) rfl (bP (aC (aG aF (aG aF (aG aF (aD 4 rfl (ge_int (aI (.tup _) rfl (ge_int (aI (.tup _) (jO (ws:=Y.us) (i:=0) (by omega)) (ge_int (aI (.tup _) rfl (aE ⟨(show 2≤sizeLine by decide),(aE ⟨_,0 - Y.us.getD 0 0,by rw [← ng]; rfl,cP (hB.y.at 0) h3,(cP (hY.y.at 0) h3).neg,⟨rfl,?_⟩⟩)⟩))))))))))))))))
   unfold jU jQ
   rw [if_neg h1,if_neg h1,sb,sb]
   rfl
  ·unfold jU jQ
   have h1:Y=Yd.void∨B=Yd.void:=Classical.byContradiction fun z=>h1 (hc.mpr z)
   rw [if_pos h1,if_pos h1]
   rfl
 rintro Γ' M' ⟨rfl,rfl⟩
 refine aL (aT (b7 (aC (aM aOH hr (aC (aD 4 rfl (aC (aD 5 rfl (aC (aD 6 rfl (aE ⟨Y,_,_,rfl,(hY.bq h3).1,(hY.bq h3).2,cP st.1 h4,cP st.2 h4,by omega,by omega,?_⟩)))))))))))
 exact aC (aD 5 rfl (aC (aD 6 rfl (aE ⟨(show 3≤sizeLine by decide),hk⟩))))
theorem jF:FnScope ["_law_lines_here", "_law_at", "_law_found", "_law_k", "_law_is_behind", "_law_is_ahead"] ["_law_lines_here", "_law_at"] (aQ l9):=⟨rfl,rfl,rfl,by decide +kernel,rfl,by decide +kernel,by decide +kernel⟩
abbrev u6 (P w K mg base):=Fo P w K mg base "_law_touched" l9 ["_law_lines_here", "_law_at"] 1 aC3
theorem aCK {f:Addr}{fd:FuncData} (Df:R.Df K mg "_law_touched" l9 ["_law_lines_here", "_law_at"] f fd) (T:Bt mg):u6 P w K mg base:=by
 refine ⟨f,fd,Df,bK Df jF (fun ds M k h => ?_) (fun cdv A outer s H E hr ds M k h => ?_)⟩
 ·obtain ⟨ws,x,rfl,_⟩:=h; rfl
 obtain ⟨ws,x,rfl,hl,hw,hx,hk⟩:=h
 have m1:∀ {i:Nat},i < ws.length→ws.getD i 0∈ws:=fun {i} h=>by rw [gD h]; exact List.getElem_mem h
 refine aH (aP 2 jF.nd (iY (aE ⟨(show 0≤sizeLine by decide),fun a ha=>(aH (gA (aJV T.range (aC (fZ dH (ge_int ⟨_,rfl,(aC (bB bI T.len PySem.boot_len (aC (aD 0 rfl (aE (cH (.tup _) (aE ?_)))))))⟩))))))⟩)))
 rw [aY]
 refine ⟨-1,_,rfl,⟨by omega,by omega,by omega,by omega⟩,(⟨fun i Γ' M'=>∃ ks v3 v4 v5,Γ'=[some (.tup (aO ws)),some (bA x),some (.mt a),v3,v4,v5]∧M'=cF M a (.lst (ks.map .int))∧ks.length≤i∧∀ e∈ks,∃ k,Tb ws x k∧e=if k=(ws.length:Int) - 1 then -1 else k,⟨[],_,_,_,rfl,rfl,Nat.le_refl _,fun e he=>(nomatch he)⟩,?_,?_⟩)⟩
 rotate_left
 ·rintro Γ' M' ⟨ks,v3,v4,v5,rfl,rfl,h1,h2⟩
  rw [bM] at h1
  exact aL (aT (nN (aD 2 rfl (⟨a,_,M,rfl,aZ,ha,(Le.refl M).upd ha,hk ks ⟨by omega,h2⟩⟩))))
 rintro i d Γ' M' hd ⟨ks,v3,v4,v5,rfl,rfl,h1,h2⟩
 obtain ⟨hi,rfl⟩:=cR hd
 generalize ek:(-1:Int)+(i:Nat)=j
 refine bO 3 jF.nd (aH (eA (fun Γ' M'=>M'=cF M a (.lst (ks.map .int))∧Γ'=[some (.tup (aO ws)),some (bA x),some (.mt a),some (.int j),some (.bl (decide (j < 0∨ws.getD j.toNat 0≤x))),v5]) (aP 4 jF.nd (aB7 ?_)) ?_))
 ·refine cB jG (aD 3 rfl (ge_int (eQ (⟨_,rfl,ite2 (fun h1=>⟨rfl,?_⟩) (fun h1=>lJ ?_)⟩))))
  ·rw [decide_eq_true (show j < 0∨_ from .inl (of_decide_eq_true h1))]
   rfl
  have h0:0≤j:=by
   have:¬ j < 0:=fun z=>h1 (decide_eq_true z)
   omega
  have b1:=(hw _ (m1 (i:=j.toNat) (by omega))).g
  refine cB aCN (aK c7 (aG aF (aG aF (aD 0 rfl (aD 3 rfl (aI (.tup _) (sH h0 (by omega)) (ge_int (aI (.tup _) rfl (aG aF (aD 1 rfl (ge_int (aI (.tup _) rfl (bR ⟨big400 b1.a,big400 hx.g.b⟩ (aK c7 (aG aF (aD 1 rfl (ge_int (aI (.tup _) rfl (aG aF (aG aF (aD 0 rfl (aD 3 rfl (aI (.tup _) (sH h0 (by omega)) (ge_int (aI (.tup _) rfl (bR ⟨big400 hx.g.a,big400 b1.b⟩ (eQ ⟨rfl,?_⟩)))))))))))))))))))))))))))
  rw [aHY]
  have:(j < 0∨ws.getD j.toNat 0≤x)↔ws.getD j.toNat 0≤x:=⟨fun z=>z.resolve_left (by omega), .inr⟩
  rw [decide_eq_decide.mpr this]
  rfl
 rintro Γ' M' ⟨rfl,rfl⟩
 refine aH (eA (fun Γ' M'=>M'=cF M a (.lst (ks.map .int))∧Γ'=[some (.tup (aO ws)),some (bA x),some (.mt a),some (.int j),some (.bl (decide (j < 0∨ws.getD j.toNat 0≤x))),some (.bl (decide ((ws.length:Int)≤j+1∨x≤ws.getD (j+1).toNat 0)))]) (aP 5 jF.nd (aB7 ?_)) ?_)
 ·refine cB sA (aK b5 (aD 3 rfl (ge_int (bP (bB bI T.len PySem.boot_len (aC (aD 0 rfl (aE (cH (.tup _) (eQ ?_))))))))))
  rw [aY]
  refine ⟨_,rfl,ite2 (fun h1=>⟨rfl,?_⟩) (fun h1=>lJ ?_)⟩
  ·rw [decide_eq_true (show (ws.length:Int)≤j+1∨_ from .inl (of_decide_eq_true h1))]
   rfl
  have h0:j+1 < ws.length:=by
   have:¬ (ws.length:Int)≤j+1:=fun z=>h1 (decide_eq_true z)
   omega
  have b1:=(hw _ (m1 (i:=(j+1).toNat) (by omega))).g
  refine cB aCN (aK c7 (aG aF (aD 1 rfl (ge_int (aI (.tup _) rfl (aG aF (aG aF (aD 0 rfl (aK b5 (aD 3 rfl (ge_int (bP (aI (.tup _) (sH (by omega) h0) (ge_int (aI (.tup _) rfl (bR ⟨big400 hx.g.a,big400 b1.b⟩ (aK c7 (aG aF (aG aF (aD 0 rfl (aK b5 (aD 3 rfl (ge_int (bP (aI (.tup _) (sH (by omega) h0) (ge_int (aI (.tup _) rfl (aG aF (aD 1 rfl (ge_int ?_))))))))))))))))))))))))))))))
  refine aI (.tup _) rfl (bR ⟨big400 b1.a,big400 hx.g.b⟩ (eQ ⟨rfl,?_⟩))
  rw [aHY]
  have:((ws.length:Int)≤j+1∨x≤ws.getD (j+1).toNat 0)↔x≤ws.getD (j+1).toNat 0:=⟨fun z=>z.resolve_left (by omega), .inr⟩
  rw [decide_eq_decide.mpr this]
  rfl
 rintro Γ' M' ⟨rfl,rfl⟩
 refine aL (cA (pA (P:=fun c M1=>(c=true→Tb ws x j)∧M1=cF M a (.lst (ks.map .int))) (kL (pQ ?_)) ?_))
 ·exact dA (aD 4 rfl ⟨_,rfl,(ite2 (fun h1=>m7 (dA (aD 5 rfl ⟨_,rfl,(⟨fun z=>⟨by omega,by omega,of_decide_eq_true h1,of_decide_eq_true z⟩,rfl⟩)⟩))) (fun h1=>⟨(fun z=>nomatch z),rfl⟩))⟩)
 rintro c M1 ⟨hc,rfl⟩
 refine ite2 (fun h3=>aL (iZ (fL PySem.F.plainAttrs_list PySem.F.slot_list_append PySem.F.type_list_append fD (aD 2 rfl (⟨⟨rfl,_,aZ⟩,(aC (aG aF (b7 (aC (aD 3 rfl (aC (fZ dH (ge_int ⟨_,rfl,(aE ⟨(show 2≤sizeLine by decide),(bF lT T.int R.BI (aC (cB dG (aD 3 rfl (aK cD (bB bI T.len PySem.boot_len (aC (aD 0 rfl (aE (cH (.tup _) (ge_int (bP (d6 (aE (qD (aI (.lst _) (pick2i _ _) ?_))))))))))))))))⟩)⟩))))))))⟩))))) (fun h3=>bU ⟨ks,_,_,_,rfl,rfl,by omega,h2⟩)
 refine aE (gQ aZ (by rw [List.length_map]; exact Nat.lt_of_le_of_lt (show ks.length≤100 by omega) (by decide)) ⟨ks++[if j=(ws.length:Int) - 1 then -1 else j],_,_,_,rfl,?_,by rw [List.length_append]; show ks.length+1≤i+1; omega,fun e he => ?_⟩)
 ·rw [lW,List.map_append,aY]
  simp only [decide_eq_true_eq]
  rfl
 rcases List.mem_append.mp he with he | he
 ·exact h2 e he
 ·rw [List.mem_singleton] at he
  exact ⟨j,hc h3,he⟩
theorem jX:FnScope ["_law_yard_here", "_law_x", "_law_y", "_law_found", "_law_row", "_law_column", "_law_sign"] ["_law_yard_here", "_law_x", "_law_y"] (aQ p8):=⟨rfl,rfl,rfl,by decide +kernel,rfl,by decide +kernel,by decide +kernel⟩
abbrev aAP (P w K mg base):=Fo P w K mg base "_law_signs" p8 ["_law_yard_here", "_law_x", "_law_y"] 2 aJ8
theorem aFO {f:Addr}{fd:FuncData} (Df:R.Df K mg "_law_signs" p8 ["_law_yard_here", "_law_x", "_law_y"] f fd) (aOJ:u6 P w K mg base):aAP P w K mg base:=by
 refine ⟨f,fd,Df,bK Df jX (fun ds M k h => ?_) (fun cdv A outer s H E hr ds M k h => ?_)⟩
 ·obtain ⟨A,x,y,c,rfl,_⟩:=h; rfl
 obtain ⟨A,x,y,c,rfl,lx,ly,bx,by_,hx,hy,ab,hk⟩:=h
 refine aH (aP 3 jX.nd (iY (aE ⟨(show 0≤sizeLine by decide),fun a ha=>(aH (gA (bS (aM aOJ hr (aC (aG aF (aD 0 rfl (ge_int (aI (.tup _) rfl (aC (aD 2 rfl (aE ⟨A.us,y,rfl,ly,by_,hy,fun ks hks=>⟨_, .inr (.inl rfl),(⟨fun i Γ' M'=>∃ n v4 v5 v6,Γ'=[some (yd A),some (bA x),some (bA y),some (.mt a),v4,v5,v6]∧M'=cF M a (.lst (List.replicate n (sgD c)))∧n≤i * 91,⟨0,_,_,_,rfl,rfl,by omega⟩,?_,?_⟩)⟩⟩))))))))))))⟩)))
 rotate_left
 ·rintro Γ' M' ⟨n,v4,v5,v6,rfl,rfl,_⟩
  exact aL (aT (nN (aD 3 rfl ⟨a,_,M,rfl,aZ,ha,(Le.refl M).upd ha,hk n⟩)))
 rintro i d Γ' M' hd ⟨n,v4,v5,v6,rfl,rfl,hn⟩
 obtain ⟨r,hr1,rfl⟩:=bW hd
 have hi:=(List.getElem?_eq_some_iff.mp hr1).1
 have hr2:=hks.2 r (List.mem_of_getElem? hr1)
 have kl:=hks.1
 refine bO 4 jX.nd (aL (gA (bS (aM aOJ hr (aC (aG aF (aD 0 rfl (ge_int (aI (.tup _) rfl (aC (aD 1 rfl (aE ⟨A.ws,x,rfl,lx,bx,hx,fun ls hls=>⟨_, .inr (.inl rfl),(⟨fun i2 Γ' M'=>∃ n v5 v6,Γ'=[some (yd A),some (bA x),some (bA y),some (.mt a),some (.int r),v5,v6]∧M'=cF M a (.lst (List.replicate n (sgD c)))∧n≤i * 91+i2,⟨n,_,_,rfl,rfl,by omega⟩,?_,?_⟩)⟩⟩))))))))))))
 rotate_left
 ·rintro Γ' M' ⟨n,v5,v6,rfl,rfl,hn2⟩
  have:=hls.1
  rw [List.length_map] at hn2
  exact ⟨n,_,_,_,rfl,rfl,by omega⟩
 rintro i2 d Γ' M' hd ⟨n,v5,v6,rfl,rfl,hn⟩
 obtain ⟨q,hq1,rfl⟩:=bW hd
 have hi2:=(List.getElem?_eq_some_iff.mp hq1).1
 have hq2:=hls.2 q (List.mem_of_getElem? hq1)
 have ll:=hls.1
 refine bO 5 jX.nd (aH (aP 6 jX.nd (ge_str (aH (eA (fun Γ' M'=>M'=cF M a (.lst (List.replicate n (sgD c)))∧Γ'=[some (yd A),some (bA x),some (bA y),some (.mt a),some (.int r),some (.int q),some (sgD c)]) (cA (pA (P:=fun t M1=>(t=true↔0≤r∧0≤q)∧M1=cF M a (.lst (List.replicate n (sgD c)))) (kL (pQ ?_)) ?_)) ?_)))))
 ·exact bD sA (aD 4 rfl (ge_int (eQ ⟨_,rfl,(ite2 (fun h1=>m7 (bD sA (aD 5 rfl (ge_int (eQ ⟨_,rfl,(⟨⟨fun z=>⟨of_decide_eq_true h1,of_decide_eq_true z⟩,fun z=>decide_eq_true z.2⟩,rfl⟩)⟩))))) (fun h1=>⟨⟨(fun z=>nomatch z),fun z=>absurd (decide_eq_true z.1) h1⟩,rfl⟩))⟩)))
 ·rintro t M1 ⟨ht,rfl⟩
  refine ite2 (fun h1 => ?_) (fun h1=>bU ⟨rfl,?_⟩)
  ·obtain ⟨z,e1,e2,e3⟩:=aKY ab hr2 hq2 (ht.mp h1)
   exact aL (aP 6 jX.nd (aG aF (aG aF (aG aF (aD 0 rfl (ge_int (aI (.tup _) rfl (aD 4 rfl (aI (.tup _) e1 (aD 5 rfl (gB (R.aU (by omega)) e3 ⟨rfl,rfl⟩)))))))))))
  ·rw [aFK ab hr2 hq2 fun z=>h1 (ht.mpr z)]
   rfl
 rintro Γ' M' ⟨rfl,rfl⟩
 have hi3:i * 91≤91 * 91:=Nat.mul_le_mul (by omega) (Nat.le_refl _)
 refine aL (iZ (fL PySem.F.plainAttrs_list PySem.F.slot_list_append PySem.F.type_list_append fD (aD 3 rfl (⟨⟨rfl,_,aZ⟩,(aC (aD 6 rfl (aE (gQ aZ (by rw [List.length_replicate]; exact Nat.lt_of_le_of_lt (show n≤10000 by omega) (by decide)) ⟨n+1,_,_,rfl,?_,by omega⟩))))⟩))))
 rw [lW,List.replicate_succ']
theorem pK:FnScope ["_law_thing", "_law_part"] ["_law_thing"] (aQ j6):=⟨rfl,rfl,rfl,by decide +kernel,rfl,by decide +kernel,by decide +kernel⟩
abbrev qV (P w K mg base):=Fo P w K mg base "_law_is_number" j6 ["_law_thing"] 2 aI6
theorem xA {f:Addr}{fd:FuncData} (Df:R.Df K mg "_law_is_number" j6 ["_law_thing"] f fd) (aN8:oM P w K mg base) (T:Bt mg):qV P w K mg base:=by
 refine ⟨f,fd,Df,bK Df pK (fun ds M k h => ?_) (fun cdv A outer s H E hr ds M k h => ?_)⟩
 ·obtain ⟨q,rfl,_⟩:=h; rfl
 obtain ⟨q,rfl,hk⟩:=h
 have d0:=q.den_pos
 refine aH (cA (pE (B:=false) (kL (gJ (fP ?_))) (eF (bU ?_))))
 ·exact dA (kK (.inr (.inr (.inr (.inl rfl)))) T.isi T.tuple R.BT (aD 0 rfl ⟨_, .self trivial,⟨_,rfl,(eF (lG (bD jK (bB bI T.len PySem.boot_len (aC (aD 0 rfl (aE (cH (.tup _) (ge_int (nJ ⟨_,rfl,⟨rfl,rfl⟩⟩))))))))))⟩⟩))
 refine aH (gA (bS (aD 0 rfl ⟨_, .inl rfl,(⟨fun i Γ' M'=>M'=M∧∃ v1,Γ'=[some (bA q),v1],⟨rfl,_,rfl⟩,?_,?_⟩)⟩)))
 ·rintro i d Γ' M' hd ⟨rfl,v1,rfl⟩
  obtain ⟨n,rfl⟩:∃ n:Int,d = .int n:=by
   match i,hd with
   | 0,hd=>exact ⟨_,(Option.some.inj hd).symm⟩
   | 1,hd=>exact ⟨_,(Option.some.inj hd).symm⟩
   | i+2,hd=>exact nomatch hd
  exact bO 1 pK.nd (aL (cA (pE (B:=false) (kL (gJ (fP (dA (kK (.inl rfl) T.isi T.int R.BI (aD 1 rfl ⟨_, .self trivial,⟨_,rfl,(eF (lG (dA (kK (.inr (.inl rfl)) T.isi T.bool R.BB (aD 1 rfl ⟨_, .self trivial,⟨_,rfl,⟨rfl,rfl⟩⟩⟩)))))⟩⟩)))))) (eF (bU ⟨rfl,_,rfl⟩)))))
 rintro Γ' M' ⟨rfl,v1,rfl⟩
 refine aL (aT (xX (cB wD (aG aF (aD 0 rfl (ge_int (aI (.tup _) rfl (ge_int (eQ ⟨_,rfl,mB (decide_eq_true (show (0:Int) < (q.den:Int) by omega)) (lJ (cB dG (aM aN8 hr (aC (aG aF (aD 0 rfl (ge_int (aI (.tup _) rfl (aC (aG aF (aD 0 rfl (ge_int (aI (.tup _) rfl (aE ⟨_,_,rfl,(ge_int (d6 ?_))⟩))))))))))))))⟩)))))))))
 rw [decide_eq_true (show ((Int.gcd (pq q).1 (pq q).2:Nat):Int)=1 by rw [show Int.gcd (pq q).1 (pq q).2=1 from q.reduced]; rfl)]
 exact hk
theorem rP:FnScope ["_law_one", "_law_other", "_law_point", "_law_signs_here"] ["_law_one", "_law_other", "_law_point"] (aQ qP):=⟨rfl,rfl,rfl,by decide +kernel,rfl,by decide +kernel,by decide +kernel⟩
abbrev aAJ (P w K mg base):=Fo P w K mg base "_law_parts" qP ["_law_one", "_law_other", "_law_point"] 3 aK3
theorem aFI {f:Addr}{fd:FuncData} (Df:R.Df K mg "_law_parts" qP ["_law_one", "_law_other", "_law_point"] f fd) (aOK:qV P w K mg base) (aOL:aAP P w K mg base) (T:Bt mg):aAJ P w K mg base:=by
 refine ⟨f,fd,Df,bK Df rP (fun ds M k h => ?_) (fun cdv A outer s H E hr ds M k h => ?_)⟩
 ·obtain ⟨A,B,p,rfl,_⟩:=h; rfl
 obtain ⟨A,B,⟨px,py,pw⟩,rfl,hA,hB,hp,hk⟩:=h
 have h3:(10:Nat) ^ 110≤10 ^ 300:=by decide +kernel
 have lax:=hA.lx
 have lay:=hA.ly
 have lbx:=hB.lx
 have lby:=hB.ly
 have bx:Bq px:=hp.x.bq (by decide) (by decide +kernel) (by decide +kernel)
 have by_:Bq py:=hp.y.bq (by decide) (by decide +kernel) (by decide +kernel)
 have pw2:pw=0∨pw=1:=hp.w.elim (fun z => .inl z.1) (fun z => .inr z.1)
 refine aH (cA (pE (B:=false) (kL (gJ (fP ?_))) (eF (bU ?_))))
 ·refine dA (kK (.inr (.inr (.inr (.inl rfl)))) T.isi T.tuple R.BT (aD 2 rfl ⟨_, .self trivial,⟨_,rfl,(eF (gJ (bD jK (bB bI T.len PySem.boot_len (aC (aD 2 rfl (aE (cH (.tup _) (ge_int (nJ ⟨_,rfl,(eF (gJ (fP (dA (aM aOK hr (aC (aG aF (aD 2 rfl (ge_int (aI (.tup _) rfl (aE ⟨px,rfl,⟨_,rfl,(eF (lG (fP (dA (aM aOK hr (aC (aG aF ?_)))))))⟩⟩)))))))))))⟩))))))))))⟩⟩))
  exact aD 2 rfl (ge_int (aI (.tup _) rfl (aE ⟨py,rfl,⟨_,rfl,⟨rfl,rfl⟩⟩⟩)))
 refine aH (cA (pE (B:=false) (kL (gJ (fP ?_))) (eF (bU ?_))))
 ·refine dA (kK (.inl rfl) T.isi T.int R.BI (aG aF (aD 2 rfl (ge_int (aI (.tup _) rfl ⟨_, .self trivial,⟨_,rfl,(eF (gJ (dA (kK (.inr (.inl rfl)) T.isi T.bool R.BB (aG aF (aD 2 rfl (ge_int (aI (.tup _) rfl ⟨_, .self trivial,⟨_,rfl,(eF (lG (bD (kG (n:=1) (R.units_le hr)) (aG aF (aD 2 rfl (ge_int (aI (.tup _) rfl (aS (aC (ge_int (aC (ge_int (aE ⟨(show 2≤sizeLine by decide),(kB (.tup _) (.inl rfl) rfl rfl ⟨_,rfl,?_,rfl⟩)⟩)))))))))))))⟩⟩))))))))⟩⟩)))))
  rcases pw2 with rfl | rfl <;> rfl
 have hw:=hp.w
 rcases hw with ⟨e,aA,aB⟩ | ⟨e,aB,aA⟩
 ·have e:pw=0:=e
  subst e
  refine aH (aP 3 rP.nd (b7 (aC (aM aOL hr (aC (aD 0 rfl (aC (aG aF (aD 2 rfl (ge_int (aI (.tup _) rfl (aC (aG aF (aD 2 rfl (ge_int (aI (.tup _) rfl (aE ⟨A,px,py,true,rfl,by omega,by omega,(hA.bq h3).1,(hA.bq h3).2,bx,by_,aA,fun n1=>(aC (aM aOL hr (aC (aD 1 rfl (aC (aG aF (aD 2 rfl (ge_int (aI (.tup _) rfl (aC (aG aF (aD 2 rfl (ge_int ?_)))))))))))))⟩)))))))))))))))))
  refine aI (.tup _) rfl (aE ⟨B,px,py,false,rfl,by omega,by omega,(hB.bq h3).1,(hB.bq h3).2,bx,by_,aB,fun n2=>(aE ⟨(show 2≤sizeLine by decide),(aL (aT (xX (cB (kG (n:=1) (R.units_le hr)) (ge_str (aG aF (aD 3 rfl (aG aF (aD 2 rfl (ge_int (aI (.tup _) rfl (aI (.lst _) rfl (kB (.lst _) (.inr rfl) rfl (sI _ _ _) ⟨_,rfl,?_⟩)))))))))))))⟩)⟩)
  rw [qL _ _ _ (by decide +kernel)]
  refine b4 (lJ (cB (kG (n:=1) (R.units_le hr)) (ge_str (aG aF (aD 3 rfl (aK cD (ge_int (aG aF (aD 2 rfl (ge_int (aI (.tup _) rfl (bP (aI (.lst _) rfl (kB (.lst _) (.inr rfl) rfl (sI _ _ _) ?_))))))))))))))
  rw [qL _ _ _ (by decide +kernel)]
  exact hk
 ·have e:pw=1:=e
  subst e
  refine aH (aP 3 rP.nd (b7 (aC (aM aOL hr (aC (aD 0 rfl (aC (aG aF (aD 2 rfl (ge_int (aI (.tup _) rfl (aC (aG aF (aD 2 rfl (ge_int (aI (.tup _) rfl (aE ⟨A,px,py,false,rfl,by omega,by omega,(hA.bq h3).1,(hA.bq h3).2,bx,by_,aA,fun n1=>(aC (aM aOL hr (aC (aD 1 rfl (aC (aG aF (aD 2 rfl (ge_int (aI (.tup _) rfl (aC (aG aF (aD 2 rfl (ge_int ?_)))))))))))))⟩)))))))))))))))))
  refine aI (.tup _) rfl (aE ⟨B,px,py,true,rfl,by omega,by omega,(hB.bq h3).1,(hB.bq h3).2,bx,by_,aB,fun n2=>(aE ⟨(show 2≤sizeLine by decide),(aL (aT (xX (cB (kG (n:=1) (R.units_le hr)) (ge_str (aG aF (aD 3 rfl (aG aF (aD 2 rfl (ge_int (aI (.tup _) rfl (aI (.lst _) rfl (kB (.lst _) (.inr rfl) rfl (sI _ _ _) ⟨_,rfl,?_⟩)))))))))))))⟩)⟩)
  rw [qL _ _ _ (by decide +kernel)]
  refine b4 (lJ (cB (kG (n:=1) (R.units_le hr)) (ge_str (aG aF (aD 3 rfl (aK cD (ge_int (aG aF (aD 2 rfl (ge_int (aI (.tup _) rfl (bP (aI (.lst _) rfl (kB (.lst _) (.inr rfl) rfl (sI _ _ _) ?_))))))))))))))
  rw [qL _ _ _ (by decide +kernel)]
  exact hk
theorem n0:FnScope ["_law_one", "_law_other", "_law_told", "_law_eight", "_law_same", "_law_due"] ["_law_one", "_law_other", "_law_told"] (aQ p5):=⟨rfl,rfl,rfl,by decide +kernel,rfl,by decide +kernel,by decide +kernel⟩
abbrev aAS (P w K mg base):=Fo P w K mg base "_law_right" p5 ["_law_one", "_law_other", "_law_told"] 5 aMN
theorem aFX {f:Addr}{fd:FuncData} (Df:R.Df K mg "_law_right" p5 ["_law_one", "_law_other", "_law_told"] f fd) (aOM:aDA P w K mg base) (aON:aAJ P w K mg base) (T:Bt mg):aAS P w K mg base:=by
 refine ⟨f,fd,Df,bK Df n0 (fun ds M k h => ?_) (fun cdv A outer s H E hr ds M k h => ?_)⟩
 ·obtain ⟨A,B,d,rfl,_⟩:=h; rfl
 obtain ⟨A,B,d,rfl,hA,hB,ht,hk⟩:=h
 have hA1:Wd (10 ^ 100) A:=hA.mono (by decide +kernel)
 have hB1:Wd (10 ^ 100) B:=hB.mono (by decide +kernel)
 obtain ⟨es,rfl⟩:∃ es,d = .tup es:=by rcases ht with ⟨w,_,e⟩ | ⟨_,ps,_,_,e⟩ <;> exact ⟨_,e⟩
 refine aH (cA (fP (dA (kK (.inr (.inr (.inr (.inl rfl)))) T.isi T.tuple R.BT (aD 2 rfl ⟨_, .self trivial,⟨_,rfl,(eF (bU (aH (aP 3 n0.nd (bG ["_law_one", "_law_other"] [0,1] (dD T.range (aC (ge_int (aE ⟨_,rfl,by decide,by decide,?_⟩)))))))))⟩⟩)))))
 refine b8 (ds:=jY 0 8) (by decide) (fun i acc M'=>M'=M∧acc=(List.range i).map (ldD A B)) ⟨rfl,rfl⟩ ?_ ?_
 ·rintro i d acc M' hd ⟨rfl,rfl⟩ cs C s₀ H₀ fp
  obtain ⟨hi,rfl⟩:=cR hd
  refine bJ (b4 fun cs C s₀ H₀ fp=>(aM aOM hr (aC (aD 1 rfl (aC (aD 2 rfl (aC (aK fF (aD 0 rfl (ge_int (bR (show (0:Int) < 4 by decide) (aC (cB wD (aD 0 rfl (ge_int (eQ (aE ⟨A,B,i % 4,decide (3 < i),aGC i,hA1,hB1,by omega,?_⟩)))))))))))))))))
  refine ⟨rfl,?_⟩
  rw [List.range_succ,List.map_append]
  rfl
 rintro acc M ⟨rfl,rfl⟩
 rw [bM]
 refine aH (eZ 4 ["_law_eight", "_law_other"] [3,1] n0.nd (dD T.range (aC (ge_int (aE ⟨_,rfl,by decide,by decide,?_⟩)))))
 refine kY (ds:=jY 0 8) (by decide) (fun i acc M'=>M'=M∧acc=((List.range i).filter fun j=>decide (laid (wyN j) A B=B)).map fun (j:Nat)=>D.int (j:Int)) ⟨rfl,rfl⟩ ?_ ?_
 ·rintro i d acc M' hd ⟨rfl,rfl⟩ cs C s₀ H₀ fp
  obtain ⟨hi,rfl⟩:=cR hd
  refine nD (bD (iE (n:=3) (R.units_le hr)) (aG aF (aG aF (aD 1 rfl (aD 0 rfl (aI (.lst _) (aHU hi) (ge_int (aI (.lst _) rfl (aD 2 rfl (iD (e1:=yd (laid (wyN i) A B)) (e2:=yd B) (.tup _) (.tup _) (j5 _) (j5 _) ⟨_,rfl,?_⟩))))))))))
  rw [sD]
  refine ite2 (fun hb=>fun cs C s₀ H₀ fp => ?_) (fun hb => ?_)
  ·refine aD 0 rfl ⟨rfl,?_⟩
   rw [eH,if_pos hb,List.map_append,Int.zero_add]
   rfl
  ·refine ⟨rfl,?_⟩
   rw [eH,if_neg hb]
 rintro acc M ⟨rfl,rfl⟩ a ha
 rw [bM]
 refine iC 4 rfl aZ ?_
 rw [fX ha]
 refine aH (cA (bD (sU (n:=1) (R.units_le hr)) (aD 4 rfl (b7 (aE ⟨(show 0≤sizeLine by decide),(sK (.lst _) (.lst _) (aGY _) rfl ⟨_,rfl,?_⟩)⟩)))))
 rw [eq_nil]
 rcases ht with ⟨w,hw,e⟩ | ⟨hw,ps,hpl,hps,e⟩
 ·obtain ⟨j,rest,hf,hj,rfl⟩:=aBP hw
  cases e
  rw [hf]
  refine b4 (aH (aP 5 n0.nd (aS (aC (ge_str (aC (aK fF (aG aF (aD 4 rfl (ge_int (aI (.lst _) (sL _ _) (ge_int (bR (show (0:Int) < 4 by decide) (aC (cB wD (aG aF (aD 4 rfl (ge_int (aI (.lst _) (sL _ _) (ge_int (eQ (aC (aG aF (aG aF (aD 3 rfl (aG aF (aD 4 rfl (ge_int (aI (.lst _) (sL _ _) (aI (.lst _) (yE hj) (ge_int (aI (.lst _) rfl ?_))))))))))))))))))))))))))))))))
  refine aC (aG aF (aG aF (aD 3 rfl (aG aF (aD 4 rfl (ge_int (aI (.lst _) (sL _ _) (aI (.lst _) (yE hj) (ge_int (aI (.lst _) rfl (aE ⟨(show 5≤sizeLine by decide),?_⟩)))))))))))
  have fr:=pP (hA.bring (wyN j)) hB
  have ok:=aMH (j:=j) fr.1 fr.2
  refine aL (aT (cB dG (bB (u9 (n:=3) (R.units_le hr) hr.gd) T.repr BRepr (aC (aD 2 rfl (aE (yP (.tup _) ok.1 ok.2.1 ok.2.2 (bB (u9 (n:=3) (R.units_le hr) hr.gd) T.repr BRepr (aC (aD 5 rfl (aE (yP aLE ok.1 ok.2.1 ok.2.2 (pG ?_)))))))))))))
  rw [decide_eq_true rfl]
  exact hk
 cases e
 rw [zQ hw]
 refine eF (bU (aH (cA (pE (B:=false) (kL (gJ ?_)) (eF (bU ?_))))))
 ·refine bD jK (bB bI T.len PySem.boot_len (aC (aD 2 rfl (aE (cH (.tup _) (ge_int (nJ ⟨_,rfl,(eF (gJ (bD jK (aG aF (aD 2 rfl (ge_int (aI (.tup _) rfl (ge_str (tP ⟨_,rfl,(eF (gJ (fP (dA (kK (.inr (.inr (.inr (.inr rfl)))) T.isi T.list R.BL (aG aF (aD 2 rfl (ge_int (aI (.tup _) rfl ⟨_, .self trivial,⟨_,rfl,(eF (lG (bD jK (bB bI T.len PySem.boot_len (aC ?_)))))⟩⟩)))))))))⟩)))))))))⟩)))))))
  refine aG aF (aD 2 rfl (ge_int (aI (.tup _) rfl (aE (cH (.lst _) (ge_int (nJ ⟨_,rfl,?_⟩)))))))
  rw [List.length_map,hpl]
  exact ⟨rfl,rfl⟩
 refine aL (aT (bB (aF4 rfl) T.all R.BAll (aC (bG ["_law_eight", "_law_other", "_law_told"] [3,1,2] (dD T.range (aC (ge_int (aE ⟨_,rfl,by decide,by decide,?_⟩))))))))
 refine b8 (ds:=jY 0 8) (by decide) (fun i acc M'=>M'=M∧acc=(List.replicate i true).map D.bl) ⟨rfl,rfl⟩ ?_ ?_
 ·rintro i d acc M' hd ⟨rfl,rfl⟩ cs C s₀ H₀ fp
  obtain ⟨hi,rfl⟩:=cR hd
  refine bJ (b4 fun cs C s₀ H₀ fp => ?_)
  have hp:=List.getElem?_eq_getElem (show i < ps.length by omega)
  have pt:=hps i _ _ (aL0 hi) hp
  refine aM aON hr (aC (aG aF (aG aF (aD 1 rfl (aD 0 rfl (aI (.lst _) (aHU hi) (ge_int (aI (.lst _) rfl (aC (aD 2 rfl (aC (aG aF (aG aF (aD 3 rfl (ge_int (aI (.tup _) rfl (aD 0 rfl (aI (.lst _) (by rw [Int.zero_add]; exact cW (by rw [List.getElem?_map,hp]; rfl)) ?_))))))))))))))))))
  refine aE ⟨_,B,_,rfl,(hA1.laid hB1 _).mono (by decide +kernel),hB.mono (by decide +kernel),pt,⟨rfl,?_⟩⟩
  rw [List.replicate_succ',List.map_append]
  rfl
 rintro acc M ⟨rfl,rfl⟩
 rw [bM]
 exact aE (aLS (.lst _) hk)
theorem pI:FnScope ["top", "bottom", "divisor"] ["top", "bottom"] (aQ n5):=⟨rfl,rfl,rfl,by decide +kernel,rfl,by decide +kernel,by decide +kernel⟩
abbrev oX (P w K mg base):=Fo P w K mg base "lowest" n5 ["top", "bottom"] 2 aI8
theorem aDG {f:Addr}{fd:FuncData} (Df:R.Df K mg "lowest" n5 ["top", "bottom"] f fd) (aOO:lS P w K mg base):oX P w K mg base:=by
 refine ⟨f,fd,Df,bK Df pI (fun ds M k h => ?_) (fun cdv A outer s H E hr ds M k h => ?_)⟩
 ·obtain ⟨a,b,rfl,_⟩:=h; rfl
 obtain ⟨a,b,rfl,hb0,hbb,hk⟩:=h
 have hg:Int.gcd a b≠0:=fun e=>hb0 (Int.gcd_eq_zero_iff.mp e).2
 have hgl:Int.gcd a b≤b.natAbs:=Nat.le_of_dvd (by omega) (Int.gcd_dvd_natAbs_right a b)
 have hd:dv a b≠0∧(dv a b).natAbs < big:=by
  refine ⟨by unfold dv; split <;> omega,Nat.lt_of_lt_of_le (show (dv a b).natAbs < 10 ^ 1000 from ?_) (by unfold big; decide)⟩
  have:(dv a b).natAbs=Int.gcd a b:=by unfold dv; split <;> omega
  omega
 refine aH (aP 2 pI.nd (aM aOO hr (aC (aD 0 rfl (aC (aD 1 rfl (aE ⟨a,b,rfl,(aH (eA (fun Γ' M'=>M'=M∧Γ'=[some (.int a),some (.int b),some (.int (dv a b))]) (cA ?_) ?_))⟩)))))))
 ·refine bD jG (aD 1 rfl (ge_int (eQ ⟨_,rfl,(ite2 (fun hb => ?_) (fun hb => ?_))⟩)))
  ·have:=of_decide_eq_true hb
   exact aL (aP 2 pI.nd (fZ dH (aD 2 rfl ⟨_,rfl,⟨rfl,by unfold dv; rw [if_pos this]; rfl⟩⟩)))
  ·have:¬ b < 0:=fun z=>hb (decide_eq_true z)
   exact bU ⟨rfl,by unfold dv; rw [if_neg this]; rfl⟩
 rintro Γ' M' ⟨rfl,rfl⟩
 exact aL (aT (aS (aC (aK n4 (aD 0 rfl (aD 2 rfl (bR hd (aC (aK n4 (aD 1 rfl (aD 2 rfl (bR hd (aE ⟨(show 2≤sizeLine by decide),hk⟩)))))))))))))
theorem aJD:FnScope ["one", "other"] ["one", "other"] (aQ sZ):=⟨rfl,rfl,rfl,by decide +kernel,rfl,by decide +kernel,by decide +kernel⟩
abbrev xT (P w K mg base):=Fo P w K mg base "plus" sZ ["one", "other"] 3 aFB
theorem aID {f:Addr}{fd:FuncData} (Df:R.Df K mg "plus" sZ ["one", "other"] f fd) (aOP:oX P w K mg base):xT P w K mg base:=by
 refine ⟨f,fd,Df,bK Df aJD (fun ds M k h => ?_) (fun cdv A outer s H E hr ds M k h => ?_)⟩
 ·obtain ⟨p,q,rfl,_⟩:=h; rfl
 obtain ⟨p,q,rfl,hp,hq,hk⟩:=h
 obtain ⟨h1,h2⟩:=sB hp.g hq.g
 unfold bA at hk
 rw [← aJ6] at hk
 exact aL (aT (aM aOP hr (aC (aK b5 (aK c7 (aG aF (aD 0 rfl (ge_int (aI (.tup _) rfl (aG aF (aD 1 rfl (ge_int (aI (.tup _) rfl (bR ⟨big400 hp.g.a,big400 hq.g.b⟩ (aK c7 (aG aF (aD 1 rfl (ge_int (aI (.tup _) rfl (aG aF (aD 0 rfl (ge_int (aI (.tup _) rfl (bR ⟨big400 hq.g.a,big400 hp.g.b⟩ (bP (aC (aK c7 (aG aF (aD 0 rfl (ge_int (aI (.tup _) rfl (aG aF (aD 1 rfl (ge_int (aI (.tup _) rfl (bR ⟨big400 hp.g.b,big400 hq.g.b⟩ (aE ⟨_,_,rfl,h1,h2,hk⟩)))))))))))))))))))))))))))))))))))))
theorem aHG:FnScope ["one", "other"] ["one", "other"] (aQ qG):=⟨rfl,rfl,rfl,by decide +kernel,rfl,by decide +kernel,by decide +kernel⟩
abbrev t8 (P w K mg base):=Fo P w K mg base "minus" qG ["one", "other"] 3 aI1
theorem aG9 {f:Addr}{fd:FuncData} (Df:R.Df K mg "minus" qG ["one", "other"] f fd) (aOP:oX P w K mg base):t8 P w K mg base:=by
 refine ⟨f,fd,Df,bK Df aHG (fun ds M k h => ?_) (fun cdv A outer s H E hr ds M k h => ?_)⟩
 ·obtain ⟨p,q,rfl,_⟩:=h; rfl
 obtain ⟨p,q,rfl,hp,hq,hk⟩:=h
 obtain ⟨h1,h2⟩:=sB hp.g hq.g
 unfold bA at hk
 rw [← aG7] at hk
 exact aL (aT (aM aOP hr (aC (aK cD (aK c7 (aG aF (aD 0 rfl (ge_int (aI (.tup _) rfl (aG aF (aD 1 rfl (ge_int (aI (.tup _) rfl (bR ⟨big400 hp.g.a,big400 hq.g.b⟩ (aK c7 (aG aF (aD 1 rfl (ge_int (aI (.tup _) rfl (aG aF (aD 0 rfl (ge_int (aI (.tup _) rfl (bR ⟨big400 hq.g.a,big400 hp.g.b⟩ (bP (aC (aK c7 (aG aF (aD 0 rfl (ge_int (aI (.tup _) rfl (aG aF (aD 1 rfl (ge_int (aI (.tup _) rfl (bR ⟨big400 hp.g.b,big400 hq.g.b⟩ (aE ⟨_,_,rfl,h1,h2,hk⟩)))))))))))))))))))))))))))))))))))))
theorem aGH:FnScope ["one", "other"] ["one", "other"] (aQ qJ):=⟨rfl,rfl,rfl,by decide +kernel,rfl,by decide +kernel,by decide +kernel⟩
abbrev zY (P w K mg base):=Fo P w K mg base "times" qJ ["one", "other"] 3 aIN
theorem aGF {f:Addr}{fd:FuncData} (Df:R.Df K mg "times" qJ ["one", "other"] f fd) (aOP:oX P w K mg base):zY P w K mg base:=by
 refine ⟨f,fd,Df,bK Df aGH (fun ds M k h => ?_) (fun cdv A outer s H E hr ds M k h => ?_)⟩
 ·obtain ⟨p,q,rfl,_⟩:=h; rfl
 obtain ⟨p,q,rfl,hp,hq,hk⟩:=h
 obtain ⟨h1,h2⟩:=sB hp.g hq.g
 unfold bA at hk
 rw [← aGP] at hk
 exact aL (aT (aM aOP hr (aC (aK c7 (aG aF (aD 0 rfl (ge_int (aI (.tup _) rfl (aG aF (aD 1 rfl (ge_int (aI (.tup _) rfl (bR ⟨big400 hp.g.a,big400 hq.g.a⟩ (aC (aK c7 (aG aF (aD 0 rfl (ge_int (aI (.tup _) rfl (aG aF (aD 1 rfl (ge_int (aI (.tup _) rfl (bR ⟨big400 hp.g.b,big400 hq.g.b⟩ (aE ⟨_,_,rfl,h1,h2,hk⟩)))))))))))))))))))))))))
theorem zN:FnScope ["lines"] ["lines"] (aQ kW):=⟨rfl,rfl,rfl,by decide +kernel,rfl,by decide +kernel,by decide +kernel⟩
abbrev oC (P w K mg base):=Fo P w K mg base "opposite" kW ["lines"] 5 aH3
theorem zH {f:Addr}{fd:FuncData} (Df:R.Df K mg "opposite" kW ["lines"] f fd) (aOQ:t8 P w K mg base) (T:Bt mg) {aN:Addr} (CN:mg "NOUGHT" = some (.ref aN)) (EN:∀ G,Den K G (pairD (p1 0)) (.ref aN)):oC P w K mg base:=by
 refine ⟨f,fd,Df,bK Df zN (fun ds M k h => ?_) (fun cdv A outer s H E hr ds M k h => ?_)⟩
 ·obtain ⟨xs,rfl,_⟩:=h; rfl
 obtain ⟨xs,rfl,h9,hl,hk⟩:=h
 refine aL (aT (bF bN T.tuple R.BT (aC (bG [] [] (aJW T.reversed PyProof.Rows.boot_reversed (aC (aD 0 rfl (aE ⟨_,rfl,?_⟩))))))))
 have er:(aO xs).reverse=aO xs.reverse:=by unfold aO; rw [List.map_reverse]
 rw [er]
 have hl2:(aO xs.reverse).length=xs.length:=by rw [aY,List.length_reverse]
 refine b8 (by rw [hl2]; exact R.aU (by omega)) (fun i acc M'=>M'=M∧acc=aO ((xs.reverse.take i).map fun x=>0 - x)) ⟨rfl,rfl⟩ ?_ ?_
 ·rintro i d acc M' hd ⟨rfl,rfl⟩ cs C s₀ H₀ fp
  obtain ⟨x,hx,rfl⟩:=bW hd
  have hx9:=h9 x (List.mem_reverse.mp (List.mem_of_getElem? hx))
  refine bJ (b4 fun cs C s₀ H₀ fp=>(aM aOQ hr (aC (iX CN EN (aC (aD 0 rfl (aE ⟨0,x,rfl,bq0,hx9,⟨rfl,?_⟩⟩)))))))
  rw [bY hx,← cJ]
  rfl
 rintro acc M' ⟨rfl,rfl⟩
 rw [hl2,show xs.length=xs.reverse.length from (List.length_reverse ..).symm,List.take_length]
 exact aE (cK (.lst _) hk)
theorem zJ:FnScope ["row"] ["row"] (aQ kU):=⟨rfl,rfl,rfl,by decide +kernel,rfl,by decide +kernel,by decide +kernel⟩
abbrev nU (P w K mg base):=Fo P w K mg base "backward" kU ["row"] 1 aDF
theorem zB {f:Addr}{fd:FuncData} (Df:R.Df K mg "backward" kU ["row"] f fd) (T:Bt mg):nU P w K mg base:=by
 refine ⟨f,fd,Df,bK Df zJ (fun ds M k h => ?_) (fun cdv A outer s H E hr ds M k h => ?_)⟩
 ·obtain ⟨z,rfl,_⟩:=h; rfl
 obtain ⟨z,rfl,hz,hk⟩:=h
 refine aL (aT (aBD T.reversed PyProof.Rows.boot_reversed (ge_str ⟨_,rfl,by decide +kernel,?_⟩)))
 refine aC (aD 0 rfl (aE ⟨z,rfl,hz,?_⟩))
 rw [R.fB,aG5]
 exact hk
theorem aEH:FnScope ["rows", "place"] ["rows", "place"] (aQ oK):=⟨rfl,rfl,rfl,by decide +kernel,rfl,by decide +kernel,by decide +kernel⟩
abbrev yJ (P w K mg base):=Fo P w K mg base "column" oK ["rows", "place"] 1 aHA
theorem aC1 {f:Addr}{fd:FuncData} (Df:R.Df K mg "column" oK ["rows", "place"] f fd):yJ P w K mg base:=by
 refine ⟨f,fd,Df,bK Df aEH (fun ds M k h => ?_) (fun cdv A outer s H E hr ds M k h => ?_)⟩
 ·obtain ⟨t,r,zs,n,j,rfl,_⟩:=h; rfl
 obtain ⟨t,r,zs,n,j,rfl,s1,hl,hn,hz,hj,hk⟩:=h
 cases t with
 | true =>
  cases s1
  refine aL (aT (fL PySem.F.plainAttrs_str PySem.F.slot_str_join PySem.F.type_str_join i7 (ge_str ⟨rfl,(aC ((bG ["place"] [1] (bS (aD 0 rfl ⟨_, .inr (.inl rfl),(b8 (ds:=zs.map D.str) (by rw [List.length_map]; exact R.aU (by omega)) (fun i2 acc2 M2=>M2=M∧acc2=((zs.take i2).map fun z=>(⟨#[R.atS z j]⟩:Str)).map D.str) ⟨rfl,rfl⟩ ?_ ?_)⟩)))))⟩)))
  ·rintro i2 d2 acc2 M2 hd2 ⟨rfl,rfl⟩ cs C s₀ H₀ fp
   obtain ⟨z,hz2,rfl⟩:=bW hd2
   have hzn:=hz z (List.mem_of_getElem? hz2)
   refine bJ (b4 fun cs C s₀ H₀ fp=>(aG aF (aD 0 rfl (aD 1 rfl (gB (R.aU (by omega)) (R.j8 (by omega)) ⟨rfl,?_⟩)))))
   rw [take_snoc hz2,List.map_append,List.map_append]
   rfl
  ·rintro acc2 M2 ⟨rfl,rfl⟩
   rw [List.length_map,List.take_length]
   refine aE (i5 (ys:=zs.map fun z=>(⟨#[R.atS z j]⟩:Str)) (.lst _) (by decide +kernel) ?_ ?_)
   ·rw [nI _ (fun z hz => ?_),List.length_map]
    ·omega
    ·obtain ⟨y,_,rfl⟩:=List.mem_map.mp hz
     rfl
   ·rw [R.fB,rL]
    exact hk
 | false =>
  cases s1
  refine aL (aT (fL PySem.F.plainAttrs_str PySem.F.slot_str_join PySem.F.type_str_join i7 (ge_str ⟨rfl,(aC ((bG ["place"] [1] (bS (aD 0 rfl ⟨_, .inl rfl,(b8 (ds:=zs.map D.str) (by rw [List.length_map]; exact R.aU (by omega)) (fun i2 acc2 M2=>M2=M∧acc2=((zs.take i2).map fun z=>(⟨#[R.atS z j]⟩:Str)).map D.str) ⟨rfl,rfl⟩ ?_ ?_)⟩)))))⟩)))
  ·rintro i2 d2 acc2 M2 hd2 ⟨rfl,rfl⟩ cs C s₀ H₀ fp
   obtain ⟨z,hz2,rfl⟩:=bW hd2
   have hzn:=hz z (List.mem_of_getElem? hz2)
   refine bJ (b4 fun cs C s₀ H₀ fp=>(aG aF (aD 0 rfl (aD 1 rfl (gB (R.aU (by omega)) (R.j8 (by omega)) ⟨rfl,?_⟩)))))
   rw [take_snoc hz2,List.map_append,List.map_append]
   rfl
  ·rintro acc2 M2 ⟨rfl,rfl⟩
   rw [List.length_map,List.take_length]
   refine aE (i5 (ys:=zs.map fun z=>(⟨#[R.atS z j]⟩:Str)) (.lst _) (by decide +kernel) ?_ ?_)
   ·rw [nI _ (fun z hz => ?_),List.length_map]
    ·omega
    ·obtain ⟨y,_,rfl⟩:=List.mem_map.mp hz
     rfl
   ·rw [R.fB,rL]
    exact hk
theorem oQ:FnScope ["rows", "wide"] ["rows"] (aQ l7):=⟨rfl,rfl,rfl,by decide +kernel,rfl,by decide +kernel,by decide +kernel⟩
abbrev pF (P w K mg base):=Fo P w K mg base "columns" l7 ["rows"] 2 aD7
theorem aBJ {f:Addr}{fd:FuncData} (Df:R.Df K mg "columns" l7 ["rows"] f fd) (aOR:yJ P w K mg base) (T:Bt mg):pF P w K mg base:=by
 refine ⟨f,fd,Df,bK Df oQ (fun ds M k h => ?_) (fun cdv A outer s H E hr ds M k h => ?_)⟩
 ·obtain ⟨t,r,zs,n,rfl,_⟩:=h; rfl
 obtain ⟨t,r,zs,n,rfl,s1,hl,hn,hz,hk⟩:=h
 cases t with
 | true =>
  cases s1
  refine aH (eA (fun Γ' M'=>M'=M∧Γ'=[some (.lst (zs.map D.str)),some (.int (((zs.head?.map (·.length)).getD 0:Nat):Int))]) (aP 1 oQ.nd (iH ?_)) ?_)
  ·refine oP (aD 0 rfl ⟨_, .seq (.lst _),(ite2 (fun hb => ?_) (fun hb => ?_))⟩)
   ·cases zs with
    | nil=>cases hb
    | cons z zr =>
     have hzl:=hz z (by simp)
     exact bB bI T.len PySem.boot_len (aC (aG aF (aD 0 rfl (ge_int (aI (.lst _) (qK z zr) (aE (gY (R.aU (by omega)) ⟨rfl,rfl⟩)))))))
   ·cases zs with
    | nil =>
     exact ge_int ⟨rfl,rfl⟩
    | cons z zr=>exact absurd rfl hb
  rintro Γ' M' ⟨rfl,rfl⟩
  have hw:(zs.head?.map (·.length)).getD 0≤n:=by
   cases zs with
   | nil=>exact Nat.zero_le _
   | cons z zr=>exact Nat.le_of_eq (hz z (by simp))
  refine aL (aT ((bG ["rows"] [0] (dD T.range (aC (aD 1 rfl (aE ⟨_,rfl,by omega,by omega,?_⟩)))))))
  rw [Int.toNat_natCast]
  refine b8 (by rw [bM]; exact R.aU (by omega)) (fun i acc M1=>M1=M'∧acc=((List.range i).map fun j=>R.ofL (zs.map (R.atS · j))).map D.str) ⟨rfl,rfl⟩ ?_ ?_
  ·rintro i d acc M1 hd ⟨rfl,rfl⟩ cs C s₀ H₀ fp
   obtain ⟨hi,rfl⟩:=cR hd
   rw [Int.zero_add]
   refine bJ (b4 fun cs C s₀ H₀ fp=>(aM aOR hr (aC (aD 1 rfl (aC (aD 0 rfl (aE ⟨true,_,zs,n,i,rfl,rfl,hl,hn,hz,by omega,?_⟩)))))))
   refine ⟨rfl,?_⟩
   rw [List.range_succ,List.map_append,List.map_append]
   rfl
  ·rintro acc M1 ⟨rfl,rfl⟩
   rw [bM]
   exact hk
 | false =>
  cases s1
  refine aH (eA (fun Γ' M'=>M'=M∧Γ'=[some (.tup (zs.map D.str)),some (.int (((zs.head?.map (·.length)).getD 0:Nat):Int))]) (aP 1 oQ.nd (iH ?_)) ?_)
  ·refine oP (aD 0 rfl ⟨_, .seq (.tup _),(ite2 (fun hb => ?_) (fun hb => ?_))⟩)
   ·cases zs with
    | nil=>cases hb
    | cons z zr =>
     have hzl:=hz z (by simp)
     exact bB bI T.len PySem.boot_len (aC (aG aF (aD 0 rfl (ge_int (aI (.tup _) (qK z zr) (aE (gY (R.aU (by omega)) ⟨rfl,rfl⟩)))))))
   ·cases zs with
    | nil =>
     exact ge_int ⟨rfl,rfl⟩
    | cons z zr=>exact absurd rfl hb
  rintro Γ' M' ⟨rfl,rfl⟩
  have hw:(zs.head?.map (·.length)).getD 0≤n:=by
   cases zs with
   | nil=>exact Nat.zero_le _
   | cons z zr=>exact Nat.le_of_eq (hz z (by simp))
  refine aL (aT ((bG ["rows"] [0] (dD T.range (aC (aD 1 rfl (aE ⟨_,rfl,by omega,by omega,?_⟩)))))))
  rw [Int.toNat_natCast]
  refine b8 (by rw [bM]; exact R.aU (by omega)) (fun i acc M1=>M1=M'∧acc=((List.range i).map fun j=>R.ofL (zs.map (R.atS · j))).map D.str) ⟨rfl,rfl⟩ ?_ ?_
  ·rintro i d acc M1 hd ⟨rfl,rfl⟩ cs C s₀ H₀ fp
   obtain ⟨hi,rfl⟩:=cR hd
   rw [Int.zero_add]
   refine bJ (b4 fun cs C s₀ H₀ fp=>(aM aOR hr (aC (aD 1 rfl (aC (aD 0 rfl (aE ⟨false,_,zs,n,i,rfl,rfl,hl,hn,hz,by omega,?_⟩)))))))
   refine ⟨rfl,?_⟩
   rw [List.range_succ,List.map_append,List.map_append]
   rfl
  ·rintro acc M1 ⟨rfl,rfl⟩
   rw [bM]
   exact hk
theorem vM:FnScope ["yard", "rows"] ["yard"] (aQ nS):=⟨rfl,rfl,rfl,by decide +kernel,rfl,by decide +kernel,by decide +kernel⟩
abbrev wT (P w K mg base):=Fo P w K mg base "turned" nS ["yard"] 6 aG2
theorem aCV {f:Addr}{fd:FuncData} (Df:R.Df K mg "turned" nS ["yard"] f fd) (aOS:nU P w K mg base) (aOT:pF P w K mg base) (aOU:oC P w K mg base) (T:Bt mg):wT P w K mg base:=by
 refine ⟨f,fd,Df,bK Df vM (fun ds M k h => ?_) (fun cdv A outer s H E hr ds M k h => ?_)⟩
 ·obtain ⟨A,rfl,_⟩:=h; rfl
 obtain ⟨A,rfl,h9,hl,gl,hk⟩:=h
 obtain ⟨hw,lK⟩:=A.wide
 have lc:=(R.jV hw).1
 refine aH (aP 1 vM.nd (bF bN T.tuple R.BT (aC (bG [] [] (bS (aM aOT hr (aC (aG aF (aD 0 rfl (ge_int (aI (.tup _) rfl (aE ⟨false,_,A.K,A.ws.length - 1,rfl,rfl,by omega,by omega,hw,?_⟩))))))))))))
 refine ⟨_, .inr (.inl rfl),(b8 (ds:=(R.aJ A.K).map D.str) (by rw [List.length_map]; exact R.aU (by omega)) (fun i acc M'=>M'=M∧acc=(((R.aJ A.K).take i).map R.cM).map D.str) ⟨rfl,rfl⟩ ?_ ?_)⟩
 ·rintro i d acc M' hd ⟨rfl,rfl⟩ cs C s₀ H₀ fp
  obtain ⟨z,hz,rfl⟩:=bW hd
  have hzl:=R.dB z (List.mem_of_getElem? hz)
  refine bJ (b4 fun cs C s₀ H₀ fp=>(aM aOS hr (aC (aD 0 rfl (aE ⟨z,rfl,by omega,?_⟩)))))
  refine ⟨rfl,?_⟩
  rw [bY hz,List.map_append]
  rfl
 rintro acc M' ⟨rfl,rfl⟩
 rw [List.length_map,List.take_length]
 refine aE (cK (.lst _) (aL (aT (aS (aC (aM aOU hr (aC (aG aF (aD 0 rfl (ge_int (aI (.tup _) rfl (aE ⟨A.us,rfl,h9,by omega,?_⟩))))))))))))
 exact aC (aG aF (aD 0 rfl (ge_int (aI (.tup _) rfl (aC (aD 1 rfl (aE ⟨(show 3≤sizeLine by decide),hk⟩)))))))
theorem zE:FnScope ["yard"] ["yard"] (aQ kZ):=⟨rfl,rfl,rfl,by decide +kernel,rfl,by decide +kernel,by decide +kernel⟩
abbrev sJ (P w K mg base):=Fo P w K mg base "mirrored" kZ ["yard"] 6 aBX
theorem zF {f:Addr}{fd:FuncData} (Df:R.Df K mg "mirrored" kZ ["yard"] f fd) (aOS:nU P w K mg base) (aOU:oC P w K mg base) (T:Bt mg):sJ P w K mg base:=by
 refine ⟨f,fd,Df,bK Df zE (fun ds M k h => ?_) (fun cdv A outer s H E hr ds M k h => ?_)⟩
 ·obtain ⟨A,rfl,_⟩:=h; rfl
 obtain ⟨A,rfl,h9,hl,gl,hk⟩:=h
 obtain ⟨hw,lK⟩:=A.wide
 refine aL (aT (aS (aC (aM aOU hr (aC (aG aF (aD 0 rfl (ge_int (aI (.tup _) rfl (aE ⟨A.ws,rfl,h9,by omega,?_⟩))))))))))
 refine aC (aG aF (aD 0 rfl (ge_int (aI (.tup _) rfl (aC (bF bN T.tuple R.BT (aC (bG [] [] (bS (aG aF (aD 0 rfl (ge_int (aI (.tup _) rfl ⟨_, .inl rfl,(b8 (ds:=(A.K).map D.str) (by rw [List.length_map]; exact R.aU (by omega)) (fun i acc M'=>M'=M∧acc=(((A.K).take i).map R.cM).map D.str) ⟨rfl,rfl⟩ ?_ ?_)⟩)))))))))))))
 ·rintro i d acc M' hd ⟨rfl,rfl⟩ cs C s₀ H₀ fp
  obtain ⟨z,hz,rfl⟩:=bW hd
  have hzl:=hw z (List.mem_of_getElem? hz)
  refine bJ (b4 fun cs C s₀ H₀ fp=>(aM aOS hr (aC (aD 0 rfl (aE ⟨z,rfl,by omega,?_⟩)))))
  refine ⟨rfl,?_⟩
  rw [bY hz,List.map_append]
  rfl
 rintro acc M' ⟨rfl,rfl⟩
 rw [List.length_map,List.take_length]
 exact aE (cK (.lst _) (aE ⟨(show 3≤sizeLine by decide),hk⟩))
theorem k6:FnScope ["yard", "way", "told", "count"] ["yard", "way"] (aQ l6):=⟨rfl,rfl,rfl,by decide +kernel,rfl,by decide +kernel,by decide +kernel⟩
abbrev o9 (P w K mg base):=Fo P w K mg base "brought" l6 ["yard", "way"] 7 aDN
theorem aCM {f:Addr}{fd:FuncData} (Df:R.Df K mg "brought" l6 ["yard", "way"] f fd) (aOV:sJ P w K mg base) (aOW:wT P w K mg base) (T:Bt mg):o9 P w K mg base:=by
 refine ⟨f,fd,Df,bK Df k6 (fun ds M k h => ?_) (fun cdv A outer s H E hr ds M k h => ?_)⟩
 ·obtain ⟨A,w,rfl,_⟩:=h; rfl
 obtain ⟨A,⟨b,n⟩,rfl,hA,hn,hk⟩:=h
 have hn:n < 4:=hn
 have h3:(10:Nat) ^ 100≤10 ^ 300:=by decide +kernel
 have lx:=hA.lx
 have ly:=hA.ly
 refine aH (eA (fun Γ' M'=>M=M'∧Γ'=[some (yd A),some (rH (b,n)),some (yd (if b=true then A.mirror else A)),none]) (aP 2 k6.nd (iH (dA ?_))) ?_)
 ·refine aG aF (aD 1 rfl (ge_int (aI (.tup _) rfl ⟨_,rfl,?_⟩)))
  cases b with
  | true =>
   refine b4 (aM aOV hr (aC (aD 0 rfl (aE ⟨A,rfl,(hA.bq h3).1,by omega,by omega,?_⟩))))
   exact ⟨rfl,rfl⟩
  | false =>
   exact eF (aD 0 rfl ⟨rfl,rfl⟩)
 rintro Γ' M' ⟨rfl,rfl⟩
 have hB:Wd (10 ^ 100) (if b=true then A.mirror else A):=by
  split
  ·exact hA.mirror
  ·exact hA
 refine aH (gA (dD T.range (aC (aG aF (aD 1 rfl (ge_int (aI (.tup _) rfl (aE ⟨_,rfl,by omega,by omega,?_⟩))))))))
 rw [Int.toNat_natCast]
 refine ⟨fun i Γ' M'=>M=M'∧∃ v3,Γ'=[some (yd A),some (rH (b,n)),some (yd (turnN i (if b=true then A.mirror else A))),v3],⟨rfl,_,rfl⟩,?_,?_⟩
 ·rintro i d Γ' M' hd ⟨rfl,v3,rfl⟩
  obtain ⟨hi,rfl⟩:=cR hd
  have hT:=hB.turnN i
  have tx:=hT.lx
  have ty:=hT.ly
  refine bO 3 k6.nd (aL (aP 2 k6.nd (aM aOW hr (aC (aD 2 rfl (aE ⟨_,rfl,(hT.bq h3).2,by omega,by omega,?_⟩))))))
  exact ⟨rfl,_,rfl⟩
 rintro Γ' M' ⟨rfl,v3,rfl⟩
 rw [bM]
 exact aL (aT (aD 2 rfl hk))
theorem aBR:FnScope ["one", "other"] ["one", "other"] (aQ mF):=⟨rfl,rfl,rfl,by decide +kernel,rfl,by decide +kernel,by decide +kernel⟩
abbrev pH (P w K mg base):=Fo P w K mg base "step_to" mF ["one", "other"] 4 aJR
theorem aBE {f:Addr}{fd:FuncData} (Df:R.Df K mg "step_to" mF ["one", "other"] f fd) (aOQ:t8 P w K mg base) {aV:Addr} (CV:mg "VOID" = some (.ref aV)) (EV:∀ G,Den K G (yd Yd.void) (.ref aV)) {aN:Addr} (CN:mg "NOUGHT" = some (.ref aN)) (EN:∀ G,Den K G (pairD (p1 0)) (.ref aN)):pH P w K mg base:=by
 refine ⟨f,fd,Df,bK Df aBR (fun ds M k h => ?_) (fun cdv A outer s H E hr ds M k h => ?_)⟩
 ·obtain ⟨A,B,rfl,_⟩:=h; rfl
 obtain ⟨A,B,rfl,hA,hB,hk⟩:=h
 have h3:(10:Nat) ^ 100≤10 ^ 300:=by decide +kernel
 refine aH (cA (pA (P:=fun c M1=>(c=true↔(A=Yd.void∨B=Yd.void))∧M1=M) (kL (gJ (bD (iE (n:=3) (R.units_le hr)) ?_))) ?_))
 ·refine aD 0 rfl (iX CV EV (iD (e1:=yd A) (e2:=yd Yd.void) (.tup _) (.tup _) (j5 _) (j5 _) ⟨_,rfl,?_⟩))
  rw [sD]
  refine ite2 (fun h1=>⟨⟨fun _ => .inl (of_decide_eq_true h1),fun _=>rfl⟩,rfl⟩) (fun h1=>lG (bD (iE (n:=3) (R.units_le hr)) (aD 1 rfl (iX CV EV (iD (e1:=yd B) (e2:=yd Yd.void) (.tup _) (.tup _) (j5 _) (j5 _) ⟨_,rfl,?_,rfl⟩)))))
  rw [sD,decide_eq_true_eq]
  exact ⟨.inr,fun z=>z.resolve_left fun e=>h1 (decide_eq_true e)⟩
 rintro c M1 ⟨hc,rfl⟩
 refine ite2 (fun h1 => ?_) (fun h1=>bU ?_)
 ·have h1:=hc.mp h1
  refine aL (aT (aS (aC (iX CN EN (aC (iX CN EN (aE ⟨(show 2≤sizeLine by decide),?_⟩)))))))
  unfold jU jQ at hk
  rw [if_pos h1,if_pos h1] at hk
  exact hk
 have h1:¬ (A=Yd.void∨B=Yd.void):=fun z=>h1 (hc.mpr z)
 have a1:=A.big.resolve_left fun e=>h1 (.inl ((eJ A).mpr e))
 have b1:=B.big.resolve_left fun e=>h1 (.inr ((eJ B).mpr e))
 unfold jU jQ at hk
 rw [if_neg h1,if_neg h1] at hk
 have at0:∀ {ws:List Rat},2≤ws.length→atI (aO ws) 0=some (bA (ws.getD 0 0)):=fun {ws} h=>by
  cases ws with
  | nil=>cases h
  | cons w ws=>show atI (aO (w::ws)) ((0:Nat):Int)=_; exact cW rfl
 refine aL (aT (aS (aC (aM aOQ hr (aC (aG aF (aG aF (aD 1 rfl (ge_int (aI (.tup _) rfl (ge_int (aI (.tup _) (at0 b1.1) (aC (aG aF (aG aF (aD 0 rfl (ge_int (aI (.tup _) rfl (ge_int (aI (.tup _) (at0 a1.1) (aE ⟨_,_,rfl,cP (hB.x.at 0) h3,cP (hA.x.at 0) h3,(aC (aM aOQ hr (aC (aG aF (aG aF (aD 1 rfl (ge_int (aI (.tup _) rfl (ge_int ?_)))))))))⟩)))))))))))))))))))))
 exact aI (.tup _) (at0 b1.2) (aC (aG aF (aG aF (aD 0 rfl (ge_int (aI (.tup _) rfl (ge_int (aI (.tup _) (at0 a1.2) (aE ⟨_,_,rfl,cP (hB.y.at 0) h3,cP (hA.y.at 0) h3,(aE ⟨(show 2≤sizeLine by decide),hk⟩)⟩)))))))))
theorem aGU:FnScope ["yard", "x", "y"] ["yard", "x", "y"] (aQ pS):=⟨rfl,rfl,rfl,by decide +kernel,rfl,by decide +kernel,by decide +kernel⟩
abbrev aAT (P w K mg base):=Fo P w K mg base "moved" pS ["yard", "x", "y"] 5 aA6
theorem aFT {f:Addr}{fd:FuncData} (Df:R.Df K mg "moved" pS ["yard", "x", "y"] f fd) (aOX:xT P w K mg base) (T:Bt mg):aAT P w K mg base:=by
 refine ⟨f,fd,Df,bK Df aGU (fun ds M k h => ?_) (fun cdv A outer s H E hr ds M k h => ?_)⟩
 ·obtain ⟨A,a,b,rfl,_⟩:=h; rfl
 obtain ⟨A,a,b,rfl,h9,g9,ba,bb,hl,gl,hk⟩:=h
 refine aL (aT (aS (aC (bF bN T.tuple R.BT (aC (bG ["x"] [1] (bS (aG aF (aD 0 rfl (ge_int (aI (.tup _) rfl ⟨_, .inl rfl,(b8 (ds:=aO A.ws) (by rw [aY]; exact R.aU (by omega)) (fun i acc M'=>M'=M∧acc=aO ((A.ws.take i).map (· + a))) ⟨rfl,rfl⟩ ?_ ?_)⟩)))))))))))
 ·rintro i d acc M' hd ⟨rfl,rfl⟩ cs C s₀ H₀ fp
  obtain ⟨x,hx,rfl⟩:=bW hd
  refine bJ (b4 fun cs C s₀ H₀ fp=>(aM aOX hr (aC (aD 0 rfl (aC (aD 1 rfl (aE ⟨_,_,rfl,h9 x (List.mem_of_getElem? hx),ba,⟨rfl,?_⟩⟩)))))))
  rw [bY hx,← cJ]
  rfl
 rintro acc M ⟨rfl,rfl⟩
 rw [aY,List.take_length]
 refine aE (cK (.lst _) (aC (bF bN T.tuple R.BT (aC (bG ["y"] [2] (bS (aG aF (aD 0 rfl (ge_int (aI (.tup _) rfl ⟨_, .inl rfl,(b8 (ds:=aO A.us) (by rw [aY]; exact R.aU (by omega)) (fun i acc M'=>M'=M∧acc=aO ((A.us.take i).map (· + b))) ⟨rfl,rfl⟩ ?_ ?_)⟩))))))))))
 ·rintro i d acc M' hd ⟨rfl,rfl⟩ cs C s₀ H₀ fp
  obtain ⟨x,hx,rfl⟩:=bW hd
  refine bJ (b4 fun cs C s₀ H₀ fp=>(aM aOX hr (aC (aD 0 rfl (aC (aD 1 rfl (aE ⟨_,_,rfl,g9 x (List.mem_of_getElem? hx),bb,⟨rfl,?_⟩⟩)))))))
  rw [bY hx,← cJ]
  rfl
 rintro acc M ⟨rfl,rfl⟩
 rw [aY,List.take_length]
 exact aE (cK (.lst _) (aC (aG aF (aD 0 rfl (ge_int (aI (.tup _) rfl (aE ⟨(show 3≤sizeLine by decide),hk⟩)))))))
theorem oR:FnScope ["one", "other", "way", "told", "step"] ["one", "other", "way"] (aQ mE):=⟨rfl,rfl,rfl,by decide +kernel,rfl,by decide +kernel,by decide +kernel⟩
abbrev vH (P w K mg base):=Fo P w K mg base "laid_on" mE ["one", "other", "way"] 8 aJJ
theorem aB5 {f:Addr}{fd:FuncData} (Df:R.Df K mg "laid_on" mE ["one", "other", "way"] f fd) (aOY:o9 P w K mg base) (aOZ:pH P w K mg base) (aO0:aAT P w K mg base):vH P w K mg base:=by
 refine ⟨f,fd,Df,bK Df oR (fun ds M k h => ?_) (fun cdv A outer s H E hr ds M k h => ?_)⟩
 ·obtain ⟨A,B,w,rfl,_⟩:=h; rfl
 obtain ⟨A,B,w,rfl,hA,hB,hw,hk⟩:=h
 have hT:=hA.bring w
 have st:=pP hT hB
 have h3:(10:Nat) ^ 100≤10 ^ 300:=by decide +kernel
 have h4:(10:Nat) ^ 100+10 ^ 100≤10 ^ 300:=by decide +kernel
 have lx:=hT.lx
 have ly:=hT.ly
 refine aH (aP 3 oR.nd (aM aOY hr (aC (aD 0 rfl (aC (aD 2 rfl (aE ⟨A,w,rfl,hA,hw,(aH (aP 4 oR.nd (aM aOZ hr (aC (aD 3 rfl (aC (aD 1 rfl (aE ⟨_,B,rfl,hT,hB,(aL (aT (aM aO0 hr (aC (aD 3 rfl (aC (aG aF (aD 4 rfl (ge_int (aI (.tup _) rfl (aC (aG aF (aD 4 rfl (ge_int (aI (.tup _) rfl (aE ?_))))))))))))))))⟩))))))))⟩)))))))
 refine ⟨_,_,_,rfl,(hT.bq h3).1,(hT.bq h3).2,cP st.1 h4,cP st.2 h4,by omega,by omega,?_⟩
 exact hk
theorem aK9:FnScope ["one", "other"] ["one", "other"] (aQ tD):=⟨rfl,rfl,rfl,by decide +kernel,rfl,by decide +kernel,by decide +kernel⟩
abbrev aE1 (P w K mg base):=Fo P w K mg base "mean" tD ["one", "other"] 4 aM0
theorem aKA {f:Addr}{fd:FuncData} (Df:R.Df K mg "mean" tD ["one", "other"] f fd) (aO1:zY P w K mg base) (aOX:xT P w K mg base):aE1 P w K mg base:=by
 refine ⟨f,fd,Df,bK Df aK9 (fun ds M k h => ?_) (fun cdv A outer s H E hr ds M k h => ?_)⟩
 ·obtain ⟨a,b,rfl,_⟩:=h; rfl
 obtain ⟨a,b,rfl,ha,hb,hab,hk⟩:=h
 refine aL (aT (aM aO1 hr (aC (aS (aC (ge_int (aC (ge_int (aE ⟨(show 2≤sizeLine by decide),(aC (aM aOX hr (aC (aD 0 rfl (aC (aD 1 rfl (aE ⟨a,b,rfl,ha,hb,(aE ⟨Rat.divInt 1 2,a+b,by rw [aL5],by rw [zZ]; exact bq12,hab,?_⟩)⟩)))))))⟩)))))))))
 exact hk
theorem mS:FnScope ["yard", "across"] ["yard"] (aQ hU):=⟨rfl,rfl,rfl,by decide +kernel,rfl,by decide +kernel,by decide +kernel⟩
abbrev nB (P w K mg base):=Fo P w K mg base "point_within" hU ["yard"] 5 aFY
theorem tV {f:Addr}{fd:FuncData} (Df:R.Df K mg "point_within" hU ["yard"] f fd) (aO2:aE1 P w K mg base):nB P w K mg base:=by
 refine ⟨f,fd,Df,bK Df mS (fun ds M k h => ?_) (fun cdv A outer s H E hr ds M k h => ?_)⟩
 ·obtain ⟨A,rfl,_⟩:=h; rfl
 obtain ⟨A,rfl,hv,hx,hy,hx2,hy2,lx,ly,hk⟩:=h
 obtain ⟨w2,u2,a0,ha0,hc0⟩:=aBF hv
 obtain ⟨hw,lK⟩:=A.wide
 have lK1:0 < A.K.length:=by omega
 obtain ⟨z,hz⟩:∃ z,A.K[0]?=some z:=⟨_,List.getElem?_eq_getElem lK1⟩
 have zl:z.length=A.ws.length - 1:=hw z (List.mem_of_getElem? hz)
 have sg:∀ {i:Nat},i < z.length→(R.atS z i=35↔R.bH A.K (i:Int) 0=true):=fun {i} hi=>by
  have e:=R.fI (zs:=A.K) (a:=(i:Int)) (u:=0) (z:=z) (c:=R.atS z i) (by omega) (by omega) (by exact hz) (by rw [Int.toNat_natCast]; exact R.dQ hi)
  rw [e,decide_eq_true_eq]
 obtain ⟨a,rest,ho,ha,ea⟩:=aBV ⟨a0,by omega,(sg (by omega)).mpr hc0⟩
 have ha1:a+1 < A.ws.length:=by omega
 have m1:∀ {ws:List Rat}{i:Nat},i < ws.length→ws.getD i 0∈ws:=fun {ws i} h=>by rw [gD h]; exact List.getElem_mem h
 have at2:atI (aO A.ws) ((a:Int)+1)=some (bA (A.ws.getD (a+1) 0)):=jO (i:=a+1) ha1
 have rz:atI (A.K.map D.str) 0=some (.str z):=cW (j:=0) (by rw [List.getElem?_map,hz]; rfl)
 refine aH (aP 1 mS.nd (fL PySem.F.plainAttrs_str PySem.F.slot_str_index PySem.F.type_str_index aC8 (aG aF (aG aF (aD 0 rfl (ge_int (aI (.tup _) rfl (ge_int (aI (.tup _) rz ⟨rfl,(aC (ge_str (aE (aCX ho (aL (aT (aS (aC (aM aO2 hr (aC (aG aF (aG aF (aD 0 rfl (ge_int (aI (.tup _) rfl (aD 1 rfl (aI (.tup _) (jO (by omega)) (aC (aG aF (aG aF (aD 0 rfl (ge_int (aI (.tup _) rfl ?_)))))))))))))))))))))))⟩)))))))))
 exact aK b5 (aD 1 rfl (ge_int (bP (aI (.tup _) at2 (aE ⟨_,_,rfl,hx _ (m1 (by omega)),hx _ (m1 (by omega)),hx2 _ _ (m1 (by omega)) (m1 (by omega)),(aC (aM aO2 hr (aC (aG aF (aG aF (aD 0 rfl (ge_int (aI (.tup _) rfl (ge_int (aI (.tup _) (jO (i:=0) (by omega)) (aC (aG aF (aG aF (aD 0 rfl (ge_int (aI (.tup _) rfl (ge_int (aI (.tup _) (jO (i:=1) (by omega)) (aE ⟨_,_,rfl,hy _ (m1 (by omega)),hy _ (m1 (by omega)),hy2 _ _ (m1 (by omega)) (m1 (by omega)),(aE ⟨(show 2≤sizeLine by decide),(hk a ha1 (by omega) ((sg ha).mp ea))⟩)⟩)))))))))))))))))))⟩)))))
theorem jH:FnScope ["bands", "outside", "framed"] ["bands"] (aQ mI):=⟨rfl,rfl,rfl,by decide +kernel,rfl,by decide +kernel,by decide +kernel⟩
abbrev vJ (P w K mg base):=Fo P w K mg base "changes" mI ["bands"] 1 aE9
theorem aCE {f:Addr}{fd:FuncData} (Df:R.Df K mg "changes" mI ["bands"] f fd) (T:Bt mg):vJ P w K mg base:=by
 refine ⟨f,fd,Df,bK Df jH (fun ds M k h => ?_) (fun cdv A outer s H E hr ds M k h => ?_)⟩
 ·obtain ⟨t,r,zs,n,rfl,_⟩:=h; rfl
 obtain ⟨t,r,zs,n,rfl,s1,hl,hn,hz,hk⟩:=h
 cases t with
 | true =>
  cases s1
  refine aH (cA (fP (oP (aD 0 rfl ⟨_, .seq (.lst _),(ite2 (fun hb => ?_) (fun hb => ?_))⟩))))
  ·have e:zs=[]:=by
    cases zs with
    | nil=>rfl
    | cons z zr=>exact absurd hb (by simp)
   subst e
   exact aL (aT (b7 (aE ⟨(show 0≤sizeLine by decide),hk⟩)))
  have hne:zs≠[]:=fun e=>by subst e; exact hb rfl
  obtain ⟨z0,zr,rfl⟩:∃ z0 zr,zs=z0::zr:=by
   cases zs with
   | nil=>exact absurd rfl hne
   | cons z zr=>exact ⟨z,zr,rfl⟩
  have l0:=hz z0 (by simp)
  refine bU (aH (aP 1 jH.nd (aK qN (ge_str (bB bI T.len PySem.boot_len (aC (aG aF (aD 0 rfl (ge_int (aI (.lst _) (qK z0 zr) (aE (gY (R.aU (by omega)) (qI (by omega) (by omega) (rK (by omega)) ?_)))))))))))))
  rw [Int.toNat_natCast,R.o7]
  refine aH (aP 2 jH.nd (aK eO (aK eO (b7 (aC (aD 1 rfl (aE ⟨(show 1≤sizeLine by decide),(bF dE T.list R.BL (aC (aD 0 rfl (aE (hV (.lst _) (eP (.lst _) (.lst _) (by rw [List.length_map]; exact R.aU (by simp only [List.length_cons,List.length_nil] at hl ⊢; omega)) (b7 (aC (aD 1 rfl (aE ⟨(show 1≤sizeLine by decide),(eP (.lst _) (.lst _) (by simp only [List.length_append,List.length_map,List.length_cons,List.length_nil] at hl ⊢; exact R.aU (by omega)) ?_)⟩))))))))))⟩)))))))
  rw [show [D.str (R.dots z0.length)]++(z0::zr).map D.str++[D.str (R.dots z0.length)]=(R.framed (z0::zr)).map D.str from by simp [R.framed]]
  generalize hzz:z0::zr=zs at *
  refine aL (aT ((bG ["framed"] [2] (dD T.range (aC (aK cD (bB bI T.len PySem.boot_len (aC (aD 2 rfl (aE (cH (.lst _) (ge_int (bP (aE ?_))))))))))))))
  rw [List.length_map,R.g6]
  refine ⟨_,rfl,by omega,by omega,?_⟩
  rw [show (((zs.length+2:Nat):Int) - 1).toNat=zs.length+1 by omega]
  refine b8 (by rw [bM]; exact R.aU (by omega)) (fun i acc M'=>M'=M∧acc=((List.range i).filter fun i => !decide ((R.framed zs)[i]?=(R.framed zs)[i+1]?)).map fun (j:Nat)=>D.int (j:Int)) ⟨rfl,rfl⟩ ?_ ?_
  ·rintro i d acc M' hd ⟨rfl,rfl⟩ cs C s₀ H₀ fp
   obtain ⟨hi,rfl⟩:=cR hd
   obtain ⟨u,hu⟩:=iA (zs:=zs) (i:=i) (by omega)
   obtain ⟨v,hv⟩:=iA (zs:=zs) (i:=i+1) (by omega)
   refine nD (bD jK (aG aF (aD 1 rfl (aD 0 rfl (aI (.lst _) (m6 hu) (aG aF (aD 1 rfl (aK b5 (aD 0 rfl (ge_int (bP (aI (.lst _) (rS hv) (tP ⟨_,rfl,?_⟩)))))))))))))
   have ed:(!decide ((R.framed zs)[i]?=(R.framed zs)[i+1]?))=(!decide (u=v)):=by rw [hu,hv]; congr 1; simp
   refine ite2 (fun hb=>fun cs C s₀ H₀ fp => ?_) (fun hb => ?_)
   ·refine aD 0 rfl ⟨rfl,?_⟩
    rw [eH,if_pos (by rw [ed]; exact hb),List.map_append,Int.zero_add]
    rfl
   ·refine ⟨rfl,?_⟩
    rw [eH,if_neg (by rw [ed]; exact hb)]
  rintro acc M' ⟨rfl,rfl⟩
  rw [bM,xE]
  exact hk
 | false =>
  cases s1
  refine aH (cA (fP (oP (aD 0 rfl ⟨_, .seq (.tup _),(ite2 (fun hb => ?_) (fun hb => ?_))⟩))))
  ·have e:zs=[]:=by
    cases zs with
    | nil=>rfl
    | cons z zr=>exact absurd hb (by simp)
   subst e
   exact aL (aT (b7 (aE ⟨(show 0≤sizeLine by decide),hk⟩)))
  have hne:zs≠[]:=fun e=>by subst e; exact hb rfl
  obtain ⟨z0,zr,rfl⟩:∃ z0 zr,zs=z0::zr:=by
   cases zs with
   | nil=>exact absurd rfl hne
   | cons z zr=>exact ⟨z,zr,rfl⟩
  have l0:=hz z0 (by simp)
  refine bU (aH (aP 1 jH.nd (aK qN (ge_str (bB bI T.len PySem.boot_len (aC (aG aF (aD 0 rfl (ge_int (aI (.tup _) (qK z0 zr) (aE (gY (R.aU (by omega)) (qI (by omega) (by omega) (rK (by omega)) ?_)))))))))))))
  rw [Int.toNat_natCast,R.o7]
  refine aH (aP 2 jH.nd (aK eO (aK eO (b7 (aC (aD 1 rfl (aE ⟨(show 1≤sizeLine by decide),(bF dE T.list R.BL (aC (aD 0 rfl (aE (hV (.tup _) (eP (.lst _) (.lst _) (by rw [List.length_map]; exact R.aU (by simp only [List.length_cons,List.length_nil] at hl ⊢; omega)) (b7 (aC (aD 1 rfl (aE ⟨(show 1≤sizeLine by decide),(eP (.lst _) (.lst _) (by simp only [List.length_append,List.length_map,List.length_cons,List.length_nil] at hl ⊢; exact R.aU (by omega)) ?_)⟩))))))))))⟩)))))))
  rw [show [D.str (R.dots z0.length)]++(z0::zr).map D.str++[D.str (R.dots z0.length)]=(R.framed (z0::zr)).map D.str from by simp [R.framed]]
  generalize hzz:z0::zr=zs at *
  refine aL (aT ((bG ["framed"] [2] (dD T.range (aC (aK cD (bB bI T.len PySem.boot_len (aC (aD 2 rfl (aE (cH (.lst _) (ge_int (bP (aE ?_))))))))))))))
  rw [List.length_map,R.g6]
  refine ⟨_,rfl,by omega,by omega,?_⟩
  rw [show (((zs.length+2:Nat):Int) - 1).toNat=zs.length+1 by omega]
  refine b8 (by rw [bM]; exact R.aU (by omega)) (fun i acc M'=>M'=M∧acc=((List.range i).filter fun i => !decide ((R.framed zs)[i]?=(R.framed zs)[i+1]?)).map fun (j:Nat)=>D.int (j:Int)) ⟨rfl,rfl⟩ ?_ ?_
  ·rintro i d acc M' hd ⟨rfl,rfl⟩ cs C s₀ H₀ fp
   obtain ⟨hi,rfl⟩:=cR hd
   obtain ⟨u,hu⟩:=iA (zs:=zs) (i:=i) (by omega)
   obtain ⟨v,hv⟩:=iA (zs:=zs) (i:=i+1) (by omega)
   refine nD (bD jK (aG aF (aD 1 rfl (aD 0 rfl (aI (.lst _) (m6 hu) (aG aF (aD 1 rfl (aK b5 (aD 0 rfl (ge_int (bP (aI (.lst _) (rS hv) (tP ⟨_,rfl,?_⟩)))))))))))))
   have ed:(!decide ((R.framed zs)[i]?=(R.framed zs)[i+1]?))=(!decide (u=v)):=by rw [hu,hv]; congr 1; simp
   refine ite2 (fun hb=>fun cs C s₀ H₀ fp => ?_) (fun hb => ?_)
   ·refine aD 0 rfl ⟨rfl,?_⟩
    rw [eH,if_pos (by rw [ed]; exact hb),List.map_append,Int.zero_add]
    rfl
   ·refine ⟨rfl,?_⟩
    rw [eH,if_neg (by rw [ed]; exact hb)]
  rintro acc M' ⟨rfl,rfl⟩
  rw [bM,xE]
  exact hk
theorem aE2:FnScope ["row", "places"] ["row", "places"] (aQ oU):=⟨rfl,rfl,rfl,by decide +kernel,rfl,by decide +kernel,by decide +kernel⟩
abbrev wP (P w K mg base):=Fo P w K mg base "picked" oU ["row", "places"] 1 aJF
theorem aDS {f:Addr}{fd:FuncData} (Df:R.Df K mg "picked" oU ["row", "places"] f fd):wP P w K mg base:=by
 refine ⟨f,fd,Df,bK Df aE2 (fun ds M k h => ?_) (fun cdv A outer s H E hr ds M k h => ?_)⟩
 ·obtain ⟨z,js,rfl,_⟩:=h; rfl
 obtain ⟨z,js,rfl,hz,hl,hj,hk⟩:=h
 refine aL (aT (fL PySem.F.plainAttrs_str PySem.F.slot_str_join PySem.F.type_str_join i7 (ge_str ⟨rfl,(aC ((bG ["row"] [0] (bS (aD 1 rfl ⟨_, .inr (.inl rfl),(b8 (ds:=dF js) (by rw [c6]; exact R.aU (by omega)) (fun i2 acc2 M2=>M2=M∧acc2=((js.take i2).map fun j=>(⟨#[R.atS z j]⟩:Str)).map D.str) ⟨rfl,rfl⟩ ?_ ?_)⟩)))))⟩)))
 ·rintro i2 d2 acc2 M2 hd2 ⟨rfl,rfl⟩ cs C s₀ H₀ fp
  obtain ⟨j,hj2,rfl⟩:=fV hd2
  have hjl:=hj j (List.mem_of_getElem? hj2)
  refine bJ (b4 fun cs C s₀ H₀ fp=>(aG aF (aD 1 rfl (aD 0 rfl (gB (R.aU (by omega)) (R.j8 hjl) ⟨rfl,?_⟩)))))
  rw [take_snoc hj2,List.map_append,List.map_append]
  rfl
 ·rintro acc2 M2 ⟨rfl,rfl⟩
  rw [c6,List.take_length]
  refine aE (i5 (ys:=js.map fun j=>(⟨#[R.atS z j]⟩:Str)) (.lst _) (by decide +kernel) ?_ ?_)
  ·rw [nI _ (fun z hz => ?_),List.length_map]
   ·omega
   ·obtain ⟨y,_,rfl⟩:=List.mem_map.mp hz
    rfl
  ·rw [R.fB,aBI]
   exact hk
theorem gO:FnScope ["xs", "ys", "rows", "at_xs", "at_ys", "kept"] ["xs", "ys", "rows"] (aQ n9):=⟨rfl,rfl,rfl,by decide +kernel,rfl,by decide +kernel,by decide +kernel⟩
abbrev yG (P w K mg base):=Fo P w K mg base "tidied" n9 ["xs", "ys", "rows"] 3 aFR
theorem aDY {f:Addr}{fd:FuncData} (Df:R.Df K mg "tidied" n9 ["xs", "ys", "rows"] f fd) (aO3:vJ P w K mg base) (aOT:pF P w K mg base) (aO4:wP P w K mg base) (T:Bt mg):yG P w K mg base:=by
 refine ⟨f,fd,Df,bK Df gO (fun ds M k h => ?_) (fun cdv A outer s H E hr ds M k h => ?_)⟩
 ·obtain ⟨t,dx,dy,dr,xs,ys,zs,n,rfl,_⟩:=h; rfl
 obtain ⟨t,dx,dy,dr,xs,ys,zs,n,rfl,s1,s2,s3,hl,hn,hz,hx,hy,hk⟩:=h
 have cl:=R.jV hz
 have kx:=R.lB (R.aJ zs)
 have ky:=R.lB zs
 cases t with
 | true =>
  cases s1
  cases s2
  cases s3
  refine aH (aP 3 gO.nd (aM aO3 hr (aC (aM aOT hr (aC (aD 2 rfl (aE ⟨true,_,zs,n,rfl,rfl,by omega,by omega,hz,?_⟩)))))))
  refine aE ⟨true,_,R.aJ zs,zs.length,rfl,rfl,by omega,by omega,fun z hz=>R.dB z hz,?_⟩
  refine aH (aP 4 gO.nd (aM aO3 hr (aC (aD 2 rfl (aE ⟨true,_,zs,n,rfl,rfl,by omega,by omega,hz,?_⟩)))))
  have hjx:∀ j∈(R.chg (R.aJ zs)).dropLast,j < n:=fun j hj=>by
   have:=R.i9 (R.cL _) (R.eB _) j hj
   omega
  refine aH (eZ 5 ["rows", "at_xs"] [2,3] gO.nd (bS (c9 i6 (aD 4 rfl (dU (dM (fZ dH (ge_int ⟨_,rfl,⟨_,rfl,(kC (.lst _) ?_)⟩⟩))))))))
  rw [show cutD (dF (R.chg zs)) none (some (-1))=dF (R.chg zs).dropLast from (fE _).trans (gE _)]
  refine ⟨_, .inr (.inl rfl),(kY (ds:=dF (R.chg zs).dropLast) (by rw [c6,List.length_dropLast]; exact R.aU (by omega)) (fun i acc M2=>M2=M∧acc=(((R.chg zs).dropLast.take i).map fun i=>R.ofL ((R.chg (R.aJ zs)).dropLast.map (R.atS (zs.getD i Str.empty)))).map D.str) ⟨rfl,rfl⟩ ?_ ?_)⟩
  ·rintro i d acc M2 hd ⟨rfl,rfl⟩ cs C s₀ H₀ fp
   obtain ⟨j,hj,rfl⟩:=fV hd
   have hjl:=R.i9 (R.cL zs) (R.eB zs) j (List.mem_of_getElem? hj)
   have hzj:zs[j]?=some (zs.getD j Str.empty):=by rw [List.getD_eq_getElem?_getD,List.getElem?_eq_getElem hjl]; rfl
   have hzm:=List.mem_of_getElem? hzj
   refine bJ (b4 fun cs C s₀ H₀ fp=>(aM aO4 hr (aC (aG aF (aD 1 rfl (aD 0 rfl (aI (.lst _) (by have:=m6 hzj; rw [Int.zero_add] at this; exact this) (aC (c9 i6 (aD 2 rfl (dU (dM (fZ dH (ge_int ⟨_,rfl,⟨_,rfl,(kC (.lst _) (aE ?_))⟩⟩))))))))))))))
   rw [show cutD (dF (R.chg (R.aJ zs))) none (some (-1))=dF (R.chg (R.aJ zs)).dropLast from (fE _).trans (gE _)]
   refine ⟨_,(R.chg (R.aJ zs)).dropLast,rfl,by rw [hz _ hzm]; omega,by rw [List.length_dropLast]; omega,fun j hj=>by rw [hz _ hzm]; exact hjx j hj,?_⟩
   refine ⟨rfl,?_⟩
   rw [bY hj,List.map_append]
   rfl
  rintro acc M2 ⟨rfl,rfl⟩ a ha
  rw [c6,List.take_length]
  refine iC 5 rfl aZ ?_
  rw [fX ha]
  refine aL (aT (aS (aC (bF bN T.tuple R.BT (aC (bG ["xs"] [0] (bS (aD 3 rfl ⟨_, .inr (.inl rfl),(b8 (ds:=dF (R.chg (R.aJ zs))) (by rw [c6]; exact R.aU (by omega)) (fun i acc M1=>M1=M2∧acc=((R.chg (R.aJ zs)).take i).map fun j=>xs.getD j .non) ⟨rfl,rfl⟩ ?_ ?_)⟩))))))))
  ·rintro i d acc M1 hd ⟨rfl,rfl⟩ cs C s₀ H₀ fp
   obtain ⟨j,hj,rfl⟩:=fV hd
   exact bJ (b4 fun cs C s₀ H₀ fp=>(aG aF (aD 1 rfl (aD 0 rfl (aI (.lst _) (wL (hx j (List.mem_of_getElem? hj))) ⟨rfl,(bY hj).symm⟩)))))
  rintro acc M1 ⟨rfl,rfl⟩
  rw [c6,List.take_length]
  refine aE (cK (.lst _) (aC (bF bN T.tuple R.BT (aC (bG ["ys"] [1] (bS (aD 4 rfl ⟨_, .inr (.inl rfl),(b8 (ds:=dF (R.chg zs)) (by rw [c6]; exact R.aU (by omega)) (fun i acc M2=>M2=M1∧acc=((R.chg zs).take i).map fun j=>ys.getD j .non) ⟨rfl,rfl⟩ ?_ ?_)⟩)))))))
  ·rintro i d acc M2 hd ⟨rfl,rfl⟩ cs C s₀ H₀ fp
   obtain ⟨j,hj,rfl⟩:=fV hd
   exact bJ (b4 fun cs C s₀ H₀ fp=>(aG aF (aD 1 rfl (aD 0 rfl (aI (.lst _) (wL (hy j (List.mem_of_getElem? hj))) ⟨rfl,(bY hj).symm⟩)))))
  rintro acc M2 ⟨rfl,rfl⟩
  rw [c6,List.take_length]
  exact aE (cK (.lst _) (aC (bF bN T.tuple R.BT (aC (aD 5 rfl (aE (cK (.lst _) (aE ⟨(show 3≤sizeLine by decide),hk⟩))))))))
 | false =>
  cases s1
  cases s2
  cases s3
  refine aH (aP 3 gO.nd (aM aO3 hr (aC (aM aOT hr (aC (aD 2 rfl (aE ⟨false,_,zs,n,rfl,rfl,by omega,by omega,hz,?_⟩)))))))
  refine aE ⟨true,_,R.aJ zs,zs.length,rfl,rfl,by omega,by omega,fun z hz=>R.dB z hz,?_⟩
  refine aH (aP 4 gO.nd (aM aO3 hr (aC (aD 2 rfl (aE ⟨false,_,zs,n,rfl,rfl,by omega,by omega,hz,?_⟩)))))
  have hjx:∀ j∈(R.chg (R.aJ zs)).dropLast,j < n:=fun j hj=>by
   have:=R.i9 (R.cL _) (R.eB _) j hj
   omega
  refine aH (eZ 5 ["rows", "at_xs"] [2,3] gO.nd (bS (c9 i6 (aD 4 rfl (dU (dM (fZ dH (ge_int ⟨_,rfl,⟨_,rfl,(kC (.lst _) ?_)⟩⟩))))))))
  rw [show cutD (dF (R.chg zs)) none (some (-1))=dF (R.chg zs).dropLast from (fE _).trans (gE _)]
  refine ⟨_, .inr (.inl rfl),(kY (ds:=dF (R.chg zs).dropLast) (by rw [c6,List.length_dropLast]; exact R.aU (by omega)) (fun i acc M2=>M2=M∧acc=(((R.chg zs).dropLast.take i).map fun i=>R.ofL ((R.chg (R.aJ zs)).dropLast.map (R.atS (zs.getD i Str.empty)))).map D.str) ⟨rfl,rfl⟩ ?_ ?_)⟩
  ·rintro i d acc M2 hd ⟨rfl,rfl⟩ cs C s₀ H₀ fp
   obtain ⟨j,hj,rfl⟩:=fV hd
   have hjl:=R.i9 (R.cL zs) (R.eB zs) j (List.mem_of_getElem? hj)
   have hzj:zs[j]?=some (zs.getD j Str.empty):=by rw [List.getD_eq_getElem?_getD,List.getElem?_eq_getElem hjl]; rfl
   have hzm:=List.mem_of_getElem? hzj
   refine bJ (b4 fun cs C s₀ H₀ fp=>(aM aO4 hr (aC (aG aF (aD 1 rfl (aD 0 rfl (aI (.tup _) (by have:=m6 hzj; rw [Int.zero_add] at this; exact this) (aC (c9 i6 (aD 2 rfl (dU (dM (fZ dH (ge_int ⟨_,rfl,⟨_,rfl,(kC (.lst _) (aE ?_))⟩⟩))))))))))))))
   rw [show cutD (dF (R.chg (R.aJ zs))) none (some (-1))=dF (R.chg (R.aJ zs)).dropLast from (fE _).trans (gE _)]
   refine ⟨_,(R.chg (R.aJ zs)).dropLast,rfl,by rw [hz _ hzm]; omega,by rw [List.length_dropLast]; omega,fun j hj=>by rw [hz _ hzm]; exact hjx j hj,?_⟩
   refine ⟨rfl,?_⟩
   rw [bY hj,List.map_append]
   rfl
  rintro acc M2 ⟨rfl,rfl⟩ a ha
  rw [c6,List.take_length]
  refine iC 5 rfl aZ ?_
  rw [fX ha]
  refine aL (aT (aS (aC (bF bN T.tuple R.BT (aC (bG ["xs"] [0] (bS (aD 3 rfl ⟨_, .inr (.inl rfl),(b8 (ds:=dF (R.chg (R.aJ zs))) (by rw [c6]; exact R.aU (by omega)) (fun i acc M1=>M1=M2∧acc=((R.chg (R.aJ zs)).take i).map fun j=>xs.getD j .non) ⟨rfl,rfl⟩ ?_ ?_)⟩))))))))
  ·rintro i d acc M1 hd ⟨rfl,rfl⟩ cs C s₀ H₀ fp
   obtain ⟨j,hj,rfl⟩:=fV hd
   exact bJ (b4 fun cs C s₀ H₀ fp=>(aG aF (aD 1 rfl (aD 0 rfl (aI (.tup _) (wL (hx j (List.mem_of_getElem? hj))) ⟨rfl,(bY hj).symm⟩)))))
  rintro acc M1 ⟨rfl,rfl⟩
  rw [c6,List.take_length]
  refine aE (cK (.lst _) (aC (bF bN T.tuple R.BT (aC (bG ["ys"] [1] (bS (aD 4 rfl ⟨_, .inr (.inl rfl),(b8 (ds:=dF (R.chg zs)) (by rw [c6]; exact R.aU (by omega)) (fun i acc M2=>M2=M1∧acc=((R.chg zs).take i).map fun j=>ys.getD j .non) ⟨rfl,rfl⟩ ?_ ?_)⟩)))))))
  ·rintro i d acc M2 hd ⟨rfl,rfl⟩ cs C s₀ H₀ fp
   obtain ⟨j,hj,rfl⟩:=fV hd
   exact bJ (b4 fun cs C s₀ H₀ fp=>(aG aF (aD 1 rfl (aD 0 rfl (aI (.tup _) (wL (hy j (List.mem_of_getElem? hj))) ⟨rfl,(bY hj).symm⟩)))))
  rintro acc M2 ⟨rfl,rfl⟩
  rw [c6,List.take_length]
  exact aE (cK (.lst _) (aC (bF bN T.tuple R.BT (aC (aD 5 rfl (aE (cK (.lst _) (aE ⟨(show 3≤sizeLine by decide),hk⟩))))))))
theorem aGK:FnScope ["one", "other"] ["one", "other"] (aQ qC):=⟨rfl,rfl,rfl,by decide +kernel,rfl,by decide +kernel,by decide +kernel⟩
abbrev uN (P w K mg base):=Fo P w K mg base "under" qC ["one", "other"] 1 aJK
theorem aHI {f:Addr}{fd:FuncData} (Df:R.Df K mg "under" qC ["one", "other"] f fd):uN P w K mg base:=by
 refine ⟨f,fd,Df,bK Df aGK (fun ds M k h => ?_) (fun cdv A outer s H E hr ds M k h => ?_)⟩
 ·obtain ⟨p,q,rfl,_⟩:=h; rfl
 obtain ⟨p,q,rfl,⟨p1,p2⟩,⟨q1,q2⟩,hk⟩:=h
 exact aL (aT (cB jG (aK c7 (aG aF (aD 0 rfl (ge_int (aI (.tup _) rfl (aG aF (aD 1 rfl (ge_int (aI (.tup _) rfl (bR ⟨big400 p1,big400 q2⟩ (aK c7 (aG aF (aD 1 rfl (ge_int (aI (.tup _) rfl (aG aF (aD 0 rfl (ge_int (aI (.tup _) rfl (bR ⟨big400 q1,big400 p2⟩ (eQ hk)))))))))))))))))))))))
theorem fT:FnScope ["one", "other", "told", "first", "second", "ahead"] ["one", "other"] (aQ nW):=⟨rfl,rfl,rfl,by decide +kernel,rfl,by decide +kernel,by decide +kernel⟩
abbrev yD (P w K mg base):=Fo P w K mg base "merged" nW ["one", "other"] 2 aG8
theorem aC4 {f:Addr}{fd:FuncData} (Df:R.Df K mg "merged" nW ["one", "other"] f fd) (aO5:uN P w K mg base) (T:Bt mg):yD P w K mg base:=by
 refine ⟨f,fd,Df,bK Df fT (fun ds M k h => ?_) (fun cdv A outer s H E hr ds M k h => ?_)⟩
 ·obtain ⟨xs,ys,rfl,_⟩:=h; rfl
 obtain ⟨xs,ys,rfl,h9,g9,lx,ly,hk⟩:=h
 have mx:=aY xs
 have my:=aY ys
 refine aH (aP 2 fT.nd (iY (aE ⟨(show 0≤sizeLine by decide),fun a ha=>(aH (aP 3 fT.nd (ge_int (aH (aP 4 fT.nd (ge_int (aH (r6 (fun m Γ' M'=>∃ (f s:Nat) (acc:List Rat) (v5:Option D),Γ'=[some (.tup (aO xs)),some (.tup (aO ys)),some (.mt a),some (.int (f:Int)),some (.int (s:Int)),v5]∧M'=cF M a (.lst (aO acc))∧f≤xs.length∧s≤ys.length∧acc++a9 (xs.drop f) (ys.drop s)=a9 xs ys∧m=(xs.length - f)+(ys.length - s)) (n:=xs.length+ys.length) ⟨0,0,[],_,rfl,rfl,by omega,by omega,rfl,by omega⟩ ?_))))))))⟩)))
 rintro m Γ' M' ⟨f,s,acc,v5,rfl,rfl,hf,hs,hacc,rfl⟩
 have hal:acc.length≤200:=by
  have h1:=congrArg List.length hacc
  have h2:=hX xs ys
  rw [List.length_append] at h1
  omega
 refine pA (P:=fun c M1=>M1=cF M a (.lst (aO acc))∧(c=true→f < xs.length∧s < ys.length)∧(c=false→f=xs.length∨s=ys.length)) (kL (pQ ?_)) ?_
 ·refine bD jG (aD 3 rfl (bB bI T.len PySem.boot_len (aC (aD 0 rfl (aE (cH (.tup _) (eQ ⟨_,rfl,?_⟩)))))))
  rw [mx]
  refine ite2 (fun h1 => ?_) (fun h1=>⟨rfl,(fun z=>nomatch z),fun _ => .inl (by have:¬ (f:Int) < (xs.length:Int):=fun z=>h1 (decide_eq_true z); omega)⟩)
  have h1':(f:Int) < (xs.length:Int):=of_decide_eq_true h1
  refine m7 (bD jG (aD 4 rfl (bB bI T.len PySem.boot_len (aC (aD 1 rfl (aE (cH (.tup _) (eQ ⟨_,rfl,?_⟩))))))))
  rw [my]
  refine ⟨rfl,fun h2=>⟨by omega,by have:=of_decide_eq_true h2; omega⟩,fun h2 => .inr (by have:=of_decide_eq_false h2; omega)⟩
 rintro c M1 ⟨rfl,ht,hfl⟩
 refine ite2 (fun hc => ?_) (fun hc => ?_)
 ·obtain ⟨h1,h2⟩:=ht hc
  have gx:xs.getD f 0∈xs:=by rw [List.getD_eq_getElem?_getD,List.getElem?_eq_getElem h1]; exact List.getElem_mem h1
  have gy:ys.getD s 0∈ys:=by rw [List.getD_eq_getElem?_getD,List.getElem?_eq_getElem h2]; exact List.getElem_mem h2
  have x1:=h9 _ gx
  have y1:=g9 _ gy
  refine aH (aP 5 fT.nd (aG aF (aD 0 rfl (aD 3 rfl (aI (.tup _) (jS (by omega)) (aH (eA (fun Γ' M'=>M'=cF M a (.lst (aO acc))∧Γ'=[some (.tup (aO xs)),some (.tup (aO ys)),some (.mt a),some (.int (f:Int)),some (.int (s:Int)),some (bA ((if ys.getD s 0 < xs.getD f 0 then ys.getD s 0 else xs.getD f 0)))]) ?_ ?_)))))))
  ·refine cA (dA (aM aO5 hr (aC (aG aF (aD 1 rfl (aD 4 rfl (aI (.tup _) (jS (by omega)) (aC (aD 5 rfl (aE ⟨pq (ys.getD s 0),pq (xs.getD f 0),rfl,y1.p,x1.p,⟨_,rfl,?_⟩⟩))))))))))
   rw [aHV]
   by_cases hlt:ys.getD s 0 < xs.getD f 0
   ·exact mB (decide_eq_true hlt) (aL (aP 5 fT.nd (aG aF (aD 1 rfl (aD 4 rfl (aI (.tup _) (jS (by omega)) ⟨rfl,by rw [if_pos hlt]; rfl⟩))))))
   ·exact oF (decide_eq_false hlt) (bU ⟨rfl,by rw [if_neg hlt]; rfl⟩)
  rintro Γ' M1 ⟨rfl,rfl⟩
  have hst:=sG h1 h2
  have hah:(if ys.getD s 0 < xs.getD f 0 then ys.getD s 0 else xs.getD f 0)=ys.getD s 0∨(if ys.getD s 0 < xs.getD f 0 then ys.getD s 0 else xs.getD f 0)=xs.getD f 0:=by split <;> simp
  generalize (if ys.getD s 0 < xs.getD f 0 then ys.getD s 0 else xs.getD f 0)=ah at *
  refine aH (aP 3 fT.nd (aK b5 (aD 3 rfl (aD8 (P:=fun d M1=>M1=cF M a (.lst (aO acc))∧d = .int (if xs.getD f 0=ah then 1 else 0)) (iH (bD (iE (n:=1) (R.units_le hr)) ?_)) ?_))))
  ·refine aG aF (aD 0 rfl (aD 3 rfl (aI (.tup _) (jS (by omega)) (aD 5 rfl (iD (e1:=bA ((xs.getD f 0))) (e2:=bA (ah)) (.tup _) (.tup _) rfl rfl ⟨_,rfl,?_⟩)))))
   rw [tL]
   by_cases hc:xs.getD f 0=ah
   ·exact mB (decide_eq_true hc) (ge_int ⟨rfl,by rw [if_pos hc]⟩)
   ·exact oF (decide_eq_false hc) (ge_int ⟨rfl,by rw [if_neg hc]⟩)
  rintro d M1 ⟨rfl,rfl⟩
  refine bP ?_
  rw [show ((f:Int)+if xs.getD f 0=ah then 1 else 0)=((f+if xs.getD f 0=ah then 1 else 0:Nat):Int) from by split <;> rfl]
  refine aH (aP 4 fT.nd (aK b5 (aD 4 rfl (aD8 (P:=fun d M1=>M1=cF M a (.lst (aO acc))∧d = .int (if ys.getD s 0=ah then 1 else 0)) (iH (bD (iE (n:=1) (R.units_le hr)) ?_)) ?_))))
  ·refine aG aF (aD 1 rfl (aD 4 rfl (aI (.tup _) (jS (by omega)) (aD 5 rfl (iD (e1:=bA ((ys.getD s 0))) (e2:=bA (ah)) (.tup _) (.tup _) rfl rfl ⟨_,rfl,?_⟩)))))
   rw [tL]
   by_cases hc:ys.getD s 0=ah
   ·exact mB (decide_eq_true hc) (ge_int ⟨rfl,by rw [if_pos hc]⟩)
   ·exact oF (decide_eq_false hc) (ge_int ⟨rfl,by rw [if_neg hc]⟩)
  rintro d M1 ⟨rfl,rfl⟩
  refine bP ?_
  rw [show ((s:Int)+if ys.getD s 0=ah then 1 else 0)=((s+if ys.getD s 0=ah then 1 else 0:Nat):Int) from by split <;> rfl]
  refine aL (iZ (fL PySem.F.plainAttrs_list PySem.F.slot_list_append PySem.F.type_list_append fD (aD 2 rfl (⟨⟨rfl,_,aZ⟩,(aC (aD 5 rfl (aE (gQ aZ (by rw [aY]; exact Nat.lt_of_le_of_lt (show _≤60000 by omega) (by decide)) ⟨_,?_,_,_,acc++[ah],_,rfl,by rw [lW,← cJ]; rfl,by split <;> omega,by split <;> omega,by rw [← hacc,hst,List.append_assoc]; rfl,rfl⟩))))⟩))))
  rcases hah with e | e
  ·rw [if_pos e.symm]; split <;> omega
  ·rw [if_pos e.symm]; split <;> omega
 ·have hz:=hfl (by simpa using hc)
  have fin:acc++xs.drop f++ys.drop s=a9 xs ys:=by
   rw [← hacc]
   rcases hz with h | h
   ·rw [h,List.drop_length,List.append_nil,xV]
   ·rw [h,List.drop_length,List.append_nil,yC]
  refine iC 2 rfl aZ ?_
  rw [fX ha]
  refine aL (aT (aK eO (aK eO (aD 2 rfl (bF dE T.list R.BL (aC (c9 m8 (aD 0 rfl (dM (aD 3 rfl ⟨_,rfl,(dU (m9 (aE (hV (.tup _) (eP (.lst _) (.lst _) (by rw [iW _ _ (by rw [mx]; exact hf),iI,aY,aY,List.length_drop]; exact R.aU (by omega)) (bF dE T.list R.BL (aC (c9 m8 (aD 1 rfl (dM (aD 4 rfl ⟨_,rfl,(dU (m9 (aE (hV (.tup _) (eP (.lst _) (.lst _) (by rw [iW _ _ (by rw [mx]; exact hf),iW _ _ (by rw [my]; exact hs),iI,iI,cJ,aY,aY,List.length_append,List.length_drop,List.length_drop]; exact R.aU (by omega)) ?_)))))⟩)))))))))))⟩))))))))))
  rw [iW _ _ (by rw [mx]; exact hf),iW _ _ (by rw [my]; exact hs),iI,iI,cJ,cJ,fin]
  exact hk
theorem qT:FnScope ["lines", "where", "below"] ["lines", "where"] (aQ kX):=⟨rfl,rfl,rfl,by decide +kernel,rfl,by decide +kernel,by decide +kernel⟩
abbrev sP (P w K mg base):=Fo P w K mg base "bands_at" kX ["lines", "where"] 2 aK5
theorem zL {f:Addr}{fd:FuncData} (Df:R.Df K mg "bands_at" kX ["lines", "where"] f fd) (aO5:uN P w K mg base) (T:Bt mg):sP P w K mg base:=by
 refine ⟨f,fd,Df,bK Df qT (fun ds M k h => ?_) (fun cdv A outer s H E hr ds M k h => ?_)⟩
 ·obtain ⟨ws,v,rfl,_⟩:=h; rfl
 obtain ⟨ws,v,rfl,h9,hl,hv,hk⟩:=h
 have ml:=aY ws
 refine aH (aP 2 qT.nd (bB bI T.len PySem.boot_len (aC (bG ["where"] [1] (bS (aD 0 rfl ⟨_, .inl rfl,(b8 (ds:=aO ws) (by rw [ml]; exact R.aU (by omega)) (fun i acc M'=>M'=M∧acc=aO ((ws.take i).filter fun x=>decide (x < v))) ⟨rfl,rfl⟩ ?_ ?_)⟩))))))
 ·rintro i d acc M' hd ⟨rfl,rfl⟩ cs C s₀ H₀ fp
  obtain ⟨x,hx,rfl⟩:=bW hd
  refine nD (dA (aM aO5 hr (aC (aD 0 rfl (aC (aD 1 rfl (aE ⟨pq x,pq v,rfl,(h9 x (List.mem_of_getElem? hx)).p,hv.p,?_⟩)))))))
  rw [aHV]
  refine ⟨_,rfl,(ite2 (fun hb=>fun cs C s₀ H₀ fp => ?_) (fun hb => ?_))⟩
  ·refine aD 0 rfl ⟨rfl,?_⟩
   rw [take_snoc hx,List.filter_append,List.filter_cons_of_pos (p:=fun x=>decide (x < v)) hb,List.filter_nil,← cJ]
   rfl
  ·refine ⟨rfl,?_⟩
   rw [take_snoc hx,List.filter_append,List.filter_cons_of_neg (p:=fun x=>decide (x < v)) hb,List.filter_nil,List.append_nil]
 rintro acc M' ⟨rfl,rfl⟩
 rw [ml,List.take_length]
 refine aE (cH (.lst _) ?_)
 rw [aY,show (ws.filter fun x=>decide (x < v)).length=iS ws v from rfl]
 have hcl:iS ws v≤ws.length:=List.length_filter_le _ _
 refine aH (cA (kL (pQ (bD jG (aD 2 rfl (bB bI T.len PySem.boot_len (aC (aD 0 rfl (aE (cH (.tup _) (eQ ⟨_,rfl,?_⟩)))))))))))
 rw [ml]
 unfold lN at hk
 by_cases h1:iS ws v < ws.length
 rotate_left
 ·rw [if_neg (fun z=>h1 z.1)] at hk
  exact oF (decide_eq_false (by omega)) (eF (bU (aL (aT (b7 (aC (aK cD (aD 2 rfl (ge_int (bP (aE ⟨(show 1≤sizeLine by decide),hk⟩)))))))))))
 refine mB (decide_eq_true (by omega)) (m7 (bD (iE (n:=1) (R.units_le hr)) (aG aF (aD 0 rfl (aD 2 rfl (aI (.tup _) (jS h1) (aD 1 rfl (iD (e1:=bA (ws.getD (iS ws v) 0)) (e2:=bA v) (.tup _) (.tup _) rfl rfl ⟨_,rfl,?_⟩))))))))
 rw [tL]
 by_cases h2:ws.getD (iS ws v) 0=v
 ·rw [if_pos ⟨h1,h2⟩] at hk
  exact mB (decide_eq_true h2) (aL (aT (b7 (aC (aK cD (aD 2 rfl (ge_int (bP (aC (aD 2 rfl (aE ⟨(show 2≤sizeLine by decide),hk⟩)))))))))))
 ·rw [if_neg (fun z=>h2 z.2)] at hk
  exact oF (decide_eq_false h2) (bU (aL (aT (b7 (aC (aK cD (aD 2 rfl (ge_int (bP (aE ⟨(show 1≤sizeLine by decide),hk⟩))))))))))
theorem qX:FnScope ["yard", "across", "up", "rows"] ["yard", "across", "up"] (aQ kS):=⟨rfl,rfl,rfl,by decide +kernel,rfl,by decide +kernel,by decide +kernel⟩
abbrev tE (P w K mg base):=Fo P w K mg base "has_cell" kS ["yard", "across", "up"] 1 cHas
theorem yZ {f:Addr}{fd:FuncData} (Df:R.Df K mg "has_cell" kS ["yard", "across", "up"] f fd) (T:Bt mg):tE P w K mg base:=by
 refine ⟨f,fd,Df,bK Df qX (fun ds M k h => ?_) (fun cdv A outer s H E hr ds M k h => ?_)⟩
 ·obtain ⟨x,y,zs,a,u,rfl,_⟩:=h; rfl
 obtain ⟨x,y,zs,a,u,rfl,hz,hk⟩:=h
 have kf:R.bH zs a u=false→k (.bl false) M:=fun e=>by rw [e] at hk; exact hk
 refine aH (aP 3 qX.nd (aG aF (aD 0 rfl (ge_int (aI (.tup _) rfl (aH (cA (kL (gJ (bD jG (aD 2 rfl (ge_int (eQ ⟨_,rfl,(ite2 (fun h1=>b4 (aL (aT (tR (kf (R.dW (of_decide_eq_true h1))))))) (fun h1=>(gJ (bD sA (aD 2 rfl (bB bI T.len PySem.boot_len (aC (aD 3 rfl (aE (cH (.tup _) (eQ ⟨_,rfl,(ite2 (fun h2=>b4 (aL (aT (tR (kf (R.fJ (by have:=of_decide_eq_true h2; rw [List.length_map] at this; exact this))))))) (fun h2=>(gJ (bD jG (aD 1 rfl (ge_int (eQ ⟨_,rfl,?_⟩)))))))⟩)))))))))))⟩)))))))))))))
 refine ite2 (fun h3=>b4 (aL (aT (tR (kf (R.dC (of_decide_eq_true h3))))))) (fun h3 => ?_)
 obtain ⟨hu,ha,z,ez,ei⟩:=cell_in h1 h2 h3
 refine lG (bD sA (aD 1 rfl (bB bI T.len PySem.boot_len (aC (aG aF (aD 3 rfl (aD 2 rfl (aI (.tup _) ei (aE (gY (R.aU (by have:=hz z (List.mem_of_getElem? ez); omega)) (eQ ⟨_,rfl,?_⟩)))))))))))
 have hzl:=hz z (List.mem_of_getElem? ez)
 refine ite2 (fun h4=>aL (aT (tR (kf (R.j4 ez (of_decide_eq_true h4)))))) (fun h4=>bU ?_)
 obtain ⟨c,ec,ec2⟩:=aJ7 ha (fun q=>h4 (decide_eq_true q))
 refine aL (aT (cB dG (aG aF (aG aF (aD 3 rfl (aD 2 rfl (aI (.tup _) ei (aD 1 rfl (gB (R.aU (by omega)) ec2 (ge_str (pG ?_)))))))))))
 rw [aCR,← R.fI hu ha ez ec]
 exact hk
theorem xC:FnScope ["yard", "acrosses", "up"] ["yard", "acrosses", "up"] (aQ j7):=⟨rfl,rfl,rfl,by decide +kernel,rfl,by decide +kernel,by decide +kernel⟩
abbrev qU (P w K mg base):=Fo P w K mg base "finer_row" j7 ["yard", "acrosses", "up"] 2 aE3
theorem yO {f:Addr}{fd:FuncData} (Df:R.Df K mg "finer_row" j7 ["yard", "acrosses", "up"] f fd) (aO6:tE P w K mg base) (T:Bt mg):qU P w K mg base:=by
 refine ⟨f,fd,Df,bK Df xC (fun ds M k h => ?_) (fun cdv A outer s H E hr ds M k h => ?_)⟩
 ·obtain ⟨x,y,K',cs,u,rfl,_⟩:=h; rfl
 obtain ⟨x,y,K',cs,u,rfl,hw,hl,hk⟩:=h
 refine aL (aT (fL PySem.F.plainAttrs_str PySem.F.slot_str_join PySem.F.type_str_join i7 (ge_str ⟨rfl,aC (bG ["yard", "up"] [0,2] (bS (aD 1 rfl ⟨_, .inr (.inl rfl),(b8 (ds:=cs.map D.int) (by rw [List.length_map]; exact R.aU (by omega)) (fun i acc M'=>M'=M∧acc=(((cs.take i).map fun c=>R.sg (R.bH K' c u)).map fun c=>(⟨#[c]⟩:Str)).map D.str) ⟨rfl,rfl⟩ ?_ ?_)⟩)))⟩)))
 ·rintro i d acc M' hd ⟨rfl,rfl⟩ cs' C s₀ H₀ fp
  obtain ⟨c,hc,rfl⟩:=bW hd
  refine bJ (b4 fun cs' C s₀ H₀ fp=>(iH (dA (aM aO6 hr (aC (aD 1 rfl (aC (aD 0 rfl (aC (aD 2 rfl (aE ⟨_,_,K',_,_,rfl,hw,⟨_,rfl,?_⟩⟩)))))))))))
  have step:∀ b,R.bH K' c u=b→(((cs.take (i+1)).map fun c=>R.sg (R.bH K' c u)).map fun c=>(⟨#[c]⟩:Str)).map D.str=(((cs.take i).map fun c=>R.sg (R.bH K' c u)).map fun c=>(⟨#[c]⟩:Str)).map D.str++[.str ⟨#[R.sg b]⟩]:=fun b hb=>by
   rw [bY hc,List.map_append,List.map_append,hb]; rfl
  refine ite2 (fun hb => ?_) (fun hb => ?_)
  ·refine ge_str ⟨rfl,?_⟩
   rw [step true hb,wQ]; rfl
  ·refine ge_str ⟨rfl,?_⟩
   rw [step false (by simpa using hb),show ("." : Str)=⟨#[R.sg false]⟩ from by decide +kernel]
 rintro acc M' ⟨rfl,rfl⟩
 rw [List.length_map,List.take_length]
 refine aE (i5 (.lst _) (by decide +kernel) (by simp only [pZ,List.length_map]; omega) ?_)
 rw [R.fB,R.jZ]
 exact hk
theorem kO:FnScope ["yard", "xs", "ys", "acrosses", "ups"] ["yard", "xs", "ys"] (aQ jB):=⟨rfl,rfl,rfl,by decide +kernel,rfl,by decide +kernel,by decide +kernel⟩
abbrev o4 (P w K mg base):=Fo P w K mg base "finer_rows" jB ["yard", "xs", "ys"] 3 zK
theorem vW {f:Addr}{fd:FuncData} (Df:R.Df K mg "finer_rows" jB ["yard", "xs", "ys"] f fd) (aO7:sP P w K mg base) (aO8:qU P w K mg base) (T:Bt mg):o4 P w K mg base:=by
 refine ⟨f,fd,Df,bK Df kO (fun ds M k h => ?_) (fun cdv A outer s H E hr ds M k h => ?_)⟩
 ·obtain ⟨A,xs,ys,rfl,_⟩:=h; rfl
 obtain ⟨A,xs,ys,rfl,hws,hus,hxs,hys,lw,lu,lx,ly,hk⟩:=h
 have hz:∀ z∈A.K,z.length≤1000:=fun z hz=>by have:=A.wide.1 z hz; omega
 refine aH (aP 3 kO.nd (bG ["yard"] [0] (bS (c9 i6 (aD 1 rfl (dU (dM (fZ dH (ge_int ⟨_,rfl,⟨_,rfl,(kC (.lst _) ?_)⟩⟩)))))))))
 rw [fE,uW]
 refine ⟨_, .inr (.inl rfl),(b8 (ds:=aO xs.dropLast) (by rw [aY,List.length_dropLast]; exact R.aU (by omega)) (fun i acc M'=>M'=M∧acc=((xs.dropLast.take i).map (ix A.ws)).map D.int) ⟨rfl,rfl⟩ ?_ ?_)⟩
 ·rintro i d acc M' hd ⟨rfl,rfl⟩ cs' C s₀ H₀ fp
  obtain ⟨x,hx,rfl⟩:=bW hd
  refine bJ (b4 fun cs' C s₀ H₀ fp=>(aG aF (aM aO7 hr (aC (aG aF (aD 1 rfl (ge_int (aI (.tup _) rfl (aC (aD 0 rfl (aE ⟨A.ws,x,rfl,hws,by omega,hxs x ((List.dropLast_sublist xs).mem (List.mem_of_getElem? hx)),(fZ dH (ge_int ⟨_,rfl,(aI (.lst _) (tS A.uw _) ⟨rfl,?_⟩)⟩))⟩)))))))))))
  rw [bY hx,List.map_append]
  rfl
 rintro acc M' ⟨rfl,rfl⟩
 rw [aY,List.take_length]
 refine aH (eZ 4 ["yard"] [0] kO.nd (bS (c9 i6 (aD 2 rfl (dU (dM (fZ dH (ge_int ⟨_,rfl,⟨_,rfl,(kC (.lst _) ?_)⟩⟩))))))))
 rw [fE,uW]
 refine ⟨_, .inr (.inl rfl),(kY (ds:=aO ys.dropLast) (by rw [aY,List.length_dropLast]; exact R.aU (by omega)) (fun i acc M1=>M1=M'∧acc=((ys.dropLast.take i).map (ix A.us)).map D.int) ⟨rfl,rfl⟩ ?_ ?_)⟩
 ·rintro i d acc M1 hd ⟨rfl,rfl⟩ cs' C s₀ H₀ fp
  obtain ⟨x,hx,rfl⟩:=bW hd
  refine bJ (b4 fun cs' C s₀ H₀ fp=>(aG aF (aM aO7 hr (aC (aG aF (aD 1 rfl (ge_int (aI (.tup _) rfl (aC (aD 0 rfl (aE ⟨A.us,x,rfl,hus,by omega,hys x ((List.dropLast_sublist ys).mem (List.mem_of_getElem? hx)),(fZ dH (ge_int ⟨_,rfl,(aI (.lst _) (tS A.uu _) ⟨rfl,?_⟩)⟩))⟩)))))))))))
  rw [bY hx,List.map_append]
  rfl
 rintro acc M1 ⟨rfl,rfl⟩ a4 ha4
 rw [aY,List.take_length]
 refine iC 4 rfl aZ ?_
 rw [fX ha4]
 refine aL (aT (bG ["yard", "acrosses"] [0,3] (bS (aD 4 rfl ⟨_, .inr (.inl rfl),(b8 (ds:=(ys.dropLast.map (ix A.us)).map D.int) (by rw [List.length_map,List.length_map,List.length_dropLast]; exact R.aU (by omega)) (fun i acc M2=>M2=M1∧acc=((ys.dropLast.take i).map fun y=>wH A.K (xs.dropLast.map (ix A.ws)) (ix A.us y)).map D.str) ⟨rfl,rfl⟩ ?_ ?_)⟩))))
 ·rintro i d acc M2 hd ⟨rfl,rfl⟩ cs' C s₀ H₀ fp
  obtain ⟨u,hu,rfl⟩:=bW hd
  obtain ⟨y,hy,rfl⟩:=bW hu
  refine bJ (b4 fun cs' C s₀ H₀ fp=>(aM aO8 hr (aC (aD 1 rfl (aC (aD 2 rfl (aC (aD 0 rfl (aE ⟨_,_,A.K,_,_,rfl,hz,by rw [List.length_map,List.length_dropLast]; omega,?_⟩)))))))))
  refine ⟨rfl,?_⟩
  rw [bY hy,List.map_append]
  rfl
 rintro acc M2 ⟨rfl,rfl⟩
 rw [List.length_map,List.length_map,List.take_length]
 unfold eW at hk
 simp only [aHJ]
 exact hk
theorem vV:FnScope ["one", "other", "pairs"] ["one", "other", "pairs"] (aQ jD):=⟨rfl,rfl,rfl,by decide +kernel,rfl,by decide +kernel,by decide +kernel⟩
abbrev pB (P w K mg base):=Fo P w K mg base "chosen_row" jD ["one", "other", "pairs"] 1 aBN
theorem vU {f:Addr}{fd:FuncData} (Df:R.Df K mg "chosen_row" jD ["one", "other", "pairs"] f fd) (T:Bt mg):pB P w K mg base:=by
 refine ⟨f,fd,Df,bK Df vV (fun ds M k h => ?_) (fun cdv A outer s H E hr ds M k h => ?_)⟩
 ·obtain ⟨a,b,ps,rfl,_⟩:=h; rfl
 obtain ⟨a,b,ps,rfl,hab,ha,hp,hk⟩:=h
 refine aL (aT (fL PySem.F.plainAttrs_str PySem.F.slot_str_join PySem.F.type_str_join i7 (ge_str ⟨rfl,aC (vD ["pairs"] [2] (aI4 T.zip PyProof.Rows.boot_zip (aC (aD 0 rfl (aC (aD 1 rfl (aE ⟨a,b,rfl,hab,?_⟩)))))))⟩)))
 have hl:(d7 (iT a) (iT b)).length=a.length:=by unfold d7; rw [List.length_map,List.length_zip,jW,jW]; omega
 have hlz:(a.cps.toList.zip b.cps.toList).length=a.length:=by
  rw [List.length_zip,Array.length_toList,Array.length_toList]
  have h1:a.cps.size=a.length:=rfl
  have h2:b.cps.size=b.length:=rfl
  omega
 refine aE4 (by rw [hl]; exact R.aU (by omega)) (fun d hd=>rR hd) (fun i acc M'=>M'=M∧acc=((((a.cps.toList.zip b.cps.toList).take i).map fun p=>R.sg (oE ps p)).map fun c=>(⟨#[c]⟩:Str)).map D.str) ⟨rfl,rfl⟩ ?_ ?_
 ·rintro i d1 d2 acc M' hd ⟨rfl,rfl⟩ cs' C s₀ H₀ fp
  obtain ⟨c,e,hz,rfl,rfl⟩:=aGM hd
  refine bJ (b4 fun cs' C s₀ H₀ fp=>(iH (bD (aLJ (n:=0) (R.units_le hr)) (aK kP (aD 0 rfl (aD 1 rfl (pT (R.aU (show 1+1≤1000000 by decide)) (aD 2 rfl (aLB (.tup _) (.inl rfl) rfl (aF2 ps) ⟨_,rfl,?_⟩)))))))))
  rw [aHL]
  have step:∀ v,oE ps (c,e)=v→((((a.cps.toList.zip b.cps.toList).take (i+1)).map fun p=>R.sg (oE ps p)).map fun c=>(⟨#[c]⟩:Str)).map D.str=((((a.cps.toList.zip b.cps.toList).take i).map fun p=>R.sg (oE ps p)).map fun c=>(⟨#[c]⟩:Str)).map D.str++[.str ⟨#[R.sg v]⟩]:=fun v hv=>by
   rw [bY hz,List.map_append,List.map_append,hv]; rfl
  refine ite2 (fun hb => ?_) (fun hb => ?_)
  ·refine ge_str ⟨rfl,?_⟩
   rw [step true hb,wQ]; rfl
  ·refine ge_str ⟨rfl,?_⟩
   rw [step false (Bool.eq_false_iff.mpr hb),show ("." : Str)=⟨#[R.sg false]⟩ from by decide +kernel]
 rintro acc M' ⟨rfl,rfl⟩
 rw [hl,← hlz,List.take_length]
 refine aE (i5 (.lst _) (by decide +kernel) (by simp only [pZ,List.length_map]; omega) ?_)
 rw [R.fB,R.jZ]
 exact hk
theorem kD:FnScope ["one", "other", "pairs", "xs", "ys", "ones", "others"] ["one", "other", "pairs"] (aQ oH):=⟨rfl,rfl,rfl,by decide +kernel,rfl,by decide +kernel,by decide +kernel⟩
abbrev wR (P w K mg base):=Fo P w K mg base "chosen" oH ["one", "other", "pairs"] 4 aGN
theorem aEO {f:Addr}{fd:FuncData} (Df:R.Df K mg "chosen" oH ["one", "other", "pairs"] f fd) (aO9:yD P w K mg base) (aPA:o4 P w K mg base) (aPB:pB P w K mg base) (aPC:yG P w K mg base) (T:Bt mg):wR P w K mg base:=by
 refine ⟨f,fd,Df,bK Df kD (fun ds M k h => ?_) (fun cdv A outer s H E hr ds M k h => ?_)⟩
 ·obtain ⟨A,B,Sx,Sy,ps,rfl,_⟩:=h; rfl
 obtain ⟨A,B,Sx,Sy,ps,rfl,bx,by_,oA,oB,lp,hk⟩:=h
 obtain ⟨h1,h2,l1,l2⟩:=onB oA bx by_
 obtain ⟨h3,h4,l3,l4⟩:=onB oB bx by_
 have ux:=cQ A.uw B.uw
 have uy:=cQ A.uu B.uu
 have mx:=hX A.ws B.ws
 have my:=hX A.us B.us
 have ix:BqL (a9 A.ws B.ws):=fun x hx=>((c8 _ _ _).mp hx).elim (h1 x) (h3 x)
 have iy:BqL (a9 A.us B.us):=fun x hx=>((c8 _ _ _).mp hx).elim (h2 x) (h4 x)
 have gz:=fU (fun x y=>pW ps (A.has x y) (B.has x y)) (a9 A.ws B.ws) (a9 A.us B.us)
 have lz:=gU (fun x y=>pW ps (A.has x y) (B.has x y)) (a9 A.ws B.ws) (a9 A.us B.us)
 have hk:k (p0 (aO (a9 A.ws B.ws)) (aO (a9 A.us B.us)) (eW (fun x y=>pW ps (A.has x y) (B.has x y)) (a9 A.ws B.ws) (a9 A.us B.us))) M:=by rw [uG ux uy gz lz]; exact hk
 refine aH (aP 3 kD.nd (aM aO9 hr (aC (aG aF (aD 0 rfl (ge_int (aI (.tup _) rfl (aC (aG aF (aD 1 rfl (ge_int (aI (.tup _) rfl (aE ⟨A.ws,B.ws,rfl,h1,h3,by omega,by omega,?_⟩)))))))))))))
 refine aH (aP 4 kD.nd (aM aO9 hr (aC (aG aF (aD 0 rfl (ge_int (aI (.tup _) rfl (aC (aG aF (aD 1 rfl (ge_int (aI (.tup _) rfl (aE ⟨A.us,B.us,rfl,h2,h4,by omega,by omega,?_⟩)))))))))))))
 refine aH (aP 5 kD.nd (aM aPA hr (aC (aD 0 rfl (aC (aD 3 rfl (aC (aD 4 rfl (aE ⟨A,_,_,rfl,h1,h2,ix,iy,l1,l2,by omega,by omega,?_⟩)))))))))
 refine aH (aP 6 kD.nd (aM aPA hr (aC (aD 1 rfl (aC (aD 3 rfl (aC (aD 4 rfl (aE ⟨B,_,_,rfl,h3,h4,ix,iy,l3,l4,by omega,by omega,?_⟩)))))))))
 refine aL (aT (aM aPC hr (aC (aD 3 rfl (aC (aD 4 rfl (aC (vD ["pairs"] [2] (aJS T.zip PyProof.Rows.boot_zip (aC (aD 5 rfl (aC (aD 6 rfl (aE ?_))))))))))))))
 have la:=gU A.has (a9 A.ws B.ws) (a9 A.us B.us)
 have lb:=gU B.has (a9 A.ws B.ws) (a9 A.us B.us)
 have ea:=fU A.has (a9 A.ws B.ws) (a9 A.us B.us)
 have eb:=fU B.has (a9 A.ws B.ws) (a9 A.us B.us)
 have cg:=aCT ps A.has B.has (a9 A.ws B.ws) (a9 A.us B.us)
 generalize eW A.has (a9 A.ws B.ws) (a9 A.us B.us)=A1 at *
 generalize eW B.has (a9 A.ws B.ws) (a9 A.us B.us)=A2 at *
 refine ⟨_,_,rfl,by rw [List.length_map,List.length_map]; omega,?_⟩
 have hl:(d7 (A1.map D.str) (A2.map D.str)).length=A1.length:=by unfold d7; rw [List.length_map,List.length_zip,List.length_map,List.length_map]; omega
 have hlz:(A1.zip A2).length=A1.length:=by rw [List.length_zip]; omega
 refine aE4 (by rw [hl]; exact R.aU (by omega)) (fun d hd=>rR hd) (fun i acc M'=>M'=M∧acc=(((A1.zip A2).take i).map fun p=>sV ps p.1 p.2).map D.str) ⟨rfl,rfl⟩ ?_ ?_
 ·rintro i d1 d2 acc M' hd ⟨rfl,rfl⟩ cs' C s₀ H₀ fp
  obtain ⟨e1,e2⟩:=yW hd
  obtain ⟨a,ha,rfl⟩:=bW e1
  obtain ⟨b,hb,rfl⟩:=bW e2
  have w1:=(ea a (List.mem_of_getElem? ha)).1
  have w2:=(eb b (List.mem_of_getElem? hb)).1
  refine bJ (b4 fun cs' C s₀ H₀ fp=>(aM aPB hr (aC (aD 0 rfl (aC (aD 1 rfl (aC (aD 2 rfl (aE ⟨a,b,ps,rfl,by omega,by omega,lp,?_⟩)))))))))
  refine ⟨rfl,?_⟩
  rw [bY (List.getElem?_zip_eq_some.mpr ⟨ha,hb⟩:(A1.zip A2)[i]?=some (a,b)),List.map_append]
  rfl
 rintro acc M' ⟨rfl,rfl⟩
 rw [hl,← hlz,List.take_length,cg]
 exact aE ⟨true,_,_,_,aO (a9 A.ws B.ws),aO (a9 A.us B.us),_,(a9 A.ws B.ws).length - 1,rfl,rfl,rfl,rfl,by omega,by omega,fun z hz=>(gz z hz).1,by rw [aY]; exact iJ fun z hz=>(gz z hz).1,by rw [aY]; exact iM lz,hk⟩
theorem aKR:FnScope ["one", "other"] ["one", "other"] (aQ tK):=⟨rfl,rfl,rfl,by decide +kernel,rfl,by decide +kernel,by decide +kernel⟩
abbrev aDE (P w K mg base):=Fo P w K mg base "less" tK ["one", "other"] 5 (aM9 eU)
theorem aH5 {f:Addr}{fd:FuncData} (Df:R.Df K mg "less" tK ["one", "other"] f fd) (aPD:wR P w K mg base):aDE P w K mg base:=by
 refine ⟨f,fd,Df,bK Df aKR (fun ds M k h => ?_) (fun cdv A outer s H E hr ds M k h => ?_)⟩
 ·obtain ⟨A,B,Sx,Sy,rfl,_⟩:=h; rfl
 obtain ⟨A,B,Sx,Sy,rfl,bx,by_,oA,oB,hk⟩:=h
 rw [← aCW] at hk
 refine aL (aT (aM aPD hr (aC (aD 0 rfl (aC (aD 1 rfl (aC (aS (aC (ge_str (aE ⟨(show 1≤sizeLine by decide),(aE ⟨A,B,Sx,Sy,[("#." : Str)],rfl,bx,by_,oA,oB,by decide,?_⟩)⟩)))))))))))
 exact hk
theorem jE:FnScope ["one", "other", "first_alone", "which", "point"] ["one", "other"] (aQ mH):=⟨rfl,rfl,rfl,by decide +kernel,rfl,by decide +kernel,by decide +kernel⟩
abbrev vA (P w K mg base):=Fo P w K mg base "parting" mH ["one", "other"] 6 aF0
theorem aBL {f:Addr}{fd:FuncData} (Df:R.Df K mg "parting" mH ["one", "other"] f fd) (aPE:aDE P w K mg base) (aPF:nB P w K mg base) {aV:Addr} (CV:mg "VOID" = some (.ref aV)) (EV:∀ G,Den K G (yd Yd.void) (.ref aV)):vA P w K mg base:=by
 refine ⟨f,fd,Df,bK Df jE (fun ds M k h => ?_) (fun cdv A outer s H E hr ds M k h => ?_)⟩
 ·obtain ⟨A,B,rfl,_⟩:=h; rfl
 obtain ⟨A,B,rfl,hA,hB,hne,hk⟩:=h
 have h3:(10:Nat) ^ 110≤10 ^ 300:=by decide +kernel
 have h4:(10:Nat) ^ 110+10 ^ 110≤10 ^ 300:=by decide +kernel
 have lax:=hA.lx
 have lay:=hA.ly
 have lbx:=hB.lx
 have lby:=hB.ly
 have fx:FrL 45360 (10 ^ 110) (A.ws++B.ws):=fun w hw=>(List.mem_append.mp hw).elim (hA.x w) (hB.x w)
 have fy:FrL 45360 (10 ^ 110) (A.us++B.us):=fun w hw=>(List.mem_append.mp hw).elim (hA.y w) (hB.y w)
 have bx:Bnd (A.ws++B.ws):=⟨by rw [List.length_append]; omega,fun w hw=>cP (fx w hw) h3⟩
 have by_:Bnd (A.us++B.us):=⟨by rw [List.length_append]; omega,fun w hw=>cP (fy w hw) h3⟩
 have oA:On (A.ws++B.ws) (A.us++B.us) A:=⟨fun w hw=>List.mem_append_left _ hw,fun w hw=>List.mem_append_left _ hw⟩
 have oB:On (A.ws++B.ws) (A.us++B.us) B:=⟨fun w hw=>List.mem_append_right _ hw,fun w hw=>List.mem_append_right _ hw⟩
 have o1:=oA.op oB eU
 have o2:=oB.op oA eU
 have mf:∀ ws:List Rat,FrL 45360 (10 ^ 110) ws→∀ i,Fr 90720 (10 ^ 200) (mid ws i):=fun ws hw i=>by
  have:=(aCZ (a:=1) (b:=2) (by decide)).mul ((hw.at i).add (hw.at (i+1)))
  exact this.mono (by decide +kernel)
 refine aH (aP 2 jE.nd (aM aPE hr (aC (aD 0 rfl (aC (aD 1 rfl (aE ⟨A,B,_,_,rfl,bx,by_,oA,oB,(aH (aP 3 jE.nd (iH (bD (sU (n:=3) (R.units_le hr)) (aD 2 rfl (iX CV EV (sK (e1:=yd _) (e2:=yd Yd.void) (.tup _) (.tup _) (j5 _) (j5 _) ⟨_,rfl,?_⟩)))))))⟩)))))))
 rw [sD]
 by_cases h0:Yd.op eU A B=Yd.void
 ·rw [decide_eq_true h0]
  refine eF (ge_int (aH (aP 4 jE.nd (aM aPF hr (aC (iH (bD dG (aD 3 rfl (ge_int (d6 ⟨_,rfl,(oF (decide_eq_false (by decide)) (aM aPE hr (aC (aD 1 rfl (aC (aD 0 rfl (aE ⟨B,A,_,_,rfl,bx,by_,oB,oA,(aE ⟨_,rfl,(fun z=>hne (aEG h0 z)),fun w hw=>cP (fx w (o2.x w hw)) h3,fun w hw=>cP (fy w (o2.y w hw)) h3,fun a b ha hb=>cP ((fx a (o2.x a ha)).add (fx b (o2.x b hb))) h4,fun a b ha hb=>cP ((fy a (o2.y a ha)).add (fy b (o2.y b hb))) h4,Nat.le_trans (kJ (Yd.uw _) o2.x) bx.len,Nat.le_trans (kJ (Yd.uu _) o2.y) by_.len,fun a a1 a2 a3=>(aL (aT (aS (aC (aG aF (aD 4 rfl (ge_int (aI (.tup _) rfl (aC (aG aF (aD 4 rfl (ge_int (aI (.tup _) rfl (aC ?_))))))))))))))⟩)⟩)))))))⟩))))))))))
  refine aD 3 rfl (aE ⟨(show 3≤sizeLine by decide),?_⟩)
  have ab:=u5 (A:=Yd.op eU B A) (a:=a) (b:=0) a1 a2
  rw [show ((0:Nat):Int)=0 from rfl,a3] at ab
  have ab2:=sS ab
  exact hk (mid (Yd.op eU B A).ws a,mid (Yd.op eU B A).us 0,1) ⟨.inr ⟨rfl,ab2.1,ab2.2⟩,mf _ (fun w hw=>fx w (o2.x w hw)) a,mf _ (fun w hw=>fy w (o2.y w hw)) 0⟩
 ·rw [decide_eq_false h0]
  refine b4 (ge_int (aH (aP 4 jE.nd (aM aPF hr (aC (iH (bD dG (aD 3 rfl (ge_int (d6 ⟨_,rfl,(mB (decide_eq_true rfl) (aD 2 rfl (aE ⟨_,rfl,h0,fun w hw=>cP (fx w (o1.x w hw)) h3,fun w hw=>cP (fy w (o1.y w hw)) h3,fun a b ha hb=>cP ((fx a (o1.x a ha)).add (fx b (o1.x b hb))) h4,fun a b ha hb=>cP ((fy a (o1.y a ha)).add (fy b (o1.y b hb))) h4,Nat.le_trans (kJ (Yd.uw _) o1.x) bx.len,Nat.le_trans (kJ (Yd.uu _) o1.y) by_.len,fun a a1 a2 a3=>(aL (aT (aS (aC (aG aF (aD 4 rfl (ge_int (aI (.tup _) rfl (aC (aG aF (aD 4 rfl (ge_int (aI (.tup _) rfl (aC (aD 3 rfl (aE ⟨(show 3≤sizeLine by decide),?_⟩))))))))))))))))⟩)))⟩))))))))))
  have ab:=u5 (A:=Yd.op eU A B) (a:=a) (b:=0) a1 a2
  rw [show ((0:Nat):Int)=0 from rfl,a3] at ab
  have ab2:=sS ab
  exact hk (mid (Yd.op eU A B).ws a,mid (Yd.op eU A B).us 0,0) ⟨.inl ⟨rfl,ab2.1,ab2.2⟩,mf _ (fun w hw=>fx w (o1.x w hw)) a,mf _ (fun w hw=>fy w (o1.y w hw)) 0⟩
theorem mZ:FnScope ["one", "other", "way", "step"] ["one", "other"] (aQ kR):=⟨rfl,rfl,rfl,by decide +kernel,rfl,by decide +kernel,by decide +kernel⟩
abbrev sX (P w K mg base):=Fo P w K mg base "likeness" kR ["one", "other"] 9 aMY
theorem zA {f:Addr}{fd:FuncData} (Df:R.Df K mg "likeness" kR ["one", "other"] f fd) (aPG:vH P w K mg base) (aOZ:pH P w K mg base) (aOY:o9 P w K mg base) (aPH:vA P w K mg base) {aW:Addr} (CW:mg "WAYS" = some (.ref aW)) (EW:∀ G,Den K G (.tup (WYS.map rH)) (.ref aW)):sX P w K mg base:=by
 refine ⟨f,fd,Df,bK Df mZ (fun ds M k h => ?_) (fun cdv A outer s H E hr ds M k h => ?_)⟩
 ·obtain ⟨A,B,rfl,_⟩:=h; rfl
 obtain ⟨A,B,rfl,hA,hB,hs,hu⟩:=h
 have hA1:Wd (10 ^ 100) A:=hA.mono (by decide +kernel)
 have hB1:Wd (10 ^ 100) B:=hB.mono (by decide +kernel)
 have hB2:Wd (10 ^ 110) B:=hB.mono (by decide +kernel)
 refine aH (gA (bS (iX CW EW ⟨_, .inl rfl,(⟨fun i Γ' M'=>M=M'∧(∃ v2 v3,Γ'=[some (yd A),some (yd B),v2,v3])∧∀ (j:Nat) v,j < i→WYS[j]?=some v→laid v A B≠B,⟨rfl,⟨_,_,rfl⟩,fun j v hj=>by omega⟩,?_,?_⟩)⟩)))
 ·rintro i d Γ' M' hd ⟨rfl,⟨v2,v3,rfl⟩,hn⟩
  obtain ⟨w,hw,rfl⟩:=bW hd
  have w4:=aD1 (List.mem_of_getElem? hw)
  refine bO 2 mZ.nd (aL (cA (bD (iE (n:=3) (R.units_le hr)) (aM aPG hr (aC (aD 0 rfl (aC (aD 1 rfl (aC (aD 2 rfl (aE ⟨A,B,w,rfl,hA1,hB1,w4,(aD 1 rfl (iD (e1:=yd _) (e2:=yd B) (.tup _) (.tup _) (j5 _) (j5 _) ⟨_,rfl,?_⟩))⟩)))))))))))
  rw [sD]
  refine ite2 (fun h1 => ?_) (fun h1=>bU ⟨rfl,⟨_,_,rfl⟩,fun j v hj hv => ?_⟩)
  ·refine aH (aP 3 mZ.nd (aM aOZ hr (aC (aM aOY hr (aC (aD 0 rfl (aC (aD 2 rfl (aE ⟨A,w,rfl,hA1,w4,(aC (aD 1 rfl (aE ⟨_,B,rfl,hA1.bring w,hB1,(aL (aT (aS (aC (ge_str (aC (aG aF (aD 2 rfl (ge_int (aI (.tup _) rfl (aC (aG aF (aD 2 rfl (ge_int (aI (.tup _) rfl (aC (aG aF (aD 3 rfl ?_))))))))))))))))))⟩)))⟩)))))))))
   exact ge_int (aI (.tup _) rfl (aC (aG aF (aD 3 rfl (ge_int (aI (.tup _) rfl (aE ⟨(show 5≤sizeLine by decide),(hs w (aGS hn hw (of_decide_eq_true h1)))⟩)))))))
  ·by_cases e:j=i
   ·subst e
    rw [hw] at hv
    cases hv
    exact fun z=>h1 (decide_eq_true z)
   ·exact hn j v (by omega) hv
 rintro Γ' M' ⟨rfl,⟨v2,v3,rfl⟩,hn⟩
 rw [List.length_map] at hn
 refine aL (aT (aS (aC (ge_str (aC (aA1 ["one", "other"] [0,1] (bS (iX CW EW ⟨_, .inl rfl,(kY (ds:=WYS.map rH) (show 8≤sizeLine by decide) (fun i acc M'=>M=M'∧∃ ps:List (Rat × Rat × Nat),acc=ps.map p3D∧ps.length=i∧∀ (j:Nat) w p,WYS[j]?=some w→ps[j]?=some p→Ptg (laid w A B) B p) ⟨rfl,[],rfl,rfl,fun j w p _ h=>by cases h⟩ ?_ ?_)⟩))))))))
 ·rintro i d acc M' hd ⟨rfl,ps,rfl,hl,hp⟩ cs C s₀ H₀ fp
  obtain ⟨w,hw,rfl⟩:=bW hd
  have w4:=aD1 (List.mem_of_getElem? hw)
  have hi:i < 8:=(List.getElem?_eq_some_iff.mp hw).1
  refine bJ (b4 fun cs C s₀ H₀ fp=>(aM aPH hr (aC (aM aPG hr (aC (aD 1 rfl (aC (aD 2 rfl (aC (aD 0 rfl (aE ⟨A,B,w,rfl,hA1,hB1,w4,(aC (aD 2 rfl (aE ⟨_,B,rfl,(hA1.laid hB1 w).mono (by decide +kernel),hB2,hn i w hi hw,fun p hpt=>⟨rfl,ps++[p],by rw [List.map_append]; rfl,by rw [List.length_append,hl]; rfl,fun j v q hv hq => ?_⟩⟩)))⟩)))))))))))
  rcases Nat.lt_trichotomy j i with e | e | e
  ·rw [List.getElem?_append_left (by omega)] at hq
   exact hp j v q hv hq
  ·subst e
   rw [List.getElem?_append_right (by omega),hl,Nat.sub_self] at hq
   rw [hw] at hv
   cases hv
   cases hq
   exact hpt
  ·rw [List.getElem?_eq_none (by rw [List.length_append,hl]; show i+1≤j; omega)] at hq
   cases hq
 rintro acc M' ⟨rfl,ps,rfl,hl,hp⟩ a ha
 exact aE ⟨(show 2≤sizeLine by decide),hu (aGT hn) a ps ha hl hp⟩
theorem kA:FnScope ["_law_script", "_law_k", "_law_feed_here", "_law_one", "_law_other", "_law_yard_here", "_law_goal", "_law_told"] ["_law_script"] (aQ qH):=⟨rfl,rfl,rfl,by decide +kernel,rfl,by decide +kernel,by decide +kernel⟩
theorem aMF {f:Addr}{fd:FuncData} (Df:R.Df K mg "law" qH ["_law_script"] f fd) (aPI:aEU P w K mg base) (aPJ:aDB P w K mg base) (aPK:sX P w K mg base) (aPL:aAS P w K mg base) (T:Bt mg):FnOk P w K mg base CX0 10 f fd ["_law_script"] (spZ K aB1):=by
 refine bK Df kA (fun ds M k h => ?_) (fun cdv A outer s H E hr ds M k h => ?_)
 ·obtain ⟨ns,rfl,_⟩:=h; rfl
 obtain ⟨ns,rfl,hns,hk⟩:=h
 have wv:Wd (10 ^ 50) Yd.void:=⟨fun w hw=>(nomatch hw),fun w hw=>(nomatch hw),by decide,by decide⟩
 refine aH (gA (dD T.range (aC (aK b5 (ge_int (bB (aD0 rfl) T.min BMin (aC (ge_int (aC (bB bI T.len PySem.boot_len (aC (aD 0 rfl (aE (cH (.fl _) (aE (aL2 (bP (aE ⟨_,rfl,by split <;> omega,by split <;> omega,?_⟩))))))))))))))))))
 refine ⟨fun i Γ' M'=>∃ v1 v2 v3 v4 v5 v6 v7,Γ'=[some (.fl (ns.map .int)),v1,v2,v3,v4,v5,v6,v7],⟨_,_,_,_,_,_,_,rfl⟩,?_,?_⟩
 rotate_left
 ·rintro Γ' M1 ⟨v1,v2,v3,v4,v5,v6,v7,rfl⟩
  refine aL (aT (aM aPL hr (aC (aS (aC (aS (aE ⟨(show 0≤sizeLine by decide),(aC (aS (aE ⟨(show 0≤sizeLine by decide),(aC (aS (aE ⟨(show 0≤sizeLine by decide),(aE ⟨(show 3≤sizeLine by decide),(aC (aS (aC (aS (aE ⟨(show 0≤sizeLine by decide),(aC (aS (aE ⟨(show 0≤sizeLine by decide),(aC (aS (aE ⟨(show 0≤sizeLine by decide),(aE ?_)⟩)))⟩)))⟩)))))⟩)⟩)))⟩)))⟩)))))))
  refine ⟨(show 3≤sizeLine by decide),(aC (aM aPK hr (aC (aS (aC (aS (aE ⟨(show 0≤sizeLine by decide),(aC (aS (aE ⟨(show 0≤sizeLine by decide),(aC (aS (aE ⟨(show 0≤sizeLine by decide),(aE ⟨(show 3≤sizeLine by decide),(aC (aS (aC (aS (aE ⟨(show 0≤sizeLine by decide),(aC (aS (aE ⟨(show 0≤sizeLine by decide),(aC (aS (aE ⟨(show 0≤sizeLine by decide),?_⟩)))⟩)))⟩)))))⟩)⟩)))⟩)))⟩)))))))⟩
  refine aE ⟨(show 3≤sizeLine by decide),(aE ⟨Yd.void,Yd.void,rfl,wv,wv,fun w hw=>aE ⟨Yd.void,Yd.void,_,rfl,wv,wv, .inl ⟨w,hw,rfl⟩,hk _⟩,fun hw => ?_⟩)⟩
  rw [aHH] at hw
  cases hw
 rintro i d Γ' M0 hd ⟨v1,v2,v3,v4,v5,v6,v7,rfl⟩
 obtain ⟨hi,rfl⟩:=cR hd
 have hi9:i < 9:=by
  refine Nat.lt_of_lt_of_le hi ?_
  split <;> omega
 refine bO 1 kA.nd (aH (aP 2 kA.nd (aM aPI hr (aC (aD 0 rfl (aC (aD 1 rfl (aE ⟨ns,_,rfl,by omega,by omega,fun p M hp hL2 hF0 => ?_⟩))))))))
 refine aH (gN (aM aPJ hr (aC (aD 2 rfl (aE ⟨p,rfl,hF0,fun A B M1 wA wB hB1=>(aLK rfl (bT (bO 3 kA.nd (bT (bO 4 kA.nd (fS (aL (gA (bS (b7 (aC (aS (aC (aD 3 rfl (aC (aD 4 rfl (aE ⟨(show 2≤sizeLine by decide),(aC (aS (aC (aD 4 rfl (aC (aD 3 rfl (aE ⟨(show 2≤sizeLine by decide),(aC (aS (aC (aD 3 rfl (aC (aD 3 rfl ?_))))))⟩)))))))⟩)))))))))))))))))⟩)))))
 refine aE ⟨(show 2≤sizeLine by decide),(aC (aS (aC (aD 3 rfl (aC (aS (aC (aS (aE ⟨(show 0≤sizeLine by decide),(aC (aS (aE ⟨(show 0≤sizeLine by decide),(aC (aS (aE ⟨(show 0≤sizeLine by decide),(aE ⟨(show 3≤sizeLine by decide),(aE ⟨(show 2≤sizeLine by decide),(aC (aS (aC (aS (aC (aS (aE ?_)))))))⟩)⟩)⟩)))⟩)))⟩)))))))))⟩
 refine ⟨(show 0≤sizeLine by decide),(aC (aS (aE ⟨(show 0≤sizeLine by decide),(aC (aS (aE ⟨(show 0≤sizeLine by decide),(aE ⟨(show 3≤sizeLine by decide),(aC (aD 4 rfl (aE ⟨(show 2≤sizeLine by decide),(aE ⟨(show 5≤sizeLine by decide),⟨_, .inr (.inl rfl),(⟨fun j Γ' M'=>∃ v5 v6 v7,Γ'=[some (.fl (ns.map .int)),some (.int (0+(i:Int))),some (.mt p),some (yd A),some (yd B),v5,v6,v7],⟨_,_,_,rfl⟩,?_,?_⟩)⟩⟩)⟩)))⟩)⟩)))⟩)))⟩
 rotate_left
 ·rintro Γ' M2 ⟨v5,v6,v7,rfl⟩
  exact ⟨_,_,_,_,_,_,_,rfl⟩
 rintro j d Γ' M2 hd ⟨v5,v6,v7,rfl⟩
 obtain ⟨C,E,rfl,wC,wE⟩:∃ C E:Yd,d = .tup [yd C,yd E]∧Wd (10 ^ 50) C∧Wd (10 ^ 50) E:=by
  match j,hd with
  | 0,hd=>exact ⟨A,B,(Option.some.inj hd).symm,wA,wB⟩
  | 1,hd=>exact ⟨B,A,(Option.some.inj hd).symm,wB,wA⟩
  | 2,hd=>exact ⟨A,A,(Option.some.inj hd).symm,wA,wA⟩
  | 3,hd=>exact ⟨A,Yd.void,(Option.some.inj hd).symm,wA,wv⟩
  | 4,hd=>exact ⟨Yd.void,B,(Option.some.inj hd).symm,wv,wB⟩
  | j+5,hd=>exact nomatch hd
 refine iL rfl (bT (bO 5 kA.nd (bT (bO 6 kA.nd (fS (aH (aP 7 kA.nd (aM aPK hr (aC (aD 5 rfl (aC (aD 6 rfl (aE ⟨C,E,rfl,wC,wE,fun w hw => ?_,fun hw a ps ha hl hps => ?_⟩)))))))))))))
 ·exact aH (cA (fP (dA (aM aPL hr (aC (aD 5 rfl (aC (aD 6 rfl (aC (aD 7 rfl (aE (⟨C,E,_,rfl,wC,wE, .inl ⟨w,hw,rfl⟩,⟨_,rfl,(eF (bU (aL (cA (bD dG (aG aF (aD 7 rfl (ge_int (aI (.tup _) rfl (ge_str (pG ⟨_,rfl,(oF (decide_eq_false (by decide +kernel)) (bU ⟨_,_,_,rfl⟩))⟩)))))))))))⟩⟩))))))))))))
 refine aH (cA (fP (aK8 (b0:=true) (Γ':=[none,none,none,none,none,some (yd C),some (yd E),some (.tup [.str "unlike", .lst (ps.map p3D)])]) (.s (.s (.s (.s (.s (.c (.self _) (.c (.self _) (.c (.tup (.cons (.self _) (.cons (.mt aZ) .nil))) .n)))))))) ?_ (eF (bU (aL (cA ?_)))))))
 ·refine dA (aM aPL hr (aC (aD 5 rfl (aC (aD 6 rfl (aC (aD 7 rfl (aE (⟨C,E,_,rfl,wC,wE, .inr ⟨hw,ps,hl,hps,rfl⟩,⟨_,rfl,?_⟩⟩)))))))))
  rfl
 refine bD dG (aG aF (aD 7 rfl (ge_int (aI (.tup _) rfl (ge_str (pG ⟨_,rfl,(mB (decide_eq_true rfl) (aH (iZ (aLH PySem.F.plainAttrs_list PySem.F.slot_list_clear PySem.F.type_list_clear aHO (aG aF (aD 7 rfl (ge_int (aI (.tup _) rfl (⟨⟨rfl,_,aZ⟩,aF9 aZ (aL (cA (fP (dA (aM aPL hr (aC (aD 5 rfl (aC (aD 6 rfl (aC (aI2 (u := .str "unlike") (aM aPK hr (aC (aD 5 rfl (aC (aD 6 rfl (aE ⟨C,E,rfl,wC,wE,fun w hw2 => ?_,fun _ a2 ps2 ha2 hl2 hps2=>⟨a2,_,_,rfl,aZ,ha2,(Le.refl _).upd ha2,aE ⟨C,E,_,rfl,wC,wE, .inr ⟨hw,ps2,hl2,hps2,rfl⟩,⟨_,rfl,eF (bU ⟨_,_,_,rfl⟩)⟩⟩⟩⟩)))))))))))))))))⟩)))))))))⟩))))))
 rw [hw] at hw2
 cases hw2
end
end Q
namespace Q
open PySem L2 Z
theorem j9 {K:Fg}{G:Hp}{a:Addr}{b:Bool}{i:Int}{t n:Nat}{od:Option Addr}{sl:Array (Option Value)} (h:K.lookup a=some ⟨.type "tuple", od, .seq #[.bool b, .int i t] n,sl⟩):Den K G (.tup [.bl b, .int i]) (.ref a) :=
 dN (vs:=[.bl b, .int i]) (.inr ⟨_,_,_,h,rfl,rfl,(by show (2:Nat)≤sizeLine; decide), .cons rfl (.cons ⟨t,rfl⟩ .nil)⟩) (bC d8 (bC dR bV))
end Q
namespace HB
open PySem PySem.W
abbrev S (x:String) (k:Nat):Value := .str (Str.ofString x) k
abbrev R (a:Nat):Value := .ref a
abbrev I (a:Int):Value := .int a 0
abbrev J (a:Int) (k:Nat):Value := .int a k
abbrev E (P:Params) (x:String) (k:Nat) (v:Value):DictEntry:=⟨PyData.keyHash P (Str.ofString x), .str (Str.ofString x) k,v⟩
abbrev tO (l:List Value):Obj:=⟨.type "tuple", none, .seq l.toArray 0,#[]⟩
abbrev vO (l:List Value):Obj:=⟨.none,none, .fields l.toArray,#[]⟩
abbrev dO (l:List DictEntry) (n:Nat):Obj:=⟨.type "dict", none, .dict l.toArray n,#[]⟩
abbrev fO (n:String) (s:Stmt) (pm:Value) (cd:Nat):Obj:=⟨.type "function", none, .func { name:=Str.ofString n,qualname:=Str.ofString n,params:=L2.fN s,body := .stmts (L2.eN s),scope:=L2.aQ s,globals:=3,closure:=[],defaults := .none,kwdefaults := .none,doc := .none,pyModule:=pm,annotations:=none,code := .ref cd,closureTuple := .none,builtins:=0 },#[]⟩
abbrev pO (n:String) (s:Stmt):Obj:=⟨.none,none, .func { name:=Str.ofString n,qualname:=Str.ofString n,params:=L2.fN s,body := .stmts (L2.eN s),scope:=L2.aQ s,globals:=0,closure:=[],defaults := .none,kwdefaults := .none,doc := .none,pyModule := .none,annotations:=none,code := .none,closureTuple := .none,builtins:=0 },#[]⟩
abbrev cO (n f:String) (t1 t2 t3 l1 c1 c2 c3 c4 a1 a2 a3 a4 a5 t4 l2 t5:Nat) (b:Bool) (k:Nat):Obj:=⟨.type "code", none, .fields #[S n t1,S n t2,S f t3,I l1,I c1,I c2,I c3,I c4,R a1, .bool b,I k,R a2, .none,R a3,R a4,R a5,I t4,I l2,S f t5],#[]⟩
def fl:String := "/claim/cut.py"
def vs:Nat→List String→List Value
 | _,[]=>[]
 | k,x::xs => .str (Str.ofString x) k::vs (k+1) xs
def D7 (s:Stmt) (n:String) (b t l c:Nat) (ns:List String) (pm:Value):List Obj :=
 [tO [],vO [],tO (vs (t+3) ns),tO [],pO n s,cO n "/claim/cut.py" t (t+1) (t+2) l c 0 0 3 b (b+1) (b+2) (b+3) (b+4) (t+3+ns.length) l (t+4+ns.length) true 181,fO n s pm (b+5)]
def ov {a:Type}:List (Nat × a)→List a→List a
 | [],l=>l
 | (i,x)::r,l=>ov r (l.set i x)
def ev {a:Type}:Nat→List a→List a
 | 0,_=>[]
 | _+1,[]=>[]
 | _+1,[x]=>[x]
 | n+1,x::_::r=>x::ev n r
def bt:Nat→List Obj→BT
 | 0,_ => .nil
 | _+1,[] => .nil
 | n+1,x::r => .node x (bt n (ev (2 ^ n) r)) (bt n (ev (2 ^ n) r.tail))
abbrev sh (h:Heap) (k:Nat) (os:OsState):Shared:=⟨h,Array.mk [],{},k,os⟩
abbrev sT (t:BT) (n k:Nat) (os:OsState):SharedT:=⟨t,n,{},Array.mk [],{},k,os⟩
abbrev ps (a b c d:Nat):Pos:=⟨a,b,c,d⟩
abbrev z:Pos:=⟨0,0,0,0⟩
abbrev B:List Frame:=[topFrame z]
theorem yI:segRunT treeTable=PySem.W.Fast.tw10110043849684766642 PySem.W.Fast.tw14364793385576792824:=by rw [PySem.W.Fast.te10110043849684766642,PySem.W.Fast.te14364793385576792824]
theorem eGo:topGo treeTable=PySem.W.Fast.tw15667345088766844465 PySem.W.Fast.tw14364793385576792824:=by rw [PySem.W.Fast.te15667345088766844465,PySem.W.Fast.te14364793385576792824]
theorem eSeg:segRun treeTable=PySem.W.Fast.tw14374325043358763698 PySem.W.Fast.tw14364793385576792824:=by rw [PySem.W.Fast.te14374325043358763698,PySem.W.Fast.te14364793385576792824]
theorem eTop:topRun treeTable=PySem.W.Fast.tw14082659384304107361 PySem.W.Fast.tw14364793385576792824:=by rw [PySem.W.Fast.te14082659384304107361,PySem.W.Fast.te14364793385576792824]
end HB
namespace HB
open PySem PySem.W L2
theorem mkD {K:PySem.W.Frag}{mg:Str→Option Value}{h:Heap} (X:K.In h) (G:h.Ns mainGlobals mg) (n:String) (st:Stmt) (ps:List Str) (f cd:Addr) (pm:Value)
  (a:nsIn K mainGlobals (Str.ofString n)=some (some (.ref f))) (l:K.lookup f=some (fO n st pm cd)) (c:codeIn K (.ref cd) (Str.ofString n)=true) (k:keepIn K (.ref f)=true)
  (b:∀ (kV doc pm:Value) (an:Option Addr) (cdv ct:Value) (us:List Value),us.length=ps.length→bindArgs (PySem.W.fnOf (Str.ofString n) (Str.ofString n) (fN st) (eN st) (aQ st) .none kV doc pm an cdv ct) ⟨us,[]⟩=pure (ps.zip us)) :
  R.Df K mg (Str.ofString n) st ps f (PySem.W.fnOf (Str.ofString n) (Str.ofString n) (fN st) (eN st) (aQ st) .none .none .none pm none (.ref cd) .none) :=
 have F:Fun K (Str.ofString n) (Str.ofString n) st f _:=aLF l c k
 ⟨F,F.binds b,mg_of X G a⟩
theorem mkE {K:PySem.W.Frag}{mg:Str→Option Value}{h:Heap} (X:K.In h) (G:h.Ns mainGlobals mg) (n:String) (st:Stmt) (ps:List Str) (f cd:Addr) (pm:Value)
  (b:∀ (kV doc pm:Value) (an:Option Addr) (cdv ct:Value) (us:List Value),us.length=ps.length→bindArgs (PySem.W.fnOf (Str.ofString n) (Str.ofString n) (fN st) (eN st) (aQ st) .none kV doc pm an cdv ct) ⟨us,[]⟩=pure (ps.zip us))
  (a:nsIn K mainGlobals (Str.ofString n)=some (some (.ref f)):=by kernel_rfl!) (l:K.lookup f=some (fO n st pm cd):=by kernel_rfl!) (c:codeIn K (.ref cd) (Str.ofString n)=true:=by kernel_rfl!) (k:keepIn K (.ref f)=true:=by kernel_rfl!) :
  R.Df K mg (Str.ofString n) st ps f (PySem.W.fnOf (Str.ofString n) (Str.ofString n) (fN st) (eN st) (aQ st) .none .none .none pm none (.ref cd) .none):=mkD X G n st ps f cd pm a l c k b
def fK:List Str:=["len", "abs", "int", "min", "max", "range", "list", "tuple", "repr", "all", "any", "enumerate", "isinstance", "bool", "str", "zip", "reversed", "sorted", "dict"]
theorem mkB {K:PySem.W.Frag}{mg:Str→Option Value}{h:Heap} (X:K.In h) (G:h.Ns mainGlobals mg) (e:(fK.all fun n=>nsIn K mainGlobals n == some none)=true):Q.Bt mg :=
 have z:∀ n∈fK,mg n=none:=fun n hn=>mg_none_of X G (eq_of_beq (List.all_eq_true.mp e n hn))
 ⟨z _ (by simp [fK]),z _ (by simp [fK]),z _ (by simp [fK]),z _ (by simp [fK]),z _ (by simp [fK]),z _ (by simp [fK]),z _ (by simp [fK]),z _ (by simp [fK]),z _ (by simp [fK]),z _ (by simp [fK]),z _ (by simp [fK]),z _ (by simp [fK]),z _ (by simp [fK]),z _ (by simp [fK]),z _ (by simp [fK]),z _ (by simp [fK]),z _ (by simp [fK]),z _ (by simp [fK]),z _ (by simp [fK])⟩
end HB
namespace HD
open PySem PySem.W HB Q
noncomputable section
def es3 (P:Params):List DictEntry:=[E P "__name__" 165 (S "law_roofridges_k47_likeness_told" 443),E P "__doc__" 166 .none,E P "__package__" 167 .none,E P "__loader__" 168 (.builtin "__main__.__loader__#opaque"),E P "__spec__" 169 .none,E P "__annotations__" 170 (R 6),E P "__builtins__" 171 (R 4),E P "__file__" 173 (S "/claim/cut.py" 172),E P "__cached__" 174 .none,E P "NOUGHT" 191 (R 15),E P "common_divisor" 200 (R 22),E P "lowest" 209 (R 29),E P "plus" 217 (R 36),E P "minus" 225 (R 43),E P "times" 233 (R 50),E P "under" 241 (R 57),E P "merged" 253 (R 64),E P "mean" 261 (R 71),E P "VOID" 264 (R 75),E P "column" 270 (R 80),E P "columns" 276 (R 85),E P "changes" 282 (R 90),E P "picked" 288 (R 95),E P "tidied" 294 (R 100),E P "bands_at" 300 (R 105),E P "has_cell" 310 (R 112),E P "opposite" 318 (R 117),E P "backward" 325 (R 124),E P "moved" 331 (R 129),E P "turned" 337 (R 134),E P "mirrored" 343 (R 139),E P "finer_row" 351 (R 144),E P "finer_rows" 357 (R 149),E P "chosen_row" 363 (R 154),E P "chosen" 369 (R 159),E P "less" 377 (R 166),E P "WAYS" 388 (R 175),E P "brought" 398 (R 182),E P "step_to" 406 (R 189),E P "laid_on" 417 (R 196),E P "point_within" 425 (R 203),E P "parting" 436 (R 210),E P "likeness" 442 (R 215),E P "_law_feed" 454 (R 222),E P "_law_next" 465 (R 229),E P "_law_shared" 473 (R 236),E P "_law_lines" 487 (R 243),E P "_law_is_in" 501 (R 250),E P "_law_tidied" 507 (R 255),E P "_law_across" 513 (R 260),E P "_law_tidy" 523 (R 267),E P "_law_yard" 529 (R 272),E P "_law_plus" 539 (R 279),E P "_law_below" 545 (R 284),E P "_law_moved" 551 (R 289),E P "_law_brought" 557 (R 294),E P "_law_laid" 570 (R 301),E P "_law_touched" 582 (R 308),E P "_law_signs" 595 (R 315),E P "_law_is_number" 603 (R 322),E P "_law_parts" 613 (R 329),E P "_law_flipped" 628 (R 336),E P "_law_even" 634 (R 341),E P "_law_pair" 645 (R 348),E P "_law_right" 651 (R 353),E P "law" 665 (R 360)]
def es12:List Value:=[(I 3),(I 0),(R 21),(I 9),(I 0),(R 28),(I 14),(I 0),(R 35),(I 16),(I 0),(R 42),(I 18),(I 0),(R 49),(I 20),(I 0),(R 56),(I 22),(I 0),(R 63),(I 34),(I 0),(R 70),(I 38),(I 0),(R 79),(I 40),(I 0),(R 84),(I 43),(I 0),(R 89),(I 49),(I 0),(R 94),(I 51),(I 0),(R 99),(I 56),(I 0),(R 104),(I 61),(I 0),(R 111),(I 67),(I 0),(R 116),(I 69),(I 0),(R 123),(I 71),(I 0),(R 128),(I 73),(I 0),(R 133),(I 76),(I 0),(R 138),(I 79),(I 0),(R 143),(I 81),(I 0),(R 148),(I 85),(I 0),(R 153),(I 87),(I 0),(R 158),(I 93),(I 0),(R 165),(I 97),(I 0),(R 181),(I 102),(I 0),(R 188),(I 106),(I 0),(R 195),(I 110),(I 0),(R 202),(I 113),(I 0),(R 209),(I 118),(I 0),(R 214),(I 125),(I 0),(R 221),(I 133),(I 0),(R 228),(I 144),(I 0),(R 235),(I 148),(I 0),(R 242),(I 158),(I 0),(R 249),(I 165),(I 0),(R 254),(I 170),(I 0),(R 259),(I 172),(I 0),(R 266),(I 178),(I 0),(R 271),(I 187),(I 0),(R 278),(I 191),(I 0),(R 283),(I 193),(I 0),(R 288),(I 196),(I 0),(R 293),(I 204),(I 0),(R 300),(I 211),(I 0),(R 307),(I 219),(I 0),(R 314),(I 228),(I 0),(R 321),(I 235),(I 0),(R 328),(I 242),(I 0),(R 335),(I 253),(I 0),(R 340),(I 262),(I 0),(R 347),(I 275),(I 0),(R 352),(I 286),(I 0),(R 359)]
def hl0 (P:Params):List Obj:=[boot_o_0 P]++[boot_o_1 P]++[boot_o_2 P]++[dO (es3 P) 66]++[boot_o_4 P]++[boot_o_5 P]++[boot_o_6 P]++[boot_o_7 P]++[boot_o_8 P]++[boot_o_9 P]++[boot_o_10 P]++[tO []]
def hl1 (P:Params):List Obj:=[vO es12]++[⟨.type "code", none, .fields #[(S "<module>" 182),(S "<module>" 183),(S "/claim/cut.py" 184),(I 1),(I 0),(I 0),(I 0),(I 0),(R 11),(.bool false),(I 181),(R 12), .none, .none, .none, .none,(I 185),(I 1),(S "/claim/cut.py" 186)],#[]⟩]++[⟨(.type "frame"),none, .plain,#[some (R 13),some (R 3),some (R 3),none,some (S "__main__" 164),none,some (R 0)]⟩]++[tO [(J 0 189),(J 1 190)]]++D7 (Q.top 2) "common_divisor" 16 192 3 2 ["one", "other", "rest"] (S "roofridges.fractions" 187)++D7 (Q.top 3) "lowest" 23 201 9 2 ["top", "bottom", "divisor"] (S "roofridges.fractions" 187)++D7 (Q.top 4) "plus" 30 210 14 2 ["one", "other"] (S "roofridges.fractions" 187)++D7 (Q.top 5) "minus" 37 218 16 2 ["one", "other"] (S "roofridges.fractions" 187)++D7 (Q.top 6) "times" 44 226 18 2 ["one", "other"] (S "roofridges.fractions" 187)++D7 (Q.top 7) "under" 51 234 20 2 ["one", "other"] (S "roofridges.fractions" 187)++D7 (Q.top 8) "merged" 58 242 22 2 ["one", "other", "told", "first", "second", "ahead"] (S "roofridges.fractions" 187)++D7 (Q.top 9) "mean" 65 254 34 2 ["one", "other"] (S "roofridges.fractions" 187)
def hl2 (P:Params):List Obj:=[tO []]++[tO []]++[tO []]++[tO [(R 72),(R 73),(R 74)]]++[tO []]++[vO []]++[pO "column" (Q.top 12)]++[⟨.type "code", none, .fields #[(S "column" 265),(S "column" 266),(S "/claim/cut.py" 267),(I 38),(I 2),(I 0),(I 0),(I 3),(R 76),(.bool true),(I 181),(R 77), .none, .none, .none,(R 78),(I 268),(I 38),(S "/claim/cut.py" 269)],#[]⟩]++[fO "column" (Q.top 12) (S "roofridges.yards" 262) 79]++[tO []]++[vO []]++[pO "columns" (Q.top 13)]
def hl3 (P:Params):List Obj:=[⟨.type "code", none, .fields #[(S "columns" 271),(S "columns" 272),(S "/claim/cut.py" 273),(I 40),(I 1),(I 0),(I 0),(I 3),(R 81),(.bool true),(I 181),(R 82), .none, .none, .none,(R 83),(I 274),(I 40),(S "/claim/cut.py" 275)],#[]⟩]++[fO "columns" (Q.top 13) (S "roofridges.yards" 262) 84]++[tO []]++[vO []]++[pO "changes" (Q.top 14)]++[⟨.type "code", none, .fields #[(S "changes" 277),(S "changes" 278),(S "/claim/cut.py" 279),(I 43),(I 1),(I 0),(I 0),(I 3),(R 86),(.bool true),(I 181),(R 87), .none, .none, .none,(R 88),(I 280),(I 43),(S "/claim/cut.py" 281)],#[]⟩]++[fO "changes" (Q.top 14) (S "roofridges.yards" 262) 89]++[tO []]++[vO []]++[pO "picked" (Q.top 15)]++[⟨.type "code", none, .fields #[(S "picked" 283),(S "picked" 284),(S "/claim/cut.py" 285),(I 49),(I 2),(I 0),(I 0),(I 3),(R 91),(.bool true),(I 181),(R 92), .none, .none, .none,(R 93),(I 286),(I 49),(S "/claim/cut.py" 287)],#[]⟩]++[fO "picked" (Q.top 15) (S "roofridges.yards" 262) 94]
def hl4 (P:Params):List Obj:=[tO []]++[vO []]++[pO "tidied" (Q.top 16)]++[⟨.type "code", none, .fields #[(S "tidied" 289),(S "tidied" 290),(S "/claim/cut.py" 291),(I 51),(I 3),(I 0),(I 0),(I 3),(R 96),(.bool true),(I 181),(R 97), .none, .none, .none,(R 98),(I 292),(I 51),(S "/claim/cut.py" 293)],#[]⟩]++[fO "tidied" (Q.top 16) (S "roofridges.yards" 262) 99]++[tO []]++[vO []]++[pO "bands_at" (Q.top 17)]++[⟨.type "code", none, .fields #[(S "bands_at" 295),(S "bands_at" 296),(S "/claim/cut.py" 297),(I 56),(I 2),(I 0),(I 0),(I 3),(R 101),(.bool true),(I 181),(R 102), .none, .none, .none,(R 103),(I 298),(I 56),(S "/claim/cut.py" 299)],#[]⟩]++[fO "bands_at" (Q.top 17) (S "roofridges.yards" 262) 104]++D7 (Q.top 18) "has_cell" 106 301 61 3 ["yard", "across", "up", "rows"] (S "roofridges.yards" 262)++[tO []]
def hl5 (P:Params):List Obj:=[vO []]++[pO "opposite" (Q.top 20)]++[⟨.type "code", none, .fields #[(S "opposite" 313),(S "opposite" 314),(S "/claim/cut.py" 315),(I 67),(I 1),(I 0),(I 0),(I 3),(R 113),(.bool true),(I 181),(R 114), .none, .none, .none,(R 115),(I 316),(I 67),(S "/claim/cut.py" 317)],#[]⟩]++[fO "opposite" (Q.top 20) (S "roofridges.moves" 311) 116]++D7 (Q.top 21) "backward" 118 319 69 1 ["row"] (S "roofridges.moves" 311)++[tO []]++[vO []]++[pO "moved" (Q.top 22)]++[⟨.type "code", none, .fields #[(S "moved" 326),(S "moved" 327),(S "/claim/cut.py" 328),(I 71),(I 3),(I 0),(I 0),(I 3),(R 125),(.bool true),(I 181),(R 126), .none, .none, .none,(R 127),(I 329),(I 71),(S "/claim/cut.py" 330)],#[]⟩]++[fO "moved" (Q.top 22) (S "roofridges.moves" 311) 128]++[tO []]++[vO []]
def hl6 (P:Params):List Obj:=[pO "turned" (Q.top 23)]++[⟨.type "code", none, .fields #[(S "turned" 332),(S "turned" 333),(S "/claim/cut.py" 334),(I 73),(I 1),(I 0),(I 0),(I 3),(R 130),(.bool true),(I 181),(R 131), .none, .none, .none,(R 132),(I 335),(I 73),(S "/claim/cut.py" 336)],#[]⟩]++[fO "turned" (Q.top 23) (S "roofridges.moves" 311) 133]++[tO []]++[vO []]++[pO "mirrored" (Q.top 24)]++[⟨.type "code", none, .fields #[(S "mirrored" 338),(S "mirrored" 339),(S "/claim/cut.py" 340),(I 76),(I 1),(I 0),(I 0),(I 3),(R 135),(.bool true),(I 181),(R 136), .none, .none, .none,(R 137),(I 341),(I 76),(S "/claim/cut.py" 342)],#[]⟩]++[fO "mirrored" (Q.top 24) (S "roofridges.moves" 311) 138]++[tO []]++[vO []]++[pO "finer_row" (Q.top 26)]++[⟨.type "code", none, .fields #[(S "finer_row" 346),(S "finer_row" 347),(S "/claim/cut.py" 348),(I 79),(I 3),(I 0),(I 0),(I 3),(R 140),(.bool true),(I 181),(R 141), .none, .none, .none,(R 142),(I 349),(I 79),(S "/claim/cut.py" 350)],#[]⟩]
def hl7 (P:Params):List Obj:=[fO "finer_row" (Q.top 26) (S "roofridges.sets" 344) 143]++[tO []]++[vO []]++[pO "finer_rows" (Q.top 27)]++[⟨.type "code", none, .fields #[(S "finer_rows" 352),(S "finer_rows" 353),(S "/claim/cut.py" 354),(I 81),(I 3),(I 0),(I 0),(I 3),(R 145),(.bool true),(I 181),(R 146), .none, .none, .none,(R 147),(I 355),(I 81),(S "/claim/cut.py" 356)],#[]⟩]++[fO "finer_rows" (Q.top 27) (S "roofridges.sets" 344) 148]++[tO []]++[vO []]++[pO "chosen_row" (Q.top 28)]++[⟨.type "code", none, .fields #[(S "chosen_row" 358),(S "chosen_row" 359),(S "/claim/cut.py" 360),(I 85),(I 3),(I 0),(I 0),(I 3),(R 150),(.bool true),(I 181),(R 151), .none, .none, .none,(R 152),(I 361),(I 85),(S "/claim/cut.py" 362)],#[]⟩]++[fO "chosen_row" (Q.top 28) (S "roofridges.sets" 344) 153]++[tO []]
def hl8 (P:Params):List Obj:=[vO []]++[pO "chosen" (Q.top 29)]++[⟨.type "code", none, .fields #[(S "chosen" 364),(S "chosen" 365),(S "/claim/cut.py" 366),(I 87),(I 3),(I 0),(I 0),(I 3),(R 155),(.bool true),(I 181),(R 156), .none, .none, .none,(R 157),(I 367),(I 87),(S "/claim/cut.py" 368)],#[]⟩]++[fO "chosen" (Q.top 29) (S "roofridges.sets" 344) 158]++D7 (Q.top 30) "less" 160 370 93 2 ["one", "other"] (S "roofridges.sets" 344)++[tO [(.bool false),(J 0 380)]]++[tO [(.bool false),(J 1 381)]]++[tO [(.bool false),(J 2 382)]]++[tO [(.bool false),(J 3 383)]]++[tO [(.bool true),(J 0 384)]]++[tO [(.bool true),(J 1 385)]]++[tO [(.bool true),(J 2 386)]]
def hl9 (P:Params):List Obj:=[tO [(.bool true),(J 3 387)]]++[tO [(R 167),(R 168),(R 169),(R 170),(R 171),(R 172),(R 173),(R 174)]]++D7 (Q.top 33) "brought" 176 389 97 2 ["yard", "way", "told", "count"] (S "roofridges.likeness" 378)++D7 (Q.top 34) "step_to" 183 399 102 2 ["one", "other"] (S "roofridges.likeness" 378)++D7 (Q.top 35) "laid_on" 190 407 106 3 ["one", "other", "way", "told", "step"] (S "roofridges.likeness" 378)++D7 (Q.top 36) "point_within" 197 418 110 1 ["yard", "across"] (S "roofridges.likeness" 378)++D7 (Q.top 37) "parting" 204 426 113 2 ["one", "other", "first_alone", "which", "point"] (S "roofridges.likeness" 378)++[tO []]++[vO []]++[pO "likeness" (Q.top 38)]++[⟨.type "code", none, .fields #[(S "likeness" 437),(S "likeness" 438),(S "/claim/cut.py" 439),(I 118),(I 2),(I 0),(I 0),(I 3),(R 211),(.bool true),(I 181),(R 212), .none, .none, .none,(R 213),(I 440),(I 118),(S "/claim/cut.py" 441)],#[]⟩]++[fO "likeness" (Q.top 38) (S "roofridges.likeness" 378) 214]
def hl10 (P:Params):List Obj:=D7 (Q.top 40) "_law_feed" 216 445 125 2 ["_law_script", "_law_k", "_law_cell", "_law_great"] (S "law_roofridges_k47_likeness_told" 443)++D7 (Q.top 41) "_law_next" 223 455 133 2 ["_law_feed_here", "_law_many", "_law_digit", "_law_count", "_law_mixed"] (S "law_roofridges_k47_likeness_told" 443)++D7 (Q.top 42) "_law_shared" 230 466 144 2 ["_law_one", "_law_other"] (S "law_roofridges_k47_likeness_told" 443)++D7 (Q.top 43) "_law_lines" 237 474 148 2 ["_law_feed_here", "_law_many", "_law_bottom", "_law_most", "_law_at", "_law_found", "_law_k", "_law_by"] (S "law_roofridges_k47_likeness_told" 443)++D7 (Q.top 44) "_law_is_in" 244 488 158 6 ["_law_feed_here", "_law_way", "_law_k", "_law_j", "_law_wide", "_law_high", "_law_edge", "_law_known"] (S "law_roofridges_k47_likeness_told" 443)++[tO []]++[vO []]++[pO "_law_tidied" (Q.top 45)]++[⟨.type "code", none, .fields #[(S "_law_tidied" 502),(S "_law_tidied" 503),(S "/claim/cut.py" 504),(I 165),(I 2),(I 0),(I 0),(I 3),(R 251),(.bool true),(I 181),(R 252), .none, .none, .none,(R 253),(I 505),(I 165),(S "/claim/cut.py" 506)],#[]⟩]++[fO "_law_tidied" (Q.top 45) (S "law_roofridges_k47_likeness_told" 443) 254]++[tO []]++[vO []]
def hl11 (P:Params):List Obj:=[pO "_law_across" (Q.top 46)]++[⟨.type "code", none, .fields #[(S "_law_across" 508),(S "_law_across" 509),(S "/claim/cut.py" 510),(I 170),(I 1),(I 0),(I 0),(I 3),(R 256),(.bool true),(I 181),(R 257), .none, .none, .none,(R 258),(I 511),(I 170),(S "/claim/cut.py" 512)],#[]⟩]++[fO "_law_across" (Q.top 46) (S "law_roofridges_k47_likeness_told" 443) 259]++D7 (Q.top 47) "_law_tidy" 261 514 172 3 ["_law_xs", "_law_ys", "_law_rows", "_law_columns"] (S "law_roofridges_k47_likeness_told" 443)++[tO []]++[vO []]++[pO "_law_yard" (Q.top 48)]++[⟨.type "code", none, .fields #[(S "_law_yard" 524),(S "_law_yard" 525),(S "/claim/cut.py" 526),(I 178),(I 2),(I 0),(I 0),(I 3),(R 268),(.bool true),(I 181),(R 269), .none, .none, .none,(R 270),(I 527),(I 178),(S "/claim/cut.py" 528)],#[]⟩]++[fO "_law_yard" (Q.top 48) (S "law_roofridges_k47_likeness_told" 443) 271]++D7 (Q.top 49) "_law_plus" 273 530 187 2 ["_law_one", "_law_other", "_law_at", "_law_by"] (S "law_roofridges_k47_likeness_told" 443)++[tO []]++[vO []]
def hl12 (P:Params):List Obj:=[pO "_law_below" (Q.top 50)]++[⟨.type "code", none, .fields #[(S "_law_below" 540),(S "_law_below" 541),(S "/claim/cut.py" 542),(I 191),(I 1),(I 0),(I 0),(I 3),(R 280),(.bool true),(I 181),(R 281), .none, .none, .none,(R 282),(I 543),(I 191),(S "/claim/cut.py" 544)],#[]⟩]++[fO "_law_below" (Q.top 50) (S "law_roofridges_k47_likeness_told" 443) 283]++[tO []]++[vO []]++[pO "_law_moved" (Q.top 51)]++[⟨.type "code", none, .fields #[(S "_law_moved" 546),(S "_law_moved" 547),(S "/claim/cut.py" 548),(I 193),(I 3),(I 0),(I 0),(I 3),(R 285),(.bool true),(I 181),(R 286), .none, .none, .none,(R 287),(I 549),(I 193),(S "/claim/cut.py" 550)],#[]⟩]++[fO "_law_moved" (Q.top 51) (S "law_roofridges_k47_likeness_told" 443) 288]++[tO []]++[vO []]++[pO "_law_brought" (Q.top 52)]++[⟨.type "code", none, .fields #[(S "_law_brought" 552),(S "_law_brought" 553),(S "/claim/cut.py" 554),(I 196),(I 3),(I 0),(I 0),(I 3),(R 290),(.bool true),(I 181),(R 291), .none, .none, .none,(R 292),(I 555),(I 196),(S "/claim/cut.py" 556)],#[]⟩]
def hl13 (P:Params):List Obj:=[fO "_law_brought" (Q.top 52) (S "law_roofridges_k47_likeness_told" 443) 293]++D7 (Q.top 53) "_law_laid" 295 558 204 4 ["_law_one", "_law_other", "_law_turns", "_law_is_mirrored", "_law_yard_here", "_law_x", "_law_y"] (S "law_roofridges_k47_likeness_told" 443)++D7 (Q.top 54) "_law_touched" 302 571 211 2 ["_law_lines_here", "_law_at", "_law_found", "_law_k", "_law_is_behind", "_law_is_ahead"] (S "law_roofridges_k47_likeness_told" 443)++D7 (Q.top 55) "_law_signs" 309 583 219 3 ["_law_yard_here", "_law_x", "_law_y", "_law_found", "_law_row", "_law_column", "_law_sign"] (S "law_roofridges_k47_likeness_told" 443)++D7 (Q.top 56) "_law_is_number" 316 596 228 1 ["_law_thing", "_law_part"] (S "law_roofridges_k47_likeness_told" 443)++D7 (Q.top 57) "_law_parts" 323 604 235 3 ["_law_one", "_law_other", "_law_point", "_law_signs_here"] (S "law_roofridges_k47_likeness_told" 443)++D7 (Q.top 58) "_law_flipped" 330 614 242 2 ["_law_feed_here", "_law_yard_here", "_law_xs", "_law_ys", "_law_rows", "_law_row", "_law_column", "_law_sign", "_law_new"] (S "law_roofridges_k47_likeness_told" 443)++[tO []]++[vO []]++[pO "_law_even" (Q.top 59)]++[⟨.type "code", none, .fields #[(S "_law_even" 629),(S "_law_even" 630),(S "/claim/cut.py" 631),(I 253),(I 2),(I 0),(I 0),(I 3),(R 337),(.bool true),(I 181),(R 338), .none, .none, .none,(R 339),(I 632),(I 253),(S "/claim/cut.py" 633)],#[]⟩]++[fO "_law_even" (Q.top 59) (S "law_roofridges_k47_likeness_told" 443) 340]
def hl14 (P:Params):List Obj:=D7 (Q.top 60) "_law_pair" 342 635 262 1 ["_law_feed_here", "_law_one", "_law_other", "_law_x", "_law_way"] (S "law_roofridges_k47_likeness_told" 443)++[tO []]++[vO []]++[pO "_law_right" (Q.top 61)]++[⟨.type "code", none, .fields #[(S "_law_right" 646),(S "_law_right" 647),(S "/claim/cut.py" 648),(I 275),(I 3),(I 0),(I 0),(I 3),(R 349),(.bool true),(I 181),(R 350), .none, .none, .none,(R 351),(I 649),(I 275),(S "/claim/cut.py" 650)],#[]⟩]++[fO "_law_right" (Q.top 61) (S "law_roofridges_k47_likeness_told" 443) 352]++D7 (Q.top 62) "law" 354 652 286 1 ["_law_script", "_law_k", "_law_feed_here", "_law_one", "_law_other", "_law_yard_here", "_law_goal", "_law_told"] (S "law_roofridges_k47_likeness_told" 443)
def hl (P:Params):List Obj:=hl0 P++hl1 P++hl2 P++hl3 P++hl4 P++hl5 P++hl6 P++hl7 P++hl8 P++hl9 P++hl10 P++hl11 P++hl12 P++hl13 P++hl14 P
def hA (P:Params):Heap:=⟨Array.mk (ov [(3,boot_o_3 P),(12,vO (es12.take 0))] ((hl P).take 15)),{}⟩
def env:Env:={ scope:=PySem.Challenge.pw_roofridges_k47_likeness_told.main.scope,locals:=mainNs,globals:=mainNs,cells:=[],code:=(R 13),frame:=some 14 }
abbrev p:Program:=PySem.Challenge.rw_roofridges_k47_likeness_told.row.toRowW.1
abbrev bE:List Stmt:=behindTheImports p
abbrev cE:Code := .body bE env
theorem pre (w:World) (os:OsState):topGo treeTable p w 11 (some (R 6)) 12 ⟨boot_heap w.params,Array.mk [],boot_drawn,boot_toks,os⟩ (topStub p)=some (sh (hA w.params) 187 os,⟨denote treeTable cE,cE,(ps 0 0 0 0),B⟩):=by rw [eGo,PySem.W.Fast.te11892475500146522536,PySem.W.Fast.te14364793385576792824]; kernel_rfl!
def t0 (P:Params):BT:=bt 14 (ov [(3,boot_o_3 P),(12,vO (es12.take 0))] ((hl P).take 15))
theorem block (w:World) (os:OsState):segRun treeTable p w 11 (some (R 6)) 1 1 (sh (hA w.params) 187 os) (blockOf bE env cE (ps 0 0 0 0) B)=some (.next,(sT (t0 w.params) 15 187 os).abs,cE,(ps 0 0 0 0)):=by rw [eSeg]; kernel_rfl!
def t1 (P:Params):BT:=bt 14 (ov [(3,dO (ov [(0,E P "__name__" 165 (S "roofridges.yards" 262))] ((es3 P).take 23)) 23),(12,vO (es12.take 36))] ((hl P).take 96))
def g1:List Stmt:=[Q.top 0,Q.top 1,Q.top 2,Q.top 3,Q.top 4,Q.top 5,Q.top 6,Q.top 7,Q.top 8,Q.top 9,Q.top 10,Q.top 11,Q.top 12,Q.top 13,Q.top 14,Q.top 15]
theorem r1 (w:World) (os:OsState):segRunT treeTable p w 11 (some (R 6)) 1 397 (sT (t0 w.params) 15 187 os) (piecesOf g1 env cE (ps 0 0 0 0) B)=some (.next,sT (t1 w.params) 96 289 os,cE,(ps 49 0 50 52)):=by rw [yI]; kernel_rfl!
def t2 (P:Params):BT:=bt 14 (ov [(3,dO (ov [(0,E P "__name__" 165 (S "roofridges.likeness" 378))] ((es3 P).take 36)) 36),(12,vO (es12.take 75))] ((hl P).take 167))
def g2:List Stmt:=[Q.top 16,Q.top 17,Q.top 18,Q.top 19,Q.top 20,Q.top 21,Q.top 22,Q.top 23,Q.top 24,Q.top 25,Q.top 26,Q.top 27,Q.top 28,Q.top 29,Q.top 30,Q.top 31]
theorem r2 (w:World) (os:OsState):segRunT treeTable p w 11 (some (R 6)) 1 379 (sT (t1 w.params) 96 289 os) (piecesOf g2 env cE (ps 49 0 50 52) B)=some (.next,sT (t2 w.params) 167 380 os,cE,(ps 95 0 95 8)):=by rw [yI]; kernel_rfl!
def t3 (P:Params):BT:=bt 14 (ov [(3,dO (ov [] ((es3 P).take 48)) 48),(12,vO (es12.take 108))] ((hl P).take 251))
def g3:List Stmt:=[Q.top 32,Q.top 33,Q.top 34,Q.top 35,Q.top 36,Q.top 37,Q.top 38,Q.top 39,Q.top 40,Q.top 41,Q.top 42,Q.top 43,Q.top 44]
theorem r3 (w:World) (os:OsState):segRunT treeTable p w 11 (some (R 6)) 1 395 (sT (t2 w.params) 167 380 os) (piecesOf g3 env cE (ps 95 0 95 8) B)=some (.next,sT (t3 w.params) 251 502 os,cE,(ps 158 0 164 106)):=by rw [yI]; kernel_rfl!
def t4 (P:Params):BT:=bt 14 (ov [(3,dO (ov [] ((es3 P).take 61)) 61),(12,vO (es12.take 147))] ((hl P).take 330))
def g4:List Stmt:=[Q.top 45,Q.top 46,Q.top 47,Q.top 48,Q.top 49,Q.top 50,Q.top 51,Q.top 52,Q.top 53,Q.top 54,Q.top 55,Q.top 56,Q.top 57]
theorem r4 (w:World) (os:OsState):segRunT treeTable p w 11 (some (R 6)) 1 387 (sT (t3 w.params) 251 502 os) (piecesOf g4 env cE (ps 158 0 164 106) B)=some (.next,sT (t4 w.params) 330 614 os,cE,(ps 235 0 241 102)):=by rw [yI]; kernel_rfl!
def t5 (P:Params):BT:=bt 14 (ov [] ((hl P).take 361))
def g5:List Stmt:=[Q.top 58,Q.top 59,Q.top 60,Q.top 61,Q.top 62]
theorem r5 (w:World) (os:OsState):segRunT treeTable p w 11 (some (R 6)) 1 159 (sT (t4 w.params) 330 614 os) (piecesOf g5 env cE (ps 235 0 241 102) B)=some (.next,sT (t5 w.params) 361 666 os,cE,(ps 286 0 298 87)):=by rw [yI]; kernel_rfl!
def hZ (P:Params):Heap:=⟨Array.mk (hl P),{}⟩
theorem fin (w:World) (os:OsState):topRun treeTable p w 11 (some (R 6)) 2 (sT (t5 w.params) 361 666 os).abs ⟨doneF .next,cE,(ps 286 0 298 87),B⟩=some (sh (hZ w.params) 666 os):=by rw [eTop]; kernel_rfl!
theorem body:bE=g1++(g2++(g3++(g4++(g5++([]))))):=by kernel_rfl!
theorem chain (w:World) (os:OsState):topRun treeTable p w 11 (some (R 6)) (397+(379+(395+(387+(159+(2)))))) (sT (t0 w.params) 15 187 os).abs (restOf (g1++(g2++(g3++(g4++(g5++([])))))) env cE (ps 0 0 0 0) B)=some (sh (hZ w.params) 666 os):=piece_app (segRun_of (r1 w os)) (piece_app (segRun_of (r2 w os)) (piece_app (segRun_of (r3 w os)) (piece_app (segRun_of (r4 w os)) (piece_app (segRun_of (r5 w os)) (fin w os)))))
theorem run (w:World) (os:OsState):topRun treeTable p w 11 (some (R 6)) (12+(1+(397+(379+(395+(387+(159+(2)))))))) ⟨boot_heap w.params,Array.mk [],boot_drawn,boot_toks,os⟩ (topStub p)=some (sh (hZ w.params) 666 os):=go_top (pre w os) (piece_block (block w os) (by have h:=chain w os; rw [← body] at h; exact h))
def view:Program:={ p with main:={ p.main with body:=[Q.top 1,Q.top 2,Q.top 3,Q.top 4,Q.top 5,Q.top 6,Q.top 7,Q.top 8,Q.top 9,Q.top 11,Q.top 12,Q.top 13,Q.top 14,Q.top 15,Q.top 16,Q.top 17,Q.top 18,Q.top 20,Q.top 21,Q.top 22,Q.top 23,Q.top 24,Q.top 26,Q.top 27,Q.top 28,Q.top 29,Q.top 30,Q.top 32,Q.top 33,Q.top 34,Q.top 35,Q.top 36,Q.top 37,Q.top 38,Q.top 40,Q.top 41,Q.top 42,Q.top 43,Q.top 44,Q.top 45,Q.top 46,Q.top 47,Q.top 48,Q.top 49,Q.top 50,Q.top 51,Q.top 52,Q.top 53,Q.top 54,Q.top 55,Q.top 56,Q.top 57,Q.top 58,Q.top 59,Q.top 60,Q.top 61,Q.top 62] } }
def ob (P:Params) (i:Nat):Obj:=(hl P).getD i default
def K (P:Params):Frag:=[(nat_lit 2,ob P 2),(nat_lit 3,ob P 3),(nat_lit 15,ob P 15),(nat_lit 16,ob P 16),(nat_lit 18,ob P 18),(nat_lit 19,ob P 19),(nat_lit 21,ob P 21),(nat_lit 22,fO "common_divisor" (Q.top 2) (S "roofridges.fractions" 187) 21),(nat_lit 23,ob P 23),(nat_lit 25,ob P 25),(nat_lit 26,ob P 26),(nat_lit 28,ob P 28),(nat_lit 29,fO "lowest" (Q.top 3) (S "roofridges.fractions" 187) 28),(nat_lit 30,ob P 30),(nat_lit 32,ob P 32),(nat_lit 33,ob P 33),(nat_lit 35,ob P 35),(nat_lit 36,fO "plus" (Q.top 4) (S "roofridges.fractions" 187) 35),(nat_lit 37,ob P 37),(nat_lit 39,ob P 39),(nat_lit 40,ob P 40),(nat_lit 42,ob P 42),(nat_lit 43,fO "minus" (Q.top 5) (S "roofridges.fractions" 187) 42),(nat_lit 44,ob P 44),(nat_lit 46,ob P 46),(nat_lit 47,ob P 47),(nat_lit 49,ob P 49),(nat_lit 50,fO "times" (Q.top 6) (S "roofridges.fractions" 187) 49),(nat_lit 51,ob P 51),(nat_lit 53,ob P 53),(nat_lit 54,ob P 54),(nat_lit 56,ob P 56),(nat_lit 57,fO "under" (Q.top 7) (S "roofridges.fractions" 187) 56),(nat_lit 58,ob P 58),(nat_lit 60,ob P 60),(nat_lit 61,ob P 61),(nat_lit 63,ob P 63),(nat_lit 64,fO "merged" (Q.top 8) (S "roofridges.fractions" 187) 63),(nat_lit 65,ob P 65),(nat_lit 67,ob P 67),(nat_lit 68,ob P 68),(nat_lit 70,ob P 70),(nat_lit 71,fO "mean" (Q.top 9) (S "roofridges.fractions" 187) 70),(nat_lit 72,ob P 72),(nat_lit 73,ob P 73),(nat_lit 74,ob P 74),(nat_lit 75,ob P 75),(nat_lit 76,ob P 76),(nat_lit 79,ob P 79),(nat_lit 80,fO "column" (Q.top 12) (S "roofridges.yards" 262) 79),(nat_lit 81,ob P 81),(nat_lit 84,ob P 84),(nat_lit 85,fO "columns" (Q.top 13) (S "roofridges.yards" 262) 84),(nat_lit 86,ob P 86),(nat_lit 89,ob P 89),(nat_lit 90,fO "changes" (Q.top 14) (S "roofridges.yards" 262) 89),(nat_lit 91,ob P 91),(nat_lit 94,ob P 94),(nat_lit 95,fO "picked" (Q.top 15) (S "roofridges.yards" 262) 94),(nat_lit 96,ob P 96),(nat_lit 99,ob P 99),(nat_lit 100,fO "tidied" (Q.top 16) (S "roofridges.yards" 262) 99),(nat_lit 101,ob P 101),(nat_lit 104,ob P 104),(nat_lit 105,fO "bands_at" (Q.top 17) (S "roofridges.yards" 262) 104),(nat_lit 106,ob P 106),(nat_lit 108,ob P 108),(nat_lit 109,ob P 109),(nat_lit 111,ob P 111),(nat_lit 112,fO "has_cell" (Q.top 18) (S "roofridges.yards" 262) 111),(nat_lit 113,ob P 113),(nat_lit 116,ob P 116),(nat_lit 117,fO "opposite" (Q.top 20) (S "roofridges.moves" 311) 116),(nat_lit 118,ob P 118),(nat_lit 120,ob P 120),(nat_lit 121,ob P 121),(nat_lit 123,ob P 123),(nat_lit 124,fO "backward" (Q.top 21) (S "roofridges.moves" 311) 123),(nat_lit 125,ob P 125),(nat_lit 128,ob P 128),(nat_lit 129,fO "moved" (Q.top 22) (S "roofridges.moves" 311) 128),(nat_lit 130,ob P 130),(nat_lit 133,ob P 133),(nat_lit 134,fO "turned" (Q.top 23) (S "roofridges.moves" 311) 133),(nat_lit 135,ob P 135),(nat_lit 138,ob P 138),(nat_lit 139,fO "mirrored" (Q.top 24) (S "roofridges.moves" 311) 138),(nat_lit 140,ob P 140),(nat_lit 143,ob P 143),(nat_lit 144,fO "finer_row" (Q.top 26) (S "roofridges.sets" 344) 143),(nat_lit 145,ob P 145),(nat_lit 148,ob P 148),(nat_lit 149,fO "finer_rows" (Q.top 27) (S "roofridges.sets" 344) 148),(nat_lit 150,ob P 150),(nat_lit 153,ob P 153),(nat_lit 154,fO "chosen_row" (Q.top 28) (S "roofridges.sets" 344) 153),(nat_lit 155,ob P 155),(nat_lit 158,ob P 158),(nat_lit 159,fO "chosen" (Q.top 29) (S "roofridges.sets" 344) 158),(nat_lit 160,ob P 160),(nat_lit 162,ob P 162),(nat_lit 163,ob P 163),(nat_lit 165,ob P 165),(nat_lit 166,fO "less" (Q.top 30) (S "roofridges.sets" 344) 165),(nat_lit 167,ob P 167),(nat_lit 168,ob P 168),(nat_lit 169,ob P 169),(nat_lit 170,ob P 170),(nat_lit 171,ob P 171),(nat_lit 172,ob P 172),(nat_lit 173,ob P 173),(nat_lit 174,ob P 174),(nat_lit 175,ob P 175),(nat_lit 176,ob P 176),(nat_lit 178,ob P 178),(nat_lit 179,ob P 179),(nat_lit 181,ob P 181),(nat_lit 182,fO "brought" (Q.top 33) (S "roofridges.likeness" 378) 181),(nat_lit 183,ob P 183),(nat_lit 185,ob P 185),(nat_lit 186,ob P 186),(nat_lit 188,ob P 188),(nat_lit 189,fO "step_to" (Q.top 34) (S "roofridges.likeness" 378) 188),(nat_lit 190,ob P 190),(nat_lit 192,ob P 192),(nat_lit 193,ob P 193),(nat_lit 195,ob P 195),(nat_lit 196,fO "laid_on" (Q.top 35) (S "roofridges.likeness" 378) 195),(nat_lit 197,ob P 197),(nat_lit 199,ob P 199),(nat_lit 200,ob P 200),(nat_lit 202,ob P 202),(nat_lit 203,fO "point_within" (Q.top 36) (S "roofridges.likeness" 378) 202),(nat_lit 204,ob P 204),(nat_lit 206,ob P 206),(nat_lit 207,ob P 207),(nat_lit 209,ob P 209),(nat_lit 210,fO "parting" (Q.top 37) (S "roofridges.likeness" 378) 209),(nat_lit 211,ob P 211),(nat_lit 214,ob P 214),(nat_lit 215,fO "likeness" (Q.top 38) (S "roofridges.likeness" 378) 214),(nat_lit 216,ob P 216),(nat_lit 218,ob P 218),(nat_lit 219,ob P 219),(nat_lit 221,ob P 221),(nat_lit 222,fO "_law_feed" (Q.top 40) (S "law_roofridges_k47_likeness_told" 443) 221),(nat_lit 223,ob P 223),(nat_lit 225,ob P 225),(nat_lit 226,ob P 226),(nat_lit 228,ob P 228),(nat_lit 229,fO "_law_next" (Q.top 41) (S "law_roofridges_k47_likeness_told" 443) 228),(nat_lit 230,ob P 230),(nat_lit 232,ob P 232),(nat_lit 233,ob P 233),(nat_lit 235,ob P 235),(nat_lit 236,fO "_law_shared" (Q.top 42) (S "law_roofridges_k47_likeness_told" 443) 235),(nat_lit 237,ob P 237),(nat_lit 239,ob P 239),(nat_lit 240,ob P 240),(nat_lit 242,ob P 242),(nat_lit 243,fO "_law_lines" (Q.top 43) (S "law_roofridges_k47_likeness_told" 443) 242),(nat_lit 244,ob P 244),(nat_lit 246,ob P 246),(nat_lit 247,ob P 247),(nat_lit 249,ob P 249),(nat_lit 250,fO "_law_is_in" (Q.top 44) (S "law_roofridges_k47_likeness_told" 443) 249),(nat_lit 251,ob P 251),(nat_lit 254,ob P 254),(nat_lit 255,fO "_law_tidied" (Q.top 45) (S "law_roofridges_k47_likeness_told" 443) 254),(nat_lit 256,ob P 256),(nat_lit 259,ob P 259),(nat_lit 260,fO "_law_across" (Q.top 46) (S "law_roofridges_k47_likeness_told" 443) 259),(nat_lit 261,ob P 261),(nat_lit 263,ob P 263),(nat_lit 264,ob P 264),(nat_lit 266,ob P 266),(nat_lit 267,fO "_law_tidy" (Q.top 47) (S "law_roofridges_k47_likeness_told" 443) 266),(nat_lit 268,ob P 268),(nat_lit 271,ob P 271),(nat_lit 272,fO "_law_yard" (Q.top 48) (S "law_roofridges_k47_likeness_told" 443) 271),(nat_lit 273,ob P 273),(nat_lit 275,ob P 275),(nat_lit 276,ob P 276),(nat_lit 278,ob P 278),(nat_lit 279,fO "_law_plus" (Q.top 49) (S "law_roofridges_k47_likeness_told" 443) 278),(nat_lit 280,ob P 280),(nat_lit 283,ob P 283),(nat_lit 284,fO "_law_below" (Q.top 50) (S "law_roofridges_k47_likeness_told" 443) 283),(nat_lit 285,ob P 285),(nat_lit 288,ob P 288),(nat_lit 289,fO "_law_moved" (Q.top 51) (S "law_roofridges_k47_likeness_told" 443) 288),(nat_lit 290,ob P 290),(nat_lit 293,ob P 293),(nat_lit 294,fO "_law_brought" (Q.top 52) (S "law_roofridges_k47_likeness_told" 443) 293),(nat_lit 295,ob P 295),(nat_lit 297,ob P 297),(nat_lit 298,ob P 298),(nat_lit 300,ob P 300),(nat_lit 301,fO "_law_laid" (Q.top 53) (S "law_roofridges_k47_likeness_told" 443) 300),(nat_lit 302,ob P 302),(nat_lit 304,ob P 304),(nat_lit 305,ob P 305),(nat_lit 307,ob P 307),(nat_lit 308,fO "_law_touched" (Q.top 54) (S "law_roofridges_k47_likeness_told" 443) 307),(nat_lit 309,ob P 309),(nat_lit 311,ob P 311),(nat_lit 312,ob P 312),(nat_lit 314,ob P 314),(nat_lit 315,fO "_law_signs" (Q.top 55) (S "law_roofridges_k47_likeness_told" 443) 314),(nat_lit 316,ob P 316),(nat_lit 318,ob P 318),(nat_lit 319,ob P 319),(nat_lit 321,ob P 321),(nat_lit 322,fO "_law_is_number" (Q.top 56) (S "law_roofridges_k47_likeness_told" 443) 321),(nat_lit 323,ob P 323),(nat_lit 325,ob P 325),(nat_lit 326,ob P 326),(nat_lit 328,ob P 328),(nat_lit 329,fO "_law_parts" (Q.top 57) (S "law_roofridges_k47_likeness_told" 443) 328),(nat_lit 330,ob P 330),(nat_lit 332,ob P 332),(nat_lit 333,ob P 333),(nat_lit 335,ob P 335),(nat_lit 336,fO "_law_flipped" (Q.top 58) (S "law_roofridges_k47_likeness_told" 443) 335),(nat_lit 337,ob P 337),(nat_lit 340,ob P 340),(nat_lit 341,fO "_law_even" (Q.top 59) (S "law_roofridges_k47_likeness_told" 443) 340),(nat_lit 342,ob P 342),(nat_lit 344,ob P 344),(nat_lit 345,ob P 345),(nat_lit 347,ob P 347),(nat_lit 348,fO "_law_pair" (Q.top 60) (S "law_roofridges_k47_likeness_told" 443) 347),(nat_lit 349,ob P 349),(nat_lit 352,ob P 352),(nat_lit 353,fO "_law_right" (Q.top 61) (S "law_roofridges_k47_likeness_told" 443) 352),(nat_lit 354,ob P 354),(nat_lit 356,ob P 356),(nat_lit 357,ob P 357),(nat_lit 359,ob P 359),(nat_lit 360,fO "law" (Q.top 62) (S "law_roofridges_k47_likeness_told" 443) 359)]
def as:List Addr:=[nat_lit 2,nat_lit 3,nat_lit 15,nat_lit 16,nat_lit 18,nat_lit 19,nat_lit 21,nat_lit 22,nat_lit 23,nat_lit 25,nat_lit 26,nat_lit 28,nat_lit 29,nat_lit 30,nat_lit 32,nat_lit 33,nat_lit 35,nat_lit 36,nat_lit 37,nat_lit 39,nat_lit 40,nat_lit 42,nat_lit 43,nat_lit 44,nat_lit 46,nat_lit 47,nat_lit 49,nat_lit 50,nat_lit 51,nat_lit 53,nat_lit 54,nat_lit 56,nat_lit 57,nat_lit 58,nat_lit 60,nat_lit 61,nat_lit 63,nat_lit 64,nat_lit 65,nat_lit 67,nat_lit 68,nat_lit 70,nat_lit 71,nat_lit 72,nat_lit 73,nat_lit 74,nat_lit 75,nat_lit 76,nat_lit 79,nat_lit 80,nat_lit 81,nat_lit 84,nat_lit 85,nat_lit 86,nat_lit 89,nat_lit 90,nat_lit 91,nat_lit 94,nat_lit 95,nat_lit 96,nat_lit 99,nat_lit 100,nat_lit 101,nat_lit 104,nat_lit 105,nat_lit 106,nat_lit 108,nat_lit 109,nat_lit 111,nat_lit 112,nat_lit 113,nat_lit 116,nat_lit 117,nat_lit 118,nat_lit 120,nat_lit 121,nat_lit 123,nat_lit 124,nat_lit 125,nat_lit 128,nat_lit 129,nat_lit 130,nat_lit 133,nat_lit 134,nat_lit 135,nat_lit 138,nat_lit 139,nat_lit 140,nat_lit 143,nat_lit 144,nat_lit 145,nat_lit 148,nat_lit 149,nat_lit 150,nat_lit 153,nat_lit 154,nat_lit 155,nat_lit 158,nat_lit 159,nat_lit 160,nat_lit 162,nat_lit 163,nat_lit 165,nat_lit 166,nat_lit 167,nat_lit 168,nat_lit 169,nat_lit 170,nat_lit 171,nat_lit 172,nat_lit 173,nat_lit 174,nat_lit 175,nat_lit 176,nat_lit 178,nat_lit 179,nat_lit 181,nat_lit 182,nat_lit 183,nat_lit 185,nat_lit 186,nat_lit 188,nat_lit 189,nat_lit 190,nat_lit 192,nat_lit 193,nat_lit 195,nat_lit 196,nat_lit 197,nat_lit 199,nat_lit 200,nat_lit 202,nat_lit 203,nat_lit 204,nat_lit 206,nat_lit 207,nat_lit 209,nat_lit 210,nat_lit 211,nat_lit 214,nat_lit 215,nat_lit 216,nat_lit 218,nat_lit 219,nat_lit 221,nat_lit 222,nat_lit 223,nat_lit 225,nat_lit 226,nat_lit 228,nat_lit 229,nat_lit 230,nat_lit 232,nat_lit 233,nat_lit 235,nat_lit 236,nat_lit 237,nat_lit 239,nat_lit 240,nat_lit 242,nat_lit 243,nat_lit 244,nat_lit 246,nat_lit 247,nat_lit 249,nat_lit 250,nat_lit 251,nat_lit 254,nat_lit 255,nat_lit 256,nat_lit 259,nat_lit 260,nat_lit 261,nat_lit 263,nat_lit 264,nat_lit 266,nat_lit 267,nat_lit 268,nat_lit 271,nat_lit 272,nat_lit 273,nat_lit 275,nat_lit 276,nat_lit 278,nat_lit 279,nat_lit 280,nat_lit 283,nat_lit 284,nat_lit 285,nat_lit 288,nat_lit 289,nat_lit 290,nat_lit 293,nat_lit 294,nat_lit 295,nat_lit 297,nat_lit 298,nat_lit 300,nat_lit 301,nat_lit 302,nat_lit 304,nat_lit 305,nat_lit 307,nat_lit 308,nat_lit 309,nat_lit 311,nat_lit 312,nat_lit 314,nat_lit 315,nat_lit 316,nat_lit 318,nat_lit 319,nat_lit 321,nat_lit 322,nat_lit 323,nat_lit 325,nat_lit 326,nat_lit 328,nat_lit 329,nat_lit 330,nat_lit 332,nat_lit 333,nat_lit 335,nat_lit 336,nat_lit 337,nat_lit 340,nat_lit 341,nat_lit 342,nat_lit 344,nat_lit 345,nat_lit 347,nat_lit 348,nat_lit 349,nat_lit 352,nat_lit 353,nat_lit 354,nat_lit 356,nat_lit 357,nat_lit 359,nat_lit 360]
abbrev Hk:Hook:=kHook K as (fun _=>by kernel_rfl!)
theorem opens:∀ w:World,(fencedOpening treeTable p w 3550).map (fun s=>(s.heap,s.gens,s.drawn,s.toks))=some (boot_heap w.params,Array.mk [],boot_drawn,boot_toks):=boot_open (by kernel_rfl!) (by kernel_rfl!) (fun _=>by kernel_rfl!)
abbrev Xt:Shared→Bool:=fun s=>xlAt view [] s && recOk (RowW.records PySem.Challenge.rw_roofridges_k47_likeness_told.row.toRowW) s
theorem size (w:World):((boot_heap w.params).isNs mainGlobals && (Array.mk ([]:List GenState)).size == 0,(boot_heap w.params).objs.size,(boot_heap w.params).nsMap mainGlobals "__annotations__")=(true,11,(some (R 6))):=by kernel_rfl!
theorem look1 (w:World) (os:OsState):(staticsOk (importedModules p.main.body) (boot_heap w.params) (hZ w.params) && namesBound p (hZ w.params) && gensDone (sh (hZ w.params) 666 os) && laidKept (boot_heap w.params) (hZ w.params))=true:=by kernel_rfl!
theorem look2 (w:World) (os:OsState):openSeen view [] (importedModules p.main.body) Xt true (sh (hZ w.params) 666 os)=openGood view []:=by rw [PySem.W.Fast.te4187177175401517315]; kernel_rfl!
theorem look3 (w:World) (os:OsState):Hk.obs (sh (hZ w.params) 666 os)=Hk.val w:=by kernel_rfl!
theorem left:LeftO p view [] Xt Hk.obs Hk.val 3550 true:=LeftO.of_pieces opens size run (by kernel_rfl!) (fun w=>funext fun os=>by rw [look1,look2,look3])
theorem said:PySem.Challenge.rw_roofridges_k47_likeness_told.wellSaid=true:=by rw [PySem.W.Fast.te9446332074065402090]; kernel_rfl!
end
end HD
namespace Q
open PySem L2 Z
theorem aA5 {K:Fg}{G:Hp}:∀ ns:List Int,Dens K G (ns.map D.int) (ns.map V.int)
 | []=>by simp only [List.map,Dens]
 | n::ns=>by simp only [List.map,Dens]; exact ⟨_,_,rfl,by simp only [Den],aA5 ns⟩
open HB in
theorem all_mk {l:PySem.W.OpenLaw}{w:World}{h:Heap}{mg:Str→Option Value}{fa:Addr} (X:(HD.K w.params).In h) (G:h.Ns mainGlobals mg) (hfa:mg "law" = some (.ref fa)) :
  ∃ fd:FuncData,(∀ (s:Shared) (v:Value),BindsTo s fd ⟨[v],[]⟩ [("_law_script", v)])∧∀ base:Heap,(HD.K w.params).In base→base.Ns mainGlobals mg→FnOk l.prog w (HD.K w.params) mg base CX0 10 fa fd ["_law_script"] (spZ (HD.K w.params) aB1):=by
 have T:Bt mg:=mkB X G (by kernel_rfl!)
 have C_NOUGHT:=PySem.W.mg_of X G (by kernel_rfl!:PySem.W.nsIn (HD.K w.params) mainGlobals "NOUGHT" = some (some (R 15)))
 have E_NOUGHT:∀ G,Den (HD.K w.params) G (pairD (p1 0)) (.ref 15):=fun G=>aLG (by kernel_rfl!:List.lookup 15 (HD.K w.params)=some (tO [(J 0 189),(J 1 190)]))
 have C_VOID:=PySem.W.mg_of X G (by kernel_rfl!:PySem.W.nsIn (HD.K w.params) mainGlobals "VOID" = some (some (R 75)))
 have E_VOID:∀ G,Den (HD.K w.params) G (yd U.Yd.void) (.ref 75):=fun G=>nO (as:=[72,73,74]) (by kernel_rfl!:List.lookup 75 (HD.K w.params)=some (tO [(R 72),(R 73),(R 74)])) (show (3:Nat)≤100 by decide) (bC (nO (as:=[]) (by kernel_rfl!:List.lookup 72 (HD.K w.params)=some (tO [])) (by decide) bV) (bC (nO (as:=[]) (by kernel_rfl!:List.lookup 73 (HD.K w.params)=some (tO [])) (by decide) bV) (bC (nO (as:=[]) (by kernel_rfl!:List.lookup 74 (HD.K w.params)=some (tO [])) (by decide) bV) (bV))))
 have C_WAYS:=PySem.W.mg_of X G (by kernel_rfl!:PySem.W.nsIn (HD.K w.params) mainGlobals "WAYS" = some (some (.ref 175)))
 have E_WAYS:∀ G,Den (HD.K w.params) G (.tup (WYS.map rH)) (.ref 175):=fun G=>nO (as:=[167,168,169,170,171,172,173,174]) (by kernel_rfl!:List.lookup 175 (HD.K w.params)=some (tO [(R 167),(R 168),(R 169),(R 170),(R 171),(R 172),(R 173),(R 174)])) (show (8:Nat)≤100 by decide) (bC (j9 (by kernel_rfl!:List.lookup 167 (HD.K w.params)=some (tO [(.bool false),(J 0 380)]))) (bC (j9 (by kernel_rfl!:List.lookup 168 (HD.K w.params)=some (tO [(.bool false),(J 1 381)]))) (bC (j9 (by kernel_rfl!:List.lookup 169 (HD.K w.params)=some (tO [(.bool false),(J 2 382)]))) (bC (j9 (by kernel_rfl!:List.lookup 170 (HD.K w.params)=some (tO [(.bool false),(J 3 383)]))) (bC (j9 (by kernel_rfl!:List.lookup 171 (HD.K w.params)=some (tO [(.bool true),(J 0 384)]))) (bC (j9 (by kernel_rfl!:List.lookup 172 (HD.K w.params)=some (tO [(.bool true),(J 1 385)]))) (bC (j9 (by kernel_rfl!:List.lookup 173 (HD.K w.params)=some (tO [(.bool true),(J 2 386)]))) (bC (j9 (by kernel_rfl!:List.lookup 174 (HD.K w.params)=some (tO [(.bool true),(J 3 387)]))) (bV)))))))))
 have D1:=mkE X G "_law_feed" r9 ["_law_script", "_law_k"] 222 221 (S "law_roofridges_k47_likeness_told" 443) (fun _ _ _ _ _ _ us hl=>match us,hl with | [_,_],_=>rfl)
 have D2:=mkE X G "common_divisor" f8 ["one", "other"] 22 21 (S "roofridges.fractions" 187) (fun _ _ _ _ _ _ us hl=>match us,hl with | [_,_],_=>rfl)
 have D3:=mkE X G "under" qC ["one", "other"] 57 56 (S "roofridges.fractions" 187) (fun _ _ _ _ _ _ us hl=>match us,hl with | [_,_],_=>rfl)
 have D4:=mkE X G "merged" nW ["one", "other"] 64 63 (S "roofridges.fractions" 187) (fun _ _ _ _ _ _ us hl=>match us,hl with | [_,_],_=>rfl)
 have D5:=mkE X G "bands_at" kX ["lines", "where"] 105 104 (S "roofridges.yards" 262) (fun _ _ _ _ _ _ us hl=>match us,hl with | [_,_],_=>rfl)
 have D6:=mkE X G "has_cell" kS ["yard", "across", "up"] 112 111 (S "roofridges.yards" 262) (fun _ _ _ _ _ _ us hl=>match us,hl with | [_,_,_],_=>rfl)
 have D7:=mkE X G "finer_row" j7 ["yard", "acrosses", "up"] 144 143 (S "roofridges.sets" 344) (fun _ _ _ _ _ _ us hl=>match us,hl with | [_,_,_],_=>rfl)
 have D8:=mkE X G "finer_rows" jB ["yard", "xs", "ys"] 149 148 (S "roofridges.sets" 344) (fun _ _ _ _ _ _ us hl=>match us,hl with | [_,_,_],_=>rfl)
 have D9:=mkE X G "chosen_row" jD ["one", "other", "pairs"] 154 153 (S "roofridges.sets" 344) (fun _ _ _ _ _ _ us hl=>match us,hl with | [_,_,_],_=>rfl)
 have D10:=mkE X G "column" oK ["rows", "place"] 80 79 (S "roofridges.yards" 262) (fun _ _ _ _ _ _ us hl=>match us,hl with | [_,_],_=>rfl)
 have D11:=mkE X G "columns" l7 ["rows"] 85 84 (S "roofridges.yards" 262) (fun _ _ _ _ _ _ us hl=>match us,hl with | [_],_=>rfl)
 have D12:=mkE X G "changes" mI ["bands"] 90 89 (S "roofridges.yards" 262) (fun _ _ _ _ _ _ us hl=>match us,hl with | [_],_=>rfl)
 have D13:=mkE X G "picked" oU ["row", "places"] 95 94 (S "roofridges.yards" 262) (fun _ _ _ _ _ _ us hl=>match us,hl with | [_,_],_=>rfl)
 have D14:=mkE X G "tidied" n9 ["xs", "ys", "rows"] 100 99 (S "roofridges.yards" 262) (fun _ _ _ _ _ _ us hl=>match us,hl with | [_,_,_],_=>rfl)
 have D15:=mkE X G "chosen" oH ["one", "other", "pairs"] 159 158 (S "roofridges.sets" 344) (fun _ _ _ _ _ _ us hl=>match us,hl with | [_,_,_],_=>rfl)
 have D16:=mkE X G "less" tK ["one", "other"] 166 165 (S "roofridges.sets" 344) (fun _ _ _ _ _ _ us hl=>match us,hl with | [_,_],_=>rfl)
 have D17:=mkE X G "lowest" n5 ["top", "bottom"] 29 28 (S "roofridges.fractions" 187) (fun _ _ _ _ _ _ us hl=>match us,hl with | [_,_],_=>rfl)
 have D18:=mkE X G "plus" sZ ["one", "other"] 36 35 (S "roofridges.fractions" 187) (fun _ _ _ _ _ _ us hl=>match us,hl with | [_,_],_=>rfl)
 have D19:=mkE X G "minus" qG ["one", "other"] 43 42 (S "roofridges.fractions" 187) (fun _ _ _ _ _ _ us hl=>match us,hl with | [_,_],_=>rfl)
 have D20:=mkE X G "times" qJ ["one", "other"] 50 49 (S "roofridges.fractions" 187) (fun _ _ _ _ _ _ us hl=>match us,hl with | [_,_],_=>rfl)
 have D21:=mkE X G "moved" pS ["yard", "x", "y"] 129 128 (S "roofridges.moves" 311) (fun _ _ _ _ _ _ us hl=>match us,hl with | [_,_,_],_=>rfl)
 have D22:=mkE X G "opposite" kW ["lines"] 117 116 (S "roofridges.moves" 311) (fun _ _ _ _ _ _ us hl=>match us,hl with | [_],_=>rfl)
 have D23:=mkE X G "backward" kU ["row"] 124 123 (S "roofridges.moves" 311) (fun _ _ _ _ _ _ us hl=>match us,hl with | [_],_=>rfl)
 have D24:=mkE X G "turned" nS ["yard"] 134 133 (S "roofridges.moves" 311) (fun _ _ _ _ _ _ us hl=>match us,hl with | [_],_=>rfl)
 have D25:=mkE X G "mirrored" kZ ["yard"] 139 138 (S "roofridges.moves" 311) (fun _ _ _ _ _ _ us hl=>match us,hl with | [_],_=>rfl)
 have D26:=mkE X G "_law_next" tF ["_law_feed_here", "_law_many"] 229 228 (S "law_roofridges_k47_likeness_told" 443) (fun _ _ _ _ _ _ us hl=>match us,hl with | [_,_],_=>rfl)
 have D27:=mkE X G "_law_shared" oW ["_law_one", "_law_other"] 236 235 (S "law_roofridges_k47_likeness_told" 443) (fun _ _ _ _ _ _ us hl=>match us,hl with | [_,_],_=>rfl)
 have D28:=mkE X G "_law_lines" qE ["_law_feed_here", "_law_many"] 243 242 (S "law_roofridges_k47_likeness_told" 443) (fun _ _ _ _ _ _ us hl=>match us,hl with | [_,_],_=>rfl)
 have D29:=mkE X G "_law_across" oN ["_law_rows"] 260 259 (S "law_roofridges_k47_likeness_told" 443) (fun _ _ _ _ _ _ us hl=>match us,hl with | [_],_=>rfl)
 have D30:=mkE X G "_law_is_in" p6 ["_law_feed_here", "_law_way", "_law_k", "_law_j", "_law_wide", "_law_high"] 250 249 (S "law_roofridges_k47_likeness_told" 443) (fun _ _ _ _ _ _ us hl=>match us,hl with | [_,_,_,_,_,_],_=>rfl)
 have D31:=mkE X G "_law_tidied" mV ["_law_lines_here", "_law_some"] 255 254 (S "law_roofridges_k47_likeness_told" 443) (fun _ _ _ _ _ _ us hl=>match us,hl with | [_,_],_=>rfl)
 have D32:=mkE X G "_law_tidy" sN ["_law_xs", "_law_ys", "_law_rows"] 267 266 (S "law_roofridges_k47_likeness_told" 443) (fun _ _ _ _ _ _ us hl=>match us,hl with | [_,_,_],_=>rfl)
 have D33:=mkE X G "mean" tD ["one", "other"] 71 70 (S "roofridges.fractions" 187) (fun _ _ _ _ _ _ us hl=>match us,hl with | [_,_],_=>rfl)
 have D34:=mkE X G "brought" l6 ["yard", "way"] 182 181 (S "roofridges.likeness" 378) (fun _ _ _ _ _ _ us hl=>match us,hl with | [_,_],_=>rfl)
 have D35:=mkE X G "step_to" mF ["one", "other"] 189 188 (S "roofridges.likeness" 378) (fun _ _ _ _ _ _ us hl=>match us,hl with | [_,_],_=>rfl)
 have D36:=mkE X G "laid_on" mE ["one", "other", "way"] 196 195 (S "roofridges.likeness" 378) (fun _ _ _ _ _ _ us hl=>match us,hl with | [_,_,_],_=>rfl)
 have D37:=mkE X G "point_within" hU ["yard"] 203 202 (S "roofridges.likeness" 378) (fun _ _ _ _ _ _ us hl=>match us,hl with | [_],_=>rfl)
 have D38:=mkE X G "parting" mH ["one", "other"] 210 209 (S "roofridges.likeness" 378) (fun _ _ _ _ _ _ us hl=>match us,hl with | [_,_],_=>rfl)
 have D39:=mkE X G "likeness" kR ["one", "other"] 215 214 (S "roofridges.likeness" 378) (fun _ _ _ _ _ _ us hl=>match us,hl with | [_,_],_=>rfl)
 have D40:=mkE X G "_law_yard" pV ["_law_feed_here", "_law_most"] 272 271 (S "law_roofridges_k47_likeness_told" 443) (fun _ _ _ _ _ _ us hl=>match us,hl with | [_,_],_=>rfl)
 have D41:=mkE X G "_law_plus" qA ["_law_one", "_law_other"] 279 278 (S "law_roofridges_k47_likeness_told" 443) (fun _ _ _ _ _ _ us hl=>match us,hl with | [_,_],_=>rfl)
 have D42:=mkE X G "_law_below" qB ["_law_lines_here"] 284 283 (S "law_roofridges_k47_likeness_told" 443) (fun _ _ _ _ _ _ us hl=>match us,hl with | [_],_=>rfl)
 have D43:=mkE X G "_law_moved" n6 ["_law_yard_here", "_law_x", "_law_y"] 289 288 (S "law_roofridges_k47_likeness_told" 443) (fun _ _ _ _ _ _ us hl=>match us,hl with | [_,_,_],_=>rfl)
 have D44:=mkE X G "_law_brought" k7 ["_law_yard_here", "_law_turns", "_law_is_mirrored"] 294 293 (S "law_roofridges_k47_likeness_told" 443) (fun _ _ _ _ _ _ us hl=>match us,hl with | [_,_,_],_=>rfl)
 have D45:=mkE X G "_law_laid" sQ ["_law_one", "_law_other", "_law_turns", "_law_is_mirrored"] 301 300 (S "law_roofridges_k47_likeness_told" 443) (fun _ _ _ _ _ _ us hl=>match us,hl with | [_,_,_,_],_=>rfl)
 have D46:=mkE X G "_law_touched" l9 ["_law_lines_here", "_law_at"] 308 307 (S "law_roofridges_k47_likeness_told" 443) (fun _ _ _ _ _ _ us hl=>match us,hl with | [_,_],_=>rfl)
 have D47:=mkE X G "_law_signs" p8 ["_law_yard_here", "_law_x", "_law_y"] 315 314 (S "law_roofridges_k47_likeness_told" 443) (fun _ _ _ _ _ _ us hl=>match us,hl with | [_,_,_],_=>rfl)
 have D48:=mkE X G "_law_is_number" j6 ["_law_thing"] 322 321 (S "law_roofridges_k47_likeness_told" 443) (fun _ _ _ _ _ _ us hl=>match us,hl with | [_],_=>rfl)
 have D49:=mkE X G "_law_parts" qP ["_law_one", "_law_other", "_law_point"] 329 328 (S "law_roofridges_k47_likeness_told" 443) (fun _ _ _ _ _ _ us hl=>match us,hl with | [_,_,_],_=>rfl)
 have D50:=mkE X G "_law_flipped" mC ["_law_feed_here", "_law_yard_here"] 336 335 (S "law_roofridges_k47_likeness_told" 443) (fun _ _ _ _ _ _ us hl=>match us,hl with | [_,_],_=>rfl)
 have D51:=mkE X G "_law_even" tG ["_law_feed_here", "_law_yard_here"] 341 340 (S "law_roofridges_k47_likeness_told" 443) (fun _ _ _ _ _ _ us hl=>match us,hl with | [_,_],_=>rfl)
 have D52:=mkE X G "_law_pair" r8 ["_law_feed_here"] 348 347 (S "law_roofridges_k47_likeness_told" 443) (fun _ _ _ _ _ _ us hl=>match us,hl with | [_],_=>rfl)
 have D53:=mkE X G "_law_right" p5 ["_law_one", "_law_other", "_law_told"] 353 352 (S "law_roofridges_k47_likeness_told" 443) (fun _ _ _ _ _ _ us hl=>match us,hl with | [_,_,_],_=>rfl)
 have D54:=mkE X G "law" qH ["_law_script"] 360 359 (S "law_roofridges_k47_likeness_told" 443) (fun _ _ _ _ _ _ us hl=>match us,hl with | [_],_=>rfl)
 cases hfa.symm.trans D54.m
 refine ⟨PySem.W.fnOf "law" "law" (fN qH) (eN qH) (aQ qH) .none .none .none (S "law_roofridges_k47_likeness_told" 443) none (.ref 359) .none,fun s v => .of_eq rfl,fun base _ _ => ?_⟩
 have G1:=aJA (P:=l.prog) (w:=w) (base:=base) D1 T
 have G2:=qR (P:=l.prog) (w:=w) (base:=base) D2 T
 have G3:=aHI (P:=l.prog) (w:=w) (base:=base) D3
 have G4:=aC4 D4 G3 T
 have G5:=zL D5 G3 T
 have G6:=yZ (P:=l.prog) (w:=w) (base:=base) D6 T
 have G7:=yO D7 G6 T
 have G8:=vW D8 G5 G7 T
 have G9:=vU (P:=l.prog) (w:=w) (base:=base) D9 T
 have G10:=aC1 (P:=l.prog) (w:=w) (base:=base) D10
 have G11:=aBJ D11 G10 T
 have G12:=aCE (P:=l.prog) (w:=w) (base:=base) D12 T
 have G13:=aDS (P:=l.prog) (w:=w) (base:=base) D13
 have G14:=aDY D14 G12 G11 G13 T
 have G15:=aEO D15 G4 G8 G9 G14 T
 have G16:=aH5 D16 G15
 have G17:=aDG D17 G2
 have G18:=aID D18 G17
 have G19:=aG9 D19 G17
 have G20:=aGF D20 G17
 have G21:=aFT D21 G18 T
 have G22:=zH D22 G19 T C_NOUGHT E_NOUGHT
 have G23:=zB (P:=l.prog) (w:=w) (base:=base) D23 T
 have G24:=aCV D24 G23 G11 G22 T
 have G25:=zF D25 G23 G22 T
 have G26:=aJO (P:=l.prog) (w:=w) (base:=base) D26
 have G27:=aEB (P:=l.prog) (w:=w) (base:=base) D27 T
 have G28:=aGX D28 G26 G27 T
 have G29:=aFG (P:=l.prog) (w:=w) (base:=base) D29 T
 have G30:=aFM D30 G26 T
 have G31:=aBS (P:=l.prog) (w:=w) (base:=base) D31 T
 have G32:=aKQ D32 G31 G29 T
 have G33:=aKA D33 G20 G18
 have G34:=aCM D34 G25 G24 T
 have G35:=aBE D35 G19 C_VOID E_VOID C_NOUGHT E_NOUGHT
 have G36:=aB5 D36 G34 G35 G21
 have G37:=tV D37 G33
 have G38:=aBL D38 G16 G37 C_VOID E_VOID
 have G39:=zA D39 G36 G35 G34 G38 C_WAYS E_WAYS
 have G40:=aHK D40 G28 G26 G30 G32 T
 have G41:=aHB D41 G27
 have G42:=aF8 (P:=l.prog) (w:=w) (base:=base) D42 T
 have G43:=aEP D43 G41 T
 have G44:=zG D44 G42 G29 T
 have G45:=aIH D45 G44 G41 G43 T
 have G46:=aCK (P:=l.prog) (w:=w) (base:=base) D46 T
 have G47:=aFO D47 G46
 have G48:=xA D48 G27 T
 have G49:=aFI D49 G48 G47 T
 have G50:=aCD D50 G26 G41 G32 T
 have G51:=aJB D51 G26 G32 T
 have G52:=aKH D52 G26 G41 G40 G51 G44 G43 G50 T
 have G53:=aFX D53 G45 G49 T
 have G54:=aMF D54 G1 G52 G39 G53 T
 exact G54
theorem walk {l:PySem.W.OpenLaw}{q:Program}{loose:List Str}{XP:(Str→Option Value)→Heap→Prop}{YP:World→Heap→Prop}{d:DefRec}{K:Params→PySem.W.Frag} (hn:l.most=some 63) (hdf:d.params.defaults=[])
  (hY:∀ (w:World) (h:Heap),YP w h→(K w.params).In h)
  (F:∀ (w:World) (mg:Str→Option Value) (fa:Addr) (h:Heap),(K w.params).In h→h.Ns mainGlobals mg→mg d.name=some (.ref fa) →
   ∃ fd:FuncData,(∀ (s:Shared) (u:Value),BindsTo s fd ⟨[u],[]⟩ [("_law_script", u)])∧∀ base:Heap,(K w.params).In base→base.Ns mainGlobals mg→FnOk l.prog w (K w.params) mg base CX0 10 fa fd ["_law_script"] (spZ (K w.params) aB1)) :
  PySem.W.WalkO q loose XP YP l.row.toRowW d [] (fun f vs=>PySem.call f vs) :=
 L2.aK7 (n:=63) (k:=10) (x := "_law_script") (CX:=fun _=>CX0) (sp:=fun w=>spZ (K w.params) aB1) hn (by decide) hdf ⟨rfl,by decide,by decide,rfl⟩ hY F
  (fun w H a ns hl _ hS=>⟨H,fun _=>none,[.fl (ns.map .int)],fun d _=>d = .bl true,⟨Same.refl H,nofun⟩,⟨_,_,rfl,aMD hS (aA5 ns),by simp only [Dens]⟩,⟨ns,rfl,hl,fun _=>rfl⟩,fun v G' H' d M' _ hd e=>by subst e; simpa only [Den] using hd⟩) fun _ _ _ _ _ z=>z
end Q
open PySem PySem.W PyProof.Rows
set_option maxRecDepth 100000 in
set_option maxHeartbeats 0 in
theorem PySem.Challenge.cw_roofridges_k47_likeness_told_holds : PySem.Challenge.rw_roofridges_k47_likeness_told.Holds := by
 w_on
 refine holds_law HD.said fun said => ?_
 refine holds_open (q:=HD.view) (loose:=[]) (Xt:=HD.Xt) (XP:=XL HD.view []) (Yf:=HD.Hk.obs) (Ya:=HD.Hk.val) (YP:=HD.Hk.says) HD.left (Hook.of HD.Hk) (Hook.keeps HD.Hk) (fun s e=>xl_of s (Bool.and_eq_true_iff.mp e).1) XL.keeps (by rfl) (by rfl) (by rfl) (fun s e=>recFacts_of (Bool.and_eq_true_iff.mp e).2) (by rfl) (by first | assumption | decide +kernel) (by decide +kernel) ⟨rfl,rfl,rfl,rfl,rfl,by decide +kernel⟩ ?hw ?hc
 case hw=>w_witness2
 exact Q.walk (l:=PySem.Challenge.rw_roofridges_k47_likeness_told) (K:=HD.K) rfl rfl (fun w h Y=>PySem.W.kIn_of Y) fun w mg fa h KX G hmg=>Q.all_mk KX G hmg
